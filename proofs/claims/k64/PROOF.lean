import PyProof.Rows.All
import Wide.All
import OpenK.AllK
import Wide.FinOn
import Lean
import PyProof.EqAt
import PyProof.EqKinds
import PyProof.TupleCall
import PySem.Challenge.RW_tentloops_k64_hall_strangers
set_option Elab.async false
set_option linter.all false
set_option autoImplicit true
set_option relaxedAutoImplicit true
set_option maxRecDepth 100000
open List hiding contains
open Nat
universe u v
set_option hygiene false
set_option compiler.extract_closed false
local macro_rules|`((a:))=>`(λ_ _ _ _ H vs Q E hr h=>?_)|`((b:))=>`(⟨rfl,by decide +kernel,by decide +kernel,Z5 (by rfl),⟨⟨rfl,rfl,Or.inl rfl⟩,trivial⟩⟩)|`((c:))=>`(model X.prog X.w)|`((d:))=>`(by decide)|`((e:))=>`(Ym X (blkN ts fv) scope C s₀ H₀ ex)|`((f:))=>`(Or.inl rfl)|`((g:))=>`(putF "names_at" (.ref N) (putF "cloths" (.ref D) []))|`((h:))=>`(.ListComp ly (⟨t0,i0,f0,0⟩ :: jk) scope pos)|`((i:))=>`(tupleKeyHash knd kx)|`((j:))=>`((envOfC qual scope s.heap.objs.size f cd :: outer))|`((k:))=>`(⟨rfl,by decide +kernel,by decide +kernel,Z5 (by rfl),trivial⟩)|`((l:))=>`(⟨λi m σ H=>m=xs.length - i/\i<=xs.length/\Pv i σ H,⟨xs.length,by simp,Az _,h0⟩,?_⟩)|`((m:))=>`(Addr × Obj)|`((n:))=>`(forIn f0 true λc r=>if r=true then do let ok <- isTrue c env (eval c env); pure (ForInStep.yield ok) else pure (ForInStep.yield r))|`((o:))=>`(putF "cloths" (.ref D) [])|`((p:))=>`(model prog w)|`((q:))=>`(λ_ _ _ z=>nomatch z)|`((r:))=>`(Builtin.Range.rangeFitsLong a && Builtin.Range.rangeFitsLong b && Builtin.Range.rangeFitsLong 1 && Builtin.Range.rangeFitsLong (-1) && Builtin.Range.rangeFitsLong (a - 1) && Builtin.Range.rangeFitsLong (Builtin.Range.rangeSize a b 1))|`((s:))=>`(Za (pv 1) Zb)|`((t:))=>`(.DictComp kx vx (⟨t0,i0,f0,0⟩ :: jk) scope pos)|`((u:))=>`((∀ σ' H',N σ' H'->∃ m',m' < m/\W (i + 1) m' σ' H'))|`((v:))=>`(Zt Zu (by rfl) T.au PySem.boot_len (Za (pv 0) Zb))|`((w:))=>`(Str.ofString "")|`((x:))=>`(match ns[n]? with | some x=>if x∈keys ns n then keys ns n else keys ns n ++ [x] | none=>keys ns n)|`((y:))=>`(k == NameKind.free && env.scope.kind == .function && env.kindOf n == some .cell)|`((z:))=>`(putF "scene" (.ref sc) (putF "began" (.ref x) []))|`((A:))=>`(λ_ _=>rfl)|`((B:))=>`(Za (pv 2) Zb)|`((C:))=>`(λz=>nomatch z)|`((D:))=>`(by with_unfolding_all rfl)
abbrev Lw:=List (Option Nat)
theorem Y{α:Sort v}{a:α}:a=a:=rfl
def An(n:Nat):n<=n:=Nat.le_refl n
def Ao{h:PySem.Heap}{a:PySem.Addr}{o:PySem.Obj}:h.get? a=some o->a<h.objs.size:=PySem.Heap.lt_size
def Ap(h:PySem.Heap){o:PySem.Obj}:o.isFreed=false->(h.push o).get? h.objs.size=some o:=PySem.Heap.get?_push_size h
def Aq{α:Type u}{a:List α}:a.toArray.size=a.length:=size_toArray
def Ar{α:Type u}{b:α}{l:List α}{a:α}:a∈b::l->a=b\/a∈l:=mem_cons.mp
def As{a b:Nat}:a<b->a≠b:=ne_of_lt
def At{α:Type u}{a:α}:[a].length=1:=length_singleton
def Au{α:Type u}{l:List α}{i:Nat}{a:α}:l[i]?=some a->a∈l:=mem_of_getElem?
def Av{α:Type u}{l k:List α}{i:Nat}:i<l.length->(l++k)[i]?=l[i]?:=getElem?_append_left
def Aw{α:Type u}{l:List α}{i:Nat}:l.take (i+1)=l.take i++l[i]?.toList:=take_add_one
def Ax{α:Type u}{a b:α}:some a=some b->a=b:=Option.some.inj
def Ay{α:Type u}{l:List α}{i:Nat}:l.length<=i->l[i]?=none:=getElem?_eq_none
def Az(n:Nat):0<=n:=zero_le n
def Aa{α:Type u}{i:Nat}{a:α}{l:List α}:l[i]?=some a->∃ h:i<l.length,l[i]=a:=List.getElem?_eq_some_iff.mp
def Ab{α:Type u}{β:Type v}{as:List α}(f:α->β):(as.map f).length=as.length:=length_map f
def Ac{α:Type u}{l:List α}{i:Nat}(h:i<l.length):l[i]?=some l[i]:=getElem?_eq_getElem h
def Ad{α:Type u}{l:List α}{i:Nat}{a:α}:l.getD i a=l[i]?.getD a:=getD_eq_getElem?_getD
def Ae{α:Type u}{as bs:List α}:(as++bs).length=as.length+bs.length:=length_append
def Af{α:Type u}{a b:α}:a∈[b]->a=b:=mem_singleton.mp
def Ag{n m k:Nat}:n<m->m<=k->n<k:=Nat.lt_of_lt_of_le
def Ah{α:Type u}{β:Type v}{f:α->β}{l:List α}{i:Nat}:(l.map f)[i]?=(l[i]?).map f:=getElem?_map
def Ai{α:Type u}{i:Nat}{l:List α}:(l.take i).length=min i l.length:=length_take
def Aj{α:Type u}{β:Type v}{f:α->β}{l₁ l₂:List α}:(l₁++l₂).map f=l₁.map f++l₂.map f:=map_append
def Ak{h:PySem.Heap}{a:PySem.Addr}{o':PySem.Obj}(o:PySem.Obj)(e:h.get? a=some o'):(h.push o).get? a=some o':=PySem.Heap.get?_push_of_some o e
def Al{α β:Type}{M:PySem.Model}{A:PySem.Around}{E:PySem.Value->PySem.Shared->Prop}{s:PySem.Shared}{m:PySem.Sem α}{f:α->PySem.Sem β}{Q:β->PySem.Shared->Prop}(h:PySem.wpAny M A m (λa s'=>PySem.wpAny M A (f a) Q E s') E s):PySem.wpAny M A (m>>=f) Q E s:=PySem.wpAny_bind h
set_option maxHeartbeats 4000000
namespace L2
open PySem PySem.Spec PyProof.Rows
abbrev Key:=Sum Int Str
noncomputable def Oc:Key->Value->Bool
 | .inl k,v=>Value.isInt k v
 | .inr x,v=>Value.isStrOf x v
noncomputable def keyH (w:World):Key->Int
 | .inl k=>hashInt k
 | .inr x=>hashStr w x
theorem Xc:∀ {k:Key} {v:Value},Oc k v=true->(∃ i t,k=Sum.inl i/\v=Value.int i t)\/(∃ x t,k=Sum.inr x/\v=Value.str x t)
 | .inl i,v,h=>by
  obtain ⟨t,e⟩:=Value.isInt_shape (k:=i) (v:=v) h;exact .inl ⟨i,t,Y,e⟩
 | .inr x,v,h=>by
  obtain ⟨t,e⟩:=Value.isStrOf_shape (x:=x) (v:=v) h;exact .inr ⟨x,t,Y,e⟩
def Zk7 (i:Int) (t:Tok):Oc (.inl i) (.int i t)=true:=by simp [Oc,Value.isInt]
def Qj (x:Str) (t:Tok):Oc (.inr x) (.str x t)=true:=by simp [Oc,Value.isStrOf]
def Zry (a b:Int):decide ((Sum.inl a:Key)=Sum.inl b)=(a == b):=by
 by_cases e:a=b
 ·subst e; simp
 ·have h:¬ (Sum.inl a:Key)=Sum.inl b:=λq=>e (Sum.inl.inj q)
  rw [decide_eq_false h];exact (beq_eq_false_iff_ne.mpr e).symm
def Zrv (a b:Str):decide ((Sum.inr a:Key)=Sum.inr b)=decide (a=b):=by
 by_cases e:a=b
 ·subst e; simp
 ·have h:¬ (Sum.inr a:Key)=Sum.inr b:=λq=>e (Sum.inr.inj q)
  rw [decide_eq_false h,decide_eq_false e]
def Zrx (a:Int) (b:Str):decide ((Sum.inl a:Key)=Sum.inr b)=false:=decide_eq_false (λq=>nomatch q)
def Zrw (a:Str) (b:Int):decide ((Sum.inr a:Key)=Sum.inl b)=false:=decide_eq_false (λq=>nomatch q)
noncomputable def Ye (prog:Program) (w:World):PySem.KeyKind prog w Key where
 is:=Oc
 hash:=keyH w
 inj:=λv a b ha hb=>by
  rcases Xc ha with ⟨i,t,rfl,rfl⟩ | ⟨x,t,rfl,rfl⟩
  ·rcases Xc hb with ⟨j,u,rfl,e⟩ | ⟨y,u,rfl,e⟩
   ·injection e with e1 _; rw [e1]
   ·exact nomatch e
  ·rcases Xc hb with ⟨j,u,rfl,e⟩ | ⟨y,u,rfl,e⟩
   ·exact nomatch e
   ·injection e with e1 _; rw [e1]
 byValue:=λk v h=>by
  rcases Xc h with ⟨i,t,rfl,rfl⟩ | ⟨x,t,rfl,rfl⟩ <;> rfl
 pyHash:=λhv h=>by
  rcases Xc hv with ⟨i,t,rfl,rfl⟩ | ⟨x,t,rfl,rfl⟩
  ·exact wpAny_pyHash_int h
  ·exact wpAny_pyHash_str h
 eqBool:=λhu hv h=>by
  rcases Xc hu with ⟨i,t,rfl,rfl⟩ | ⟨x,t,rfl,rfl⟩
  ·rcases Xc hv with ⟨j,u,rfl,rfl⟩ | ⟨y,u,rfl,rfl⟩
   ·rw [Zry] at h; exact wpAny_eqBool_int h
   ·rw [Zrx] at h; exact SeqAt.EqAt.int_str i t y u _ _ _ _ h
  ·rcases Xc hv with ⟨j,u,rfl,rfl⟩ | ⟨y,u,rfl,rfl⟩
   ·rw [Zrw] at h; exact SeqAt.EqAt.str_int x t j u _ _ _ _ h
   ·rw [Zrv] at h; exact wpAny_eqBool_str h
 «strs»:=λk x t v h=>by
  rcases Xc h with ⟨i,u,rfl,e⟩ | ⟨y,u,rfl,e⟩
  ·exact nomatch e
  ·injection e with e1 _
   subst e1;cases v <;> rfl
def Zg3 (prog:Program) (w:World) (i:Int) (t:Tok):(Ye prog w).is (.inl i) (.int i t)=true:=Zk7 i t
def Zg2 (prog:Program) (w:World) (x:Str) (t:Tok):(Ye prog w).is (.inr x) (.str x t)=true:=Qj x t
inductive V where
 | non | bl (b:Bool) | int (i:Int) | str (x:Str) | byt (b:Array UInt8) | flt (b:UInt64) | ref (a:Addr) | ty (n:String)
 deriving DecidableEq
set_option genInjectivity false
set_option genSizeOf false
def RelV:V->Value->Prop
 | .non,u=>u=Value.none
 | .bl b,u=>u=Value.bool b
 | .int i,u=>∃ t,u=Value.int i t
 | .str x,u=>∃ t,u=Value.str x t
 | .byt b,u=>∃ t,u=Value.bytes b t
 | .flt b,u=>∃ t,u=Value.float b t
 | .ref a,u=>u=Value.ref a
 | .ty n,u=>u=Value.type n
abbrev Vals:List V->List Value->Prop:=Paired RelV
def Vals.length {xs:List V} {us:List Value} (r:Vals xs us):xs.length=us.length:=Paired.length r
theorem Vals.get:∀ {xs:List V} {us:List Value} {i:Nat} {x:V},Vals xs us->xs[i]?=some x->∃ u,us[i]?=some u/\RelV x u
 | _,_,_,_,.nil,e=>by simp at e
 | _,_,0,_,.cons r _,e=>by simp at e; subst e; exact ⟨_,Y,r⟩
 | _,_,i + 1,x,.cons _ t,e=>by
  obtain ⟨u,h1,h2⟩:=Vals.get (i:=i) (x:=x) t (by simpa using e);exact ⟨u,by simpa using h1,h2⟩
theorem Vals.set (r:RelV x u):∀ {xs:List V} {us:List Value} (i:Nat),Vals xs us->Vals (xs.set i x) (us.set i u)
 | _,_,_,.nil=>.nil
 | _,_,0,.cons _ t=>.cons r t
 | _,_,i + 1,.cons q t=>.cons q (Vals.set r i t)
theorem Vals.append:∀ {xs ys:List V} {us ws:List Value},Vals xs us->Vals ys ws->Vals (xs ++ ys) (us ++ ws)
 | _,_,_,_,.nil,s=>s
 | _,_,_,_,.cons r t,s=>.cons r (Vals.append t s)
theorem Vals.take:∀ {xs:List V} {us:List Value} (n:Nat),Vals xs us->Vals (xs.take n) (us.take n)
 | _,_,0,_=>.nil
 | _,_,_ + 1,.nil=>.nil
 | _,_,n + 1,.cons r t=>.cons r (Vals.take n t)
theorem Vals.drop:∀ {xs:List V} {us:List Value} (n:Nat),Vals xs us->Vals (xs.drop n) (us.drop n)
 | _,_,0,r=>r
 | _,_,_ + 1,.nil=>.nil
 | _,_,n + 1,.cons _ t=>Vals.drop n t
def RelO:Option V->Option Value->Prop
 | some v,some u=>RelV v u
 | none,none=>True
 | _,_=>False
def KV {κ:Type}:List (κ × V)->List (κ × Value)->Prop:=Paired λ(p:κ × V) (q:κ × Value)=>p.1=q.1/\RelV p.2 q.2
noncomputable def kV:Key->V
 | .inl i=>.int i
 | .inr x=>.str x
inductive HO where
 /-- a list -/
 | lst (xs:List V)
 /-- a tuple (never changes) -/
 | tup (xs:List V)
 /-- a dict whose keys are ints and texts; one whose keys are tuples of ints and texts (the empty one is both) -/
 | dK (kvs:List (Key × V)) | dT (kvs:List (List Key × V))
 /-- a set of ints: its members,its size -/
 | set (S:Int->Bool) (n:Nat)
 /-- an instance of the class at C,its dict at dx,its attributes -/
 | ins (C dx:Addr) (fs:List (Str × V))
 /-- the dict of the instance at x -/
 | own (x:Addr)
 /-- the dict of an exception -/
 | xd (fs:List (Str × V))
 /-- a bound method,f of x -/
 | met (f x:Addr)
 /-- a range object lo,lo + 1,.. below hi -/
 | rng (lo hi:Int)
 /-- a thing that is known to the object (the script; a dict while a loop walks it): read,never written while it is so -/
 | frz (o:Obj) (u:HO)
 /-- a code object's table -/
 | tbl (ps:Array Value)
 /-- any other thing,by what is true of its one object (a def of one's own: SetO a S n:=HO.ext λh=>..) -/
 | ext (φ:Heap->Prop)
abbrev Hp:=Addr->Option HO
noncomputable def upd (H:Hp) (a:Addr) (o:HO):Hp:=λb=>if b=a then some o else H b
def Zc:upd H a o a=some o:=by unfold upd; rw [if_pos rfl]
def Ze (h:b≠a):upd H a o b=H b:=by unfold upd; rw [if_neg h]
def Zsz {H:Hp} (h:H a=some o) (h':H b=some u) (d:o≠u):a≠b:=by
 intro e; subst e; rw [h] at h'; exact d (Ax h')
def Zl {H:Hp} (h:H a=some o) (h':H b=none):a≠b:=by
 intro e; subst e; rw [h] at h'; cases h'
section
variable (P:Program) (w:World)
def Yc (H:Hp) (h:Heap) (a:Addr):HO->Prop
 | .lst xs=>xs.length<=sizeLine/\∃ (its:List Value) (n:Nat),Vals xs its/\h.get? a=some { cls:=.type "list",data:=.seq its.toArray n }
 | .tup xs=>xs.length<=sizeLine/\∃ its:List Value,Vals xs its/\IsTup h a its.toArray
 | .dK kvs=>kvs.length<=sizeLine/\(a == sysModules)=false/\∃ vs,KV kvs vs/\h.DictOf (Ye P w) a vs
 | .dT kvs=>kvs.length<=sizeLine/\(a == sysModules)=false/\∃ xs:List (List Key × Addr × Value),
   Paired (λ(p:List Key × V) (q:List Key × Addr × Value)=>p.1=q.1/\H q.2.1=some (.tup (p.1.map kV))/\RelV p.2 q.2.2) kvs xs /\
   ∃ o es ep,h.get? a=some o/\o.ExactDict/\o.data=.dict es ep/\es.toList=xs.map (entryOfKey (tupleKind (Ye P w)))/\(xs.map (·.1)).Nodup
 | .set S n=>h.SetOf (intKind P w) a S n
 | .ins C dx fs=>H dx=some (.own a)/\fs.length<=1000/\dx≠a/\h.get? a=some (PySem.W.instObj C dx) /\
   ∃ mA,h.Ns1 dx mA/\(∀ f,RelO (fs.lookup f) (mA f))/\PySem.Within mA (fs.map (·.1))
 | .own _=>∃ o,h.get? a=some o
 | .xd fs=>∃ mA,h.Ns1 a mA/\∀ f,RelO (fs.lookup f) (mA f)
 | .rng lo hi=>∃ t u v,h.get? a=some { cls:=.type "range",data:=.fields #[.int lo t,.int hi u,.int 1 v] }
 | .frz o u=>h.get? a=some o/\Yc H h a u
 | .tbl ps=>h.get? a=some { cls:=.none,data:=.fields ps }
 | .met f x=>h.get? a=some (PySem.W.methodObj (.ref f) (.ref x))
 | .ext φ=>φ h/\(∃ o,h.get? a=some o)/\∀ h1 h2:Heap,φ h1->(∀ o,h1.get? a=some o->h2.get? a=some o)->φ h2
def HOk (H:Hp) (h:Heap):Prop:=∀ a o,H a=some o->Yc P w H h a o
end
section
variable {P:Program} {w:World} {H H':Hp} {h h':Heap} {a:Addr} {o:HO}
def Yc.lt (x:Yc P w H h a o):a < h.objs.size:=by
 cases o with
 | lst xs=>obtain ⟨_,_,_,_,e⟩:=x; exact Ao e
 | tup xs=>obtain ⟨_,_,_,p⟩:=x; exact p.lt
 | dK kvs=>obtain ⟨_,_,_,_,o,_,_,e,_⟩:=x; exact Ao e
 | dT kvs=>obtain ⟨_,_,_,_,o,_,_,e,_⟩:=x; exact Ao e
 | set S n=>obtain ⟨o,_,_,_,e,_⟩:=x; exact Ao e
 | ins C dx fs=>obtain ⟨_,_,_,e,_⟩:=x; exact Ao e
 | own y=>obtain ⟨_,e⟩:=x; exact Ao e
 | xd fs=>obtain ⟨_,⟨_,_,_,e,_⟩,_⟩:=x; exact Ao e
 | rng lo hi=>obtain ⟨_,_,_,e⟩:=x; exact Ao e
 | frz ob u=>obtain ⟨e,_⟩:=x; exact Ao e
 | tbl ps=>exact Ao (show h.get? a=some _ from x)
 | met f y=>exact Ao (show h.get? a=some _ from x)
 | ext φ=>obtain ⟨_,⟨_,e⟩,_⟩:=x; exact Ao e
theorem Paired.mapP {α β:Type} {F G:α->β->Prop}:∀ {l₁:List α} {l₂:List β},Paired F l₁ l₂->(∀ a b,F a b->G a b)->Paired G l₁ l₂
 | _,_,.nil,_=>.nil
 | _,_,.cons r t,f=>.cons (f _ _ r) (Paired.mapP t f)
def Yc.stay (x:Yc P w H h a o) (k:∀ b u,(b=a\/H b=some (.own a))->h.get? b=some u->h'.get? b=some u)
  (ho:∀ b,H b=some (.own a)->H' b=some (.own a)) (ht:∀ b xs,H b=some (.tup xs)->H' b=some (.tup xs)):Yc P w H' h' a o:=by
 induction o with
 | lst xs=>obtain ⟨z,its,n,r,e⟩:=x; exact ⟨z,its,n,r,k _ _ (.inl Y) e⟩
 | tup xs=>obtain ⟨z,its,r,ob,e,c⟩:=x; exact ⟨z,its,r,ob,k _ _ (.inl Y) e,c⟩
 | dK kvs=>obtain ⟨z,y,vs,r,ob,es,ep,e,c⟩:=x; exact ⟨z,y,vs,r,ob,es,ep,k _ _ (.inl Y) e,c⟩
 | dT kvs =>
  obtain ⟨z,y,xs,r,ob,es,ep,e,c⟩:=x;exact ⟨z,y,xs,Paired.mapP r λp q z=>⟨z.1,ht _ _ z.2.1,z.2.2⟩,ob,es,ep,k _ _ (.inl Y) e,c⟩
 | set S n=>obtain ⟨ob,es,ep,t,e,c⟩:=x; exact ⟨ob,es,ep,t,k _ _ (.inl Y) e,c⟩
 | ins C dx fs =>
  obtain ⟨d,z,ne,e,mA,⟨od,es,ep,e2,c⟩,r⟩:=x;exact ⟨ho _ d,z,ne,k _ _ (.inl Y) e,mA,⟨od,es,ep,k _ _ (.inr d) e2,c⟩,r⟩
 | own y=>obtain ⟨ob,e⟩:=x; exact ⟨ob,k _ _ (.inl Y) e⟩
 | xd fs=>obtain ⟨mA,⟨od,es,ep,e,c⟩,r⟩:=x; exact ⟨mA,⟨od,es,ep,k _ _ (.inl Y) e,c⟩,r⟩
 | rng lo hi=>obtain ⟨t,u,v,e⟩:=x; exact ⟨t,u,v,k _ _ (.inl Y) e⟩
 | frz ob u ih=>obtain ⟨e,q⟩:=x; exact ⟨k _ _ (.inl Y) e,ih q⟩
 | tbl ps =>
  have e:h.get? a=some { cls:=.none,data:=.fields ps }:=x;show h'.get? a=some { cls:=.none,data:=.fields ps };exact k a _ (.inl Y) e
 | met f y =>
  have e:h.get? a=some (PySem.W.methodObj (.ref f) (.ref y)):=x;show h'.get? a=some (PySem.W.methodObj (.ref f) (.ref y));exact k a _ (.inl Y) e
 | ext φ=>obtain ⟨p,⟨o,e⟩,st⟩:=x; exact ⟨st _ _ p λo q=>k _ _ (.inl Y) q,⟨o,k _ _ (.inl Y) e⟩,st⟩
def HOk.lt (x:HOk P w H h) (e:H a=some o):a < h.objs.size:=(x a o e).lt
def HOk.fresh (x:HOk P w H h) (e:h.objs.size<=a):H a=none:=by
 cases q:H a with
 | none=>rfl
 | some u=>exact absurd (Ag (x.lt q) e) (Nat.lt_irrefl _)
def HOk.kept (x:HOk P w H h) (k:∀ b u,h.get? b=some u->h'.get? b=some u):HOk P w H h':=λa o e =>
 (x a o e).stay (λb u _ q=>k b u q) (λ_ q=>q) λ_ _ q=>q
def HOk.laid (x:HOk P w H h) (k:∀ b u,h.get? b=some u->h'.get? b=some u) (hp:h.objs.size<=a) (new:Yc P w (upd H a o) h' a o):HOk P w (upd H a o) h':=λb u e=>by
 have hn:=x.fresh hp;by_cases hb:b=a
 ·subst hb; rw [Zc] at e; cases e; exact new
 ·rw [Ze hb] at e
  exact (x b u e).stay (λc v _ q=>k c v q) (λc q=>by rw [Ze (Zl q hn)]; exact q) λc xs q=>by rw [Ze (Zl q hn)]; exact q
end
def Rd (H:Hp) (a:Addr) (u:HO):Prop:=H a=some u\/∃ o,H a=some (.frz o u)
def Rd.ok {P:Program} {w:World} {H:Hp} {h:Heap} {a:Addr} {u:HO} (r:Rd H a u) (x:HOk P w H h):Yc P w H h a u:=by
 rcases r with r | ⟨o,r⟩
 ·exact x a u r
 ·obtain ⟨_,q⟩:=x a _ r
  exact q
def Mut:Option HO->Prop
 | some (.lst _)=>True
 | some (.dK _)=>True
 | some (.dT _)=>True
 | some (.set _ _)=>True
 | some (.ins _ _ _)=>True
 | some (.ext _)=>True
 | _=>False
section
variable {P:Program} {w:World} {H:Hp} {h h':Heap} {x e:Addr} {o':HO}
def HOk.write (ok:HOk P w H h) (mu:Mut (H x)) (he:e=x\/H e=some (.own x)) (k:∀ b u,b≠e->h.get? b=some u->h'.get? b=some u) (yr:∃ u,h'.get? e=some u)
  (new:Yc P w (upd H x o') h' x o'):HOk P w (upd H x o') h':=λb u q=>by
 have qe:∀ c y,H c=some (.own y)->c≠x:=λc y r z=>by subst z; rw [r] at mu; exact mu
 have o5:∀ c xs,H c=some (.tup xs)->c≠x:=λc xs r z=>by subst z; rw [r] at mu; exact mu
 by_cases hb:b=x
 ·subst hb; rw [Zc] at q; cases q; exact new
 ·rw [Ze hb] at q
  by_cases w8:b=e
  ·have q':H b=some (.own x):=by
    rcases he with z | z
    ·exact absurd (w8.trans z) hb
    ·rw [w8]; exact z
   rw [q] at q'; cases q';obtain ⟨v,hv⟩:=yr;exact ⟨v,by rw [w8]; exact hv⟩
  ·refine (ok b u q).stay (λc v hc r=>k c v ?_ r) (λc r=>by rw [Ze (qe c b r)]; exact r) λc xs r=>by rw [Ze (o5 c xs r)]; exact r
   rcases hc with rfl | hc
   ·exact w8
   ·rintro rfl
    rcases he with z | z
    ·exact qe c b hc z
    ·rw [hc] at z; cases z; exact hb Y
end
structure Un (fs ex:List Addr) (H H':Hp) (h h':Heap):Prop where
 keep:∀ b o,h.get? b=some o->H b=none->b ∉ fs->b ∉ ex->h'.get? b=some o
 slot:∀ b o,h.get? b=some o->H b=none->b∈fs->b ∉ ex->∃ sl,h'.get? b=some { o with slots:=sl }
 free:∀ b o,h.get? b=some o->H b=none->b ∉ ex->H' b=none
 there:∀ b o,h.get? b=some o->b ∉ ex->∃ o',h'.get? b=some o'
 tups:∀ b xs,H b=some (.tup xs)->H' b=some (.tup xs)
 frzs:∀ b o u,H b=some (.frz o u)->H' b=some (.frz o u)
 tbls:∀ b ps,H b=some (.tbl ps)->∃ more,H' b=some (.tbl (ps ++ more))
section
variable {fs fs' ex ex':List Addr} {H H1 H2:Hp} {h h1 h2 h':Heap} {a x e:Addr} {o:HO}
def Un.any (u:Un fs ex H H1 h h1) (q:h.get? b=some ob) (n:H b=none) (hx:b ∉ ex):∃ sl,h1.get? b=some { ob with slots:=sl }:=by
 by_cases hb:b∈fs
 ·exact u.slot b ob q n hb hx
 ·exact ⟨ob.slots,u.keep b ob q n hb hx⟩
def Un.kept (k:∀ b u,h.get? b=some u->h'.get? b=some u):Un fs ex H H h h' :=
 ⟨λb ob q _ _ _=>k b ob q,λb ob q _ _ _=>⟨ob.slots,k b ob q⟩,λ_ _ _ n _=>n,λb ob q _=>⟨ob,k b ob q⟩,λ_ _ q=>q,λ_ _ _ q=>q,λ_ ps q=>⟨#[],by rw [q]; simp⟩⟩
def Un.refl:Un fs ex H H h h:=Un.kept λ_ _ q=>q
def Un.laid (k:∀ b u,h.get? b=some u->h'.get? b=some u) (hp:h.objs.size<=a) (hn:H a=none):Un fs ex H (upd H a o) h h' where
 keep:=λb u q _ _ _=>k b u q
 slot:=λb u q _ _ _=>⟨u.slots,k b u q⟩
 free:=λb u q n _=>by rw [Ze (As (Ag (Ao q) hp))]; exact n
 there:=λb u q _=>⟨u,k b u q⟩
 tups:=λb xs q=>by rw [Ze (Zl q hn)]; exact q
 frzs:=λb u xs q=>by rw [Ze (Zl q hn)]; exact q
 tbls:=λb ps q=>⟨#[],by rw [Ze (Zl q hn),q]; simp⟩
def Un.write (mu:Mut (H x)) (he:e=x\/H e=some (.own x)) (k:∀ b u,b≠e->h.get? b=some u->h'.get? b=some u) (yr:∃ u,h'.get? e=some u):Un fs ex H (upd H x o) h h':=by
 have hx:∀ b,H b=none->b≠x:=λb n z=>by subst z; rw [n] at mu; exact mu
 have hb:∀ b,H b=none->b≠e:=λb n z=>by
  subst z
  rcases he with r | r
  ·exact hx b n r
  ·rw [n] at r; cases r
 have hm:∀ b u,H b=some u->¬ Mut (some u)->b≠x:=λb u q nm z=>by subst z; rw [q] at mu; exact nm mu
 refine ⟨λb u q n _ _=>k b u (hb b n) q,λb u q n _ _=>⟨u.slots,k b u (hb b n) q⟩,λb u q n _=>by rw [Ze (hx b n)]; exact n,λb u q _=>?_,
  λb xs q=>by rw [Ze (hm b _ q λz=>z)]; exact q,λb u xs q=>by rw [Ze (hm b _ q λz=>z)]; exact q,λb ps q=>⟨#[],by rw [Ze (hm b _ q λz=>z),q]; simp⟩⟩;by_cases w8:b=e
 ·subst w8; exact yr
 ·exact ⟨u,k b u w8 q⟩
end
noncomputable def si (h:Heap) (H:Hp):List Addr:=(List.range h.objs.size).filter λa=>(H a).isSome
noncomputable def hidT (h:Heap) (H:Hp):Heap:=PySem.W.hideAll h (si h H)
def Zld (h:Heap) (H:Hp):(hidT h H).objs.size=h.objs.size:=PySem.W.hideAll_size _ _
def Znh {h:Heap} (e:h.get? b=some o) (n:H b=none):(hidT h H).get? b=some o :=
 PySem.W.hideAll_get _ e λhm=>by
  have q:(H b).isSome=true:=(mem_filter.mp hm).2;rw [n] at q; simp at q
def Zpp {h:Heap} (e:(hidT h H).get? b=some o):h.get? b=some o/\H b=none:=by
 have e':h.get? b=some o:=PySem.W.of_hideAll (si h H) e;refine ⟨e',?_⟩
 cases q:H b with
 | none=>rfl
 | some x =>
  have hm:b∈si h H:=mem_filter.mpr ⟨mem_range.mpr (Ao e'),by simp [q]⟩;have z:(hidT h H).get? b=none:=PySem.W.hideAll_none (si h H) hm;rw [z] at e; cases e
noncomputable def Zqi (g h:Heap) (L:Addr):List (m:):=(List.range h.objs.size).filterMap λa=>if a=L\/(g.get? a).isSome=true then none else (h.get? a).map λo=>(a,o)
noncomputable def jk (g h:Heap) (L d:Addr):List (m:):=(Zqi g h L).filter λp=>decide (p.1≠d)
structure Mod (K:W.Frag) (mg:Str->Option Value) (base:Heap):Prop where
 kin:K.In base
 glob:base.Ns mainGlobals mg
 blt:∃ mb,base.Ns builtinsNs mb/\∀ x:Str,x≠"__name__"->mb x=bootBuiltins x
 nolimit:base.NoLimit
structure Cx where
 prog:Program
 w:World
 K:PySem.W.Frag
 mg:Str->Option Value
 base:Heap
 A:Around
 N:List Str
 s₀:Shared
 H₀:Hp
 env:Env
 outer:List Env
 stack:List Env
 ex:List Addr
 fn:Str->Bool
 calm:Bool
 pn:List (m:)
 xe:Value->Shared->Prop
def frs (l:List Env):List Addr:=l.filterMap (·.frame)
abbrev Cx.fs (X:Cx):List Addr:=frs X.outer
def Vis (sc:Scope) (x:Str):Prop:=sc.names.lookup x=some .local\/sc.names.lookup x=some .cell\/sc.names.lookup x=some .free
def Loc (sc:Scope) (x:Str):Prop:=sc.names.lookup x=some .local\/sc.names.lookup x=some .cell
def Look (env:Env) (h:Heap) (m:Str->Option Value) (x:Str) (u:Value):Prop :=
 (env.kindOf x=some .local/\m x=some u)\/((env.kindOf x=some .cell\/env.kindOf x=some .free)/\∃ c,env.cells.lookup x=some c/\h.IsCell c (some u))
structure Cx.Ok (X:Cx):Prop where
 mod:Mod X.K X.mg X.base
 kind:X.env.scope.kind=.function
 glob:X.env.globals=mainGlobals
 blt:X.env.builtins=builtinsNs
 above:X.s₀.heap.objs.size<=X.env.locals
 inj:∀ x y c,X.env.cells.lookup x=some c->X.env.cells.lookup y=some c->x=y
 has:∀ x,(X.env.kindOf x=some .cell\/X.env.kindOf x=some .free)->∃ c,X.env.cells.lookup x=some c
 cab:∀ x c,X.fn x=true->X.env.cells.lookup x=some c->X.s₀.heap.objs.size<=c
 hd:X.calm=true->X.A.handled=none
 frames:X.A.frames=some X.stack
 stk:X.stack=X.outer\/(X.stack=X.env :: X.outer/\X.env.frame=some X.env.locals)
 exf:∀ b∈X.ex,b≠X.env.locals/\∀ x c,X.env.cells.lookup x=some c->c≠b
 bs:∀ b o,X.base.get? b=some o->X.s₀.heap.get? b=some o/\X.H₀ b=none
 bsz:X.base.objs.size<=X.s₀.heap.objs.size
 noex:∀ b o,X.base.get? b=some o->b ∉ X.ex
 exfs:∀ b∈X.ex,b ∉ X.fs
 funs:X.s₀.heap.FunFrames X.base X.outer
 frf:∀ b∈X.fs,X.H₀ b=none
structure Inv (X:Cx) (jh:List (m:)) (σ:List (Option V)) (H:Hp) (s:Shared):Prop where
 ok:X.Ok
 os:s.os=X.s₀.os
 bare:AllBare s.gens
 base:Un X.fs X.ex X.H₀ H X.s₀.heap s.heap
 loc:∃ m,s.heap.Ns X.env.locals m/\∀ (i:Nat) (x:Str) (v:V),X.N[i]?=some x->σ[i]?=some (some v)->Vis X.env.scope x->∃ u,RelV v u/\Look X.env s.heap m x u
 cell:∀ x c,X.env.cells.lookup x=some c->∃ v,s.heap.IsCell c v
 free:H X.env.locals=none
 freeC:∀ x c,X.env.cells.lookup x=some c->H c=none
 pin:∀ p∈X.pn ++ jh,s.heap.get? p.1=some p.2/\H p.1=none/\p.1≠X.env.locals/\p.1 ∉ X.fs/\∀ v,p.2.data≠.cell v
 hok:HOk X.prog X.w H s.heap
 len:σ.length=X.N.length
section
variable {X:Cx} {jh:List (m:)} {σ:List (Option V)} {H H':Hp} {s:Shared} {h':Heap}
def Cx.Ok.nofr (ok:X.Ok) (e:X.base.get? b=some o):b ∉ X.fs:=λhb=>by
 have:=(ok.funs.mem hb).1;rw [e] at this; cases this
def Inv.bs (I:Inv X jh σ H s):∀ b o,X.base.get? b=some o->s.heap.get? b=some o/\H b=none:=λb o e =>
 ⟨I.base.keep b o (I.ok.bs b o e).1 (I.ok.bs b o e).2 (I.ok.nofr e) (I.ok.noex b o e),I.base.free b o (I.ok.bs b o e).1 (I.ok.bs b o e).2 (I.ok.noex b o e)⟩
def Inv.bk (I:Inv X jh σ H s):∀ b o,X.base.get? b=some o->s.heap.get? b=some o:=λb o e=>(I.bs b o e).1
def Inv.mod (I:Inv X jh σ H s):Mod X.K X.mg X.base:=I.ok.mod
def Inv.kIn (I:Inv X jh σ H s):X.K.In s.heap:=I.ok.mod.kin.keeps I.bk
def Inv.lt (I:Inv X jh σ H s):X.env.locals < s.heap.objs.size:=let ⟨_,hn,_⟩:=I.loc; hn.lt
def Inv.sz (I:Inv X jh σ H s):X.s₀.heap.objs.size<=s.heap.objs.size:=Nat.le_trans I.ok.above (Nat.le_of_lt I.lt)
def Inv.nofs (I:Inv X jh σ H s) {a:Addr} (h:s.heap.objs.size<=a):a ∉ X.fs:=λhb=>by
 obtain ⟨_,o,ho,_⟩:=I.ok.funs.mem hb;exact absurd (Ag (Ao ho) (Nat.le_trans I.sz h)) (Nat.lt_irrefl _)
def Inv.cne (I:Inv X jh σ H s):∀ x c,X.env.cells.lookup x=some c->c≠X.env.locals:=λx c e z=>by
 obtain ⟨v,o,ho,hd⟩:=I.cell x c e;obtain ⟨m,⟨o',es,ep,qw,hd',_⟩,_⟩:=I.loc;rw [z,qw] at ho; cases ho; rw [hd'] at hd; cases hd
def Inv.funs (I:Inv X jh σ H s):s.heap.FunFrames X.base X.outer:=by
 have all:∀ (l:List Env),(∀ b∈frs l,b∈X.fs)->X.s₀.heap.FunFrames X.base l->s.heap.FunFrames X.base l:=by
  intro l
  induction l with
  | nil=>intro _ _; trivial
  | cons env r ih =>
   intro hs hl;obtain ⟨hk,⟨L,o,hf,hn,ho,hd⟩,hr⟩:=hl;have hL:L∈X.fs:=hs L (by unfold frs; rw [filterMap_cons,hf]; exact mem_cons_self);obtain ⟨sl,e⟩:=I.base.slot L o ho (I.ok.frf L hL) hL λz=>I.ok.exfs L z hL;exact ⟨hk,⟨L,_,hf,hn,e,hd⟩,ih (λb hb=>hs b (by unfold frs; rw [filterMap_cons,hf]; exact mem_cons_of_mem _ hb)) hr⟩
 exact all X.outer (λ_ hb=>hb) I.ok.funs
def Inv.stack (I:Inv X jh σ H s):s.heap.FunFrames X.base X.stack:=by
 rcases I.ok.stk with e | ⟨e,hf⟩
 ·rw [e]; exact I.funs
 ·rw [e]
  obtain ⟨m,hn,_⟩:=I.loc;refine .cons (by rw [I.ok.kind]; decide) hf hn ?_ I.funs;exact Heap.get?_none_of_le (Nat.le_trans I.ok.bsz I.ok.above)
def Inv.stkSub (I:Inv X jh σ H s):∀ b∈frs X.stack,b∈X.env.locals :: X.fs:=λb hb=>by
 rcases I.ok.stk with e | ⟨e,hf⟩
 ·rw [e] at hb; exact mem_cons_of_mem _ hb
 ·rw [e] at hb
  unfold frs at hb;rw [filterMap_cons,hf] at hb;exact hb
def Inv.stkFree (I:Inv X jh σ H s):∀ b∈frs X.stack,H b=none:=λb hb=>by
 rcases Ar (I.stkSub b hb) with e | hb
 ·rw [e]; exact I.free
 ·obtain ⟨_,o,ho,_⟩:=I.ok.funs.mem hb
  exact I.base.free b o ho (I.ok.frf b hb) λz=>I.ok.exfs b z hb
def Inv.step {g':Array GenState} {t':Nat} {d':Drawn} {ch:List Addr} (I:Inv X jh σ H s)
  (qk:∀ b∈ch,(b∈X.ex\/X.s₀.heap.objs.size<=b)/\b≠X.env.locals/\(∀ x c,X.env.cells.lookup x=some c->c≠b)/\∀ p∈X.pn ++ jh,p.1≠b)
  (keep:∀ b o,b≠X.env.locals->b ∉ X.fs->b ∉ ch->s.heap.get? b=some o->H b=none->h'.get? b=some o)
  (slot:∀ b o,b≠X.env.locals->b∈X.fs->b ∉ ch->s.heap.get? b=some o->H b=none->∃ sl,h'.get? b=some { o with slots:=sl }) (free:∀ b o,b ∉ ch->s.heap.get? b=some o->H b=none->H' b=none)
  (there:∀ b o,b ∉ ch->s.heap.get? b=some o->∃ o',h'.get? b=some o')
  (tups:∀ b xs,H b=some (.tup xs)->H' b=some (.tup xs)) (frzs:∀ b o u,H b=some (.frz o u)->H' b=some (.frz o u)) (tbls:∀ b ps,H b=some (.tbl ps)->∃ more,H' b=some (.tbl (ps ++ more)))
  (ns:∀ m,s.heap.Ns X.env.locals m->h'.Ns X.env.locals m) (hok:HOk X.prog X.w H' h') (hg:AllBare g') :
  Inv X jh σ H' { s with heap:=h',gens:=g',drawn:=d',toks:=t' }:=by
 have neL:∀ b o,X.s₀.heap.get? b=some o->b≠X.env.locals:=λb o e=>As (Ag (Ao e) I.ok.above);have neC:∀ b o,X.s₀.heap.get? b=some o->b ∉ X.ex->b ∉ ch:=λb o e hx hb=>by
  rcases (qk b hb).1 with z | z
  ·exact hx z
  ·exact absurd (Ag (Ao e) z) (Nat.lt_irrefl _)
 have oo:∀ x c,X.env.cells.lookup x=some c->∀ v,s.heap.IsCell c v->h'.IsCell c v:=λx c e v ⟨o,ho,hd⟩=>by
  have zb:c ∉ ch:=λz=>(qk c z).2.2.1 x c e rfl;by_cases hc:c∈X.fs
  ·obtain ⟨sl,q⟩:=slot c o (I.cne x c e) hc zb ho (I.freeC x c e)
   exact ⟨_,q,hd⟩
  ·exact ⟨o,keep c o (I.cne x c e) hc zb ho (I.freeC x c e),hd⟩
 refine ⟨I.ok,I.os,hg,⟨λb o e n hb hx=>?_,λb o e n hb hx=>?_,λb o e n hx=>?_,λb o e hx=>?_,λb xs e=>tups b xs (I.base.tups b xs e),λb o xs e=>frzs b o xs (I.base.frzs b o xs e),λb ps e=>?_⟩,?_,λx c e=>?_,?_,λx c e=>?_,λp hp=>?_,hok,I.len⟩
 ·exact keep b o (neL b o e) hb (neC b o e hx) (I.base.keep b o e n hb hx) (I.base.free b o e n hx)
 ·obtain ⟨sl,e1⟩:=I.base.slot b o e n hb hx
  obtain ⟨y4,e2⟩:=slot b _ (neL b o e) hb (neC b o e hx) e1 (I.base.free b o e n hx);exact ⟨y4,e2⟩
 ·obtain ⟨o',e1⟩:=I.base.there b o e hx
  exact free b o' (neC b o e hx) e1 (I.base.free b o e n hx)
 ·obtain ⟨o',e1⟩:=I.base.there b o e hx
  exact there b o' (neC b o e hx) e1
 ·obtain ⟨m1,e1⟩:=I.base.tbls b ps e
  obtain ⟨m2,e2⟩:=tbls b _ e1;exact ⟨m1 ++ m2,by rw [e2,Array.append_assoc]⟩
 ·obtain ⟨m,hn,hl⟩:=I.loc
  refine ⟨m,ns m hn,λi x v e1 e2 e3=>?_⟩;obtain ⟨u,r,l⟩:=hl i x v e1 e2 e3;refine ⟨u,r,?_⟩
  rcases l with l | ⟨k,c,e,z⟩
  ·exact .inl l
  ·exact .inr ⟨k,c,e,oo x c e _ z⟩
 ·obtain ⟨v,z⟩:=I.cell x c e
  exact ⟨v,oo x c e v z⟩
 ·obtain ⟨m,⟨o,_,_,ho,_⟩,_⟩:=I.loc
  exact free _ o (λz=>(qk _ z).2.1 Y) ho I.free
 ·obtain ⟨v,o,ho,hd⟩:=I.cell x c e
  exact free c o (λz=>(qk c z).2.2.1 x c e Y) ho (I.freeC x c e)
 ·obtain ⟨e,n,ne,nf,d⟩:=I.pin p hp
  have zb:p.1 ∉ ch:=λz=>(qk p.1 z).2.2.2 p hp rfl;exact ⟨keep p.1 p.2 ne nf zb e n,free p.1 p.2 zb e n,ne,nf,d⟩
def Inv.un {t':Nat} (I:Inv X jh σ H s) (u:Un X.fs [] H H' s.heap h') (hok:HOk X.prog X.w H' h'):Inv X jh σ H' { s with heap:=h',toks:=t' }:=by
 obtain ⟨m,⟨o,es,ep,ho,r⟩,_⟩:=id I.loc;obtain ⟨sl,hL⟩:=u.any ho I.free (by simp);exact I.step (g':=s.gens) (d':=s.drawn) (ch:=[]) (λ_ z=>nomatch z) (λb o _ hb _ e n=>u.keep b o e n hb (by simp)) (λb o _ hb _ e n=>u.slot b o e n hb (by simp)) (λb o _ e n=>u.free b o e n (by simp)) (λb o _ e=>u.there b o e (by simp)) u.tups u.frzs u.tbls (λm' hm=>by
  obtain ⟨o',es',xh,qw,r'⟩:=hm
  rw [ho] at qw; cases qw
  exact ⟨_,es',xh,hL,r'⟩) hok I.bare
def Inv.call {t':Nat} {d':Drawn} (I:Inv X jh σ H s) (u:Un (frs X.stack) ch H H' s.heap h') (hok:HOk X.prog X.w H' h') (hg:AllBare g')
  (qk:∀ b∈ch,(b∈X.ex\/X.s₀.heap.objs.size<=b)/\b≠X.env.locals/\(∀ x c,X.env.cells.lookup x=some c->c≠b)/\∀ p∈X.pn ++ jh,p.1≠b) :
  Inv X jh σ H' { s with heap:=h',gens:=g',drawn:=d',toks:=t' }:=by
 obtain ⟨m,⟨o,es,ep,ho,r⟩,_⟩:=id I.loc;obtain ⟨sl,hL⟩:=u.any ho I.free λz=>(qk _ z).2.1 rfl;exact I.step (ch:=ch) qk (λb o hL hb hc e n=>u.keep b o e n (λz=>(Ar (I.stkSub b z)).elim hL hb) hc) (λb o _ _ hc e n=>u.any e n hc) (λb o hc e n=>u.free b o e n hc) (λb o hc e=>u.there b o e hc) u.tups u.frzs u.tbls (λm' hm=>by
  obtain ⟨o',es',xh,qw,r'⟩:=hm
  rw [ho] at qw; cases qw
  exact ⟨_,es',xh,hL,r'⟩) hok hg
def Inv.turned {t':Nat} (I:Inv X jh σ H s) (k:∀ b o,b≠it->s.heap.get? b=some o->h'.get? b=some o) (hn:H it=none) (hL:it≠X.env.locals)
  (h1:it∈X.ex\/X.s₀.heap.objs.size<=it) (h2:∀ x c,X.env.cells.lookup x=some c->c≠it) (h3:∀ p∈X.pn ++ jh,p.1≠it):Inv X jh σ H { s with heap:=h',toks:=t' }:=by
 have nit:∀ b u,H b=some u->b≠it:=λb u e z=>by rw [z,hn] at e; cases e
 refine I.step (g':=s.gens) (d':=s.drawn) (ch:=[it]) (λb hb=>?_) (λb o _ _ hc e _=>k b o (λz=>hc (by simp [z])) e) (λb o _ _ hc e _=>⟨o.slots,k b o (λz=>hc (by simp [z])) e⟩) (λ_ _ _ _ n=>n)
  (λb o hc e=>⟨o,k b o (λz=>hc (by simp [z])) e⟩) (λ_ _ e=>e) (λ_ _ _ e=>e) (λb ps e=>⟨#[],by rw [e]; simp⟩) (λm hm=>?_) (λb u e=>?_) I.bare
 ·have e:b=it:=by simpa using hb
  subst e;exact ⟨h1,hL,h2,h3⟩
 ·obtain ⟨o,es,ep,ho,r⟩:=hm
  exact ⟨o,es,ep,k _ o (Ne.symm hL) ho,r⟩
 ·refine (I.hok b u e).stay (λc v hc q=>k c v ?_ q) (λ_ q=>q) λ_ _ q=>q
  rcases hc with z | z
  ·rw [z]; exact nit b u e
  ·exact nit c _ z
def Inv.tok (I:Inv X jh σ H s) (t:Nat):Inv X jh σ H { s with toks:=t }:=I.un (h':=s.heap) (t':=t) Un.refl I.hok
def Inv.kept {t':Nat} (I:Inv X jh σ H s) (k:∀ b u,s.heap.get? b=some u->h'.get? b=some u):Inv X jh σ H { s with heap:=h',toks:=t' }:=I.un (Un.kept k) (I.hok.kept k)
def Inv.laid {t':Nat} (I:Inv X jh σ H s) (k:∀ b u,s.heap.get? b=some u->h'.get? b=some u) (hp:s.heap.objs.size<=a) (new:Yc X.prog X.w (upd H a o) h' a o) :
  Inv X jh σ (upd H a o) { s with heap:=h',toks:=t' }:=I.un (Un.laid k hp (I.hok.fresh hp)) (I.hok.laid k hp new)
def Inv.write {t':Nat} (I:Inv X jh σ H s) (mu:Mut (H x)) (he:e=x\/H e=some (.own x)) (k:∀ b u,b≠e->s.heap.get? b=some u->h'.get? b=some u) (yr:∃ u,h'.get? e=some u)
  (new:Yc X.prog X.w (upd H x o) h' x o):Inv X jh σ (upd H x o) { s with heap:=h',toks:=t' }:=I.un (Un.write mu he k yr) (I.hok.write mu he k yr new)
def Inv.pins_of (I:Inv X jh σ H s) (h:∀ p∈pins',s.heap.get? p.1=some p.2/\H p.1=none/\p.1≠X.env.locals/\p.1 ∉ X.fs/\∀ v,p.2.data≠.cell v):Inv X pins' σ H s :=
 ⟨I.ok,I.os,I.bare,I.base,I.loc,I.cell,I.free,I.freeC,λp hp=>(mem_append.mp hp).elim (λz=>I.pin p (mem_append_left _ z)) (h p),I.hok,I.len⟩
def Fk {N:List Str} (hN:N.Nodup) {i j:Nat} (a:N[i]?=some x) (b:N[j]?=some x):i=j:=by
 obtain ⟨h1,e1⟩:=Aa a;obtain ⟨h2,e2⟩:=Aa b;exact (getElem_inj hN).mp (e1.trans e2.symm)
def Zb9 (I:Inv X jh σ H s) (hN:X.N.Nodup) (hi:X.N[i]?=some x) (hx:Loc X.env.scope x) (r:RelV v u)
  (h:∀ s',Inv X jh (σ.set i (some v)) H s'->(∃ a,Heap.SameBut a s.heap s'.heap/\(a=X.env.locals\/X.env.cells.lookup x=some a))->Q () s') (hf:X.fn x=true\/X.env.scope.names.lookup x=some .local:=by first | exact .inl rfl | exact .inr rfl | assumption):wpAny M A (storeName X.env x u) Q E s:=by
 obtain ⟨m,hn,hl⟩:=id I.loc;have xx:(X.env.scope.kind == .class || (X.env.scope.kind == .module && X.env.locals != X.env.globals))=false:=by rw [I.ok.kind]; rfl
 have hiσ:i < σ.length:=by rw [I.len]; exact (Aa hi).1
 have cne:=I.cne
 have p4:∀ {a:Addr} {h':Heap},(∃ o,s.heap.get? a=some o/\H a=none)->Heap.SameBut a s.heap h'->HOk X.prog X.w H h':=λ{a h'} ha hs b ob e=>by
  obtain ⟨_,_,wc⟩:=ha;refine (I.hok b ob e).stay (λc w' hc q=>(hs.2 c ?_).trans q) (λ_ q=>q) λ_ _ q=>q;rintro rfl
  rcases hc with rfl | hc
  ·rw [wc] at e; cases e
  ·rw [wc] at hc; cases hc
 rcases hx with hk | hk
 ·refine wpAny_storeName_local hk hn (λh' hn' hs=>?_) xx
  obtain ⟨oL,_,_,ul,_⟩:=id hn;refine h _ ⟨I.ok,I.os,I.bare,⟨λb o e n hb hx=>?_,λb o e n hb hx=>?_,I.base.free,λb o e hx=>?_,I.base.tups,I.base.frzs,I.base.tbls⟩,⟨_,hn',λj y v' e1 e2 e3=>?_⟩,λy c e=>?_,I.free,I.freeC,λp hp=>?_,p4 ⟨oL,ul,I.free⟩ hs,by simpa using I.len⟩ ⟨_,hs,.inl Y⟩
  ·exact (hs.2 b (As (Ag (Ao e) I.ok.above))).trans (I.base.keep b o e n hb hx)
  ·obtain ⟨sl,e1⟩:=I.base.slot b o e n hb hx
   exact ⟨sl,(hs.2 b (As (Ag (Ao e) I.ok.above))).trans e1⟩
  ·obtain ⟨o',e1⟩:=I.base.there b o e hx
   exact ⟨o',(hs.2 b (As (Ag (Ao e) I.ok.above))).trans e1⟩
  ·by_cases hj:j=i
   ·subst hj
    rw [hi] at e1; cases e1;rw [getElem?_set_self hiσ] at e2;cases e2;exact ⟨u,r,.inl ⟨hk,by simp⟩⟩
   ·rw [getElem?_set_ne (Ne.symm hj)] at e2
    obtain ⟨u',r',q⟩:=hl j y v' e1 e2 e3;refine ⟨u',r',?_⟩
    rcases q with ⟨k,e⟩ | ⟨k,c,e,z⟩
    ·refine .inl ⟨k,?_⟩
     have:y≠x:=λe=>hj (Fk hN e1 (e ▸ hi));simp [this,e]
    ·exact .inr ⟨k,c,e,z.sameBut hs (cne y c e)⟩
  ·obtain ⟨w',z⟩:=I.cell y c e
   exact ⟨w',z.sameBut hs (cne y c e)⟩
  ·obtain ⟨e,n,ne,nf,d⟩:=I.pin p hp
   exact ⟨(hs.2 p.1 ne).trans e,n,ne,nf,d⟩
 ·have hfn:X.fn x=true:=by
   rcases hf with z | z
   ·exact z
   ·rw [z] at hk; cases hk
  obtain ⟨c,hc⟩:=I.ok.has x (.inl hk);obtain ⟨w',z⟩:=I.cell x c hc;refine wpAny_storeName_cell I.ok.kind hk hc z (λh' ny hs=>?_);obtain ⟨oc,hoc,hocd⟩:=id z;refine h { s with heap:=h' } ⟨I.ok,I.os,I.bare,⟨λb o e n hb hx=>?_,λb o e n hb hx=>?_,I.base.free,λb o e hx=>?_,I.base.tups,I.base.frzs,I.base.tbls⟩,⟨m,hn.sameBut hs (Ne.symm (cne x c hc)),λj y v' e1 e2 e3=>?_⟩,λy c' e=>?_,I.free,I.freeC,λp hp=>?_,p4 ⟨oc,hoc,I.freeC x c hc⟩ hs,by simpa using I.len⟩ ⟨c,hs,.inr hc⟩
  ·exact (hs.2 b (As (Ag (Ao e) (I.ok.cab x c hfn hc)))).trans (I.base.keep b o e n hb hx)
  ·obtain ⟨sl,e1⟩:=I.base.slot b o e n hb hx
   exact ⟨sl,(hs.2 b (As (Ag (Ao e) (I.ok.cab x c hfn hc)))).trans e1⟩
  ·obtain ⟨o',e1⟩:=I.base.there b o e hx
   exact ⟨o',(hs.2 b (As (Ag (Ao e) (I.ok.cab x c hfn hc)))).trans e1⟩
  ·by_cases hj:j=i
   ·subst hj
    rw [hi] at e1; cases e1;rw [getElem?_set_self hiσ] at e2;cases e2;exact ⟨u,r,.inr ⟨.inl hk,c,hc,ny⟩⟩
   ·rw [getElem?_set_ne (Ne.symm hj)] at e2
    obtain ⟨u',r',q⟩:=hl j y v' e1 e2 e3;refine ⟨u',r',?_⟩
    rcases q with q | ⟨k,c',e,z'⟩
    ·exact .inl q
    ·refine .inr ⟨k,c',e,z'.sameBut hs ?_⟩
     rintro rfl;exact hj (Fk hN e1 (I.ok.inj _ _ _ e hc ▸ hi))
  ·by_cases hcc:c'=c
   ·subst hcc; exact ⟨_,ny⟩
   ·obtain ⟨w2,z2⟩:=I.cell y c' e
    exact ⟨w2,z2.sameBut hs hcc⟩
  ·obtain ⟨e,n,ne,nf,d⟩:=I.pin p hp
   refine ⟨(hs.2 p.1 ?_).trans e,n,ne,nf,d⟩;intro q;rw [q,hoc] at e;have q':oc=p.2:=Ax e;exact d w' (by rw [<- q']; exact hocd)
def W7 {M:Model} {A:Around} {E:Value->Shared->Prop} {i:Nat} {x:Str} {v:V} {u:Value} {Q:Unit->Shared->Prop} (I:Inv X jh σ H s) (hN:X.N.Nodup) (hi:X.N[i]?=some x) (hx:Loc X.env.scope x) (r:RelV v u)
  (h:∀ s',Inv X jh (σ.set i (some v)) H s'->Q () s') (hf:X.fn x=true\/X.env.scope.names.lookup x=some .local:=by first | exact .inl rfl | exact .inr rfl | assumption):wpAny M A (storeName X.env x u) Q E s :=
 Zb9 I hN hi hx r (λs' I' _=>h s' I') hf
def Inv.call' {s':Shared} (I:Inv X jh σ H s) (ho:s'.os=s.os) (u:Un (frs X.stack) ch H H' s.heap s'.heap) (hok:HOk X.prog X.w H' s'.heap) (hg:AllBare s'.gens)
  (qk:∀ b∈ch,(b∈X.ex\/X.s₀.heap.objs.size<=b)/\b≠X.env.locals/\(∀ x c,X.env.cells.lookup x=some c->c≠b)/\∀ p∈X.pn ++ jh,p.1≠b):Inv X jh σ H' s':=by
 obtain ⟨h',g',d',t',o'⟩:=s';have e:o'=s.os:=ho;subst e;exact I.call (g':=g') (t':=t') (d':=d') u hok hg qk
end
abbrev XK:=Value->Option Addr->Hp->Prop
abbrev St:=List (Option V)
abbrev VK:=V->Hp->Prop
abbrev TE:=St->Hp->VK->Prop
abbrev TT:=St->Hp->(Bool->Hp->Prop)->Prop
abbrev TA:=St->Hp->(List V->Hp->Prop)->Prop
structure Ends where
 nx:St->Hp->Prop
 rt:VK
 bk:St->Hp->Prop:=λ_ _=>False
 ct:St->Hp->Prop:=λ_ _=>False
abbrev TS:=Ends->St->Hp->Prop
def EP (X:Cx) (jh:List (m:)) (σ:St) (Q:VK) (u:Value) (s':Shared):Prop:=∃ v H',Inv X jh σ H' s'/\RelV v u/\Q v H'
def TP (X:Cx) (jh:List (m:)) (σ:St) (Q:Bool->Hp->Prop) (b:Bool) (s':Shared):Prop:=∃ H',Inv X jh σ H' s'/\Q b H'
def AP (X:Cx) (jh:List (m:)) (σ:St) (Q:List V->Hp->Prop) (us:List Value) (s':Shared):Prop:=∃ vs H',Inv X jh σ H' s'/\Vals vs us/\Q vs H'
def SP (X:Cx) (jh:List (m:)) (D:Ends) (f:Flow) (s':Shared):Prop :=
 match f with
 | .next=>∃ σ' H',Inv X jh σ' H' s'/\D.nx σ' H'
 | .brk=>∃ σ' H',Inv X jh σ' H' s'/\D.bk σ' H'
 | .cont=>∃ σ' H',Inv X jh σ' H' s'/\D.ct σ' H'
 | .ret u=>∃ v σ' H',Inv X jh σ' H' s'/\RelV v u/\D.rt v H'
def PE (X:Cx) (e:Expr) (t:TE):Prop :=
 ∀ jh s σ H (Q:VK),Inv X jh σ H s->t σ H Q->wpAny (c:) X.A (eval e X.env) (EP X jh σ Q) X.xe s
def PT (X:Cx) (e:Expr) (t:TT):Prop :=
 ∀ jh s σ H (Q:Bool->Hp->Prop),Inv X jh σ H s->t σ H Q->wpAny (c:) X.A (isTrue e X.env (eval e X.env)) (TP X jh σ Q) X.xe s
def PW (X:Cx) (e:Expr) (t:TT):Prop :=
 ∀ (me:Sem Value) (jh:List (m:)) (s:Shared) (σ:St) (H:Hp) (Q:Bool->Hp->Prop),Inv X jh σ H s->t σ H Q->wpAny (c:) X.A (isTrue e X.env me) (TP X jh σ Q) X.xe s
def PW.pt {X:Cx} {e:Expr} {t:TT} (h:PW X e t):PT X e t:=h _
def PA (X:Cx) (es:List Expr) (t:TA):Prop :=
 ∀ (pos:Pos) (jh:List (m:)) (s:Shared) (σ:St) (H:Hp) (Q:List V->Hp->Prop),Inv X jh σ H s->t σ H Q->wpAny (c:) X.A (spliced (backTo pos (starEach es X.env))) (AP X jh σ Q) X.xe s
def PS (X:Cx) (st:Stmt) (t:TS):Prop :=
 ∀ jh s σ H (D:Ends),Inv X jh σ H s->t D σ H->wpAny (c:) X.A (exec st X.env) (SP X jh D) X.xe s
def PSs (X:Cx) (st:List Stmt) (t:TS):Prop :=
 ∀ jh s σ H (D:Ends),Inv X jh σ H s->t D σ H->wpAny (c:) X.A (execs st X.env) (SP X jh D) X.xe s
def thn {α:Type} {t:Sem α} {Q Q':α->Shared->Prop} {M:Model} {A:Around} {E:Value->Shared->Prop} {s:Shared} (h:wpAny M A t Q E s) (hQ:∀ a s,Q a s->Q' a s):wpAny M A t Q' E s:=wpAny_mono h hQ λ_ _ x=>x
section
variable {X:Cx}
def tVar (i:Nat):TE:=λσ H Q=>∃ v,σ[i]?=some (some v)/\Q v H
def tC (v:V):TE:=λ_ H Q=>Q v H
def Zrh (hN:X.N[i]?=some x) (hv:Vis X.env.scope x) (hd:(x == ("__debug__":Str))=false:=by decide) (qc:(x == ("__classdict__":Str))=false:=by decide):PE X (.Name x pos) (tVar i):=by
 intro jh s σ H Q I h;obtain ⟨v,e,h⟩:=h;obtain ⟨m,hn,hl⟩:=I.loc;obtain ⟨u,r,l⟩:=hl i x v hN e hv;have kh:EP X jh σ Q u s:=⟨v,H,I,r,h⟩
 rcases l with ⟨hk,hm⟩ | ⟨hk,c,hc,hcell⟩
 ·exact wpAny_Name (wpAny_loadName_local I.ok.kind hk hn hm kh) hd
 ·rcases hk with hk | hk
  ·exact wpAny_Name (wpAny_loadName_cell I.ok.kind hk hc hcell kh) hd
  ·exact wpAny_Name (wpAny_loadName_free I.ok.kind hk hc hcell kh qc) hd
def Zf {i j pos}:PE X (.Constant (.int i) j pos) (tC (.int i)):=λ_ _ _ H _ I h=>wpAny_Constant_int ⟨.int i,H,I.tok _,⟨_,rfl⟩,h⟩
def U9 {b j pos}:PE X (.Constant (.bool b) j pos) (tC (.bl b)):=λ_ _ _ H _ I h=>Constant_bool ⟨.bl b,H,I,rfl,h⟩
def Us {j pos}:PE X (.Constant .none j pos) (tC .non):=λ_ _ _ H _ I h=>Constant_none ⟨.non,H,I,rfl,h⟩
def Zr {x j pos}:PE X (.Constant (.str x) j pos) (tC (.str x)):=λ_ _ _ H _ I h=>Calls.Constant_str ⟨.str x,H,I.tok _,⟨_,rfl⟩,h⟩
def Gl (X:Cx) (x:Str):Prop:=X.env.kindOf x=some .globalImplicit
def Je (I:Inv X jh σ H s) (hg:Gl X x) (hm:X.mg x=some u) (h:Q u s)
  (hd:(x == ("__debug__":Str))=false:=by decide):wpAny (c:) X.A (eval (.Name x pos) X.env) Q E s :=
 Calls.Name_function_global I.ok.kind hg (Calls.loadGlobal_global (by rw [I.ok.glob]; exact I.mod.glob.keeps I.bk) hm h) hd
def Xl {E:Value->Shared->Prop} {jh:List (m:)} {s:Shared} {σ:St} {H:Hp} {x:Str} {u:Value} {pos:Pos} {Q:Value->Shared->Prop} (I:Inv X jh σ H s) (hg:Gl X x) (hm:X.mg x=none) (hv:bootBuiltins x=some u) (h:Q u s)
  (hn:x≠"__name__":=by decide) (hd:(x == ("__debug__":Str))=false:=by decide):wpAny (c:) X.A (eval (.Name x pos) X.env) Q E s:=by
 obtain ⟨mb,h1,h2⟩:=I.mod.blt;exact Calls.Name_function_global I.ok.kind hg (Calls.loadGlobal_builtin (by rw [I.ok.glob]; exact I.mod.glob.keeps I.bk) hm (by rw [I.ok.blt]; exact h1.keeps I.bk) ((h2 x hn).trans hv) h) hd
def Jw (hg:Gl X x) (hm:X.mg x=some u) (r:RelV v u) (hd:(x == ("__debug__":Str))=false:=by decide):PE X (.Name x pos) (tC v) :=
 λ_ _ _ H _ I h=>Je I hg hm ⟨v,H,I,r,h⟩ hd
def Zhr (hg:Gl X x) (hm:X.mg x=none) (hv:bootBuiltins x=some u) (r:RelV v u) (hn:x≠"__name__":=by decide) (hd:(x == ("__debug__":Str))=false:=by decide):PE X (.Name x pos) (tC v) :=
 λ_ _ _ H _ I h=>Xl I hg hm hv ⟨v,H,I,r,h⟩ hn hd
variable {a b:Expr} {ta tb:TE} {pos:Pos}
def PC (X:Cx) (op:CmpOp) (a b:Expr) (t:TE):Prop :=
 ∀ jh s σ H (Q:VK),Inv X jh σ H s->t σ H Q ->
  wpAny (c:) X.A (eval a X.env) (λv s₁=>wpAny (c:) X.A (eval b X.env) (λu s₂=>wpAny (c:) X.A (compareOp op v u) (EP X jh σ Q) X.xe s₂) X.xe s₁) X.xe s
def tB (t:TE):TT:=λσ H Q=>t σ H λx H1=>∃ c,x=.bl c/\Q c H1
def Wl {op:CmpOp} {t:TE} (h:PC X op a b t) (h1:behindInMarks op b=false:=by first | exact nobehind _ (d:) (d:) | rfl):PT X (.Compare a [op] [b] pos) (tB t):=by
 intro jh s σ H Q I hw;refine wpAny_isTrue_Compare1 (thn (h jh s σ H _ I hw) λv s1 h1=>thn h1 λu s2 h2=>thn h2 λc s3 zz0=>?_) h1;obtain ⟨x,H1,I1,r1,q1⟩:=zz0;obtain ⟨d,rfl,q⟩:=q1;cases r1;exact wpAny_truthy_bool ⟨H1,I1,q⟩
def Qd {e:Expr} {t:TE} (h:PE X e t) (he:∀ me,isTrue e X.env me=(do let v <- me; standAt e.pos; holding [v] (truthy v)):=by intro _; rfl):PT X e (tB t):=by
 intro jh s σ H Q I hw;refine isTrue_plain (thn (h jh s σ H _ I hw) λv s1 zz1=>?_) (he _);obtain ⟨x,H1,I1,r1,q1⟩:=zz1;obtain ⟨d,rfl,q⟩:=q1;cases r1;exact wpAny_truthy_bool ⟨H1,I1,q⟩
variable {tA tB':TT} {jk:List Expr}
def tAnd (t u:TT):TT:=λσ H Q=>t σ H λc H1=>if c=true then u σ H1 Q else Q false H1
def tOr (t u:TT):TT:=λσ H Q=>t σ H λc H1=>if c=true then Q true H1 else u σ H1 Q
def tNot (t:TT):TT:=λσ H Q=>t σ H λc H1=>Q (!c) H1
def Up (ha:PT X a tA):PW X (.BoolOp .And [a] pos) tA:=by
 intro wh jh s σ H Q I h;refine isTrue_and (thn (ha jh s σ H Q I h) λc s1 e=>?_)
 cases c with
 | true=>exact isTrue_and_nil e
 | false=>exact e
def Jh (ha:PT X a tA):PW X (.BoolOp .Or [a] pos) tA:=by
 intro wh jh s σ H Q I h;refine isTrue_or (thn (ha jh s σ H Q I h) λc s1 e=>?_)
 cases c with
 | false=>exact isTrue_or_nil e
 | true=>exact e
def Km (ha:PT X a tA) (hb:PW X (.BoolOp .And (b :: jk) pos) tB'):PW X (.BoolOp .And (a :: b :: jk) pos) (tAnd tA tB'):=by
 intro wh jh s σ H Q I h;refine isTrue_and (thn (ha jh s σ H _ I h) λc s1 jp=>?_);obtain ⟨H1,I1,q1⟩:=jp
 cases c with
 | true=>exact hb wh jh s1 σ H1 Q I1 q1
 | false=>exact ⟨H1,I1,q1⟩
def Q0 (ha:PT X a tA) (hb:PW X (.BoolOp .Or (b :: jk) pos) tB'):PW X (.BoolOp .Or (a :: b :: jk) pos) (tOr tA tB'):=by
 intro wh jh s σ H Q I h;refine isTrue_or (thn (ha jh s σ H _ I h) λc s1 jp=>?_);obtain ⟨H1,I1,q1⟩:=jp
 cases c with
 | true=>exact ⟨H1,I1,q1⟩
 | false=>exact hb wh jh s1 σ H1 Q I1 q1
def Wx (ha:PT X a tA):PT X (.UnaryOp .Not a pos) (tNot tA):=by
 intro jh s σ H Q I h;exact isTrue_not (ha jh s σ H (λc H1=>Q (!c) H1) I h)
def Zsp (ta tb:TE):TE:=λσ H Q=>ta σ H λx H1=>∃ c,x=.bl c/\if c=true then tb σ H1 Q else Q (.bl false) H1
def Ze6 {op} {t:TE} (h:PE X a t):PE X (.BoolOp op [a] pos) t:=λjh s σ H Q I hw=>BoolOp_one (h jh s σ H Q I hw)
def Ze8 (ha:PE X a ta) (hb:PE X (.BoolOp .And (b :: jk) pos) tb):PE X (.BoolOp .And (a :: b :: jk) pos) (Zsp ta tb):=by
 intro jh s σ H Q I h;refine BoolOp_and (thn (ha jh s σ H _ I h) λv s1 jp=>?_);obtain ⟨x,H1,I1,r1,q1⟩:=jp;obtain ⟨c,rfl,q1⟩:=q1;cases r1;refine wpAny_truthy_bool ?_
 cases c with
 | true=>exact hb jh s1 σ H1 Q I1 q1
 | false=>exact ⟨.bl false,H1,I1,Y,q1⟩
def tIf (t:TT) (ta tb:TE):TE:=λσ H Q=>t σ H λc H1=>if c=true then ta σ H1 Q else tb σ H1 Q
def Vo {c:Expr} (hc:PT X c tA) (ha:PE X a ta) (hb:PE X b tb):PE X (.IfExp c a b pos) (tIf tA ta tb):=by
 intro jh s σ H Q I h;refine wpAny_IfExp (thn (hc jh s σ H _ I h) λd s1 jp=>?_);obtain ⟨H1,I1,q1⟩:=jp
 cases d with
 | true=>exact ha jh s1 σ H1 Q I1 q1
 | false=>exact hb jh s1 σ H1 Q I1 q1
end
def SqL (K:W.Frag) (H:Hp) (a:Addr) (xs:List V):Prop :=
 Rd H a (.lst xs) \/
  ∃ (o:Obj) (its:Array Value) (n:Nat),K.lookup a=some o/\o.cls=.type "list"/\o.dict=none/\o.data=.seq its n/\its.size<=sizeLine/\Vals xs its.toList
def SqT (K:W.Frag) (H:Hp) (a:Addr) (xs:List V):Prop :=
 Rd H a (.tup xs) \/
  ∃ (o:Obj) (its:Array Value) (n:Nat),K.lookup a=some o/\o.cls=.type "tuple"/\o.data=.seq its n/\its.size<=sizeLine/\Vals xs its.toList
noncomputable def absV:Value->Option V
 | .none=>some .non
 | .bool b=>some (.bl b)
 | .int i _=>some (.int i)
 | .str x _=>some (.str x)
 | .bytes b _=>some (.byt b)
 | .float b _=>some (.flt b)
 | .ref a=>some (.ref a)
 | .type n=>some (.ty n)
 | _=>none
def RelV.abs (r:RelV x u):absV u=some x:=by
 cases x with
 | non=>cases r; rfl
 | bl _=>cases r; rfl
 | int _=>obtain ⟨t,rfl⟩:=r; rfl
 | str _=>obtain ⟨t,rfl⟩:=r; rfl
 | byt _=>obtain ⟨t,rfl⟩:=r; rfl
 | flt _=>obtain ⟨t,rfl⟩:=r; rfl
 | ref _=>cases r; rfl
 | ty _=>cases r; rfl
def RelV.inj (r:RelV x u) (q:RelV y u):x=y:=Ax (r.abs.symm.trans q.abs)
theorem Vals.inj:∀ {xs ys:List V} {us:List Value},Vals xs us->Vals ys us->xs=ys
 | _,_,_,.nil,.nil=>rfl
 | _,_,_,.cons r t,.cons r' t'=>by rw [r.inj r',Vals.inj t t']
section
variable {X:Cx} {jh:List (m:)} {σ:St} {H:Hp} {s:Shared} {a:Addr} {xs ys:List V}
def SqL.of {K:W.Frag} (h:H a=some (.lst xs)):SqL K H a xs:=.inl (.inl h)
def SqT.of {K:W.Frag} (h:H a=some (.tup xs)):SqT K H a xs:=.inl (.inl h)
def Inv.list (I:Inv X jh σ H s) (h:SqL X.K H a xs):∃ its:List Value,Vals xs its/\PlainL s.heap a its.toArray/\xs.length<=sizeLine:=by
 rcases h with h | ⟨o,its,n,hk,hc,hd,hs,hz,r⟩
 ·obtain ⟨z,its,n,r,e⟩:=h.ok I.hok
  exact ⟨its,r,⟨_,n,e,Y,Y,Y⟩,z⟩
 ·refine ⟨its.toList,r,⟨o,n,I.kIn a o hk,hc,hd,by simpa using hs⟩,?_⟩
  have e:=r.length;simp only [Array.length_toList] at e;lia
def Inv.tuple (I:Inv X jh σ H s) (h:SqT X.K H a xs):∃ its:List Value,Vals xs its/\IsTup s.heap a its.toArray/\xs.length<=sizeLine:=by
 rcases h with h | ⟨o,its,n,hk,hc,hs,hz,r⟩
 ·obtain ⟨z,its,r,p⟩:=h.ok I.hok
  exact ⟨its,r,p,z⟩
 ·refine ⟨its.toList,r,⟨o,I.kIn a o hk,hc,n,by simpa using hs⟩,?_⟩
  have e:=r.length;simp only [Array.length_toList] at e;lia
def Inv.list_inj (I:Inv X jh σ H s) (h:SqL X.K H a xs) (h':SqL X.K H a ys):xs=ys:=by
 obtain ⟨its,r,⟨o,n,e,_,_,d⟩,_⟩:=I.list h;obtain ⟨its',r',⟨o',n',e',_,_,d'⟩,_⟩:=I.list h';rw [e] at e'; cases e';rw [d] at d'
 injection d' with d1 _
 have:its=its':=by simpa using congrArg Array.toList d1
 subst this;exact r.inj r'
def Inv.tuple_inj (I:Inv X jh σ H s) (h:SqT X.K H a xs) (h':SqT X.K H a ys):xs=ys:=by
 obtain ⟨its,r,⟨o,e,_,n,d⟩,_⟩:=I.tuple h;obtain ⟨its',r',⟨o',e',_,n',d'⟩,_⟩:=I.tuple h';rw [e] at e'; cases e';rw [d] at d'
 injection d' with d1 _
 have:its=its':=by simpa using congrArg Array.toList d1
 subst this;exact r.inj r'
end
abbrev Cx.wish (X:Cx) (E:Value->Shared->Prop):Cx:={ X with xe:=E }
abbrev Cx.nox (X:Cx):Cx:=X.wish λ_ _=>False
def Cx.Ok.wish {X:Cx} (ok:X.Ok) (E:Value->Shared->Prop):(X.wish E).Ok :=
 ⟨ok.mod,ok.kind,ok.glob,ok.blt,ok.above,ok.inj,ok.has,ok.cab,ok.hd,ok.frames,ok.stk,ok.exf,ok.bs,ok.bsz,ok.noex,ok.exfs,ok.funs,ok.frf⟩
def Cx.Ok.unwish {X:Cx} (ok:(X.wish E).Ok):X.Ok :=
 ⟨ok.mod,ok.kind,ok.glob,ok.blt,ok.above,ok.inj,ok.has,ok.cab,ok.hd,ok.frames,ok.stk,ok.exf,ok.bs,ok.bsz,ok.noex,ok.exfs,ok.funs,ok.frf⟩
section
variable {X:Cx} {jh:List (m:)} {σ:St} {H:Hp} {s:Shared} {E:Value->Shared->Prop}
def Inv.wish (I:Inv X jh σ H s) (E:Value->Shared->Prop):Inv (X.wish E) jh σ H s:=⟨I.ok.wish E,I.os,I.bare,I.base,I.loc,I.cell,I.free,I.freeC,I.pin,I.hok,I.len⟩
def Inv.unwish (I:Inv (X.wish E) jh σ H s):Inv X jh σ H s:=⟨I.ok.unwish,I.os,I.bare,I.base,I.loc,I.cell,I.free,I.freeC,I.pin,I.hok,I.len⟩
def SP.unwish (h:SP (X.wish E) jh D f s'):SP X jh D f s':=by
 cases f with
 | next=>obtain ⟨σ',H',I,q⟩:=h; exact ⟨σ',H',I.unwish,q⟩
 | brk=>obtain ⟨σ',H',I,q⟩:=h; exact ⟨σ',H',I.unwish,q⟩
 | cont=>obtain ⟨σ',H',I,q⟩:=h; exact ⟨σ',H',I.unwish,q⟩
 | ret u=>obtain ⟨v,σ',H',I,r,q⟩:=h; exact ⟨v,σ',H',I.unwish,r,q⟩
def PSs.nox {st:List Stmt} {t:TS} (h:PSs X.nox st t):PSs X st t:=λjh s σ H D I hw =>
 wpAny_mono (h jh s σ H D (I.wish _) hw) (λ_ _ q=>q.unwish) λ_ _ z=>False.elim z
end
section
variable {X:Cx} {st:Stmt} {jk:List Stmt} {t u:TS} {e:Expr} {te:TE} {pos:Pos}
def Wz:TS:=λD σ H=>D.nx σ H
def tSeq (t u:TS):TS:=λD σ H=>t { D with nx:=u D } σ H
def Zx:PSs X [] Wz:=λ_ _ σ H _ I h=>wpAny_execs_nil ⟨σ,H,I,h⟩
def Zd (h1:PS X st t) (h2:PSs X jk u):PSs X (st :: jk) (tSeq t u):=by
 intro jh s σ H D I h;refine wpAny_execs_cons (thn (h1 jh s σ H { D with nx:=u D } I h) λf s1 q=>?_)
 cases f with
 | next =>
  obtain ⟨σ',H',I',q⟩:=q;exact h2 jh s1 σ' H' D I' q
 | ret v=>exact q
 | brk=>exact q
 | cont=>exact q
def Zg (h1:PS X st t):PSs X [st] t:=by
 intro jh s σ H D I h;refine wpAny_execs_cons (thn (h1 jh s σ H D I h) λf s1 q=>?_)
 cases f with
 | next=>exact wpAny_execs_nil q
 | ret v=>exact q
 | brk=>exact q
 | cont=>exact q
def Zq1:TS:=λD σ H=>D.bk σ H
def Zmr:PS X (.Break pos) Zq1:=λ_ _ σ H _ I h=>wpAny_Break ⟨σ,H,I,h⟩
def Inv.quiet {jh:List (m:)} {σ:St} {H:Hp} {s:Shared} (I:Inv X jh σ H s):interactive X.env=false:=by simp [interactive,I.ok.kind]
def Zn1 (te:TE):TS:=λD σ H=>te σ H λ_ H1=>D.nx σ H1
def Z3 (he:PE X e te) (hs:swapsWith e none pos.line X.env=pure false:=by rfl):PS X (.Expr e pos) (Zn1 te):=by
 intro jh s σ H D I h;refine wpAny_Expr_any (thn (he jh s σ H _ I h) λv s1 zz2=>?_) I.quiet hs;obtain ⟨x,H1,I1,r1,q1⟩:=zz2;exact ⟨σ,H1,I1,q1⟩
def tRet (te:TE):TS:=λD σ H=>te σ H D.rt
def Zm (he:PE X e te):PS X (.Return (some e) pos) (tRet te):=by
 intro jh s σ H D I h;refine wpAny_Return_some (thn (he jh s σ H _ I h) λv s1 zz3=>?_);obtain ⟨x,H1,I1,r1,q1⟩:=zz3;exact ⟨x,σ,H1,I1,r1,q1⟩
def tIfS (c:TT) (t u:TS):TS:=λD σ H=>c σ H λb H1=>if b=true then t D σ H1 else u D σ H1
def Z2 {c:Expr} {a b:List Stmt} {tc:TT} (hc:PT X c tc) (ha:PSs X a t) (hb:PSs X b u):PS X (.If c a b pos) (tIfS tc t u):=by
 intro jh s σ H D I h;refine wpAny_If (thn (hc jh s σ H _ I h) λd s1 jp=>?_);obtain ⟨H1,I1,q1⟩:=jp
 cases d with
 | true=>exact ha jh s1 σ H1 D I1 q1
 | false=>exact hb jh s1 σ H1 D I1 q1
def Zjy:TS:=λ_ _ _=>False
def Zmq:PS X st Zjy:=λ_ _ _ _ _ _ h=>h.elim
def Yg:PSs X sts Zjy:=λ_ _ _ _ _ _ h=>h.elim
end
abbrev TG:=V->St->Hp->(St->Hp->Prop)->Prop
abbrev TGs:=List V->St->Hp->(St->Hp->Prop)->Prop
def PG (X:Cx) (xy:Expr) (t:TG):Prop :=
 ∀ jh s σ H (v:V) (u:Value) (Q:St->Hp->Prop),Inv X jh σ H s->RelV v u->t v σ H Q ->
  wpAny (c:) X.A (assign xy X.env u) (λ_ s'=>∃ σ' H',Inv X jh σ' H' s'/\Q σ' H') X.xe s
def PGs (X:Cx) (ts:List Expr) (t:TGs):Prop :=
 ∀ jh s σ H (vs:List V) (us:List Value) (Q:St->Hp->Prop),Inv X jh σ H s->Vals vs us->t vs σ H Q ->
  wpAny (c:) X.A (assignInOrder ((assignEach ts X.env).map (·.2)) us) (λ_ s'=>∃ σ' H',Inv X jh σ' H' s'/\Q σ' H') X.xe s
abbrev TSet:=V->V->V->Hp->(Hp->Prop)->Prop
def PSet (X:Cx) (t:TSet):Prop :=
 ∀ jh s σ H (o i v:V) (ov iv u:Value) (Q:Hp->Prop),Inv X jh σ H s->RelV o ov->RelV i iv->RelV v u->t o i v H Q ->
  wpAny (c:) X.A (setItem ov iv u) (λ_ s'=>∃ H',Inv X jh σ H' s'/\Q H') X.xe s
abbrev TIp:=V->V->Hp->VK->Prop
def PIp (X:Cx) (op:Operator) (t:TIp):Prop :=
 ∀ jh s σ H (x y:V) (v u:Value) (Q:VK),Inv X jh σ H s->RelV x v->RelV y u->t x y H Q ->
  wpAny (c:) X.A (inplaceOp op v u) (EP X jh σ Q) X.xe s
section
variable {X:Cx} {pos:Pos}
def Zj (i:Nat):TG:=λv σ H Q=>Q (σ.set i (some v)) H
def Zk (hN:X.N.Nodup) (hi:X.N[i]?=some x) (hx:Loc X.env.scope x) (hf:X.fn x=true\/X.env.scope.names.lookup x=some .local:=by first | exact .inl rfl | exact .inr rfl | assumption):PG X (.Name x pos) (Zj i):=by
 intro jh s σ H v u Q I r h;exact wpAny_assign_Name (W7 I hN hi hx r (λs' I'=>⟨_,H,I',h⟩) hf)
def gNil:TGs:=λvs σ H Q=>vs=[]/\Q σ H
def Zte (t:TG) (u:TGs):TGs:=λvs σ H Q=>∃ v r,vs=v :: r/\t v σ H λσ' H'=>u r σ' H' Q
def Xg:PGs X [] gNil:=by
 intro jh s σ H vs us Q I r h;obtain ⟨e,h⟩:=h;subst e;cases r;exact assignInOrder_nil ⟨σ,H,I,h⟩
def Z0 {e:Expr} {es:List Expr} {t:TG} {u:TGs} (h1:PG X e t) (h2:PGs X es u)
  (hs:(assignEach (e :: es) X.env).map (·.2)=assign e X.env :: (assignEach es X.env).map (·.2):=by rfl):PGs X (e :: es) (Zte t u):=by
 intro jh s σ H vs us Q I r h;obtain ⟨v,vr,e1,h⟩:=h;subst e1
 cases r with
 | cons r rr =>
  rw [hs];refine assignInOrder_cons (thn (h1 jh s σ H _ _ _ I r h) λ_ s1 jp=>?_);obtain ⟨σ1,H1,I1,q1⟩:=jp;exact h2 jh s1 σ1 H1 _ _ Q I1 rr q1
def gTup (K:W.Frag) (n:Nat) (t:TGs):TG:=λv σ H Q=>∃ a xs,v=.ref a/\SqT K H a xs/\xs.length=n/\t xs σ H Q
def Ji (hc:X.calm=true) (h:PGs X es t)
  (hn:(assignEach es X.env).length=n:=by rfl) (k7:(assignEach es X.env).findIdx? (·.1)=none:=by rfl):PG X (.Tuple es k pos) (gTup X.K n t):=by
 intro jh s σ H v u Q I r hw;obtain ⟨a,xs,e1,hq,hl,hw⟩:=hw;subst e1;cases r;obtain ⟨its,rv,ht,hz⟩:=I.tuple hq;refine assign_Tuple_tuple (I.ok.hd hc) ht (by simp [hn,<- hl,rv.length]) k7 λh' hx=>?_;have I1:Inv X jh σ H { s with heap:=h' }:=I.kept (t':=s.toks) λb o e=>hx b o (As (Ao e)) e;exact h jh _ σ H xs _ Q I1 (by simpa using rv) hw
def gSub (to ti:TE) (t:TSet):TG:=λv σ H Q=>to σ H λo H1=>ti σ H1 λi H2=>t o i v H2 λH3=>Q σ H3
def Zag {o i:Expr} {to ti:TE} {t:TSet} (ho:PE X o to) (hi:PE X i ti) (hs:PSet X t)
  (ha:∀ v,assign (.Subscript o i pos) X.env v=(do
   let ov <- holding [v] (eval o X.env)
   let iv <- holding [v,ov] (eval i X.env)
   standAt pos
   holding [v,ov,iv] (setItem ov iv v)
   release [v,ov,iv] []):=by intro _; rfl):PG X (.Subscript o i pos) (gSub to ti t):=by
 intro jh s σ H v u Q I r h;rw [ha];refine Al (wpAny_holding (thn (ho jh s σ H _ I h) λov s1 jp=>?_));obtain ⟨x,H1,I1,r1,q1⟩:=jp;refine Al (wpAny_holding (thn (hi jh s1 σ H1 _ I1 q1) λiv s2 jp=>?_));obtain ⟨y,H2,I2,r2,q2⟩:=jp;refine Al (wpAny_standAt (Al (wpAny_holding (thn (hs jh s2 σ H2 x y v ov iv u _ I2 r1 r2 r q2) λ_ s3 jp=>?_))));obtain ⟨H3,I3,q3⟩:=jp;exact wpAny_release ⟨σ,H3,I3,q3⟩
def tAsg (te:TE) (g:TG):TS:=λD σ H=>te σ H λx H1=>g x σ H1 D.nx
def Qe {tg e:Expr} {te:TE} {g:TG} (he:PE X e te) (hg:PG X tg g) (hs:swapsWithSole [tg] e pos.line X.env=pure false:=by rfl) (hw:swappedStores [tg] e X.env=pure none:=by rfl)
  (h1:(assignEach [tg] X.env).map (·.2)=[assign tg X.env]:=by rfl):PS X (.Assign [tg] e pos) (tAsg te g):=by
 intro jh s σ H D I h;refine wpAny_Assign_stores (thn (he jh s σ H _ I h) λv s1 zz4=>?_) hs hw;obtain ⟨x,H1,I1,r1,q1⟩:=zz4;rw [h1];exact thn (hg jh s1 σ H1 x v _ I1 r1 q1) λ_ s2 q=>q
def Zp {i:Nat} {x:Str} {e:Expr} {te:TE} {lz:Pos} (hN:X.N.Nodup) (hi:X.N[i]?=some x) (hx:Loc X.env.scope x) (he:PE X e te) (hs:swapsWith e (some (.Name x lz)) pos.line X.env=pure false:=by rfl) (hf:X.fn x=true\/X.env.scope.names.lookup x=some .local:=by first | exact .inl rfl | exact .inr rfl | assumption) :
  PS X (.Assign [.Name x lz] e pos) (tAsg te (Zj i)):=by
 intro jh s σ H D I h;refine wpAny_Assign_Name (thn (he jh s σ H _ I h) λv s1 zz5=>?_) hs;obtain ⟨y,H1,I1,r1,q1⟩:=zz5;exact W7 I1 hN hi hx r1 (λs2 I2=>⟨_,H1,I2,q1⟩) hf
def tPar (i j:Nat) (ta:TA):TS:=λD σ H=>ta σ H λvs H1=>∃ v w,vs=[v,w]/\D.nx ((σ.set i (some v)).set j (some w)) H1
def Vl {i j:Nat} {x y:Str} {a b:Expr} {ta:TA} {px py pt:Pos} {kt k2 pt2} (hc:X.calm=true) (hN:X.N.Nodup) (hi:X.N[i]?=some x) (hj:X.N[j]?=some y) (hij:i≠j)
  (hx:X.env.scope.names.lookup x=some .local) (hy:X.env.scope.names.lookup y=some .local) (ha:PA X [a,b] ta)
  (hw:swappedStores [.Tuple [.Name x px,.Name y py] kt pt] (.Tuple [a,b] k2 pt2) X.env=pure (some [x,y]))
  (hs:swapsWithSole [.Tuple [.Name x px,.Name y py] kt pt] (.Tuple [a,b] k2 pt2) pos.line X.env=pure false:=by rfl) :
  PS X (.Assign [.Tuple [.Name x px,.Name y py] kt pt] (.Tuple [a,b] k2 pt2) pos) (tPar i j ta):=by
 intro jh s σ H D I h;rw [exec_Assign_arm];refine Al (wpAny_standAt ?_);rw [hs];refine Al (wpAny_pure ?_);rw [if_neg (d:)];refine Al (Tuple_ (thn (ha _ jh s σ H _ I h) λus s1 jp=>?_));obtain ⟨vs,H1,I1,r1,q1⟩:=jp;obtain ⟨v,w,e1,q1⟩:=q1;subst e1
 obtain ⟨u1,u2,rfl,rv,nu⟩:∃ u1 u2,us=[u1,u2]/\RelV v u1/\RelV w u2:=by
  cases r1 with
  | cons p q =>
   cases q with
   | cons p' q' =>
    cases q';exact ⟨_,_,Y,p,p'⟩
 refine wpAny_newObj_type ?_ (by show 2<=sizeLine; decide);have I2:Inv X jh σ H1 { s1 with heap:=s1.heap.push { cls:=.type "tuple",data:=.seq [u1,u2].toArray } }:=I1.kept (t':=s1.toks) λb o e=>Ak _ e;rw [hw];refine Al (wpAny_pure ?_);show wpAny (c:) X.A (do rule "assign.swapped-stores"; let items <- unpackItems (.ref s1.heap.objs.size) 2 none; assignInOrder [λv=>bindName X.env y v,λv=>bindName X.env x v] items.reverse; pure Flow.next) _ _ _;refine Al (wpAny_rule (Al (unpackItems_tuple (items:=#[u1,u2]) (I.ok.hd hc) (IsTup.new s1.heap _) λh' mf=>?_)));have I3:=I2.kept (h':=h') (t':=s1.toks) λb o e=>mf b o (As (Ao e)) e;show wpAny _ _ (assignInOrder [λv=>bindName X.env y v,λv=>bindName X.env x v] [u2,u1] >>= λ_=>pure Flow.next) _ _ _;refine Al (assignInOrder_cons (wpAny_bindName (W7 I3 hN hj (.inl hy) nu (λs2 I4=>?_) (.inr hy))));refine assignInOrder_cons (wpAny_bindName (W7 I4 hN hi (.inl hx) rv (λs3 I5=>assignInOrder_nil (wpAny_pure ?_)) (.inr hx)));rw [set_comm _ _ (Ne.symm hij)] at I5;exact ⟨_,H1,I5,q1⟩
def tAug (i:Nat) (te:TE) (ti:TIp):TS:=λD σ H=>∃ x,σ[i]?=some (some x)/\te σ H λy H1=>ti x y H1 λz H2=>D.nx (σ.set i (some z)) H2
def Ze1 {i:Nat} {x:Str} {e:Expr} {te:TE} {op:Operator} {ti:TIp} {lz:Pos} (hN:X.N.Nodup) (hi:X.N[i]?=some x) (hx:Loc X.env.scope x) (he:PE X e te) (ho:PIp X op ti) (hf:X.fn x=true\/X.env.scope.names.lookup x=some .local:=by first | exact .inl rfl | exact .inr rfl | assumption) :
  PS X (.AugAssign (.Name x lz) op e pos) (tAug i te ti):=by
 intro jh s σ H D I h;obtain ⟨v,e1,h⟩:=h;obtain ⟨m,hn,hl⟩:=I.loc
 have vis:Vis X.env.scope x:=by rcases hx with k | k; exact .inl k; exact .inr (.inl k)
 obtain ⟨u,r,l⟩:=hl i x v hi e1 vis;refine wpAny_AugAssign_Name ?_;have go:wpAny (c:) X.A (eval e X.env) (λw s₂=>wpAny (c:) X.A (inplaceOp op u w) (λr s₃=>wpAny (c:) X.A (storeName X.env x r) (λ_=>SP X jh D .next) X.xe s₃) X.xe s₂) X.xe s:=by
  refine thn (he jh s σ H _ I h) λw s1 jp=>?_
  obtain ⟨y,H1,I1,r1,q1⟩:=jp
  refine thn (ho jh s1 σ H1 v y u w _ I1 r r1 q1) λz s2 jp=>?_
  obtain ⟨zv,H2,I2,r2,q2⟩:=jp
  exact W7 I2 hN hi hx r2 (λs3 I3=>⟨_,H2,I3,q2⟩) hf
 rcases l with ⟨hk,hm⟩ | ⟨hk,c,hc,hcell⟩
 ·exact wpAny_loadName_local I.ok.kind hk hn hm go
 ·rcases hk with hk | hk
  ·exact wpAny_loadName_cell I.ok.kind hk hc hcell go
  ·rcases hx with k | k
   ·have:X.env.scope.names.lookup x=some .free:=hk
    rw [k] at this; cases this
   ·have:X.env.scope.names.lookup x=some .free:=hk
    rw [k] at this; cases this
def Zso (to ti te:TE) (uv:V->V->Hp->VK->Prop) (tip:TIp) (uu:TSet):TS:=λD σ H=>to σ H λo H1=>ti σ H1 λi H2=>uv o i H2 λx H3=>te σ H3 λy H4=>tip x y H4 λz H5=>uu o i z H5 λH6=>D.nx σ H6
def PGet (X:Cx) (t:V->V->Hp->VK->Prop):Prop :=
 ∀ jh s σ H (o i:V) (ov iv:Value) (Q:VK),Inv X jh σ H s->RelV o ov->RelV i iv->t o i H Q ->
  wpAny (c:) X.A (getItem ov iv) (EP X jh σ Q) X.xe s
def Zhn {o i e:Expr} {to ti te:TE} {uv:V->V->Hp->VK->Prop} {tip:TIp} {uu:TSet} {op:Operator} {m6:Pos} (ho:PE X o to) (hi:PE X i ti) (hg:PGet X uv) (he:PE X e te) (hp:PIp X op tip) (hs:PSet X uu)
  (ha:∀ ov iv new,augStore i ov iv new=(do holding [new,ov,iv] (setItem ov iv new); release [new,ov,iv] []; pure .next):=by intros; rfl):PS X (.AugAssign (.Subscript o i m6) op e pos) (Zso to ti te uv tip uu):=by
 intro jh s σ H D I h;refine wpAny_AugAssign_SubscriptAny (thn (ho jh s σ H _ I h) λov s1 zz6=>?_) ha;obtain ⟨x1,H1,I1,r1,q1⟩:=zz6;refine thn (hi jh s1 σ H1 _ I1 q1) λiv s2 jp=>?_;obtain ⟨x2,H2,I2,r2,q2⟩:=jp;refine thn (hg jh s2 σ H2 x1 x2 ov iv _ I2 r1 r2 q2) λlf s3 jp=>?_;obtain ⟨x3,H3,I3,r3,q3⟩:=jp;refine thn (he jh s3 σ H3 _ I3 q3) λv s4 jp=>?_;obtain ⟨x4,H4,I4,r4,q4⟩:=jp;refine thn (hp jh s4 σ H4 x3 x4 lf v _ I4 r3 r4 q4) λnew s5 jp=>?_;obtain ⟨x5,H5,I5,r5,q5⟩:=jp;refine thn (hs jh s5 σ H5 x1 x2 x5 ov iv new _ I5 r1 r2 r5 q5) λ_ s6 yw=>?_;obtain ⟨H6,I6,q6⟩:=yw;exact ⟨σ,H6,I6,q6⟩
def ipI (f:Int->Int->Int):TIp:=λx y H Q=>∃ i j,x=.int i/\y=.int j/\Q (.int (f i j)) H
def Zla:PIp X .Add (ipI λi j=>i + j):=by
 intro jh s σ H x y v u Q I r1 r2 h;obtain ⟨i,j,e1,e2,q⟩:=h;subst e1; subst e2;obtain ⟨t,rfl⟩:=r1;obtain ⟨t',rfl⟩:=r2;exact iadd_int ⟨.int _,H,I.tok _,⟨_,Y⟩,q⟩
def O5 (c:TT) (tb:TS):TS:=λD σ H=>∃ W:Nat->St->Hp->Prop,(∃ m,W m σ H)/\∀ m σ H,W m σ H ->
 c σ H λb H1=>if b=true then ∃ N:St->Hp->Prop,(∀ σ' H',N σ' H'->∃ m',m' < m/\W m' σ' H')/\tb { D with nx:=N,ct:=N,bk:=D.nx } σ H1 else D.nx σ H1
def Ju {c:Expr} {body:List Stmt} {tc:TT} {tb:TS} (hp:PassesOwn (c:) X.A X.env X.xe) (hc:PT X c tc) (hb:PSs X body tb):PS X (.While c body [] pos) (O5 tc tb):=by
 intro jh s σ H D I h;obtain ⟨W,⟨m0,w0⟩,turn⟩:=h;refine wpAny_While (codeAny_whileLoop (λn s'=>∃ σ' H',Inv X jh σ' H' s'/\W n σ' H') ?_ m0 ⟨σ,H,I,w0⟩);rintro n s1 ⟨σ1,H1,I1,w1⟩;refine wpAny_passesOwn hp (thn (hc jh s1 σ1 H1 _ I1 (turn n σ1 H1 w1)) λb s2 jp=>?_);obtain ⟨H2,I2,q2⟩:=jp
 cases b with
 | true =>
  obtain ⟨N,hN,q2⟩:=q2;rw [if_pos rfl];refine wpAny_passesOwn hp (thn (hb jh s2 σ1 H2 _ I2 q2) λf s3 q3=>?_)
  cases f with
  | next =>
   obtain ⟨σ3,H3,I3,n3⟩:=q3;obtain ⟨m',hm,w3⟩:=hN σ3 H3 n3;exact ⟨m',hm,σ3,H3,I3,w3⟩
  | cont =>
   obtain ⟨σ3,H3,I3,n3⟩:=q3;obtain ⟨m',hm,w3⟩:=hN σ3 H3 n3;exact ⟨m',hm,σ3,H3,I3,w3⟩
  | brk=>exact q3
  | ret v=>exact q3
 | false =>
  rw [if_neg Bool.false_ne_true];exact wpAny_execs_nil ⟨σ1,H2,I2,q2⟩
end
structure It where
 go:Nat->Hp->Prop
 yld:Nat->Hp->V->Hp->Prop
 stop:Nat->Hp->Prop
def FpOk (X:Cx) (jh:List (m:)) (H:Hp) (b:Addr):Prop :=
 H b=none/\b≠X.env.locals/\b ∉ X.fs/\(b∈X.ex\/X.s₀.heap.objs.size<=b)/\(∀ x c,X.env.cells.lookup x=some c->c≠b)/\∀ p∈X.pn ++ jh,p.1≠b
def Inv.fpOk {X:Cx} {jh:List (m:)} {σ:St} {H H':Hp} {s:Shared} {b:Addr} (I:Inv X jh σ H s) (hb:s.heap.objs.size<=b) (hn:H' b=none):FpOk X jh H' b:=by
 refine ⟨hn,Nat.ne_of_gt (Ag I.lt hb),I.nofs hb,.inr (Nat.le_trans I.sz hb),λx c e z=>?_,λp hp z=>?_⟩
 ·obtain ⟨v,q⟩:=I.cell x c e
  exact absurd (Ag q.lt (by rw [z]; exact hb)) (Nat.lt_irrefl _)
 ·exact absurd (Ag (Ao (I.pin p hp).1) (by rw [z]; exact hb)) (Nat.lt_irrefl _)
structure Turn (P:Program) (w:World) (K:W.Frag) (tg:Expr) (J:It) (fp:List Addr) (it:Addr) (tn:Nat->Heap->Prop):Prop where
 mem:it∈fp
 obj:∀ i h,tn i h->∀ b∈fp,∃ o,h.get? b=some o/\∀ v,o.data≠.cell v
 keep:∀ i h h',tn i h->(∀ b∈fp,∀ o,h.get? b=some o->h'.get? b=some o)->tn i h'
 item:∀ (X:Cx),X.prog=P->X.w=w->X.K=K->X.calm=true->∀ (i:Nat) (jh:List (m:)) (s:Shared) (σ:St) (H:Hp) (E:Value->Shared->Prop),Inv X jh σ H s->(∀ b∈fp,FpOk X jh H b)->tn i s.heap->J.go i H ->
  wpAny (model P w) X.A (pyNext (.ref it)) (λr s1=>∃ u,r=some u /\
   wpAny (model P w) X.A (letOwnedTupleGo tg (.ref it) u) (λ_ s2=>∃ x H',Inv X jh σ H' s2/\RelV x u/\J.yld i H x H'/\tn (i + 1) s2.heap/\∀ b∈fp,H' b=none) E s1) E s
 done:∀ (X:Cx),X.prog=P->X.w=w->X.K=K->X.calm=true->∀ (i:Nat) (jh:List (m:)) (s:Shared) (σ:St) (H:Hp) (E:Value->Shared->Prop),Inv X jh σ H s->(∀ b∈fp,FpOk X jh H b)->tn i s.heap->J.stop i H ->
  wpAny (model P w) X.A (pyNext (.ref it)) (λr s1=>r=none/\Inv X jh σ H s1) E s
 self:∀ (A:Around) (i:Nat) (s:Shared) (Q:Value->Shared->Prop) (E:Value->Shared->Prop),tn i s.heap->Q (.ref it) s->wpAny (model P w) A (pyIter (.ref it)) Q E s
abbrev TI:=St->Hp->(It->Hp->Prop)->Prop
def PIE (X:Cx) (jh:List (m:)) (σ:St) (tg:Expr) (R:It->Hp->Prop) (zf:Value) (s2:Shared):Prop :=
 ∃ (it:Addr) (fp:List Addr) (tn:Nat->Heap->Prop) (J:It) (H':Hp),zf=.ref it/\Inv X jh σ H' s2/\Turn X.prog X.w X.K tg J fp it tn/\tn 0 s2.heap/\(∀ b∈fp,FpOk X jh H' b)/\R J H'
def PI (X:Cx) (tg iter:Expr) (wi:TI):Prop :=
 ∀ jh s σ H (R:It->Hp->Prop),Inv X jh σ H s->wi σ H R ->
  wpAny (c:) X.A (eval iter X.env) (λv s1=>wpAny (c:) X.A (pyIter v) (PIE X jh σ tg R) X.xe s1) X.xe s
def Oe {s:Shared} {o:Obj} (ho:s.heap.get? it=some o) (hc:o.cls=.type n) (hd:o.data=.fields vs)
    (hn:["enumerate","zip","dict_itemiterator","dict_reverseitemiterator","odict_iterator","itertools.zip_longest","itertools.pairwise"].contains n=false) (hQ:Q () s):wpAny M A (letOwnedTupleGo tg (.ref it) u) Q E s:=by
  unfold letOwnedTupleGo
  cases tg <;> first
    | exact wpAny_pure hQ
    | (cases u <;> first
        | exact wpAny_pure hQ
        | (refine Al (wpAny_load ho ?_)
           rw [hc,hd];show wpAny M A (if (["enumerate","zip","dict_itemiterator","dict_reverseitemiterator","odict_iterator","itertools.zip_longest","itertools.pairwise"].contains n && vs[0]? == some (rawInt _))=true then _ else _) Q E s;rw [if_neg (by intro h; rw [hn,Bool.false_and] at h; cases h)]
           exact wpAny_pure hQ))
noncomputable def Itl (K:W.Frag) (a:Addr):It :=
 ⟨λi H=>∃ xs x,SqL K H a xs/\xs[i]?=some x,λi H x H'=>H'=H/\∀ xs,SqL K H a xs->xs[i]?=some x,λi H=>∃ xs,SqL K H a xs/\xs.length<=i⟩
noncomputable def Itt (K:W.Frag) (a:Addr):It :=
 ⟨λi H=>∃ xs x,SqT K H a xs/\xs[i]?=some x,λi H x H'=>H'=H/\∀ xs,SqT K H a xs->xs[i]?=some x,λi H=>∃ xs,SqT K H a xs/\xs.length<=i⟩
noncomputable def Itr (lo:Int) (n:Nat):It:=⟨λi _=>i < n,λi H x H'=>H'=H/\x=.int (lo + i),λi _=>n<=i⟩
def Zjw {P:Program} {w:World} {K:W.Frag} {tg:Expr} (a it:Addr):Turn P w K tg (Itl K a) [it] it (λi h=>h.IsListIter it a i) where
 mem:=by simp
 obj:=λi h st b hb=>by
  have e:b=it:=by simpa using hb
  subst e;obtain ⟨o,e,c,d⟩:=st;exact ⟨o,e,λv z=>by rw [d] at z; cases z⟩
 keep:=λi h h' st k=>st.at λo e=>k it (by simp) o e
 item:=by
  intro X hP hw hK hc i jh s σ H E I hf st hg;subst hP hw hK;obtain ⟨xs,x,hq,hx⟩:=hg;obtain ⟨its,rv,p,hz⟩:=I.list hq;obtain ⟨u,hu,ru⟩:=rv.get hx;obtain ⟨f0,f1,f2,f3,f4,f5⟩:=hf it (by simp);refine wpAny_pyNext_list_item st p.isList (x:=u) (by simpa using hu) λh' ko sb=>?_;have I1:Inv X jh σ H { s with heap:=h' }:=I.turned (t':=s.toks) (λb o hb e=>(sb.2 b hb).trans e) f0 f1 f3 f4 f5;obtain ⟨o,e,c,d⟩:=id ko;exact ⟨u,Y,Oe (s:={ s with heap:=h' }) e c d (d:) ⟨x,H,I1,ru,⟨Y,λys hy=>by rw [I.list_inj hy hq]; exact hx⟩,ko,λb hb=>(hf b hb).1⟩⟩
 done:=by
  intro X hP hw hK hc i jh s σ H E I hf st hg;subst hP hw hK;obtain ⟨xs,hq,hx⟩:=hg;obtain ⟨its,rv,p,hz⟩:=I.list hq;obtain ⟨f0,f1,f2,f3,f4,f5⟩:=hf it (by simp);have hl:=rv.length;exact wpAny_pyNext_list_end (I.ok.hd hc) st p.isList (by simp; lia) λh' eb=>⟨rfl,I.turned (t':=s.toks) (λb o hb e=>eb b o hb e) f0 f1 f3 f4 f5⟩
 self:=λ_ _ _ _ _ st h=>wpAny_pyIter_listiter st h
def Zid {P:Program} {w:World} {K:W.Frag} {tg:Expr} (a it:Addr):Turn P w K tg (Itt K a) [it] it (λi h=>h.IsTupleIter it a i) where
 mem:=by simp
 obj:=λi h st b hb=>by
  have e:b=it:=by simpa using hb
  subst e;obtain ⟨o,e,c,d⟩:=st;exact ⟨o,e,λv z=>by rw [d] at z; cases z⟩
 keep:=λi h h' st k=>st.at λo e=>k it (by simp) o e
 item:=by
  intro X hP hw hK hc i jh s σ H E I hf st hg;subst hP hw hK;obtain ⟨xs,x,hq,hx⟩:=hg;obtain ⟨its,rv,p,hz⟩:=I.tuple hq;obtain ⟨u,hu,ru⟩:=rv.get hx;obtain ⟨f0,f1,f2,f3,f4,f5⟩:=hf it (by simp);refine wpAny_pyNext_tuple_item st (show s.heap.IsTuple a its.toArray from p) (x:=u) (by simpa using hu) λh' ko sb=>?_;have I1:Inv X jh σ H { s with heap:=h' }:=I.turned (t':=s.toks) (λb o hb e=>(sb.2 b hb).trans e) f0 f1 f3 f4 f5;obtain ⟨o,e,c,d⟩:=id ko;exact ⟨u,Y,Oe (s:={ s with heap:=h' }) e c d (d:) ⟨x,H,I1,ru,⟨Y,λys hy=>by rw [I.tuple_inj hy hq]; exact hx⟩,ko,λb hb=>(hf b hb).1⟩⟩
 done:=by
  intro X hP hw hK hc i jh s σ H E I hf st hg;subst hP hw hK;obtain ⟨xs,hq,hx⟩:=hg;obtain ⟨its,rv,p,hz⟩:=I.tuple hq;obtain ⟨f0,f1,f2,f3,f4,f5⟩:=hf it (by simp);have hl:=rv.length;exact wpAny_pyNext_tuple_end (I.ok.hd hc) st (show s.heap.IsTuple a its.toArray from p) (by simp; lia) λh' eb=>⟨rfl,I.turned (t':=s.toks) (λb o hb e=>eb b o hb e) f0 f1 f3 f4 f5⟩
 self:=λ_ _ _ _ _ st h=>wpAny_pyIter_tupleiter st h
def Zie {P:Program} {w:World} {K:W.Frag} {tg:Expr} (it:Addr) (lo:Int) (n:Nat):Turn P w K tg (Itr lo n) [it] it (λi h=>IsRangeIter h it (lo + (i:Nat) * 1) ((n:Int) - (i:Nat)) 1) where
 mem:=by simp
 obj:=λi h st b hb=>by
  have e:b=it:=by simpa using hb
  subst e;exact ⟨_,st,λv z=>by
   have z':Data.fields _=Data.cell v:=z
   cases z'⟩
 keep:=λi h h' st k=>k it (by simp) _ st
 item:=by
  intro X hP hw hK hc i jh s σ H E I hf st hg;subst hP hw hK;obtain ⟨f0,f1,f2,f3,f4,f5⟩:=hf it (by simp);have W:=Walks.range (prog:=X.prog) (w:=X.w) (I.ok.hd hc) it lo 1 n;refine W.item i s _ _ hg st λv h' tk hv ko kk=>?_;obtain ⟨t,rfl⟩:=hv;have I1:Inv X jh σ H { s with heap:=h',toks:=tk }:=I.turned (λb o hb e=>kk b o (by simpa using hb) e) f0 f1 f3 f4 f5;refine ⟨_,Y,Oe (s:={ s with heap:=h',toks:=tk }) (n:="range_iterator") ko rfl rfl (d:) ⟨.int (lo + i),H,I1,⟨t,?_⟩,⟨rfl,rfl⟩,ko,λb hb=>(hf b hb).1⟩⟩;rw [Int.mul_one]
 done:=by
  intro X hP hw hK hc i jh s σ H E I hf st hg;subst hP hw hK;obtain ⟨f0,f1,f2,f3,f4,f5⟩:=hf it (by simp);exact wpAny_pyNext_range_end (I.ok.hd hc) st (by have:n<=i:=hg; lia) λh' eb=>⟨rfl,I.turned (t':=s.toks) (λb o hb e=>eb b o hb e) f0 f1 f3 f4 f5⟩
 self:=λ_ _ _ _ _ st h=>wpAny_pyIter_rangeiter st h
section
variable {X:Cx} {tg:Expr}
def Zs9 (K:W.Frag) (tl:TE):TI:=λσ H R=>tl σ H λx H1=>∃ a,x=.ref a/\(∃ xs,SqL K H1 a xs)/\R (Itl K a) H1
def iTup (K:W.Frag) (tl:TE):TI:=λσ H R=>tl σ H λx H1=>∃ a,x=.ref a/\(∃ xs,SqT K H1 a xs)/\R (Itt K a) H1
def Yj {l:Expr} {tl:TE} (hl:PE X l tl):PI X tg l (Zs9 X.K tl):=by
 intro jh s σ H R I h;refine thn (hl jh s σ H _ I h) λv s1 jp=>?_;obtain ⟨x,H1,I1,r1,q1⟩:=jp;obtain ⟨a,e,⟨xs,hq⟩,q⟩:=q1;subst e;cases r1;obtain ⟨its,rv,p,hz⟩:=I1.list hq;refine wpAny_pyIter_list p.isList ?_;refine ⟨s1.heap.objs.size,[s1.heap.objs.size],_,_,H1,Y,I1.kept (t':=s1.toks) λb o e=>Ak _ e,Zjw a _,⟨_,Ap _ Y,Y,Y⟩,λb hb=>?_,q⟩;have e:b=s1.heap.objs.size:=by simpa using hb
 subst e;exact I1.fpOk (An _) (I1.hok.fresh (An _))
def Zre {l:Expr} {tl:TE} (hl:PE X l tl):PI X tg l (iTup X.K tl):=by
 intro jh s σ H R I h;refine thn (hl jh s σ H _ I h) λv s1 jp=>?_;obtain ⟨x,H1,I1,r1,q1⟩:=jp;obtain ⟨a,e,⟨xs,hq⟩,q⟩:=q1;subst e;cases r1;obtain ⟨its,rv,p,hz⟩:=I1.tuple hq;refine wpAny_pyIter_tuple (show s1.heap.IsTuple a its.toArray from p) ?_;refine ⟨s1.heap.objs.size,[s1.heap.objs.size],_,_,H1,Y,I1.kept (t':=s1.toks) λb o e=>Ak _ e,Zid a _,⟨_,Ap _ Y,Y,Y⟩,λb hb=>?_,q⟩;have e:b=s1.heap.objs.size:=by simpa using hb
 subst e;exact I1.fpOk (An _) (I1.hok.fresh (An _))
def Zey {jh:List (m:)} {σ:St} {H:Hp} {s:Shared} {R:It->Hp->Prop} {E:Value->Shared->Prop} {lo hi:Int} {t u v:Tok} {tk:Nat} (I:Inv X jh σ H s) (h1:-(2 ^ 62)<=lo) (h2:lo < 2 ^ 62) (h3:-(2 ^ 62)<=hi) (h4:hi < 2 ^ 62)
  (q:R (Itr lo (hi - lo).toNat) H):wpAny (c:) X.A (pyIter (.ref s.heap.objs.size)) (PIE X jh σ tg R) E { s with heap:=s.heap.push { cls:=.type "range",data:=.fields #[.int lo t,.int hi u,.int 1 v] },toks:=tk }:=by
 refine wpAny_pyIter_range (IsRange.new ..) (small_one h1 h2 h3 h4) ?_;have I1:Inv X jh σ H { s with heap:=s.heap.push { cls:=.type "range",data:=.fields #[.int lo t,.int hi u,.int 1 v] },toks:=tk }:=I.kept λb o e=>Ak _ e;refine ⟨(s.heap.push { cls:=.type "range",data:=.fields #[.int lo t,.int hi u,.int 1 v] }).objs.size,[(s.heap.push { cls:=.type "range",data:=.fields #[.int lo t,.int hi u,.int 1 v] }).objs.size],_,_,H,rfl,
  I1.kept (t':=tk) λb o e=>Ak _ e,Zie _ lo (hi - lo).toNat,?_,λb hb=>?_,q⟩
 ·have e1:lo + ((0:Nat):Int) * 1=lo:=by simp
  have e2:(((hi - lo).toNat:Nat):Int) - ((0:Nat):Int)=Builtin.Range.rangeSize lo hi 1:=by rw [rangeSize_one]; split <;> lia
  show IsRangeIter _ _ (lo + ((0:Nat):Int) * 1) ((((hi - lo).toNat:Nat):Int) - ((0:Nat):Int)) 1;rw [e1,e2];exact Ap _ Y
 ·have e:b=(s.heap.push { cls:=.type "range",data:=.fields #[.int lo t,.int hi u,.int 1 v] }).objs.size:=by simpa using hb
  subst e;exact I1.fpOk (An _) (I1.hok.fresh (An _))
def Zs7 (ta:TA):TI:=λσ H R=>ta σ H λvs H1=>∃ j:Int,vs=[.int j]/\-(2 ^ 62)<=j/\j < 2 ^ 62/\R (Itr 0 j.toNat) H1
def Zs6 (ta:TA):TI:=λσ H R=>ta σ H λvs H1=>∃ i j:Int,vs=[.int i,.int j]/\(-(2 ^ 62)<=i/\i < 2 ^ 62/\-(2 ^ 62)<=j/\j < 2 ^ 62)/\R (Itr i (j - i).toNat) H1
def X7 {a:Expr} {ta:TA} {p pos:Pos} (hg:Gl X "range") (hm:X.mg "range"=none) (ha:PA X [a] ta) (hs:starEach [a] X.env=[(false,eval a X.env)]:=by rfl):PI X tg (.Call (.Name "range" p) [a] [] pos) (Zs7 ta):=by
 intro jh s σ H R I h;refine Call_ (Xl I hg hm boot_range (PyProof.Rows.callWith_type1 (thn (ha pos jh s σ H _ I h) λus s1 zz8=>?_) hs Y));obtain ⟨vs,H1,I1,r1,q1⟩:=zz8;obtain ⟨j,e,q1,q2,q⟩:=q1;subst e
 cases r1 with
 | cons r rr =>
  cases rr;obtain ⟨t,rfl⟩:=r;exact call_range_1 (Zey I1 (by lia) (by lia) q1 q2 (by simpa using q))
def Zkp {a b:Expr} {ta:TA} {p pos:Pos} (hg:Gl X "range") (hm:X.mg "range"=none) (ha:PA X [a,b] ta) (hs:starEach [a,b] X.env=[(false,eval a X.env),(false,eval b X.env)]:=by rfl) (nj:starEach [b] X.env=[(false,eval b X.env)]:=by rfl) :
  PI X tg (.Call (.Name "range" p) [a,b] [] pos) (Zs6 ta):=by
 intro jh s σ H R I h;refine Call_ (Xl I hg hm boot_range (PyProof.Rows.callWith_type1 (thn (ha pos jh s σ H _ I h) λus s1 ⟨vs,H1,I1,r1,q1⟩=>?_) (by rw [hs,nj]) (by rw [nj]; rfl)));obtain ⟨i,j,e,⟨q1,q2,q3,q4⟩,q⟩:=q1;subst e
 cases r1 with
 | cons r rr =>
  cases rr with
  | cons r' rr =>
   cases rr;obtain ⟨t,rfl⟩:=r;obtain ⟨t',rfl⟩:=r';exact call_range_2 (Zey I1 q1 q2 q3 q4 q)
def tFor (wi:TI) (g:TG) (tb:TS):TS:=λD σ H=>wi σ H λJ H1=>∃ W:Nat->Nat->St->Hp->Prop,(∃ m,W 0 m σ H1)/\∀ i m σ H,W i m σ H ->
 (J.stop i H/\D.nx σ H)\/(J.go i H/\∃ N:St->Hp->Prop,(u:)/\∀ x H',J.yld i H x H'->g x σ H' λσ2 H2=>tb { D with nx:=N,ct:=N,bk:=D.nx } σ2 H2)
noncomputable def Kp (fp:List Addr) (h:Heap):List (m:):=fp.filterMap λb=>(h.get? b).map λo=>(b,o)
def Q3 {fp:List Addr} {h:Heap} {b:Addr} {o:Obj} (hb:b∈fp) (e:h.get? b=some o):(b,o)∈Kp fp h:=mem_filterMap.mpr ⟨b,hb,by rw [e]; rfl⟩
def Zky {h:Heap} {p:Addr × Obj} (hp:p∈Kp fp h):p.1∈fp/\h.get? p.1=some p.2:=by
 obtain ⟨b,hb,e⟩:=mem_filterMap.mp hp
 cases q:h.get? b with
 | none=>rw [q] at e; cases e
 | some o =>
  rw [q] at e;have e':(b,o)=p:=Ax e;subst e';exact ⟨hb,q⟩
def Inv.pinned {jh:List (m:)} {σ:St} {H:Hp} {s:Shared} {fp:List Addr} (I:Inv X jh σ H s) (hf:∀ b∈fp,FpOk X jh H b) (ho:∀ b∈fp,∃ o,s.heap.get? b=some o/\∀ v,o.data≠.cell v):Inv X (jh ++ Kp fp s.heap) σ H s :=
 I.pins_of λp hp=>(mem_append.mp hp).elim (λz=>I.pin p (mem_append_right _ z)) λz=>by
  obtain ⟨hb,e⟩:=Zky z;obtain ⟨f0,f1,f2,_⟩:=hf p.1 hb;obtain ⟨o,e',d⟩:=ho p.1 hb;rw [e] at e'; cases e';exact ⟨e,f0,f1,f2,d⟩
def Inv.unpinned {jh pl:List (m:)} {σ:St} {H:Hp} {s:Shared} (I:Inv X (jh ++ pl) σ H s):Inv X jh σ H s:=I.pins_of λp hp=>I.pin p (mem_append_right _ (mem_append_left _ hp))
def Xj {iter:Expr} {body:List Stmt} {wi:TI} {g:TG} {tb:TS} {pos:Pos} (hp:PassesOwn (c:) X.A X.env X.xe) (hc:X.calm=true) (hi:PI X tg iter wi) (hg:PG X tg g) (hb:PSs X body tb)
  (hs:∀ x,foldedSetIterable iter X.env x=pure x:=by intro _; rfl):PS X (.For tg iter body [] pos) (tFor wi g tb):=by
 intro jh s σ H D I h;refine wpAny_For (thn (hi jh s σ H _ I h) λv s1 h1=>thn h1 λzf s2 h2=>?_) hs;obtain ⟨it,fp,tn,J,H2,e,I2,T,kn,f2,W,⟨m0,w0⟩,turn⟩:=h2;subst e;have oz:∀ {H':Hp},(∀ b∈fp,H' b=none)->∀ b∈fp,FpOk X jh H' b:=λhn b hb=>⟨hn b hb,(f2 b hb).2⟩;refine codeAny_forLoop_any (λn s'=>∃ i σ' H',Inv X jh σ' H' s'/\tn i s'.heap/\(∀ b∈fp,H' b=none)/\W i n σ' H') ?_ m0 ⟨0,σ,H2,I2,kn,λb hb=>(f2 b hb).1,w0⟩;rintro n s3 ⟨i,σ3,H3,I3,ou,fr3,w3⟩
 rcases turn i n σ3 H3 w3 with ⟨stop,qn⟩ | ⟨go,N,hN,step⟩
 ·refine wpAny_passesOwn hp (thn (T.done X rfl rfl rfl hc i jh s3 σ3 H3 X.xe I3 (oz fr3) ou stop) λr s4 ⟨hr,I4⟩=>?_)
  subst hr;exact wpAny_execs_nil ⟨σ3,H3,I4,qn⟩
 ·refine wpAny_passesOwn hp (thn (T.item X rfl rfl rfl hc i jh s3 σ3 H3 X.xe I3 (oz fr3) ou go) λr s4 ⟨u,hr,h4⟩=>?_)
  subst hr;refine wpAny_passesOwn hp (thn h4 λ_ s5 jp=>?_);obtain ⟨x,H5,I5,r5,y5,wg,fr5⟩:=jp;have I5':=I5.pinned (oz fr5) (T.obj _ _ wg);refine wpAny_passesOwn hp (thn (hg _ s5 σ3 H5 x u _ I5' r5 (step x H5 y5)) λ_ s6 jp=>?_);obtain ⟨σ6,H6,I6,q6⟩:=jp;refine wpAny_passesOwn hp (thn (hb _ s6 σ6 H6 _ I6 q6) λf s7 q7=>?_);have again:∀ {σ7:St} {H7:Hp},Inv X (jh ++ Kp fp s5.heap) σ7 H7 s7->N σ7 H7->∃ m,m < n/\∃ i σ' H',Inv X jh σ' H' s7/\tn i s7.heap/\(∀ b∈fp,H' b=none)/\W i m σ' H':=λ{σ7 H7} I7 n7=>by
   obtain ⟨m',hm,w7⟩:=hN σ7 H7 n7
   refine ⟨m',hm,i + 1,σ7,H7,I7.unpinned,T.keep _ _ _ wg λb hb o e=>(I7.pin (b,o) (mem_append_right _ (mem_append_right _ (Q3 hb e)))).1,λb hb=>?_,w7⟩
   obtain ⟨o,e,d⟩:=T.obj _ _ wg b hb
   exact (I7.pin (b,o) (mem_append_right _ (mem_append_right _ (Q3 hb e)))).2.1
  cases f with
  | next=>obtain ⟨σ7,H7,I7,n7⟩:=q7; exact again I7 n7
  | cont=>obtain ⟨σ7,H7,I7,n7⟩:=q7; exact again I7 n7
  | brk=>obtain ⟨σ7,H7,I7,q7⟩:=q7; exact ⟨σ7,H7,I7.unpinned,q7⟩
  | ret v=>obtain ⟨x7,σ7,H7,I7,r7,q7⟩:=q7; exact ⟨x7,σ7,H7,I7.unpinned,r7,q7⟩
end
def J5 {K:W.Frag} {a:Addr} {xs:List V} {g:TG} {tb:TS} {D:Ends} {σ:St} {H:Hp} (Pv:Nat->St->Hp->Prop) (h0:Pv 0 σ H) (hl:∀ i σ H,i<=xs.length->Pv i σ H->SqL K H a xs)
  (hs:∀ i x σ H,xs[i]?=some x->Pv i σ H->g x σ H λσ2 H2=>tb { D with nx:=Pv (i + 1),ct:=Pv (i + 1),bk:=D.nx } σ2 H2) (hd:∀ σ H,Pv xs.length σ H->D.nx σ H) :
  ∃ W:Nat->Nat->St->Hp->Prop,(∃ m,W 0 m σ H)/\∀ i m σ H,W i m σ H ->
   ((Itl K a).stop i H/\D.nx σ H)\/((Itl K a).go i H/\∃ N:St->Hp->Prop,(u:)/\∀ x H',(Itl K a).yld i H x H'->g x σ H' λσ2 H2=>tb { D with nx:=N,ct:=N,bk:=D.nx } σ2 H2):=by
 refine (l:);rintro i m σ H ⟨rfl,hi,p⟩;have q:=hl i σ H hi p;by_cases jw:i < xs.length
 ·refine .inr ⟨⟨xs,xs[i],q,by simp [jw]⟩,Pv (i + 1),λσ' H' p'=>⟨xs.length - (i + 1),by lia,Y,jw,p'⟩,λx H' y=>?_⟩
  obtain ⟨e,y⟩:=y;subst e;exact hs i x σ _ (y xs q) p
 ·have e:i=xs.length:=by lia
  subst e;exact .inl ⟨⟨xs,q,An _⟩,hd σ H p⟩
def Ql {lo:Int} {n:Nat} {g:TG} {tb:TS} {D:Ends} {σ:St} {H:Hp} (Pv:Nat->St->Hp->Prop) (h0:Pv 0 σ H)
  (hs:∀ i σ H,i < n->Pv i σ H->g (.int (lo + i)) σ H λσ2 H2=>tb { D with nx:=Pv (i + 1),ct:=Pv (i + 1),bk:=D.nx } σ2 H2) (hd:∀ σ H,Pv n σ H->D.nx σ H) :
  ∃ W:Nat->Nat->St->Hp->Prop,(∃ m,W 0 m σ H)/\∀ i m σ H,W i m σ H ->
   ((Itr lo n).stop i H/\D.nx σ H)\/((Itr lo n).go i H/\∃ N:St->Hp->Prop,(u:)/\∀ x H',(Itr lo n).yld i H x H'->g x σ H' λσ2 H2=>tb { D with nx:=N,ct:=N,bk:=D.nx } σ2 H2):=by
 refine ⟨λi m σ H=>m=n - i/\i<=n/\Pv i σ H,⟨n,by simp,Az _,h0⟩,?_⟩;rintro i m σ H ⟨rfl,hi,p⟩;by_cases jw:i < n
 ·refine .inr ⟨jw,Pv (i + 1),λσ' H' p'=>⟨n - (i + 1),by lia,Y,jw,p'⟩,λx H' y=>?_⟩
  obtain ⟨e,y⟩:=y;subst e y;exact hs i σ _ jw p
 ·have e:i=n:=by lia
  subst e;exact .inl ⟨An _,hd σ H p⟩
abbrev R2:=V->V->Hp->VK->Prop
def OpR (X:Cx) (f:Value->Value->Sem Value) (r:R2):Prop :=
 ∀ jh s σ H (x y:V) (v u:Value) (Q:VK),Inv X jh σ H s->RelV x v->RelV y u->r x y H Q ->
  wpAny (c:) X.A (f v u) (EP X jh σ Q) X.xe s
def UnR (X:Cx) (f:Value->Sem Value) (r:V->Hp->VK->Prop):Prop :=
 ∀ jh s σ H (x:V) (v:Value) (Q:VK),Inv X jh σ H s->RelV x v->r x H Q ->
  wpAny (c:) X.A (f v) (EP X jh σ Q) X.xe s
def Y2 (X:Cx) (f:Value) (r:List V->Hp->VK->Prop):Prop :=
 ∀ jh s σ H (xs:List V) (us:List Value) (Q:VK),Inv X jh σ H s->Vals xs us->r xs H Q ->
  wpAny (c:) X.A (call f us) (EP X jh σ Q) X.xe s
def TruR (X:Cx) (r:V->Hp->(Bool->Hp->Prop)->Prop):Prop :=
 ∀ jh s σ H (x:V) (v:Value) (Q:Bool->Hp->Prop),Inv X jh σ H s->RelV x v->r x H Q ->
  wpAny (c:) X.A (truthy v) (TP X jh σ Q) X.xe s
def tOp (r:R2) (ta tb:TE):TE:=λσ H Q=>ta σ H λx H1=>tb σ H1 λy H2=>r x y H2 Q
def tUn (r:V->Hp->VK->Prop) (ta:TE):TE:=λσ H Q=>ta σ H λx H1=>r x H1 Q
def rI (C:Int->Int->Prop) (g:Int->Int->V):R2:=λx y H Q=>∃ i j,x=.int i/\y=.int j/\C i j/\Q (g i j) H
def rI0 (g:Int->Int->V):R2:=λx y H Q=>∃ i j,x=.int i/\y=.int j/\Q (g i j) H
def rU (g:Int->V):V->Hp->VK->Prop:=λx H Q=>∃ i,x=.int i/\Q (g i) H
section
variable {X:Cx} {a b c:Expr} {ta tb tc:TE} {pos:Pos}
def binT (ha:PE X a ta) (hb:PE X b tb) {jh:List (m:)} {s:Shared} {σ:St} {H:Hp} {R:V->V->Hp->Prop} (I:Inv X jh σ H s)
  (h:ta σ H λx H1=>tb σ H1 λy H2=>R x y H2) {Q:Value->Shared->Prop} {f:Value->Value->Sem Value}
  (hf:∀ v u s2 x y H2,Inv X jh σ H2 s2->RelV x v->RelV y u->R x y H2->wpAny (c:) X.A (f v u) Q X.xe s2) :
  wpAny (c:) X.A (eval a X.env) (λv s₁=>wpAny (c:) X.A (eval b X.env) (λu s₂=>wpAny (c:) X.A (f v u) Q X.xe s₂) X.xe s₁) X.xe s:=by
 refine thn (ha jh s σ H _ I h) λv s1 jp=>?_;obtain ⟨x,H1,I1,r1,q1⟩:=jp;refine thn (hb jh s1 σ H1 _ I1 q1) λu s2 jp=>?_;obtain ⟨y,H2,I2,r2,q2⟩:=jp;exact hf v u s2 x y H2 I2 r1 r2 q2
def Zi (ho:OpR X (binaryOp op) r) (ha:PE X a ta) (hb:PE X b tb):PE X (.BinOp a op b pos) (tOp r ta tb):=by
 intro jh s σ H Q I h;exact wpAny_BinOp (binT ha hb I h λv u s2 x y H2 I2 rx ry q=>ho jh s2 σ H2 x y v u Q I2 rx ry q)
def Zsy {op:UnaryOp} {r:V->Hp->VK->Prop} (ho:UnR X (unaryOp op) r) (ha:PE X a ta):PE X (.UnaryOp op a pos) (tUn r ta):=by
 intro jh s σ H Q I h;refine UnaryOp_ (thn (ha jh s σ H _ I h) λv s1 jp=>?_);obtain ⟨x,H1,I1,r1,q1⟩:=jp;exact ho jh s1 σ H1 x v Q I1 r1 q1
def opI {g:Int->Int->Int}
  (rule:∀ (i j:Int) (t u:Tok) (s:Shared) (Q:Value->Shared->Prop) (E:Value->Shared->Prop),C i j->Q (.int (g i j) s.toks) { s with toks:=s.toks + 1 }->wpAny (c:) X.A (f (.int i t) (.int j u)) Q E s) :
  OpR X f (rI C λi j=>.int (g i j)):=by
 intro jh s σ H x y v u Q I rx ry h;obtain ⟨i,j,rfl,rfl,hc,q⟩:=h;obtain ⟨t,rfl⟩:=rx;obtain ⟨t',rfl⟩:=ry;exact rule i j t t' s _ _ hc ⟨.int (g i j),H,I.tok _,⟨_,Y⟩,q⟩
def opI0 {g:Int->Int->Int}
  (rule:∀ (i j:Int) (t u:Tok) (s:Shared) (Q:Value->Shared->Prop) (E:Value->Shared->Prop),Q (.int (g i j) s.toks) { s with toks:=s.toks + 1 }->wpAny (c:) X.A (f (.int i t) (.int j u)) Q E s) :
  OpR X f (rI0 λi j=>.int (g i j)):=by
 intro jh s σ H x y v u Q I rx ry h;obtain ⟨i,j,rfl,rfl,q⟩:=h;obtain ⟨t,rfl⟩:=rx;obtain ⟨t',rfl⟩:=ry;exact rule i j t t' s _ _ ⟨.int (g i j),H,I.tok _,⟨_,Y⟩,q⟩
def opB0 {g:Int->Int->Bool}
  (rule:∀ (i j:Int) (t u:Tok) (s:Shared) (Q:Value->Shared->Prop) (E:Value->Shared->Prop),Q (.bool (g i j)) s->wpAny (c:) X.A (f (.int i t) (.int j u)) Q E s) :
  OpR X f (rI0 λi j=>.bl (g i j)):=by
 intro jh s σ H x y v u Q I rx ry h;obtain ⟨i,j,rfl,rfl,q⟩:=h;obtain ⟨t,rfl⟩:=rx;obtain ⟨t',rfl⟩:=ry;exact rule i j t t' s _ _ ⟨.bl (g i j),H,I,Y,q⟩
def CDiv (i j:Int):Prop:=0 < j/\j < 1073741824
def CPow (i j:Int):Prop:=0<=j/\j<=1000000/\i.natAbs < 2 ^ 64
def CMul (i j:Int):Prop:=(-(2 ^ 64) < i/\i < 2 ^ 64)\/(-(2 ^ 64) < j/\j < 2 ^ 64)
def CMul.ok {i j:Int} (h:CMul i j):IntMulOk i j:=by
 rcases h with ⟨h1,h2⟩ | ⟨h1,h2⟩
 ·exact .of_left (intBits_le_64 h1 h2)
 ·exact .of_right (intBits_le_64 h1 h2)
def Yr:OpR X (binaryOp .Add) (rI0 λi j=>.int (i + j)):=opI0 λ_ _ _ _ _ _ _ q=>add_int q
def Wo:OpR X (binaryOp .Sub) (rI0 λi j=>.int (i - j)):=opI0 λ_ _ _ _ _ _ _ q=>sub_int q
def Wp:OpR X (binaryOp .Mult) (rI CMul λi j=>.int (i * j)):=opI λ_ _ _ _ _ _ _ hc q=>mul_int q hc.ok
def Xo:OpR X (binaryOp .FloorDiv) (rI CDiv λi j=>.int (i / j)):=opI λi j _ _ _ _ _ hc q=>by
 have h1:(0:Int) < j:=hc.1;have h2:j < 1073741824:=hc.2;exact floordiv_int (by lia) (by rw [Int.fdiv_eq_ediv_of_nonneg i (by lia)]; exact q) (.inl (PyProof.noPylong_small (by lia)))
def Yh:OpR X (binaryOp .Mod) (rI (λ_ j=>0 < j) λi j=>.int (i % j)):=opI λi j _ _ _ _ _ hc q=>by
 have h1:(0:Int) < j:=hc;exact mod_int' (by lia) (by rw [Int.fmod_eq_emod_of_nonneg i (by lia)]; exact q)
def Zri:OpR X (binaryOp .Pow) (rI CPow λi j=>.int (i ^ j.toNat)):=opI λ_ _ _ _ _ _ _ hc q=>pow_int_small hc.1 hc.2.1 hc.2.2 q
def unI {g:Int->Int}
  (rule:∀ (i:Int) (t:Tok) (s:Shared) (Q:Value->Shared->Prop) (E:Value->Shared->Prop),Q (.int (g i) s.toks) { s with toks:=s.toks + 1 }->wpAny (c:) X.A (f (.int i t)) Q E s) :
  UnR X f (rU λi=>.int (g i)):=by
 intro jh s σ H x v Q I rx h;obtain ⟨i,rfl,q⟩:=h;obtain ⟨t,rfl⟩:=rx;exact rule i t s _ _ ⟨.int (g i),H,I.tok _,⟨_,Y⟩,q⟩
def Zqp:UnR X (unaryOp .USub) (rU λi=>.int (-i)):=unI λ_ _ _ _ _ q=>neg_int q
noncomputable def scal:V->V->Bool
 | .non,.non=>true | .non,.int _=>true | .int _,.non=>true | .non,.bl _=>true | .bl _,.non=>true | .non,.str _=>true | .str _,.non=>true
 | .int _,.int _=>true | .bl _,.bl _=>true | .str _,.str _=>true | .byt _,.byt _=>true
 | .int _,.str _=>true | .str _,.int _=>true | .bl _,.str _=>true | .str _,.bl _=>true
 | _,_=>false
def rEq:R2:=λx y H Q=>scal x y=true/\Q (.bl (decide (x=y))) H
def rNe:R2:=λx y H Q=>scal x y=true/\Q (.bl (!decide (x=y))) H
def Zh5:decide (V.int i=V.int j)=(i == j):=by
 rw [Bool.eq_iff_iff];simp
def Zlm:decide (V.bl i=V.bl j)=(i == j):=by
 rw [Bool.eq_iff_iff];simp
def Zh4:decide (V.str i=V.str j)=(i == j):=by
 rw [Bool.eq_iff_iff];simp
def Zh6 {i j:Array UInt8}:decide (V.byt i=V.byt j)=(i.toList == j.toList):=by
 rw [Bool.eq_iff_iff];cases i;cases j;simp
def Yb (I:Inv X jh σ H s) (q:Q (.bl k) H) (e:k=k'):EP X jh σ Q (.bool k') s:=by
 subst e;exact ⟨.bl k,H,I,Y,q⟩
def Yt:OpR X (compareOp .Eq) rEq:=by
 intro jh s σ H x y v u Q I rx ry h;obtain ⟨hs,q⟩:=h
 cases x with
 | non =>
  cases rx
  cases y with
  | non=>cases ry; exact PySem.EqNone.eq_none_none (Yb I q (by simp))
  | bl j=>cases ry; exact PySem.EqNone.eq_none_bool (Yb I q (by simp))
  | int j=>obtain ⟨t',rfl⟩:=ry; exact PySem.EqNone.eq_none_int (Yb I q (by simp))
  | str j=>obtain ⟨t',rfl⟩:=ry; exact PySem.EqNone.eq_none_str (Yb I q (by simp))
  | _=>exact absurd (show false=true from hs) Bool.false_ne_true
 | bl i =>
  cases rx
  cases y with
  | non=>cases ry; exact PySem.EqNone.eq_bool_none (Yb I q (by simp))
  | bl j=>cases ry; exact eq_bool (Yb I q Zlm)
  | str j=>obtain ⟨t',rfl⟩:=ry; exact PySem.EqMixed.eq_bool_str (Yb I q (by simp))
  | _=>exact absurd (show false=true from hs) Bool.false_ne_true
 | int i =>
  obtain ⟨t,rfl⟩:=rx
  cases y with
  | non=>cases ry; exact PySem.EqNone.eq_int_none (Yb I q (by simp))
  | int j=>obtain ⟨t',rfl⟩:=ry; exact eq_int (Yb I q Zh5)
  | str j=>obtain ⟨t',rfl⟩:=ry; exact PySem.EqMixed.eq_int_str (Yb I q (by simp))
  | _=>exact absurd (show false=true from hs) Bool.false_ne_true
 | str i =>
  obtain ⟨t,rfl⟩:=rx
  cases y with
  | non=>cases ry; exact PySem.EqNone.eq_str_none (Yb I q (by simp))
  | bl j=>cases ry; exact PySem.EqMixed.eq_str_bool (Yb I q (by simp))
  | int j=>obtain ⟨t',rfl⟩:=ry; exact PySem.EqMixed.eq_str_int (Yb I q (by simp))
  | str j=>obtain ⟨t',rfl⟩:=ry; exact eq_str (Yb I q Zh4)
  | _=>exact absurd (show false=true from hs) Bool.false_ne_true
 | byt i =>
  obtain ⟨t,rfl⟩:=rx
  cases y with
  | byt j=>obtain ⟨t',rfl⟩:=ry; exact PySem.W.eq_bytes (Yb I q Zh6)
  | _=>exact absurd (show false=true from hs) Bool.false_ne_true
 | _=>cases y <;> exact absurd (show false=true from hs) Bool.false_ne_true
def Jk:OpR X (compareOp .NotEq) rNe:=by
 intro jh s σ H x y v u Q I rx ry h;obtain ⟨hs,q⟩:=h
 cases x with
 | non =>
  cases rx
  cases y with
  | non=>cases ry; exact PySem.EqNone.ne_none_none (Yb I q (by simp))
  | bl j=>cases ry; exact PySem.EqNone.ne_none_bool (Yb I q (by simp))
  | int j=>obtain ⟨t',rfl⟩:=ry; exact PySem.EqNone.ne_none_int (Yb I q (by simp))
  | str j=>obtain ⟨t',rfl⟩:=ry; exact PySem.EqNone.ne_none_str (Yb I q (by simp))
  | _=>exact absurd (show false=true from hs) Bool.false_ne_true
 | bl i =>
  cases rx
  cases y with
  | non=>cases ry; exact PySem.EqNone.ne_bool_none (Yb I q (by simp))
  | bl j=>cases ry; exact ne_bool (Yb I q (congrArg not Zlm))
  | str j=>obtain ⟨t',rfl⟩:=ry; exact PySem.EqMixed.ne_bool_str (Yb I q (by simp))
  | _=>exact absurd (show false=true from hs) Bool.false_ne_true
 | int i =>
  obtain ⟨t,rfl⟩:=rx
  cases y with
  | non=>cases ry; exact PySem.EqNone.ne_int_none (Yb I q (by simp))
  | int j=>obtain ⟨t',rfl⟩:=ry; exact ne_int (Yb I q (congrArg not Zh5))
  | str j=>obtain ⟨t',rfl⟩:=ry; exact PySem.EqMixed.ne_int_str (Yb I q (by simp))
  | _=>exact absurd (show false=true from hs) Bool.false_ne_true
 | str i =>
  obtain ⟨t,rfl⟩:=rx
  cases y with
  | non=>cases ry; exact PySem.EqNone.ne_str_none (Yb I q (by simp))
  | bl j=>cases ry; exact PySem.EqMixed.ne_str_bool (Yb I q (by simp))
  | int j=>obtain ⟨t',rfl⟩:=ry; exact PySem.EqMixed.ne_str_int (Yb I q (by simp))
  | str j=>obtain ⟨t',rfl⟩:=ry; exact ne_str (Yb I q (congrArg not Zh4))
  | _=>exact absurd (show false=true from hs) Bool.false_ne_true
 | byt i =>
  obtain ⟨t,rfl⟩:=rx
  cases y with
  | byt j=>obtain ⟨t',rfl⟩:=ry; exact PySem.W.ne_bytes (Yb I q (congrArg not Zh6))
  | _=>exact absurd (show false=true from hs) Bool.false_ne_true
 | _=>cases y <;> exact absurd (show false=true from hs) Bool.false_ne_true
def J8:OpR X (compareOp .Lt) (rI0 λi j=>.bl (decide (i < j))):=opB0 λ_ _ _ _ _ _ _ q=>lt_int q
def Zi2:OpR X (compareOp .LtE) (rI0 λi j=>.bl (decide (i<=j))):=opB0 λ_ _ _ _ _ _ _ q=>le_int q
def Q1:OpR X (compareOp .Gt) (rI0 λi j=>.bl (decide (j < i))):=opB0 λ_ _ _ _ _ _ _ q=>gt_int q
def Zn6:OpR X (compareOp .GtE) (rI0 λi j=>.bl (decide (j<=i))):=opB0 λ_ _ _ _ _ _ _ q=>ge_int q
def K4:OpR X (compareOp .IsNot) (λx y H Q=>y=.non/\Q (.bl (!decide (x=.non))) H):=by
 intro jh s σ H x y v u Q I rx ry h;obtain ⟨rfl,q⟩:=h;cases ry;refine isnot_none_gen (Yb I q ?_)
 cases x <;> first
  | (cases rx; rfl)
  | (obtain ⟨t,rfl⟩:=rx; rfl)
def Zs (b:Expr) (h:op≠.In:=by decide) (h2:op≠.NotIn:=by decide):behindInMarks op b=false:=by
 have e1:(op == CmpOp.In)=false:=by cases op <;> first | rfl | exact absurd Y h
 have e2:(op == CmpOp.NotIn)=false:=by cases op <;> first | rfl | exact absurd Y h2
 cases b <;> simp [behindInMarks,e1,e2]
def Wg (ho:OpR X (compareOp op) r) (ha:PE X a ta) (hb:PE X b tb) (hm:behindInMarks op b=false):PE X (.Compare a [op] [b] pos) (tOp r ta tb):=by
 intro jh s σ H Q I h;exact wpAny_Compare1 (binT ha hb I h λv u s2 x y H2 I2 rx ry q=>ho jh s2 σ H2 x y v u Q I2 rx ry q) hm
def Zsg (t:TE):TT:=λσ H Q=>t σ H λx H'=>∃ k,x=.bl k/\Q k H'
def Zo {op:CmpOp} {r:R2} (ho:OpR X (compareOp op) r) (ha:PE X a ta) (hb:PE X b tb) (hm:behindInMarks op b=false):PT X (.Compare a [op] [b] pos) (Zsg (tOp r ta tb)):=by
 intro jh s σ H Q I h;refine wpAny_isTrue_Compare1 (thn (ha jh s σ H _ I h) λv s1 ⟨x,H1,I1,r1,q1⟩=>thn (hb jh s1 σ H1 _ I1 q1) λu s2 ⟨y,H2,I2,r2,q2⟩ =>
  thn (ho jh s2 σ H2 x y v u _ I2 r1 r2 q2) λc s3 ⟨z,H3,I3,r3,k,e,q3⟩=>?_) hm
 subst e;cases r3;exact wpAny_truthy_bool ⟨H3,I3,q3⟩
def Zq0 (r r':R2) (ta tb tc:TE):TE:=λσ H Q=>ta σ H λx H1=>tb σ H1 λy H2=>r x y H2 λz H3=>∃ k,z=.bl k /\
 (if k=true then tc σ H3 λw' H4=>r' y w' H4 Q else Q (.bl false) H3)
def Ze7 {op op':CmpOp} {r r':R2} (ho:OpR X (compareOp op) r) (qw:OpR X (compareOp op') r') (ha:PE X a ta) (hb:PE X b tb) (hc:PE X c tc)
  (hm:lastMarks [op,op'] [b,c]=false:=by with_unfolding_all rfl):PE X (.Compare a [op,op'] [b,c] pos) (Zq0 r r' ta tb tc):=by
 intro jh s σ H Q I h;refine Compare_chain (thn (ha jh s σ H _ I h) λv s1 ⟨x,H1,I1,r1,q1⟩=>chain_link (thn (hb jh s1 σ H1 _ I1 q1) λu s2 ⟨y,H2,I2,r2,q2⟩ =>
  thn (ho jh s2 σ H2 x y v u _ I2 r1 r2 q2) λd s3 ⟨z,H3,I3,r3,k,e,q3⟩=>?_)) hm
 subst e;cases r3;refine wpAny_truthy_bool ?_
 cases k with
 | false=>exact ite_ff ⟨.bl false,H3,I3,Y,q3⟩
 | true=>exact ite_tt (chain_last (thn (hc jh s3 σ H3 _ I3 q3) λw' s4 ⟨z',H4,I4,r4,q4⟩=>qw jh s4 σ H4 y z' u w' Q I4 r2 r4 q4))
def TruV (K:W.Frag) (x:V) (H:Hp) (k:Bool):Prop :=
 match x with
 | .non=>k=false
 | .bl b=>k=b
 | .int i=>k=(i != 0)
 | .str y=>y.length<=sizeLine/\k=((y.length:Int) != 0)
 | .byt y=>y.size<=sizeLine/\k=((y.size:Int) != 0)
 | .ref p=>(∃ xs,SqL K H p xs/\k=!xs.isEmpty)\/(∃ xs,SqT K H p xs/\k=!xs.isEmpty)\/∃ kvs,H p=some (.dK kvs)/\k=!kvs.isEmpty
 | _=>False
def Zjh {κ:Type} {kvs:List (κ × V)} {vs:List (κ × Value)} (r:KV kvs vs):(!vs.isEmpty)=!kvs.isEmpty:=by
 cases r <;> rfl
def Zas {xs:List V} {its:List Value} (r:Vals xs its):(!its.toArray.isEmpty)=!xs.isEmpty:=by
 cases r <;> simp
def Qi:(sizeLine:Nat) < 2 ^ 63:=by rw [sizeLine_eq]; decide
def Zqr:TruR X (λx H Q=>∃ k,TruV X.K x H k/\Q k H):=by
 intro jh s σ H x v Q I rx h;obtain ⟨k,e,q⟩:=h;have hl:=Qi;have hs:sizeLine=16777216:=sizeLine_eq
 cases x with
 | non =>
  cases rx;have e':k=false:=e;subst e';exact truthy_none ⟨H,I,q⟩
 | bl b =>
  cases rx;have e':k=b:=e;subst e';exact wpAny_truthy_bool ⟨H,I,q⟩
 | int i =>
  obtain ⟨t,rfl⟩:=rx;have e':k=(i != 0):=e;subst e';exact PySem.P.truthy_int ⟨H,I,q⟩
 | str y =>
  obtain ⟨t,rfl⟩:=rx;obtain ⟨hy,e'⟩:y.length<=sizeLine/\k=((y.length:Int) != 0):=e;subst e';exact PySem.P.truthy_str (by lia) ⟨H,I.tok _,q⟩
 | byt y =>
  obtain ⟨t,rfl⟩:=rx;obtain ⟨hy,e'⟩:y.size<=sizeLine/\k=((y.size:Int) != 0):=e;subst e';exact PySem.W.truthy_bytes (by lia) ⟨H,I.tok _,q⟩
 | ref p =>
  cases rx;have e':(∃ xs,SqL X.K H p xs/\k=!xs.isEmpty)\/(∃ xs,SqT X.K H p xs/\k=!xs.isEmpty)\/∃ kvs,H p=some (.dK kvs)/\k=!kvs.isEmpty:=e
  rcases e' with ⟨xs,hx,e'⟩ | ⟨xs,hx,e'⟩ | ⟨kvs,hx,e'⟩
  ·subst e'
   obtain ⟨its,r,pl,hz⟩:=I.list hx;have jm:=r.length;exact wpAny_truthy_list pl.isList (by simp only [Aq]; lia) ⟨H,I.tok _,by rw [Zas r]; exact q⟩
  ·subst e'
   obtain ⟨its,r,pl,hz⟩:=I.tuple hx;have jm:=r.length;exact truthy_tuple pl (by simp only [Aq]; lia) ⟨H,I.tok _,by rw [Zas r]; exact q⟩
  ·subst e'
   obtain ⟨hz,hS,vs,r,m⟩:kvs.length<=sizeLine/\(p == sysModules)=false/\∃ vs,KV kvs vs/\s.heap.DictOf (Ye X.prog X.w) p vs:=I.hok p _ hx;have jm:kvs.length=vs.length:=Paired.length r;exact wpAny_truthy_dict hS m (by lia) ⟨H,I.tok _,by rw [Zjh r]; exact q⟩
 | _=>exact (show False from e).elim
def W8 (ha:PE X a ta) (he:∀ me,isTrue a X.env me=(do let v <- me; standAt a.pos; holding [v] (truthy v))) :
  PT X a (λσ H Q=>ta σ H λx H'=>∃ k,TruV X.K x H' k/\Q k H'):=by
 intro jh s σ H Q I h;refine isTrue_plain (thn (ha jh s σ H _ I h) λv s1 zz10=>?_) (he _);obtain ⟨x,H1,I1,r1,q1⟩:=zz10;exact Zqr jh s1 σ H1 x v Q I1 r1 q1
def Xm (r:Vals [x] us):∃ u,us=[u]/\RelV x u:=by
 cases r with
 | cons r1 r2=>cases r2; exact ⟨_,Y,r1⟩
def Znx (r:Vals [x,y] us):∃ u w',us=[u,w']/\RelV x u/\RelV y w':=by
 cases r with
 | cons r1 r2 =>
  cases r2 with
  | cons r3 r4=>cases r4; exact ⟨_,_,Y,r1,r3⟩
def Zgb:Y2 X (.type "str") (λxs H Q=>∃ i,xs=[.int i]/\i.natAbs.log2 < 1920/\Q (.str (toString i)) H):=by
 intro jh s σ H xs us Q I r h;obtain ⟨i,rfl,hz,q⟩:=h;obtain ⟨u,rfl,t,rfl⟩:=Xm r;exact PySem.P.str_of_int hz ⟨.str _,H,I.tok _,⟨_,Y⟩,q⟩
end
structure ObjM (h:Heap) (x dx C:Addr) (mA:Str->Option Value):Prop where
 obj:h.get? x=some (PySem.W.instObj C dx)
 ns:h.Ns1 dx mA
 ne:dx≠x
def Zk4 {h:Heap} (n:h.Ns1 dx mA):∃ od,h.get? dx=some od/\∀ name,PySem.W.lookIn name od=some (mA name):=by
 obtain ⟨o,es,ep,ho,hd,hk,_,hm⟩:=n;refine ⟨o,ho,λname=>?_⟩;have e:=hm name;unfold nsFind findBy at e;rw [<- Array.find?_toList] at e;unfold PySem.W.lookIn;rw [hd];dsimp only;split
 ·rename_i y q
  rw [q] at e;exact congrArg some e
 ·rename_i q
  rw [q] at e;have a:es.toList.any (·.refKey)=false:=by
   rw [any_eq_false]
   intro y hy
   obtain ⟨z,t,ph⟩:=hk y (Array.mem_toList_iff.mp hy)
   simp [DictEntry.refKey,ph]
  have a':¬ es.toList.any (·.refKey)=true:=by rw [a]; exact Bool.false_ne_true
  rw [if_neg a'];exact congrArg some e
def ObjM.look (I:ObjM h x dx C mA):∃ od,PySem.W.InstAt h x (PySem.W.instObj C dx) C (some od)/\∀ name,PySem.W.lookIn name od=some (mA name) :=
 let ⟨od,ho,hl⟩:=Zk4 I.ns
 ⟨od,⟨I.obj,rfl,rfl,ho⟩,hl⟩
section
variable {prog:Program} {w:World} {A:Around} {E:Value->Shared->Prop} {s:Shared} {K:W.Frag} {x dx C f:Addr} {mA:Str->Option Value} {name:Str} {v:Value}
def Zp4 (X:K.In s.heap) (I:ObjM s.heap x dx C mA) (hg:PySem.W.plainGet K C name=true) (hh:PySem.W.hasDictIn K C=true)
  (ha:PySem.W.findIn K (.ref C) name=some none) (hv:mA name=some v) (hv':PySem.W.handedIn v=true) (h:Q v { s with toks:=s.toks + 1 }) :
  wpAny (p:) A (getAttr (.ref x) name expr) Q E s:=by
 obtain ⟨od,J,hl⟩:=I.look;exact PySem.W.get_value X J (PySem.W.plainGet_of hg).1 (PySem.W.findObj_own hh ha Y (by rw [hl,hv])) hv' h
def Zni (X:K.In s.heap) (I:ObjM s.heap x dx C mA) (hg:PySem.W.plainGet K C name=true)
  (hf:PySem.W.findIn K (.ref C) name=some (some (.ref f))) (ht:PySem.W.isFn K (.ref f)=true) (hv:mA name=none) (h:Q (.ref f,[.ref x]) s) :
  wpAny (p:) A (getMethod (.ref x) name pl) Q E s:=by
 obtain ⟨od,J,hl⟩:=I.look;exact PySem.W.method_fn X J (PySem.W.plainGet_of hg).1 (PySem.W.plainGet_of hg).2 hf (beq_iff_eq.mp ht) (by show (PySem.W.lookIn name od).map (·.isSome)=some false; rw [hl,hv]; rfl) h
def Zo4 {ns:List Str} (X:K.In s.heap) (I:ObjM s.heap x dx C mA)
  (hs:PySem.W.findIn K (.ref C) "__setattr__"=some (some (.builtin "object.__setattr__"))) (hp:PySem.W.plainOver K C=true) (ht:PySem.W.takerIn K C name=some none) (hh:PySem.W.hasDictIn K C=true)
  (hw:PySem.Within mA ns) (hsz:ns.length<=sizeLine)
  (h:∀ h',ObjM h' x dx C (λy=>if y=name then some v else mA y)->Heap.SameBut dx s.heap h'->Q () { s with heap:=h',toks:=s.toks + 2 }) :
  wpAny (p:) A (setAttr (.ref x) name v) Q E s:=by
 obtain ⟨od,J,hl⟩:=I.look;refine PySem.W.set_plain X J hs (PySem.W.osa_open (s:={ s with toks:=s.toks + 1 }) (r:=none) X J hp ht λb=>?_);obtain ⟨cd,hc,hd'⟩:=PySem.W.any_some hh;have hx:s.heap.get? x=some ⟨.ref C,some dx,.plain,#[]⟩:=I.obj;refine Al (wpAny_pure (Al (Al (wpAny_loadPart hx (Al (PySem.W.Looks.here (s:={ s with toks:=s.toks + 1 }) (PySem.W.looks_clsIn X hc) ?_))))));rw [hd'];refine wpAny_pure (a:=some dx) (Al (wpAny_pure (Al ?_)));refine wpAny_nsSet1 (s:={ s with toks:=s.toks + 1 }) I.ns λh' hn2 nj=>?_;obtain ⟨oD,esD,epD,hoD,hdD,hcD⟩:=hn2.count (PySem.Within.cons name v hw);refine Al (wpAny_lookBehind hoD (by rw [hdD]; exact pastItsLine_dict (Nat.le_trans hcD (by rw [length_cons]; lia))) ?_);exact wpAny_pure (h _ ⟨(nj.2 _ (Ne.symm I.ne)).trans I.obj,hn2,I.ne⟩ nj)
def Zm4 {vs:List Value} {kw:List (Str × Value)} (X:K.In s.heap) (hm:PySem.W.makesIn K C=true)
  (hi:PySem.W.findIn K (.ref C) "__init__"=some (some (.ref f))) (hf:PySem.W.typeIn K (.ref f)=some (.type "function"))
  (h:codeAny (p:) (A.under (.builtin "type.__call__" ⟨.ref C :: vs,kw⟩)) (.call (.ref f) ⟨.ref (s.heap.objs.size + 1) :: vs,kw⟩) (PySem.W.InitBack (s.heap.objs.size + 1) R)
   { s with heap:=(s.heap.push PySem.W.emptyDict).push (PySem.W.instObj C s.heap.objs.size) }) :
  codeAny (p:) A (.call (.ref C) ⟨vs,kw⟩) R s:=by
 obtain ⟨hh,g,d,t,os⟩:=s;exact PySem.W.make_core (PySem.W.makes_of X hm) (PySem.W.looks_findIn X hi) (λself=>PySem.W.bind_fn X self hf) (.inl Y) h
end
noncomputable def putF (f:Str) (v:V):List (Str × V)->List (Str × V)
 | []=>[(f,v)]
 | (g,x) :: r=>if g=f then (g,v) :: r else (g,x) :: putF f v r
theorem Z1 (f g:Str) (v:V):∀ fs:List (Str × V),(putF f v fs).lookup g=if g=f then some v else fs.lookup g
 | []=>by
  show List.lookup g [(f,v)]=_;by_cases h:g=f
  ·have hb:(g == f)=true:=beq_iff_eq.mpr h
   simp only [List.lookup,hb,if_pos h]
  ·have hb:(g == f)=false:=beq_eq_false_iff_ne.mpr h
   simp only [List.lookup,hb,if_neg h]
 | (k,x) :: r=>by
  have ih:=Z1 f g v r;rw [show putF f v ((k,x) :: r)=(if k=f then (k,v) :: r else (k,x) :: putF f v r) from rfl];by_cases hk:k=f
  ·rw [if_pos hk]
   by_cases h:g=k
   ·have hb:(g == k)=true:=beq_iff_eq.mpr h
    simp only [List.lookup,hb,if_pos (h.trans hk)]
   ·have hb:(g == k)=false:=beq_eq_false_iff_ne.mpr h
    simp only [List.lookup,hb,if_neg (λe:g=f=>h (e.trans hk.symm))]
  ·rw [if_neg hk]
   by_cases h:g=k
   ·have hb:(g == k)=true:=beq_iff_eq.mpr h
    simp only [List.lookup,hb,if_neg (λe:g=f=>hk (h.symm.trans e))]
   ·have hb:(g == k)=false:=beq_eq_false_iff_ne.mpr h
    simp only [List.lookup,hb];exact ih
theorem Kw (f:Str) (v:V):∀ fs:List (Str × V),f∈(putF f v fs).map (·.1)/\∀ g,g∈fs.map (·.1)->g∈(putF f v fs).map (·.1)
 | []=>⟨by simp [putF],λg h=>by simp at h⟩
 | (k,x) :: r=>by
  obtain ⟨i1,i2⟩:=Kw f v r;rw [show putF f v ((k,x) :: r)=(if k=f then (k,v) :: r else (k,x) :: putF f v r) from rfl];by_cases hk:k=f
  ·rw [if_pos hk]
   subst hk;exact ⟨by simp,λg h=>by simpa using h⟩
  ·rw [if_neg hk]
   refine ⟨?_,λg h=>?_⟩
   ·rw [map_cons]
    exact mem_cons_of_mem _ i1
   ·rw [map_cons] at h ⊢
    rcases Ar h with e | e
    ·exact mem_cons.mpr (.inl e)
    ·exact mem_cons_of_mem _ (i2 g e)
theorem G2 (f:Str) (v:V):∀ fs:List (Str × V),(putF f v fs).length<=fs.length + 1
 | []=>by simp [putF]
 | (k,x) :: r=>by
  have ih:=G2 f v r;rw [show putF f v ((k,x) :: r)=(if k=f then (k,v) :: r else (k,x) :: putF f v r) from rfl];by_cases hk:k=f
  ·rw [if_pos hk,length_cons,length_cons]; lia
  ·rw [if_neg hk,length_cons,length_cons]; lia
def RelO.some_of (r:RelO (some v) o):∃ u,o=some u/\RelV v u:=by
 cases o with
 | none=>exact (show False from r).elim
 | some u=>exact ⟨u,Y,r⟩
def RelO.none_of (r:RelO none o):o=none:=by
 cases o with
 | none=>rfl
 | some u=>exact (show False from r).elim
def Zlf (r:RelV v u):PySem.W.handedIn u=true:=by
 cases v with
 | non=>cases (show u=Value.none from r); rfl
 | bl b=>cases (show u=Value.bool b from r); rfl
 | int i=>obtain ⟨t,e⟩:=(show ∃ t,u=Value.int i t from r); cases e; rfl
 | str x=>obtain ⟨t,e⟩:=(show ∃ t,u=Value.str x t from r); cases e; rfl
 | byt b=>obtain ⟨t,e⟩:=(show ∃ t,u=Value.bytes b t from r); cases e; rfl
 | flt b=>obtain ⟨t,e⟩:=(show ∃ t,u=Value.float b t from r); cases e; rfl
 | ref a=>cases (show u=Value.ref a from r); rfl
 | ty n=>cases (show u=Value.type n from r); rfl
section
variable {P:Program} {w:World} {H H':Hp} {h h':Heap} {a C dx:Addr} {fs fs':List (Str × V)}
def Ga (hok:HOk P w H h) (e:H a=some (.ins C dx fs)):∃ mA,ObjM h a dx C mA/\(∀ f,RelO (fs.lookup f) (mA f))/\PySem.Within mA (fs.map (·.1))/\fs.length<=1000/\H dx=some (.own a):=by
 obtain ⟨d,z,ne,ob,mA,n,r,q⟩:=(show Yc P w H h a (.ins C dx fs) from hok a _ e);exact ⟨mA,⟨ob,n,ne⟩,r,q,z,d⟩
end
structure Cls (K:W.Frag) (C:Addr):Prop where
 pg:PySem.W.plainGet K C Str.empty=true
 hd:PySem.W.hasDictIn K C=true
 po:PySem.W.plainOver K C=true
 sa:PySem.W.findIn K (.ref C) "__setattr__"=some (some (.builtin "object.__setattr__"))
def Cls.get {K:W.Frag} {C:Addr} (c:Cls K C) (f:Str):PySem.W.plainGet K C f=true:=c.pg
def Y7 (K:W.Frag) (C:Addr) (f:Str):Prop:=PySem.W.findIn K (.ref C) f=some none
def Y7.taker {K:W.Frag} {C:Addr} {f:Str} (n:Y7 K C f):PySem.W.takerIn K C f=some none:=by
 unfold PySem.W.takerIn;rw [show PySem.W.findIn K (.ref C) f=some none from n];rfl
structure Meth (K:W.Frag) (C:Addr) (m:Str) (f:Addr):Prop where
 at_:PySem.W.findIn K (.ref C) m=some (some (.ref f))
 fn:PySem.W.isFn K (.ref f)=true
 kp:PySem.W.keepIn K (.ref f)=true
section
variable {X:Cx} {jh:List (m:)} {σ:St} {H:Hp} {s:Shared} {a C dx:Addr} {fs:List (Str × V)} {f:Str} {v:V} {A:Around} {E:Value->Shared->Prop}
def Zji (I:Inv X jh σ H s) (e:H a=some (.ins C dx fs)) (c:Cls X.K C) (n:Y7 X.K C f) (l:fs.lookup f=some v)
  (h:∀ u s',Inv X jh σ H s'->RelV v u->Q u s'):wpAny (c:) A (getAttr (.ref a) f b) Q E s:=by
 obtain ⟨mA,O,r,_,_,_⟩:=Ga I.hok e;obtain ⟨u,hu,ru⟩:=RelO.some_of (v:=v) (o:=mA f) (by rw [<- l]; exact r f);exact Zp4 I.kIn O (c.get f) c.hd n hu (Zlf ru) (h u _ (I.tok _) ru)
def Of (I:Inv X jh σ H s) (e:H a=some (.ins C dx fs)) (c:Cls X.K C) (k:Meth X.K C m g) (l:fs.lookup m=none)
  (h:Q (.ref g,[.ref a]) s):wpAny (c:) A (getMethod (.ref a) m pl) Q E s:=by
 obtain ⟨mA,O,r,_,_,_⟩:=Ga I.hok e;have hn:mA m=none:=RelO.none_of (by rw [<- l]; exact r m);exact Zni I.kIn O (c.get m) k.at_ k.fn hn h
def Zir (I:Inv X jh σ H s) (e:H a=some (.ins C dx fs)) (c:Cls X.K C) (n:Y7 X.K C f) (hl:fs.length < 1000) (ry:RelV y u)
  (h:∀ s',Inv X jh σ (upd H a (.ins C dx (putF f y fs))) s'->Q () s'):wpAny (c:) A (setAttr (.ref a) f u) Q E s:=by
 obtain ⟨mA,O,r,wi,_,ho⟩:=Ga I.hok e;have hz:(fs.map (·.1)).length<=sizeLine:=by rw [Ab,sizeLine_eq]; lia
 refine Zo4 I.kIn O c.sa c.po n.taker c.hd wi hz λh' O' sb=>h _ ?_;have hd:∃ o,h'.get? dx=some o:=let ⟨o,_,_,e',_⟩:=O'.ns; ⟨o,e'⟩
 refine I.write (x:=a) (e:=dx) (by rw [e]; exact True.intro) (.inr ho) (λb q hb z=>(sb.2 b hb).trans z) hd ?_;refine ⟨by rw [Ze O.ne]; exact ho,?_,O.ne,O'.obj,_,O'.ns,λg=>?_,λg hg=>?_⟩
 ·have:=G2 f y fs; lia
 ·show RelO ((putF f y fs).lookup g) (if g=f then some u else mA g)
  rw [Z1];by_cases q:g=f
  ·rw [if_pos q,if_pos q]; exact ry
  ·rw [if_neg q,if_neg q]; exact r g
 ·by_cases q:g=f
  ·rw [q]; exact (Kw f y fs).1
  ·refine (Kw f y fs).2 g (wi g λz=>hg ?_)
   show (if g=f then some u else mA g)=none;rw [if_neg q]; exact z
def Inv.made (I:Inv X jh σ H s):Inv X jh σ (upd (upd H s.heap.objs.size (.own (s.heap.objs.size + 1))) (s.heap.objs.size + 1) (.ins C s.heap.objs.size []))
  { s with heap:=(s.heap.push PySem.W.emptyDict).push (PySem.W.instObj C s.heap.objs.size) }:=by
 have e1:(s.heap.push PySem.W.emptyDict).get? s.heap.objs.size=some PySem.W.emptyDict:=Ap s.heap rfl;have e2:((s.heap.push PySem.W.emptyDict).push (PySem.W.instObj C s.heap.objs.size)).get? (s.heap.objs.size + 1)=some (PySem.W.instObj C s.heap.objs.size):=by
  have:=Ap (s.heap.push PySem.W.emptyDict) (o:=PySem.W.instObj C s.heap.objs.size) rfl
  rwa [Heap.size_push] at this
 have e3:(s.heap.push PySem.W.emptyDict).Ns s.heap.objs.size (λ_=>none):=⟨PySem.W.emptyDict,#[],_,e1,rfl,(λe he=>absurd he (by simp)),λ_=>rfl⟩;have I1:=I.laid (a:=s.heap.objs.size) (o:=.own (s.heap.objs.size + 1)) (h':=s.heap.push PySem.W.emptyDict) (t':=s.toks) (λb u q=>Ak _ q) (An _) ⟨_,e1⟩;refine I1.laid (a:=s.heap.objs.size + 1) (o:=.ins C s.heap.objs.size []) (t':=s.toks) (λb u q=>Ak _ q) (Nat.le_of_eq (Heap.size_push _ _)) ?_;have ne:s.heap.objs.size≠s.heap.objs.size + 1:=As (lt_succ_self _);refine ⟨by rw [Ze ne,Zc],Az _,ne,e2,λ_=>none,(Heap.Ns1.of_empty e3).at λo q=>Ak _ q,λ_=>True.intro,λy hy=>absurd Y hy⟩
def Zqf (hb:attributeBase e f env (eval e env)=eval e env)
  (h:wpAny (p:) A (eval e env) (λo s₁=>wpAny (p:) A (getAttr o f true) Q E s₁) E s):wpAny (p:) A (eval (.Attribute e f pos) env) Q E s :=
 Attribute_any_ h (by rw [arm_eval_Attribute,hb])
end
def tFld (K:W.Frag) (ta:TE) (f:Str):TE:=λσ H Q=>ta σ H λx H1=>∃ a C dx fs v,x=.ref a/\H1 a=some (.ins C dx fs)/\Cls K C/\Y7 K C f/\fs.lookup f=some v/\Q v H1
def sFld (K:W.Frag) (ta tv:TE) (f:Str):TS:=λD σ H=>tv σ H λy H1=>ta σ H1 λx H2=>∃ a C dx fs,x=.ref a/\H2 a=some (.ins C dx fs)/\Cls K C/\Y7 K C f/\fs.length < 1000 /\
 D.nx σ (upd H2 a (.ins C dx (putF f y fs)))
section
variable {X:Cx} {o e value:Expr} {f:Str} {pos lz m6:Pos} {ta tv:TE}
def Zq (he:PE X e ta) (hb:attributeBase e f X.env (eval e X.env)=eval e X.env):PE X (.Attribute e f pos) (tFld X.K ta f):=by
 intro jh s σ H Q I h;refine Zqf hb (thn (he jh s σ H _ I h) λu s1 jp=>?_);obtain ⟨x,H1,I1,rx,a,C,dx,fs,v,ex,ea,c,n,l,q⟩:=jp;subst ex;obtain rfl:u=Value.ref a:=rx;exact Zji I1 ea c n l λu' s2 I2 ru=>⟨v,H1,I2,ru,q⟩
def Xv (ha:PE X o ta) (hv:PE X value tv) (hs:swapsWith value (some (.Attribute o f lz)) pos.line X.env=pure false):PS X (.Assign [.Attribute o f lz] value pos) (sFld X.K ta tv f):=by
 intro jh s σ H D I h;refine plainObj_wpAny_Assign_Attribute (thn (hv jh s σ H _ I h) λu s1 zz11=>?_) hs;obtain ⟨y,H1,I1,ry,q⟩:=zz11;refine thn (ha jh s1 σ H1 _ I1 q) λov s2 zz12=>?_;obtain ⟨x,H2,I2,rx,a,C,dx,fs,ex,ea,c,n,l,q2⟩:=zz12;subst ex;obtain rfl:ov=Value.ref a:=rx;exact Zir I2 ea c n l ry λs3 I3=>⟨σ,_,I3,q2⟩
end
section
variable {X:Cx} {jh:List (m:)} {σ:St} {H:Hp} {s:Shared} {A:Around} {E:Value->Shared->Prop} {Q:Value->Shared->Prop} {c:Value} {b:Bool}
inductive TyOf (K:W.Frag) (H:Hp):V->Value->Prop where
 | non:TyOf K H .non (.type "NoneType")
 | bl (x:Bool):TyOf K H (.bl x) (.type "bool")
 | int (i:Int):TyOf K H (.int i) (.type "int")
 | str (x:Str):TyOf K H (.str x) (.type "str")
 | flt (x:UInt64):TyOf K H (.flt x) (.type "float")
 | lst {a:Addr} {xs:List V} (e:H a=some (.lst xs)):TyOf K H (.ref a) (.type "list")
 | frz {a:Addr} {o:Obj} {xs:List V} (e:H a=some (.frz o (.lst xs))):TyOf K H (.ref a) (.type "list")
 | tup {a:Addr} {xs:List V} (e:H a=some (.tup xs)):TyOf K H (.ref a) (.type "tuple")
 | dK {a:Addr} {kvs:List (Key × V)} (e:H a=some (.dK kvs)):TyOf K H (.ref a) (.type "dict")
 | dT {a:Addr} {kvs:List (List Key × V)} (e:H a=some (.dT kvs)):TyOf K H (.ref a) (.type "dict")
 | ins {a C dx:Addr} {fs:List (Str × V)} (e:H a=some (.ins C dx fs)) (cl:Cls K C) (ha:PySem.W.findIn K (.ref C) "__class__"=some (some (.builtin "object.__class__")))
   (hn:PySem.W.specialIn K (.builtin "object.__class__") "__get__"=some (some (.builtin "getset_descriptor.__get__"))) (htk:PySem.W.takesIn K (.builtin "object.__class__")=some true)
   (hm:PySem.W.mroIn K C (.type "object")=some true):TyOf K H (.ref a) (.ref C)
def Zk9 (I:Inv X jh σ H s) (rx:RelV x u) (ty:TyOf X.K H x t) (e:PySem.W.kitOne X.K t c=some b) (h:∀ tk,Q (.bool b) { s with toks:=tk }) :
  wpAny (c:) A (call (.builtin "isinstance") [u,c]) Q E s:=by
 cases ty with
 | non=>cases (show u=Value.none from rx); exact PySem.W.kia_one PySem.W.kitx_none I.kIn True.intro e (C:) h
 | bl y=>cases (show u=Value.bool y from rx); exact PySem.W.kia_one PySem.W.kitx_bool I.kIn True.intro e (C:) h
 | int i=>obtain ⟨t,q⟩:=(show ∃ t,u=Value.int i t from rx); cases q; exact PySem.W.kia_one PySem.W.kitx_int I.kIn True.intro e (C:) h
 | str y=>obtain ⟨t,q⟩:=(show ∃ t,u=Value.str y t from rx); cases q; exact PySem.W.kia_one PySem.W.kitx_str I.kIn True.intro e (C:) h
 | flt y=>obtain ⟨t,q⟩:=(show ∃ t,u=Value.float y t from rx); cases q; exact PySem.W.kia_one PySem.W.kitx_float I.kIn True.intro e (C:) h
 | @lst a xs ea =>
  cases (show u=Value.ref a from rx);obtain ⟨_,_,n,_,h1⟩:=(show Yc X.prog X.w H s.heap a (.lst xs) from I.hok a _ ea);exact PySem.W.kia_one PySem.W.kitx_list I.kIn ⟨_,h1,Y⟩ e (C:) h
 | @frz a ob xs ea =>
  cases (show u=Value.ref a from rx);obtain ⟨_,_,_,n,_,h1⟩:=(show Yc X.prog X.w H s.heap a (.frz ob (.lst xs)) from I.hok a _ ea);exact PySem.W.kia_one PySem.W.kitx_list I.kIn ⟨_,h1,Y⟩ e (C:) h
 | @tup a xs ea =>
  cases (show u=Value.ref a from rx);obtain ⟨_,_,_,p⟩:=(show Yc X.prog X.w H s.heap a (.tup xs) from I.hok a _ ea);obtain ⟨o,h1,h2,_⟩:=p;exact PySem.W.kia_one PySem.W.kitx_tuple I.kIn ⟨o,h1,h2⟩ e (C:) h
 | @dK a kvs ea =>
  cases (show u=Value.ref a from rx);obtain ⟨_,_,vs,_,p⟩:=(show Yc X.prog X.w H s.heap a (.dK kvs) from I.hok a _ ea);obtain ⟨o,es,ep,h1,h2,_⟩:=p;exact PySem.W.kia_one PySem.W.kitx_dict I.kIn ⟨o,h1,h2.1⟩ e (C:) h
 | @dT a kvs ea =>
  cases (show u=Value.ref a from rx);obtain ⟨_,_,xs,_,o,es,ep,h1,h2,_⟩:=(show Yc X.prog X.w H s.heap a (.dT kvs) from I.hok a _ ea);exact PySem.W.kia_one PySem.W.kitx_dict I.kIn ⟨o,h1,h2.1⟩ e (C:) h
 | @ins a C dx fs ea cl ha hn htk hm =>
  cases (show u=Value.ref a from rx);obtain ⟨mA,O,_⟩:=Ga I.hok ea;obtain ⟨od,J,_⟩:=O.look;exact PySem.W.kia_one (PySem.W.kitx_own (cl.get _) cl.hd ha hn htk hm) I.kIn J e (C:) h
end
structure Room (k:Nat) (A:Around):Prop where
 hd:A.handled=none
 dp:A.depth + 3 * k + 5 < recursionLimit
 un:A.units + 16 * k + 200 < cLine
def Room.mono (r:Room k A) (h:j<=k):Room j A:=⟨r.hd,by have:=r.dp; lia,by have:=r.un; lia⟩
def Room.deeper {A:Around} (r:Room (k + 1) A) (env:Env):Room k (A.deeper env) :=
 ⟨r.hd,by have:=r.dp; show A.depth + 1 + 3 * k + 5 < _; lia,by have:=r.un; show A.units + 3 + 16 * k + 200 < _; lia⟩
def Zjd {A:Around} {us:List Value} {kw:List (Str × Value)}:(A.under (.builtin "type.__call__" ⟨.ref C :: us,kw⟩)).depth=A.depth + 1:=by
 first | rfl | simp [Around.under,Code.weight,Code.isCreation,Code.isGuard,Code.isCaller,Code.frames,Code.isFrame,guardIds]
def Zjc {A:Around} {us:List Value} {kw:List (Str × Value)}:(A.under (.builtin "type.__call__" ⟨.ref C :: us,kw⟩)).units=A.units + 1:=by
 first | rfl | simp [Around.under,Code.cUnits,Code.frames,Code.isFrame]
def Room.make {A:Around} (r:Room (k + 1) A) (C:Addr) (us:List Value) (kw:List (Str × Value)):Room k (A.under (.builtin "type.__call__" ⟨.ref C :: us,kw⟩)) :=
 ⟨r.hd,by have:=r.dp; rw [Zjd]; lia,by have:=r.un; rw [Zjc]; lia⟩
def Room.depth {A:Around} (r:Room k A):A.depth < recursionLimit:=by have:=r.dp; lia
def Room.units {A:Around} (r:Room k A):A.units + 64 < cLine:=by have:=r.un; lia
def tNil:TA:=λ_ H Q=>Q [] H
def Zih (ta:TE) (tr:TA):TA:=λσ H Q=>ta σ H λx H1=>tr σ H1 λxs H2=>Q (x :: xs) H2
section
variable {X:Cx} {e:Expr} {es:List Expr} {te:TE} {t:TA} {pos:Pos}
def Zb:PA X [] tNil:=λ_ _ _ _ H Q I h=>Calls.spliced_nil ⟨[],H,I,.nil,h⟩
def Za (ha:PE X e te) (hr:PA X es t) (hs:starEach (e :: es) X.env=(false,eval e X.env) :: starEach es X.env:=by rfl):PA X (e :: es) (Zih te t):=by
 intro pos jh s σ H Q I h;rw [hs];show wpAny _ _ (spliced ((false,eval e X.env) :: backTo pos (starEach es X.env))) _ _ s;refine Calls.spliced_cons (thn (ha jh s σ H _ I h) λu s1 jp=>?_);obtain ⟨x,H1,I1,r1,q1⟩:=jp;refine thn (hr pos jh s1 σ H1 _ I1 q1) λus s2 zz13=>?_;obtain ⟨xs,H2,I2,r2,q2⟩:=zz13;exact ⟨x :: xs,H2,I2,.cons r1 r2,q2⟩
def tTup (t:TA):TE:=λσ H Q=>t σ H λxs H1=>xs.length<=sizeLine/\∀ p,H1 p=none->Q (.ref p) (upd H1 p (.tup xs))
def tLst (t:TA):TE:=λσ H Q=>t σ H λxs H1=>xs.length<=sizeLine/\∀ p,H1 p=none->Q (.ref p) (upd H1 p (.lst xs))
def X3 {x1} (h:PA X es t):PE X (.Tuple es x1 pos) (tTup t):=by
 intro jh s σ H Q I hq;refine wpAny_Tuple_spliced (thn (h pos jh s σ H _ I hq) λus s1 yw=>?_);obtain ⟨xs,H1,I1,r,z,q⟩:=yw;refine ⟨by rw [<- r.length]; exact z,?_⟩;have hf:H1 s1.heap.objs.size=none:=I1.hok.fresh (An _);refine ⟨.ref s1.heap.objs.size,upd H1 s1.heap.objs.size (.tup xs),I1.laid (t':=s1.toks) (λb u e=>Ak _ e) (An _) ?_,Y,q _ hf⟩;exact ⟨z,us,r,⟨_,Ap _ Y,Y,_,Y⟩⟩
def Yn (h:PA X es t):PE X (.List es pos) (tLst t):=by
 intro jh s σ H Q I hq;refine wpAny_List_spliced (thn (h pos jh s σ H _ I hq) λus s1 yw=>?_);obtain ⟨xs,H1,I1,r,z,q⟩:=yw;refine ⟨by rw [<- r.length]; exact z,?_⟩;have hf:H1 s1.heap.objs.size=none:=I1.hok.fresh (An _);refine ⟨.ref s1.heap.objs.size,upd H1 s1.heap.objs.size (.lst xs),I1.laid (t':=s1.toks) (λb u e=>Ak _ e) (An _) ?_,Y,q _ hf⟩;exact ⟨z,us,0,r,Ap _ Y⟩
end
abbrev Sp:=List V->Hp->VK->XK->Prop
abbrev CXT:=List Env->Hp->Shared->XK->Value->Shared->Prop
structure Env0 (P:Program) (w:World) (K:W.Frag) (mg:Str->Option Value) (base:Heap) (A:Around) (outer:List Env) (s:Shared) (H:Hp):Prop where
 frames:A.frames=some outer
 mod:Mod K mg base
 bs:∀ b o,base.get? b=some o->s.heap.get? b=some o/\H b=none
 bsz:base.objs.size<=s.heap.objs.size
 funs:s.heap.FunFrames base outer
 frf:∀ b∈frs outer,H b=none
 hok:HOk P w H s.heap
 bare:AllBare s.gens
def CE (outer:List Env) (P:Program) (w:World) (H:Hp) (s:Shared) (Q:VK) (u:Value) (s':Shared):Prop :=
 ∃ v H',s'.os=s.os/\AllBare s'.gens/\Un (frs outer) [] H H' s.heap s'.heap/\HOk P w H' s'.heap/\RelV v u/\Q v H'
def CR (CX:CXT) (outer:List Env) (P:Program) (w:World) (H:Hp) (s:Shared) (Q:VK) (E:XK) (r:Result) (s':Shared):Prop :=
 match r with
 | .ok (.ret u)=>CE outer P w H s Q u s'
 | .ok _=>False
 | .error e=>CX outer H s E e s'
structure FnOk (P:Program) (w:World) (K:W.Frag) (mg:Str->Option Value) (base:Heap) (CX:CXT) (k:Nat) (f:Addr) (fd:FuncData) (ps:List Str) (sp:Sp):Prop where
 len:∀ vs H Q E,sp vs H Q E->vs.length=ps.length
 run:∀ (A:Around) (outer:List Env) (s:Shared) (H:Hp) (args:Args) (us:List Value) (vs:List V) (Q:VK) (E:XK),Room k A->Env0 P w K mg base A outer s H->BindsTo s fd args (ps.zip us)->Vals vs us->sp vs H Q E ->
  codeAny (model P w) A (.call (.ref f) args) (CR CX outer P w H s Q E) s
def Env0.make {P:Program} {w:World} {K:W.Frag} {mg:Str->Option Value} {base:Heap} {A:Around} {outer:List Env} {s:Shared} {H:Hp} (e:Env0 P w K mg base A outer s H) (C:Addr) (us:List Value) (kw:List (Str × Value)) :
  Env0 P w K mg base (A.under (.builtin "type.__call__" ⟨.ref C :: us,kw⟩)) outer s H:=⟨by first | exact e.frames | (simpa [Around.under,Code.envs,Code.isFrame,pushEnvs] using e.frames),e.mod,e.bs,e.bsz,e.funs,e.frf,e.hok,e.bare⟩
section
variable {X:Cx} {jh:List (m:)} {σ:St} {H:Hp} {s s':Shared}
def Inv.env0 (I:Inv X jh σ H s):Env0 X.prog X.w X.K X.mg X.base X.A X.stack s H :=
 ⟨I.ok.frames,I.ok.mod,I.bs,Nat.le_trans I.ok.bsz I.sz,I.stack,I.stkFree,I.hok,I.bare⟩
def Inv.after (I:Inv X jh σ H s) (h:CE X.stack X.prog X.w H s Q u s'):EP X jh σ Q u s':=by
 obtain ⟨v,H',os,bare,un,hok,r,q⟩:=h;obtain ⟨hh,g,d,t,os'⟩:=s';obtain rfl:os'=s.os:=os;exact ⟨v,H',I.call (h':=hh) (g':=g) (d':=d) (t':=t) (ch:=[]) un hok bare (λb z=>absurd z (by simp)),r,q⟩
end
def Zn2 (sp:Sp) (kj:List V) (E:XK) (t:TA):TE:=λσ H Q=>t σ H λvs H1=>sp (vs ++ kj) H1 Q E
def Znz (C:Addr) (m:Str) (sp:Sp) (kj:List V) (E:XK) (ta:TE) (t:TA):TE:=λσ H Q=>ta σ H λx H1=>∃ a dx fs,x=.ref a/\H1 a=some (.ins C dx fs)/\fs.lookup m=none /\
 t σ H1 λvs H2=>sp (x :: (vs ++ kj)) H2 Q E
def Zsm (C:Addr) (sp:Sp) (kj:List V) (E:XK) (t:TA):TE:=λσ H Q=>t σ H λvs H1=>∀ x dx,H1 x=none->H1 dx=none->dx≠x ->
 sp (.ref x :: (vs ++ kj)) (upd (upd H1 dx (.own x)) x (.ins C dx [])) (λv H2=>v=.non/\Q (.ref x) H2) E
def Wb (K:W.Frag) (fd:FuncData) (ps:List Str) (ds:List Value):Prop :=
 ∀ (s:Shared) (us:List Value),K.In s.heap->(us ++ ds).length=ps.length->BindsTo s fd ⟨us,[]⟩ (ps.zip (us ++ ds))
def Wb.all {K:W.Frag} {fd:FuncData} {ps:List Str} (h:∀ us:List Value,us.length=ps.length->bindArgs fd ⟨us,[]⟩=pure (ps.zip us)):Wb K fd ps []:=λs us _ hl=>by
 rw [append_nil] at hl ⊢;exact .of_eq (h us hl)
def Vt (CX:CXT) (X:Cx) (E:XK):Prop:=∀ (jh:List (m:)) (σ:St) (H:Hp) (s:Shared) (e:Value) (s':Shared),Inv X jh σ H s->CX X.stack H s E e s'->X.xe e s'
section
variable {X:Cx} {CX:CXT} {k:Nat} {f C:Addr} {fd:FuncData} {ps:List Str} {sp:Sp} {kj:List V} {ds:List Value} {E:XK} {x m:Str} {p pos jv:Pos} {e o:Expr} {es:List Expr} {ta:TE} {t:TA}
def Zev (F:FnOk X.prog X.w X.K X.mg X.base CX k f fd ps sp) (hr:Room k X.A) (hb:Wb X.K fd ps ds) (hd:Vals kj ds) (hx:Vt CX X E)
  (I:Inv X jh σ H s) (r:Vals vs us) (h:sp (vs ++ kj) H Q E):wpAny (c:) X.A (call (.ref f) us) (EP X jh σ Q) X.xe s:=by
 have r2:Vals (vs ++ kj) (us ++ ds):=r.append hd;have hl:(us ++ ds).length=ps.length:=by rw [<- r2.length]; exact F.len _ _ _ _ h
 refine wpAny_call (codeAny_mono (F.run X.A X.stack s H ⟨us,[]⟩ (us ++ ds) (vs ++ kj) Q E hr I.env0 (hb s us I.kIn hl) r2 h) λr s' hq=>?_)
 cases r with
 | error e=>exact hx jh σ H s e s' I hq
 | ok fl =>
  cases fl with
  | ret u=>exact I.after hq
  | next=>exact False.elim hq
  | brk=>exact False.elim hq
  | cont=>exact False.elim hq
def Zpk (F:FnOk X.prog X.w X.K X.mg X.base CX k f fd ps sp) (hr:Room k X.A) (hg:Gl X x) (hm:X.mg x=some (.ref f)) (hk:PySem.W.keepIn X.K (.ref f)=true) (hb:Wb X.K fd ps ds) (hd:Vals kj ds) (hx:Vt CX X E)
  (ha:PA X (e :: es) t) (l8:(x == ("__debug__":Str))=false:=by decide) (he:starEach (e :: es) X.env=(false,eval e X.env) :: starEach es X.env:=by rfl) (k8:(backTo pos (starEach es X.env)).any (·.1)=false:=by rfl) :
  PE X (.Call (.Name x p) (e :: es) [] pos) (Zn2 sp kj E t):=by
 intro jh s σ H Q I h;refine wpAny_Call_Name_kw (Je I hg hm ?_ l8);refine PySem.W.callWith_K (h₀:=X.base) I.ok.mod.kin hk (thn (ha pos jh s σ H _ I h) λus s1 zz14=>?_) he k8;obtain ⟨vs,H1,I1,r,q⟩:=zz14;refine ⟨I1.kIn,?_⟩;exact Zev F hr hb hd hx I1 r q
def Yk {pl:Sem Bool} (he:PE X o ta) (c:Cls X.K C) (hm:Meth X.K C m f) (F:FnOk X.prog X.w X.K X.mg X.base CX k f fd ps sp) (hr:Room k X.A) (hb:Wb X.K fd ps ds) (hd:Vals kj ds) (hx:Vt CX X E) (ha:PA X (e :: es) t)
  (k7:starEach (e :: es) X.env=(false,eval e X.env) :: starEach es X.env:=by rfl) (k8:(backTo pos (starEach es X.env)).any (·.1)=false:=by rfl)
  (ht:eval (.Call (.Attribute o m jv) (e :: es) [] pos) X.env=(do
   let ov <- eval o X.env
   standAt jv.atName
   let (f,first) <- holding [ov] (getMethod ov m pl)
   callWith pos f first (backTo pos (starEach (e :: es) X.env)) (backToKw pos (keywordEach [] X.env))):=by rfl) :
  PE X (.Call (.Attribute o m jv) (e :: es) [] pos) (Znz C m sp kj E ta t):=by
 intro jh s σ H Q I h;refine PySem.W.methodCall_KW (pl:=pl) (thn (he jh s σ H _ I h) λu s1 zz15=>?_) ht;obtain ⟨x,H1,I1,rx,a,dx,fs,ex,ea,l,q⟩:=zz15;subst ex;obtain rfl:u=Value.ref a:=rx;refine Of I1 ea c hm l ?_;refine PySem.W.callWith_K (first:=[.ref a]) (h₀:=X.base) I.ok.mod.kin hm.kp (thn (ha pos jh s1 σ H1 _ I1 q) λus s2 zz16=>?_) k7 k8;obtain ⟨vs,H2,I2,r,q2⟩:=zz16;refine ⟨I2.kIn,?_⟩;exact Zev (us:=.ref a :: us) (vs:=.ref a :: vs) F hr hb hd hx I2 (.cons Y r) q2
def Vn {pl:Sem Bool} (he:PE X o ta) (c:Cls X.K C) (hm:Meth X.K C m f) (F:FnOk X.prog X.w X.K X.mg X.base CX k f fd ps sp) (hr:Room k X.A) (hb:Wb X.K fd ps ds) (hd:Vals kj ds) (hx:Vt CX X E)
  (ht:eval (.Call (.Attribute o m jv) [] [] pos) X.env=(do
   let ov <- eval o X.env
   standAt jv.atName
   let (f,first) <- holding [ov] (getMethod ov m pl)
   callWith pos f first (backTo pos (starEach [] X.env)) (backToKw pos (keywordEach [] X.env))):=by rfl) :
  PE X (.Call (.Attribute o m jv) [] [] pos) (Znz C m sp kj E ta tNil):=by
 intro jh s σ H Q I h;refine PySem.W.methodCall_KW (pl:=pl) (thn (he jh s σ H _ I h) λu s1 zz17=>?_) ht;obtain ⟨x,H1,I1,rx,a,dx,fs,ex,ea,l,q⟩:=zz17;subst ex;obtain rfl:u=Value.ref a:=rx;refine Of I1 ea c hm l ?_;exact PySem.W.callWith_K0 (first:=[.ref a]) I1.kIn hm.kp (Zev (us:=[.ref a]) (vs:=[.ref a]) F hr hb hd hx I1 (.cons Y .nil) q)
structure Mk (K:W.Frag) (C f:Addr):Prop where
 makes:PySem.W.makesIn K C=true
 init:PySem.W.findIn K (.ref C) "__init__"=some (some (.ref f))
 fn:PySem.W.isFn K (.ref f)=true
 kp:PySem.W.keepIn K (.ref C)=true
def Zml (M:Mk X.K C f) (F:FnOk X.prog X.w X.K X.mg X.base CX k f fd ps sp) (hr:Room (k + 1) X.A) (hb:Wb X.K fd ps ds) (hd:Vals kj ds)
  (hx:Vt CX X E) (I:Inv X jh σ H s) (r:Vals vs us)
  (h:∀ x dx,H x=none->H dx=none->dx≠x->sp (.ref x :: (vs ++ kj)) (upd (upd H dx (.own x)) x (.ins C dx [])) (λv H2=>v=.non/\Q (.ref x) H2) E) :
  wpAny (c:) X.A (call (.ref C) us) (EP X jh σ Q) X.xe s:=by
 have hq:=h (s.heap.objs.size + 1) s.heap.objs.size (I.hok.fresh (le_succ _)) (I.hok.fresh (An _)) (As (lt_succ_self _));have I2:=Inv.made (C:=C) I;have r2:Vals (V.ref (s.heap.objs.size + 1) :: (vs ++ kj)) (Value.ref (s.heap.objs.size + 1) :: (us ++ ds)):=.cons rfl (r.append hd);have hl:(Value.ref (s.heap.objs.size + 1) :: us ++ ds).length=ps.length:=by
  have e:=r2.length
  rw [F.len _ _ _ _ hq] at e
  exact e.symm
 refine wpAny_call (Zm4 (f:=f) I.kIn M.makes M.init (beq_iff_eq.mp M.fn) (codeAny_mono (F.run _ X.stack _ _ ⟨Value.ref (s.heap.objs.size + 1) :: us,[]⟩ (Value.ref (s.heap.objs.size + 1) :: (us ++ ds)) _ _ E (hr.make C us [])
  (I2.env0.make C us []) (hb _ (Value.ref (s.heap.objs.size + 1) :: us) I2.kIn hl) r2 hq) λr s' ll=>?_))
 cases r with
 | error e=>exact hx jh σ _ _ e s' I2 ll
 | ok fl =>
  cases fl with
  | ret u =>
   obtain ⟨v,H',I3,rv,ev,q3⟩:=I2.after ll;subst ev;exact ⟨rv,⟨V.ref (s.heap.objs.size + 1),H',I3,Y,q3⟩⟩
  | next=>exact False.elim ll
  | brk=>exact False.elim ll
  | cont=>exact False.elim ll
def Vb (M:Mk X.K C f) (F:FnOk X.prog X.w X.K X.mg X.base CX k f fd ps sp) (hr:Room (k + 1) X.A) (hg:Gl X x) (hm:X.mg x=some (.ref C)) (hb:Wb X.K fd ps ds) (hd:Vals kj ds) (hx:Vt CX X E)
  (ha:PA X (e :: es) t) (l8:(x == ("__debug__":Str))=false:=by decide) (he:starEach (e :: es) X.env=(false,eval e X.env) :: starEach es X.env:=by rfl) (k8:(backTo pos (starEach es X.env)).any (·.1)=false:=by rfl) :
  PE X (.Call (.Name x p) (e :: es) [] pos) (Zsm C sp kj E t):=by
 intro jh s σ H Q I h;refine wpAny_Call_Name_kw (Je I hg hm ?_ l8);refine PySem.W.callWith_K (h₀:=X.base) I.ok.mod.kin M.kp (thn (ha pos jh s σ H _ I h) λus s1 zz18=>?_) he k8;obtain ⟨vs,H1,I1,r,q⟩:=zz18;refine ⟨I1.kIn,?_⟩;exact Zml M F hr hb hd hx I1 r q
end
structure FnScope (N P:List Str) (sc:Scope):Prop where
 kind:sc.kind=.function
 co:sc.isCoroutine=false
 gen:sc.isGenerator=false
 nd:N.Nodup
 pre:N.take P.length=P
 par:∀ x∈P,sc.names.lookup x=some .local\/sc.names.lookup x=some .cell
 nofree:∀ y∈sc.names,y.2≠.free
def Am{N P:List Str}{sc:Scope}(a:sc.kind=.function:=by rfl)(b:sc.isCoroutine=false:=by rfl)(c:sc.isGenerator=false:=by rfl)(d:N.Nodup:=by decide +kernel)(e:N.take P.length=P:=by rfl)(f:∀ x∈P,sc.names.lookup x=some .local\/sc.names.lookup x=some .cell:=by decide +kernel)(g:∀ y∈sc.names,y.2≠.free:=by decide +kernel):FnScope N P sc:=⟨a,b,c,d,e,f,g⟩
theorem Zc4 {kindOf:Str->Option NameKind} {x:Str}:∀ {binds:List (Str × Value)} {m:Str->Option Value},(∀ v,(x,v) ∉ binds)->bindL kindOf binds m x=m x
 | [],_,_=>rfl
 | (n,v) :: r,m,h=>by
  unfold bindL;rw [Zc4 λw hw=>h w (mem_cons_of_mem _ hw)];split
  ·have:x≠n:=by rintro rfl; exact h v mem_cons_self
   simp [this]
  ·rfl
theorem Zc6 {kindOf:Str->Option NameKind} {x:Str}:∀ {binds:List (Str × Value)} {m:Str->Option Value},(∀ v,(x,v) ∉ binds)->bindC kindOf binds m x=m x
 | [],_,_=>rfl
 | (n,v) :: r,m,h=>by
  unfold bindC;rw [Zc6 λw hw=>h w (mem_cons_of_mem _ hw)];split
  ·rfl
  ·have:x≠n:=by rintro rfl; exact h v mem_cons_self
   simp [this]
theorem Zc5 {kindOf:Str->Option NameKind} {x:Str} {v:Value}:∀ {P:List Str} {vs:List Value} {i:Nat} {m:Str->Option Value},P.Nodup->P[i]?=some x->vs[i]?=some v->kindOf x=some .local ->
  bindL kindOf (P.zip vs) m x=some v
 | [],_,_,_,_,h,_,_=>by simp at h
 | _ :: _,[],_,_,_,_,h,_=>by simp at h
 | p :: P,w :: vs,0,m,nd,h1,h2,hk=>by
  simp at h1 h2; subst h1; subst h2;show bindL kindOf ((p,w) :: P.zip vs) m p=_;unfold bindL;rw [Zc4 λv hv=>(nodup_cons.mp nd).1 (of_mem_zip hv).1,if_pos hk];simp
 | p :: P,w :: vs,i + 1,m,nd,h1,h2,hk=>by
  show bindL kindOf ((p,w) :: P.zip vs) m x=_;unfold bindL;exact Zc5 (i:=i) (nodup_cons.mp nd).2 (by simpa using h1) (by simpa using h2) hk
theorem Zc7 {kindOf:Str->Option NameKind} {x:Str} {v:Value}:∀ {P:List Str} {vs:List Value} {i:Nat} {m:Str->Option Value},P.Nodup->P[i]?=some x->vs[i]?=some v->kindOf x≠some .local ->
  bindC kindOf (P.zip vs) m x=some v
 | [],_,_,_,_,h,_,_=>by simp at h
 | _ :: _,[],_,_,_,_,h,_=>by simp at h
 | p :: P,w :: vs,0,m,nd,h1,h2,hk=>by
  simp at h1 h2; subst h1; subst h2;show bindC kindOf ((p,w) :: P.zip vs) m p=_;unfold bindC;rw [Zc6 λv hv=>(nodup_cons.mp nd).1 (of_mem_zip hv).1,if_neg hk];simp
 | p :: P,w :: vs,i + 1,m,nd,h1,h2,hk=>by
  show bindC kindOf ((p,w) :: P.zip vs) m x=_;unfold bindC;exact Zc7 (i:=i) (nodup_cons.mp nd).2 (by simpa using h1) (by simpa using h2) hk
noncomputable def start (N:List Str) (vs:List V):St:=vs.map some ++ List.replicate (N.length - vs.length) none
noncomputable def cxOf (CX:CXT) (P:Program) (w:World) (K:W.Frag) (mg:Str->Option Value) (base:Heap) (N:List Str) (qual:Str) (scope:Scope) (f:Addr) (cd:Value) (A:Around) (outer:List Env) (s:Shared) (H:Hp) (E:XK):Cx where
 prog:=P
 w:=w
 K:=K
 mg:=mg
 base:=base
 A:=A.deeper (envOfC qual scope s.heap.objs.size f cd)
 N:=N
 s₀:=s
 H₀:=H
 env:=envOfC qual scope s.heap.objs.size f cd
 outer:=outer
 stack:=envOfC qual scope s.heap.objs.size f cd :: outer
 ex:=[]
 calm:=true
 fn:=λ_=>true
 pn:=[]
 xe:=λe s'=>wpAny (model P w) (A.deeper (envOfC qual scope s.heap.objs.size f cd)) (leaving (envOfC qual scope s.heap.objs.size f cd) e) (λ_ uc=>CX outer H s E e uc) (λe' uc=>CX outer H s E e' uc) s'
def Zga {sc:Scope} (h:sc.names.lookup x=some .cell):∃ c,(cellsFrom n sc.names []).lookup x=some c:=by
 have q:=PySem.W.cellsFrom_some sc.names n [] (.inl h);exact Option.isSome_iff_exists.mp q
def Zlb {CX:CXT} {P:Program} {w:World} {K:W.Frag} {mg:Str->Option Value} {base:Heap} {N ps:List Str} {qual:Str} {scope:Scope} {f:Addr} {cd:Value} {A:Around} {outer:List Env} {s s1:Shared} {H:Hp} {E:XK} {us:List Value} {vs:List V}
  (S:FnScope N ps scope) (hd:A.handled=none) (e0:Env0 P w K mg base A outer s H) (hl:vs.length=ps.length) (r:Vals vs us)
  (x:InCallC s s.heap.objs.size (bindL (envOfC qual scope s.heap.objs.size f cd).kindOf (ps.zip us) λ_=>none) (cellsFrom (s.heap.objs.size + 1) scope.names []) (bindC (envOfC qual scope s.heap.objs.size f cd).kindOf (ps.zip us) λ_=>none) s1) :
  Inv (cxOf CX P w K mg base N qual scope f cd A outer s H E) [] (start N vs) H s1:=by
 have k8:ps.length<=N.length:=by have:=congrArg List.length S.pre; rw [Ai] at this; lia
 obtain ⟨h1,tk,rfl,hk⟩:=x.done;have za:∀ b:Addr,b ∉ (cxOf CX P w K mg base N qual scope f cd A outer s H E).ex:=λb z=>absurd (show b∈([]:List Addr) from z) (by simp);refine ⟨⟨e0.mod,S.kind,Y,Y,An _,λy z c h1 h2=>?_,λy hy=>?_,λy c _ h=>?_,λ_=>hd,Around.frames_deeper e0.frames,.inr ⟨Y,Y⟩,λb z=>absurd z (za b),e0.bs,e0.bsz,λb _ _=>za b,λb z=>absurd z (za b),e0.funs,e0.frf⟩,
  rfl,e0.bare,Un.kept hk,⟨_,x.toInCall.ns,λi y v h1 h2 h3=>?_⟩,λy c h=>⟨_,x.cell y c h⟩,e0.hok.fresh (An _),λy c h=>?_,λp hp=>absurd (show p∈([]:List (m:)) from hp) (by simp),e0.hok.kept hk,?_⟩
 ·exact name_of_addr x.apart (PySem.mem_of_lookup h1) (PySem.mem_of_lookup h2)
 ·have hy:scope.names.lookup y=some .cell\/scope.names.lookup y=some .free:=hy
  rcases hy with hy | hy
  ·exact Zga hy
  ·exact absurd Y (S.nofree _ (PySem.mem_of_lookup hy))
 ·exact Nat.le_of_lt (x.above y c (PySem.mem_of_lookup h))
 ·have hi:i < vs.length:=by
   unfold start at h2;by_cases hi:i < vs.length
   ·exact hi
   ·rw [getElem?_append_right (by simpa using hi)] at h2
    rw [getElem?_replicate] at h2;split at h2 <;> cases h2
  have ha:vs[i]?=some v:=by
   unfold start at h2;rw [Av (by simpa using hi),Ah] at h2
   cases e:vs[i]? with
   | none=>rw [e] at h2; cases h2
   | some a=>rw [e] at h2; cases h2; rfl
  obtain ⟨u,hu,rv⟩:=r.get ha;have hp:ps[i]?=some y:=by
   rw [<- S.pre,getElem?_take_of_lt (by lia)]; exact h1
  have ndP:ps.Nodup:=by rw [<- S.pre]; exact S.nd.sublist (take_sublist _ _)
  refine ⟨u,rv,?_⟩
  rcases S.par y (Au hp) with k | k
  ·exact .inl ⟨k,Zc5 ndP hp hu k⟩
  ·obtain ⟨c,e⟩:=Zga (n:=s.heap.objs.size + 1) k
   refine .inr ⟨.inl k,c,e,?_⟩;have q:=x.cell y c e;rw [Zc7 ndP hp hu (by show scope.names.lookup y≠_; rw [k]; decide)] at q;exact q
 ·exact e0.hok.fresh (Nat.le_of_lt (x.above y c (PySem.mem_of_lookup h)))
 ·unfold start
  show _=N.length;rw [Ae,Ab,length_replicate];lia
def Zoe {CX:CXT} {P:Program} {w:World} {K:W.Frag} {mg:Str->Option Value} {base:Heap} {k:Nat} {f:Addr} {name qual:Str} {params:Arguments} {body:List Stmt} {scope:Scope} {dV kV kc pm j5 ct oc:Value} {an od:Option Addr}
  {ue:Array (Option Value)} {N ps:List Str} {sp:Sp} (lk:K.lookup f=some ⟨oc,od,.func (PySem.W.fnOf name qual params body scope dV kV kc pm an j5 ct),ue⟩) (qc:PySem.W.codeIn K j5 qual=true) (S:FnScope N ps scope)
  (len:∀ vs H Q E,sp vs H Q E->vs.length=ps.length)
  (k9:∀ (A:Around) (outer:List Env) (s:Shared) (H:Hp) (vs:List V) (Q:VK) (E:XK),Room k (A.deeper (envOfC qual scope s.heap.objs.size f j5))->sp vs H Q E ->
   ∃ t,PSs (cxOf CX P w K mg base N qual scope f j5 A outer s H E) body t/\t { nx:=λ_ H'=>Q .non H',rt:=Q } (start N vs) H) :
  FnOk P w K mg base CX (k + 1) f (PySem.W.fnOf name qual params body scope dV kV kc pm an j5 ct) ps sp:=by
 refine ⟨len,λA outer s H args us vs Q E hr e0 hb r mh=>?_⟩;have hl:=len _ _ _ _ mh;have KX:K.In s.heap:=e0.mod.kin.keeps λb o e=>(e0.bs b o e).1;have lim:s.heap.NoLimit:=e0.mod.nolimit.keeps λb o e=>(e0.bs b o e).1;have hkind:∀ y∈ps.zip us,scope.names.lookup y.1=some .local\/(scope.names.lookup y.1=some .cell/\((cellsFrom (s.heap.objs.size + 1) scope.names []).lookup y.1).isSome=true):=λ⟨n,v⟩ hy=>by
  rcases S.par n (of_mem_zip hy).1 with q | q
  ·exact .inl q
  ·exact .inr ⟨q,PySem.W.cellsFrom_some _ _ _ (.inl q)⟩
 refine codeAny_call_function hr.depth (KX _ _ lk) Y S.co S.gen Y (PySem.W.codeRec_of KX qc) (hb _ _ _ _ ?_);refine wpAny_newFunctionEnv_cells S.kind hkind λenv he s1 x=>?_;subst he;refine ⟨lim.keeps x.toInCall.keep,codeAny_func ?_⟩;obtain ⟨t,ht,hq⟩:=k9 A outer s H vs Q E (hr.deeper _) mh;have I:Inv (cxOf CX P w K mg base N qual scope f j5 A outer s H E) [] (start N vs) H s1:=Zlb S hr.hd e0 hl r x;refine wpAny_mono (ht [] s1 (start N vs) H _ I hq) (λfl s' hs=>?_) λe s' hs=>hs;have kh:∀ {σ':St} {H':Hp} {v:V} {u:Value},Inv (cxOf CX P w K mg base N qual scope f j5 A outer s H E) [] σ' H' s'->RelV v u->Q v H'->CE outer P w H s Q u s' :=
  λ{σ' H' v u} J rv q=>⟨v,H',J.os,J.bare,J.base,J.hok,rv,q⟩
 cases fl with
 | ret u =>
  obtain ⟨v,σ',H',J,rv,q⟩:=hs;exact kh J rv q
 | next =>
  obtain ⟨σ',H',J,q⟩:=hs;exact kh (v:=V.non) (u:=Value.none) J Y q
 | brk =>
  obtain ⟨_,_,_,q⟩:=hs;exact False.elim q
 | cont =>
  obtain ⟨_,_,_,q⟩:=hs;exact False.elim q
section
variable {X:Cx} {x:Str} {p pos:Pos} {e:Expr} {es:List Expr} {t:TA} {id T:String} {r:List V->Hp->VK->Prop}
def tCB (r:List V->Hp->VK->Prop) (t:TA):TE:=λσ H Q=>t σ H λvs H1=>r vs H1 Q
def Zt (hc:Y2 X (.builtin id) r) (hg:Gl X x) (hm:X.mg x=none) (hv:bootBuiltins x=some (.builtin id)) (ha:PA X (e :: es) t) (hn:x≠"__name__":=by decide) (l8:(x == ("__debug__":Str))=false:=by decide)
  (he:starEach (e :: es) X.env=(false,eval e X.env) :: starEach es X.env:=by rfl) (k8:(backTo pos (starEach es X.env)).any (·.1)=false:=by rfl):PE X (.Call (.Name x p) (e :: es) [] pos) (tCB r t):=by
 intro jh s σ H Q I h;refine wpAny_Call_Name_kw (Xl I hg hm hv ?_ hn l8);refine PyProof.Rows.callWith_builtin1 (thn (ha pos jh s σ H _ I h) λus s1 zz19=>?_) he k8;obtain ⟨vs,H1,I1,r1,q1⟩:=zz19;exact hc jh s1 σ H1 vs us Q I1 r1 q1
def Yz (hc:Y2 X (.type T) r) (hg:Gl X x) (hm:X.mg x=none) (hv:bootBuiltins x=some (.type T)) (ha:PA X (e :: es) t) (hn:x≠"__name__":=by decide) (l8:(x == ("__debug__":Str))=false:=by decide)
  (he:starEach (e :: es) X.env=(false,eval e X.env) :: starEach es X.env:=by rfl) (k8:(backTo pos (starEach es X.env)).any (·.1)=false:=by rfl):PE X (.Call (.Name x p) (e :: es) [] pos) (tCB r t):=by
 intro jh s σ H Q I h;refine wpAny_Call_Name_kw (Xl I hg hm hv ?_ hn l8);refine PyProof.Rows.callWith_type1 (thn (ha pos jh s σ H _ I h) λus s1 zz20=>?_) he k8;obtain ⟨vs,H1,I1,r1,q1⟩:=zz20;exact hc jh s1 σ H1 vs us Q I1 r1 q1
def Zi1 (hc:Y2 X (.type T) r) (hg:Gl X x) (hm:X.mg x=none) (hv:bootBuiltins x=some (.type T)) (hn:x≠"__name__":=by decide) (l8:(x == ("__debug__":Str))=false:=by decide) :
  PE X (.Call (.Name x p) [] [] pos) (tCB r tNil):=by
 intro jh s σ H Q I h;refine wpAny_Call_Name_kw (Xl I hg hm hv ?_ hn l8);exact PyProof.Rows.callWith_type0 (hc jh s σ H [] [] Q I .nil h)
end
end L2
namespace HT
open PySem PyProof.Rows
noncomputable def lexLt:List Int->List Int->Bool
 | [],[]=>false
 | [],_ :: _=>true
 | _ :: _,[]=>false
 | x :: xs,y :: ys=>if x=y then lexLt xs ys else decide (x < y)
def Q5 (x y:Int) (xs ys:List Int):lexLt (x :: xs) (y :: ys)=if x=y then lexLt xs ys else decide (x < y):=rfl
def O2:lexLt [] []=false:=rfl
def J0 (y:Int) (ys:List Int):lexLt [] (y :: ys)=true:=rfl
def Ws (x:Int) (xs:List Int):lexLt (x :: xs) []=false:=rfl
def Znn (A:Around) (s:Shared) (a:Int) (t:Tok) (c:Int) (u:Tok):∃ e,SeqAt.EqAt A s (.int a t) (.int c u) e/\(e=true ↔ a=c) :=
 ⟨(a == c),SeqAt.EqAt.int_int a t c u,by simp⟩
def Zmo (A:Around) (s:Shared) (a:Int) (t:Tok) (c:Int) (u:Tok) (prog:Program) (w:World) (E:Value->Shared->Prop) (Q:Value->Shared->Prop) (h:Q (.bool (decide (a < c))) s) :
  wpAny (p:) A (richCompare .Lt (.int a t) (.int c u)) Q E s :=
 (PyProof.Rows.lt_int h:wpAny (p:) A (compareOp .Lt (.int a t) (.int c u)) Q E s)
section
variable {prog:Program} {w:World} {A:Around} {E:Value->Shared->Prop} {s:Shared}
noncomputable def sIx (n d:Nat):Option Int->Nat
 | none=>d
 | some v=>if v < 0 then (v + (n:Int)).toNat else min v.toNat n
def sIx_none (n d:Nat):sIx n d none=d:=rfl
def sIx_nat (n d k:Nat):sIx n d (some (k:Int))=min k n:=by
 show (if (k:Int) < 0 then ((k:Int) + (n:Int)).toNat else min (k:Int).toNat n)=min k n;rw [if_neg (by lia),Int.toNat_natCast]
end
end HT
namespace L2
open PySem PySem.Spec PyProof.Rows
abbrev TO:=St->Hp->(Option Int->Hp->Prop)->Prop
def PO (X:Cx) (e:Option Expr) (t:TO):Prop :=
 ∀ jh s σ H (Q:Option Int->Hp->Prop),Inv X jh σ H s->t σ H Q ->
  wpAny (c:) X.A (evalPart e X.env) (λu s'=>∃ o H',Inv X jh σ H' s'/\IsPart u o/\Q o H') X.xe s
def Zoo:TO:=λ_ H Q=>Q none H
def Zsl (t:TE):TO:=λσ H Q=>t σ H λx H1=>∃ i,x=.int i/\Q (some i) H1
def Wt {ns:List Int}:∀ {us:List Value},Vals (ns.map V.int) us->IntsAre us ns:=by
 induction ns with
 | nil=>intro us r; rw [map_nil] at r; cases r; exact .nil
 | cons n ns ih =>
  intro us r;rw [map_cons] at r
  cases r with
  | cons r1 r2 =>
   obtain ⟨t,e⟩:=r1;subst e;exact .cons n t (ih r2)
section
variable {X:Cx} {e:Expr} {te:TE} {lo hi:Option Expr} {tl th:TO} {pos p2:Pos}
def Zbn:PO X none Zoo:=by
 intro jh s σ H Q I h;rw [evalPart_none];exact wpAny_pure ⟨none,H,I,.none,h⟩
def Jv (h:PE X e te):PO X (some e) (Zsl te):=by
 intro jh s σ H Q I hw;rw [evalPart_some];refine thn (h jh s σ H _ I hw) λu s1 jp=>?_;obtain ⟨x,H1,I1,r1,q1⟩:=jp;obtain ⟨i,rfl,q⟩:=q1;obtain ⟨t,rfl⟩:=r1;exact ⟨some i,H1,I1,.int i t,q⟩
def SlR (X:Cx) (r:V->Option Int->Option Int->Hp->VK->Prop):Prop :=
 ∀ jh s σ H (x:V) (v vl vu:Value) (lo hi:Option Int) (sl:Addr) (Q:VK),Inv X jh σ H s->RelV x v->s.heap.IsSliceOf sl vl vu .none->IsPart vl lo->IsPart vu hi->r x lo hi H Q ->
  ∃ T id,typeLookup (.type T) "__getitem__"=pure (some (.builtin id))/\s.TypeIs v T/\wpAny (c:) X.A (getItem v (.ref sl)) (EP X jh σ Q) X.xe s
def tSl (r:V->Option Int->Option Int->Hp->VK->Prop) (te:TE) (tl th:TO):TE:=λσ H Q=>te σ H λx H1=>tl σ H1 λl H2=>th σ H2 λu H3=>r x l u H3 Q
def Vm (hr:SlR X r) (he:PE X e te) (hl:PO X lo tl) (hu:PO X hi th):PE X (.Subscript e (.Slice lo hi none p2) pos) (tSl r te tl th):=by
 intro jh s σ H Q I h;refine Subscript_ (thn (he jh s σ H _ I h) λv s1 jp=>?_);obtain ⟨x,H1,I1,r1,q1⟩:=jp;refine wpAny_Slice (thn (hl jh s1 σ H1 _ I1 q1) λvl s2 zz21=>?_);obtain ⟨l,H2,I2,pl,q2⟩:=zz21;refine thn (hu jh s2 σ H2 _ I2 q2) λvu s3 jp=>?_;obtain ⟨u,H3,I3,pu,q3⟩:=jp;rw [evalPart_none];refine wpAny_pure ?_;have I4:Inv X jh σ H3 { s3 with heap:=s3.heap.push { cls:=.type "slice",data:=.fields #[vl,vu,.none] } }:=I3.kept (t':=s3.toks) λb ob q=>Ak _ q;obtain ⟨T,id,hT,ht,hg⟩:=hr jh { s3 with heap:=s3.heap.push { cls:=.type "slice",data:=.fields #[vl,vu,.none] } } σ H3 x v vl vu l u s3.heap.objs.size Q I4 r1 (Heap.IsSliceOf.new ..) pl pu q3;show wpAny (c:) X.A (subscriptTail e (.Slice lo hi none p2) v (.ref s3.heap.objs.size)) (EP X jh σ Q) X.xe { s3 with heap:=s3.heap.push { cls:=.type "slice",data:=.fields #[vl,vu,.none] } };exact tail_any (ops:=[.ref s3.heap.objs.size,v]) ht hT hg (D:)
noncomputable def cutV (xs:List V) (lo hi:Option Int):List V:=(xs.drop (HT.sIx xs.length 0 lo)).take (HT.sIx xs.length xs.length hi - HT.sIx xs.length 0 lo)
def Zg6 (xs:List V) (lo hi:Option Int):(cutV xs lo hi).length<=xs.length:=by
 unfold cutV;rw [Ai,length_drop];lia
end
noncomputable def ixN (n:Nat) (i:Int):Option Nat:=if 0<=i then (if i < n then some i.toNat else none) else if -(n:Int)<=i then some (i + n).toNat else none
noncomputable def atI {α:Type} (xs:List α) (i:Int):Option α:=(ixN xs.length i).bind λj=>xs[j]?
def Zhw (h:ixN n i=some j):seqIndex? i n=some j/\j < n/\-(n:Int)<=i/\i < n:=by
 unfold ixN at h;by_cases h0:0<=i
 ·rw [if_pos h0] at h
  by_cases h1:i < n
  ·rw [if_pos h1] at h
   have e:i.toNat=j:=Ax h;exact ⟨by rw [seqIndex_of h0 h1,e],by lia,by lia,h1⟩
  ·rw [if_neg h1] at h; cases h
 ·rw [if_neg h0] at h
  by_cases h1:-(n:Int)<=i
  ·rw [if_pos h1] at h
   have e:(i + n).toNat=j:=Ax h;exact ⟨by rw [seqIndex_neg (by lia) h1,e],by lia,h1,by lia⟩
  ·rw [if_neg h1] at h; cases h
def Zb3 {α:Type} {xs:List α} {i:Int} {v:α} (h:atI xs i=some v):∃ j,seqIndex? i xs.length=some j/\xs[j]?=some v/\j < xs.length/\-(xs.length:Int)<=i/\i < xs.length:=by
 unfold atI at h
 cases e:ixN xs.length i with
 | none=>rw [e] at h; cases h
 | some j =>
  rw [e] at h;obtain ⟨h1,h2,h3,h4⟩:=Zhw e;exact ⟨j,h1,h,h2,h3,h4⟩
def Xp {α:Type} {xs:List α} {j:Nat} {v:α} (h:xs[j]?=some v):atI xs (j:Int)=some v:=by
 have hj:j < xs.length:=(Aa h).1;have e:ixN xs.length (j:Int)=some j:=by
  unfold ixN
  rw [if_pos (by lia),if_pos (by lia)]; simp
 unfold atI; rw [e]; exact h
def Zqk (b:Expr):Prop:=∀ o i,subscripted b false o i=operate [o,i] (getItem o i)
def IxR (X:Cx) (r:R2):Prop :=
 ∀ (value ku:Expr) (jh:List (m:)) (s:Shared) (σ:St) (H:Hp) (x y:V) (v u:Value) (Q:VK),Inv X jh σ H s->RelV x v->RelV y u->r x y H Q ->
  subscripted ku false v u=operate [v,u] (getItem v u)->wpAny (c:) X.A (subscriptTail value ku v u) (EP X jh σ Q) X.xe s
def MtR (X:Cx) (id:String) (r:V->List V->Hp->VK->Prop):Prop :=
 ∀ jh s σ H (x:V) (xs:List V) (v:Value) (us:List Value) (Q:VK),Inv X jh σ H s->RelV x v->Vals xs us->r x xs H Q ->
  wpAny (c:) X.A (call (.builtin id) (v :: us)) (EP X jh σ Q) X.xe s
section
variable {X:Cx} {a b:Expr} {ta tb:TE} {pos:Pos}
def Ya (hr:IxR X r) (ha:PE X a ta) (hb:PE X b tb) (hs:Zqk b):PE X (.Subscript a b pos) (tOp r ta tb):=by
 intro jh s σ H Q I h;exact Subscript_ (binT ha hb I h λv u s2 x y H2 I2 rx ry q=>hr a b jh s2 σ H2 x y v u Q I2 rx ry q (hs _ _))
def rIxL (K:W.Frag):R2:=λx y H Q=>∃ p xs i v,x=.ref p/\y=.int i/\SqL K H p xs/\atI xs i=some v/\Q v H
def rIxT (K:W.Frag):R2:=λx y H Q=>∃ p xs i v,x=.ref p/\y=.int i/\SqT K H p xs/\atI xs i=some v/\Q v H
def rIxS:R2:=λx y H Q=>∃ z i c,x=.str z/\y=.int i/\z.length<=sizeLine/\atI z.cps.toList i=some c/\Q (.str ⟨#[c]⟩) H
def Z4:IxR X (rIxL X.K):=by
 intro value ku jh s σ H x y v u Q I rx ry h hs;obtain ⟨p,xs,i,z,rfl,rfl,hq,he,q⟩:=h;cases rx;obtain ⟨t,rfl⟩:=ry;obtain ⟨its,r,pl,hz⟩:=I.list hq;obtain ⟨j,h1,h2,h3,h4,h5⟩:=Zb3 he;obtain ⟨w,ew,nu⟩:=r.get h2;have hl:=r.length;have hn:=Qi;have kh:EP X jh σ Q w s:=⟨z,H,I,nu,q⟩;by_cases h0:0<=i
 ·have hj:i.toNat=j:=by
   rw [seqIndex_of h0 h5] at h1;exact Ax h1
  exact item_listR pl.isList h0 (by lia) (by rw [hj]; simpa using ew) kh hs
 ·have hj:(i + (its.toArray.size:Int)).toNat=j:=by
   rw [seqIndex_neg (by lia) h4] at h1;rw [Aq,<- hl];exact Ax h1
  exact subscriptTail_builtinR (x:=w) pl.isList.typeIs slot_list_getitem.lookup
   (wpAny_getItem_list_neg (Q:=λr s'=>r=w/\EP X jh σ Q r s') pl.isList (by lia) (by rw [Aq] <;> lia) (by lia) (by rw [hj]; simpa using ew) ⟨rfl,kh⟩) hs
def Zfw:IxR X (rIxT X.K):=by
 intro value ku jh s σ H x y v u Q I rx ry h hs;obtain ⟨p,xs,i,z,rfl,rfl,hq,he,q⟩:=h;cases rx;obtain ⟨t,rfl⟩:=ry;obtain ⟨its,r,pl,hz⟩:=I.tuple hq;obtain ⟨j,h1,h2,h3,h4,h5⟩:=Zb3 he;obtain ⟨w,ew,nu⟩:=r.get h2;have hl:=r.length;have hn:=Qi;have kh:EP X jh σ Q w s:=⟨z,H,I,nu,q⟩;exact subscriptTail_builtinR (x:=w) pl.typeIs slot_tuple_getitem.lookup
  (getItem_tuple (j:=j) (Q:=λr s'=>r=w/\EP X jh σ Q r s') pl (by lia) (by lia) (by rw [Aq,<- hl]; exact h1) (by simpa using ew) ⟨Y,kh⟩) hs
def Zrz:IxR X rIxS:=by
 intro value ku jh s σ H x y v u Q I rx ry h hs;obtain ⟨z,i,c,rfl,rfl,hz,he,q⟩:=h;obtain ⟨t,rfl⟩:=rx;obtain ⟨t',rfl⟩:=ry;obtain ⟨j,h1,h2,h3,h4,h5⟩:=Zb3 he;have hl:z.cps.toList.length=z.length:=by simp [Str.length]
 rw [hl] at h1 h4 h5;have hn:=Qi;exact tail_any (typeIs_str s z t) slot_str_getitem.lookup (getItem_str (c:=c) (by
  have e1:decide (i < -(2 ^ 63:Int))=false:=decide_eq_false (by lia)
  have e2:decide (i ≥ 2 ^ 63)=false:=decide_eq_false (by lia)
  rw [e1,e2,Bool.or_false]) (by rw [h1]; simpa using h2) ⟨.str ⟨#[c]⟩,H,I.tok _,⟨_,rfl⟩,q⟩) hs
def Zjb (its:List Value) (n j:Nat) (u:Value):Obj.mapSeq (·.setIfInBounds j u) { cls:=.type "list",data:=.seq its.toArray n }={ cls:=.type "list",data:=.seq (its.set j u).toArray n }:=by
 simp [Obj.mapSeq]
def Inv.lst {s:Shared} {xs:List V} (I:Inv X jh σ H s) (h:H p=some (.lst xs)) :
  ∃ (its:List Value) (n:Nat),Vals xs its/\s.heap.get? p=some { cls:=.type "list",data:=.seq its.toArray n }/\xs.length<=sizeLine:=by
 obtain ⟨z,its,n,r,e⟩:=I.hok p _ h;exact ⟨its,n,r,e,z⟩
def Inv.lstUpd {s:Shared} {ys:List V} {its its':List Value} (I:Inv X jh σ H s) (h:H p=some (.lst xs))
  (ho:s.heap.get? p=some { cls:=.type "list",data:=.seq its.toArray n }) (hf:f { cls:=.type "list",data:=.seq its.toArray n }={ cls:=.type "list",data:=.seq its'.toArray n' }) (r:Vals ys its') (hz:ys.length<=sizeLine) (t:Nat) :
  Inv X jh σ (upd H p (.lst ys)) { s with heap:=s.heap.update p f,toks:=t }:=by
 have e:(s.heap.update p f).get? p=some { cls:=.type "list",data:=.seq its'.toArray n' }:=by
  rw [Heap.get?_update_self f ho (by rw [hf] <;> rfl),hf]
 refine I.write (x:=p) (e:=p) (by rw [h]; trivial) (.inl rfl) (λb u hb q=>(Heap.get?_update_other _ _ (Ne.symm hb)).trans q) ⟨_,e⟩ ?_;exact ⟨hz,its',n',r,e⟩
def Zsv:V->V->V->Hp->(Hp->Prop)->Prop:=λo i v H Q=>∃ p xs k j,o=.ref p/\i=.int k/\H p=some (.lst xs)/\ixN xs.length k=some j/\Q (upd H p (.lst (xs.set j v)))
def Jo:PSet X Zsv:=by
 intro jh s σ H o i v ov iv u Q I ro ri rv h;obtain ⟨p,xs,k,j,rfl,rfl,hp,hj,q⟩:=h;cases ro;obtain ⟨t,rfl⟩:=ri;obtain ⟨its,n,r,ho,hz⟩:=I.lst hp;obtain ⟨h1,h2,h3,h4⟩:=Zhw hj;have hl:=r.length;have hn:=Qi;have I':Inv X jh σ (upd H p (.lst (xs.set j v))) { s with heap:=s.heap.update p (Obj.mapSeq (·.setIfInBounds j u)) } :=
  I.lstUpd hp ho (Zjb its n j u) (r.set rv j) (by rw [length_set]; exact hz) s.toks
 by_cases h0:0<=k
 ·have hk:k.toNat=j:=by
   rw [seqIndex_of h0 h4] at h1;exact Ax h1
  exact PySem.W.ki_setAt ho h0 (by lia) (by rw [Aq,<- hl]; exact h4) (by rw [hk]; exact ⟨_,I',q⟩)
 ·have hk:(k + (its.toArray.size:Int)).toNat=j:=by
   rw [seqIndex_neg (by lia) h3] at h1;rw [Aq,<- hl];exact Ax h1
  exact PySem.W.ki_setBack ho (by lia) (by rw [Aq,<- hl]; exact h3) (by lia) (by rw [hk]; exact ⟨_,I',q⟩)
def Zea (lo hi:Option Int) (n:Nat):(sliceBounds lo hi none n).1=((HT.sIx n 0 lo:Nat):Int)/\(sliceBounds lo hi none n).2.1=((HT.sIx n n hi:Nat):Int)/\(sliceBounds lo hi none n).2.2=1:=by
 refine ⟨?_,?_,Y⟩
 ·cases lo with
  | none=>simp [sliceBounds,HT.sIx]
  | some i =>
   simp only [sliceBounds,HT.sIx,Option.getD_none,show (1:Int) > 0 by decide,if_true];by_cases h:i < 0
   ·simp only [h,if_true] <;> lia
   ·simp only [h,if_false] <;> lia
 ·cases hi with
  | none=>simp [sliceBounds,HT.sIx]
  | some i =>
   simp only [sliceBounds,HT.sIx,Option.getD_none,show (1:Int) > 0 by decide,if_true];by_cases h:i < 0
   ·simp only [h,if_true] <;> lia
   ·simp only [h,if_false] <;> lia
def Zdg (its:List Value) (lo hi:Option Int):slicePick its.toArray lo hi none=((its.drop (HT.sIx its.length 0 lo)).take (HT.sIx its.length its.length hi - HT.sIx its.length 0 lo)).toArray:=by
 obtain ⟨h1,h2,h3⟩:=Zea lo hi its.toArray.size;unfold slicePick;rw [h1,h2,h3];simp only [sliceRange_one,pick_run,Aq] <;> rfl
def rSlL (K:W.Frag):V->Option Int->Option Int->Hp->VK->Prop:=λx lo hi H Q=>∃ a xs,x=.ref a/\SqL K H a xs/\∀ p,H p=none->Q (.ref p) (upd H p (.lst (cutV xs lo hi)))
def Ue:SlR X (rSlL X.K):=by
 intro jh s σ H x v vl vu lo hi sl Q I rx hs pl pu h;obtain ⟨a,xs,rfl,hx,q⟩:=h;cases rx;obtain ⟨its,r,ht,hz⟩:=I.list hx;have jm:=r.length;refine ⟨"list",_,slot_list_getitem.lookup,ht.isList.typeIs,?_⟩;refine wpAny_getItem_list_slice ht.isList hs pl pu .none (by simp) ?_ (by rw [Aq] <;> lia);rw [Zdg,<- jm];refine ⟨.ref s.heap.objs.size,_,I.laid (t':=s.toks) (o:=.lst (cutV xs lo hi)) (λb ob q=>Ak _ q) (An _) ?_,Y,q _ (I.hok.fresh (An _))⟩;exact ⟨Nat.le_trans (Zg6 xs lo hi) hz,_,0,(r.drop (HT.sIx xs.length 0 lo)).take (HT.sIx xs.length xs.length hi - HT.sIx xs.length 0 lo),Ap _ Y⟩
noncomputable def Q6:V->Bool
 | .non=>true
 | .bl _=>true
 | .int _=>true
 | .str _=>true
 | _=>false
noncomputable def eqV:V->V->Bool
 | .non,.non=>true
 | .bl a,.bl b=>a == b
 | .bl a,.int b=>(if a then 1 else 0) == b
 | .int a,.bl b=>a == (if b then 1 else 0)
 | .int a,.int b=>a == b
 | .str a,.str b=>a == b
 | _,_=>false
def Zr2 {A:Around} {s:Shared} {y x:V} {u v:Value} (ry:RelV y u) (rx:RelV x v) (fy:Q6 y=true) (fx:Q6 x=true):SeqAt.EqAt A s u v (eqV y x):=by
 cases y with
 | non =>
  cases ry
  cases x with
  | non=>cases rx; exact SeqAt.EqAt.same _
  | bl b=>cases rx; exact SeqAt.EqAt.none_bool b
  | int b=>obtain ⟨t,rfl⟩:=rx; exact SeqAt.EqAt.none_int b t
  | str b=>obtain ⟨t,rfl⟩:=rx; exact SeqAt.EqAt.none_str b t
  | _=>exact absurd (show false=true from fx) Bool.false_ne_true
 | bl a =>
  cases ry
  cases x with
  | non=>cases rx; exact SeqAt.EqAt.bool_none a
  | bl b=>cases rx; exact SeqAt.EqAt.bool_bool a b
  | int b=>obtain ⟨t,rfl⟩:=rx; exact SeqAt.EqAt.bool_int a b t
  | str b=>obtain ⟨t,rfl⟩:=rx; exact SeqAt.EqAt.bool_str a b t
  | _=>exact absurd (show false=true from fx) Bool.false_ne_true
 | int a =>
  obtain ⟨t',rfl⟩:=ry
  cases x with
  | non=>cases rx; exact SeqAt.EqAt.int_none a t'
  | bl b=>cases rx; exact SeqAt.EqAt.int_bool a t' b
  | int b=>obtain ⟨t,rfl⟩:=rx; exact SeqAt.EqAt.int_int a t' b t
  | str b=>obtain ⟨t,rfl⟩:=rx; exact SeqAt.EqAt.int_str a t' b t
  | _=>exact absurd (show false=true from fx) Bool.false_ne_true
 | str a =>
  obtain ⟨t',rfl⟩:=ry
  cases x with
  | non=>cases rx; exact SeqAt.EqAt.str_none a t'
  | bl b=>cases rx; exact SeqAt.EqAt.str_bool a t' b
  | int b=>obtain ⟨t,rfl⟩:=rx; exact SeqAt.EqAt.str_int a t' b t
  | str b=>obtain ⟨t,rfl⟩:=rx; exact SeqAt.EqAt.str_str a t' b t
  | _=>exact absurd (show false=true from fx) Bool.false_ne_true
 | _=>exact absurd (show false=true from fy) Bool.false_ne_true
noncomputable def eqU (x:V) (u:Value):Bool:=match u with
 | .none=>eqV .non x
 | .bool b=>eqV (.bl b) x
 | .int i _=>eqV (.int i) x
 | .str z _=>eqV (.str z) x
 | _=>false
def Zlk {x y:V} {u:Value} (r:RelV y u) (f:Q6 y=true):eqU x u=eqV y x:=by
 cases y with
 | non=>cases r; rfl
 | bl b=>cases r; rfl
 | int i=>obtain ⟨t,rfl⟩:=r; rfl
 | str z=>obtain ⟨t,rfl⟩:=r; rfl
 | _=>exact absurd (show false=true from f) Bool.false_ne_true
theorem Zb5 {x:V}:∀ {xs:List V} {us:List Value},Vals xs us->xs.all Q6=true->us.any (eqU x)=xs.any λy=>eqV y x
 | _,_,.nil,_=>rfl
 | y :: xs,u :: us,.cons r t,f=>by
  rw [all_cons,Bool.and_eq_true] at f;rw [any_cons,any_cons,Zlk r f.1,Zb5 t f.2]
theorem Fl {A:Around} {s:Shared} {x:V} {v:Value} (rx:RelV x v) (fx:Q6 x=true):∀ {xs:List V} {us:List Value},Vals xs us->xs.all Q6=true->∀ u∈us,SeqAt.EqAt A s u v (eqU x u)
 | _,_,.nil,_=>λu hu=>by cases hu
 | y :: xs,u :: us,.cons r t,f=>λu' hu=>by
  rw [all_cons,Bool.and_eq_true] at f
  rcases Ar hu with rfl | hu
  ·rw [Zlk r f.1]; exact Zr2 r rx f.1 fx
  ·exact Fl rx fx t f.2 u' hu
noncomputable def inV (x:V) (xs:List V):Bool:=xs.any λy=>eqV y x
def rIn (K:W.Frag) (neg:Bool):R2:=λx y H Q=>∃ p xs,y=.ref p/\(SqL K H p xs\/SqT K H p xs)/\Q6 x=true/\xs.all Q6=true/\Q (.bl (if neg then !inV x xs else inV x xs)) H
def Zco:OpR X (compareOp .In) (rIn X.K false):=by
 intro jh s σ H x y v u Q I rx ry h;obtain ⟨p,xs,rfl,hq,fx,fs,q⟩:=h;cases ry
 rcases hq with hq | hq
 ·obtain ⟨its,r,pl,hz⟩:=I.list hq
  refine SeqAt.in_listAt (eqU x) pl.isList (λw hw=>Fl rx fx r fs w (by simpa using hw)) ⟨.bl _,H,I,Y,?_⟩;rw [show its.toArray.any (eqU x)=its.any (eqU x) by simp,Zb5 r fs];exact q
 ·obtain ⟨its,r,pl,hz⟩:=I.tuple hq
  refine SeqAt.in_tupleAt (eqU x) pl (λw hw=>Fl rx fx r fs w (by simpa using hw)) ⟨.bl _,H,I,Y,?_⟩;rw [show its.toArray.any (eqU x)=its.any (eqU x) by simp,Zb5 r fs];exact q
def Zu:Y2 X (.builtin "len") (λxs H Q=>∃ p ys,xs=[.ref p]/\(SqL X.K H p ys\/SqT X.K H p ys)/\Q (.int ys.length) H):=by
 intro jh s σ H xs us Q I r h;obtain ⟨p,ys,rfl,hq,q⟩:=h;obtain ⟨u,rfl,rx⟩:=Xm r;cases rx;have hn:=Qi
 rcases hq with hq | hq
 ·obtain ⟨its,r',pl,hz⟩:=I.list hq
  have jm:=r'.length;exact Calls.call_len_list pl.isList (by simp only [Aq] <;> lia) ⟨.int ys.length,H,I.tok _,⟨s.toks + 1,by rw [Aq,jm]⟩,q⟩
 ·obtain ⟨its,r',pl,hz⟩:=I.tuple hq
  have jm:=r'.length;exact len_tuple pl (by simp only [Aq] <;> lia) ⟨.int ys.length,H,I.tok _,⟨s.toks + 1,by rw [Aq,jm]⟩,q⟩
def Zgd:Y2 X (.builtin "len") (λxs H Q=>∃ z,xs=[.str z]/\z.length<=sizeLine/\Q (.int z.length) H):=by
 intro jh s σ H xs us Q I r h;obtain ⟨z,rfl,hz,q⟩:=h;obtain ⟨u,rfl,t,rfl⟩:=Xm r;have hn:=Qi;exact len_str (by lia) ⟨.int z.length,H,I.tok _,⟨_,Y⟩,q⟩
def Xf:Y2 X (.type "list") (λxs H Q=>∃ p ys,xs=[.ref p]/\(SqL X.K H p ys\/SqT X.K H p ys)/\∀ l,H l=none->Q (.ref l) (upd H l (.lst ys))):=by
 intro jh s σ H xs us Q I r h;obtain ⟨p,ys,rfl,hq,q⟩:=h;obtain ⟨u,rfl,rx⟩:=Xm r;cases rx;have kh:∀ (its:List Value),Vals ys its->ys.length<=sizeLine->∀ (h':Heap) (c':Nat),(∀ b o',s.heap.get? b=some o'->h'.get? b=some o') ->
   h'.get? s.heap.objs.size=some { cls:=.type "list",dict:=none,data:=.seq its.toArray c',slots:=#[] }->EP X jh σ Q (.ref s.heap.objs.size) { s with heap:=h' }:=λits r' hz h' c' kp e =>
  ⟨.ref s.heap.objs.size,_,I.laid (t':=s.toks) kp (An _) (show Yc X.prog X.w _ h' _ (.lst ys) from ⟨hz,its,c',r',e⟩),rfl,q _ (I.hok.fresh (An _))⟩
 rcases hq with hq | hq
 ·obtain ⟨its,r',pl,hz⟩:=I.list hq
  have jm:=r'.length;obtain ⟨o,ho,hc,n,hd⟩:=pl.isList;exact call_list_seq p (.inl Y) ho hc hd (λh' c' kp e=>kh its r' hz h' c' kp e) (by simp only [Aq] <;> lia)
 ·obtain ⟨its,r',pl,hz⟩:=I.tuple hq
  have jm:=r'.length;obtain ⟨o,ho,hc,n,hd⟩:=pl;exact call_list_seq p (.inr Y) ho hc hd (λh' c' kp e=>kh its r' hz h' c' kp e) (by simp only [Aq] <;> lia)
def Zdp:Y2 X (.type "tuple") (λxs H Q=>∃ p ys,xs=[.ref p]/\((SqL X.K H p ys/\∀ l,H l=none->Q (.ref l) (upd H l (.tup ys)))\/(SqT X.K H p ys/\Q (.ref p) H))):=by
 intro jh s σ H xs us Q I r h;obtain ⟨p,ys,rfl,h⟩:=h;obtain ⟨u,rfl,rx⟩:=Xm r;cases rx
 rcases h with ⟨hq,q⟩ | ⟨hq,q⟩
 ·obtain ⟨its,r',pl,hz⟩:=I.list hq
  have jm:=r'.length;refine call_tuple_list pl.isList (λh' kp=>?_) (by simp only [Aq] <;> lia);have I1:Inv X jh σ H { s with heap:=h' }:=I.kept (t':=s.toks) kp;have I2:Inv X jh σ (upd H h'.objs.size (.tup ys)) { s with heap:=h'.push { cls:=.type "tuple",data:=.seq its.toArray } } :=
   I1.laid (t':=s.toks) (λb o e=>Ak _ e) (An _) (show Yc X.prog X.w _ _ _ (.tup ys) from ⟨hz,its,r',IsTup.new _ _⟩)
  exact ⟨.ref h'.objs.size,_,I2,Y,q _ (I1.hok.fresh (An _))⟩
 ·obtain ⟨its,r',pl,hz⟩:=I.tuple hq
  exact call_tuple_same pl ⟨.ref p,H,I,Y,q⟩
def tyV (K:W.Frag) (T:String) (x:V) (H:Hp):Prop:=match x with
 | .str _=>T="str"
 | .int _=>T="int"
 | .ref p=>(T="list"/\∃ xs,SqL K H p xs)\/(T="tuple"/\∃ o,K.lookup p=some o/\o.cls=.type "tuple"/\o.dict=none) \/
   (T="dict"/\((∃ kvs,H p=some (.dK kvs))\/∃ kvs,H p=some (.dT kvs)))\/(T="set"/\∃ S n,H p=some (.set S n))
 | _=>False
def Zjt {s:Shared} (I:Inv X jh σ H s) (r:RelV x v) (ty:tyV X.K T x H) :
  s.TypeIs v T/\∀ a,v=.ref a->∃ ob,s.heap.get? a=some ob/\ob.dict=none:=by
 cases x with
 | str z =>
  obtain ⟨t,rfl⟩:=r;cases (show T="str" from ty);exact ⟨typeIs_str s z t,λ_ e=>nomatch e⟩
 | int i =>
  obtain ⟨t,rfl⟩:=r;cases (show T="int" from ty);exact ⟨typeIs_int s i t,λ_ e=>nomatch e⟩
 | ref p =>
  cases r
  rcases ty with ⟨rfl,xs,hq⟩ | ⟨rfl,o,hk,hc,hd⟩ | ⟨rfl,hk⟩ | ⟨rfl,S,n,hk⟩
  ·obtain ⟨its,_,pl,_⟩:=I.list hq
   refine ⟨pl.isList.typeIs,λa e=>?_⟩;cases e;obtain ⟨o,n,e,c,hd,_⟩:=pl;exact ⟨o,e,hd⟩
  ·refine ⟨⟨o,I.kIn p o hk,hc⟩,λa e=>?_⟩
   cases e;exact ⟨o,I.kIn _ o hk,hd⟩
  ·have z:∃ o,s.heap.get? p=some o/\o.ExactDict:=by
    rcases hk with ⟨kvs,hk⟩ | ⟨kvs,hk⟩
    ·obtain ⟨_,_,_,_,o,_,_,e,ex,_⟩:=I.hok p _ hk
     exact ⟨o,e,ex⟩
    ·obtain ⟨_,_,_,_,o,_,_,e,ex,_⟩:=I.hok p _ hk
     exact ⟨o,e,ex⟩
   obtain ⟨o,e,ex⟩:=z;refine ⟨⟨o,e,ex.1⟩,λa e2=>?_⟩;cases e2;exact ⟨o,e,ex.2.1⟩
  ·obtain ⟨o,_,_,_,e,ex,_⟩:=I.hok p _ hk
   refine ⟨⟨o,e,ex.1⟩,λa e2=>?_⟩;cases e2;exact ⟨o,e,ex.2.1⟩
 | _=>exact False.elim ty
def tBM (K:W.Frag) (T:String) (r:V->List V->Hp->VK->Prop) (to:TE) (t:TA):TE:=λσ H Q=>to σ H λx H1=>tyV K T x H1/\t σ H1 λxs H2=>r x xs H2 Q
variable {o e:Expr} {es:List Expr} {to:TE} {t:TA} {name:Str} {jv js:Pos} {T id:String} {r:V->List V->Hp->VK->Prop}
def Xw (pa:PlainAttrs T) (slot:Slot T name id) (zq:typeOf (.builtin id)=pure (.type "method_descriptor")) (hm:MtR X id r) (ho:PE X o to) (ha:PA X (e :: es) t)
  (on:attributeBase o name X.env (eval o X.env)=eval o X.env:=by rfl)
  (rg:((backTo js (starEach (e :: es) X.env)).all (λx=>!x.1) && (backToKw js (keywordEach [] X.env)).all (λx=>x.1.isSome)
   && decide ((e :: es).length + ([]:List Keyword).length + (if ([]:List Keyword).isEmpty then 0 else 1) < 30))=true:=by rfl)
  (oj:(jv.endLine == js.line)=true:=by rfl) (hs:starEach (e :: es) X.env=(false,eval e X.env) :: starEach es X.env:=by rfl) (xz:(backTo js (starEach es X.env)).any (·.1)=false:=by rfl) :
  PE X (.Call (.Attribute o name jv) (e :: es) [] js) (tBM X.K T r to t):=by
 intro jh s σ H Q I h;refine wpAny_Call_method_late on rg oj Y (thn (ho jh s σ H _ I h) λv s1 jp=>?_);obtain ⟨x,H1,I1,r1,ty,q1⟩:=jp;obtain ⟨h1,h2⟩:=Zjt I1 r1 ty;refine ⟨T,id,pa,slot,zq,h1,h2,?_⟩;have hA:=ha js jh s1 σ H1 _ I1 q1;rw [hs] at hA ⊢;refine Calls.callWith_builtin (by show (false || (backTo js (starEach es X.env)).any (·.1))=false; rw [xz] <;> rfl) (Calls.evalArgs_plain ?_);refine thn hA λus s2 zz22=>?_;obtain ⟨vs,H2,I2,r2,q2⟩:=zz22;exact hm jh s2 σ H2 x vs v us Q I2 r1 r2 q2
end
def MtM (X:Cx) (id:String) (r:V->List V->Hp->VK->Prop):Prop :=
 ∀ jh s σ H (x:V) (xs:List V) (v:Value) (us:List Value) (Q:VK),Inv X jh σ H s->RelV x v->Vals xs us->r x xs H Q ->
  wpAny (c:) X.A (call (.builtin id) (v :: us)) (EP X jh σ Q) X.xe s
def Vals.one (h:Vals [x] us):∃ u,us=[u]/\RelV x u:=by
  cases h with
  | cons r t=>cases t; exact ⟨_,Y,r⟩
def Vals.two (h:Vals [x,y] us):∃ u v,us=[u,v]/\RelV x u/\RelV y v:=by
  cases h with
  | cons r t =>
    obtain ⟨v,rfl,q⟩:=Vals.one t;exact ⟨_,v,Y,r,q⟩
theorem Vals.eraseIdx:∀ {xs:List V} {us:List Value} (i:Nat),Vals xs us->Vals (xs.eraseIdx i) (us.eraseIdx i)
 | _,_,_,.nil=>.nil
 | _,_,0,.cons _ t=>t
 | _,_,i + 1,.cons r t=>.cons r (Vals.eraseIdx i t)
theorem Vals.rep (h:Vals xs us):∀ k:Nat,Vals (List.replicate k xs).flatten (List.replicate k us).flatten
 | 0=>.nil
 | k + 1=>by
  rw [replicate_succ,replicate_succ,flatten_cons,flatten_cons];exact Vals.append h (Vals.rep h k)
theorem Zcu {α:Type}:∀ (l:List α) (i:Nat),(l.eraseIdx i).length<=l.length
 | [],_=>An _
 | _ :: _,0=>le_succ _
 | _ :: r,i + 1=>succ_le_succ (Zcu r i)
theorem Zcx (its:List Value):∀ (k:Nat) (jq:List Value),
  List.foldl (λx1 x2=>x1 ++ x2) jq.toArray (List.replicate k its.toArray)=(jq ++ (List.replicate k its).flatten).toArray
 | 0,jq=>by simp
 | k + 1,jq=>by
  have e:jq.toArray ++ its.toArray=(jq ++ its).toArray:=by simp
  have e2:(jq ++ its) ++ (List.replicate k its).flatten=jq ++ (List.replicate (k + 1) its).flatten:=by
   rw [replicate_succ,flatten_cons,append_assoc]
  rw [<- e2,<- Zcx its k (jq ++ its),<- e,replicate_succ,foldl_cons]
section
variable {X:Cx} {jh:List (m:)} {σ:St} {H:Hp} {s:Shared} {l b:Addr} {xs ys zs:List V}
def Inv.lset {its its':List Value} {t':Nat} (I:Inv X jh σ H s) (hH:H l=some (.lst xs))
  (e:s.heap.get? l=some { cls:=.type "list",data:=.seq its.toArray n }) (hf:f its.toArray=its'.toArray) (hv:Vals ys its') (hz:ys.length<=sizeLine) :
  Inv X jh σ (upd H l (.lst ys)) { s with heap:=s.heap.update l (Obj.mapSeq f),toks:=t' }:=by
 have q:=PySem.IsL.update e f;rw [hf] at q;refine I.write (x:=l) (e:=l) (by rw [hH]; exact trivial) (.inl Y) (λb' u hb hu=>(Heap.get?_update_other s.heap (Obj.mapSeq f) (Ne.symm hb)).trans hu) ⟨_,q⟩ ?_;exact ⟨hz,its',_,hv,q⟩
def Inv.lnew {its:List Value} {t':Nat} (I:Inv X jh σ H s) (hv:Vals ys its) (hz:ys.length<=sizeLine) :
  Inv X jh σ (upd H s.heap.objs.size (.lst ys)) { s with heap:=s.heap.push { cls:=.type "list",data:=.seq its.toArray },toks:=t' } :=
 I.laid (λ_ _ q=>Ak _ q) (An _) ⟨hz,its,0,hv,Ap _ rfl⟩
def Inv.fresh (I:Inv X jh σ H s):H s.heap.objs.size=none:=I.hok.fresh (An _)
def Inv.lstM (I:Inv X jh σ H s) (hH:H l=some (.lst xs)):xs.length<=sizeLine/\∃ (its:List Value) (n:Nat),Vals xs its/\xs.length=its.length/\s.heap.get? l=some { cls:=.type "list",data:=.seq its.toArray n }:=by
 obtain ⟨z,its,n,r,e⟩:=I.hok l _ hH;exact ⟨z,its,n,r,r.length,e⟩
def Zmz (h:n<=sizeLine):Builtin.List.listTooLong n=false:=by
 unfold Builtin.List.listTooLong;exact decide_eq_false (by lia)
end
section
variable {X:Cx}
def Zpb:V->List V->Hp->VK->Prop:=λx vs H Q=>∃ l xs y,x=.ref l/\vs=[y]/\H l=some (.lst xs)/\xs.length < sizeLine/\Q .non (upd H l (.lst (xs ++ [y])))
def Y3:MtM X "list.append" Zpb:=by
 intro jh s σ H x vs v us Q I rx rv h;obtain ⟨l,xs,y,rfl,rfl,hH,hz,q⟩:=h;cases rx;obtain ⟨u,rfl,ru⟩:=rv.one;obtain ⟨z,its,n,r,hl,e⟩:=I.lstM hH;refine call_meets F.slot_list_append ⟨_,e,Y⟩ F.entry_list_append (F.args_list_append_2 _ _) (PySem.list_append l its.toArray n u (by rw [Aq]; lia)) ⟨e,?_⟩;refine ⟨.non,_,I.lset (its':=its ++ [u]) hH e (by simp) (r.append (.cons ru .nil)) ?_,Y,q⟩;rw [Ae,At];lia
def Zq8:V->List V->Hp->VK->Prop:=λx vs H Q=>∃ l xs i k y,x=.ref l/\vs=[.int i]/\H l=some (.lst xs)/\-(2 ^ 63)<=i/\i < 2 ^ 63/\seqIndex? i xs.length=some k/\xs[k]?=some y/\Q y (upd H l (.lst (xs.eraseIdx k)))
def Zfo:MtM X "list.pop" Zq8:=by
 intro jh s σ H x vs v us Q I rx rv h;obtain ⟨l,xs,i,k,y,rfl,rfl,hH,h1,h2,hk,hy,q⟩:=h;cases rx;obtain ⟨u,rfl,ru⟩:=rv.one;obtain ⟨t,rfl⟩:=ru;obtain ⟨z,its,n,r,hl,e⟩:=I.lstM hH;obtain ⟨w,hw,nu⟩:=r.get hy;refine call_meets F.slot_list_pop ⟨_,e,Y⟩ F.entry_list_pop (F.args_list_pop_2 _ _)
  (MeetsSeq.list_pop_at l its.toArray n i t k w (fitsIndex_both h1 h2) (by rw [Aq,<- hl]; exact hk) (by rw [<- Array.getElem?_toList]; exact hw) (by rw [Aq]; lia)) ⟨e,?_⟩
 refine ⟨y,_,I.lset (its':=its.eraseIdx k) hH e ?_ (r.eraseIdx k) ?_,nu,q⟩
 ·show its.toArray.eraseIdxIfInBounds k=(its.eraseIdx k).toArray
  rw [eraseIdxIfInBounds_toArray]
 ·have:=Zcu xs k
  lia
def rCat:R2:=λx y H Q=>∃ l b xs zs,x=.ref l/\y=.ref b/\H l=some (.lst xs)/\H b=some (.lst zs)/\xs.length + zs.length<=sizeLine/\∀ p,H p=none->Q (.ref p) (upd H p (.lst (xs ++ zs)))
def Zfe:OpR X (binaryOp .Add) rCat:=by
 intro jh s σ H x y v u Q I rx ry h;obtain ⟨l,b,xs,zs,rfl,rfl,hH,hB,hz,q⟩:=h;cases rx;cases ry;obtain ⟨z,its,n,r,hl,e⟩:=I.lstM hH;obtain ⟨z2,its2,n2,r2,kf,e2⟩:=I.lstM hB;refine PySem.P.add_list e e2 ?_ (by rw [Aq,Aq]; lia);have ea:its.toArray ++ its2.toArray=(its ++ its2).toArray:=by simp
 rw [ea];exact ⟨.ref _,_,I.lnew (t':=s.toks) (r.append r2) (by rw [Ae]; lia),rfl,q _ I.fresh⟩
def rRep:R2:=λx y H Q=>∃ l k xs,x=.ref l/\y=.int k/\H l=some (.lst xs)/\-(2 ^ 63)<=k/\k < 2 ^ 63/\xs.length * k.toNat<=sizeLine /\
 ∀ p,H p=none->Q (.ref p) (upd H p (.lst (List.replicate k.toNat xs).flatten))
def Zpx {α:Type} (xs:List α) (k:Nat):(List.replicate k xs).flatten.length=k * xs.length:=by
 induction k with
 | zero=>simp
 | succ k ih=>rw [replicate_succ,flatten_cons,Ae,ih,succ_mul,Nat.add_comm]
def Zfc:OpR X (binaryOp .Mult) rRep:=by
 intro jh s σ H x y v u Q I rx ry h;obtain ⟨l,k,xs,rfl,rfl,hH,h1,h2,hz,q⟩:=h;cases rx;obtain ⟨t,rfl⟩:=ry;obtain ⟨z,its,n,r,hl,e⟩:=I.lstM hH;have jm:its.toArray.size * k.toNat<=sizeLine:=by rw [Aq,<- hl]; exact hz
 have hcap:¬ its.toArray.size * k.toNat > (2 ^ 63 - 1) / 8:=by
  have:(sizeLine:Nat)<=(2 ^ 63 - 1) / 8:=by decide
  lia
 have hfit:¬ (!Builtin.List.listFitsIndex k)=true:=by
  rw [fitsIndex_both h1 h2];exact Bool.false_ne_true
 have hlong:¬ Builtin.List.listTooLong (its.toArray.size * k.toNat)=true:=by
  rw [Zmz jm];exact Bool.false_ne_true
 have pf:List.foldl (λx1 x2=>x1 ++ x2) #[] (List.replicate (if its.toArray.isEmpty=true then 0 else k.toNat) its.toArray)=(List.replicate k.toNat its).flatten.toArray:=by
  have f0:∀ m:Nat,List.foldl (λx1 x2=>x1 ++ x2) #[] (List.replicate m its.toArray)=(List.replicate m its).flatten.toArray:=λm=>by
   have:=Zcx its m [];rw [nil_append] at this;exact this
  rw [f0]
  cases its with
  | nil=>simp
  | cons a r'=>rw [if_neg (by simp)]
 refine wpAny_binaryOp_repeat_ref (T:="list") (U:="int") (d:) ⟨_,e,rfl⟩ (λs'=>typeIs_int s' k t) noFill_list_mul F.fills_int_mul F.slot_int_rmul repeat_list F.slot_int_index.lookup
  (call_meets F.slot_int_rmul (typeIs_int s k t) F.entry_int_rmul (F.args_int_rmul_2 _ _) (int___rmul___int_list k t l its.toArray n)
   ⟨e,rfl,⟨_,e,rfl⟩,call_meets F.slot_list_mul ⟨_,e,rfl⟩ F.entry_list_mul (F.args_list_mul_2 _ _) (AutoListH.list___mul___list_int_3 l its.toArray n k t hfit hcap hlong) ⟨e,?_⟩⟩)
 rw [pf];exact ⟨.ref _,_,I.lnew (t':=s.toks) (r.rep k.toNat) (by rw [Zpx,Nat.mul_comm]; exact hz),Y,q _ I.fresh⟩
end
section
variable {κ:Type} [DecidableEq κ]
noncomputable def valV (kvs:List (κ × V)) (k:κ):Option V:=(kvs.find? λkv=>decide (kv.1=k)).map (·.2)
noncomputable def putK (kvs:List (κ × V)) (k:κ) (v:V):List (κ × V) :=
 if (kvs.any λkv=>decide (kv.1=k))=true then kvs.map (λkv=>if kv.1=k then (kv.1,v) else kv) else kvs ++ [(k,v)]
def G3 {p:κ × V} {r:List (κ × V)} (e:p.1=k):valV (p :: r) k=some p.2:=by simp [valV,find?_cons,e]
def G4 {p:κ × V} (e:¬ p.1=k):valV (p :: r) k=valV r k:=by simp [valV,find?_cons,e]
theorem Zdv (k:κ):∀ kvs:List (κ × V),(kvs.any λkv=>decide (kv.1=k))=(valV kvs k).isSome
 | []=>rfl
 | p :: r=>by
  rw [any_cons];by_cases e:p.1=k
  ·simp only [G3 e,decide_eq_true e,Bool.true_or,Option.isSome_some]
  ·rw [G4 e,decide_eq_false e,Bool.false_or]; exact Zdv k r
def Qa (kvs:List (κ × V)) (k:κ) (v:V):(putK kvs k v).length<=kvs.length + 1:=by
 unfold putK;split
 ·rw [Ab]; lia
 ·rw [Ae,length_cons,length_nil]; lia
def RelO.isSome_eq {o:Option V} {u:Option Value} (r:RelO o u):o.isSome=u.isSome:=by
 cases o with
 | none=>cases u with
  | none=>rfl
  | some _=>exact (show False from r).elim
 | some _=>cases u with
  | none=>exact (show False from r).elim
  | some _=>rfl
def KV.val (r:KV kvs vs) (k:κ):RelO (valV kvs k) (valueAt vs k):=by
 unfold KV at r
 induction r with
 | nil=>exact True.intro
 | @cons p q ps qs h t ih =>
  obtain ⟨h1,h2⟩:=h;by_cases e:p.1=k
  ·have e':q.1=k:=h1.symm.trans e
   have b:valueAt (q :: qs) k=some q.2:=by simp [valueAt,find?_cons,e']
   rw [G3 e,b]; exact h2
  ·have e':¬ q.1=k:=λz=>e (h1.trans z)
   have b:valueAt (q :: qs) k=valueAt qs k:=by simp [valueAt,find?_cons,e']
   rw [G4 e,b]; exact ih
def KV.any {kvs:List (κ × V)} {vs:List (κ × Value)} (r:KV kvs vs) (k:κ):(kvs.any λkv=>decide (kv.1=k))=vs.any λkv=>decide (kv.1=k):=by
 unfold KV at r
 induction r with
 | nil=>rfl
 | cons h t ih=>rw [any_cons,any_cons,ih,h.1]
def KV.repl {kvs:List (κ × V)} {vs:List (κ × Value)} (r:KV kvs vs) (k:κ) (ry:RelV y u) :
  KV (kvs.map λkv=>if kv.1=k then (kv.1,y) else kv) (vs.map λkv=>if kv.1=k then (kv.1,u) else kv):=by
 unfold KV at r ⊢
 induction r with
 | nil=>exact .nil
 | @cons p q ps qs h t ih =>
  rw [map_cons,map_cons];refine .cons ?_ ih;obtain ⟨h1,h2⟩:=h;by_cases e:p.1=k
  ·rw [if_pos e,if_pos (h1.symm.trans e)]; exact ⟨h1,ry⟩
  ·rw [if_neg e,if_neg (λz=>e (h1.trans z))]; exact ⟨h1,h2⟩
def KV.put (r:KV kvs vs) (k:κ) (ry:RelV y u):KV (putK kvs k y) (stored vs k u):=by
 unfold putK stored;rw [r.any k];by_cases e:(vs.any λkv=>decide (kv.1=k))=true
 ·rw [if_pos e,if_pos e]; exact r.repl k ry
 ·rw [if_neg e,if_neg e]; exact Paired.snoc r ⟨Y,ry⟩
def KV.length {kvs:List (κ × V)} {vs:List (κ × Value)} (r:KV kvs vs):kvs.length=vs.length:=Paired.length r
end
def Od (r:RelV (kV k) u):(Ye P w).is k u=true:=by
 cases k with
 | inl i=>obtain ⟨t,e⟩:=(show ∃ t,u=Value.int i t from r); subst e; exact Zg3 P w i t
 | inr x=>obtain ⟨t,e⟩:=(show ∃ t,u=Value.str x t from r); subst e; exact Zg2 P w x t
theorem Zcv:∀ {ks:List Key} {us:List Value},Vals (ks.map kV) us->ItemsAre (Ye P w) ks us
 | [],_,r=>by rw [map_nil] at r; cases r; exact .nil
 | k :: ks,_,r=>by
  rw [map_cons] at r
  cases r with
  | cons h t=>exact .cons (Od h) (Zcv t)
abbrev KT (H:Hp):List (List Key × V)->List (List Key × Addr × Value)->Prop:=Paired λp q=>p.1=q.1/\H q.2.1=some (.tup (p.1.map kV))/\RelV p.2 q.2.2
def KT.val (r:KT H kvs xs) (k:List Key):RelO (valV kvs k) ((atKey xs k).map (·.2)):=by
 induction r with
 | nil=>exact True.intro
 | @cons p q ps qs h t ih =>
  obtain ⟨h1,_,h2⟩:=h;by_cases e:p.1=k
  ·have e':q.1=k:=h1.symm.trans e
   have b:atKey (q :: qs) k=some q.2:=by simp [atKey,find?_cons,e']
   rw [G3 e,b]; exact h2
  ·have e':¬ q.1=k:=λz=>e (h1.trans z)
   have b:atKey (q :: qs) k=atKey qs k:=by simp [atKey,find?_cons,e']
   rw [G4 e,b]; exact ih
def KT.repl {kvs:List (List Key × V)} {xs:List (List Key × Addr × Value)} (r:KT H kvs xs) (k:List Key) (ry:RelV y u) :
  KT H (kvs.map λkv=>if kv.1=k then (kv.1,y) else kv) (xs.map (putAt k u)):=by
 induction r with
 | nil=>exact .nil
 | @cons p q ps qs h t ih =>
  rw [map_cons,map_cons];refine .cons ?_ ih;obtain ⟨h1,h2,h3⟩:=h;unfold putAt;by_cases e:p.1=k
  ·rw [if_pos e,if_pos (h1.symm.trans e)]; exact ⟨h1,h2,ry⟩
  ·rw [if_neg e,if_neg (λz=>e (h1.trans z))]; exact ⟨h1,h2,h3⟩
def KT.put (r:KT H kvs xs) (k:List Key) (hb:H b=some (.tup (k.map kV))) (ry:RelV y u) :
  KT H (putK kvs k y) (storedH xs k b u):=by
 have e:(kvs.any λkv=>decide (kv.1=k))=(atKey xs k).isSome:=by
  rw [Zdv,(r.val k).isSome_eq,Option.isSome_map]
 unfold putK storedH;rw [e];by_cases q:(atKey xs k).isSome=true
 ·rw [if_pos q,if_pos q]; exact r.repl k ry
 ·rw [if_neg q,if_neg q]; exact Paired.snoc r ⟨Y,hb,ry⟩
def KT.keeps (r:KT H kvs xs) (ht:∀ b ys,H b=some (.tup ys)->H' b=some (.tup ys)):KT H' kvs xs :=
 Paired.mapP r λ_ _ z=>⟨z.1,ht _ _ z.2.1,z.2.2⟩
section
variable {P:Program} {w:World} {H:Hp} {h:Heap} {a:Addr}
def Zn5 (ok:HOk P w H h) (e:Rd H a u):Yc P w H h a u:=e.ok ok
def Q7 {kvs:List (Key × V)} (ok:HOk P w H h) (e:Rd H a (.dK kvs)):kvs.length<=sizeLine/\(a == sysModules)=false/\∃ vs,KV kvs vs/\h.DictOf (Ye P w) a vs :=
 show Yc P w H h a (.dK kvs) from Zn5 ok e
def Zjk {kvs:List (Key × V)} (ok:HOk P w H h) (e:H a=some (.dK kvs)):kvs.length<=sizeLine/\(a == sysModules)=false/\∃ vs,KV kvs vs/\h.DictOf (Ye P w) a vs:=Q7 ok (.inl e)
def Kx {ks:List Key} (ok:HOk P w H h) (e:H a=some (.tup (ks.map kV))):(tupleKind (Ye P w)).is h ks a:=by
 obtain ⟨_,its,r,o,h1,h2,n,h3⟩:=(show Yc P w H h a (.tup (ks.map kV)) from ok a _ e);exact ⟨o,its.toArray,n,h1,h2,h3,by simpa using Zcv r⟩
def Gc {kvs:List (List Key × V)} (ok:HOk P w H h) (e:Rd H a (.dT kvs)):kvs.length<=sizeLine/\(a == sysModules)=false /\
  ∃ xs,KT H kvs xs/\h.DictOfH (tupleKind (Ye P w)) a xs:=by
 obtain ⟨z,y,xs,r,o,es,ep,h1,h2,h3,h4,h5⟩:=(show Yc P w H h a (.dT kvs) from Zn5 ok e);refine ⟨z,y,xs,r,o,es,ep,h1,h2,h3,h4,λx hx=>?_,h5⟩
 have all:∀ {l:List (List Key × V)} {m:List (List Key × Addr × Value)},KT H l m->∀ x∈m,(tupleKind (Ye P w)).is h x.1 x.2.1:=by
  intro l m q
  induction q with
  | nil=>intro x hx; exact nomatch hx
  | @cons p q ps qs hq t ih =>
   intro x hx
   rcases Ar hx with e | hx
   ·subst e
    exact Kx ok (by rw [<- hq.1]; exact hq.2.1)
   ·exact ih x hx
 exact all r x hx
def Zth {kvs:List (List Key × V)} (ok:HOk P w H h) (e:H a=some (.dT kvs)):kvs.length<=sizeLine/\(a == sysModules)=false /\
  ∃ xs,KT H kvs xs/\h.DictOfH (tupleKind (Ye P w)) a xs:=Gc ok (.inl e)
end
def DGet (H:Hp) (a:Addr) (y:V) (r:Option V):Prop :=
 (∃ kvs k,Rd H a (.dK kvs)/\y=kV k/\r=valV kvs k)\/∃ kvs k b,Rd H a (.dT kvs)/\y=.ref b/\H b=some (.tup (k.map kV))/\r=valV kvs k
def DPut (H:Hp) (a:Addr) (y v:V) (H':Hp):Prop :=
 (∃ kvs k,H a=some (.dK kvs)/\y=kV k/\kvs.length < sizeLine/\H'=upd H a (.dK (putK kvs k v))) \/
 ∃ kvs k b,H a=some (.dT kvs)/\y=.ref b/\H b=some (.tup (k.map kV))/\kvs.length < sizeLine/\H'=upd H a (.dT (putK kvs k v))
def DPut.k {H:Hp} {a:Addr} {kvs:List (Key × V)} {k:Key} {v:V} (e:H a=some (.dK kvs)) (hl:kvs.length < sizeLine):DPut H a (kV k) v (upd H a (.dK (putK kvs k v))):=.inl ⟨kvs,k,e,rfl,hl,rfl⟩
section
variable {X:Cx} {jh:List (m:)} {σ:St} {H:Hp} {s:Shared} {a:Addr} {y v:V} {u r:Value} {o:Option V} {A:Around} {E:Value->Shared->Prop}
def Inv.big (I:Inv X jh σ H s):sysModules < s.heap.objs.size:=by
 have h:mainGlobals < s.heap.objs.size:=(I.mod.glob.keeps I.bk).lt;exact Nat.lt_trans (d:) h
def Zlo (hu:A.units + 1 < cLine) (I:Inv X jh σ H s) (g:DGet H a y (some v)) (ry:RelV y u) (h:∀ w' s',Inv X jh σ H s'->RelV v w'->Q w' s') :
  wpAny (c:) A (getItem (.ref a) u) Q E s:=by
 rcases g with ⟨kvs,k,e,ey,l⟩ | ⟨kvs,k,b,e,ey,eb,l⟩
 ·subst ey
  obtain ⟨z,hd,vs,j7,dd⟩:=Q7 I.hok e;obtain ⟨w',hw,nu⟩:=RelO.some_of (v:=v) (o:=valueAt vs k) (by rw [l]; exact j7.val k);exact wpAny_getItem_of (Od ry) dd.mapOf hw (h w' _ (I.tok _) nu)
 ·subst ey
  cases (show u=Value.ref b from ry);obtain ⟨z,hd,xs,j7,dd⟩:=Gc I.hok e;obtain ⟨w',hw,nu⟩:=RelO.some_of (v:=v) (o:=(atKey xs k).map (·.2)) (by rw [l]; exact j7.val k);obtain ⟨p,hp,oq⟩:=Option.map_eq_some_iff.mp hw;refine wpAny_getItem_heap (tupleKind_room_in1 hu) (Kx I.hok eb) dd hp ?_;rw [oq];exact h w' _ (I.tok _) nu
def d_in {Q:Value->Shared->Prop} (hu:A.units + 1 < cLine) (I:Inv X jh σ H s) (g:DGet H a y o) (ry:RelV y u) (h:∀ s',Inv X jh σ H s'->Q (.bool o.isSome) s') :
  wpAny (c:) A (compareOp .In u (.ref a)) Q E s:=by
 rcases g with ⟨kvs,k,e,ey,l⟩ | ⟨kvs,k,b,e,ey,eb,l⟩
 ·subst ey
  obtain ⟨z,hd,vs,j7,dd⟩:=Q7 I.hok e;refine wpAny_in_of (Od ry) hd dd.mapOf ?_;rw [<- (j7.val k).isSome_eq,<- l];exact h _ (I.tok _)
 ·subst ey
  cases (show u=Value.ref b from ry);obtain ⟨z,hd,xs,j7,dd⟩:=Gc I.hok e;refine wpAny_in_heap (tupleKind_room_in1 hu) (Kx I.hok eb) hd dd ?_;have q:=(j7.val k).isSome_eq;rw [Option.isSome_map] at q;rw [<- q,<- l];exact h _ (I.tok _)
def Zp7 (hu:A.units + 1 < cLine) (I:Inv X jh σ H s) (g:DGet H a y o) (ry:RelV y u) (h:∀ s',Inv X jh σ H s'->Q (.bool (!o.isSome)) s') :
  wpAny (c:) A (compareOp .NotIn u (.ref a)) Q E s:=by
 rcases g with ⟨kvs,k,e,ey,l⟩ | ⟨kvs,k,b,e,ey,eb,l⟩
 ·subst ey
  obtain ⟨z,hd,vs,j7,dd⟩:=Q7 I.hok e;refine wpAny_notIn_of (Od ry) hd dd.mapOf ?_;rw [<- (j7.val k).isSome_eq,<- l];exact h _ (I.tok _)
 ·subst ey
  cases (show u=Value.ref b from ry);obtain ⟨z,hd,xs,j7,dd⟩:=Gc I.hok e;refine wpAny_notIn_heap (tupleKind_room_in1 hu) (Kx I.hok eb) hd dd ?_;have q:=(j7.val k).isSome_eq;rw [Option.isSome_map] at q;rw [<- q,<- l];exact h _ (I.tok _)
def Gd {h':Heap} {t':Nat} (I:Inv X jh σ H s) (mu:Mut (H a)) (hs:Heap.SameBut a s.heap h') (he:∃ q,h'.get? a=some q) (new:Yc X.prog X.w (upd H a ob) h' a ob) :
  Inv X jh σ (upd H a ob) { s with heap:=h',toks:=t' } :=
 I.write (x:=a) (e:=a) mu (.inl rfl) (λb q hb z=>(hs.2 b hb).trans z) he new
def Zf5 {h':Heap} {kvs:List (Key × V)} (z:kvs.length<=sizeLine) (hd:(a == sysModules)=false) (j7:KV kvs vs) (dd:h'.DictOf (Ye P w) a vs) :
  Yc P w H' h' a (.dK kvs):=⟨z,hd,vs,j7,dd⟩
def Zln (hu:A.units + 1 < cLine) (I:Inv X jh σ H s) (g:DPut H a y v H') (ry:RelV y u) (rv:RelV v r) (h:∀ s',Inv X jh σ H' s'->Q () s') :
  wpAny (c:) A (setItem (.ref a) u r) Q E s:=by
 rcases g with ⟨kvs,k,e,ey,l,eH⟩ | ⟨kvs,k,b,e,ey,eb,l,eH⟩
 ·subst ey eH
  obtain ⟨z,hd,vs,j7,dd⟩:=Zjk I.hok e;have hz:vs.length<=sizeLine:=by rw [<- j7.length]; exact z
  have hl:(putK kvs k v).length<=sizeLine:=by have:=Qa kvs k v; lia
  refine wpAny_setItem_pairs (hsz:=hz) (Od ry) dd λh' t9 hs=>h _ ?_;have he:∃ q,h'.get? a=some q:=let ⟨q,_,_,hq,_⟩:=t9; ⟨q,hq⟩
  exact Gd I (by rw [e]; exact True.intro) hs he (Zf5 hl hd (j7.put k rv) t9)
 ·subst ey eH
  cases (show u=Value.ref b from ry);obtain ⟨z,hd,xs,j7,dd⟩:=Zth I.hok e;have hz:xs.length<=sizeLine:=by rw [<- Paired.length j7]; exact z
  have hl:(putK kvs k v).length<=sizeLine:=by have:=Qa kvs k v; lia
  refine wpAny_setItem_heap (hsz:=hz) (tupleKind_room_in1 hu) (Kx I.hok eb) dd λh' t9 hs=>h _ ?_;obtain ⟨q,es,ep,hq,h2,h3,h4,_,h5⟩:=t9;refine Gd I (by rw [e]; exact True.intro) hs ⟨q,hq⟩ ⟨hl,hd,_,(j7.put k eb rv).keeps λc ys ec=>?_,q,es,ep,hq,h2,h3,h4,h5⟩;rw [Ze (Zsz ec e (C:))];exact ec
end
def NoSl (i:Expr):Prop:=∀ ov iv,subscripted i false ov iv=operate [ov,iv] (getItem ov iv)
def Zos {prog:Program} {w:World} {A:Around} {E:Value->Shared->Prop} {s:Shared} {env:Env} {value ku:Expr} {pos:Pos} {T id:String} {Q:Value->Shared->Prop}
  (hl:typeLookup (.type T) "__getitem__"=pure (some (.builtin id))) (hs:NoSl ku)
  (h:wpAny (p:) A (eval value env) (λo s₁=>wpAny (p:) A (eval ku env) (λi s₂=>s₂.TypeIs o T/\wpAny (p:) A (getItem o i) Q E s₂) E s₁) E s) :
  wpAny (p:) A (eval (.Subscript value ku pos) env) Q E s:=by
 refine Subscript_ (wpAny_mono h (λo s₁ h₁=>wpAny_mono h₁ (λi s₂ h₂=>?_) λ_ _ x=>x) λ_ _ x=>x);obtain ⟨hT,h₂⟩:=h₂;unfold subscriptTail;refine Al ?_;rw [getitemInPython_of_ne hT.not_modules];refine Al (wpAny_specialOf hT hl ?_);have kh:wpAny (p:) A (subscripted ku false o i) (λr s₃=>wpAny (p:) A (letTemporaryGo value o r >>= λ_=>pure r) Q E s₃) E s₂:=by
  rw [hs o i]
  exact wpAny_operating (wpAny_mono h₂ (λr s₃ h₃=>Al (wpAny_letTemporaryGo (wpAny_pure h₃))) λ_ _ x=>x)
 first
  | exact wpAny_pure (Al kh)
  | exact Al (wpAny_pure (Al kh))
  | exact Al kh
def Zg5 {s:Shared} (I:Inv X jh σ H s) (g:DGet H a y o):s.TypeIs (.ref a) "dict":=by
 rcases g with ⟨kvs,k,e,_,_⟩ | ⟨kvs,k,b,e,_,_,_⟩
 ·obtain ⟨_,_,vs,_,dd⟩:=Q7 I.hok e
  exact dd.typeIs
 ·obtain ⟨_,_,xs,_,dd⟩:=Gc I.hok e
  exact dd.typeIs
def Zsn (td ty:TE):TE:=λσ H Q=>td σ H λx H1=>ty σ H1 λy H2=>∃ a v,x=.ref a/\DGet H2 a y (some v)/\Q v H2
def tDIn (ty td:TE):TE:=λσ H Q=>ty σ H λy H1=>td σ H1 λx H2=>∃ a o,x=.ref a/\DGet H2 a y o/\Q (.bl o.isSome) H2
def Zoq (ty td:TE):TE:=λσ H Q=>ty σ H λy H1=>td σ H1 λx H2=>∃ a o,x=.ref a/\DGet H2 a y o/\Q (.bl (!o.isSome)) H2
def Zsu (td ty tv:TE):TS:=λD σ H=>tv σ H λv H1=>td σ H1 λx H2=>ty σ H2 λy H3=>∃ a H4,x=.ref a/\DPut H3 a y v H4/\D.nx σ H4
section
variable {X:Cx} {o i e value:Expr} {pos lz m6:Pos} {td ty tv:TE}
def Jc (hu:X.A.units + 1 < cLine) (ho:PE X o td) (hi:PE X i ty) (hs:NoSl i):PE X (.Subscript o i pos) (Zsn td ty):=by
 intro jh s σ H Q I h;refine Zos PySem.F.slot_dict_getitem.lookup hs (thn (ho jh s σ H _ I h) λu s1 zz23=>?_);obtain ⟨x,H1,I1,rx,q1⟩:=zz23;refine thn (hi jh s1 σ H1 _ I1 q1) λiv s2 jp=>?_;obtain ⟨y,H2,I2,ry,a,v,ex,g,q2⟩:=jp;subst ex;obtain rfl:u=Value.ref a:=rx;exact ⟨Zg5 I2 g,Zlo hu I2 g ry λw' s3 I3 nu=>⟨v,H2,I3,nu,q2⟩⟩
def Zkq (hu:X.A.units + 1 < cLine) (hi:PE X i ty) (ho:PE X o td):PC X .In i o (tDIn ty td):=by
 intro jh s σ H Q I h;refine thn (hi jh s σ H _ I h) λiv s1 zz24=>?_;obtain ⟨y,H1,I1,ry,q1⟩:=zz24;refine thn (ho jh s1 σ H1 _ I1 q1) λu s2 jp=>?_;obtain ⟨x,H2,I2,rx,a,ov,ex,g,q2⟩:=jp;subst ex;obtain rfl:u=Value.ref a:=rx;exact d_in hu I2 g ry λs3 I3=>⟨.bl ov.isSome,H2,I3,Y,q2⟩
def Xx (hu:X.A.units + 1 < cLine) (hi:PE X i ty) (ho:PE X o td):PC X .NotIn i o (Zoq ty td):=by
 intro jh s σ H Q I h;refine thn (hi jh s σ H _ I h) λiv s1 zz25=>?_;obtain ⟨y,H1,I1,ry,q1⟩:=zz25;refine thn (ho jh s1 σ H1 _ I1 q1) λu s2 jp=>?_;obtain ⟨x,H2,I2,rx,a,ov,ex,g,q2⟩:=jp;subst ex;obtain rfl:u=Value.ref a:=rx;exact Zp7 hu I2 g ry λs3 I3=>⟨.bl (!ov.isSome),H2,I3,Y,q2⟩
def Zhm (hu:X.A.units + 1 < cLine) (ho:PE X o td) (hi:PE X i ty) (hv:PE X value tv) (hs:swapsWith value (some (.Subscript o i lz)) pos.line X.env=pure false) :
  PS X (.Assign [.Subscript o i lz] value pos) (Zsu td ty tv):=by
 intro jh s σ H D I h;refine wpAny_Assign_Subscript (thn (hv jh s σ H _ I h) λr s1 zz26=>?_) hs;obtain ⟨v,H1,I1,rv,q1⟩:=zz26;refine thn (ho jh s1 σ H1 _ I1 q1) λu s2 zz27=>?_;obtain ⟨x,H2,I2,rx,q2⟩:=zz27;refine thn (hi jh s2 σ H2 _ I2 q2) λiv s3 zz28=>?_;obtain ⟨y,H3,I3,ry,a,H4,ex,g,q3⟩:=zz28;subst ex;obtain rfl:u=Value.ref a:=rx;exact Zln hu I3 g ry rv λs4 I4=>⟨σ,H4,I4,q3⟩
end
def Fs (h:Heap) (hb:sysModules < h.objs.size):Yc P w H (h.push { cls:=.type "dict",data:=.dict #[] }) h.objs.size (.dK []) :=
 ⟨Az _,beq_eq_false_iff_ne.mpr (Ne.symm (As hb)),[],.nil,Heap.DictOf.new h⟩
def Zqy:TE:=λ_ H Q=>∀ p,H p=none->Q (.ref p) (upd H p (.dK []))
section
variable {X:Cx} {pos:Pos}
def U8:PE X (.Dict [] [] pos) Zqy:=λjh s σ H Q I h =>
 wpAny_Dict_empty ⟨.ref s.heap.objs.size,_,I.laid (a:=s.heap.objs.size) (o:=.dK []) (t':=s.toks) (λ_ _ q=>Ak _ q) (An _) (Fs s.heap I.big),rfl,h _ (I.hok.fresh (An _))⟩
end
structure M2 (X:Cx) (o:Expr) (m:Str) (jv:Pos) (e f:Expr) (js:Pos):Prop where
 base:attributeBase o m X.env (eval o X.env)=eval o X.env
 few:((backTo js (starEach [e,f] X.env)).all (λx=>!x.1) && (backToKw js (keywordEach [] X.env)).all (λx=>x.1.isSome)
  && decide (([e,f]:List Expr).length + ([]:List Keyword).length + (if ([]:List Keyword).isEmpty then 0 else 1) < 30))=true
 line:(jv.endLine == js.line)=true
 trees:backTo js (starEach [e,f] X.env)=[(false,eval e X.env),(false,eval f X.env)]
def IsD (H:Hp) (a:Addr):Prop:=(∃ kvs,Rd H a (.dK kvs))\/∃ kvs,Rd H a (.dT kvs)
def Zat {s:Shared} (I:Inv X jh σ H s) (d:IsD H a) :
  s.TypeIs (.ref a) "dict"/\(∀ b,Value.ref a=.ref b->∃ ob,s.heap.get? b=some ob/\ob.dict=none)/\(a == sysModules)=false:=by
 rcases d with ⟨kvs,e⟩ | ⟨kvs,e⟩
 ·obtain ⟨_,hd,vs,_,dd⟩:=Q7 I.hok e
  refine ⟨dd.typeIs,λb q=>?_,hd⟩;cases q;obtain ⟨ob,_,_,h1,h2,_⟩:=dd;exact ⟨ob,h1,h2.2.1⟩
 ·obtain ⟨_,hd,xs,_,dd⟩:=Gc I.hok e
  refine ⟨dd.typeIs,λb q=>?_,hd⟩;cases q;obtain ⟨ob,_,_,h1,h2,_⟩:=dd;exact ⟨ob,h1,h2.2.1⟩
end L2
namespace Att
open PySem PySem.W PySem.Calls PyProof.Rows
def Zau:∀ (ns:List Int) (vs:List Value),WellAll P h vs (ns.map WData.int)->IntsAre vs ns:=by
 intro ns
 induction ns with
 | nil =>
  intro vs w;rw [map_nil] at w;cases w;exact .nil
 | cons n ns ih =>
  intro vs w;rw [map_cons] at w
  cases w with
  | cons a b =>
   cases a;exact .cons _ _ (ih _ b)
def Zj9 {l:OpenLaw} (hn:l.most=some n) {h:Heap}
  (u6:l.row.toRowW.claim.pre args=true) (tf:WellAll P h vals args) :
  ∃ a vs ns,vals=[Value.ref a]/\args=[WData.list (ns.map WData.int)]/\h.get? a=some { cls:=.type "list",data:=.seq vs.toArray }/\IntsAre vs ns/\ns.length<=n:=by
 have hsh:WShape.hasAll [] args [.list .int]=true:=(pre_splitW u6).1;have hc:l.pre.holds [] { args:=args }=true:=(pre_splitW u6).2;obtain ⟨d,r,rfl,h1,h2⟩:=hasAllW_cons hsh;obtain rfl:=hasAllW_nil h2;obtain ⟨xs,rfl,h3⟩:=hasW_list h1;obtain ⟨ns,rfl⟩:=items_int h3
 have jm:ns.length<=n:=by
  unfold OpenLaw.pre at hc;have h4:(WTm.not (.lt (.lit (.int (n:Int))) (.len (.arg 0)))).holds [] { args:=[.list (ns.map .int)] }=true:=by
   have h4:=(holds_andW hc).1
   rw [hn] at h4
   exact h4
  have h5:=condW_of h4 (w_not (w_lt w_lit (w_len_list (w_arg rfl))));rw [Ab] at h5;refine Nat.le_of_not_lt λq=>?_;have q':(n:Int) < ((ns.length:Nat):Int):=by lia
  first
   | (rw [decide_eq_true q'] at h5; exact absurd h5 (by decide))
   | (simp at h5; lia)
 cases tf with
 | cons w1 w2 =>
  cases w2
  cases w1 with
  | list ho hall=>exact ⟨_,_,ns,Y,Y,ho,Zau ns _ hall,jm⟩
def Zkn (l:OpenLaw) (args:List WData):l.row.toRowW.claim.post args (.bool true) args=true :=
 postW_of (r:=l.row.toRowW) (X:=(true == true))
  (show WShape.has [] (.bool true) .bool=true by first | rfl | decide | simp [WShape.has,WShape.arms,WShape.armsAll])
  (show (WTm.eq .res (.lit (.bool true))).value [] { args:=args,res:=some (.bool true),after:=args }=some (.bool (true == true)) from w_eq_bool (w_res rfl) w_lit) rfl
def attach_call {l:OpenLaw} {d:DefRec}
  (hn:l.most=some n) (z9:d.params.defaults=[])
  (call:∀ (w:World) (s₀ s₁:Shared) (mg mb:Str->Option Value) (fa:Addr) (o:Obj) (pm cd kc:Value) (a:Addr) (vs:List Value) (ns:List Int),
   Ground q p3 [] XP w s₀ mg mb s₁.heap->YP w s₁.heap ->
   s₁.heap.get? fa=some o->o.data=.func (docDef d.name d.params d.body d.scope pm cd kc)->s₁.heap.CodeRec cd d.name->mg d.name=some (.ref fa) ->
   s₁.heap.get? a=some { cls:=.type "list",data:=.seq vs.toArray }->IntsAre vs ns->ns.length<=n->s₁.gens=#[] ->
   codeAny (model l.prog w) callerA (.call (.ref fa) ⟨[.ref a],[]⟩) (λr s'=>r=.ok (.ret (.bool true))/\OldK s₁.heap s'.heap/\s'.os=s₁.os/\AllBare s'.gens) s₁) :
  WalkO q p3 XP YP l.row.toRowW d [] (λf vs=>PySem.call f vs):=by
 intro w s₀ s₁ mg mb G Qzj fa o pm cd kc dV kV ho hd qc hD hmg hg args vals as u6 hlay hrd tf hlo;obtain rfl:dV=.none:=Dflts.none hD z9;obtain rfl:kV=.none:=Dflts.noKw hD;obtain ⟨a,vs,ns,rfl,rfl,xp,r6,jm⟩:=Zj9 hn u6 tf;refine enter_call (codeAny_mono (call w s₀ s₁ mg mb fa o pm cd kc a vs ns G Qzj ho (fd_plain hd) qc hmg xp r6 jm hg) λr s' hq=>?_);obtain ⟨rfl,h2,h3,h4⟩:=hq;exact ⟨.inl ⟨.bool true,.bool true,[],Y,λ_=>rfl,.bool true,Zkn l _,λ_=>⟨List.Pairwise.nil,λ_ hm=>(nomatch hm)⟩⟩,h2,h3,h4⟩
end Att
namespace L2
open PySem PySem.Spec PyProof.Rows
theorem Zb6:∀ {vs:List Value} {ns:List Int},IntsAre vs ns->Vals (ns.map V.int) vs
 | _,_,.nil=>.nil
 | _,_,.cons n t h=>.cons ⟨t,rfl⟩ (Zb6 h)
def Only (H:Hp):Prop:=∀ b,H b=none\/∃ o xs,H b=some (.frz o (.lst xs))
def Znc {K:W.Frag} {s₁:Shared} {vs:List Value} {ns:List Int}
  (KX:K.In s₁.heap) (tq:s₁.heap.Ns mainGlobals mg) (hb:s₁.heap.Ns builtinsNs mb) (hbb:∀ x:Str,x≠"__name__"->mb x=bootBuiltins x) (hlim:s₁.heap.NoLimit) (hg:s₁.gens=#[])
  (ha:s₁.heap.get? a=some { cls:=.type "list",data:=.seq vs.toArray }) (hi:IntsAre vs ns) (hl:ns.length<=sizeLine) (hr:Room k callerA)
  (F:∀ base:Heap,K.In base->base.Ns mainGlobals mg->FnOk P w K mg base CX k fa fd [x] sp) (hbind:∀ (s:Shared) (u:Value),BindsTo s fd ⟨[u],[]⟩ [(x,u)])
  (mh:∀ H:Hp,Only H->SqL K H a (ns.map V.int)->sp [.ref a] H (λv _=>v=.bl true) λ_ _ _=>False)
  (hCX:∀ H e s',CX [] H s₁ (λ_ _ _=>False) e s'->False) :
  codeAny (model P w) callerA (.call (.ref fa) ⟨[.ref a],[]⟩) (λr s'=>r=.ok (.ret (.bool true))/\OldK s₁.heap s'.heap/\s'.os=s₁.os/\AllBare s'.gens) s₁:=by
 have rv:=Zb6 hi;have lenV:=hi.length
 have core:∀ H:Hp,Only H->SqL K H a (ns.map V.int)->HOk P w H s₁.heap->(∀ b,H b≠none->b=a)->(H a≠none->K.lookup a=none) ->
   codeAny (model P w) callerA (.call (.ref fa) ⟨[.ref a],[]⟩) (λr s'=>r=.ok (.ret (.bool true))/\OldK s₁.heap s'.heap/\s'.os=s₁.os/\AllBare s'.gens) s₁:=by
  intro H hO hS hok hA hK;have p6:∀ {b:Addr} {o:Obj},s₁.heap.get? b=some o->H b=none->(hidT s₁.heap H).get? b=some o:=λe n=>Znh e n
  have za:∀ {b:Addr} {o:Obj} {es:Array DictEntry} {ep:Nat},s₁.heap.get? b=some o->o.data=.dict es ep->H b=none:=λ{b o es ep} e d=>by
   cases q:H b with
   | none=>rfl
   | some u =>
    have e':b=a:=hA b (by rw [q]; simp);subst e';rw [ha] at e; cases e;have d':Data.seq vs.toArray _=Data.dict es ep:=d;cases d'
  have nsK:∀ {b:Addr} {m:Str->Option Value},s₁.heap.Ns b m->(hidT s₁.heap H).Ns b m:=λ{b m} ⟨o,es,ep,e,d,r⟩=>⟨o,es,ep,p6 e (za e d),d,r⟩
  have hKb:K.In (hidT s₁.heap H):=λb o e=>p6 (KX b o e) (by
   cases q:H b with
   | none=>rfl
   | some u =>
    have e':b=a:=hA b (by rw [q]; simp);subst e'
    rw [hK (by rw [q]; simp)] at e; cases e)
  have hM:Mod K mg (hidT s₁.heap H):=⟨hKb,nsK tq,⟨mb,nsK hb,hbb⟩,let ⟨mc,h1,h2⟩:=hlim; ⟨mc,nsK h1,h2⟩⟩;have e0:Env0 P w K mg (hidT s₁.heap H) callerA [] s₁ H:=⟨rfl,hM,λb o e=>Zpp e,Nat.le_of_eq (Zld _ _),trivial,λb hb=>absurd (show b∈([]:List Addr) from hb) (by simp),hok,.of_eq hg⟩;refine codeAny_mono ((F _ hKb (nsK tq)).run callerA [] s₁ H ⟨[.ref a],[]⟩ [.ref a] [.ref a] _ _ hr e0 (hbind s₁ (.ref a)) (.cons Y .nil) (mh H hO hS)) λr s' h=>?_
  cases r with
  | error e=>exact (hCX H e s' h).elim
  | ok fl =>
   cases fl with
   | next=>exact False.elim h
   | brk=>exact False.elim h
   | cont=>exact False.elim h
   | ret u =>
    obtain ⟨v,H',os,bare,un,hok',r',q⟩:=h;have q':v=.bl true:=q;subst q';obtain rfl:u=Value.bool true:=r';refine ⟨Y,OldK.of_keep λb o e=>?_,os,bare⟩
    cases q:H b with
    | none=>exact un.keep b o e q (by intro z; exact absurd (show b∈([]:List Addr) from z) (by simp)) (by simp)
    | some u =>
     rcases hO b with z | ⟨ob,xs,z⟩
     ·rw [q] at z; cases z
     ·have z2:=un.frzs b ob _ z
      obtain ⟨e1,_⟩:=hok b _ z;obtain ⟨e2,_⟩:=hok' b _ z2;rw [e] at e1; cases e1;exact e2
 cases hk:K.lookup a with
 | some o =>
  have e:=KX a o hk;rw [ha] at e;cases e;refine core (λ_=>none) (λ_=>.inl Y) (.inr ⟨_,vs.toArray,_,hk,Y,Y,Y,by rw [Aq,lenV]; exact hl,by simpa using rv⟩) (λb u z=>by have z':(none:Option HO)=some u:=z; cases z') (λb z=>absurd rfl z) λz=>absurd rfl z
 | none =>
  refine core (λb=>if b=a then some (.frz { cls:=.type "list",data:=.seq vs.toArray } (.lst (ns.map V.int))) else none) (λb=>?_) (.inl (.inr ⟨{ cls:=.type "list",data:=.seq vs.toArray },if_pos rfl⟩)) (λb u z=>?_) (λb z=>?_) λ_=>hk
  ·by_cases hb:b=a
   ·exact .inr ⟨_,_,if_pos hb⟩
   ·exact .inl (if_neg hb)
  ·by_cases hb:b=a
   ·have z':=(if_pos hb).symm.trans z
    cases z';subst hb;exact ⟨ha,by rw [Ab]; exact hl,vs,_,rv,ha⟩
   ·have z':=(if_neg hb).symm.trans z
    cases z'
  ·by_cases hb:b=a
   ·exact hb
   ·exact absurd (if_neg hb) z
abbrev KOf {K:W.Frag} {h:Heap} (_:K.In h):PySem.W.Frag:=K
def Zok {l:PySem.W.OpenLaw} {d:DefRec} {K:Params->PySem.W.Frag} {CX:World->CXT} {sp:World->Sp} {x:Str}
  (hn:l.most=some n) (hn2:n<=sizeLine) (z9:d.params.defaults=[]) (hr:Room k callerA)
  (hY:∀ (w:World) (h:Heap),YP w h->(K w.params).In h)
  (F:∀ (w:World) (mg:Str->Option Value) (fa:Addr) (h:Heap),(K w.params).In h->h.Ns mainGlobals mg->mg d.name=some (.ref fa) ->
   ∃ fd:FuncData,(∀ (s:Shared) (u:Value),BindsTo s fd ⟨[u],[]⟩ [(x,u)]) /\
    ∀ base:Heap,(K w.params).In base->base.Ns mainGlobals mg->FnOk l.prog w (K w.params) mg base (CX w) k fa fd [x] (sp w))
  (mh:∀ (w:World) (H:Hp) (a:Addr) (ns:List Int),ns.length<=n->Only H->SqL (K w.params) H a (ns.map V.int)->sp w [.ref a] H (λv _=>v=.bl true) λ_ _ _=>False)
  (hCX:∀ (w:World) (H:Hp) (s:Shared) (e:Value) (s':Shared),CX w [] H s (λ_ _ _=>False) e s'->False) :
  PySem.W.WalkO q p3 XP YP l.row.toRowW d [] (λf vs=>PySem.call f vs):=by
 refine Att.attach_call hn z9 λw s₀ s₁ mg mb fa o pm cd kc a vs ns G Qzj ho hd qc hmg xp r6 jm hg=>?_;have KX:=hY w _ Qzj;obtain ⟨fd,hb,hF⟩:=F w mg fa _ KX G.T.g hmg;exact Znc KX G.T.g G.T.b G.T.builtins G.T.nolimit hg xp r6 (Nat.le_trans jm hn2) hr hF hb (λH hO hS=>mh w H a ns jm hO hS) λH e s'=>hCX w H s₁ e s'
def Yq (s:Stmt) (j:Nat):Stmt:=match s with
 | .ClassDef _ _ _ body _ _ _ _ _ _ _=>body.getD j (.Pass ⟨0,0,0,0⟩)
 | _=>.Pass ⟨0,0,0,0⟩
noncomputable def Xi (s:Stmt):Arguments:=match s with
 | .FunctionDef _ a _ _ _ _ _ _ _ _=>a
 | _=>{ posonlyargs:=[],args:=[],vararg:=none,kwonlyargs:=[],kw_defaults:=[],kwarg:=none,defaults:=[] }
noncomputable def Yv (s:Stmt):List Stmt:=match s with
 | .FunctionDef _ _ b _ _ _ _ _ _ _=>b
 | _=>[]
noncomputable def Zh (s:Stmt):Scope:=match s with
 | .FunctionDef _ _ _ _ _ _ sc _ _ _=>sc
 | _=>{ kind:=.function,names:=[],isGenerator:=false,isCoroutine:=false }
abbrev E0:XK:=λ_ _ _=>False
structure Fun (K:W.Frag) (x qual:Str) (st:Stmt) (f:Addr) (fd:FuncData):Prop where
 ex:∃ (oc:Value) (od:Option Addr) (kV kc pm:Value) (an:Option Addr) (j5 ct:Value) (ue:Array (Option Value)),
  fd=PySem.W.fnOf x qual (Xi st) (Yv st) (Zh st) .none kV kc pm an j5 ct/\K.lookup f=some ⟨oc,od,.func fd,ue⟩/\PySem.W.codeIn K j5 qual=true
 kp:PySem.W.keepIn K (.ref f)=true
section
variable {P:Program} {w:World} {K:W.Frag} {mg:Str->Option Value} {base:Heap}
def Fun.binds {x qual:Str} {st:Stmt} {f:Addr} {fd:FuncData} {ps:List Str} (F:Fun K x qual st f fd)
  (h:∀ (kV kc pm:Value) (an:Option Addr) (j5 ct:Value) (us:List Value),us.length=ps.length->bindArgs (PySem.W.fnOf x qual (Xi st) (Yv st) (Zh st) .none kV kc pm an j5 ct) ⟨us,[]⟩=pure (ps.zip us)):Wb K fd ps []:=by
 obtain ⟨oc,od,kV,kc,pm,an,j5,ct,ue,rfl,lk,qc⟩:=F.ex;exact .all (h kV kc pm an j5 ct)
def Zav {x qual:Str} {st:Stmt} {f:Addr} {oc:Value} {od an:Option Addr} {ue:Array (Option Value)} {kV kc pm j5 ct:Value} (l:K.lookup f=some ⟨oc,od,.func (PySem.W.fnOf x qual (Xi st) (Yv st) (Zh st) .none kV kc pm an j5 ct),ue⟩)
  (c:PySem.W.codeIn K j5 qual=true) (k:PySem.W.keepIn K (.ref f)=true):Fun K x qual st f (PySem.W.fnOf x qual (Xi st) (Yv st) (Zh st) .none kV kc pm an j5 ct):=⟨⟨oc,od,kV,kc,pm,an,j5,ct,ue,rfl,l,c⟩,k⟩
end
def Y4 {A:Around} (hr:Room k A):A.units + 1 < cLine:=Nat.lt_of_le_of_lt (Nat.add_le_add_left (by decide:1<=64) _) hr.units
def Zv {n:Nat} (h:n<=1000):n < sizeLine:=Nat.lt_of_le_of_lt h (d:)
section
variable {X:Cx}
def pv (i:Nat) (hN:X.N[i]?=some x:=by rfl) (hv:Vis X.env.scope x:=by first | exact Or.inl rfl | exact Or.inr (f:) | exact Or.inr (Or.inr rfl)) (hd:(x == ("__debug__":Str))=false:=by decide)
  (qc:(x == ("__classdict__":Str))=false:=by decide):PE X (.Name x pos) (tVar i):=Zrh hN hv hd qc
end
def iteF {A B:Prop} (h:B):if false=true then A else B:=by
 rw [if_neg Bool.false_ne_true];exact h
def iteT {A B:Prop} (h:A):if true=true then A else B:=by
 rw [if_pos rfl];exact h
def ite2 {A B:Prop} [Decidable c] (h1:c->A) (h2:¬ c->B):if c then A else B:=by
 by_cases h:c
 ·rw [if_pos h]
  exact h1 h
 ·rw [if_neg h]
  exact h2 h
def Same (H H':Hp):Prop:=∀ b o,H b=some o->H' b=some o
def Same.refl (H:Hp):Same H H:=λ_ _ h=>h
def Same.trans (a:Same H H1) (b:Same H1 H2):Same H H2:=λc o h=>b c o (a c o h)
def Same.free {H H':Hp} (e:Same H H') {l:Addr} (h:H' l=Option.none):H l=Option.none:=by
 cases q:H l with
 | none=>rfl
 | some o =>
  rw [e l o q] at h;cases h
def Same.seq {K:W.Frag} {H H':Hp} {a:Addr} {xs:List V} (e:Same H H') (h:SqL K H a xs):SqL K H' a xs:=by
 rcases h with (h | ⟨o,h⟩) | h
 ·exact .inl (.inl (e _ _ h))
 ·exact .inl (.inr ⟨o,e _ _ h⟩)
 ·exact .inr h
noncomputable def Yw (env:Env):List (Str × NameKind)->List (Str × Addr)->List (Str × Addr)
 | [],jq=>jq
 | (n,k) :: r,jq=>if (k == NameKind.free)=true then (match env.cells.lookup n with
  | some c=>Yw env r ((n,c) :: jq)
  | none=>Yw env r jq) else Yw env r jq
theorem W5 {env:Env}:∀ (ns:List (Str × NameKind)) (jq:List (Str × Addr)),(∀ x c,jq.lookup x=some c->env.cells.lookup x=some c) ->
  ∀ x c,(Yw env ns jq).lookup x=some c->env.cells.lookup x=some c
 | [],jq,h=>h
 | (n,k) :: r,jq,h=>by
  unfold Yw;split
  ·cases e:env.cells.lookup n with
   | none=>exact W5 r jq h
   | some c =>
    refine W5 r _ λx d hx=>?_;rw [lookup_cons] at hx
    cases hb:x == n with
    | true =>
     rw [hb] at hx;cases hx;rw [beq_iff_eq.mp hb];exact e
    | false =>
     rw [hb] at hx;exact h x d hx
  ·exact W5 r jq h
theorem W6:∀ (ns:List (Str × NameKind)) (jq:List (Str × Addr)) (x:Str),(∃ c,jq.lookup x=some c)->∃ c,(Yw env ns jq).lookup x=some c
 | [],jq,x,h=>h
 | (n,k) :: r,jq,x,h=>by
  unfold Yw;split
  ·cases e:env.cells.lookup n with
   | none=>exact W6 r jq x h
   | some c =>
    refine W6 r _ x ?_;rw [lookup_cons]
    cases hb:x == n with
    | true=>exact ⟨c,Y⟩
    | false=>exact h
  ·exact W6 r jq x h
theorem Qb {env:Env}:∀ (ns:List (Str × NameKind)) (jq:List (Str × Addr)) (x:Str),(x,NameKind.free)∈ns->(∃ c,env.cells.lookup x=some c)->∃ c,(Yw env ns jq).lookup x=some c
 | [],jq,x,h,_=>by cases h
 | (n,k) :: r,jq,x,h,hc=>by
  rcases Ar h with e | h
  ·cases e
   obtain ⟨c,hc⟩:=hc;unfold Yw;rw [if_pos (show (NameKind.free == NameKind.free)=true by decide),hc];exact W6 r _ n ⟨c,by rw [lookup_cons,beq_self_eq_true]⟩
  ·unfold Yw
   split
   ·cases e:env.cells.lookup n with
    | none=>exact Qb r jq x h hc
    | some c=>exact Qb r _ x h hc
   ·exact Qb r jq x h hc
theorem Oh {env:Env} (f:Str × NameKind->List (Str × Addr)->Sem (ForInStep (List (Str × Addr))))
  (hf:∀ name kind cs,f (name,kind) cs=if (kind == NameKind.free)=true then (do let a <- cellOf env name; pure (.yield ((name,a) :: cs))) else pure (.yield cs)) :
  ∀ (ns:List (Str × NameKind)) (jq:List (Str × Addr)),(∀ y∈ns,y.2=.free->∃ c,env.cells.lookup y.1=some c)->forIn ns jq f=pure (Yw env ns jq)
 | [],jq,_=>by rw [forIn_nil]; rfl
 | (n,k) :: r,jq,h=>by
  rw [forIn_cons,hf];unfold Yw;have hr:∀ y∈r,y.2=.free->∃ c,env.cells.lookup y.1=some c:=λy hy=>h y (mem_cons_of_mem _ hy);split
  ·rename_i hk
   obtain ⟨c,hc⟩:=h (n,k) mem_cons_self (by simpa using hk);have ny:env.cells.lookup n=some c:=hc;have e:cellOf env n=pure c:=by unfold cellOf; rw [ny]
   rw [e,ny];exact Oh f hf r ((n,c) :: jq) hr
  ·exact Oh f hf r jq hr
def Uc {env:Env} {scope:Scope} (h:∀ y∈scope.names,y.2=.free->∃ c,env.cells.lookup y.1=some c):closureFor scope env=pure (Yw env scope.names []):=by
 unfold closureFor;dsimp only;rw [Oh (env:=env) _ (λname kind cs=>by split <;> rfl) scope.names [] h];rfl
theorem Jr (env:Env):∀ (names:List (Str × NameKind)) (x:Str),
  (names.map λ(n,k)=>if (y:) then (n,NameKind.cell) else (n,k)).lookup x =
   (names.lookup x).map λk=>if (k == NameKind.free && env.scope.kind == .function && env.kindOf x == some .cell)=true then NameKind.cell else k
 | [],_=>rfl
 | (n,k) :: r,x=>by
  have ih:=Jr env r x;have e:(if (y:)=true then (n,NameKind.cell) else (n,k))=(n,if (y:)=true then NameKind.cell else k):=by split <;> rfl
  show List.lookup x ((if (y:)=true then (n,NameKind.cell) else (n,k)) :: _)=_;rw [e,lookup_cons,lookup_cons]
  cases hx:x == n with
  | true =>
   have e2:x=n:=beq_iff_eq.mp hx;subst e2;rfl
  | false=>exact ih
def Kl {env:Env} {names:List (Str × NameKind)} (hc:∀ y∈names,y.2≠.cell)
  (h:(names.map λ(n,k)=>if (y:) then (n,NameKind.cell) else (n,k)).lookup x=some k) (hk:k=.cell\/k=.free):names.lookup x=some .free:=by
 rw [Jr] at h
 cases e:names.lookup x with
 | none=>rw [e] at h; cases h
 | some k' =>
  rw [e] at h;have mj:k'≠.cell:=hc _ (PySem.mem_of_lookup e);have h':(if (k' == NameKind.free && env.scope.kind == .function && env.kindOf x == some .cell)=true then NameKind.cell else k')=k:=Ax h;split at h'
  ·rename_i q
   simp only [Bool.and_eq_true,beq_iff_eq] at q;rw [q.1.1]
  ·subst h'
   rcases hk with z | z
   ·exact absurd z mj
   ·rw [z]
def Zaf {env:Env} {names:List (Str × NameKind)} (h:names.lookup x=some .free) :
  (names.map λ(n,k)=>if (y:) then (n,NameKind.cell) else (n,k)).lookup x≠some .local:=by
 rw [Jr,h];intro z;have z':(if (NameKind.free == NameKind.free && env.scope.kind == .function && env.kindOf x == some .cell)=true then NameKind.cell else NameKind.free)=.local:=Ax z;split at z' <;> cases z'
noncomputable def Ym (X:Cx) (N':List Str) (scope:Scope) (C:Addr) (s₀:Shared) (H₀:Hp) (ex:List Addr):Cx :=
 { X with N:=N',s₀:=s₀,H₀:=H₀,env:=compEnvC scope (Yw X.env scope.names []) C X.env,outer:=X.stack,ex:=ex,fn:=λ_=>false,pn:=[],xe:=λ_ _=>False }
def FvOk (X:Cx) (scope:Scope):List (Str × Nat)->Prop
 | []=>True
 | (x,j) :: r=>(X.N[j]?=some x/\scope.names.lookup x=some .free/\(X.env.kindOf x=some .cell\/X.env.kindOf x=some .free))/\FvOk X scope r
theorem FvOk.mem {X:Cx} {scope:Scope}:∀ {l:List (Str × Nat)},FvOk X scope l->∀ y∈l,X.N[y.2]?=some y.1/\scope.names.lookup y.1=some .free/\(X.env.kindOf y.1=some .cell\/X.env.kindOf y.1=some .free)
 | [],_,_,h=>by cases h
 | (x,j) :: r,h,y,hy=>by
  rcases Ar hy with e | hy
  ·cases e; exact h.1
  ·exact FvOk.mem h.2 y hy
noncomputable def blkN (ts:List Str) (fv:List (Str × Nat)):List Str:=ts ++ fv.map (·.1)
noncomputable def blkS (ts:List Str) (fv:List (Str × Nat)) (σ:St):St:=ts.map (λ_=>none) ++ fv.map λy=>(σ[y.2]?).join
structure BlkOk (X:Cx) (scope:Scope) (fv:List (Str × Nat)):Prop where
 kind:scope.kind=.function
 nocell:∀ y∈scope.names,y.2≠.cell
 names:∀ y∈scope.names,y.2=.local->scope.names.lookup y.1=some .local
 free:∀ y∈scope.names,y.2=.free->X.env.kindOf y.1=some .cell\/X.env.kindOf y.1=some .free
 fvs:FvOk X scope fv
section
variable {X:Cx} {jh:List (m:)} {σ:St} {H:Hp} {s:Shared} {scope:Scope} {ts:List Str} {fv:List (Str × Nat)}
def Zc3 {h':Heap} {tk:Nat} (B:BlkOk X scope fv) (I:Inv X jh σ H s) (hf:∀ b∈fp,FpOk X jh H b) (ho:∀ b∈fp,∃ o,s.heap.get? b=some o)
  (hn:h'.Ns s.heap.objs.size (λ_=>none)) (hk:∀ b o,s.heap.get? b=some o->h'.get? b=some o) :
  Inv (Ym X (blkN ts fv) scope s.heap.objs.size s H fp) [] (blkS ts fv σ) H { s with heap:=h',toks:=tk }:=by
 have has:∀ y∈scope.names,y.2=.free->∃ c,X.env.cells.lookup y.1=some c:=λy hy e=>I.ok.has y.1 (B.free y hy e);have yc:∀ x c,(Yw X.env scope.names []).lookup x=some c->X.env.cells.lookup x=some c:=W5 _ _ (λx c h=>by simp at h);have fr:∀ x,(scope.names.lookup x=some .free)->∃ c,(Yw X.env scope.names []).lookup x=some c:=λx hx =>
  Qb _ _ x (PySem.mem_of_lookup hx) (has _ (PySem.mem_of_lookup hx) rfl)
 have nfs:∀ b∈fp,b ∉ frs X.stack:=λb hb z=>by
  obtain ⟨_,h1,h2,_⟩:=hf b hb
  rcases Ar (I.stkSub b z) with e | e
  ·exact h1 e
  ·exact h2 e
 have lt:∀ b∈fp,b < s.heap.objs.size:=λb hb=>let ⟨o,e⟩:=ho b hb; Ao e
 refine ⟨⟨I.ok.mod,?_,I.ok.glob,I.ok.blt,An _,λx y c h1 h2=>I.ok.inj x y c (yc x c h1) (yc y c h2),λx hx=>?_,λ_ _ h=>absurd (show false=true from h) Bool.false_ne_true,I.ok.hd,I.ok.frames,.inl Y,λb hb=>⟨As (lt b hb),λx c e=>(hf b hb).2.2.2.2.1 x c (yc x c e)⟩,I.bs,Nat.le_trans I.ok.bsz I.sz,λb o e hb=>?_,nfs,I.stack,I.stkFree⟩,
  rfl,I.bare,Un.kept hk,⟨_,hn,λi x v h1 h2 h3=>?_⟩,λx c e=>?_,I.fresh,λx c e=>I.freeC x c (yc x c e),λp hp=>?_,I.hok.kept hk,?_⟩
 ·exact B.kind
 ·refine fr x ?_
  have mf:(relabel scope X.env).names.lookup x=some .cell\/(relabel scope X.env).names.lookup x=some .free:=hx
  rcases mf with e | e
  ·exact Kl B.nocell e (.inl Y)
  ·exact Kl B.nocell e (.inr Y)
 ·rcases (hf b hb).2.2.2.1 with z | z
  ·exact I.ok.noex b o e z
  ·exact absurd (Ag (Ao e) (Nat.le_trans I.ok.bsz z)) (Nat.lt_irrefl _)
 ·have h1:(ts ++ fv.map (·.1))[i]?=some x:=h1
  have h2:(ts.map (λ_=>(none:Option V)) ++ fv.map λy=>(σ[y.2]?).join)[i]?=some (some v):=h2;by_cases hi:i < ts.length
  ·rw [Av (by simpa using hi),Ah] at h2
   cases e:ts[i]? with
   | none=>rw [e] at h2; cases h2
   | some z=>rw [e] at h2; cases h2
  ·rw [getElem?_append_right (by simpa using hi),Ab,Ah] at h2
   rw [getElem?_append_right (by simpa using hi),Ah] at h1
   cases e:fv[i - ts.length]? with
   | none=>rw [e] at h2; cases h2
   | some y =>
    rw [e] at h1 h2;have e1:y.1=x:=by simpa using h1
    have e2:(σ[y.2]?).join=some v:=by simpa using h2
    obtain ⟨f1,f2,f3⟩:=B.fvs.mem y (Au e)
    have e3:σ[y.2]?=some (some v):=by
     cases q:σ[y.2]? with
     | none=>rw [q] at e2; cases e2
     | some z=>rw [q] at e2; exact congrArg some e2
    obtain ⟨m,hm,hl⟩:=I.loc;obtain ⟨u,r,l⟩:=hl y.2 y.1 v f1 e3 (by rcases f3 with z | z; exact .inr (.inl z); exact .inr (.inr z));rw [e1] at f2 f3 l;refine ⟨u,r,?_⟩;obtain ⟨c,hc⟩:=fr x f2;have ny:=yc x c hc
    rcases l with ⟨l1,_⟩ | ⟨_,c2,l2,l3⟩
    ·rcases f3 with z | z
     ·rw [l1] at z; cases z
     ·rw [l1] at z; cases z
    ·rw [ny] at l2
     cases l2;have hv:Vis (relabel scope X.env) x:=h3
     rcases hv with z | z | z
     ·exfalso
      exact Zaf f2 z
     ·exact .inr ⟨.inl z,c,hc,l3.keeps hk⟩
     ·exact .inr ⟨.inr z,c,hc,l3.keeps hk⟩
 ·obtain ⟨v,z⟩:=I.cell x c (yc x c e)
  exact ⟨v,z.keeps hk⟩
 ·exact absurd (show p∈([]:List (m:)) from hp) (by simp)
 ·show (ts.map (λ_=>(none:Option V)) ++ fv.map λy=>(σ[y.2]?).join).length=(ts ++ fv.map (·.1)).length
  simp
def Inv.apart (I:Inv X jh σ H s) (hs:Heap.SameBut C s.heap h') (hC:H C=none) (h0:X.s₀.heap.objs.size<=C) (hL:C≠X.env.locals) (hc:∀ x c,X.env.cells.lookup x=some c->c≠C) (hp:∀ p∈X.pn ++ jh,p.1≠C) :
  Inv X jh σ H { s with heap:=h' } :=
 I.turned (t':=s.toks) (it:=C) (λb o hb e=>(hs.2 b hb).trans e) hC hL (.inr h0) hc hp
def Zia (I:Inv X jh σ H s) (hf:∀ b∈fp,FpOk X jh H b) (hC:s.heap.objs.size<=C)
  (J:Inv (Ym X N' scope C s H fp) [] σ' H' s'):Inv X jh σ H' s'/\H' C=none/\X.s₀.heap.objs.size<=C/\C≠X.env.locals/\(∀ x c,X.env.cells.lookup x=some c->c≠C)/\(∀ p∈X.pn ++ jh,p.1≠C):=by
 refine ⟨I.call' J.os J.base J.hok J.bare λb hb=>?_,J.free,Nat.le_trans I.sz hC,Nat.ne_of_gt (Ag I.lt hC),λx c e z=>?_,λp hp z=>?_⟩
 ·obtain ⟨_,h1,_,h3,h4,h5⟩:=hf b hb
  exact ⟨h3,h1,h4,h5⟩
 ·obtain ⟨v,q⟩:=I.cell x c e
  exact absurd (Ag q.lt (by rw [z]; exact hC)) (Nat.lt_irrefl _)
 ·exact absurd (Ag (Ao (I.pin p hp).1) (by rw [z]; exact hC)) (Nat.lt_irrefl _)
end
abbrev TB:=St->Hp->(St->Hp->Prop)->Prop
def PTs (X:Cx) (ifs:List Expr) (t:TT):Prop :=
 ∀ jh s σ H (Q:Bool->Hp->Prop),Inv X jh σ H s->t σ H Q ->
  wpAny (c:) X.A (forIn ifs true λc r=>if r=true then do let ok <- isTrue c X.env (eval c X.env); pure (ForInStep.yield ok) else pure (ForInStep.yield r)) (TP X jh σ Q) X.xe s
def tYes:TT:=λ_ H Q=>Q true H
def Yd:PTs X [] tYes:=λjh s σ H Q I h=>wpAny_tests_nil ⟨H,I,h⟩
def Uq (h:PT X c t):PTs X [c] t:=λjh s σ H Q I hq=>wpAny_tests_one (h jh s σ H Q I hq)
def PB (X:Cx) (kz:Sem Fin) (c:Code) (t:TB):Prop :=
 ∀ jh s σ H (N:St->Hp->Prop),Inv X jh σ H s->t σ H N ->
  wpAny (c:) X.A kz (λkh s'=>kh=.again c/\∃ σ' H',Inv X jh σ' H' s'/\N σ' H') X.xe s
def Wv (J:It) (g:TG) (tt:TT) (tb:TB) (R:St->Hp->Prop) (σ:St) (H:Hp):Prop :=
 ∃ W:Nat->Nat->St->Hp->Prop,(∃ m,W 0 m σ H)/\∀ i m σ H,W i m σ H ->
  (J.stop i H/\R σ H)\/(J.go i H/\∃ N:St->Hp->Prop,(u:) /\
   ∀ x H',J.yld i H x H'->g x σ H' λσ2 H2=>tt σ2 H2 λb H3=>if b=true then tb σ2 H3 N else N σ2 H3)
section
variable {X:Cx}
theorem K0 {s:Shared} (ug:X.xe=λ_ _=>False)
  (hcq:Code.quiet (.compLoop e d (.ref it) jq X.env)=true) (hden:(c:).den (.compLoop e d (.ref it) jq X.env)=(compTurn e d (.ref it) jq X.env).onRaise (λx=>do noteFrame x X.env; theTreesLotGoes x))
  (hund:X.A.under (.compLoop e d (.ref it) jq X.env)=X.A)
  (oy:compTurn e d (.ref it) jq X.env=(standAt p >>= λ_=>pyNext (.ref it) >>= λr=>match r with
   | none=>pure (.done .next)
   | some v=>letOwnedTupleGo tg (.ref it) v >>= λ_=>assign tg X.env v >>= λ_ =>
    (forIn ifs true λc r=>if r=true then do let ok <- isTrue c X.env (eval c X.env); pure (ForInStep.yield ok) else pure (ForInStep.yield r)) >>= λok =>
     if ok=true then kz else again (.compLoop e d (.ref it) jq X.env)))
  (T:Turn X.prog X.w X.K tg J fp it tn) (hc:X.calm=true) (hg:PG X tg g) (ht:PTs X ifs tt) (hb:PB X kz (.compLoop e d (.ref it) jq X.env) tb)
  (hf:∀ b∈fp,FpOk X jh H b) (I:Inv X jh σ H s) (st:tn 0 s.heap) (h:Wv J g tt tb R σ H)
  (hR:∀ s' σ' H',Inv X jh σ' H' s'->R σ' H'->RR (.ok .next) s') :
  codeAny (c:) X.A (.compLoop e d (.ref it) jq X.env) RR s:=by
 obtain ⟨W,⟨m0,w0⟩,turn⟩:=h;have oz:∀ {H':Hp},(∀ b∈fp,H' b=none)->∀ b∈fp,FpOk X jh H' b:=λhn b hb=>⟨hn b hb,(hf b hb).2⟩;refine codeAny_loop hcq (λn s'=>∃ i σ' H',Inv X jh σ' H' s'/\tn i s'.heap/\(∀ b∈fp,H' b=none)/\W i n σ' H') ?_ m0 ⟨0,σ,H,I,st,λb hb=>(hf b hb).1,w0⟩;rintro n s3 ⟨i,σ3,H3,I3,ou,fr3,w3⟩;rw [hden,hund];refine wpAny_noted (wpAny_mono (E:=λ_ _=>False) ?_ (λ_ _ q=>q) λ_ _ z=>z.elim);rw [oy];have hxe':∀ {α:Type} {t:Sem α} {Q:α->Shared->Prop} {s:Shared},wpAny (c:) X.A t Q X.xe s->wpAny (c:) X.A t Q (λ_ _=>False) s:=λh=>by rw [ug] at h; exact h
 refine Al (wpAny_standAt (Al ?_))
 rcases turn i n σ3 H3 w3 with ⟨stop,qn⟩ | ⟨go,N,hN,step⟩
 ·refine thn (T.done X rfl rfl rfl hc i jh s3 σ3 H3 _ I3 (oz fr3) ou stop) λr s4 ⟨hr,I4⟩=>?_
  subst hr;exact wpAny_pure (hR s4 σ3 H3 I4 qn)
 ·refine thn (T.item X rfl rfl rfl hc i jh s3 σ3 H3 _ I3 (oz fr3) ou go) λr s4 ⟨u,hr,h4⟩=>?_
  subst hr;refine Al (thn h4 λ_ s5 jp=>?_);obtain ⟨x,H5,I5,r5,y5,wg,fr5⟩:=jp;have I5':=I5.pinned (oz fr5) (T.obj _ _ wg);refine Al (hxe' (thn (hg _ s5 σ3 H5 x u _ I5' r5 (step x H5 y5)) λ_ s6 jp=>?_));obtain ⟨σ6,H6,I6,q6⟩:=jp;refine Al (ug ▸ thn (ht _ s6 σ6 H6 _ I6 q6) λok s7 jp=>?_);obtain ⟨H7,I7,q7⟩:=jp;have rk:∀ {σ7:St} {H7:Hp} {s7:Shared},Inv X (jh ++ Kp fp s5.heap) σ7 H7 s7->N σ7 H7->∃ m,m < n/\∃ i σ' H',Inv X jh σ' H' s7/\tn i s7.heap/\(∀ b∈fp,H' b=none)/\W i m σ' H':=λ{σ7 H7 s7} I7 n7=>by
   obtain ⟨m',hm,w7⟩:=hN σ7 H7 n7
   refine ⟨m',hm,i + 1,σ7,H7,I7.unpinned,T.keep _ _ _ wg λb hb o e=>(I7.pin (b,o) (mem_append_right _ (mem_append_right _ (Q3 hb e)))).1,λb hb=>?_,w7⟩
   obtain ⟨o,e,d⟩:=T.obj _ _ wg b hb
   exact (I7.pin (b,o) (mem_append_right _ (mem_append_right _ (Q3 hb e)))).2.1
  cases ok with
  | false=>exact ug ▸ wpAny_pure ⟨Y,rk I7 q7⟩
  | true =>
   refine thn (hb _ s7 σ6 H7 N I7 q7) λkh s8 jp=>?_;obtain ⟨hfin,σ8,H8,I8,q8⟩:=jp;subst hfin;exact ⟨Y,rk I8 q8⟩
def Zn0 (te:TE) (D:Addr):TB:=λσ H N=>te σ H λv H1=>∃ xs,H1 D=some (.lst xs)/\xs.length < sizeLine/\N σ (upd H1 D (.lst (xs ++ [v])))
def Yo (he:PE X ly te) :
  PB X ((eval ly X.env >>= λx=>call (.builtin "list.append") [.ref D,x] >>= λ_=>pure ()) >>= λ_=>again c) c (Zn0 te D):=by
 intro jh s σ H N I h;refine Al (Al (thn (he jh s σ H _ I h) λu s1 jp=>?_));obtain ⟨v,H1,I1,r1,q1⟩:=jp;obtain ⟨xs,hD,hl,q⟩:=q1;refine Al (thn (Y3 jh s1 σ H1 (.ref D) [v] (.ref D) [u] (λ_ H2=>N σ H2) I1 Y (.cons r1 .nil) ⟨D,xs,v,Y,Y,hD,hl,q⟩) λ_ s2 jp=>?_);obtain ⟨_,H2,I2,_,q2⟩:=jp;exact wpAny_pure (wpAny_pure ⟨Y,σ,H2,I2,q2⟩)
def tGen (wi:TI) (g:TG) (tt:TT) (tb:TB):TB:=λσ H N=>wi σ H λJ H1=>Wv J g tt tb N σ H1
def Zjm {t0 i0:Expr} {f0:List Expr} {t1 i1:Expr} {f1:List Expr}
  (h0:codeAny (p:) A (.compLoop (.ListComp ly [⟨t0,i0,f0,0⟩,⟨t1,i1,f1,0⟩] scope pos) 1 it jq env) R s)
  (h:wpAny (p:) A (pyIter it) (λit' s'=>codeAny (p:) A (.compLoop (.ListComp ly [⟨t0,i0,f0,0⟩,⟨t1,i1,f1,0⟩] scope pos) 1 it' jq env) R s')
   (notedBy (p:) A env λx s'=>R (.error x) s') s) :
  codeAny (p:) A (.compStart (.ListComp ly [⟨t0,i0,f0,0⟩,⟨t1,i1,f1,0⟩] scope pos) 1 it jq env) R s:=by
 refine codeAny_of_tree ?_;show wpAny _ _ ((compStart (.ListComp ly [⟨t0,i0,f0,0⟩,⟨t1,i1,f1,0⟩] scope pos) 1 it jq env).onRaise (λx=>do noteFrame x env; standAt theWindowsPlace)) _ _ s;refine wpAny_notedAt ?_;unfold compStart;show wpAny _ _ (ask >>= _) _ _ s;refine Al (wpAny_askSetting (wpAny_ite ?_));split
 ·first
   | exact Al (wpAny_pure (wpAny_pure (And.intro Y h0)))
   | exact wpAny_pure (And.intro Y h0)
 ·first
   | exact Al (wpAny_rule (Al (wpAny_standAt (Al (wpAny_mono h (λit' s' h'=>wpAny_pure (And.intro Y h')) λ_ _ x=>x)))))
   | (refine Al (wpAny_rule ?_); show wpAny _ _ (standAt i1.pos >>= _) _ _ s; exact Al (wpAny_standAt (Al (wpAny_mono h (λit' s' h'=>wpAny_pure (And.intro Y h')) λ_ _ x=>x))))
def Ze9 {t0 i0 i1:Expr} {f0:List Expr} (ug:X.xe=λ_ _=>False) (hc:X.calm=true)
  (hi:PI X t1 i1 wi) (hg:PG X t1 g) (ht:PTs X f1 tt) (he:PE X ly te) (hs:∀ x,foldedSetIterable i1 X.env x=pure x:=by intro _; rfl) :
  PB X (eval i1 X.env >>= λx=>standAt i1.pos >>= λ_=>foldedSetIterable i1 X.env x >>= λx=>holding [x] (pyIter x) >>= λit =>
   runOwn (.compStart (.ListComp ly [⟨t0,i0,f0,0⟩,⟨t1,i1,f1,0⟩] scope pos) 1 it (.ref D) X.env) X.env >>= λ_=>again c) c (tGen wi g tt (Zn0 te D)):=by
 intro jh s σ H N I h;refine Al (thn (hi jh s σ H _ I h) λv s1 h1=>Al (wpAny_standAt ?_));rw [hs];refine Al (wpAny_pure (Al (wpAny_holding (thn h1 λzf s2 h2=>?_))));obtain ⟨it,fp,tn,J,H2,e,I2,T,kn,f2,L⟩:=h2;subst e;have loop:∀ (A:Around),A=X.A->codeAny (c:) A (.compLoop (.ListComp ly [⟨t0,i0,f0,0⟩,⟨t1,i1,f1,0⟩] scope pos) 1 (.ref it) (.ref D) X.env)
   (λr s'=>match r with | .ok f=>wpAny (c:) X.A (again c) (λkh s'=>kh=.again c/\∃ σ' H',Inv X jh σ' H' s'/\N σ' H') X.xe s' | .error e=>cameBackBy (c:) X.A X.env X.xe e s') s2:=by
  rintro A rfl
  exact K0 (tg:=t1) (ifs:=f1) (R:=N) ug Y Y Y Y T hc hg ht (Yo (c:=.compLoop (.ListComp ly [⟨t0,i0,f0,0⟩,⟨t1,i1,f1,0⟩] scope pos) 1 (.ref it) (.ref D) X.env) he) f2 I2 kn L λs' σ' H' I' q=>wpAny_pure ⟨Y,σ',H',I',q⟩
 refine Al (wpAny_runOwn (h:=none) ?_);exact Zjm (loop _ Y) (T.self _ _ _ _ _ kn (loop _ Y))
end
def Zii (ts:List Str) (fv:List (Str × Nat)) (wi:TI) (g:TG) (tt:TT) (tb:Addr->TB):TE:=λσ H Q=>wi σ H λJ H1=>∀ D,H1 D=none ->
 Wv J g tt (tb D) (λ_ H'=>Q (.ref D) H') (blkS ts fv σ) (upd H1 D (.lst []))
section
variable {X:Cx} {ts:List Str} {fv:List (Str × Nat)} {scope:Scope} {ly t0 i0:Expr} {f0:List Expr} {jk:List Comprehension} {pos:Pos} {wi:TI} {g:TG} {tt:TT} {tb:Addr->TB} {kz:Env->Addr->Addr->Sem Fin}
theorem Zc1 (B:BlkOk X scope fv) (hc:X.calm=true) (hi:PI X t0 i0 wi)
  (hg:∀ C s₀ H₀ ex,PG (e:) t0 g) (ht:∀ C s₀ H₀ ex,PTs (e:) f0 tt)
  (oy:∀ (env:Env) (it D:Addr),compTurn (h:) 0 (.ref it) (.ref D) env=(standAt i0.pos >>= λ_=>pyNext (.ref it) >>= λr=>match r with
   | none=>pure (.done .next)
   | some v=>letOwnedTupleGo t0 (.ref it) v >>= λ_=>assign t0 env v >>= λ_ =>
    (n:) >>= λok =>
     if ok=true then kz env it D else again (.compLoop (h:) 0 (.ref it) (.ref D) env)))
  (hb:∀ C s₀ H₀ ex it D,PB (e:) (kz (e:).env it D) (.compLoop (h:) 0 (.ref it) (.ref D) (e:).env) (tb D)) {RR:Value->Addr->Result->Shared->Prop} (I:Inv X jh σ H s) (h:Zii ts fv wi g tt tb σ H Q)
  (hRR:∀ D C s' H',Inv X jh σ H' s'->H' C=none->X.s₀.heap.objs.size<=C->C≠X.env.locals->(∀ x c,X.env.cells.lookup x=some c->c≠C)->(∀ p∈X.pn ++ jh,p.1≠C)->(∃ m,s'.heap.Ns C m)->Q (.ref D) H'->RR (.ref D) C (.ok .next) s') :
  wpAny (c:) X.A (eval i0 X.env) (λx s₁=>wpAny (c:) X.A (pyIter x) (λit s₂=>wpAny (c:) X.A (newList []) (λjq s₃ =>
   wpAny (c:) X.A (newFunctionEnv scope X.env.globals (Yw X.env scope.names []) [] X.env.qual none .none (some X.env)) (λrj s₄ =>
    codeAny (c:) X.A (.compStart (h:) 0 it jq { rj with scope:=relabel scope X.env }) (RR jq rj.locals) s₄) X.xe s₃) X.xe s₂) X.xe s₁) X.xe s:=by
 refine thn (hi jh s σ H _ I h) λv s1 h1=>thn h1 λzf s2 h2=>?_;obtain ⟨it,fp,tn,J,H2,e,I2,T,kn,f2,L⟩:=h2;subst e;have L:=L s2.heap.objs.size I2.fresh;refine wpAny_newObj_type ?_;have I3:Inv X jh σ (upd H2 s2.heap.objs.size (.lst [])) { s2 with heap:=s2.heap.push { cls:=.type "list",data:=.seq ([]:List Value).toArray },toks:=s2.toks }:=I2.lnew (its:=[]) (t':=s2.toks) .nil (Az _);have qj:∀ b∈fp,∃ o,s2.heap.get? b=some o/\∀ v,o.data≠.cell v:=T.obj _ _ kn;have f3:∀ b∈fp,FpOk X jh (upd H2 s2.heap.objs.size (.lst [])) b:=λb hb=>by
  obtain ⟨o,ho,_⟩:=qj b hb
  refine ⟨?_,(f2 b hb).2⟩
  rw [Ze (As (Ao ho))]
  exact (f2 b hb).1
 have ou:tn 0 (s2.heap.push { cls:=.type "list",data:=.seq ([]:List Value).toArray }):=T.keep _ _ _ kn λb _ o e=>Ak _ e;have ww:∀ b∈fp,∃ o,(s2.heap.push { cls:=.type "list",data:=.seq ([]:List Value).toArray }).get? b=some o:=λb hb=>let ⟨o,e,_⟩:=qj b hb; ⟨o,Ak _ e⟩
 generalize hs3:({ s2 with heap:=s2.heap.push { cls:=.type "list",data:=.seq ([]:List Value).toArray },toks:=s2.toks }:Shared)=s3 at I3;have eh:s2.heap.push { cls:=.type "list",data:=.seq ([]:List Value).toArray }=s3.heap:=by rw [<- hs3]
 rw [eh] at ou ww;refine wpAny_newFunctionEnv B.nocell (by intro y hy; simp at hy) (λh₁ tq tj=>?_) B.kind;have hk:∀ b o,s3.heap.get? b=some o->h₁.get? b=some o:=λb o e=>tj.extBut b o (As (Ao e)) (Ak _ e);have I4:=Zc3 (ts:=ts) (tk:=s3.toks + ([]:List (Str × Value)).length) B I3 f3 ww tq hk;have f4:∀ b∈fp,FpOk (Ym X (blkN ts fv) scope s3.heap.objs.size s3 (upd H2 s2.heap.objs.size (.lst [])) fp) [] (upd H2 s2.heap.objs.size (.lst [])) b:=λb hb=>by
  obtain ⟨f0,f1,f2',f3',f4',f5'⟩:=f3 b hb
  obtain ⟨o,eo⟩:=ww b hb
  exact ⟨f0,As (Ao eo),I4.ok.exfs b hb,.inl hb,(I4.ok.exf b hb).2,λp hp=>absurd (show p∈([]:List (m:)) from hp) (by simp)⟩
 have wj:tn 0 h₁:=T.keep _ _ _ ou λb _ o e=>hk b o e;have loop:codeAny (c:) X.A (.compLoop (h:) 0 (.ref it) (.ref s2.heap.objs.size) (Ym X (blkN ts fv) scope s3.heap.objs.size s3 (upd H2 s2.heap.objs.size (.lst [])) fp).env)
   (RR (.ref s2.heap.objs.size) s3.heap.objs.size) { s3 with heap:=h₁,toks:=s3.toks + ([]:List (Str × Value)).length }:=by
  refine K0 (X:=Ym X (blkN ts fv) scope s3.heap.objs.size s3 (upd H2 s2.heap.objs.size (.lst [])) fp) (tg:=t0) (ifs:=f0) (R:=λ_ H'=>Q (.ref s2.heap.objs.size) H') Y Y Y Y (oy _ it s2.heap.objs.size) T hc (hg _ _ _ _) (ht _ _ _ _) (hb _ _ _ _ it s2.heap.objs.size) f4 I4 wj L λs' σ' H' J' q=>?_
  obtain ⟨e1,e2,e3,e4,e5,e6⟩:=Zia I3 f3 (An _) J'
  obtain ⟨m,hm,_⟩:=J'.loc
  exact hRR _ _ s' H' e1 e2 e3 e4 e5 e6 ⟨m,hm⟩ q
 exact codeAny_compStart_list loop (T.self _ _ _ _ _ wj loop)
theorem Yp (B:BlkOk X scope fv) (hc:X.calm=true) (hi:PI X t0 i0 wi)
  (hg:∀ C s₀ H₀ ex,PG (e:) t0 g) (ht:∀ C s₀ H₀ ex,PTs (e:) f0 tt)
  (oy:∀ (env:Env) (it D:Addr),compTurn (h:) 0 (.ref it) (.ref D) env=(standAt i0.pos >>= λ_=>pyNext (.ref it) >>= λr=>match r with
   | none=>pure (.done .next)
   | some v=>letOwnedTupleGo t0 (.ref it) v >>= λ_=>assign t0 env v >>= λ_ =>
    (n:) >>= λok =>
     if ok=true then kz env it D else again (.compLoop (h:) 0 (.ref it) (.ref D) env)))
  (hb:∀ C s₀ H₀ ex it D,PB (e:) (kz (e:).env it D) (.compLoop (h:) 0 (.ref it) (.ref D) (e:).env) (tb D))
  (hs:∀ x,foldedSetIterable i0 X.env x=pure x:=by intro _; rfl) :
  PE X (h:) (Zii ts fv wi g tt tb):=by
 intro jh s σ H Q I h;rw [eval_ListComp];refine wpAny_comprehension_free (use:=none) Y hs (Uc λy hy e=>I.ok.has y.1 (B.free y hy e)) B.kind B.names ?_;refine Zc1 (RR:=λjq C=>compPost (c:) X.A X.xe none (EP X jh σ Q) jq C) B hc hi hg ht oy hb I h λD C s' H' I' e2 e3 e4 e5 e6 hm q=>?_;obtain ⟨m,hm⟩:=hm;exact ⟨m,hm,λh' zu=>⟨.ref D,H',I'.apart zu e2 e3 e4 e5 e6,Y,q⟩⟩
theorem Wf {spos:Pos} (B:BlkOk X scope fv) (hc:X.calm=true) (hN:X.N.Nodup) (hiy:X.N[i]?=some y) (hyl:X.env.scope.names.lookup y=some .local)
  (hsw:swapsWith (h:) (some (.Name y py)) spos.line X.env=pure true) (hi:PI X t0 i0 wi)
  (hg:∀ C s₀ H₀ ex,PG (e:) t0 g) (ht:∀ C s₀ H₀ ex,PTs (e:) f0 tt)
  (oy:∀ (env:Env) (it D:Addr),compTurn (h:) 0 (.ref it) (.ref D) env=(standAt i0.pos >>= λ_=>pyNext (.ref it) >>= λr=>match r with
   | none=>pure (.done .next)
   | some v=>letOwnedTupleGo t0 (.ref it) v >>= λ_=>assign t0 env v >>= λ_ =>
    (n:) >>= λok =>
     if ok=true then kz env it D else again (.compLoop (h:) 0 (.ref it) (.ref D) env)))
  (hb:∀ C s₀ H₀ ex it D,PB (e:) (kz (e:).env it D) (.compLoop (h:) 0 (.ref it) (.ref D) (e:).env) (tb D))
  (hs:∀ x,foldedSetIterable i0 X.env x=pure x:=by intro _; rfl) :
  PS X (.Assign [.Name y py] (h:) spos) (tAsg (Zii ts fv wi g tt tb) (Zj i)):=by
 intro jh s σ H D0 I h;rw [exec_Assign_Name_used _ _ _ _ hsw];refine Al (wpAny_standAt (Al ?_));show wpAny _ X.A (do let _ <- comprehension (h:) scope X.env _ (newList []) false (eval i0 X.env) (some (assign (.Name y py) X.env))) _ _ s;refine Al (wpAny_mono (wpAny_comprehension_free (use:=some (assign (.Name y py) X.env)) (Q:=λ_ s'=>SP X jh D0 .next s') Y hs (Uc λy hy e=>I.ok.has y.1 (B.free y hy e)) B.kind B.names ?_) (λ_ s' hq=>wpAny_pure (wpAny_pure hq)) λ_ _ e=>e);refine Zc1 (Q:=λx H1=>Zj i x σ H1 D0.nx) (RR:=λjq C=>compPost (c:) X.A X.xe (some (assign (.Name y py) X.env)) (λ_ s'=>SP X jh D0 .next s') jq C) B hc hi hg ht oy hb I h λD C s' H' I' e2 e3 e4 e5 e6 hm q=>?_;obtain ⟨m,hm⟩:=hm;show wpAny _ X.A (assign (.Name y py) X.env (.ref D)) _ _ _;refine wpAny_assign_Name (Zb9 I' hN hiy (.inl hyl) (show RelV (.ref D) (.ref D) from Y) (λuc I'' qk=>?_) (.inr hyl));obtain ⟨a,tj,ha⟩:=qk;have haC:C≠a:=by
  rcases ha with e | e
  ·rw [e]; exact e4
  ·exact λz=>e5 y a e z.symm
 exact ⟨m,hm.sameBut tj haC,λh' zu=>⟨_,H',I''.apart zu e2 e3 e4 e5 e6,q⟩⟩
end
def FlyT (e T:Addr) (cls a0:Value) (h:Heap):Prop :=
 ∃ oe vs oT ts,h.get? e=some oe/\(oe.cls=cls/\vs[0]?=some a0)/\oe.data=.fields vs/\vs[1]?=some (.ref T)/\T≠e/\h.get? T=some oT/\oT.data=.fields ts/\ts[3]?=some .none
def CXr (P:Program) (w:World):CXT:=λouter H s E ev s' =>
 ∃ (e T:Addr) (cls a0:Value) (H':Hp),ev=.ref e/\s'.os=s.os/\AllBare s'.gens/\Un (frs outer) [] H H' s.heap s'.heap/\HOk P w H' s'.heap /\
  s.heap.get? e=none/\s.heap.get? T=none/\H' e=none/\H' T=none/\FlyT e T cls a0 s'.heap/\E cls none H'
def Yf {X:Cx}:Vt (CXr X.prog X.w) X E0:=λ_ _ _ _ _ _ _ h=>by
 obtain ⟨_,_,_,_,_,_,_,_,_,_,_,_,_,_,_,z⟩:=h;exact z.elim
def Zp8 (h:CXr P w [] H s (λ_ _ _=>False) e s'):False:=by
 obtain ⟨_,_,_,_,_,_,_,_,_,_,_,_,_,_,_,z⟩:=h;exact z
section
variable {P:Program} {w:World} {K:W.Frag} {mg:Str->Option Value} {base:Heap}
def Fun.okR {x qual:Str} {st:Stmt} {f:Addr} {fd:FuncData} {N ps:List Str} {k:Nat} {sp:Sp} (F:Fun K x qual st f fd) (S:FnScope N ps (Zh st)) (len:∀ vs H Q E,sp vs H Q E->vs.length=ps.length)
  (k9:∀ (j5:Value) (A:Around) (outer:List Env) (s:Shared) (H:Hp) (vs:List V) (Q:VK) (E:XK),Room k (A.deeper (envOfC qual (Zh st) s.heap.objs.size f j5))->sp vs H Q E ->
   ∃ t,PSs (cxOf (CXr P w) P w K mg base N qual (Zh st) f j5 A outer s H E).nox (Yv st) t/\t { nx:=λ_ H'=>Q .non H',rt:=Q } (start N vs) H):FnOk P w K mg base (CXr P w) (k + 1) f fd ps sp:=by
 obtain ⟨oc,od,kV,kc,pm,an,j5,ct,ue,rfl,lk,qc⟩:=F.ex;refine Zoe lk qc S len λA outer s H vs Q E hr mh=>?_;obtain ⟨t,h,q⟩:=k9 j5 A outer s H vs Q E hr mh;exact ⟨t,h.nox,q⟩
end
section
variable {X:Cx}
def Zg8:Y2 X (.builtin "isinstance") (λxs H Q=>∃ x T t b,xs=[x,.ty T]/\TyOf X.K H x t/\PySem.W.kitOne X.K t (.type T)=some b/\Q (.bl b) H):=by
 intro jh s σ H xs us Q I r h;obtain ⟨x,T,t,b,rfl,zq,hk,q⟩:=h;obtain ⟨u,v,rfl,ru,rv⟩:=r.two;obtain rfl:v=Value.type T:=rv;exact Zk9 I ru zq hk λtk=>⟨.bl b,H,I.tok _,Y,q⟩
def Znd {K:W.Frag} {T:String}:PySem.W.kitOne K (.type T) (.type T)=some true:=by
 unfold PySem.W.kitOne;rw [if_pos (by simp)]
def Z5 {X:Cx} {scope:Scope} (h:scope.names.all (λy=>y.2 != .free || X.env.kindOf y.1 == some .cell || X.env.kindOf y.1 == some .free)=true) :
  ∀ y∈scope.names,y.2=.free->X.env.kindOf y.1=some .cell\/X.env.kindOf y.1=some .free:=λy hy e=>by
 have:=all_eq_true.mp h y hy;simp [e] at this;exact this
end
def walk_r {l:PySem.W.OpenLaw} {k:Nat} {q:Program} {p3:List Str} {XP:(Str->Option Value)->Heap->Prop} {YP:World->Heap->Prop} {d:DefRec} {K:Params->PySem.W.Frag} {spl:PySem.W.Frag->Sp}
  (hn:l.most=some 63) (z9:d.params.defaults=[]) (hr:Room k callerA) (hY:∀ (w:World) (h:Heap),YP w h->(K w.params).In h)
  (mh:∀ (K:W.Frag) (H:Hp) (a:Addr) (ns:List Int),ns.length<=63->SqL K H a (ns.map V.int)->spl K [.ref a] H (λv _=>v=.bl true) λ_ _ _=>False)
  (F:∀ (w:World) (mg:Str->Option Value) (fa:Addr) (h:Heap),(K w.params).In h->h.Ns mainGlobals mg->mg d.name=some (.ref fa) ->
   ∃ fd:FuncData,(∀ (s:Shared) (u:Value),BindsTo s fd ⟨[u],[]⟩ [("_law_script",u)]) /\
    ∀ base:Heap,(K w.params).In base->base.Ns mainGlobals mg->FnOk l.prog w (K w.params) mg base (CXr l.prog w) k fa fd ["_law_script"] (spl (K w.params))) :
  PySem.W.WalkO q p3 XP YP l.row.toRowW d [] (λf vs=>PySem.call f vs) :=
 Zok (n:=63) (k:=k) (x:="_law_script") (CX:=λw=>CXr l.prog w) (sp:=λw=>spl (K w.params)) hn (d:) z9 hr hY F (λw H a ns hl _ hS=>mh _ H a ns hl hS) (λw H s e s' h=>Zp8 h)
def ExT (e:Addr) (T:Option Addr) (cls a0:Value) (h:Heap):Prop:=match T with
 | some T=>FlyT e T cls a0 h
 | none=>∃ oe vs,h.get? e=some oe/\(oe.cls=cls/\vs[0]?=some a0)/\oe.data=.fields vs/\vs[1]?=some .none
structure FxOk (X:Cx) (jh:List (m:)) (H:Hp) (b:Addr):Prop where
 nt:H b=none
 nl:b≠X.env.locals
 nf:b ∉ X.fs
 n0:X.s₀.heap.get? b=none
 nc:∀ x c,X.env.cells.lookup x=some c->c≠b
 np:∀ p∈X.pn ++ jh,p.1≠b
def XS (fr:Bool) (X:Cx) (jh:List (m:)) (R:Value->St->Hp->Prop) (ev:Value) (s':Shared):Prop :=
 ∃ (e:Addr) (T:Option Addr) (cls a0:Value) (σ':St) (H':Hp),ev=.ref e/\Inv X jh σ' H' s'/\ExT e T cls a0 s'.heap/\FxOk X jh H' e/\(∀ t,T=some t->FxOk X jh H' t)/\(T=none->fr=true)/\R cls σ' H'
abbrev TSX:=Ends->(Value->St->Hp->Prop)->St->Hp->Prop
abbrev TEX:=St->Hp->VK->XK->Prop
def PSX (fr:Bool) (X:Cx) (st:Stmt) (t:TSX):Prop :=
 ∀ jh s σ H (D:Ends) (R:Value->St->Hp->Prop),Inv X jh σ H s->t D R σ H->wpAny (c:) X.A (exec st X.env) (SP X jh D) (XS fr X jh R) s
def PSsX (fr:Bool) (X:Cx) (st:List Stmt) (t:TSX):Prop :=
 ∀ jh s σ H (D:Ends) (R:Value->St->Hp->Prop),Inv X jh σ H s->t D R σ H->wpAny (c:) X.A (execs st X.env) (SP X jh D) (XS fr X jh R) s
def PEX (fr:Bool) (X:Cx) (e:Expr) (t:TEX):Prop :=
 ∀ jh s σ H (Q:VK) (E:XK),Inv X jh σ H s->t σ H Q E->wpAny (c:) X.A (eval e X.env) (EP X jh σ Q) (XS fr X jh λcls σ' H'=>σ'=σ/\E cls none H') s
section
variable {X:Cx} {fr:Bool}
def Wd {st:Stmt} {t:TS} (h:PS X st t) (hx:X.xe=(λ_ _=>False):=by rfl):PSX fr X st (λD _ σ H=>t D σ H):=λjh s σ H D R I q=>by
 have:=h jh s σ H D I q;rw [hx] at this;exact wpAny_mono this (λ_ _ z=>z) λ_ _ z=>z.elim
def Zbm {st:List Stmt} {t:TS} (h:PSs X st t) (hx:X.xe=(λ_ _=>False):=by rfl):PSsX fr X st (λD _ σ H=>t D σ H):=λjh s σ H D R I q=>by
 have:=h jh s σ H D I q;rw [hx] at this;exact wpAny_mono this (λ_ _ z=>z) λ_ _ z=>z.elim
def Zah {e:Expr} {t:TE} (h:PE X e t) (hx:X.xe=(λ_ _=>False):=by rfl):PEX fr X e (λσ H Q _=>t σ H Q):=λjh s σ H Q E I q=>by
 have:=h jh s σ H Q I q;rw [hx] at this;exact wpAny_mono this (λ_ _ z=>z) λ_ _ z=>z.elim
def Zsj (t u:TSX):TSX:=λD R σ H=>t { D with nx:=u D R } R σ H
def Ys {st:Stmt} {jk:List Stmt} {t u:TSX} (h1:PSX fr X st t) (h2:PSsX fr X jk u):PSsX fr X (st :: jk) (Zsj t u):=by
 intro jh s σ H D R I h;refine wpAny_execs_cons (thn (h1 jh s σ H { D with nx:=u D R } R I h) λf s1 q=>?_)
 cases f with
 | next =>
  obtain ⟨σ',H',I',q⟩:=q;exact h2 jh s1 σ' H' D R I' q
 | ret v=>exact q
 | brk=>exact q
 | cont=>exact q
def Zw {st:Stmt} {t:TSX} (h1:PSX fr X st t):PSsX fr X [st] t:=by
 intro jh s σ H D R I h;refine wpAny_execs_cons (thn (h1 jh s σ H D R I h) λf s1 q=>?_)
 cases f with
 | next=>exact wpAny_execs_nil q
 | ret v=>exact q
 | brk=>exact q
 | cont=>exact q
def W9:PSsX fr X [] (λD _ σ H=>D.nx σ H):=λ_ _ σ H _ _ I h=>wpAny_execs_nil ⟨σ,H,I,h⟩
def tIfX (c:TT) (t u:TSX):TSX:=λD R σ H=>c σ H λb H1=>if b=true then t D R σ H1 else u D R σ H1
def X2 (hc:PT X c tc) (ha:PSsX fr X a t) (hb:PSsX fr X b u) (hx:X.xe=(λ_ _=>False):=by rfl):PSX fr X (.If c a b pos) (tIfX tc t u):=by
 intro jh s σ H D R I h;have h0:=hc jh s σ H _ I h;rw [hx] at h0;refine wpAny_If (wpAny_mono h0 (λd s1 zz29=>?_) λ_ _ z=>z.elim);obtain ⟨H1,I1,q1⟩:=zz29
 cases d with
 | true=>exact ha jh s1 σ H1 D R I1 q1
 | false=>exact hb jh s1 σ H1 D R I1 q1
def Zqw (te:TEX):TSX:=λD R σ H=>te σ H (λ_ H1=>D.nx σ H1) λcls _ H1=>R cls σ H1
def Y1 {pos:Pos} (he:PEX fr X e te) (hs:swapsWith e none pos.line X.env=pure false:=by rfl):PSX fr X (.Expr e pos) (Zqw te):=by
 intro jh s σ H D R I h;refine wpAny_Expr_any (wpAny_mono (he jh s σ H _ _ I h) (λv s1 ⟨x,H1,I1,r1,q1⟩=>⟨σ,H1,I1,q1⟩) ?_) I.quiet hs;rintro ev s1 ⟨e,T,cls,a0,σ',H',h1,h2,h3,h4,h5,h7,rfl,h6⟩;exact ⟨e,T,cls,a0,σ',H',h1,h2,h3,h4,h5,h7,h6⟩
def Zsk (te:TEX):TSX:=λD R σ H=>te σ H D.rt λcls _ H1=>R cls σ H1
def Zbl {e:Expr} {te:TEX} {pos:Pos} (he:PEX fr X e te):PSX fr X (.Return (some e) pos) (Zsk te):=by
 intro jh s σ H D R I h;refine wpAny_Return_some (wpAny_mono (he jh s σ H _ _ I h) (λv s1 ⟨x,H1,I1,r1,q1⟩=>⟨x,σ,H1,I1,r1,q1⟩) ?_);rintro ev s1 ⟨e,T,cls,a0,σ',H',h1,h2,h3,h4,h5,h7,rfl,h6⟩;exact ⟨e,T,cls,a0,σ',H',h1,h2,h3,h4,h5,h7,h6⟩
def Zsi (i:Nat) (te:TEX):TSX:=λD R σ H=>te σ H (λx H1=>D.nx (σ.set i (some x)) H1) λcls _ H1=>R cls σ H1
def Zhk {pos:Pos} (hN:X.N.Nodup) (hi:X.N[i]?=some x) (hx:Loc X.env.scope x) (he:PEX fr X e te) (hs:swapsWith e (some (.Name x lz)) pos.line X.env=pure false:=by rfl)
  (hf:X.fn x=true\/X.env.scope.names.lookup x=some .local:=by first | exact .inl rfl | exact .inr rfl | assumption):PSX fr X (.Assign [.Name x lz] e pos) (Zsi i te):=by
 intro jh s σ H D R I h;refine wpAny_Assign_Name (wpAny_mono (he jh s σ H _ _ I h) (λv s1 ⟨y,H1,I1,r1,q1⟩=>?_) ?_) hs
 ·exact W7 I1 hN hi hx r1 (λs2 I2=>⟨_,H1,I2,q1⟩) hf
 ·rintro ev s1 ⟨e,T,cls,a0,σ',H',h1,h2,h3,h4,h5,h7,rfl,h6⟩
  exact ⟨e,T,cls,a0,σ',H',h1,h2,h3,h4,h5,h7,h6⟩
def Inv.cxr (I:Inv X jh σ H s) (hex:X.ex=[]) (h:CXr X.prog X.w X.stack H s E ev s'):XS fr X jh (λcls σ' H'=>σ'=σ/\E cls none H') ev s':=by
 obtain ⟨e,T,cls,a0,H',rfl,os,bare,un,hok,ne,nT,he,hT,fl,q⟩:=h;have I':Inv X jh σ H' s':=I.call' os un hok bare λb hb=>absurd hb (by simp)
 have fx:∀ b,s.heap.get? b=none->H' b=none->FxOk X jh H' b:=λb hb hn=>by
  refine ⟨hn,λz=>?_,λz=>?_,?_,λx c e z=>?_,λp hp z=>?_⟩
  ·obtain ⟨m,⟨o,_,_,ho,_⟩,_⟩:=I.loc
   rw [z,ho] at hb; cases hb
  ·obtain ⟨_,o,ho,_⟩:=I.funs.mem z
   rw [ho] at hb; cases hb
  ·cases q:X.s₀.heap.get? b with
   | none=>rfl
   | some o =>
    obtain ⟨o',e'⟩:=I.base.there b o q (by rw [hex]; simp);rw [hb] at e'; cases e'
  ·obtain ⟨v,o,ho,_⟩:=I.cell x c e
   rw [z,hb] at ho; cases ho
  ·have:=(I.pin p hp).1
   rw [z,hb] at this; cases this
 exact ⟨e,some T,cls,a0,σ,H',rfl,I',fl,fx e ne he,λt ht=>by cases ht; exact fx T nT hT,(C:),Y,q⟩
variable {k:Nat} {f C:Addr} {fd:FuncData} {ps:List Str} {sp:Sp} {kj:List V} {ds:List Value} {x m:Str} {p pos jv:Pos} {e o:Expr} {es:List Expr} {ta:TE} {t:TA}
def Zbj (F:FnOk X.prog X.w X.K X.mg X.base (CXr X.prog X.w) k f fd ps sp) (hr:Room k X.A) (hb:Wb X.K fd ps ds) (hd:Vals kj ds) (hex:X.ex=[])
  (I:Inv X jh σ H s) (r:Vals vs us) (h:sp (vs ++ kj) H Q E):wpAny (c:) X.A (call (.ref f) us) (EP X jh σ Q) (XS fr X jh λcls σ' H'=>σ'=σ/\E cls none H') s:=by
 have r2:Vals (vs ++ kj) (us ++ ds):=r.append hd;have hl:(us ++ ds).length=ps.length:=by rw [<- r2.length]; exact F.len _ _ _ _ h
 refine wpAny_call (codeAny_mono (F.run X.A X.stack s H ⟨us,[]⟩ (us ++ ds) (vs ++ kj) Q E hr I.env0 (hb s us I.kIn hl) r2 h) λr s' hq=>?_)
 cases r with
 | error e=>exact I.cxr hex hq
 | ok fl =>
  cases fl with
  | ret u=>exact I.after hq
  | next=>exact False.elim hq
  | brk=>exact False.elim hq
  | cont=>exact False.elim hq
def Zj0 (sp:Sp) (kj:List V) (t:TA):TEX:=λσ H Q E=>t σ H λvs H1=>sp (vs ++ kj) H1 Q E
def Zmt (F:FnOk X.prog X.w X.K X.mg X.base (CXr X.prog X.w) k f fd ps sp) (hr:Room k X.A) (hg:Gl X x) (hm:X.mg x=some (.ref f)) (hk:PySem.W.keepIn X.K (.ref f)=true) (hb:Wb X.K fd ps ds) (hd:Vals kj ds)
  (ha:PA X (e :: es) t) (hex:X.ex=[]:=by rfl) (hx:X.xe=(λ_ _=>False):=by rfl) (l8:(x == ("__debug__":Str))=false:=by decide) (he:starEach (e :: es) X.env=(false,eval e X.env) :: starEach es X.env:=by rfl) (k8:(backTo pos (starEach es X.env)).any (·.1)=false:=by rfl) :
  PEX fr X (.Call (.Name x p) (e :: es) [] pos) (Zj0 sp kj t):=by
 intro jh s σ H Q E I h;have h0:=ha pos jh s σ H _ I h;rw [hx] at h0;refine wpAny_Call_Name_kw (Je I hg hm ?_ l8);refine PySem.W.callWith_K (h₀:=X.base) I.ok.mod.kin hk (wpAny_mono h0 (λus s1 zz30=>?_) λ_ _ z=>z.elim) he k8;obtain ⟨vs,H1,I1,r,q⟩:=zz30;refine ⟨I1.kIn,?_⟩;exact Zbj F hr hb hd hex I1 r q
def Zqv (C:Addr) (m:Str) (sp:Sp) (kj:List V) (ta:TE) (t:TA):TEX:=λσ H Q E=>ta σ H λx H1=>∃ a dx fs,x=.ref a/\H1 a=some (.ins C dx fs)/\fs.lookup m=none /\
 t σ H1 λvs H2=>sp (x :: (vs ++ kj)) H2 Q E
def Yx (he:PE X o ta) (c:Cls X.K C) (hm:Meth X.K C m f) (F:FnOk X.prog X.w X.K X.mg X.base (CXr X.prog X.w) k f fd ps sp) (hr:Room k X.A) (hb:Wb X.K fd ps ds) (hd:Vals kj ds) (ha:PA X (e :: es) t)
  (hex:X.ex=[]:=by rfl) (hx:X.xe=(λ_ _=>False):=by rfl) (k7:starEach (e :: es) X.env=(false,eval e X.env) :: starEach es X.env:=by rfl) (k8:(backTo pos (starEach es X.env)).any (·.1)=false:=by rfl)
  (ht:eval (.Call (.Attribute o m jv) (e :: es) [] pos) X.env=(do
   let ov <- eval o X.env
   standAt jv.atName
   let (f,first) <- holding [ov] (getMethod ov m pl)
   callWith pos f first (backTo pos (starEach (e :: es) X.env)) (backToKw pos (keywordEach [] X.env))):=by rfl) :
  PEX fr X (.Call (.Attribute o m jv) (e :: es) [] pos) (Zqv C m sp kj ta t):=by
 intro jh s σ H Q E I h;have h0:=he jh s σ H _ I h;rw [hx] at h0;refine PySem.W.methodCall_KW (pl:=pl) (wpAny_mono h0 (λu s1 zz31=>?_) λ_ _ z=>z.elim) ht;obtain ⟨x,H1,I1,rx,a,dx,fs,ex,ea,l,q⟩:=zz31;subst ex;obtain rfl:u=Value.ref a:=rx;refine Of I1 ea c hm l ?_;have h1:=ha pos jh s1 σ H1 _ I1 q;rw [hx] at h1;refine PySem.W.callWith_K (first:=[.ref a]) (h₀:=X.base) I.ok.mod.kin hm.kp (wpAny_mono h1 (λus s2 zz32=>?_) λ_ _ z=>z.elim) k7 k8;obtain ⟨vs,H2,I2,r,q2⟩:=zz32;refine ⟨I2.kIn,?_⟩;exact Zbj (us:=.ref a :: us) (vs:=.ref a :: vs) F hr hb hd hex I2 (.cons Y r) q2
end
theorem Yc.there {h:Heap}:∀ {o:HO},Yc P w H h a o->∃ ob,h.get? a=some ob
 | .lst _,x=>by obtain ⟨_,_,_,_,e⟩:=x; exact ⟨_,e⟩
 | .tup _,x=>by obtain ⟨_,_,_,ob,e,_⟩:=x; exact ⟨_,e⟩
 | .dK _,x=>by obtain ⟨_,_,_,_,o,_,_,e,_⟩:=x; exact ⟨_,e⟩
 | .dT _,x=>by obtain ⟨_,_,_,_,o,_,_,e,_⟩:=x; exact ⟨_,e⟩
 | .set _ _,x=>by obtain ⟨o,_,_,_,e,_⟩:=x; exact ⟨_,e⟩
 | .ins _ _ _,x=>by obtain ⟨_,_,_,e,_⟩:=x; exact ⟨_,e⟩
 | .own _,x=>by obtain ⟨_,e⟩:=x; exact ⟨_,e⟩
 | .xd _,x=>by obtain ⟨_,⟨_,_,_,e,_⟩,_⟩:=x; exact ⟨_,e⟩
 | .rng _ _,x=>by obtain ⟨_,_,_,e⟩:=x; exact ⟨_,e⟩
 | .frz _ _,x=>by obtain ⟨e,_⟩:=x; exact ⟨_,e⟩
 | .tbl _,x=>⟨_,(show h.get? a=some _ from x)⟩
 | .met _ _,x=>⟨_,(show h.get? a=some _ from x)⟩
 | .ext _,x=>by obtain ⟨_,⟨_,e⟩,_⟩:=x; exact ⟨_,e⟩
section
variable {X:Cx} {jh:List (m:)} {σ:St} {H:Hp} {s:Shared}
def Inv.untr (I:Inv X jh σ H s) (hb:s.heap.get? b=none):H b=none:=by
 cases q:H b with
 | none=>rfl
 | some o =>
  obtain ⟨ob,e⟩:=(I.hok b o q).there;rw [hb] at e; cases e
def Inv.fxOk (I:Inv X jh σ H s) (hex:X.ex=[]) (hb:s.heap.get? b=none):FxOk X jh H b:=by
 refine ⟨I.untr hb,λz=>?_,λz=>?_,?_,λx c e z=>?_,λp hp z=>?_⟩
 ·obtain ⟨m,⟨o,_,_,ho,_⟩,_⟩:=I.loc
  rw [z,ho] at hb; cases hb
 ·obtain ⟨_,o,ho,_⟩:=I.funs.mem z
  rw [ho] at hb; cases hb
 ·cases q:X.s₀.heap.get? b with
  | none=>rfl
  | some o =>
   obtain ⟨o',e'⟩:=I.base.there b o q (by rw [hex]; simp);rw [hb] at e'; cases e'
 ·obtain ⟨v,o,ho,_⟩:=I.cell x c e
  rw [z,hb] at ho; cases ho
 ·have:=(I.pin p hp).1
  rw [z,hb] at this; cases this
end
structure ExcK (K:W.Frag) (C:Addr) (bmB:List Value) (oh:String):Prop where
 q:PySem.W.excIn K C bmB oh=true
def Zp5 {K:W.Frag} {h:Heap} (X:K.In h) (q:PySem.W.excIn K C bmB oh=true) :
  ∃ bm N nm q bs hdct sn sub ab col dd k0 k1 k2 k3 k5 mN,h.get? C=some (excClassObj nm q C N bs bm hdct sn sub ab col dd k0 k1 k2 k3 k5 oh)/\h.Ns N mN/\mN "__init__"=none/\OwnTail h bmB bm:=by
 unfold PySem.W.excIn at q;split at q
 ·rename_i dd cd sl ho
  split at q
  ·rename_i C' bm k0 k1 k2 k3 n k5 hm hs
   simp only [Bool.and_eq_true,beq_iff_eq,Bool.not_eq_true'] at q;obtain ⟨⟨⟨⟨⟨rfl,rfl⟩,hdel⟩,ht⟩,hok⟩,hni⟩:=q;obtain ⟨nm,bs,mro,ns,qn,hd,sn,sub,ab,col,del⟩:=cd;dsimp only at hm hdel hok hni;subst hm hdel;have yi:sl=#[k0,k1,k2,k3,some (.builtin n),k5]:=by
    obtain ⟨l⟩:=sl
    simp only at hs
    rw [hs]
   subst yi;exact ⟨bm,ns,nm,qn,bs,hd,sn,sub,ab,col,dd,k0,k1,k2,k3,k5,_,X _ _ ho,.of_isNs (PySem.W.isNs_of_in X hok),PySem.W.nsMap_none_of_in X hok hni,PySem.W.tail_of_in X ht⟩
  ·cases q
 ·cases q
section
variable {X:Cx}
def Zqu (C:Addr) (t:TA):TSX:=λ_ R σ H=>t σ H λvs H1=>vs.length<=1000/\R (.ref C) σ H1
def Wm (K:ExcK X.K C bmB oh) (FB:ExcBaseFacts B oh initId bmB) (hg:Gl X x) (hm:X.mg x=some (.ref C)) (hc:X.calm=true) (ha:PA X (e :: es) t)
  (hex:X.ex=[]:=by rfl) (hx:X.xe=(λ_ _=>False):=by rfl) (l8:(x == ("__debug__":Str))=false:=by decide) (he:starEach (e :: es) X.env=(false,eval e X.env) :: starEach es X.env:=by rfl) (k8:(backTo js (starEach es X.env)).any (·.1)=false:=by rfl) :
  PSX true X (.Raise (some (.Call (.Name x np) (e :: es) [] js)) none pos) (Zqu C t):=by
 intro jh s σ H D R I h;obtain ⟨tl,N,nm,q,bs,hdct,sn,sub,ab,col,dd,k0,k1,k2,k3,k5,mN,hC,hN,hni,T⟩:=Zp5 I.ok.mod.kin K.q;refine wpAny_Raise_call_subT (C:=C) (nm:=nm) (q:=q) (N:=N) (bs:=bs) (bm:=tl) (hdct:=hdct) (sn:=sn) (sub:=sub) (ab:=ab) (col:=col) (dd:=dd) (k0:=k0) (k1:=k1) (k2:=k2) (k3:=k3) (k5:=k5)
  FB (mN:=mN) (T.hasType FB.hasBase) (I.ok.hd hc) (by rw [he]; show (false || (backTo js (starEach es X.env)).any (·.1))=false; rw [k8]; rfl) hni (Je I hg hm ⟨rfl,?_⟩ l8)
 have h0:=ha js jh s σ H _ I h;rw [hx] at h0;rw [he] at h0 ⊢;refine Calls.evalArgs_plain (wpAny_mono h0 (λus s₂ zz33=>?_) λ_ _ z=>z.elim);obtain ⟨vs,H1,I1,r1,hl,q1⟩:=zz33;have kb:=I1.bk;refine ⟨Y,?_,kb _ _ hC,hN.keeps kb,T.keeps kb,λh' ea um=>?_⟩
 ·rw [<- r1.length]
  exact Nat.le_of_lt (Zv hl)
 obtain ⟨tt,h1,h2,h3⟩:=um.there;have I2:Inv X jh σ H1 { s₂ with heap:=h' }:=I1.kept (t':=s₂.toks) um.keeps;have fx:=I1.fxOk hex um.new;exact ⟨ea,none,.ref C,.ref tt,σ,H1,Y,I2,⟨_,_,h1,⟨Y,Y⟩,Y,Y⟩,⟨fx.nt,fx.nl,fx.nf,fx.n0,fx.nc,fx.np⟩,(λt z=>nomatch z),(λ_=>rfl),q1⟩
def Un.leave {h₀ h h':Heap} (u:Un fs [] H₀ H h₀ h) (hk:∀ b o,h₀.get? b=some o->b ∉ fs->h.get? b=some o->h'.get? b=some o)
  (hs:∀ b o,b∈fs->h.get? b=some o->∃ sl,h'.get? b=some { o with slots:=sl }) (ht:∀ b o,h₀.get? b=some o->∀ o',h.get? b=some o'->∃ o'',h'.get? b=some o''):Un fs [] H₀ H h₀ h' where
 keep:=λb o e n hb hx=>hk b o e hb (u.keep b o e n hb hx)
 slot:=λb o e n hb hx=>by
  obtain ⟨sl,e1⟩:=u.slot b o e n hb hx;obtain ⟨y4,e2⟩:=hs b _ hb e1;exact ⟨y4,e2⟩
 free:=u.free
 there:=λb o e hx=>by
  obtain ⟨o',e1⟩:=u.there b o e hx;exact ht b o e o' e1
 tups:=u.tups
 frzs:=u.frzs
 tbls:=u.tbls
def Uy {X:Cx} {s:Shared} (I:Inv X jh σ H s) (as:List Addr) (hs:∀ b∈frs X.stack,b∈as):s.heap.FunFrames (PySem.W.hideAll s.heap as) X.stack:=by
 have all:∀ (l:List Env),(∀ b∈frs l,b∈as)->s.heap.FunFrames X.base l->s.heap.FunFrames (PySem.W.hideAll s.heap as) l:=by
  intro l
  induction l with
  | nil=>intro _ _; trivial
  | cons env r ih =>
   intro hs hl;obtain ⟨hk,⟨L,o,hf,hn,ho,hd⟩,hr⟩:=hl;have hL:L∈as:=hs L (by unfold frs; rw [filterMap_cons,hf]; exact mem_cons_self);exact ⟨hk,⟨L,o,hf,PySem.W.hideAll_none as hL,ho,hd⟩,ih (λb hb=>hs b (by unfold frs; rw [filterMap_cons,hf]; exact mem_cons_of_mem _ hb)) hr⟩
 exact all X.stack hs I.stack
def Inv.fnd {X:Cx} {s:Shared} (I:Inv X jh σ H s) (hb:b∈frs X.stack) {o:Obj} (e:s.heap.get? b=some o):∀ vs,o.data≠.fields vs:=by
 obtain ⟨_,o',e',d⟩:=I.stack.mem hb;rw [e] at e'; cases e';exact d
end
def FxOk.none {X:Cx} {jh:List (m:)} {H:Hp} {b:Addr} (h:FxOk X jh H b):FxOk X [] H b:=⟨h.nt,h.nl,h.nf,h.n0,h.nc,λp hp=>h.np p (by rw [append_nil] at hp; exact mem_append_left _ hp)⟩
section
variable {P:Program} {w:World} {K:W.Frag} {mg:Str->Option Value} {base:Heap}
def Zna (h:XS fr (cxOf (CXr P w) P w K mg base N qual scope f cd A outer s H E).nox [] (λcls _ H'=>E cls none H') ev s'):(cxOf (CXr P w) P w K mg base N qual scope f cd A outer s H E).xe ev s':=by
 obtain ⟨e,T,cls,a0,σ',H',rfl,I,hx,fe,fT,_,q⟩:=h;show wpAny (model P w) (A.deeper (envOfC qual scope s.heap.objs.size f cd)) (leaving (envOfC qual scope s.heap.objs.size f cd) (.ref e)) (λ_ uc=>CXr P w outer H s E (.ref e) uc) (λe' uc=>CXr P w outer H s E e' uc) s';have k7:(cxOf (CXr P w) P w K mg base N qual scope f cd A outer s H E).nox.stack=envOfC qual scope s.heap.objs.size f cd :: outer:=rfl;have yp:(A.deeper (envOfC qual scope s.heap.objs.size f cd)).frames=some (j:):=I.ok.frames
 have n0:∀ b,b∈e :: T.toList->s.heap.get? b=none:=λb hb=>by
  rcases Ar hb with z | z
  ·rw [z]; exact fe.n0
  ·cases T with
   | none=>simp at z
   | some t =>
    have:b=t:=by simpa using z
    rw [this]; exact (fT t Y).n0
 have nt:∀ b,b∈e :: T.toList->H' b=none:=λb hb=>by
  rcases Ar hb with z | z
  ·rw [z]; exact fe.nt
  ·cases T with
   | none=>simp at z
   | some t =>
    have:b=t:=by simpa using z
    rw [this]; exact (fT t Y).nt
 have hB:∀ b o,b ∉ e :: T.toList->b ∉ frs (j:)->s'.heap.get? b=some o->(PySem.W.hideAll s'.heap ((e :: T.toList) ++ frs (j:))).get? b=some o:=λb o h1 h2 e1 =>
  PySem.W.hideAll_get _ e1 λz=>(mem_append.mp z).elim h1 h2
 have hl:s'.heap.FunFrames (PySem.W.hideAll s'.heap ((e :: T.toList) ++ frs (j:))) (j:):=Uy I _ λb hb=>mem_append_right _ hb;have hkb:(PySem.W.hideAll s'.heap ((e :: T.toList) ++ frs (j:))).StaysIn s'.heap:=λb o e1=>PySem.W.of_hideAll _ e1;have hen:(PySem.W.hideAll s'.heap ((e :: T.toList) ++ frs (j:))).get? e=none:=PySem.W.hideAll_none _ (mem_append_left _ mem_cons_self)
 have kh:∀ h',Heap.LeftW (PySem.W.hideAll s'.heap ((e :: T.toList) ++ frs (j:))) (j:) e cls a0 s'.heap h'->CXr P w outer H s E (.ref e) { s' with heap:=h' }:=λh' ⟨k1,k2,k3,k4⟩=>by
  obtain ⟨oe,vs,T',oT,ts,x1,x2,x3,x4,x5,x6,x7,x8,x9⟩:=k3;have rp:∀ b o,b∈frs (j:)->s'.heap.get? b=some o->∃ sl,h'.get? b=some { o with slots:=sl }:=λb o hb e1=>k4 b o e1 (I.fnd hb e1);have kept:∀ b o,b ∉ e :: T.toList->b ∉ frs (j:)->s'.heap.get? b=some o->h'.get? b=some o:=λb o h1 h2 e1=>k1 b o (hB b o h1 h2 e1);have nL:∀ b o,s.heap.get? b=some o->b ∉ frs outer->b ∉ frs (j:):=λb o e1 h2 z=>by
   have z':b∈s.heap.objs.size :: frs outer:=z
   rcases Ar z' with z1 | z1
   ·rw [z1] at e1; exact absurd (Ao e1) (Nat.lt_irrefl _)
   ·exact h2 z1
  have nE:∀ b o,s.heap.get? b=some o->b ∉ e :: T.toList:=λb o e1 z=>by rw [n0 b z] at e1; cases e1
  have si:∀ b u,H' b=some u->∀ o,s'.heap.get? b=some o->h'.get? b=some o:=λb u hu o e1=>by
   refine kept b o (λz=>by rw [nt b z] at hu; cases hu) (λz=>?_) e1;rw [I.stkFree b z] at hu; cases hu
  have yt:s.heap.get? T'=none/\H' T'=none:=by
   by_cases hz:s'.heap.get? T'=none
   ·refine ⟨?_,I.untr hz⟩
    cases q':s.heap.get? T' with
    | none=>rfl
    | some o =>
     obtain ⟨o',e'⟩:=I.base.there T' o q' (by simp [cxOf]);rw [hz] at e'; cases e'
   ·obtain ⟨o,ho⟩:=Option.ne_none_iff_exists'.mp hz
    by_cases h1:T'∈e :: T.toList
    ·exact ⟨n0 T' h1,nt T' h1⟩
    ·by_cases h2:T'∈frs (envOfC qual scope s.heap.objs.size f cd :: outer)
     ·exfalso
      obtain ⟨sl,e'⟩:=rp T' o h2 ho;rw [x7] at e';cases e';exact I.fnd h2 ho ts x8
     ·rw [hB T' o h1 h2 ho] at x5; cases x5
  refine ⟨e,T',cls,a0,H',Y,I.os,I.bare,?_,λb u hu=>?_,fe.n0,yt.1,fe.nt,yt.2,⟨oe,vs,oT,ts,x1,x2,x3,x4,x6,x7,x8,x9⟩,q⟩
  ·refine Un.leave I.base (λb o e1 h1 e2=>kept b o (nE b o e1) (nL b o e1 h1) e2) (λb o hb e1=>rp b o (mem_cons_of_mem _ hb) e1) λb o e1 o' e2=>?_
   by_cases h2:b∈frs outer
   ·obtain ⟨sl,e'⟩:=rp b o' (mem_cons_of_mem _ h2) e2
    exact ⟨_,e'⟩
   ·exact ⟨o',kept b o' (nE b o e1) (nL b o e1 h2) e2⟩
  ·refine (I.hok b u hu).stay (λc v hc e1=>?_) (λ_ z=>z) λ_ _ z=>z
   rcases hc with z | z
   ·exact si c u (by rw [z]; exact hu) v e1
   ·exact si c _ z v e1
 cases T with
 | none =>
  obtain ⟨oe,vs,x1,x2,x3,x4⟩:=hx;obtain ⟨x21,x22⟩:=x2;subst x21;exact wpAny_leaving_firstW yp hl Y x1 hkb hen x3 x4 x22 kh
 | some t =>
  obtain ⟨oe,vs,oT,ts,x1,x2,x3,x4,x5,x6,x7,x8⟩:=hx;exact wpAny_leaving_nextW yp hl Y ⟨oe,vs,t,oT,ts,x1,x2,x3,x4,PySem.W.hideAll_none _ (mem_append_left _ (by simp)),x5,x6,x7,x8⟩ hkb hen kh
def Fun.okX {x qual:Str} {st:Stmt} {f:Addr} {fd:FuncData} {N ps:List Str} {k:Nat} {sp:Sp} (F:Fun K x qual st f fd) (S:FnScope N ps (Zh st)) (len:∀ vs H Q E,sp vs H Q E->vs.length=ps.length)
  (k9:∀ (j5:Value) (A:Around) (outer:List Env) (s:Shared) (H:Hp) (vs:List V) (Q:VK) (E:XK),Room k (A.deeper (envOfC qual (Zh st) s.heap.objs.size f j5))->sp vs H Q E ->
   ∃ t,PSsX true (cxOf (CXr P w) P w K mg base N qual (Zh st) f j5 A outer s H E).nox (Yv st) t/\t { nx:=λ_ H'=>Q .non H',rt:=Q } (λcls _ H'=>E cls none H') (start N vs) H):FnOk P w K mg base (CXr P w) (k + 1) f fd ps sp:=by
 obtain ⟨oc,od,kV,kc,pm,an,j5,ct,ue,rfl,lk,qc⟩:=F.ex;refine Zoe lk qc S len λA outer s H vs Q E hr mh=>?_;obtain ⟨t,h,q⟩:=k9 j5 A outer s H vs Q E hr mh;refine ⟨λD σ H'=>t D (λcls _ H''=>E cls none H'') σ H',λjh s' σ' H' D I hD=>?_,q⟩;refine wpAny_mono (h jh s' σ' H' D _ (I.wish _) hD) (λ_ _ z=>z.unwish) λev uc z=>Zna (fr:=true) ?_;obtain ⟨e,T,cls,a0,σ2,H2,h1,h2,h3,h4,h5,h7,h6⟩:=z;exact ⟨e,T,cls,a0,σ2,H2,h1,h2.pins_of (λp hp=>absurd hp (by simp)),h3,h4.none,λt ht=>(h5 t ht).none,h7,h6⟩
end
section
variable {X:Cx}
def Inv.exc {jh:List (m:)} {σ:St} {H:Hp} {s:Shared} {e T:Addr} {h':Heap} (I:Inv X jh σ H s) (hex:X.ex=[]) (fe:FxOk X jh H e) (fT:FxOk X jh H T)
  (keep:∀ b o,b≠e->b≠T->b ∉ frs X.stack->s.heap.get? b=some o->h'.get? b=some o) (slot:∀ b o,b∈frs X.stack->s.heap.get? b=some o->∃ sl,h'.get? b=some { o with slots:=sl }):Inv X jh σ H { s with heap:=h' }:=by
 have fss:∀ b∈X.fs,b∈frs X.stack:=λb hb=>by
  rcases I.ok.stk with z | ⟨z,hf⟩
  ·rw [z]; exact hb
  ·rw [z]; unfold frs; rw [filterMap_cons,hf]; exact mem_cons_of_mem _ hb
 have data:∀ b o,b≠e->b≠T->s.heap.get? b=some o->∃ sl,h'.get? b=some { o with slots:=sl }:=λb o h1 h2 e1=>by
  by_cases hb:b∈frs X.stack
  ·exact slot b o hb e1
  ·exact ⟨o.slots,keep b o h1 h2 hb e1⟩
 have ne0:∀ b o,X.s₀.heap.get? b=some o->b≠e/\b≠T:=λb o e1=>⟨λz=>(by rw [z,fe.n0] at e1; cases e1),λz=>(by rw [z,fT.n0] at e1; cases e1)⟩;have oo:∀ x c,X.env.cells.lookup x=some c->∀ v,s.heap.IsCell c v->h'.IsCell c v:=λx c ec v ⟨o,ho,hd⟩=>by
  obtain ⟨sl,e1⟩:=data c o (fe.nc x c ec) (fT.nc x c ec) ho
  exact ⟨_,e1,hd⟩
 refine ⟨I.ok,I.os,I.bare,⟨λb o e0 n hb hx=>?_,λb o e0 n hb hx=>?_,I.base.free,λb o e0 hx=>?_,I.base.tups,I.base.frzs,I.base.tbls⟩,?_,λx c ec=>?_,I.free,I.freeC,λp hp=>?_,λb u hu=>?_,I.len⟩
 ·obtain ⟨n1,n2⟩:=ne0 b o e0
  refine keep b o n1 n2 (λz=>?_) (I.base.keep b o e0 n hb hx)
  rcases Ar (I.stkSub b z) with z1 | z1
  ·rw [z1] at e0; exact absurd (Ag (Ao e0) I.ok.above) (Nat.lt_irrefl _)
  ·exact hb z1
 ·obtain ⟨sl,e1⟩:=I.base.slot b o e0 n hb hx
  obtain ⟨y4,e2⟩:=slot b _ (fss b hb) e1;exact ⟨y4,e2⟩
 ·obtain ⟨n1,n2⟩:=ne0 b o e0
  obtain ⟨o',e1⟩:=I.base.there b o e0 hx;obtain ⟨sl,e2⟩:=data b o' n1 n2 e1;exact ⟨_,e2⟩
 ·obtain ⟨m,hn,hl⟩:=I.loc
  refine ⟨m,?_,λi x v e1 e2 e3=>?_⟩
  ·obtain ⟨o,es,ep,ho,hd,r⟩:=hn
   obtain ⟨sl,e1⟩:=data _ o (Ne.symm fe.nl) (Ne.symm fT.nl) ho;exact ⟨_,es,ep,e1,hd,r⟩
  ·obtain ⟨u,r,l⟩:=hl i x v e1 e2 e3
   refine ⟨u,r,?_⟩
   rcases l with l | ⟨k,c,ec,z⟩
   ·exact .inl l
   ·exact .inr ⟨k,c,ec,oo x c ec _ z⟩
 ·obtain ⟨v,z⟩:=I.cell x c ec
  exact ⟨v,oo x c ec v z⟩
 ·obtain ⟨e1,n,ne,nf,d⟩:=I.pin p hp
  refine ⟨keep p.1 p.2 (fe.np p hp) (fT.np p hp) (λz=>?_) e1,n,ne,nf,d⟩
  rcases Ar (I.stkSub p.1 z) with z1 | z1
  ·exact ne z1
  ·exact nf z1
 ·have si:∀ b u,H b=some u->∀ o,s.heap.get? b=some o->h'.get? b=some o:=λb u hu o e1=>by
   refine keep b o (λz=>by rw [z,fe.nt] at hu; cases hu) (λz=>by rw [z,fT.nt] at hu; cases hu) (λz=>?_) e1;rw [I.stkFree b z] at hu; cases hu
  refine (I.hok b u hu).stay (λc v hc e1=>?_) (λ_ z=>z) λ_ _ z=>z
  rcases hc with z | z
  ·exact si c u (by rw [z]; exact hu) v e1
  ·exact si c _ z v e1
noncomputable def V7 (X:Cx) (e:Addr):Cx:={ X with A:=X.A.mark (some (.ref e)),calm:=false }
def Inv.hnd {jh:List (m:)} {σ:St} {H:Hp} {s:Shared} (I:Inv X jh σ H s) (e:Addr):Inv (V7 X e) jh σ H s :=
 ⟨⟨I.ok.mod,I.ok.kind,I.ok.glob,I.ok.blt,I.ok.above,I.ok.inj,I.ok.has,I.ok.cab,λh=>absurd (show false=true from h) Bool.false_ne_true,I.ok.frames,I.ok.stk,I.ok.exf,I.ok.bs,I.ok.bsz,I.ok.noex,I.ok.exfs,I.ok.funs,I.ok.frf⟩,
  I.os,I.bare,I.base,I.loc,I.cell,I.free,I.freeC,I.pin,I.hok,I.len⟩
def Inv.unhnd {jh:List (m:)} {σ:St} {H:Hp} {s:Shared} {e:Addr} (I:Inv (V7 X e) jh σ H s) (ok:X.Ok):Inv X jh σ H s :=
 ⟨ok,I.os,I.bare,I.base,I.loc,I.cell,I.free,I.freeC,I.pin,I.hok,I.len⟩
def SP.unhnd {jh:List (m:)} {D:Ends} {f:Flow} {s':Shared} {e:Addr} (h:SP (V7 X e) jh D f s') (ok:X.Ok):SP X jh D f s':=by
 cases f with
 | next=>obtain ⟨σ',H',I,q⟩:=h; exact ⟨σ',H',I.unhnd ok,q⟩
 | brk=>obtain ⟨σ',H',I,q⟩:=h; exact ⟨σ',H',I.unhnd ok,q⟩
 | cont=>obtain ⟨σ',H',I,q⟩:=h; exact ⟨σ',H',I.unhnd ok,q⟩
 | ret u=>obtain ⟨v,σ',H',I,r,q⟩:=h; exact ⟨v,σ',H',I.unhnd ok,r,q⟩
def Zr1 {jh:List (m:)} {σ:St} {H:Hp} {s:Shared} {e T:Addr} {cls a0:Value} (I:Inv X jh σ H s) (hx:FlyT e T cls a0 s.heap) :
  Heap.FlyingW (PySem.W.hideAll s.heap (e :: T :: frs X.stack)) X.stack e cls a0 s.heap:=by
 obtain ⟨oe,vs,oT,ts,x1,x2,x3,x4,x5,x6,x7,x8⟩:=hx;exact ⟨λb o e1=>PySem.W.of_hideAll _ e1,PySem.W.hideAll_none _ (by simp),Uy I _ λb hb=>by simp [hb],oe,vs,T,oT,ts,x1,x2,x3,x4,PySem.W.hideAll_none _ (by simp),x5,x6,x7,x8⟩
def Inv.flown {jh:List (m:)} {σ:St} {H:Hp} {s:Shared} {e T:Addr} {h':Heap} (I:Inv X jh σ H s) (hex:X.ex=[]) (fe:FxOk X jh H e) (fT:FxOk X jh H T)
  (k7:(PySem.W.hideAll s.heap (e :: T :: frs X.stack)).StaysIn h') (hup:s.heap.UpToSlots h'):Inv X jh σ H { s with heap:=h' }:=by
 refine I.exc hex fe fT (λb o h1 h2 h3 e1=>k7 b o (PySem.W.hideAll_get _ e1 λz=>?_)) λb o hb e1=>hup b o e1 (I.fnd hb e1)
 rcases Ar z with z | z
 ·exact h1 z
 ·rcases Ar z with z | z
  ·exact h2 z
  ·exact h3 z
end
section
variable {X:Cx} {jh:List (m:)} {σ:St} {H:Hp} {s:Shared} {A:Around} {E:Value->Shared->Prop} {a:Addr}
def Zr3 {kvs:List (Key × V)} (I:Inv X jh σ H s) (e:H a=some (.dK kvs)) (hl:kvs.length < sizeLine) (ry:RelV (kV k) u) (rd:RelV d r)
  (h1:∀ v w' s',valV kvs k=some v->Inv X jh σ H s'->RelV v w'->Q w' s') (h2:valV kvs k=none->∀ s',Inv X jh σ (upd H a (.dK (putK kvs k d))) s'->Q r s') :
  wpAny (c:) A (call (.builtin "dict.setdefault") [.ref a,u,r]) Q E s:=by
 obtain ⟨z,hd,vs,j7,dd⟩:=Zjk I.hok e;have hz:vs.length<=sizeLine:=by rw [<- j7.length]; exact z
 refine call_meetsIn PySem.F.slot_dict_setdefault dd.typeIs PySem.F.entry_dict_setdefault (PySem.F.args_dict_setdefault_3 _ _ _) (kt_meets_setdefault (Ye X.prog X.w) a (Od ry) hd r) ⟨vs,dd,hz,λv hv=>?_,λhv h' t9 hs=>?_⟩
 ·have m7:=j7.val k
  rw [hv] at m7
  cases q:valV kvs k with
  | none=>rw [q] at m7; exact m7.elim
  | some y=>rw [q] at m7; exact h1 y v _ q (I.tok _) m7
 ·have m7:=j7.val k
  rw [hv] at m7
  cases q:valV kvs k with
  | some y=>rw [q] at m7; exact m7.elim
  | none =>
   have he:∃ q,h'.get? a=some q:=let ⟨q,_,_,hq,_⟩:=t9; ⟨q,hq⟩
   have kf:(putK kvs k d).length<=sizeLine:=by have:=Qa kvs k d; lia
   exact h2 q _ (Gd I (by rw [e]; exact True.intro) hs he (Zf5 kf hd (j7.put k rd) t9))
end
def Zqx (td ty tx:TE):TE:=λσ H Q=>td σ H λx H1=>∃ a,x=.ref a/\IsD H1 a/\ty σ H1 λy H2=>tx σ H2 λz H3=>∃ kvs k,H3 a=some (.dK kvs)/\kvs.length < sizeLine/\y=kV k /\
 (∀ v,valV kvs k=some v->Q v H3)/\(valV kvs k=none->Q z (upd H3 a (.dK (putK kvs k z))))
section
variable {X:Cx} {o e f:Expr} {jv js:Pos} {td ty tx:TE}
def Zmu (ho:PE X o td) (he:PE X e ty) (hf:PE X f tx) (m:M2 X o "setdefault" jv e f js):PE X (.Call (.Attribute o "setdefault" jv) [e,f] [] js) (Zqx td ty tx):=by
 intro jh s σ H Q I h;refine wpAny_Call_method m.base m.few m.line PySem.F.plainAttrs_dict PySem.F.slot_dict_setdefault PySem.F.type_dict_setdefault (thn (ho jh s σ H _ I h) λu s1 jp=>?_);obtain ⟨x,H1,I1,rx,a,ex,d,q1⟩:=jp;subst ex;obtain rfl:u=Value.ref a:=rx;obtain ⟨t1,t2,_⟩:=Zat I1 d;refine ⟨t1,t2,?_⟩;rw [m.trees];refine Calls.callWith_builtin rfl (Calls.evalArgs_plain (Calls.spliced_cons (thn (he jh s1 σ H1 _ I1 q1) λiv s2 ⟨y,H2,I2,ry,q2⟩ =>
  Calls.spliced_cons (thn (hf jh s2 σ H2 _ I2 q2) λfv s3 ⟨z,H3,I3,rz,kvs,k,hk,hl,ey,q3,q4⟩=>Calls.spliced_nil ?_))))
 subst ey;exact Zr3 I3 hk hl ry rz (λv w' s' hv I' nu=>⟨v,H3,I',nu,q3 v hv⟩) λhv s' I'=>⟨z,_,I',rz,q4 hv⟩
def Zfy {kvs:List (Key × V)} {vs:List (Key × Value)} {ks:List Int} (j7:KV kvs vs) (hk:kvs.map (·.1)=ks.map Sum.inl) {us:List Value} (hl:us.length=vs.length)
  (hu:∀ (j:Nat) (v:Value),us[j]?=some v->∃ k x,vs[j]?=some (k,x)/\(Ye P w).is k v=true):IntsAre us ks:=by
 have nq:kvs.length=ks.length:=by have:=congrArg List.length hk; simpa using this
 have hvl:kvs.length=vs.length:=j7.length
 have key:∀ (j:Nat) (v:Value),us[j]?=some v->∃ i t,ks[j]?=some i/\v=Value.int i t:=λj v hv=>by
  obtain ⟨k,x,hx,hi⟩:=hu j v hv;have e1:(vs.map (·.1))[j]?=some k:=by rw [Ah,hx]; rfl
  have e2:vs.map (·.1)=kvs.map (·.1):=by
   clear hk hl hu nq hvl hx hi e1
   induction j7 with
   | nil=>rfl
   | cons r t ih=>rw [map_cons,map_cons,ih,r.1]
  rw [e2,hk,Ah] at e1
  cases q:ks[j]? with
  | none=>rw [q] at e1; cases e1
  | some i =>
   rw [q] at e1;have e3:Sum.inl i=k:=Ax e1;subst e3;obtain ⟨t,ht⟩:=Value.isInt_shape (k:=i) (v:=v) hi;exact ⟨i,t,Y,ht⟩
 have gen:∀ (us:List Value) (ks:List Int),us.length=ks.length->(∀ (j:Nat) (v:Value),us[j]?=some v->∃ i t,ks[j]?=some i/\v=Value.int i t)->IntsAre us ks:=by
  intro us
  induction us with
  | nil =>
   intro ks hl _
   cases ks with
   | nil=>exact .nil
   | cons _ _=>simp at hl
  | cons u r ih =>
   intro ks hl h
   cases ks with
   | nil=>simp at hl
   | cons i ks =>
    obtain ⟨i',t,e1,e2⟩:=h 0 u rfl;have e1':i=i':=by simpa using e1
    subst e1' e2;exact .cons i t (ih ks (by simpa using hl) λj v hv=>h (j + 1) v (by simpa using hv))
 exact gen us ks (by lia) key
def Jl (hc:X.calm=true):Y2 X (.builtin "sorted") (λxs H Q=>∃ (d:Addr) (kvs:List (Key × V)) (ks:List Int),xs=[.ref d]/\Rd H d (.dK kvs)/\kvs.map (·.1)=ks.map Sum.inl/\ks.length < 64 /\
  ∀ (p:Addr) (out:List Int),H p=none->out.Perm ks->out.Pairwise (·<=·)->Q (.ref p) (upd H p (.lst (out.map V.int)))):=by
 intro jh s σ H xs us Q I r h;obtain ⟨d,kvs,ks,rfl,hd,hk,h64,q⟩:=h;obtain ⟨u,rfl,ru⟩:=Xm r;obtain rfl:u=Value.ref d:=ru;obtain ⟨z,m9,vs,j7,dd⟩:=Q7 I.hok hd;obtain ⟨ep,hat⟩:=dd.dictAt;have jm:vs.length=ks.length:=by have:=congrArg List.length hk; rw [Ab,Ab] at this; have:=j7.length; lia
 have hn:vs.length<=sizeLine:=by rw [sizeLine_eq]; lia
 refine Calls.call_function_entry kind_sorted plain_sorted entry_sorted (args_sorted1 _) ?_;unfold Builtin.«sorted»;refine Al (m:=checkCount "sorted" 1 1 _) (wpAny_pure ?_);refine Al (PySem.W.kdu_collect (A:=X.A.in1) (PySem.W.kdl_dict (knd:=Ye X.prog X.w) (kvs:=vs) (ep:=ep) m9) (I.ok.hd hc) hat hn λh' tk jq mj rh=>?_);have hl:jq.toList.length=vs.length:=by rw [Array.length_toList]; exact rh.1
 have hI:IntsAre jq.toList ks:=Zfy (P:=X.prog) (w:=X.w) j7 hk hl λj v hv=>rh.2 j v (by rw [<- Array.getElem?_toList]; exact hv);refine Al (wpAny_newList ?_ (by rw [hl]; exact hn));have I1:Inv X jh σ H { s with heap:=h',toks:=tk }:=I.kept mj;have ul:(h'.push { cls:=.type "list",data:=.seq jq.toList.toArray }).get? h'.objs.size=some (seqObj "list" jq.toList.toArray 0):=Ap _ rfl;refine Al (wpAny_holding (wpAny_call_entry slot_list_sort ⟨_,ul,Y⟩ entry_list_sort (list_sort_tree ul hI (by lia) λout ns' a1 a2 a3=>⟨_,Y,?_⟩) (args_list_sort _)));refine wpAny_pure ⟨_,Y,?_⟩;obtain ⟨e,he⟩:=sortedHeap_at (out:=out) ul;have kp:∀ b u,h'.get? b=some u->(sortedHeap (h'.push { cls:=.type "list",data:=.seq jq.toList.toArray }) h'.objs.size jq.toList out).get? b=some u:=λb u hb=>by
  have jw:b < h'.objs.size:=Ao hb
  rw [sortedHeap_old (As jw) (by rw [Heap.size_push]; exact lt_succ_of_lt jw)]
  exact Ak _ hb
 have hv:Vals (ns'.map V.int) out.toList:=by
  clear he kp;generalize out.toList=l at a1;clear a2 a3
  induction a1 with
  | nil=>exact .nil
  | cons i t _ ih=>exact .cons ⟨_,Y⟩ ih
 refine ⟨.ref h'.objs.size,upd H h'.objs.size (.lst (ns'.map V.int)),I1.laid kp (An _) ?_,Y,q _ ns' I1.fresh a2 a3⟩;refine ⟨?_,out.toList,e,hv,?_⟩
 ·rw [Ab,a2.length_eq,sizeLine_eq]; lia
 ·rw [he]
end
section
variable {X:Cx} {jh:List (m:)} {σ:St} {H:Hp} {s:Shared} {a:Addr}
def Inv.freeze (I:Inv X jh σ H s) (e:H a=some u) (mu:Mut (some u)) (ho:s.heap.get? a=some ob):Inv X jh σ (upd H a (.frz ob u)) s:=by
 have qe:∀ c y,H c=some (.own y)->c≠a:=λc y r z=>by subst z; rw [r] at e; cases e; exact mu
 have o5:∀ c xs,H c=some (.tup xs)->c≠a:=λc xs r z=>by subst z; rw [r] at e; cases e; exact mu
 have nfrz:∀ c o xs,H c=some (.frz o xs)->c≠a:=λc o xs r z=>by subst z; rw [r] at e; cases e; exact mu
 have ntbl:∀ c ps,H c=some (.tbl ps)->c≠a:=λc ps r z=>by subst z; rw [r] at e; cases e; exact mu
 have un:Un X.fs [] H (upd H a (.frz ob u)) s.heap s.heap:=⟨λ_ _ q _ _ _=>q,λ_ o q _ _ _=>⟨o.slots,q⟩,λb o q n _=>by rw [Ze (λz=>by rw [z,e] at n; cases n)]; exact n,λb o q _=>⟨o,q⟩,
  λb xs q=>by rw [Ze (o5 b xs q)]; exact q,λb o xs q=>by rw [Ze (nfrz b o xs q)]; exact q,λb ps q=>⟨#[],by rw [Ze (ntbl b ps q),q]; simp⟩⟩
 have hok:HOk X.prog X.w (upd H a (.frz ob u)) s.heap:=λb v q=>by
  have st:∀ c w',Yc X.prog X.w H s.heap c w'->Yc X.prog X.w (upd H a (.frz ob u)) s.heap c w':=λc w' x=>x.stay (λ_ _ _ q=>q) (λd r=>by rw [Ze (qe d c r)]; exact r) λd xs r=>by rw [Ze (o5 d xs r)]; exact r
  by_cases hb:b=a
  ·subst hb
   rw [Zc] at q;cases q;exact ⟨ho,st _ _ (I.hok _ _ e)⟩
  ·rw [Ze hb] at q
   exact st _ _ (I.hok b v q)
 exact I.un (h':=s.heap) (t':=s.toks) un hok
end
section
def KV.at {kvs:List (Key × V)} {vs:List (Key × Value)} (r:KV kvs vs):∀ {i:Nat} {k:Key} {v:V},kvs[i]?=some (k,v)->∃ u,vs[i]?=some (k,u)/\RelV v u:=by
 induction r with
 | nil=>intro i k v h; simp at h
 | cons r t ih =>
  intro i k v h
  cases i with
  | zero =>
   simp at h;subst h;exact ⟨_,by rw [getElem?_cons_zero]; exact congrArg some (Prod.ext r.1.symm Y),r.2⟩
  | succ i =>
   obtain ⟨u,h1,h2⟩:=ih (by simpa using h);exact ⟨u,by simpa using h1,h2⟩
def Zs2 (h:(Ye P w).is k u=true):RelV (kV k) u:=by
 cases k with
 | inl i=>obtain ⟨t,e⟩:=Value.isInt_shape (k:=i) (v:=u) h; exact ⟨t,e⟩
 | inr x=>obtain ⟨t,e⟩:=Value.isStrOf_shape (x:=x) (v:=u) h; exact ⟨t,e⟩
def J4 {X:Cx} {s:Shared} (I:Inv X jh σ H s) (e:H d=some (.frz o (.dK kvs))) :
  ∃ vs ep,KV kvs vs/\s.heap.DictAt (Ye X.prog X.w) d vs ep/\s.heap.get? d=some o:=by
 obtain ⟨ho,_,_,vs,j7,dd⟩:=I.hok d _ e;obtain ⟨ep,da⟩:=dd.dictAt;exact ⟨vs,ep,j7,da,ho⟩
noncomputable def epOf (o:Obj):Nat:=match o.data with
 | .dict _ ep=>ep
 | _=>0
def Gb {h:Heap} (da:h.DictAt (Ye P w) d vs ep) (ho:h.get? d=some o):ep=epOf o:=by
 obtain ⟨o',es,h1,_,h2,_⟩:=da;rw [ho] at h1;cases h1;unfold epOf;rw [h2]
def Zjv {P:Program} {w:World} {K:W.Frag} {tg:Expr} (d it:Addr) (kvs:List (Key × V)) (o:Obj) :
  Turn P w K tg ⟨λi H=>i < kvs.length/\H d=some (.frz o (.dK kvs)),λi H x H'=>H'=H/\∃ k,kvs[i]?=some (k,x),λi H=>kvs.length<=i/\H d=some (.frz o (.dK kvs))⟩ [it] it (λi h=>h.IsValIter it d i kvs.length (epOf o)) where
 mem:=by simp
 obj:=λi h st b hb=>by
  have e:b=it:=by simpa using hb
  subst e;obtain ⟨o,e,c,d⟩:=st;exact ⟨o,e,λv z=>by rw [d] at z; cases z⟩
 keep:=λi h h' st k=>st.at λo e=>k it (by simp) o e
 item:=by
  intro X hP hw hK hc i jh s σ H E I hf st hg;subst hP hw hK;obtain ⟨hi,hq⟩:=hg;obtain ⟨vs,ep,j7,da,ho⟩:=J4 I hq;have qz:=Gb da ho;subst qz;obtain ⟨f0,f1,f2,f3,f4,f5⟩:=hf it (by simp);obtain ⟨⟨k,v⟩,hx⟩:∃ p,kvs[i]?=some p:=⟨_,Ac hi⟩;obtain ⟨u,hu,ru⟩:=j7.at hx;have jm:vs.length=kvs.length:=j7.length.symm;rw [<- jm] at st;refine wpAny_pyNext_values_item st da hu λh' ko sb=>?_;have I1:Inv X jh σ H { s with heap:=h' }:=I.turned (t':=s.toks) (λb o hb e=>(sb.2 b hb).trans e) f0 f1 f3 f4 f5;rw [jm] at ko;obtain ⟨oi,e,c,dd⟩:=id ko;exact ⟨u,Y,Oe (s:={ s with heap:=h' }) e c dd (d:) ⟨v,H,I1,ru,⟨Y,k,hx⟩,ko,λb hb=>(hf b hb).1⟩⟩
 done:=by
  intro X hP hw hK hc i jh s σ H E I hf st hg;subst hP hw hK;obtain ⟨hi,hq⟩:=hg;obtain ⟨vs,ep,j7,da,ho⟩:=J4 I hq;have qz:=Gb da ho;subst qz;obtain ⟨f0,f1,f2,f3,f4,f5⟩:=hf it (by simp);have jm:vs.length=kvs.length:=j7.length.symm;rw [<- jm] at st;exact wpAny_pyNext_values_end (I.ok.hd hc) st da (by rw [Ay]; lia) λh' eb=>⟨rfl,I.turned (t':=s.toks) (λb o hb e=>eb b o hb e) f0 f1 f3 f4 f5⟩
 self:=λ_ _ _ _ _ st h=>wpAny_pyIter_valiter st h
end
section
variable {X:Cx} {tg:Expr} {l:Expr} {tl:TE}
noncomputable def Itv2 (d:Addr) (kvs:List (Key × V)) (o:Obj):It:=⟨λi H=>i < kvs.length/\H d=some (.frz o (.dK kvs)),λi H x H'=>H'=H/\∃ k,kvs[i]?=some (k,x),λi H=>kvs.length<=i/\H d=some (.frz o (.dK kvs))⟩
def Zod (J:Addr->List (Key × V)->Obj->It) (tl:TE):TI:=λσ H R=>tl σ H λx H1=>∃ a kvs,x=.ref a/\((H1 a=some (.dK kvs)/\∀ o,R (J a kvs o) (upd H1 a (.frz o (.dK kvs))))\/∃ o,H1 a=some (.frz o (.dK kvs))/\R (J a kvs o) H1)
def Zf6 {R:Obj->Hp->Prop} (I:Inv X jh σ H s)
  (h:(H a=some (.dK kvs)/\∀ o,R o (upd H a (.frz o (.dK kvs))))\/∃ o,H a=some (.frz o (.dK kvs))/\R o H):∃ o H',H' a=some (.frz o (.dK kvs))/\Inv X jh σ H' s/\R o H':=by
 rcases h with ⟨e,r⟩ | ⟨o,e,r⟩
 ·obtain ⟨ob,ho⟩:=(I.hok a _ e).there
  exact ⟨ob,_,Zc,I.freeze e True.intro ho,r ob⟩
 ·exact ⟨o,H,e,I,r⟩
structure M0 (X:Cx) (o:Expr) (m:Str) (jv js:Pos):Prop where
 base:attributeBase o m X.env (eval o X.env)=eval o X.env
 few:((backTo js (starEach [] X.env)).all (λx=>!x.1) && (backToKw js (keywordEach [] X.env)).all (λx=>x.1.isSome)
  && decide (([]:List Expr).length + ([]:List Keyword).length + (if ([]:List Keyword).isEmpty then 0 else 1) < 30))=true
 line:(jv.endLine == js.line)=true
def Zpg {jv js:Pos} (hl:PE X l tl) (m:M0 X l "values" jv js):PI X tg (.Call (.Attribute l "values" jv) [] [] js) (Zod Itv2 tl):=by
 intro jh s σ H R I h;refine wpAny_Call_method m.base m.few m.line PySem.F.plainAttrs_dict PySem.F.slot_dict_values PySem.F.type_dict_values (thn (hl jh s σ H _ I h) λv s1 jp=>?_);obtain ⟨x,H1,I1,r1,q1⟩:=jp;obtain ⟨a,kvs,e,q⟩:=q1;subst e;cases r1;obtain ⟨o,H2,e2,I2,q2⟩:=Zf6 (R:=λo H=>R (Itv2 a kvs o) H) I1 q;obtain ⟨vs,ep,j7,da,ho⟩:=J4 I2 e2;have qz:=Gb da ho;subst qz;obtain ⟨_,_,m9,_⟩:=I2.hok a _ e2;have isd:IsD H2 a:=.inl ⟨kvs,.inr ⟨o,e2⟩⟩;obtain ⟨t1,t2,_⟩:=Zat I2 isd;refine ⟨t1,t2,?_⟩;refine Calls.callWith_builtin Y (PyProof.Rows.evalArgs_empty ?_);refine call_meetsIn PySem.F.slot_dict_values da.dictOf.typeIs PySem.F.entry_dict_values (PySem.F.args_dict_values_1 _) (meets_dict_values (Ye X.prog X.w) a m9) ⟨⟨vs,da.dictOf⟩,?_⟩;have I3:Inv X jh σ H2 { s1 with heap:=s1.heap.push { cls:=.type "dict_values",data:=.fields #[.ref a] } }:=I2.kept (t':=s1.toks) λb o e=>Ak _ e;refine wpAny_pyIter_values ⟨_,Ap _ Y,Y,Y⟩ (da.push _) ?_;have jm:vs.length=kvs.length:=j7.length.symm;rw [jm];refine ⟨(s1.heap.push { cls:=.type "dict_values",data:=.fields #[.ref a] }).objs.size,[(s1.heap.push { cls:=.type "dict_values",data:=.fields #[.ref a] }).objs.size],_,_,H2,rfl,I3.kept (t':=s1.toks) λb o e=>Ak _ e,Zjv a _ kvs o,⟨_,Ap _ rfl,rfl,rfl⟩,λb hb=>?_,q2⟩;have e:b=(s1.heap.push { cls:=.type "dict_values",data:=.fields #[.ref a] }).objs.size:=by simpa using hb
 subst e;exact I3.fpOk (An _) (I3.hok.fresh (An _))
end
section
noncomputable def Ite (K:W.Frag) (a:Addr):It :=
 ⟨λi H=>∃ xs x,SqL K H a xs/\xs[i]?=some x,λi H x H'=>∃ q y,H q=none/\x=.ref q/\(∀ xs,SqL K H a xs->xs[i]?=some y)/\H'=upd H q (.tup [.int i,y]),λi H=>∃ xs,SqL K H a xs/\xs.length<=i⟩
def Zjx {P:Program} {w:World} {K:W.Frag} {md:List Expr} {x1:Nat} {pos:Pos} (a e it:Addr) (j9:e≠it):Turn P w K (.Tuple md x1 pos) (Ite K a) [e,it] e (λi h=>(∃ lf,IsEnum h e it i lf)/\h.IsListIter it a i) where
 mem:=by simp
 obj:=λi h st b hb=>by
  obtain ⟨⟨lf,h1⟩,o,h2,c,d⟩:=st
  rcases Ar hb with z | z
  ·subst z
   exact ⟨_,h1,λv z=>by
    have z':Data.fields _=Data.cell v:=z
    cases z'⟩
  ·have z:b=it:=by simpa using z
   subst z;exact ⟨o,h2,λv z=>by rw [d] at z; cases z⟩
 keep:=λi h h' st k=>⟨let ⟨lf,h1⟩:=st.1; ⟨lf,k e (by simp) _ h1⟩,st.2.at λo q=>k it (by simp) o q⟩
 item:=by
  intro X hP hw hK hc i jh s σ H E I hf st hg;subst hP hw hK;obtain ⟨xs,x,hq,hx⟩:=hg;obtain ⟨its,rv,p,hz⟩:=I.list hq;obtain ⟨u,hu,ru⟩:=rv.get hx;obtain ⟨f0,f1,f2,f3,f4,f5⟩:=hf e (by simp);obtain ⟨g0,g1,g2,g3,g4,g5⟩:=hf it (by simp);obtain ⟨⟨lf,he⟩,mw⟩:=st;refine wpAny_pyNext_enum_item he mw p.isList (x:=u) (by simpa using hu) j9 λh' qw hit' ht' hsz' kk=>?_;have eo:=Ao he;have io:it < s.heap.objs.size:=let ⟨o,q,_⟩:=mw; Ao q
  refine ⟨.ref s.heap.objs.size,Y,wpAny_letOwnedTupleGo_enum qw λql he'' sb=>?_⟩;have j8:∀ b o,b≠e->b≠it->s.heap.get? b=some o->ql.get? b=some o:=λb o h1 h2 q=>(sb.2 b h1).trans (kk b o h1 h2 q);have rc:ql.get? s.heap.objs.size=some { cls:=.type "tuple",data:=.seq #[.int i s.toks,u] }:=(sb.2 _ (Nat.ne_of_gt eo)).trans ht';have hn:H s.heap.objs.size=none:=I.hok.fresh (An _)
  have I2:Inv X jh σ (upd H s.heap.objs.size (.tup [.int i,x])) { s with heap:=ql,toks:=s.toks + 1 }:=by
   refine I.step (g':=s.gens) (d':=s.drawn) (ch:=[e,it]) (λb hb=>?_) (λb o _ _ hc q _=>j8 b o (λz=>hc (by simp [z])) (λz=>hc (by simp [z])) q) (λb o _ _ hc q _=>⟨o.slots,j8 b o (λz=>hc (by simp [z])) (λz=>hc (by simp [z])) q⟩) (λb o _ q n=>by rw [Ze (As (Ao q))]; exact n)
    (λb o hc q=>⟨o,j8 b o (λz=>hc (by simp [z])) (λz=>hc (by simp [z])) q⟩) (λb ys q=>by rw [Ze (Zl q hn)]; exact q) (λb o ys q=>by rw [Ze (Zl q hn)]; exact q) (λb ps q=>⟨#[],by rw [Ze (Zl q hn),q]; simp⟩) (λm hm=>?_) (λb v q=>?_) I.bare
   ·rcases Ar hb with z | z
    ·subst z; exact ⟨f3,f1,f4,f5⟩
    ·have z:b=it:=by simpa using z
     subst z; exact ⟨g3,g1,g4,g5⟩
   ·obtain ⟨o,es,ep,ho,r⟩:=hm
    exact ⟨o,es,ep,j8 _ o (Ne.symm f1) (Ne.symm g1) ho,r⟩
   ·by_cases hb:b=s.heap.objs.size
    ·subst hb
     rw [Zc] at q;cases q;exact ⟨by show 2<=sizeLine; decide,[.int i s.toks,u],.cons ⟨_,rfl⟩ (.cons ru .nil),⟨_,rc,rfl,_,rfl⟩⟩
    ·rw [Ze hb] at q
     refine (I.hok b v q).stay (λc w' hc z=>j8 c w' ?_ ?_ z) (λd z=>by rw [Ze (Zl z hn)]; exact z) λd ys z=>by rw [Ze (Zl z hn)]; exact z
     ·rintro rfl
      rcases hc with z | z
      ·rw [z,q] at f0; cases f0
      ·rw [f0] at z; cases z
     ·rintro rfl
      rcases hc with z | z
      ·rw [z,q] at g0; cases g0
      ·rw [g0] at z; cases z
  refine ⟨.ref s.heap.objs.size,_,I2,Y,⟨_,x,hn,Y,λys hy=>by rw [I.list_inj hy hq]; exact hx,Y⟩,⟨⟨u,he''⟩,hit'.at λo q=>(sb.2 it (Ne.symm j9)).trans q⟩,λb hb=>?_⟩
  rcases Ar hb with z | z
  ·subst z; rw [Ze (As eo)]; exact f0
  ·have z:b=it:=by simpa using z
   subst z; rw [Ze (As io)]; exact g0
 done:=by
  intro X hP hw hK hc i jh s σ H E I hf st hg;subst hP hw hK;obtain ⟨xs,hq,hx⟩:=hg;obtain ⟨its,rv,p,hz⟩:=I.list hq;obtain ⟨g0,g1,g2,g3,g4,g5⟩:=hf it (by simp);obtain ⟨⟨lf,he⟩,mw⟩:=st;have hl:=rv.length;exact wpAny_pyNext_enum_end (I.ok.hd hc) he mw p.isList (by simp; lia) λh' eb=>⟨rfl,I.turned (t':=s.toks) (λb o hb e=>eb b o hb e) g0 g1 g3 g4 g5⟩
 self:=λ_ _ _ _ _ st h=>by
  obtain ⟨⟨lf,he⟩,_⟩:=st;exact wpAny_pyIter_enum he h
variable {X:Cx}
def Zta (K:W.Frag) (ta:TA):TI:=λσ H R=>ta σ H λvs H1=>∃ a,vs=[.ref a]/\(∃ xs,SqL K H1 a xs)/\R (Ite K a) H1
def Zpi {md:List Expr} {x1:Nat} {m6 p pos:Pos} {l:Expr} {ta:TA} (hg:Gl X "enumerate") (hm:X.mg "enumerate"=none) (ha:PA X [l] ta) (hs:starEach [l] X.env=[(false,eval l X.env)]:=by rfl):PI X (.Tuple md x1 m6) (.Call (.Name "enumerate" p) [l] [] pos) (Zta X.K ta):=by
 intro jh s σ H R I h;refine Call_ (Xl I hg hm boot_enumerate (PyProof.Rows.callWith_type1 (thn (ha pos jh s σ H _ I h) λus s1 zz34=>?_) hs Y));obtain ⟨vs,H1,I1,r1,q1⟩:=zz34;obtain ⟨a,e,⟨xs,hq⟩,q⟩:=q1;subst e;obtain ⟨u,rfl,ru⟩:=Xm r1;cases ru;obtain ⟨its,rv,pl,hz⟩:=I1.list hq;refine call_enumerate_list pl.isList λh' he mw hsz hk=>wpAny_pyIter_enum he ?_;have I2:Inv X jh σ H1 { s1 with heap:=h' }:=I1.kept (t':=s1.toks) hk;refine ⟨s1.heap.objs.size + 1,[s1.heap.objs.size + 1,s1.heap.objs.size],_,_,H1,Y,I2,Zjx a _ _ (succ_ne_self _),⟨⟨.none,he⟩,mw⟩,λb hb=>?_,q⟩
 rcases Ar hb with z | z
 ·subst z; exact I1.fpOk (le_succ _) (I1.hok.fresh (le_succ _))
 ·have z:b=s1.heap.objs.size:=by simpa using z
  subst z; exact I1.fpOk (An _) (I1.hok.fresh (An _))
def Znl {K:W.Frag} {a:Addr} {xs:List V} {g:TG} {tb:TS} {D:Ends} {σ:St} {H:Hp} (Pv:Nat->St->Hp->Prop) (h0:Pv 0 σ H) (hl:∀ i σ H,i<=xs.length->Pv i σ H->SqL K H a xs)
  (hs:∀ i x σ H q,xs[i]?=some x->H q=none->Pv i σ H->g (.ref q) σ (upd H q (.tup [.int i,x])) λσ2 H2=>tb { D with nx:=Pv (i + 1),ct:=Pv (i + 1),bk:=D.nx } σ2 H2) (hd:∀ σ H,Pv xs.length σ H->D.nx σ H) :
  ∃ W:Nat->Nat->St->Hp->Prop,(∃ m,W 0 m σ H)/\∀ i m σ H,W i m σ H ->
   ((Ite K a).stop i H/\D.nx σ H)\/((Ite K a).go i H/\∃ N:St->Hp->Prop,(u:)/\∀ x H',(Ite K a).yld i H x H'->g x σ H' λσ2 H2=>tb { D with nx:=N,ct:=N,bk:=D.nx } σ2 H2):=by
 refine (l:);rintro i m σ H ⟨rfl,hi,p⟩;have q:=hl i σ H hi p;by_cases jw:i < xs.length
 ·refine .inr ⟨⟨xs,xs[i],q,by simp [jw]⟩,Pv (i + 1),λσ' H' p'=>⟨xs.length - (i + 1),by lia,Y,jw,p'⟩,λx H' y=>?_⟩
  obtain ⟨c,z,hn,e1,e2,e3⟩:=y;subst e1 e3;exact hs i z σ H c (e2 xs q) hn p
 ·have e:i=xs.length:=by lia
  subst e;exact .inl ⟨⟨xs,q,An _⟩,hd σ H p⟩
def Znk {kvs:List (Key × V)} {g:TG} {tb:TS} {D:Ends} (Pv:Nat->St->Hp->Prop) (h0:Pv 0 σ H) (hl:∀ i σ H,i<=kvs.length->Pv i σ H->H d=some (.frz o (.dK kvs)))
  (hs:∀ i k x σ H,kvs[i]?=some (k,x)->Pv i σ H->g x σ H λσ2 H2=>tb { D with nx:=Pv (i + 1),ct:=Pv (i + 1),bk:=D.nx } σ2 H2) (hd:∀ σ H,Pv kvs.length σ H->D.nx σ H) :
  ∃ W:Nat->Nat->St->Hp->Prop,(∃ m,W 0 m σ H)/\∀ i m σ H,W i m σ H ->
   ((Itv2 d kvs o).stop i H/\D.nx σ H)\/((Itv2 d kvs o).go i H/\∃ N:St->Hp->Prop,(u:)/\∀ x H',(Itv2 d kvs o).yld i H x H'->g x σ H' λσ2 H2=>tb { D with nx:=N,ct:=N,bk:=D.nx } σ2 H2):=by
 refine ⟨λi m σ H=>m=kvs.length - i/\i<=kvs.length/\Pv i σ H,⟨kvs.length,by simp,Az _,h0⟩,?_⟩;rintro i m σ H ⟨rfl,hi,p⟩;have q:=hl i σ H hi p;by_cases jw:i < kvs.length
 ·refine .inr ⟨⟨jw,q⟩,Pv (i + 1),λσ' H' p'=>⟨kvs.length - (i + 1),by lia,Y,jw,p'⟩,λx H' y=>?_⟩
  obtain ⟨e,k,y⟩:=y;subst e;exact hs i k x σ _ y p
 ·have e:i=kvs.length:=by lia
  subst e;exact .inl ⟨⟨An _,q⟩,hd σ H p⟩
def Zop (ta:TA):TE:=λσ H Q=>ta σ H λvs H1=>∃ n:Nat,vs=[.int n]/\n<=1000/\∀ p,H1 p=none->Q (.ref p) (upd H1 p (.lst ((List.range n).map λ(i:Nat)=>V.int i)))
def Kr {p1 p2:Pos} (hgl:Gl X "list") (hml:X.mg "list"=none) (hg:Gl X "range") (hm:X.mg "range"=none) (hc:X.calm=true) (ha:PA X [a] ta) (hs:starEach [a] X.env=[(false,eval a X.env)]:=by rfl)
  (nj:starEach [.Call (.Name "range" p2) [a] [] n5] X.env=[(false,eval (.Call (.Name "range" p2) [a] [] n5) X.env)]:=by rfl):PE X (.Call (.Name "list" p1) [.Call (.Name "range" p2) [a] [] n5] [] pos) (Zop ta):=by
 intro jh s σ H Q I h;refine Call_ (Xl I hgl hml PySem.Pv.boot_list (PyProof.Rows.callWith_type1 ?_ nj Y));rw [nj];refine Calls.spliced_cons ?_;refine Call_ (Xl I hg hm boot_range (PyProof.Rows.callWith_type1 (thn (ha n5 jh s σ H _ I h) λus s1 zz35=>?_) hs Y));obtain ⟨vs,H1,I1,r1,q1⟩:=zz35;obtain ⟨n,e,hn,q⟩:=q1;subst e;obtain ⟨u,rfl,ru⟩:=Xm r1;obtain ⟨t,rfl⟩:=ru;refine call_range_1 (Calls.spliced_nil ?_);have hr:Builtin.Range.rangeSize 0 (n:Int) 1=n:=by rw [rangeSize_one]; split <;> lia
 refine call_list_range (I.ok.hd hc) (IsRange.new ..) (small_one (by lia) (by lia) (by lia) (by lia)) hr (by lia) λh' tk jq c' hk hS rh=>?_;have hk1:∀ b o,s1.heap.get? b=some o->h'.get? b=some o:=λb o e=>hk b o (Ak _ e)
 have hv:Vals ((List.range n).map λ(i:Nat)=>V.int i) jq.toList:=by
  have gen:∀ (l:List Value) (k:Nat),(∀ (j:Nat) (v:Value),l[j]?=some v->∃ t,v=.int ((k + j:Nat):Int) t)->Vals ((List.range' k l.length).map λ(i:Nat)=>V.int i) l:=by
   intro l
   induction l with
   | nil=>intro k _; exact .nil
   | cons v r ih =>
    intro k h;obtain ⟨t,e⟩:=h 0 v rfl;rw [length_cons,range'_succ,map_cons];refine .cons ⟨t,by rw [e]; rfl⟩ (ih (k + 1) λj w hw=>?_);obtain ⟨t',e'⟩:=h (j + 1) w (by simpa using hw);exact ⟨t',by rw [e']; congr 1; lia⟩
  have hl:jq.toList.length=n:=by rw [Array.length_toList]; exact rh.1
  have:=gen jq.toList 0 λj v hj=>by
   obtain ⟨t,e⟩:=rh.2 j v (by rw [<- Array.getElem?_toList]; exact hj);exact ⟨t,by rw [e]; congr 1; lia⟩
  rw [hl,<- range_eq_range'] at this;exact this
 have z8:s1.heap.objs.size<=(s1.heap.push { cls:=.type "range",data:=.fields #[.int 0 s1.toks,.int (n:Int) t,.int 1 (s1.toks + 1)] }).objs.size:=by rw [Heap.size_push]; exact le_succ _
 refine ⟨.ref _,upd H1 _ (.lst ((List.range n).map λ(i:Nat)=>V.int i)),I1.laid hk1 (Nat.le_of_lt (by first | exact Nat.lt_of_le_of_lt z8 (Ao hS) | (rw [Heap.size_push]; exact lt_succ_self _))) ⟨?_,jq.toList,c',hv,?_⟩,Y,q _ (I1.hok.fresh ?_)⟩
 ·rw [Ab,length_range,sizeLine_eq]; lia
 ·simpa using hS
 ·rw [Heap.size_push]; exact le_succ _
end
abbrev TJ:=Str->TE
def PJ (X:Cx) (es:List Expr) (t:TJ):Prop :=
 ∀ (out:Str) (jh:List (m:)) (s:Shared) (σ:St) (H:Hp) (Q:VK),Inv X jh σ H s->t out σ H Q->wpAny (c:) X.A (joinParts out (evalEach es X.env)) (EP X jh σ Q) X.xe s
section
variable {X:Cx} {es:List Expr} {t:TJ} {pos:Pos}
def jNil:TJ:=λout _ H Q=>out.length<=sizeLine/\Q (.str out) H
def Zrc:PJ X [] jNil:=λout jh s σ H Q I h=>joinParts_nil (⟨.str out,H,I.tok _,⟨_,rfl⟩,h.2⟩) h.1
def jTxt (x:Str) (t:TJ):TJ:=λout σ H Q=>(out ++ x).length<=sizeLine/\t (out ++ x) σ H Q
def Zra {x:Str} {k:Nat} (h:PJ X es t):PJ X (.Constant (.str x) k pos :: es) (jTxt x t):=by
 intro out jh s σ H Q I hq;refine joinParts_cons (Calls.Constant_str ?_);exact ⟨hq.1,h _ jh _ σ H Q (I.tok _) hq.2⟩
def jInt (te:TE) (t:TJ):TJ:=λout σ H Q=>te σ H λv H1=>∃ i:Int,v=.int i/\i.natAbs.log2 < 1920/\(out ++ (toString i:Str)).length<=sizeLine/\t (out ++ (toString i:Str)) σ H1 Q
def Zrd {e:Expr} {te:TE} (he:PE X e te) (h:PJ X es t):PJ X (.FormattedValue e (-1) none pos :: es) (jInt te t):=by
 intro out jh s σ H Q I hq;refine joinParts_cons (FormattedValue_plain (thn (he jh s σ H _ I hq) λu s1 jp=>?_));obtain ⟨v,H1,I1,r1,i,ev,hl,hz,q⟩:=jp;subst ev;obtain ⟨tk,rfl⟩:=r1;exact formatField_int_small hl ⟨hz,h _ jh _ σ H1 Q (I1.tok _) q⟩
def Zpj {v₁ v₂:Expr} {jk:List Expr} (h:PJ X (v₁ :: v₂ :: jk) t):PE X (.JoinedStr (v₁ :: v₂ :: jk) pos) (t Str.empty):=λjh s σ H Q I hq=>JoinedStr_many (h Str.empty jh s σ H Q I hq)
end
section
variable {X:Cx}
def J1 (K:W.Frag) (h:X.K=K:=by rfl):IxR X (rIxL K):=h ▸ Z4
def Zb1 (K:W.Frag) (h:X.K=K:=by rfl):Y2 X (.type "tuple") (λxs H Q=>∃ p ys,xs=[.ref p]/\((SqL K H p ys/\∀ l,H l=none->Q (.ref l) (upd H l (.tup ys)))\/(SqT K H p ys/\Q (.ref p) H))):=h ▸ Zdp
variable {tg l e:Expr} {tl ta:TE} {f:Str} {pos:Pos}
def Zbp (K:W.Frag) (hl:PE X l tl) (h:X.K=K:=by rfl):PI X tg l (iTup K tl):=h ▸ Zre hl
end
def Zoi (w:World) (K:W.Frag) (a:Addr) (kvs:List (Key × V)):Prop :=
 ∃ o es ep vs,K.lookup a=some o/\o.ExactDict/\o.data=.dict es ep/\(∀ e∈es,∃ k,Oc k e.key=true/\e.hash=keyH w k)/\(∀ P:Program,Pairs (Ye P w) es.toList vs)/\(vs.map (·.1)).Nodup/\KV kvs vs/\(a == sysModules)=false
section
noncomputable def Itm2 (d:Addr) (kvs:List (Key × V)) (o:Obj):It :=
 ⟨λi H=>i < kvs.length/\H d=some (.frz o (.dK kvs)),λi H x H'=>∃ q k v,H q=none/\x=.ref q/\kvs[i]?=some (k,v)/\H'=upd H q (.tup [kV k,v]),λi H=>kvs.length<=i/\H d=some (.frz o (.dK kvs))⟩
def Zif {P:Program} {w:World} {K:W.Frag} {md:List Expr} {x1:Nat} {pos:Pos} (d it:Addr) (kvs:List (Key × V)) (o:Obj) :
  Turn P w K (.Tuple md x1 pos) (Itm2 d kvs o) [it] it (λi h=>∃ a b,IsItemIter h it d i kvs.length (epOf o) a b) where
 mem:=by simp
 obj:=λi h st b hb=>by
  have e:b=it:=by simpa using hb
  subst e;obtain ⟨a,c,z⟩:=st;exact ⟨_,z,λv y=>by
   have y':Data.fields _=Data.cell v:=y
   cases y'⟩
 keep:=λi h h' st k=>by
  obtain ⟨a,c,z⟩:=st;exact ⟨a,c,k it (by simp) _ z⟩
 item:=by
  intro X hP hw hK hc i jh s σ H E I hf st hg;subst hP hw hK;obtain ⟨hi,hq⟩:=hg;obtain ⟨vs,ep,j7,da,ho⟩:=J4 I hq;have qz:=Gb da ho;subst qz;obtain ⟨f0,f1,f2,f3,f4,f5⟩:=hf it (by simp);obtain ⟨⟨k,v⟩,hx⟩:∃ p,kvs[i]?=some p:=⟨_,Ac hi⟩;obtain ⟨u,hu,ru⟩:=j7.at hx;have jm:vs.length=kvs.length:=j7.length.symm;obtain ⟨a0,b0,st⟩:=st;rw [<- jm] at st;have itlt:=Ao st;refine wpAny_pyNext_items_item st da hu λkey h' hk ko ht hsz kk=>?_;rw [jm] at ko;refine ⟨.ref s.heap.objs.size,Y,wpAny_letOwnedTupleGo_items ko λql st'' sb=>?_⟩;have j8:∀ b z,b≠it->s.heap.get? b=some z->ql.get? b=some z:=λb z hb e=>(sb.2 b hb).trans (kk b z hb e);have rc:ql.get? s.heap.objs.size=some { cls:=.type "tuple",data:=.seq #[key,u] }:=(sb.2 _ (Nat.ne_of_gt itlt)).trans ht;have hn:H s.heap.objs.size=none:=I.hok.fresh (An _)
  have I2:Inv X jh σ (upd H s.heap.objs.size (.tup [kV k,v])) { s with heap:=ql }:=by
   refine I.step (g':=s.gens) (d':=s.drawn) (ch:=[it]) (λb hb=>?_) (λb o _ _ hc q _=>j8 b o (λz=>hc (by simp [z])) q) (λb o _ _ hc q _=>⟨o.slots,j8 b o (λz=>hc (by simp [z])) q⟩) (λb o _ q n=>by rw [Ze (As (Ao q))]; exact n)
    (λb o hc q=>⟨o,j8 b o (λz=>hc (by simp [z])) q⟩) (λb ys q=>by rw [Ze (Zl q hn)]; exact q) (λb o ys q=>by rw [Ze (Zl q hn)]; exact q) (λb ps q=>⟨#[],by rw [Ze (Zl q hn),q]; simp⟩) (λm hm=>?_) (λb v' q=>?_) I.bare
   ·have z:b=it:=by simpa using hb
    subst z; exact ⟨f3,f1,f4,f5⟩
   ·obtain ⟨o,es,ep,ho,r⟩:=hm
    exact ⟨o,es,ep,j8 _ o (Ne.symm f1) ho,r⟩
   ·by_cases hb:b=s.heap.objs.size
    ·subst hb
     rw [Zc] at q;cases q;exact ⟨by show 2<=sizeLine; decide,[key,u],.cons (Zs2 hk) (.cons ru .nil),⟨_,rc,rfl,_,rfl⟩⟩
    ·rw [Ze hb] at q
     refine (I.hok b v' q).stay (λc w' hc z=>j8 c w' ?_ z) (λd z=>by rw [Ze (Zl z hn)]; exact z) λd ys z=>by rw [Ze (Zl z hn)]; exact z
     rintro rfl
     rcases hc with z | z
     ·rw [z,q] at f0; cases f0
     ·rw [f0] at z; cases z
  refine ⟨.ref s.heap.objs.size,_,I2,Y,⟨_,k,v,hn,Y,hx,Y⟩,⟨_,_,st''⟩,λb hb=>?_⟩;have z:b=it:=by simpa using hb
  subst z; rw [Ze (As itlt)]; exact f0
 done:=by
  intro X hP hw hK hc i jh s σ H E I hf st hg;subst hP hw hK;obtain ⟨hi,hq⟩:=hg;obtain ⟨vs,ep,j7,da,ho⟩:=J4 I hq;have qz:=Gb da ho;subst qz;obtain ⟨f0,f1,f2,f3,f4,f5⟩:=hf it (by simp);have jm:vs.length=kvs.length:=j7.length.symm;obtain ⟨a0,b0,st⟩:=st;rw [<- jm] at st;exact wpAny_pyNext_items_end (I.ok.hd hc) st da (by rw [Ay]; lia) λh' eb=>⟨rfl,I.turned (t':=s.toks) (λb o hb e=>eb b o hb e) f0 f1 f3 f4 f5⟩
 self:=λ_ _ _ _ _ st h=>by
  obtain ⟨a,b,st⟩:=st;exact PySem.W.kcp_self st h
variable {X:Cx} {l:Expr} {tl:TE}
def Fc {md:List Expr} {x1:Nat} {m6 jv js:Pos} (hl:PE X l tl) (m:M0 X l "items" jv js):PI X (.Tuple md x1 m6) (.Call (.Attribute l "items" jv) [] [] js) (Zod Itm2 tl):=by
 intro jh s σ H R I h;refine wpAny_Call_method m.base m.few m.line PySem.F.plainAttrs_dict PySem.F.slot_dict_items PySem.F.type_dict_items (thn (hl jh s σ H _ I h) λv s1 jp=>?_);obtain ⟨x,H1,I1,r1,q1⟩:=jp;obtain ⟨a,kvs,e,q⟩:=q1;subst e;cases r1;obtain ⟨o,H2,e2,I2,q2⟩:=Zf6 (R:=λo H=>R (Itm2 a kvs o) H) I1 q;obtain ⟨vs,ep,j7,da,ho⟩:=J4 I2 e2;have qz:=Gb da ho;subst qz;obtain ⟨_,_,m9,_⟩:=I2.hok a _ e2;have isd:IsD H2 a:=.inl ⟨kvs,.inr ⟨o,e2⟩⟩;obtain ⟨t1,t2,_⟩:=Zat I2 isd;refine ⟨t1,t2,?_⟩;refine Calls.callWith_builtin Y (PyProof.Rows.evalArgs_empty ?_);refine call_meetsIn PySem.F.slot_dict_items da.dictOf.typeIs PySem.F.entry_dict_items (PySem.F.args_dict_items_1 _) (meets_dict_items (Ye X.prog X.w) a m9) ⟨⟨vs,da.dictOf⟩,?_⟩;have I3:Inv X jh σ H2 { s1 with heap:=s1.heap.push { cls:=.type "dict_items",data:=.fields #[.ref a] } }:=I2.kept (t':=s1.toks) λb o e=>Ak _ e;refine wpAny_pyIter_items ⟨_,Ap _ Y,Y,Y⟩ (da.push _) ?_;have jm:vs.length=kvs.length:=j7.length.symm;rw [jm];refine ⟨(s1.heap.push { cls:=.type "dict_items",data:=.fields #[.ref a] }).objs.size,[(s1.heap.push { cls:=.type "dict_items",data:=.fields #[.ref a] }).objs.size],_,_,H2,rfl,I3.kept (t':=s1.toks) λb o e=>Ak _ e,Zif a _ kvs o,⟨_,_,Ap _ rfl⟩,λb hb=>?_,q2⟩;have e:b=(s1.heap.push { cls:=.type "dict_items",data:=.fields #[.ref a] }).objs.size:=by simpa using hb
 subst e;exact I3.fpOk (An _) (I3.hok.fresh (An _))
def Zlh {kvs:List (Key × V)} {g:TG} {tb:TS} {D:Ends} (Pv:Nat->St->Hp->Prop) (h0:Pv 0 σ H) (hl:∀ i σ H,i<=kvs.length->Pv i σ H->H d=some (.frz o (.dK kvs)))
  (hs:∀ i k x σ H q,kvs[i]?=some (k,x)->H q=none->Pv i σ H->g (.ref q) σ (upd H q (.tup [kV k,x])) λσ2 H2=>tb { D with nx:=Pv (i + 1),ct:=Pv (i + 1),bk:=D.nx } σ2 H2) (hd:∀ σ H,Pv kvs.length σ H->D.nx σ H) :
  ∃ W:Nat->Nat->St->Hp->Prop,(∃ m,W 0 m σ H)/\∀ i m σ H,W i m σ H ->
   ((Itm2 d kvs o).stop i H/\D.nx σ H)\/((Itm2 d kvs o).go i H/\∃ N:St->Hp->Prop,(u:)/\∀ x H',(Itm2 d kvs o).yld i H x H'->g x σ H' λσ2 H2=>tb { D with nx:=N,ct:=N,bk:=D.nx } σ2 H2):=by
 refine ⟨λi m σ H=>m=kvs.length - i/\i<=kvs.length/\Pv i σ H,⟨kvs.length,by simp,Az _,h0⟩,?_⟩;rintro i m σ H ⟨rfl,hi,p⟩;have q:=hl i σ H hi p;by_cases jw:i < kvs.length
 ·refine .inr ⟨⟨jw,q⟩,Pv (i + 1),λσ' H' p'=>⟨kvs.length - (i + 1),by lia,Y,jw,p'⟩,λx H' y=>?_⟩
  obtain ⟨c,k,v,hn,e1,y,e2⟩:=y;subst e1 e2;exact hs i k v σ H c y hn p
 ·have e:i=kvs.length:=by lia
  subst e;exact .inl ⟨⟨An _,q⟩,hd σ H p⟩
end
section
noncomputable def Itr3 (lo st:Int) (n:Nat):It:=⟨λi _=>i < n,λi H x H'=>H'=H/\x=.int (lo + i * st),λi _=>n<=i⟩
def Zgl {P:Program} {w:World} {K:W.Frag} {tg:Expr} (it:Addr) (lo st:Int) (n:Nat):Turn P w K tg (Itr3 lo st n) [it] it (λi h=>IsRangeIter h it (lo + (i:Nat) * st) ((n:Int) - (i:Nat)) st) where
 mem:=by simp
 obj:=λi h st b hb=>by
  have e:b=it:=by simpa using hb
  subst e;exact ⟨_,st,λv z=>by
   have z':Data.fields _=Data.cell v:=z
   cases z'⟩
 keep:=λi h h' st k=>k it (by simp) _ st
 item:=by
  intro X hP hw hK hc i jh s σ H E I hf ko hg;subst hP hw hK;obtain ⟨f0,f1,f2,f3,f4,f5⟩:=hf it (by simp);have W:=Walks.range (prog:=X.prog) (w:=X.w) (I.ok.hd hc) it lo st n;refine W.item i s _ _ hg ko λv h' tk hv kn kk=>?_;obtain ⟨t,rfl⟩:=hv;have I1:Inv X jh σ H { s with heap:=h',toks:=tk }:=I.turned (λb o hb e=>kk b o (by simpa using hb) e) f0 f1 f3 f4 f5;exact ⟨_,Y,Oe (s:={ s with heap:=h',toks:=tk }) (n:="range_iterator") kn rfl rfl (d:) ⟨.int (lo + i * st),H,I1,⟨t,rfl⟩,⟨rfl,rfl⟩,kn,λb hb=>(hf b hb).1⟩⟩
 done:=by
  intro X hP hw hK hc i jh s σ H E I hf ko hg;subst hP hw hK;obtain ⟨f0,f1,f2,f3,f4,f5⟩:=hf it (by simp);exact wpAny_pyNext_range_end (I.ok.hd hc) ko (by have:n<=i:=hg; lia) λh' eb=>⟨rfl,I.turned (t':=s.toks) (λb o hb e=>eb b o hb e) f0 f1 f3 f4 f5⟩
 self:=λ_ _ _ _ _ st h=>wpAny_pyIter_rangeiter st h
end
def kdict_mk2 {w:World} {K:W.Frag} {a:Addr} {h1 h2:Int} {t1 t2 t3 t4:Tok} {ep:Nat} {x1 y1 x2 y2:Str}
  (l:K.lookup a=some ⟨.type "dict",none,.dict #[⟨h1,.str x1 t1,.str y1 t2⟩,⟨h2,.str x2 t3,.str y2 t4⟩] ep,#[]⟩) (e1:h1=hashStr w x1) (e2:h2=hashStr w x2) (ne:x1≠x2) (sy:(a == sysModules)=false) :
  Zoi w K a [(Sum.inr x1,.str y1),(Sum.inr x2,.str y2)]:=by
 refine ⟨_,_,_,[(Sum.inr x1,.str y1 t2),(Sum.inr x2,.str y2 t4)],l,⟨Y,Y,Y⟩,Y,λe he=>?_,λP=>?_,?_,?_,sy⟩
 ·have he:e=⟨h1,.str x1 t1,.str y1 t2⟩\/e=⟨h2,.str x2 t3,.str y2 t4⟩:=by simpa using he
  rcases he with rfl | rfl
  ·exact ⟨Sum.inr x1,Qj x1 t1,e1⟩
  ·exact ⟨Sum.inr x2,Qj x2 t3,e2⟩
 ·exact .cons (Qj x1 t1) Y (.cons (Qj x2 t3) Y .nil)
 ·refine nodup_cons.mpr ⟨?_,by simp⟩
  simp [ne]
 ·exact .cons ⟨Y,⟨_,Y⟩⟩ (.cons ⟨Y,⟨_,Y⟩⟩ .nil)
section
variable {X:Cx}
def rEqL (K:W.Frag):R2:=λx y H Q=>∃ a b ns ms,x=.ref a/\y=.ref b/\SqL K H a (List.map V.int ns)/\SqL K H b (List.map V.int ms)/\Q (.bl (decide (ns=ms))) H
def rNeL (K:W.Frag):R2:=λx y H Q=>∃ a b ns ms,x=.ref a/\y=.ref b/\SqL K H a (List.map V.int ns)/\SqL K H b (List.map V.int ms)/\Q (.bl (!decide (ns=ms))) H
def Zrl (hu:X.A.units + 64 < cLine):OpR X (compareOp .Eq) (rEqL X.K):=by
 intro jh s σ H x y v u Q I rx ry h;obtain ⟨a,b,ns,ms,rfl,rfl,ha,hb,q⟩:=h;cases rx;cases ry;obtain ⟨ia,ra,pa,_⟩:=I.list ha;obtain ⟨ib,rb,pb,_⟩:=I.list hb;exact PySem.W.eq_intsK pa.isList (Wt ra) pb.isList (Wt rb) hu ⟨.bl _,H,I,Y,q⟩
def Zks (hu:X.A.units + 64 < cLine):OpR X (compareOp .NotEq) (rNeL X.K):=by
 intro jh s σ H x y v u Q I rx ry h;obtain ⟨a,b,ns,ms,rfl,rfl,ha,hb,q⟩:=h;cases rx;cases ry;obtain ⟨ia,ra,pa,_⟩:=I.list ha;obtain ⟨ib,rb,pb,_⟩:=I.list hb;exact PySem.W.ne_intsK pa.isList (Wt ra) pb.isList (Wt rb) hu ⟨.bl _,H,I,Y,q⟩
def Zly (bs:List Bool):((List.range bs.length).all λi=>bs.getD i true)=bs.all id:=by
 rw [Bool.eq_iff_iff,all_eq_true,all_eq_true];constructor
 ·intro h b hb
  obtain ⟨i,hi,rfl⟩:=mem_iff_getElem.mp hb;have:=h i (mem_range.mpr hi);rw [Ad,Ac hi] at this;exact this
 ·intro h i hi
  have hi:=mem_range.mp hi;rw [Ad,Ac hi];exact h _ (getElem_mem hi)
def Ft (hc:X.calm=true):Y2 X (.builtin "all") (λxs H Q=>∃ p bs,xs=[.ref p]/\SqL X.K H p (List.map V.bl bs)/\Q (.bl (bs.all id)) H):=by
 intro jh s σ H xs us Q I r h;obtain ⟨p,bs,rfl,hq,q⟩:=h;obtain ⟨u,rfl,ru⟩:=Xm r;cases ru;obtain ⟨its,rv,pl,hz⟩:=I.list hq;have ne:p≠s.heap.objs.size:=by obtain ⟨o,ho,_⟩:=pl.isList; exact As (Ao ho)
 refine call_all_walk (wpAny_pyIter_list pl.isList ⟨s.heap.objs.size,_,_,_,_,_,λi=>bs.getD i true,Y,Walks.list (A:=X.A.in1) (show X.A.in1.handled=none from I.ok.hd hc) s.heap.objs.size p ne its.toArray,⟨⟨_,Ap _ Y,Y,Y⟩,pl.isList.push _⟩,?_,?_⟩)
 ·intro i v s' Q' E' hv ll
  have hv:its[i]?=some v:=by simpa using hv
  have jm:=rv.length;rw [Ab] at jm;have hi:i < bs.length:=by have:=(Aa hv).1; lia
  obtain ⟨u,hu,ru⟩:=rv.get (show (bs.map V.bl)[i]?=some (V.bl bs[i]) by rw [Ah,Ac hi]; rfl);rw [hv] at hu;cases hu;cases ru;have e:bs.getD i true=bs[i]:=by rw [Ad,Ac hi]; rfl
  refine wpAny_truthy_bool ?_;have ll:Q' (bs.getD i true) s':=ll;rw [e] at ll;exact ll
 ·intro h' tk hk
  have I1:Inv X jh σ H { s with heap:=h',toks:=tk }:=I.kept λb o e=>hk b o (λz=>absurd (Ao e) (by rw [Af z]; exact Nat.lt_irrefl _)) (Ak _ e);have jm:its.toArray.size=bs.length:=by have:=rv.length; rw [Ab] at this; simp; lia
  refine ⟨.bl (bs.all id),H,I1,?_,q⟩;show Value.bool _=_;rw [jm,Zly]
end
section
noncomputable def Zjr (K:W.Frag) (a:Addr) (n:Nat):It :=
 ⟨λi H=>i < n/\∃ xs,SqL K H a xs/\xs.length=n,λi H x H'=>H'=H/\∀ xs,SqL K H a xs->xs[n - 1 - i]?=some x,λi H=>n<=i/\∃ xs,SqL K H a xs/\xs.length=n⟩
def Zl6 {P:Program} {w:World} {K:W.Frag} {tg:Expr} (a it:Addr) (n:Nat):Turn P w K tg (Zjr K a n) [it] it (λi h=>i<=n/\h.IsRevIter it a ((n:Int) - 1 - i)) where
 mem:=by simp
 obj:=λi h st b hb=>by
  have e:b=it:=by simpa using hb
  subst e;obtain ⟨_,o,e,c,d⟩:=st;exact ⟨o,e,λv z=>by rw [d] at z; cases z⟩
 keep:=λi h h' st k=>⟨st.1,st.2.at λo e=>k it (by simp) o e⟩
 item:=by
  intro X hP hw hK hc i jh s σ H E I hf st hg;subst hP hw hK;obtain ⟨hi,xs,hq,hl⟩:=hg;obtain ⟨its,rv,p,hz⟩:=I.list hq;obtain ⟨f0,f1,f2,f3,f4,f5⟩:=hf it (by simp);have jw:n - 1 - i < xs.length:=by lia
  obtain ⟨u,hu,ru⟩:=rv.get (Ac jw);have e1:(n:Int) - 1 - i=((n - 1 - i:Nat):Int):=by lia
  have kn:=st.2;rw [e1] at kn;refine wpAny_pyNext_rev_item kn p.isList (x:=u) (by simpa using hu) λh' ko sb=>?_;have I1:Inv X jh σ H { s with heap:=h' }:=I.turned (t':=s.toks) (λb o hb e=>(sb.2 b hb).trans e) f0 f1 f3 f4 f5;have e2:((n - 1 - i:Nat):Int) - 1=(n:Int) - 1 - ((i + 1:Nat):Int):=by lia
  rw [e2] at ko;obtain ⟨o,e,c,d⟩:=id ko;exact ⟨u,Y,Oe (s:={ s with heap:=h' }) e c d (d:) ⟨xs[n - 1 - i],H,I1,ru,⟨Y,λys hy=>by rw [I.list_inj hy hq]; exact Ac jw⟩,⟨hi,ko⟩,λb hb=>(hf b hb).1⟩⟩
 done:=by
  intro X hP hw hK hc i jh s σ H E I hf st hg;subst hP hw hK;obtain ⟨hi,xs,hq,hl⟩:=hg;obtain ⟨f0,f1,f2,f3,f4,f5⟩:=hf it (by simp);have kn:=st.2;rw [show (n:Int) - 1 - i=-1 by have:=st.1; lia] at kn;exact wpAny_pyNext_rev_end (I.ok.hd hc) kn λh' eb=>⟨Y,I.turned (t':=s.toks) (λb o hb e=>eb b o hb e) f0 f1 f3 f4 f5⟩
 self:=λ_ _ _ _ _ st h=>wpAny_pyIter_revIter st.2 h
variable {X:Cx} {tg:Expr}
def iRev (K:W.Frag) (ta:TA):TI:=λσ H R=>ta σ H λvs H1=>∃ a xs,vs=[.ref a]/\SqL K H1 a xs/\R (Zjr K a xs.length) H1
def Zrg {l:Expr} {ta:TA} {p pos:Pos} (hg:Gl X "reversed") (hm:X.mg "reversed"=none) (ha:PA X [l] ta) (hs:starEach [l] X.env=[(false,eval l X.env)]:=by rfl):PI X tg (.Call (.Name "reversed" p) [l] [] pos) (iRev X.K ta):=by
 intro jh s σ H R I h;refine Call_ (Xl I hg hm boot_reversed (PyProof.Rows.callWith_type1 (thn (ha pos jh s σ H _ I h) λus s1 zz36=>?_) hs Y));obtain ⟨vs,H1,I1,r1,q1⟩:=zz36;obtain ⟨a,xs,e,hq,q⟩:=q1;subst e;obtain ⟨u,rfl,ru⟩:=Xm r1;cases ru;obtain ⟨its,rv,pl,hz⟩:=I1.list hq;refine call_reversed_list pl.isList ?_;have I2:Inv X jh σ H1 { s1 with heap:=s1.heap.push (revObj a ((its.toArray.size:Int) - 1)) }:=I1.kept (t':=s1.toks) λb o e=>Ak _ e;have hn:its.toArray.size=xs.length:=by have:=rv.length; simp; lia
 rw [hn] at I2 ⊢;have st:(s1.heap.push (revObj a ((xs.length:Int) - 1))).IsRevIter s1.heap.objs.size a ((xs.length:Int) - 1 - ((0:Nat):Int)):=by
  rw [show (xs.length:Int) - 1 - ((0:Nat):Int)=(xs.length:Int) - 1 by simp]
  exact ⟨_,Ap _ Y,Y,Y⟩
 refine wpAny_pyIter_revIter st ?_;refine ⟨s1.heap.objs.size,[s1.heap.objs.size],_,_,H1,Y,I2,Zl6 a _ xs.length,⟨Az _,st⟩,λb hb=>?_,q⟩;have e:b=s1.heap.objs.size:=by simpa using hb
 subst e;exact I1.fpOk (An _) (I1.hok.fresh (An _))
def Zm6 {K:W.Frag} {a:Addr} {xs:List V} {g:TG} {tt:TT} {tb:TB} {R:St->Hp->Prop} {σ:St} {H:Hp} (Pv:Nat->St->Hp->Prop) (h0:Pv 0 σ H) (hl:∀ i σ H,i<=xs.length->Pv i σ H->SqL K H a xs)
  (hs:∀ (i:Nat) x σ H,xs.reverse[i]?=some x->Pv i σ H->g x σ H λσ2 H2=>tt σ2 H2 λb H3=>if b=true then tb σ2 H3 (Pv (i + 1)) else Pv (i + 1) σ2 H3) (hd:∀ σ H,Pv xs.length σ H->R σ H):Wv (Zjr K a xs.length) g tt tb R σ H:=by
 refine (l:);rintro i m σ H ⟨rfl,hi,p⟩;have q:=hl i σ H hi p;by_cases jw:i < xs.length
 ·refine .inr ⟨⟨jw,xs,q,Y⟩,Pv (i + 1),λσ' H' p'=>⟨xs.length - (i + 1),by lia,Y,jw,p'⟩,λx H' y=>?_⟩
  obtain ⟨e,y⟩:=y;subst e;exact hs i x σ _ (by rw [getElem?_reverse jw]; exact y xs q) p
 ·have e:i=xs.length:=by lia
  subst e;exact .inl ⟨⟨An _,xs,q,Y⟩,hd σ H p⟩
end
section
variable {prog:Program} {w:World} {A:Around} {E:Value->Shared->Prop} {s:Shared}
abbrev upIt (a n:Int):Obj:={ cls:=.type "range_iterator",data:=.fields #[rawInt (a + (n - 1) * 1),rawInt n,rawInt (-1)] }
def Uz (h1:-(2 ^ 62)<=z) (h2:z < 2 ^ 62):Builtin.Range.rangeFitsLong z=true:=by
 unfold Builtin.Range.rangeFitsLong;rw [Bool.and_eq_true,decide_eq_true_eq,decide_eq_true_eq];lia
def Zmm (r:Addr) (a b:Int) (t u v:Tok) (hs:(r:)=true) :
  Meets (Builtin.«range.__reversed__» ⟨[.ref r],[]⟩) (λ_ R s=>IsRange s.heap r a b 1 t u v/\R (.ok (.ret (.ref s.heap.objs.size))) { s with heap:=s.heap.push (upIt a (Builtin.Range.rangeSize a b 1)) }) :=
 .of_wp λprog w A R s h=>by
  obtain ⟨hp,g,d,tk,os⟩:=s;obtain ⟨hl,h⟩:=h;unfold Builtin.«range.__reversed__»;refine Al (wpAny_of_eq (a:=Value.ref r) Y ?_);refine Al (m:=Builtin.Range.rangeFields (.ref r)) ?_;unfold Builtin.Range.rangeFields;refine Al (wpAny_field hl Y (x:=.int a t) Y ?_);refine Al (wpAny_of_eq (a:=some a) Y ?_);refine Al (wpAny_field hl Y (x:=.int b u) Y ?_);refine Al (wpAny_of_eq (a:=some b) Y ?_);refine Al (wpAny_field hl Y (x:=.int 1 v) Y ?_);refine Al (wpAny_of_eq (a:=some 1) Y ?_);refine wpAny_pure ?_;dsimp only;simp only [hs,Bool.not_true,Bool.false_eq_true,if_false,if_true];exact Al (wpAny_newObj_type (wpAny_pure ⟨_,Y,h⟩))
def Zq5:isSubtype (.type "range_iterator") (.type "reversed")=pure false:=by
 rw [isSubtype_type]
 kernel_rfl
def Zo8 {t:Tok} (hr:IsRange s.heap r a b 1 t u v)
  (hs:(r:)=true)
  (q:Z (.ref s.heap.objs.size) { s with heap:=s.heap.push (upIt a (Builtin.Range.rangeSize a b 1)) }) :
  codeAny (p:) A (.call (.builtin "reversed.__new__") ⟨[.type "reversed",.ref r],[]⟩) (wants Z E) s:=by
 have hT:s.TypeIs (.ref r) "range":=⟨_,hr,rfl⟩;refine codeAny_of_tree (show wpAny _ A.in1 (checkBuiltinCall "reversed.__new__" ⟨[.type "reversed",.ref r],[]⟩ >>= λ_=>again (.builtin "reversed.__new__" ⟨[.type "reversed",.ref r],[]⟩)) _ _ s from ?_);refine Al (wpAny_of_eq (PySem.F.newCall_reversed_1 (.ref r)) (wpAny_pure ⟨plainId_quiet PySem.F.plain_reversed_new _,codeAny_builtin PySem.F.entry_reversed_new ?_⟩));rw [Around.under_plainId PySem.F.plain_reversed_new _];unfold Builtin.«reversed.__new__»;refine Al (wpAny_of_eq (newClass_reversed (.ref r)) ?_);refine Al (wpAny_of_eq (a:=()) (by first | rfl | kernel_rfl) (Al (wpAny_of_eq (a:=()) (by first | rfl | kernel_rfl) ?_)));refine Al (wpAny_specialOf hT PySem.F.slot_range_reversed.lookup (Al (wpAny_of_eq (PySem.F.slot_range_reversed.bind (.ref r)) ?_)));have ne:¬ ((Value.builtin "range.__reversed__" == Value.none)=true):=Bool.false_ne_true;dsimp only
 first | rw [if_neg ne] | (show wpAny _ _ (if (Value.builtin "range.__reversed__" == Value.none)=true then _ else _) _ _ _; rw [if_neg ne])
 refine Al (wpAny_rule (Al (m:=runValue (.call (.builtin "range.__reversed__") ⟨[.ref r],[]⟩)) ?_));show wpAny _ _ (call (.builtin "range.__reversed__") [.ref r]) _ _ _;refine call_meets PySem.F.slot_range_reversed hT PySem.F.entry_range_reversed (PySem.F.args_range_reversed_1 _) (Zmm r a b t u v hs) ⟨hr,?_⟩
 first | exact wpAny_pure q | exact Al (wpAny_pure (wpAny_pure q))
def Zo9 {t:Tok} (hr:IsRange s.heap r a b 1 t u v)
  (hs:(r:)=true)
  (q:Q (.ref s.heap.objs.size) { s with heap:=s.heap.push (upIt a (Builtin.Range.rangeSize a b 1)) }):wpAny (p:) A (call (.type "reversed") [.ref r]) Q E s:=by
 refine callType_other (U:="range_iterator") (Q₁:=λo z=>o=.ref s.heap.objs.size/\z={ s with heap:=s.heap.push (upIt a (Builtin.Range.rangeSize a b 1)) }) (by decide +kernel) PySem.F.create_reversed ⟨_,_,PySem.F.mro_reversed⟩ PySem.F.made_reversed Zq5 (PySem.F.typeCall_reversed_1 _) (Zo8 hr hs ⟨rfl,rfl⟩) ?_;rintro o z ⟨rfl,rfl⟩;exact ⟨⟨_,Ap _ Y,Y⟩,q⟩
end
section
variable {X:Cx} {tg:Expr}
def Zs8 (ta:TA):TI:=λσ H R=>ta σ H λvs H1=>∃ (i:Int) (n:Nat),vs=[.int i,.int (i + n)]/\0<=i/\i + n<=100000/\R (Itr3 (i + n - 1) (-1) n) H1
def Zph {a b:Expr} {ta:TA} {p1 p2 pos n5:Pos} (hgl:Gl X "reversed") (hml:X.mg "reversed"=none) (hg:Gl X "range") (hm:X.mg "range"=none) (ha:PA X [a,b] ta) (hs:starEach [a,b] X.env=[(false,eval a X.env),(false,eval b X.env)]:=by rfl) (tj:starEach [b] X.env=[(false,eval b X.env)]:=by rfl)
  (nj:starEach [.Call (.Name "range" p2) [a,b] [] n5] X.env=[(false,eval (.Call (.Name "range" p2) [a,b] [] n5) X.env)]:=by rfl):PI X tg (.Call (.Name "reversed" p1) [.Call (.Name "range" p2) [a,b] [] n5] [] pos) (Zs8 ta):=by
 intro jh s σ H R I h;refine Call_ (Xl I hgl hml boot_reversed (PyProof.Rows.callWith_type1 ?_ nj Y));rw [nj];refine Calls.spliced_cons ?_;refine Call_ (Xl I hg hm boot_range (PyProof.Rows.callWith_type1 (thn (ha n5 jh s σ H _ I h) λus s1 ⟨vs,H1,I1,r1,q1⟩=>?_) (by rw [hs,tj]) (by rw [tj]; rfl)));obtain ⟨i,n,e,h0,h1,q⟩:=q1;subst e;obtain ⟨u,v,rfl,ru,rv⟩:=r1.two;obtain ⟨t,rfl⟩:=ru;obtain ⟨t',rfl⟩:=rv;refine call_range_2 (Calls.spliced_nil ?_);have hr:Builtin.Range.rangeSize i (i + n) 1=n:=by rw [rangeSize_one]; split <;> lia
 have fits:(Builtin.Range.rangeFitsLong i && Builtin.Range.rangeFitsLong (i + n) && Builtin.Range.rangeFitsLong 1 && Builtin.Range.rangeFitsLong (-1) && Builtin.Range.rangeFitsLong (i - 1) && Builtin.Range.rangeFitsLong (Builtin.Range.rangeSize i (i + n) 1))=true:=by
  rw [hr,Uz (by lia) (by lia),Uz (by lia) (by lia),Uz (d:) (d:),Uz (d:) (d:),Uz (by lia) (by lia),Uz (by lia) (by lia)];rfl
 refine Zo9 (IsRange.new ..) fits ?_;rw [hr];have I2:Inv X jh σ H1 { s1 with heap:=s1.heap.push { cls:=.type "range",data:=.fields #[.int i t,.int (i + n) t',.int 1 s1.toks] },toks:=s1.toks + 1 }:=I1.kept λb o e=>Ak _ e;have st:IsRangeIter ((s1.heap.push { cls:=.type "range",data:=.fields #[.int i t,.int (i + n) t',.int 1 s1.toks] }).push (upIt i n)) (s1.heap.push { cls:=.type "range",data:=.fields #[.int i t,.int (i + n) t',.int 1 s1.toks] }).objs.size (i + n - 1 + ((0:Nat):Int) * (-1)) ((n:Int) - ((0:Nat):Int)) (-1):=by
  have e1:i + (n:Int) - 1 + ((0:Nat):Int) * (-1)=i + ((n:Int) - 1) * 1:=by simp; lia
  have e2:(n:Int) - ((0:Nat):Int)=n:=by simp
  rw [e1,e2]
  exact Ap _ Y
 refine wpAny_pyIter_rangeiter st ?_;refine ⟨_,[(s1.heap.push { cls:=.type "range",data:=.fields #[.int i t,.int (i + n) t',.int 1 s1.toks] }).objs.size],_,_,H1,rfl,I2.kept (t':=s1.toks + 1) λb o e=>Ak _ e,Zgl _ (i + n - 1) (-1) n,st,λb hb=>?_,q⟩;have e:b=(s1.heap.push { cls:=.type "range",data:=.fields #[.int i t,.int (i + n) t',.int 1 s1.toks] }).objs.size:=by simpa using hb
 subst e;exact I2.fpOk (An _) (I2.hok.fresh (An _))
def Zjj {lo st:Int} {n:Nat} {g:TG} {tb:TS} {D:Ends} {σ:St} {H:Hp} (Pv:Nat->St->Hp->Prop) (h0:Pv 0 σ H)
  (hs:∀ (i:Nat) σ H,i < n->Pv i σ H->g (.int (lo + i * st)) σ H λσ2 H2=>tb { D with nx:=Pv (i + 1),ct:=Pv (i + 1),bk:=D.nx } σ2 H2) (hd:∀ σ H,Pv n σ H->D.nx σ H) :
  ∃ W:Nat->Nat->St->Hp->Prop,(∃ m,W 0 m σ H)/\∀ i m σ H,W i m σ H ->
   ((Itr3 lo st n).stop i H/\D.nx σ H)\/((Itr3 lo st n).go i H/\∃ N:St->Hp->Prop,(u:)/\∀ x H',(Itr3 lo st n).yld i H x H'->g x σ H' λσ2 H2=>tb { D with nx:=N,ct:=N,bk:=D.nx } σ2 H2):=by
 refine ⟨λi m σ H=>m=n - i/\i<=n/\Pv i σ H,⟨n,by simp,Az _,h0⟩,?_⟩;rintro i m σ H ⟨rfl,hi,p⟩;by_cases jw:i < n
 ·refine .inr ⟨jw,Pv (i + 1),λσ' H' p'=>⟨n - (i + 1),by lia,Y,jw,p'⟩,λx H' y=>?_⟩
  obtain ⟨e,y⟩:=y;subst e y;exact hs i σ _ jw p
 ·have e:i=n:=by lia
  subst e;exact .inl ⟨An _,hd σ H p⟩
def Va (K:W.Frag) (hc:X.calm=true) (h:PGs X es t)
  (hn:(assignEach es X.env).length=n:=by rfl) (k7:(assignEach es X.env).findIdx? (·.1)=none:=by rfl) (hk:X.K=K:=by rfl):PG X (.Tuple es k pos) (gTup K n t):=hk ▸ Ji hc h hn k7
end
end L2
namespace KT
open PySem L2
noncomputable def mV:Option Nat->V
 | none=>.non
 | some j=>.int j
structure TD (M:Lw) (ns:List Int):Prop where
 n:∃ n,1<=n/\n<=40/\M.length=3 * n
 len:ns.length=M.length
 inv:∀ (i j:Nat),M[i]?=some (some j)->M[j]?=some (some i)/\i≠j
 rng:∀ (i:Nat) x,ns[i]?=some x->0<=x/\x<=9999
 eqv:∀ (i j:Nat) x,ns[i]?=some x->ns[j]?=some x->i=j\/M[i]?=some (some j)
 eqm:∀ (i j:Nat),M[i]?=some (some j)->ns[j]?=ns[i]?
structure SewOk (N:Nat) (F:List Nat) (M:Lw):Prop where
 len:M.length=N
 nd:F.Nodup
 free:∀ f∈F,f < N/\M[f]?=some none
 inv:∀ (i j:Nat),M[i]?=some (some j)->M[j]?=some (some i)/\i≠j
def SewOk.start (N:Nat):SewOk N (List.range N) (List.replicate N none):=by
 refine ⟨by simp,nodup_range,λf hf=>?_,λi j h=>?_⟩
 ·have h:=mem_range.mp hf
  exact ⟨h,by rw [getElem?_replicate,if_pos h]⟩
 ·rw [getElem?_replicate] at h
  split at h <;> cases h
def SewOk.skip {one:Nat} (h:SewOk N (one :: F) M):SewOk N F M :=
 ⟨h.len,(nodup_cons.mp h.nd).2,λf hf=>h.free f (mem_cons_of_mem _ hf),h.inv⟩
def SewOk.pair {F:List Nat} {M:Lw} (h:SewOk N (one :: F) M) (hk:F[k]?=some other):SewOk N (F.eraseIdx k) ((M.set one (some other)).set other (some one)):=by
 obtain ⟨n1,n2⟩:=nodup_cons.mp h.nd;have hm:other∈F:=Au hk;have j9:one≠other:=λz=>n1 (z ▸ hm);obtain ⟨h1,f1⟩:=h.free one mem_cons_self;obtain ⟨h2,f2⟩:=h.free other (mem_cons_of_mem _ hm);have l1:one < M.length:=by rw [h.len]; exact h1
 have l2:other < M.length:=by rw [h.len]; exact h2
 have g1:((M.set one (some other)).set other (some one))[one]?=some (some other):=by
  rw [getElem?_set_ne (Ne.symm j9),getElem?_set_self l1]
 have g2:((M.set one (some other)).set other (some one))[other]?=some (some one):=by
  rw [getElem?_set_self (by rw [length_set]; exact l2)]
 have g3:∀ i,i≠one->i≠other->((M.set one (some other)).set other (some one))[i]?=M[i]?:=λi a b=>by
  rw [getElem?_set_ne (Ne.symm b),getElem?_set_ne (Ne.symm a)]
 refine ⟨by rw [length_set,length_set]; exact h.len,n2.sublist (eraseIdx_sublist F k),λf hf=>?_,λi j e=>?_⟩
 ·obtain ⟨i,hi,hik,e⟩:=mem_eraseIdx_iff_getElem.mp hf
  have fm:f∈F:=e ▸ getElem_mem hi;obtain ⟨a,b⟩:=h.free f (mem_cons_of_mem _ fm);have c1:f≠one:=λz=>n1 (z ▸ fm);have c2:f≠other:=λz=>by
   obtain ⟨mj,ek⟩:=Aa hk
   exact hik ((getElem_inj n2).mp (e.trans (z.trans ek.symm)))
  exact ⟨a,by rw [g3 f c1 c2]; exact b⟩
 ·by_cases c1:i=one
  ·subst c1
   rw [g1] at e;cases e;exact ⟨g2,j9⟩
  ·by_cases c2:i=other
   ·subst c2
    rw [g2] at e;cases e;exact ⟨g1,Ne.symm j9⟩
   ·rw [g3 i c1 c2] at e
    obtain ⟨a,b⟩:=h.inv i j e;have d1:j≠one:=λz=>by rw [z,f1] at a; cases a
    have d2:j≠other:=λz=>by rw [z,f2] at a; cases a
    exact ⟨by rw [g3 j d1 d2]; exact a,b⟩
noncomputable def nm (s t:Int) (i:Nat):Int:=(s + t * i) % 10000
noncomputable def rep (M:Lw) (i:Nat):Nat:=match M[i]? with
 | some (some j)=>if j < i then j else i
 | _=>i
noncomputable def flat (M:Lw) (s t:Int):List Int:=(List.range M.length).map λi=>nm s t (rep M i)
noncomputable def U1:List Int:=[1,3,7,9,37,1009,3333,9999]
def nm_d:∀ t∈U1,∀ d:Fin 42,t * ((d.val:Nat):Int) % 10000=0->d.val=0:=by decide +kernel
def Zrp (ht:t∈U1) (hi:i < 42) (hj:j < 42) (h:nm s t i=nm s t j):i=j:=by
  have key:∀ a b:Nat,b<=a->a < 42->nm s t a=nm s t b->a=b:=λa b nz ha e=>by
    have e2:=Int.emod_eq_emod_iff_emod_sub_eq_zero.mp e;rw [Int.add_sub_add_left,<- Int.mul_sub,<- Int.natCast_sub nz] at e2;have:=nm_d t ht ⟨a - b,Nat.lt_of_le_of_lt (sub_le _ _) ha⟩ e2;exact Nat.le_antisymm (Nat.sub_eq_zero_iff_le.mp this) nz
  rcases Nat.le_total i j with h' | h'
  · exact (key j i h' hj h.symm).symm
  · exact key i j h' hi h
def Zkl {N:Nat} (h:i < N):rep M i < N:=by
 unfold rep;split
 ·split <;> omega
 ·exact h
def Kk (M:Lw) (i:Nat):rep M i=i\/(∃ j,M[i]?=some (some j)/\j < i/\rep M i=j):=by
 cases e:M[i]? with
 | none=>exact .inl (by unfold rep; rw [e])
 | some o =>
  cases o with
  | none=>exact .inl (by unfold rep; rw [e])
  | some j =>
   by_cases h:j < i
   ·exact .inr ⟨j,Y,h,by unfold rep; rw [e]; exact if_pos h⟩
   ·exact .inl (by unfold rep; rw [e]; exact if_neg h)
def Fp {M:Lw} (h:(flat M s t)[i]?=some x):i < M.length/\x=nm s t (rep M i):=by
 unfold flat at h;rw [Ah] at h;by_cases hi:i < M.length
 ·rw [getElem?_range hi] at h
  exact ⟨hi,(Ax h).symm⟩
 ·rw [Ay (by simpa using hi)] at h
  cases h
def Zh1 {M:Lw} (hi:i < M.length):(flat M s t)[i]?=some (nm s t (rep M i)):=by
 unfold flat;rw [Ah,getElem?_range hi];rfl
def Zon {M:Lw} {n:Nat} (h1:1<=n) (h2:n<=14) (hM:M.length=3 * n) (n8:∀ (i j:Nat),M[i]?=some (some j)->M[j]?=some (some i)/\i≠j) (ht:t∈U1):TD M (flat M s t) where
 n:=⟨n,h1,by omega,hM⟩
 len:=by unfold flat; simp
 inv:=n8
 rng:=λi x h=>by
  obtain ⟨_,rfl⟩:=Fp h;unfold nm;omega
 eqv:=λi j x hi hj=>by
  obtain ⟨li,ei⟩:=Fp hi;obtain ⟨lj,ej⟩:=Fp hj;have e:rep M i=rep M j:=Zrp ht (by have:=Zkl (M:=M) li; omega) (by have:=Zkl (M:=M) lj; omega) (ei.symm.trans ej)
  rcases Kk M i with a | ⟨a,ha,la,ra⟩
  ·rcases Kk M j with b | ⟨b,hb,lb,rb⟩
   ·exact .inl (a.symm.trans (e.trans b))
   ·have:b=i:=by rw [<- rb,<- e,a]
    subst this;exact .inr (n8 j b hb).1
  ·rcases Kk M j with b | ⟨b,hb,lb,rb⟩
   ·have:a=j:=by rw [<- ra,e,b]
    subst this;exact .inr ha
   ·have:a=b:=by rw [<- ra,e,rb]
    subst this;have c1:=(n8 i a ha).1;have c2:=(n8 j a hb).1;rw [c1] at c2;exact .inl (by cases c2; rfl)
 eqm:=λi j h=>by
  obtain ⟨h',j9⟩:=n8 i j h;have li:i < M.length:=(Aa h).1;have lj:j < M.length:=(Aa h').1;rw [Zh1 li,Zh1 lj];have e:rep M j=rep M i:=by
   by_cases c:j < i
   ·have a:rep M i=j:=by unfold rep; rw [h]; exact if_pos c
    have b:rep M j=j:=by unfold rep; rw [h']; exact if_neg (by omega)
    rw [a,b]
   ·have a:rep M i=i:=by unfold rep; rw [h]; exact if_neg c
    have b:rep M j=i:=by unfold rep; rw [h']; exact if_pos (by omega)
    rw [a,b]
  rw [e]
noncomputable def pl (ns:List Int) (n:Nat) (x:Int):List Nat:=(List.range n).filter λi=>decide (ns[i]?=some x)
noncomputable def keys (ns:List Int):Nat->List Int
 | 0=>[]
 | n + 1=>match ns[n]? with
  | some x=>if x∈keys ns n then keys ns n else keys ns n ++ [x]
  | none=>keys ns n
def Xd {ns:List Int} {i:Nat}:i∈pl ns n x ↔ i < n/\ns[i]?=some x:=by
 unfold pl;rw [mem_filter,mem_range];simp
def Zms (ns:List Int) (n:Nat) (x:Int):(pl ns n x).Nodup:=(nodup_range).sublist filter_sublist
def Zko (ns:List Int) (n:Nat) (x:Int):(pl ns n x).Pairwise (· < ·):=(pairwise_lt_range).sublist filter_sublist
def Zhp {ns:List Int} (h:ns[n]?=some x):pl ns (n + 1) x=pl ns n x ++ [n]:=by
 unfold pl;rw [range_succ,filter_append];congr 1;simp [h]
def Ze3 {ns:List Int} (h:ns[n]?≠some x):pl ns (n + 1) x=pl ns n x:=by
 unfold pl;rw [range_succ,filter_append];simp [h]
def Xy {ns:List Int} (h:ns[n]?=some x):keys ns (n + 1)=if x∈keys ns n then keys ns n else keys ns n ++ [x]:=by
 show (x:)=_;rw [h]
theorem Y9 {ns:List Int}:∀ {n:Nat} {x:Int},x∈keys ns n ↔ ∃ i,i < n/\ns[i]?=some x
 | 0,x=>by simp [keys]
 | n + 1,x=>by
  have ih:=Y9 (ns:=ns) (n:=n) (x:=x)
  have e:x∈keys ns (n + 1) ↔ x∈keys ns n\/ns[n]?=some x:=by
   cases h:ns[n]? with
   | none =>
    have:keys ns (n + 1)=keys ns n:=by
     show (x:)=_;rw [h]
    rw [this]; simp
   | some y =>
    rw [Xy h];split
    ·constructor
     ·exact .inl
     ·rintro (z | z)
      ·exact z
      ·cases z; assumption
    ·rw [mem_append,mem_singleton]
     constructor
     ·rintro (z | z)
      ·exact .inl z
      ·exact .inr (by rw [z])
     ·rintro (z | z)
      ·exact .inl z
      ·exact .inr (by cases z; rfl)
  rw [e,ih];constructor
  ·rintro (⟨i,h1,h2⟩ | h)
   ·exact ⟨i,by lia,h2⟩
   ·exact ⟨n,by lia,h⟩
  ·rintro ⟨i,h1,h2⟩
   by_cases c:i=n
   ·subst c; exact .inr h2
   ·exact .inl ⟨i,by lia,h2⟩
theorem Ob (ns:List Int):∀ n,(keys ns n).Nodup
 | 0=>nodup_nil
 | n + 1=>by
  have ih:=Ob ns n
  cases h:ns[n]? with
  | none =>
   have:keys ns (n + 1)=keys ns n:=by
    show (x:)=_;rw [h]
   rw [this]; exact ih
  | some y =>
   rw [Xy h];split
   ·exact ih
   ·rename_i c
    refine nodup_append.mpr ⟨ih,by simp,λa ha b hb=>?_⟩;rw [mem_singleton] at hb;subst hb;rintro rfl;exact c ha
theorem Vs (ns:List Int):∀ n,(keys ns n).length<=n
 | 0=>An _
 | n + 1=>by
  have ih:=Vs ns n
  cases h:ns[n]? with
  | none =>
   have:keys ns (n + 1)=keys ns n:=by
    show (x:)=_;rw [h]
   rw [this]; lia
  | some y =>
   rw [Xy h];split
   ·lia
   ·rw [Ae,At]; lia
def Zq9 (h:x ∉ keys ns n):pl ns n x=[]:=by
 cases e:pl ns n x with
 | nil=>rfl
 | cons a r =>
  have:a∈pl ns n x:=by rw [e]; exact mem_cons_self
  obtain ⟨h1,h2⟩:=Xd.mp this;exact absurd (Y9.mpr ⟨a,h1,h2⟩) h
def Ze4 (td:TD M ns) (n:Nat) (x:Int):(pl ns n x).length<=2:=by
 match e:pl ns n x with
 | []=>simp
 | [_]=>simp
 | [_,_]=>simp
 | a :: b :: c :: r =>
  exfalso;have nd:=Zms ns n x;rw [e] at nd;have ha:=(Xd.mp (show a∈pl ns n x by rw [e]; simp)).2;have hb:=(Xd.mp (show b∈pl ns n x by rw [e]; simp)).2;have hc:=(Xd.mp (show c∈pl ns n x by rw [e]; simp)).2;simp only [nodup_cons,mem_cons,not_or] at nd;obtain ⟨⟨n1,n2,_⟩,⟨n3,_⟩,_⟩:=nd
  rcases td.eqv a b x ha hb with z | z
  ·exact n1 z
  ·rcases td.eqv a c x ha hc with y | y
   ·exact n2 y
   ·rw [z] at y
    cases y;exact n3 Y
def Fb {M:Lw} {ns:List Int} (td:TD M ns) (hx:x∈keys ns ns.length) :
  (∃ a,pl ns ns.length x=[a]/\ns[a]?=some x/\M[a]?=some none)\/(∃ a b,a < b/\pl ns ns.length x=[a,b]/\ns[a]?=some x/\ns[b]?=some x/\M[a]?=some (some b)/\M[b]?=some (some a)):=by
 obtain ⟨i,h1,h2⟩:=Y9.mp hx;have mi:i∈pl ns ns.length x:=Xd.mpr ⟨h1,h2⟩;have l2:=Ze4 td ns.length x;have st:=Zko ns ns.length x
 match e:pl ns ns.length x with
 | []=>rw [e] at mi; simp at mi
 | [a] =>
  obtain ⟨ga,ha⟩:=Xd.mp (show a∈pl ns ns.length x by rw [e]; simp);refine .inl ⟨a,Y,ha,?_⟩;have la:a < M.length:=by rw [<- td.len]; exact ga
  cases q:M[a]? with
  | none=>rw [List.getElem?_eq_none_iff] at q; lia
  | some o =>
   cases o with
   | none=>rfl
   | some b =>
    exfalso;have hb:ns[b]?=some x:=by rw [td.eqm a b q]; exact ha
    have mb:b∈pl ns ns.length x:=Xd.mpr ⟨(Aa hb).1,hb⟩;rw [e,mem_singleton] at mb;exact (td.inv a b q).2 mb.symm
 | [a,b] =>
  obtain ⟨ga,ha⟩:=Xd.mp (show a∈pl ns ns.length x by rw [e]; simp);obtain ⟨gb,hb⟩:=Xd.mp (show b∈pl ns ns.length x by rw [e]; simp);rw [e] at st;have nz:a < b:=by simpa using st
  rcases td.eqv a b x ha hb with z | z
  ·lia
  ·exact .inr ⟨a,b,nz,Y,ha,hb,z,(td.inv a b z).1⟩
 | a :: b :: c :: r=>rw [e] at l2; simp at l2
noncomputable def part (M:Lw) (ns:List Int) (ks:List Int):Lw:=(List.range M.length).map λi=>match ns[i]? with
 | some x=>if x∈ks then M.getD i none else none
 | none=>none
def Xz (M:Lw) (ns ks:List Int):(part M ns ks).length=M.length:=by unfold part; simp
def Jx {M:Lw} {ns:List Int} (td:TD M ns) (h:ns[i]?=some x):(part M ns ks)[i]?=some (if x∈ks then M.getD i none else none):=by
 have li:i < M.length:=by rw [<- td.len]; exact (Aa h).1
 unfold part;rw [Ah,getElem?_range li];simp [h]
def Zmw {M:Lw} (td:TD M ns):part M ns []=List.replicate M.length none:=by
 apply ext_getElem?;intro i;by_cases li:i < M.length
 ·obtain ⟨x,hx⟩:∃ x,ns[i]?=some x:=⟨_,Ac (by rw [td.len]; exact li)⟩
  rw [Jx td hx,getElem?_replicate,if_pos li];simp
 ·rw [Ay (by rw [Xz]; lia),Ay (by simp; lia)]
def Zmx {ns:List Int} (td:TD M ns):part M ns (keys ns ns.length)=M:=by
 apply ext_getElem?;intro i;by_cases li:i < M.length
 ·have ln:i < ns.length:=by rw [td.len]; exact li
  obtain ⟨x,hx⟩:∃ x,ns[i]?=some x:=⟨_,Ac ln⟩;rw [Jx td hx,if_pos (Y9.mpr ⟨i,ln,hx⟩),Ad,Ac li];rfl
 ·rw [Ay (by rw [Xz]; lia),Ay (by lia)]
def Zmv {M:Lw} {ns:List Int} (td:TD M ns) {a:Nat} (hp:pl ns ns.length x=[a]) (hm:M[a]?=some none):part M ns (ks ++ [x])=part M ns ks:=by
 apply ext_getElem?;intro i;by_cases li:i < M.length
 ·have ln:i < ns.length:=by rw [td.len]; exact li
  obtain ⟨y,hy⟩:∃ x,ns[i]?=some x:=⟨_,Ac ln⟩;rw [Jx td hy,Jx td hy];by_cases c:y=x
  ·subst c
   have:i∈pl ns ns.length y:=Xd.mpr ⟨ln,hy⟩;rw [hp,mem_singleton] at this;subst this;have:M.getD i none=none:=by rw [Ad,hm]; rfl
   rw [this];simp
  ·simp [c]
 ·rw [Ay (by rw [Xz]; lia),Ay (by rw [Xz]; lia)]
def Zkr {M:Lw} {ns:List Int} (td:TD M ns) (hp:pl ns ns.length x=[a,b]) (nz:a < b) (ha:M[a]?=some (some b)) (hb:M[b]?=some (some a)) :
  part M ns (ks ++ [x])=((part M ns ks).set a (some b)).set b (some a):=by
 have la:a < M.length:=(Aa ha).1;have lb:b < M.length:=(Aa hb).1;have na:=(Xd.mp (show a∈pl ns ns.length x by rw [hp]; simp)).2;have nb:=(Xd.mp (show b∈pl ns ns.length x by rw [hp]; simp)).2;apply ext_getElem?;intro i;by_cases li:i < M.length
 ·have ln:i < ns.length:=by rw [td.len]; exact li
  obtain ⟨y,hy⟩:∃ x,ns[i]?=some x:=⟨_,Ac ln⟩;rw [Jx td hy];by_cases cb:i=b
  ·subst cb
   rw [nb] at hy; cases hy;rw [getElem?_set_self (by rw [length_set,Xz]; exact lb),if_pos (by simp),Ad,hb];rfl
  ·rw [getElem?_set_ne (Ne.symm cb)]
   by_cases ca:i=a
   ·subst ca
    rw [na] at hy; cases hy;rw [getElem?_set_self (by rw [Xz]; exact la),if_pos (by simp),Ad,ha];rfl
   ·rw [getElem?_set_ne (Ne.symm ca),Jx td hy]
    have:y≠x:=by
     rintro rfl;have:i∈pl ns ns.length y:=Xd.mpr ⟨ln,hy⟩;rw [hp] at this;simp at this;lia
    simp [this]
 ·rw [Ay (by rw [Xz]; lia),Ay (by rw [length_set,length_set,Xz]; lia)]
def nV (i:Nat):V:=.int (i:Int)
theorem Ja {g:Int->V}:∀ {ks:List Int},valV (ks.map λx=>((Sum.inl x:Key),g x)) (Sum.inl y)=if y∈ks then some (g y) else none
 | []=>by simp [valV]
 | k :: r=>by
  have ih:=Ja (g:=g) (y:=y) (ks:=r);unfold valV at ih ⊢;rw [map_cons,find?_cons];by_cases c:k=y
  ·subst c
   simp
  ·have:(decide ((Sum.inl k:Key)=Sum.inl y))=false:=by
    rw [decide_eq_false_iff_not];intro z;cases z;exact c Y
   simp only [this];rw [ih];have:(y∈k :: r) ↔ y∈r:=by
    rw [mem_cons]
    exact ⟨λz=>z.elim (λw=>absurd w.symm c) id,.inr⟩
   simp only [this]
def Zbk {g:Int->V} {ks:List Int} (h:y ∉ ks):putK (ks.map λx=>((Sum.inl x:Key),g x)) (Sum.inl y) v=(ks.map λx=>((Sum.inl x:Key),g x)) ++ [(Sum.inl y,v)]:=by
 unfold putK;rw [if_neg];intro z;rw [any_eq_true] at z;obtain ⟨kv,h1,h2⟩:=z;obtain ⟨x,hx,rfl⟩:=mem_map.mp h1;have:(Sum.inl x:Key)=Sum.inl y:=of_decide_eq_true h2;cases this;exact h hx
def Zpc {g:Int->V} {ks:List Int} (h:y∈ks):putK (ks.map λx=>((Sum.inl x:Key),g x)) (Sum.inl y) v=ks.map λx=>((Sum.inl x:Key),if x=y then v else g x):=by
 unfold putK;rw [if_pos]
 ·rw [map_map]
  apply map_congr_left;intro x hx;show (if (Sum.inl x:Key)=Sum.inl y then ((Sum.inl x:Key),v) else (Sum.inl x,g x))=_;by_cases c:x=y
  ·subst c; simp
  ·rw [if_neg (λz=>by cases z; exact c Y),if_neg c]
 ·rw [any_eq_true]
  exact ⟨_,mem_map.mpr ⟨y,h,Y⟩,by simp⟩
def We {α:Type} {f:α->V} {l:List α} {i:Nat} {x:α} (h:l[i]?=some x):atI (l.map f) (i:Int)=some (f x):=Xp (by rw [Ah,h]; rfl)
def Wi (h:upd H p o q=none):q≠p/\H q=none:=by
 by_cases c:q=p
 ·subst c; rw [Zc] at h; cases h
 ·rw [Ze c] at h; exact ⟨c,h⟩
noncomputable def after (p:Int):Int:=if p % 3=2 then p - 2 else p + 1
noncomputable def Y0 (p:Int):Int:=if p % 3=0 then p + 2 else p - 1
noncomputable def Ztg (left:Bool) (a b:Nat):List Int:=if left then [after a,Y0 b,after b,Y0 a] else [after a,Y0 a,after b,Y0 b]
noncomputable def mvI (left:Bool) (a b:Nat) (z:Int):Int :=
 if z=after a then (if left then Y0 b else Y0 a) else if z=Y0 b then (if left then after b else after a) else if z=after b then (if left then Y0 a else Y0 b) else if z=Y0 a then (if left then after a else after b) else z
def Zlz (p:Nat):after p / 3=(p:Int) / 3/\after p≠p/\0<=after p:=by unfold after; split <;> lia
def Zjq (p:Nat):Y0 p / 3=(p:Int) / 3/\Y0 p≠p/\0<=Y0 p:=by unfold Y0; split <;> lia
noncomputable def mvN (left:Bool) (i j z:Nat):Nat:=(mvI left i j z).toNat
noncomputable def nst (left:Bool) (i j:Nat) (ns:List Int) (k:Nat):List Int:=(List.range ns.length).map λz=>if ((mvN (!left) i j z:Nat):Int)∈(Ztg left i j).take k then ns.getD (mvN (!left) i j z) 0 else ns.getD z 0
noncomputable def j6 (p k:Nat):Nat:=p - p % 3 + (p + k) % 3
def Zo3 {n:Nat} (h:p < 3 * n):j6 p k < 3 * n:=by unfold j6; omega
def Zeb (p k:Nat):j6 p k / 3=p / 3:=by unfold j6; omega
noncomputable def X4 (M:Lw) (p:Int):Bool:=decide (0<=p/\p < M.length) && (M.getD p.toNat none).isSome
noncomputable def Wu (M:Lw) (a p:Int):Bool:=match M.getD a.toNat none with
 | some m=>decide (p / 3=(m:Int) / 3) && !decide (p=(m:Int))
 | none=>false
noncomputable def rot {α:Type} (ws:List α) (s:Nat):List α:=ws.drop s ++ ws.take s
noncomputable def Jj (M:Lw) (ws vs:List Int):List Bool:=(ws.zip vs).map λp=>Wu M p.1 p.2
noncomputable def Wy (M:Lw) (ws:List Int):Bool:=!ws.isEmpty && ((ws.map (X4 M)).all id && (Jj M ws (rot ws (1 % ws.length))).all id)
def Jq {α:Type} (ws:List α) (h:s<=ws.length):(rot ws s).length=ws.length:=by
 unfold rot;rw [Ae,length_drop,Ai];lia
def Fa {α:Type} (ws:List α):rot ws 0=ws:=by unfold rot; simp
def K3 {α:Type} {ws:List α} {k:Nat} (hs:s < ws.length) (hk:k < ws.length):(rot ws s)[k]?=ws[(k + s) % ws.length]?:=by
 unfold rot;by_cases c:k < ws.length - s
 ·rw [Av (by rw [length_drop]; exact c),getElem?_drop,mod_eq_of_lt (by lia),Nat.add_comm]
 ·rw [getElem?_append_right (by rw [length_drop]; lia),length_drop,getElem?_take_of_lt (by lia)]
  have:(k + s) % ws.length=k - (ws.length - s):=by
   rw [show k + s=(k - (ws.length - s)) + ws.length by lia,add_mod_right,mod_eq_of_lt (by lia)]
  rw [this]
structure Pl (M:Lw) (ws:List Nat):Prop where
 ne:ws≠[]
 has:∀ p∈ws,∃ m,M[p]?=some (some m)
 nxt:∀ (k:Nat) (a p:Nat),ws[k]?=some a->ws[(k + 1) % ws.length]?=some p->∀ m,M[a]?=some (some m)->p / 3=m / 3/\p≠m
abbrev wI (ws:List Nat):List Int:=ws.map λ(x:Nat)=>(x:Int)
def Zc0 {M:Lw} {p:Nat}:X4 M (p:Int)=true ↔ ∃ m,M[p]?=some (some m):=by
 unfold X4;rw [Bool.and_eq_true,decide_eq_true_eq,Int.toNat_natCast];constructor
 ·rintro ⟨⟨_,h1⟩,h2⟩
  have h1:p < M.length:=by lia
  rw [Ad,Ac h1] at h2;obtain ⟨m,hm⟩:=Option.isSome_iff_exists.mp h2;exact ⟨m,by rw [Ac h1]; exact congrArg some hm⟩
 ·rintro ⟨m,hm⟩
  have h1:p < M.length:=(Aa hm).1;exact ⟨⟨by lia,by lia⟩,by rw [Ad,hm]; rfl⟩
def Zaw {M:Lw} {a p:Nat} (h:M[a]?=some (some m)):Wu M (a:Int) (p:Int)=true ↔ p / 3=m / 3/\p≠m:=by
 unfold Wu;rw [Int.toNat_natCast,Ad,h];show (decide ((p:Int) / 3=(m:Int) / 3) && !decide ((p:Int)=(m:Int)))=true ↔ _;rw [Bool.and_eq_true,decide_eq_true_eq,Bool.not_eq_true',decide_eq_false_iff_not];lia
def Zha {ws vs:List Int} (hl:ws.length=vs.length):(Jj M ws vs).all id=true ↔ ∀ (k:Nat) (a p:Int),ws[k]?=some a->vs[k]?=some p->Wu M a p=true:=by
 unfold Jj;rw [all_eq_true];constructor
 ·intro h k a p ha hp
  refine h (Wu M a p) (mem_map.mpr ⟨(a,p),?_,Y⟩);exact Au (i:=k) (by rw [getElem?_zip_eq_some]; exact ⟨ha,hp⟩)
 ·intro h b hb
  obtain ⟨⟨a,p⟩,hm,rfl⟩:=mem_map.mp hb;obtain ⟨k,hk⟩:=getElem?_of_mem hm;rw [getElem?_zip_eq_some] at hk;exact h k a p hk.1 hk.2
def Kn:Wy M (wI ws)=true ↔ Pl M ws:=by
 have hl:(wI ws).length=ws.length:=by simp
 unfold Wy;rw [Bool.and_eq_true,Bool.and_eq_true,Bool.not_eq_true',hl];constructor
 ·rintro ⟨h0,h1,h2⟩
  have j9:ws≠[]:=by
   rintro rfl;cases h0
  have pd:0 < ws.length:=by cases ws with | nil=>exact absurd rfl j9 | cons _ _=>simp
  have hh:∀ p∈ws,∃ m,M[p]?=some (some m):=λp hp=>by
   refine Zc0.mp (all_eq_true.mp h1 _ (mem_map.mpr ⟨(p:Int),mem_map.mpr ⟨p,hp,Y⟩,Y⟩))
  refine ⟨j9,hh,λk a p ha hp m hm=>?_⟩;have hs:1 % ws.length < (wI ws).length:=by rw [hl]; exact mod_lt _ pd
  have hk:k < (wI ws).length:=by rw [hl]; exact (Aa ha).1
  refine (Zaw hm).mp ((Zha (by rw [Jq _ (Nat.le_of_lt hs)])).mp h2 k a p (by rw [Ah,ha]; rfl) ?_);rw [K3 hs hk,hl,show (k + 1 % ws.length) % ws.length=(k + 1) % ws.length by rw [add_mod_mod],Ah,hp];rfl
 ·rintro ⟨h0,h1,h2⟩
  have pd:0 < ws.length:=by cases ws with | nil=>exact absurd rfl h0 | cons _ _=>simp
  have hs:1 % ws.length < (wI ws).length:=by rw [hl]; exact mod_lt _ pd
  refine ⟨by cases ws with | nil=>exact absurd rfl h0 | cons _ _=>rfl,?_,?_⟩
  ·rw [all_eq_true]
   intro b hb;obtain ⟨p',uj,rfl⟩:=mem_map.mp hb;obtain ⟨p,hp,rfl⟩:=mem_map.mp uj;exact Zc0.mpr (h1 p hp)
  ·refine (Zha (by rw [Jq _ (Nat.le_of_lt hs)])).mpr λk a p ha hp=>?_
   have hk:k < (wI ws).length:=(Aa ha).1;rw [K3 hs hk,hl,show (k + 1 % ws.length) % ws.length=(k + 1) % ws.length by rw [add_mod_mod]] at hp;rw [Ah] at ha hp
   cases ea:ws[k]? with
   | none=>rw [ea] at ha; cases ha
   | some a' =>
    cases ep:ws[(k + 1) % ws.length]? with
    | none=>rw [ep] at hp; cases hp
    | some p' =>
     rw [ea] at ha; cases ha;rw [ep] at hp; cases hp;obtain ⟨m,hm⟩:=h1 a' (Au ea);exact (Zaw hm).mpr (h2 k a' p' ea ep m hm)
structure Ch (M:Lw) (row:List Nat):Prop where
 has:∀ p∈row,∃ m,M[p]?=some (some m)
 nxt:∀ (k:Nat) (a p m:Nat),row[k]?=some a->row[k + 1]?=some p->M[a]?=some (some m)->p / 3=m / 3/\p≠m
def Ch.one {M:Lw} {p:Nat} (h:M[p]?=some (some m)):Ch M [p]:=by
 refine ⟨λq hq=>?_,λk a q m' _ hq=>?_⟩
 ·rw [mem_singleton] at hq; subst hq; exact ⟨m,h⟩
 ·simp at hq
def Ch.snoc {M:Lw} {row:List Nat} {p:Nat} (h:Ch M row) (hl:row.getLast?=some a) (hm:M[a]?=some (some m)) (h1:p / 3=m / 3) (h2:p≠m) (hp:∃ q,M[p]?=some (some q)):Ch M (row ++ [p]):=by
 refine ⟨λq hq=>?_,λk b q m' hb hq um=>?_⟩
 ·rcases mem_append.mp hq with z | z
  ·exact h.has q z
  ·rw [mem_singleton] at z; subst z; exact hp
 ·by_cases c:k + 1 < row.length
  ·rw [Av c] at hq
   rw [Av (by lia)] at hb;exact h.nxt k b q m' hb hq um
  ·have hk:k + 1 < (row ++ [p]).length:=(Aa hq).1
   rw [Ae,At] at hk;have hk:k + 1=row.length:=by lia
   rw [getElem?_append_right (by lia),hk] at hq;have:q=p:=by simpa using hq.symm
   subst this;rw [Av (by lia)] at hb;rw [getLast?_eq_getElem?,show row.length - 1=k by lia,hb] at hl;cases hl;rw [hm] at um;cases um;exact ⟨h1,h2⟩
def Ch.cut {row:List Nat} {e:Nat} (h:Ch M row) (hse:s < e) (h1:row[s]?=some a) (h2:row[e]?=some a):Pl M ((row.drop s).take (e - s)):=by
 have he:e < row.length:=(Aa h2).1;have hl:((row.drop s).take (e - s)).length=e - s:=by rw [Ai,length_drop]; lia
 have gt:∀ k,k < e - s->((row.drop s).take (e - s))[k]?=row[s + k]?:=λk hk=>by rw [getElem?_take_of_lt hk,getElem?_drop]
 refine ⟨λz=>by rw [z] at hl; simp at hl; lia,λp hp=>?_,λk b p hb hp m hm=>?_⟩
 ·exact h.has p (mem_of_mem_drop (mem_of_mem_take hp))
 ·rw [hl] at hp
  have hk:k < e - s:=by have:=(Aa hb).1; rw [hl] at this; exact this
  rw [gt k hk] at hb;by_cases c:k + 1 < e - s
  ·rw [mod_eq_of_lt c,gt _ c] at hp
   exact h.nxt (s + k) b p m hb (by rw [show s + k + 1=s + (k + 1) by lia]; exact hp) hm
  ·have hk:k + 1=e - s:=by lia
   rw [hk,mod_self,gt 0 (by lia),Nat.add_zero,h1] at hp;cases hp;exact h.nxt (s + k) b a m hb (by rw [show s + k + 1=e by lia]; exact h2) hm
section
variable {α:Type}
theorem Zex (l:List α):∀ (m k:Nat),k < m * l.length->(List.replicate m l).flatten[k]?=l[k % l.length]?
 | 0,k,h=>by simp at h
 | m + 1,k,h=>by
  rw [replicate_succ,flatten_cons];by_cases c:k < l.length
  ·rw [Av c,mod_eq_of_lt c]
  ·have hl:0 < l.length:=by
    cases l with
    | nil=>simp at h
    | cons _ _=>simp
   rw [getElem?_append_right (by lia),Zex l m (k - l.length) (by rw [succ_mul] at h; lia)];congr 1;rw [mod_eq_sub_mod (by lia:k ≥ l.length)]
def Zmn (l:List α) (m:Nat):(List.replicate m l).flatten.length=m * l.length:=by
 induction m with
 | zero=>simp
 | succ m ih=>rw [replicate_succ,flatten_cons,Ae,ih,succ_mul,Nat.add_comm]
end
end KT
namespace L2
open PySem PySem.Spec PyProof.Rows
section
variable {X:Cx}
def Za1 (i j:Int):Prop:=0 < j/\j.natAbs.log2 < 9000
def Fe:OpR X (binaryOp .FloorDiv) (rI Za1 λi j=>.int (i / j)):=opI λi j _ _ _ _ _ hc q=>by
 have h1:(0:Int) < j:=hc.1;exact floordiv_int (by lia) (by rw [Int.fdiv_eq_ediv_of_nonneg i (by lia)]; exact q) (.inl (PyProof.noPylong_of_log2 hc.2))
def K5:OpR X (binaryOp .Mult) (rI IntMulOk λi j=>.int (i * j)):=opI λ_ _ _ _ _ _ _ hc q=>mul_int q hc
def log2_lt {j:Int} {k:Nat} (h:j.natAbs < 2 ^ k) (hk:0 < k):j.natAbs.log2 < k:=by
 by_cases e:j.natAbs=0
 ·rw [e]; simpa using hk
 ·exact (Nat.log2_lt e).mpr h
def Zb2 {j:Int} {k:Nat} (h:j.natAbs < 2 ^ k) (hk:0 < k):Builtin.Int.intBits j<=k:=by
 unfold Builtin.Int.intBits;have:=log2_lt h hk;split
 ·lia
 ·lia
end
end L2
namespace HL
open PySem PyProof.Rows HT
section
open PySem.SeqAt
open PySem.AutoSeq1 (wpAny_loadPart')
open PySem.MeetsSeq PySem.MeetsSeq2 PySem.MeetsSeq3
def Zhx {us:List Value} {ns:List Int} (h:IntsAre us ns):∀ {i:Nat},i < us.length->∃ t,us[i]?=some (.int (ns.getD i 0) t):=by
 induction h with
 | nil=>intro i hi; simp at hi
 | cons n t h ih =>
  intro i hi
  cases i with
  | zero=>exact ⟨t,Y⟩
  | succ i=>obtain ⟨t',e⟩:=ih (i:=i) (by simpa using hi); exact ⟨t',e⟩
def Zpv {a b:List Int} (h:a.length<=i\/b.length<=i):lexLt (a.drop i) (b.drop i)=decide (a.length - i < b.length - i):=by
 by_cases ha:a.length<=i
 ·rw [drop_eq_nil_of_le ha]
  by_cases hb:b.length<=i
  ·rw [drop_eq_nil_of_le hb,O2]; exact (decide_eq_false (by omega)).symm
  ·cases e:b.drop i with
   | nil=>exact absurd (drop_eq_nil_iff.mp e) hb
   | cons c t=>rw [J0]; exact (decide_eq_true (by omega)).symm
 ·have hb:b.length<=i:=by omega
  rw [drop_eq_nil_of_le hb]
  cases e:a.drop i with
  | nil=>exact absurd (drop_eq_nil_iff.mp e) ha
  | cons c t=>rw [Ws]; exact (decide_eq_false (by omega)).symm
def Zh3 {a:List Int} (h:i < a.length):a.drop i=a.getD i 0 :: a.drop (i + 1):=by
 rw [drop_eq_getElem_cons h,Ad,Ac h]; rfl
def Zps (l b:Addr) (xs ys:Array Value) (n n2:Nat) (dd v9:Option Addr) (sl vb:Array (Option Value)) (ns ms:List Int) (hi:IntsAre xs.toList ns) (hj:IntsAre ys.toList ms) (k:Nat) :
  ∀ i:Nat,i<=xs.size->i<=ys.size->min xs.size ys.size - i=k->Meets (Builtin.«list.__eq__.loop» ⟨[.ref l,.ref b,rawInt i,rawInt 0],[]⟩)
   (λ_ R s=>s.heap.get? l=some { cls:=.type "list",dict:=dd,data:=.seq xs n,slots:=sl }/\s.heap.get? b=some { cls:=.type "list",dict:=v9,data:=.seq ys n2,slots:=vb }/\R (.ok (.ret (.bool (lexLt (ns.drop i) (ms.drop i))))) s):=by
 have z1:xs.size=ns.length:=by rw [<- hi.length]; simp
 have z2:ys.size=ms.length:=by rw [<- hj.length]; simp
 induction k with
 | zero =>
  intro i b1 b2 hk prog w A R s h;obtain ⟨hp,g,d,tk,os⟩:=s;obtain ⟨hl,hb,h⟩:=h;rw [Zpv (by omega)] at h;have hv:(decide (ns.length - i < ms.length - i))=decide (xs.size < ys.size):=by
   apply decide_eq_decide.mpr
   omega
  rw [hv] at h
  wp_walk using wpAny_loadPart' hl,wpAny_loadPart' hb
  by_cases c:i < xs.size
  ·have e1:xs[((i:Nat):Int).toNat]?=some xs[i]:=by simp [c]
   have e2:ys[((i:Nat):Int).toNat]?=none:=by simp; omega
   rw [e1,e2]
   wp_walk using wpAny_loadPart' hl,wpAny_loadPart' hb
   exact h
  ·have e1:xs[((i:Nat):Int).toNat]?=none:=by simp; omega
   rw [e1]
   wp_walk using wpAny_loadPart' hl,wpAny_loadPart' hb
   exact h
 | succ k ih =>
  intro i b1 b2 hk prog w A R s h;obtain ⟨hp,g,d,tk,os⟩:=s;obtain ⟨hl,hb,h⟩:=h;have c1:i < xs.size:=by omega
  have c2:i < ys.size:=by omega
  obtain ⟨t1,q1⟩:=Zhx hi (i:=i) (by simpa using c1);obtain ⟨t2,q2⟩:=Zhx hj (i:=i) (by simpa using c2);have e1:xs[((i:Nat):Int).toNat]?=some (.int (ns.getD i 0) t1):=by simpa using q1
  have e2:ys[((i:Nat):Int).toNat]?=some (.int (ms.getD i 0) t2):=by simpa using q2
  have hc:((i:Int) + 1)=((i + 1:Nat):Int):=by push_cast; rfl
  rw [Zh3 (a:=ns) (i:=i) (by omega),Zh3 (a:=ms) (i:=i) (by omega),Q5] at h
  wp_walk using wpAny_loadPart' hl,wpAny_loadPart' hb
  rw [e1,e2];obtain ⟨ev,he,hiff⟩:=Znn A.in1 ⟨hp,g,d,tk,os⟩ (ns.getD i 0) t1 (ms.getD i 0) t2;refine Al (he prog w _ _ ?_)
  cases ev with
  | true =>
   rw [if_pos (hiff.mp rfl)] at h
   wp_walk
   rw [hc];refine ⟨plainId_quiet plain_eq_loop _,codeAny_builtin entry_eq_loop ?_⟩;rw [Around.under_plainId plain_eq_loop _];exact ih (i + 1) (by omega) (by omega) (by omega) prog w A R _ ⟨hl,hb,h⟩
  | false =>
   rw [if_neg (λq=>absurd (hiff.mpr q) Bool.false_ne_true)] at h
   wp_walk using wpAny_loadPart' hl,wpAny_loadPart' hb
   rw [e1,e2];have hri:=Zmo A.in1 ⟨hp,g,d,tk,os⟩ (ns.getD i 0) t1 (ms.getD i 0) t2 prog w
   wp_walk using hri
   exact h
def list_lt (l b:Addr) (xs ys:Array Value) (n n2:Nat) (dd v9:Option Addr) (sl vb:Array (Option Value)) (ns ms:List Int) (hi:IntsAre xs.toList ns) (hj:IntsAre ys.toList ms) :
  Meets (Builtin.«list.__lt__» ⟨[.ref l,.ref b],[]⟩)
   (λ_ R s=>s.heap.get? l=some { cls:=.type "list",dict:=dd,data:=.seq xs n,slots:=sl }/\s.heap.get? b=some { cls:=.type "list",dict:=v9,data:=.seq ys n2,slots:=vb }/\R (.ok (.ret (.bool (lexLt ns ms)))) s):=by
 intro prog w A R s h;obtain ⟨hp,g,d,tk,os⟩:=s;obtain ⟨hl,hb,h⟩:=h;have f3:=AutoSeq1.sub_list_list
 wp_walk using wpAny_loadPart' hl,wpAny_loadPart' hb
 refine ⟨plainId_quiet plain_eq_loop _,codeAny_builtin entry_eq_loop ?_⟩;rw [Around.under_plainId plain_eq_loop _];exact Zps l b xs ys n n2 dd v9 sl vb ns ms hi hj _ 0 (Az _) (Az _) Y prog w A R _ ⟨hl,hb,h⟩
end
section
variable {prog:Program} {w:World} {A:Around} {E:Value->Shared->Prop} {s:Shared}
def lt_lists {xs ys:Array Value} (hl:s.heap.IsList l xs) (hb:s.heap.IsList b ys) (hi:IntsAre xs.toList ns) (hj:IntsAre ys.toList ms)
  (hu:A.units < cLine) (h:Q (.bool (lexLt ns ms)) s):wpAny (p:) A (richCompare .Lt (.ref l) (.ref b)) Q E s:=by
 obtain ⟨⟨cls,dd,data,sl⟩,ho,hc,n,hd⟩:=id hl;obtain ⟨⟨cls2,v9,data2,vb⟩,qj,my,n2,nr⟩:=id hb;simp only at hc hd my nr;subst hc hd my nr;exact richCompare_meets_room (op:=.Lt) ⟨_,ho,Y⟩ ⟨_,qj,Y⟩ PySem.F.slot_list_lt PySem.F.entry_list_lt (PySem.F.args_list_lt_2 _ _) (list_lt l b xs ys n n2 dd v9 sl vb ns ms hi hj)
  ⟨ho,qj,show Value.bool (lexLt ns ms)≠Value.notImplemented/\Q (.bool (lexLt ns ms)) s from ⟨(λx=>nomatch x),h⟩⟩ hu
end
section
variable {prog:Program} {w:World} {A:Around} {R:Result->Shared->Prop} {I:Addr} {fp wr:List Addr} {n:Nat} {P:Nat->Value->Prop} {St:Nat->Heap->Prop}
def K9 {g:Heap} (b:Addr) (o:Obj) (bB:b≠B) (e:g.get? b=some o):(g.update B f).get? b=some o:=(Heap.get?_update_other _ _ (Ne.symm bB)).trans e
def CmpIn (prog:Program) (w:World) (A:Around) (J:Heap->Prop) (P:Nat->Value->Prop) (bt:Nat->Nat->Bool):Prop :=
 ∀ i j vi vj (s:Shared) (Q:Value->Shared->Prop) (E:Value->Shared->Prop),J s.heap->P i vi->P j vj->Q (.bool (bt i j)) s->wpAny (p:) A (richCompare .Lt vi vj) Q E s
def Zrq (V:Walks prog w A.in1 I fp wr n P St) (bt:Nat->Nat->Bool) (cmp:CmpIn prog w A.in1 J P bt) (B:Addr) (nB:B ∉ fp) (stay:∀ h h':Heap,J h->(∀ b o,b ∉ wr->b≠B->h.get? b=some o->h'.get? b=some o)->J h') :
  ∀ (k j:Nat) (s:Shared) (u:Value) (c:Nat),n - (j + 1)=k->j + 1<=n->St (j + 1) s.heap->J s.heap->P (argBest bt j) u->s.heap.get? B=some { cls:=.type "list",dict:=none,data:=.seq #[u,u] c,slots:=#[] } ->
  (∀ v h' tk,P (argBest bt (n - 1)) v->(∀ b o,b ∉ wr->b≠B->s.heap.get? b=some o->h'.get? b=some o)->R (.ok (.ret v)) { s with heap:=h',toks:=tk }) ->
  codeAny (p:) A (.builtin "min.loop" ⟨[.ref I,.none,.ref B],[]⟩) R s:=by
 have nW:B ∉ wr:=λz=>nB (V.sub _ z);have nm:(toString "min" ++ toString ".loop":String)="min.loop":=by decide
 intro k
 induction k with
 | zero =>
  intro j s u c ek lj st hJ pu hB out;have last:j + 1=n:=by omega
  refine codeAny_builtin F.entry_min_loop ?_; rw [Around.under_plainId F.plain_min_loop _];show wpAny _ A.in1 (seqItems? (.ref B) >>= _) _ _ s;refine Al (wpAny_seqItems hB Y ?_); show wpAny _ A.in1 (tryCatch (pyNext (.ref I)) _ >>= _) _ _ s;refine Al (wpAny_tryCatch (V.done s _ _ (last ▸ st) λg tk kp=>?_));have vz:=kp B _ nW hB;show wpAny _ A.in1 (updateSeq B (λ_=>#[]) >>= _) _ _ _;refine Al (wpAny_updateSeq vz Y (Al (wpAny_letGo (wpAny_pure ?_))));exact out u _ tk (by rw [<- last]; exact pu) λb o bw bB e=>(Heap.get?_update_other _ _ (Ne.symm bB)).trans (kp b o bw e)
 | succ k ih =>
  intro j s u c ek lj st hJ pu hB out;have more:j + 1 < n:=by omega
  refine codeAny_builtin F.entry_min_loop ?_; rw [Around.under_plainId F.plain_min_loop _];show wpAny _ A.in1 (seqItems? (.ref B) >>= _) _ _ s;refine Al (wpAny_seqItems hB Y ?_); show wpAny _ A.in1 (tryCatch (pyNext (.ref I)) _ >>= _) _ _ s;refine Al (wpAny_tryCatch (V.item (j + 1) s _ _ more st λv g tk pv kn kp=>?_));have vz:=kp B _ nW hB;have xb:J g:=stay _ _ hJ λb o bw _ e=>kp b o bw e;show wpAny _ A.in1 (tryCatch (holding [v,v] (richCompare .Lt v u >>= _)) _ >>= _) _ _ _;refine Al (wpAny_tryCatch (wpAny_holding (Al (cmp (j + 1) (argBest bt j) v u _ _ _ xb pv pu ?_))));refine Al (wpAny_holding (wpAny_truthy_bool ?_)); refine Al (wpAny_letGo (wpAny_pure ?_))
  cases less:bt (j + 1) (argBest bt j) with
  | true =>
   simp only [if_true];refine Al (wpAny_updateSeq vz Y (Al (wpAny_letGo ?_))); rw [nm];refine wpAny_pure ⟨plainId_quiet F.plain_min_loop _,ih (j + 1) _ v _ (by omega) more (V.frame _ _ _ kn λb bf o e=>K9 b o (λz=>nB (z ▸ bf)) e) (stay _ _ xb λb o _ bB e=>K9 b o bB e) (by simp only [argBest,less,if_true]; exact pv) (Heap.get?_update_self _ vz Y) λv' g' yx y8 ze=>?_⟩;exact out v' g' yx y8 λb o bw bB e=>ze b o bw bB (K9 b o bB (kp b o bw e))
  | false =>
   simp only [Bool.false_eq_true,if_false];refine Al (wpAny_letGo ?_); rw [nm];refine wpAny_pure ⟨plainId_quiet F.plain_min_loop _,ih (j + 1) _ u c (by omega) more kn xb (by simp only [argBest,less,Bool.false_eq_true,if_false]; exact pu) vz λv' g' yx y8 ze=>?_⟩;exact out v' g' yx y8 λb o bw bB e=>ze b o bw bB (kp b o bw e)
def Zk1 (V:Walks prog w A.in1 I fp wr n P St) (bt:Nat->Nat->Bool) (cmp:CmpIn prog w A.in1 J P bt) (B:Addr) (nB:B ∉ fp) (stay:∀ h h':Heap,J h->(∀ b o,b ∉ wr->b≠B->h.get? b=some o->h'.get? b=some o)->J h') (hn:0 < n) {s:Shared} (st:St 0 s.heap) (hJ:J s.heap)
  (hB:s.heap.get? B=some { cls:=.type "list",dict:=none,data:=.seq #[] c,slots:=#[] })
  (out:∀ v h' tk,P (argBest bt (n - 1)) v->(∀ b o,b ∉ wr->b≠B->s.heap.get? b=some o->h'.get? b=some o)->R (.ok (.ret v)) { s with heap:=h',toks:=tk }) :
  codeAny (p:) A (.builtin "min.loop" ⟨[.ref I,.none,.ref B],[]⟩) R s:=by
 have nW:B ∉ wr:=λz=>nB (V.sub _ z);have nm:(toString "min" ++ toString ".loop":String)="min.loop":=by decide
 refine codeAny_builtin F.entry_min_loop ?_; rw [Around.under_plainId F.plain_min_loop _];show wpAny _ A.in1 (seqItems? (.ref B) >>= _) _ _ s;refine Al (wpAny_seqItems hB Y ?_); show wpAny _ A.in1 (tryCatch (pyNext (.ref I)) _ >>= _) _ _ s;refine Al (wpAny_tryCatch (V.item 0 s _ _ hn st λv g tk pv kn kp=>?_));have vz:=kp B _ nW hB;have xb:J g:=stay _ _ hJ λb o bw _ e=>kp b o bw e;show wpAny _ A.in1 (updateSeq B (λ_=>#[v,v]) >>= _) _ _ _;refine Al (wpAny_updateSeq vz Y ?_); rw [nm];refine wpAny_pure ⟨plainId_quiet F.plain_min_loop _,Zrq V bt cmp B nB stay _ 0 _ v _ Y hn (V.frame _ _ _ kn λb bf o e=>K9 b o (λz=>nB (z ▸ bf)) e) (stay _ _ xb λb o _ bB e=>K9 b o bB e) pv (Heap.get?_update_self _ vz Y) λv' g' yx y8 ze=>?_⟩;exact out v' g' yx y8 λb o bw bB e=>ze b o bw bB (K9 b o bB (kp b o bw e))
end
section
variable {prog:Program} {w:World} {A:Around} {E:Value->Shared->Prop} {s:Shared}
def min_pair {a:Value} (h:wpAny (p:) A.in1 (pyIter (.ref s.heap.objs.size)) (λit s₂=>∃ I fp wr n P St bt J,it=.ref I/\Walks prog w A.in1 I fp wr n P St/\St 0 s₂.heap/\(∀ b∈fp,b < s₂.heap.objs.size)/\0 < n/\CmpIn prog w A.in1 J P bt /\
   J s₂.heap/\(∀ h h':Heap,J h->(∀ b o,b ∉ wr->b≠s₂.heap.objs.size->h.get? b=some o->h'.get? b=some o)->J h') /\
   ∀ v h' tk,P (argBest bt (n - 1)) v->(∀ b o,b ∉ wr->s₂.heap.get? b=some o->h'.get? b=some o)->Q v { s₂ with heap:=h',toks:=tk }) E
   { s with heap:=s.heap.push { cls:=.type "tuple",data:=.seq #[a,b] } }):wpAny (p:) A (call (.builtin "min") [a,b]) Q E s:=by
 have nm:(toString "min" ++ toString ".loop":String)="min.loop":=by decide
 refine call_function_tree F.kind_min F.plain_min F.entry_min (F.args_min2 _ _) ?_;show wpAny _ A.in1 (Builtin.Builtins.bindParams "min" ["key","default"] 0 ⟨[],[]⟩ >>= _) _ _ s;have none2:Builtin.Builtins.bindParams "min" ["key","default"] 0 ⟨[],[]⟩=pure [none,none]:=rfl;refine Al (wpAny_of_eq none2 ?_); show wpAny _ A.in1 (newTuple [a,b] >>= _) _ _ s;refine Al (wpAny_newObj_type (Al (wpAny_mono h (λit s₂ q=>?_) λ_ _ z=>z)));obtain ⟨I,fp,wr,n,P,St,bt,J,rfl,V,st,lo,hn,cmp,hJ,stay,out⟩:=q;refine Al (wpAny_newObj_type ?_);have nB:s₂.heap.objs.size ∉ fp:=λz=>Nat.lt_irrefl _ (lo _ z);have xb:=stay _ _ hJ λb o _ _ e=>Ak { cls:=.type "list",data:=.seq #[] } e;rw [nm];refine wpAny_pure ⟨plainId_quiet F.plain_min_loop _,Zk1 V bt cmp s₂.heap.objs.size nB stay hn (V.frame _ _ _ st λb _ o e=>Ak _ e) xb (Ap _ Y) λv g tk pv kp=>?_⟩;exact out v g tk pv λb o bw e=>kp b o bw (As (Ao e)) (Ak _ e)
end
end HL
namespace L2
open PySem PySem.Spec PyProof.Rows
section
variable {X:Cx}
def LsAt (as:List Addr) (nh:Nat->List Int) (h:Heap):Prop:=∀ i a,as[i]?=some a->∃ its:List Value,h.IsList a its.toArray/\IntsAre its (nh i)
def LsAt.cmp {A:Around} {as:List Addr} (hu:A.units < cLine) :
  HL.CmpIn P w A (LsAt as nh) (λi v=>∃ a,as[i]?=some a/\v=.ref a) λi j=>HT.lexLt (nh i) (nh j):=by
 rintro i j vi vj s Q E hJ ⟨a,ea,rfl⟩ ⟨b,eb,rfl⟩ q;obtain ⟨ia,la,na⟩:=hJ i a ea;obtain ⟨ib,lb,nb⟩:=hJ j b eb;exact HL.lt_lists la lb (by simpa using na) (by simpa using nb) hu q
def LsAt.stay {as:List Addr} {h h':Heap} {no:Addr->Prop} (hJ:LsAt as nh h) (yn:∀ (i:Nat) (a:Addr),as[i]?=some a->¬ no a) (k:∀ b o,¬ no b->h.get? b=some o->h'.get? b=some o):LsAt as nh h':=by
 intro i a e;obtain ⟨its,⟨o,ho,hc⟩,n⟩:=hJ i a e;exact ⟨its,⟨o,k a o (yn i a e) ho,hc⟩,n⟩
def LsAt.of {s:Shared} {as:List Addr} (I:Inv X jh σ H s) (h:∀ i a,as[i]?=some a->SqL X.K H a ((nh i).map V.int)):LsAt as nh s.heap:=by
 intro i a e;obtain ⟨its,r,p,_⟩:=I.list (h i a e);exact ⟨its,p.isList,Wt r⟩
def LsAt.lt {as:List Addr} {h:Heap} (hJ:LsAt as nh h) {i:Nat} (e:as[i]?=some a):a < h.objs.size:=by
 obtain ⟨_,⟨o,ho,_⟩,_⟩:=hJ i a e;exact Ao ho
def Zaz (hc:X.calm=true) (hu:X.A.units + 64 < cLine):Y2 X (.builtin "min") (λxs H Q=>∃ (a b:Addr) (ns ms:List Int),xs=[.ref a,.ref b]/\SqL X.K H a (ns.map V.int)/\SqL X.K H b (ms.map V.int) /\
  Q (.ref (if HT.lexLt ms ns=true then b else a)) H):=by
 intro jh s σ H xs us Q I r h;obtain ⟨a,b,ns,ms,rfl,ha,hb,q⟩:=h;obtain ⟨u,v,rfl,ru,rv⟩:=Znx r;cases ru;cases rv
 let as:List Addr:=[a,b]
 let nh:Nat->List Int:=λi=>if i=0 then ns else ms
 have hJ:LsAt as nh s.heap:=LsAt.of I λi c e=>by
  match i,e with
  | 0,e=>cases e; exact ha
  | 1,e=>cases e; exact hb
  | n + 2,e=>cases e
 have hT:(s.heap.push { cls:=.type "tuple",data:=.seq #[.ref a,.ref b] }).IsTuple s.heap.objs.size #[.ref a,.ref b]:=⟨_,Ap _ rfl,rfl,0,rfl⟩;have hsz:(s.heap.push { cls:=.type "tuple",data:=.seq #[.ref a,.ref b] }).objs.size=s.heap.objs.size + 1:=Heap.size_push ..;have W:=Walks.tuple (prog:=X.prog) (w:=X.w) (A:=X.A.in1) (show X.A.in1.handled=none from I.ok.hd hc) (s.heap.push { cls:=.type "tuple",data:=.seq #[.ref a,.ref b] }).objs.size s.heap.objs.size (by rw [hsz]; exact As (lt_succ_self _)) #[.ref a,.ref b]
 have hat:∀ (i:Nat) (v:Value),(#[Value.ref a,Value.ref b]:Array Value)[i]?=some v->∃ c,as[i]?=some c/\v=.ref c:=λi v e=>by
  match i,e with
  | 0,e=>cases e; exact ⟨a,Y,Y⟩
  | 1,e=>cases e; exact ⟨b,Y,Y⟩
  | n + 2,e=>simp at e
 refine HL.min_pair (wpAny_pyIter_tuple hT ⟨_,[_,s.heap.objs.size],[_],_,λi v=>∃ c,as[i]?=some c/\v=.ref c,_,λi j=>HT.lexLt (nh i) (nh j),LsAt as nh,Y,
  ⟨W.sub,W.frame,λi s' Q' E' hi st hQ=>W.item i s' Q' E' hi st λv h' tk e ko k=>hQ v h' tk (hat i v e) ko k,W.done,W.self⟩,⟨⟨_,Ap _ rfl,rfl,rfl⟩,hT.push _⟩,?_,succ_pos 1,LsAt.cmp (by show X.A.units + 1 < cLine; lia),?_,?_,?_⟩)
 ·intro c ny
  show c < ((s.heap.push _).push _).objs.size;rw [Heap.size_push,hsz]
  rcases Ar ny with rfl | ny
  ·rw [hsz]; exact lt_succ_self _
  ·have:=Af ny
   subst this;exact lt_succ_of_lt (lt_succ_self _)
 ·exact hJ.stay (no:=λ_=>False) (λ_ _ _=>id) λc o _ e=>Ak _ (Ak _ e)
 ·intro h h' j k
  refine j.stay (no:=λc=>c∈[(s.heap.push { cls:=.type "tuple",data:=.seq #[.ref a,.ref b] }).objs.size]\/c=((s.heap.push { cls:=.type "tuple",data:=.seq #[.ref a,.ref b] }).push { cls:=.type "tuple_iterator",data:=.fields #[.ref s.heap.objs.size,.int 0 0] }).objs.size) (λi c e=>?_) (λc o n e=>k c o (λz=>n (.inl z)) (λz=>n (.inr z)) e);have l:=hJ.lt e;rw [mem_singleton,Heap.size_push,Heap.size_push,Heap.size_push];exact λz=>z.elim (λz=>As (lt_succ_of_lt l) z) λz=>As (lt_succ_of_lt (lt_succ_of_lt l)) z
 ·rintro v h' tk ⟨c,ec,rfl⟩ hk
  have I1:Inv X jh σ H { s with heap:=h',toks:=tk }:=I.kept λd o e=>hk d o (λz=>by
   have l:=Ao e
   rw [Af z,hsz] at l
   exact absurd l (Nat.not_lt_of_le (le_succ _))) (Ak _ (Ak _ e))
  have e1:c=if HT.lexLt ms ns=true then b else a:=by
   have ec':as[argBest (λi j=>HT.lexLt (nh i) (nh j)) 1]?=some c:=ec;have eb:argBest (λi j=>HT.lexLt (nh i) (nh j)) 1=if HT.lexLt ms ns=true then 1 else 0:=rfl
   rw [eb] at ec';by_cases z:HT.lexLt ms ns=true
   ·rw [if_pos z] at ec' ⊢; cases ec'; rfl
   ·rw [if_neg z] at ec' ⊢; cases ec'; rfl
  rw [e1];exact ⟨.ref _,H,I1,Y,q⟩
end
end L2
namespace HT
theorem lex_irr:∀ a:List Int,lexLt a a=false
 | []=>rfl
 | x :: a=>by rw [Q5,if_pos rfl]; exact lex_irr a
theorem Zcs:∀ a b:List Int,lexLt a b=false->lexLt b a=false->a=b
 | [],[],_,_=>rfl
 | [],_ :: _,h,_=>by rw [J0] at h; cases h
 | _ :: _,[],_,h=>by rw [J0] at h; cases h
 | x :: a,y :: b,h1,h2=>by
  rw [Q5] at h1 h2;by_cases e:x=y
  ·subst e
   rw [if_pos rfl] at h1 h2;rw [Zcs a b h1 h2]
  ·rw [if_neg e] at h1
   rw [if_neg (λz=>e z.symm)] at h2;have:=of_decide_eq_false h1;have:=of_decide_eq_false h2;lia
theorem lex_trans:∀ a b c:List Int,lexLt a b=true->lexLt b c=true->lexLt a c=true
 | [],[],_,h,_=>by rw [O2] at h; cases h
 | [],_ :: _,[],_,h=>by rw [Ws] at h; cases h
 | [],_ :: _,_ :: _,_,_=>rfl
 | _ :: _,[],_,h,_=>by rw [Ws] at h; cases h
 | _ :: _,_ :: _,[],_,h=>by rw [Ws] at h; cases h
 | x :: a,y :: b,z :: c,h1,h2=>by
  rw [Q5] at h1 h2 ⊢;by_cases e1:x=y
  ·subst e1
   rw [if_pos rfl] at h1;by_cases e2:x=z
   ·subst e2
    rw [if_pos rfl] at h2 ⊢;exact lex_trans a b c h1 h2
   ·rw [if_neg e2] at h2 ⊢; exact h2
  ·rw [if_neg e1] at h1
   have g1:=of_decide_eq_true h1;by_cases e2:y=z
   ·subst e2
    rw [if_neg e1]; exact h1
   ·rw [if_neg e2] at h2
    have g2:=of_decide_eq_true h2;rw [if_neg (by lia)];exact decide_eq_true (by lia)
def lex_le (h1:lexLt b a=false) (h2:lexLt c b=false):lexLt c a=false:=by
 cases e:lexLt c a with
 | false=>rfl
 | true =>
  cases f:lexLt b c with
  | true=>rw [lex_trans b c a f e] at h1; cases h1
  | false =>
   have:=Zcs b c f h2;subst this;rw [e] at h1;cases h1
def IsLeast (S:List Int->Prop) (a:List Int):Prop:=S a/\∀ b,S b->lexLt b a=false
end HT
namespace L2
open PySem PySem.Spec PyProof.Rows
section
variable {X:Cx} {jh:List (m:)} {σ:St} {H:Hp} {s:Shared} {a:Addr} {y v:V} {u r:Value} {A:Around} {E:Value->Shared->Prop}
def Zti {kvs:List (Key × V)} (I:Inv X jh σ H s) (e:H a=some (.dK kvs)) (l:kvs.length < sizeLine) (ry:RelV (kV k) u) (rv:RelV v r) (h:∀ s',Inv X jh σ (upd H a (.dK (putK kvs k v))) s'->Q () s') :
  wpAny (c:) A (dictSet a u r) Q E s:=by
 obtain ⟨z,hd,vs,j7,dd⟩:=Zjk I.hok e;have hz:vs.length<=sizeLine:=by rw [<- j7.length]; exact z
 have hl:(putK kvs k v).length<=sizeLine:=by have:=Qa kvs k v; lia
 refine wpAny_dictSet_pairs (hsz:=hz) (Od ry) dd λh' t9 hs=>h _ ?_;have he:∃ q,h'.get? a=some q:=let ⟨q,_,_,hq,_⟩:=t9; ⟨q,hq⟩
 exact Gd I (by rw [e]; exact True.intro) hs he (Zf5 hl hd (j7.put k rv) t9)
end
def Zqz (tk tv:TE) (D:Addr):TB:=λσ H N=>tk σ H λx H1=>tv σ H1 λv H2=>∃ kvs k,x=kV k/\H2 D=some (.dK kvs)/\kvs.length < sizeLine/\N σ (upd H2 D (.dK (putK kvs k v)))
section
variable {X:Cx}
def Fd (hk:PE X kx tk) (hv:PE X vx tv) :
  PB X ((eval kx X.env >>= λkv=>holding [kv] (eval vx X.env) >>= λvv=>standAt p >>= λ_=>holding [kv,vv] (dictSet D kv vv)) >>= λ_=>again c) c (Zqz tk tv D):=by
 intro jh s σ H N I h;refine Al (Al (thn (hk jh s σ H _ I h) λu s1 zz37=>?_));obtain ⟨x,H1,I1,r1,q1⟩:=zz37;refine Al (wpAny_holding (thn (hv jh s1 σ H1 _ I1 q1) λw s2 zz38=>?_));obtain ⟨v,H2,I2,r2,q2⟩:=zz38;refine Al (wpAny_standAt (wpAny_holding ?_));obtain ⟨kvs,k,rfl,hD,hl,q⟩:=q2;exact Zti I2 hD hl r1 r2 λs3 I3=>wpAny_pure ⟨Y,σ,_,I3,q⟩
end
def Zjz (ts:List Str) (fv:List (Str × Nat)) (wi:TI) (g:TG) (tt:TT) (tb:Addr->TB):TE:=λσ H Q=>wi σ H λJ H1=>∀ D,H1 D=none ->
 Wv J g tt (tb D) (λ_ H'=>Q (.ref D) H') (blkS ts fv σ) (upd H1 D (.dK []))
section
variable {X:Cx} {ts:List Str} {fv:List (Str × Nat)} {scope:Scope} {kx vx t0 i0:Expr} {f0:List Expr} {jk:List Comprehension} {pos:Pos} {wi:TI} {g:TG} {tt:TT} {tb:Addr->TB} {kz:Env->Addr->Addr->Sem Fin}
theorem Zjl (B:BlkOk X scope fv) (hc:X.calm=true) (hi:PI X t0 i0 wi)
  (hg:∀ C s₀ H₀ ex,PG (e:) t0 g) (ht:∀ C s₀ H₀ ex,PTs (e:) f0 tt)
  (oy:∀ (env:Env) (it D:Addr),compTurn (t:) 0 (.ref it) (.ref D) env=(standAt i0.pos >>= λ_=>pyNext (.ref it) >>= λr=>match r with
   | none=>pure (.done .next)
   | some v=>letOwnedTupleGo t0 (.ref it) v >>= λ_=>assign t0 env v >>= λ_ =>
    (n:) >>= λok =>
     if ok=true then kz env it D else again (.compLoop (t:) 0 (.ref it) (.ref D) env)))
  (hb:∀ C s₀ H₀ ex it D,PB (e:) (kz (e:).env it D) (.compLoop (t:) 0 (.ref it) (.ref D) (e:).env) (tb D)) {RR:Value->Addr->Result->Shared->Prop} (I:Inv X jh σ H s) (h:Zjz ts fv wi g tt tb σ H Q)
  (hRR:∀ D C s' H',Inv X jh σ H' s'->H' C=none->X.s₀.heap.objs.size<=C->C≠X.env.locals->(∀ x c,X.env.cells.lookup x=some c->c≠C)->(∀ p∈X.pn ++ jh,p.1≠C)->(∃ m,s'.heap.Ns C m)->Q (.ref D) H'->RR (.ref D) C (.ok .next) s') :
  wpAny (c:) X.A (eval i0 X.env) (λx s₁=>wpAny (c:) X.A (pyIter x) (λit s₂=>wpAny (c:) X.A newDict (λjq s₃ =>
   wpAny (c:) X.A (newFunctionEnv scope X.env.globals (Yw X.env scope.names []) [] X.env.qual none .none (some X.env)) (λrj s₄ =>
    codeAny (c:) X.A (.compStart (t:) 0 it jq { rj with scope:=relabel scope X.env }) (RR jq rj.locals) s₄) X.xe s₃) X.xe s₂) X.xe s₁) X.xe s:=by
 refine thn (hi jh s σ H _ I h) λv s1 h1=>thn h1 λzf s2 h2=>?_;obtain ⟨it,fp,tn,J,H2,e,I2,T,kn,f2,L⟩:=h2;subst e;have L:=L s2.heap.objs.size I2.fresh;refine wpAny_newObj_type ?_;have I3:Inv X jh σ (upd H2 s2.heap.objs.size (.dK [])) { s2 with heap:=s2.heap.push { cls:=.type "dict",data:=.dict #[] },toks:=s2.toks }:=I2.laid (a:=s2.heap.objs.size) (o:=.dK []) (t':=s2.toks) (λ_ _ q=>Ak _ q) (An _) (Fs s2.heap I2.big);have qj:∀ b∈fp,∃ o,s2.heap.get? b=some o/\∀ v,o.data≠.cell v:=T.obj _ _ kn;have f3:∀ b∈fp,FpOk X jh (upd H2 s2.heap.objs.size (.dK [])) b:=λb hb=>by
  obtain ⟨o,ho,_⟩:=qj b hb
  refine ⟨?_,(f2 b hb).2⟩
  rw [Ze (As (Ao ho))]
  exact (f2 b hb).1
 have ou:tn 0 (s2.heap.push { cls:=.type "dict",data:=.dict #[] }):=T.keep _ _ _ kn λb _ o e=>Ak _ e;have ww:∀ b∈fp,∃ o,(s2.heap.push { cls:=.type "dict",data:=.dict #[] }).get? b=some o:=λb hb=>let ⟨o,e,_⟩:=qj b hb; ⟨o,Ak _ e⟩
 generalize hs3:({ s2 with heap:=s2.heap.push { cls:=.type "dict",data:=.dict #[] },toks:=s2.toks }:Shared)=s3 at I3;have eh:s2.heap.push { cls:=.type "dict",data:=.dict #[] }=s3.heap:=by rw [<- hs3]
 rw [eh] at ou ww;refine wpAny_newFunctionEnv B.nocell (by intro y hy; simp at hy) (λh₁ tq tj=>?_) B.kind;have hk:∀ b o,s3.heap.get? b=some o->h₁.get? b=some o:=λb o e=>tj.extBut b o (As (Ao e)) (Ak _ e);have I4:=Zc3 (ts:=ts) (tk:=s3.toks + ([]:List (Str × Value)).length) B I3 f3 ww tq hk;have f4:∀ b∈fp,FpOk (Ym X (blkN ts fv) scope s3.heap.objs.size s3 (upd H2 s2.heap.objs.size (.dK [])) fp) [] (upd H2 s2.heap.objs.size (.dK [])) b:=λb hb=>by
  obtain ⟨f0,f1,f2',f3',f4',f5'⟩:=f3 b hb
  obtain ⟨o,eo⟩:=ww b hb
  exact ⟨f0,As (Ao eo),I4.ok.exfs b hb,.inl hb,(I4.ok.exf b hb).2,λp hp=>absurd (show p∈([]:List (m:)) from hp) (by simp)⟩
 have wj:tn 0 h₁:=T.keep _ _ _ ou λb _ o e=>hk b o e;have loop:codeAny (c:) X.A (.compLoop (t:) 0 (.ref it) (.ref s2.heap.objs.size) (Ym X (blkN ts fv) scope s3.heap.objs.size s3 (upd H2 s2.heap.objs.size (.dK [])) fp).env)
   (RR (.ref s2.heap.objs.size) s3.heap.objs.size) { s3 with heap:=h₁,toks:=s3.toks + ([]:List (Str × Value)).length }:=by
  refine K0 (X:=Ym X (blkN ts fv) scope s3.heap.objs.size s3 (upd H2 s2.heap.objs.size (.dK [])) fp) (tg:=t0) (ifs:=f0) (R:=λ_ H'=>Q (.ref s2.heap.objs.size) H') Y Y Y Y (oy _ it s2.heap.objs.size) T hc (hg _ _ _ _) (ht _ _ _ _) (hb _ _ _ _ it s2.heap.objs.size) f4 I4 wj L λs' σ' H' J' q=>?_
  obtain ⟨e1,e2,e3,e4,e5,e6⟩:=Zia I3 f3 (An _) J'
  obtain ⟨m,hm,_⟩:=J'.loc
  exact hRR _ _ s' H' e1 e2 e3 e4 e5 e6 ⟨m,hm⟩ q
 exact codeAny_compStart_dict loop (T.self _ _ _ _ _ wj loop)
theorem Ks (B:BlkOk X scope fv) (hc:X.calm=true) (hi:PI X t0 i0 wi)
  (hg:∀ C s₀ H₀ ex,PG (e:) t0 g) (ht:∀ C s₀ H₀ ex,PTs (e:) f0 tt)
  (oy:∀ (env:Env) (it D:Addr),compTurn (t:) 0 (.ref it) (.ref D) env=(standAt i0.pos >>= λ_=>pyNext (.ref it) >>= λr=>match r with
   | none=>pure (.done .next)
   | some v=>letOwnedTupleGo t0 (.ref it) v >>= λ_=>assign t0 env v >>= λ_ =>
    (n:) >>= λok =>
     if ok=true then kz env it D else again (.compLoop (t:) 0 (.ref it) (.ref D) env)))
  (hb:∀ C s₀ H₀ ex it D,PB (e:) (kz (e:).env it D) (.compLoop (t:) 0 (.ref it) (.ref D) (e:).env) (tb D))
  (hs:∀ x,foldedSetIterable i0 X.env x=pure x:=by intro _; rfl) :
  PE X (t:) (Zjz ts fv wi g tt tb):=by
 intro jh s σ H Q I h;show wpAny _ X.A (comprehension (t:) scope X.env _ newDict false (eval i0 X.env)) _ _ s;refine wpAny_comprehension_free (use:=none) Y hs (Uc λy hy e=>I.ok.has y.1 (B.free y hy e)) B.kind B.names ?_;refine Zjl (RR:=λjq C=>compPost (c:) X.A X.xe none (EP X jh σ Q) jq C) B hc hi hg ht oy hb I h λD C s' H' I' e2 e3 e4 e5 e6 hm q=>?_;obtain ⟨m,hm⟩:=hm;exact ⟨m,hm,λh' zu=>⟨.ref D,H',I'.apart zu e2 e3 e4 e5 e6,Y,q⟩⟩
end
section
variable {X:Cx}
def Zsx (K:W.Frag):V->V->Hp->VK->Prop:=λo i H Q=>∃ p xs,∃ (k:Nat) (v:V),o=.ref p/\i=.int k/\SqL K H p xs/\xs[k]?=some v/\Q v H
def Zf0:PGet X (Zsx X.K):=by
 intro jh s σ H o i ov iv Q I ro ri h;obtain ⟨p,xs,k,v,rfl,rfl,hq,he,q⟩:=h;cases ro;obtain ⟨t,rfl⟩:=ri;obtain ⟨its,r,pl,hz⟩:=I.list hq;obtain ⟨w,ew,nu⟩:=r.get he;have hl:=r.length;have hk:k < its.length:=(Aa ew).1;have hn:=Qi;exact wpAny_getItem_list pl.isList (by lia) (by lia) (by simpa using ew) ⟨v,H,I,nu,q⟩
end
section
variable {X:Cx} {jh:List (m:)} {σ:St} {H:Hp} {s:Shared} {a:Addr}
def Inv.thaw (I:Inv X jh σ H s) (e:H a=some (.frz ob (.dK kvs))) (h0:∀ o u,X.H₀ a≠some (.frz o u)):Inv X jh σ (upd H a (.dK kvs)) s:=by
 have qe:∀ c y,H c=some (.own y)->c≠a:=λc y r z=>by subst z; rw [r] at e; cases e
 have o5:∀ c xs,H c=some (.tup xs)->c≠a:=λc xs r z=>by subst z; rw [r] at e; cases e
 have uy:∀ c,H c=none->c≠a:=λc r z=>by subst z; rw [r] at e; cases e
 have hok:HOk X.prog X.w (upd H a (.dK kvs)) s.heap:=λb v q=>by
  have st:∀ c w',Yc X.prog X.w H s.heap c w'->Yc X.prog X.w (upd H a (.dK kvs)) s.heap c w':=λc w' x=>x.stay (λ_ _ _ q=>q) (λd r=>by rw [Ze (qe d c r)]; exact r) λd xs r=>by rw [Ze (o5 d xs r)]; exact r
  by_cases hb:b=a
  ·subst hb
   rw [Zc] at q;cases q;exact st _ _ (I.hok _ _ e).2
  ·rw [Ze hb] at q
   exact st _ _ (I.hok b v q)
 refine ⟨I.ok,I.os,I.bare,⟨I.base.keep,I.base.slot,λb o q n hx=>?_,I.base.there,λb xs q=>?_,λb o u q=>?_,λb ps q=>?_⟩,I.loc,I.cell,?_,λx c q=>?_,λp hp=>?_,hok,I.len⟩
 ·have:=I.base.free b o q n hx
  rw [Ze (uy b this)]; exact this
 ·have:=I.base.tups b xs q
  rw [Ze (o5 b xs this)]; exact this
 ·have:=I.base.frzs b o u q
  rw [Ze (λz=>by subst z; exact h0 _ _ q)]; exact this
 ·obtain ⟨more,z⟩:=I.base.tbls b ps q
  exact ⟨more,by rw [Ze (λw=>by subst w; rw [z] at e; cases e)]; exact z⟩
 ·have:=I.free
  rw [Ze (uy _ this)]; exact this
 ·have:=I.freeC x c q
  rw [Ze (uy _ this)]; exact this
 ·obtain ⟨q1,q2,q3⟩:=I.pin p hp
  exact ⟨q1,by rw [Ze (uy _ q2)]; exact q2,q3⟩
end
def Zsf (H0:Hp) (t:TS):TS:=λD σ H=>t { D with nx:=λσ' H'=>∃ (a:Addr) (o:Obj) (kvs:List (Key × V)),H' a=some (.frz o (.dK kvs))/\(∀ o u,H0 a≠some (.frz o u))/\D.nx σ' (upd H' a (.dK kvs)) } σ H
def Zpe {X:Cx} {st:Stmt} {t:TS} (h:PS X st t):PS X st (Zsf X.H₀ t):=by
 intro jh s σ H D I hw;refine wpAny_mono (h jh s σ H _ I hw) (λf s' q=>?_) λ_ _ e=>e
 cases f with
 | next =>
  obtain ⟨σ',H',I',a,o,kvs,e,h0,q⟩:=q;exact ⟨σ',_,I'.thaw e h0,q⟩
 | ret v=>exact q
 | brk=>exact q
 | cont=>exact q
section
variable {X:Cx}
def Fv {ys:List Str}:∀ {us:List Value},Vals (ys.map V.str) us->StrsAre us ys:=by
 induction ys with
 | nil=>intro us r; rw [map_nil] at r; cases r; exact .nil
 | cons y ys ih =>
  intro us r;rw [map_cons] at r
  cases r with
  | cons r1 r2 =>
   obtain ⟨t,e⟩:=r1;subst e;exact .cons y t (ih r2)
def Zsw (K:W.Frag):V->List V->Hp->VK->Prop:=λo xs H Q=>∃ l6 p ys,o=.str l6/\xs=[.ref p]/\SqL K H p (List.map V.str ys)/\l6.length<=16/\(ys.map (·.length)).sum + ys.length<=1048576/\Q (.str (Txt.join l6 ys)) H
def K7:MtR X "str.join" (Zsw X.K):=by
 intro jh s σ H x xs v us Q I rx rs h;obtain ⟨l6,p,ys,rfl,rfl,hq,h1,h2,q⟩:=h;obtain ⟨t,rfl⟩:=rx;obtain ⟨u,rfl,ru⟩:=Xm rs;cases ru;obtain ⟨its,rv,pl,_⟩:=I.list hq;exact join_listW pl.isList (by simpa using Fv rv) h1 h2 λt' k=>⟨.str _,H,I.tok _,⟨_,Y⟩,q⟩
end
theorem Zcw:∀ (l:List Str) (a:Array Nat),(l.foldl (λjq p=>jq ++ (w:).cps ++ p.cps) a).toList=a.toList ++ (l.map λy=>y.cps.toList).flatten
 | [],a=>by simp
 | y :: r,a=>by
  rw [foldl_cons,Zcw r];have:(w:).cps=#[]:=by decide +kernel
  rw [this];simp
def Fn (ys:List Str):(Txt.join (w:) ys).cps.toList=(ys.map λy=>y.cps.toList).flatten:=by
 unfold Txt.join Builtin.Str.glued
 cases ys with
 | nil=>rfl
 | cons y r =>
  show ((r.foldl (λjq p=>jq ++ (w:).cps ++ p.cps) y.cps)).toList=_;rw [Zcw];simp
end L2
namespace KT
open PySem L2
noncomputable def qg (i:Nat):Nat:=if i % 3=2 then i - 2 else i + 1
def Zqj (i:Nat):after (i:Int)=(qg i:Int):=by unfold after qg; split <;> split <;> lia
noncomputable def jx (M:Lw) (c:Nat):Option Nat:=(M[qg c]?).join
abbrev InvM (M:Lw):Prop:=∀ (i j:Nat),M[i]?=some (some j)->M[j]?=some (some i)/\i≠j
structure Fan (M:Lw) (c:Nat) (cs:List Nat):Prop where
 head:cs[0]?=some c
 chain:∀ (i a b:Nat),cs[i]?=some a->cs[i + 1]?=some b->jx M a=some b
 nodup:cs.Nodup
 lt:∀ a∈cs,a < M.length
structure FanEnd (M:Lw) (c:Nat) (cs:List Nat) (cl:Bool):Prop extends Fan M c cs where
 last:∃ l,cs[cs.length - 1]?=some l/\jx M l=if cl=true then some c else none
noncomputable def letS (M:Lw) (a p:Nat):Str:=if p=qg ((M.getD a none).getD 0) then Str.ofString "R" else Str.ofString "L"
noncomputable def o8 (M:Lw) (ws:List Nat):List Str:=(ws.zip (rot ws (1 % ws.length))).map λq=>letS M q.1 q.2
abbrev sR:Str:=Str.ofString "R"
abbrev sL:Str:=Str.ofString "L"
def Zsq:sR=⟨#[82]⟩:=by decide +kernel
def Zss:sL=⟨#[76]⟩:=by decide +kernel
def isLR (y:Str):Prop:=y=sR\/y=sL
def Zpt {y:Str} (h:isLR y):∃ c,y=⟨#[c]⟩/\c < 128:=by
 rcases h with rfl | rfl
 ·exact ⟨82,Zsq,by decide⟩
 ·exact ⟨76,Zss,by decide⟩
theorem Zof:∀ (ys:List Str),(∀ y∈ys,isLR y)->∃ cs:List Nat,(ys.map λy=>y.cps.toList).flatten=cs/\cs.length=ys.length/\(∀ c∈cs,c < 128)/\∀ (i c:Nat),cs[i]?=some c->ys[i]?=some ⟨#[c]⟩
 | [],_=>⟨[],rfl,rfl,(λc hc=>absurd hc not_mem_nil),λi c h=>(by simp at h)⟩
 | y :: r,h=>by
  obtain ⟨c,rfl,hc⟩:=Zpt (h y mem_cons_self);obtain ⟨cs,e,hl,h1,h2⟩:=Zof r λz hz=>h z (mem_cons_of_mem _ hz);refine ⟨c :: cs,by rw [map_cons,flatten_cons,e]; rfl,by simp [hl],λz hz=>?_,λi z hz=>?_⟩
  ·rcases Ar hz with rfl | hz
   ·exact hc
   ·exact h1 z hz
  ·cases i with
   | zero=>cases hz; rfl
   | succ i=>exact h2 i z hz
def Zk8 {ys:List Str} (h:∀ y∈ys,isLR y):(Txt.join (w:) ys).cps.all (· < 128)=true/\(Txt.join (w:) ys).cps.size=ys.length/\∀ (i c:Nat),(Txt.join (w:) ys).cps[i]?=some c->ys[i]?=some ⟨#[c]⟩:=by
 obtain ⟨cs,e,hl,h1,h2⟩:=Zof ys h;have e':(Txt.join (w:) ys).cps.toList=cs:=by rw [Fn,e]
 generalize (Txt.join (Str.ofString "") ys).cps=arr at e';subst e';refine ⟨?_,by rw [<- hl]; simp,λi c hc=>h2 i c (by simpa using hc)⟩;rw [<- Array.all_toList,all_eq_true];exact λc hc=>decide_eq_true (h1 c hc)
section
variable {M:Lw} {a:Nat} {ys:List Str}
def Zpw (M:Lw) (ws:List Nat):∀ y∈o8 M ws,isLR y:=λy hy=>by
 obtain ⟨q,_,rfl⟩:=mem_map.mp hy;unfold letS;split
 ·exact .inl Y
 ·exact .inr Y
def Zm8 (M:Lw) (ws:List Nat) (h:0 < ws.length):(o8 M ws).length=ws.length:=by
 unfold o8;rw [Ab,length_zip,Jq _ (Nat.le_of_lt (mod_lt _ h)),Nat.min_self]
end
end KT
namespace L2
open PySem PySem.Spec PyProof.Rows
section
noncomputable def Its (x:Str):It :=
 ⟨λi _=>i < x.cps.size,λi H v H'=>H'=H/\∃ c,x.cps[i]?=some c/\v=.str ⟨#[c]⟩,λi _=>x.cps.size<=i⟩
def Zl4 {P:Program} {w:World} {K:W.Frag} {tg:Expr} (x:Str) (t:Tok) (it:Addr):Turn P w K tg (Its x) [it] it (λi h=>h.IsStrIter it "str_ascii_iterator" x t i) where
 mem:=by simp
 obj:=λi h st b hb=>by
  have e:b=it:=by simpa using hb
  subst e;obtain ⟨o,e,c,d⟩:=st;exact ⟨o,e,λv z=>by rw [d] at z; cases z⟩
 keep:=λi h h' st k=>by
  obtain ⟨o,ho,r⟩:=st;exact ⟨o,k it (by simp) o ho,r⟩
 item:=by
  intro X hP hw hK hc i jh s σ H E I hf st hg;subst hP hw hK;have hg:i < x.cps.size:=hg;obtain ⟨f0,f1,f2,f3,f4,f5⟩:=hf it (by simp);have hx:x.cps[i]?=some x.cps[i]:=by simp [hg]
  refine wpAny_pyNext_ascii_item st hx λh' ko sb=>?_;have I1:Inv X jh σ H { s with heap:=h',toks:=s.toks + 1 }:=I.turned (t':=s.toks + 1) (λb o hb e=>(sb.2 b hb).trans e) f0 f1 f3 f4 f5;obtain ⟨o,e,c,d⟩:=id ko;exact ⟨_,Y,Oe (s:={ s with heap:=h',toks:=s.toks + 1 }) e c d (d:) ⟨.str ⟨#[x.cps[i]]⟩,H,I1,⟨_,Y⟩,⟨Y,_,hx,Y⟩,ko,λb hb=>(hf b hb).1⟩⟩
 done:=by
  intro X hP hw hK hc i jh s σ H E I hf st hg;subst hP hw hK;have hg:x.cps.size<=i:=hg;obtain ⟨f0,f1,f2,f3,f4,f5⟩:=hf it (by simp);exact wpAny_pyNext_ascii_end (I.ok.hd hc) st (by simp [hg]) λh' eb=>⟨Y,I.turned (t':=s.toks) (λb o hb e=>eb b o hb e) f0 f1 f3 f4 f5⟩
 self:=λ_ _ _ _ _ st h=>wpAny_pyIter_striter_ascii st h
variable {X:Cx} {tg:Expr}
def iStr (tl:TE):TI:=λσ H R=>tl σ H λv H1=>∃ x,v=.str x/\x.cps.all (· < 128)=true/\R (Its x) H1
def Zrf {l:Expr} {tl:TE} (hl:PE X l tl):PI X tg l (iStr tl):=by
 intro jh s σ H R I h;refine thn (hl jh s σ H _ I h) λv s1 jp=>?_;obtain ⟨x,H1,I1,r1,q1⟩:=jp;obtain ⟨x,e,ha,q⟩:=q1;subst e;obtain ⟨t,rfl⟩:=r1;refine wpAny_pyIter_ascii ha ?_;refine ⟨s1.heap.objs.size,[s1.heap.objs.size],_,_,H1,Y,I1.kept (t':=s1.toks) λb o e=>Ak _ e,Zl4 x t _,⟨_,Ap _ Y,Y,Y⟩,λb hb=>?_,q⟩;have e:b=s1.heap.objs.size:=by simpa using hb
 subst e;exact I1.fpOk (An _) (I1.hok.fresh (An _))
end
section
variable {P:Program} {w:World} {K:W.Frag} {mg:Str->Option Value} {base:Heap} {x qual:Str} {st:Stmt} {f:Addr} {fd:FuncData} {N ps:List Str} {k:Nat} {sp:Sp}
def Fun.aR (F:Fun K x qual st f fd) (S:FnScope N ps (Zh st))
  (k9:∀ (j5:Value) (A:Around) (outer:List Env) (s:Shared) (H:Hp) (vs:List V) (Q:VK) (E:XK),Room k (A.deeper (envOfC qual (Zh st) s.heap.objs.size f j5))->sp vs H Q E ->
   ∃ t,PSs (cxOf (CXr P w) P w K mg base N qual (Zh st) f j5 A outer s H E).nox (Yv st) t/\t { nx:=λ_ H'=>Q .non H',rt:=Q } (start N vs) H)
  (len:∀ vs H Q E,sp vs H Q E->vs.length=ps.length:=by (intro vs H Q E h; (repeat obtain ⟨_,h⟩:=h); subst_vars; rfl)):FnOk P w K mg base (CXr P w) (k + 1) f fd ps sp:=F.okR S len k9
def Fun.aX (F:Fun K x qual st f fd) (S:FnScope N ps (Zh st))
  (k9:∀ (j5:Value) (A:Around) (outer:List Env) (s:Shared) (H:Hp) (vs:List V) (Q:VK) (E:XK),Room k (A.deeper (envOfC qual (Zh st) s.heap.objs.size f j5))->sp vs H Q E ->
   ∃ t,PSsX true (cxOf (CXr P w) P w K mg base N qual (Zh st) f j5 A outer s H E).nox (Yv st) t/\t { nx:=λ_ H'=>Q .non H',rt:=Q } (λcls _ H'=>E cls none H') (start N vs) H)
  (len:∀ vs H Q E,sp vs H Q E->vs.length=ps.length:=by (intro vs H Q E h; (repeat obtain ⟨_,h⟩:=h); subst_vars; rfl)):FnOk P w K mg base (CXr P w) (k + 1) f fd ps sp:=F.okX S len k9
end
end L2
namespace L2
open PySem PySem.Spec PyProof.Rows PySem.SeqAt
mutual
inductive DV (K:W.Frag) (H:Hp):V->PyData->Prop
 | non:DV K H .non .none
 | bl (b:Bool):DV K H (.bl b) (.bool b)
 | int (i:Int):DV K H (.int i) (.int i)
 | str (x:Str):DV K H (.str x) (.str x)
 | lst {a:Addr} {xs:List V} {ds:List PyData}:SqL K H a xs->DVs K H xs ds->DV K H (.ref a) (.list ds)
 | tup {a:Addr} {xs:List V} {ds:List PyData}:SqT K H a xs->DVs K H xs ds->DV K H (.ref a) (.tuple ds)
inductive DVs (K:W.Frag) (H:Hp):List V->List PyData->Prop
 | nil:DVs K H [] []
 | cons {x:V} {xs:List V} {d:PyData} {ds:List PyData}:DV K H x d->DVs K H xs ds->DVs K H (x :: xs) (d :: ds)
end
section
variable {X:Cx} {jh:List (m:)} {σ:St} {H:Hp} {s:Shared}
mutual
theorem DV.reads (I:Inv X jh σ H s):∀ {x:V} {d:PyData} {u:Value},DV X.K H x d->RelV x u->∃ as,Reads s.heap u d as
 | _,_,_,.non,r=>by cases r; exact ⟨_,.none⟩
 | _,_,_,.bl b,r=>by cases r; exact ⟨_,.bool b⟩
 | _,_,_,.int i,r=>by obtain ⟨t,rfl⟩:=r; exact ⟨_,.int i t⟩
 | _,_,_,.str x,r=>by obtain ⟨t,rfl⟩:=r; exact ⟨_,.str x t⟩
 | _,_,_,.lst h hs,r=>by
  cases r;obtain ⟨its,rv,pl,_⟩:=I.list h;obtain ⟨as,ra⟩:=DVs.reads I hs rv;obtain ⟨o,ho,hc,n,hd⟩:=pl.isList;exact ⟨_,.list ho hc hd (by simpa using ra)⟩
 | _,_,_,.tup h hs,r=>by
  cases r;obtain ⟨its,rv,pt,_⟩:=I.tuple h;obtain ⟨as,ra⟩:=DVs.reads I hs rv;obtain ⟨o,ho,hc,n,hd⟩:=pt;exact ⟨_,.tuple ho hc hd (by simpa using ra)⟩
theorem DVs.reads (I:Inv X jh σ H s):∀ {xs:List V} {ds:List PyData} {us:List Value},DVs X.K H xs ds->Vals xs us->∃ as,ReadsAll s.heap us ds as
 | _,_,_,.nil,r=>by cases r; exact ⟨_,.nil⟩
 | _,_,_,.cons h hs,r=>by
  cases r with
  | cons r1 r2 =>
   obtain ⟨as,ra⟩:=DV.reads I h r1;obtain ⟨bs,rb⟩:=DVs.reads I hs r2;exact ⟨_,.cons ra rb⟩
end
end
section
variable {X:Cx}
def rNeD (K:W.Frag):R2:=λx y H Q=>∃ d e,DV K H x d/\DV K H y e/\shaped d=true/\shaped e=true/\noMix d e=true/\Q (.bl (!same d e)) H
def Zrj (hu:X.A.units + 64 < cLine):OpR X (compareOp .NotEq) (rNeD X.K):=by
 intro jh s σ H x y v u Q I rx ry h;obtain ⟨d,e,hx,hy,sd,se,hm,q⟩:=h;obtain ⟨_,r1⟩:=hx.reads I rx;obtain ⟨_,r2⟩:=hy.reads I ry;exact ne_dataH_same r1 r2 sd se hu hm ⟨.bl _,H,I,Y,q⟩
end
theorem DVs.ints {K:W.Frag} {H:Hp}:∀ ns:List Int,DVs K H (ns.map V.int) (ns.map PyData.int)
 | []=>.nil
 | n :: r=>.cons (.int n) (DVs.ints r)
end L2
namespace KT
open PySem L2
structure Orb (R:Nat->Nat->Prop) (p:Nat) (os:List Nat):Prop where
 head:os[0]?=some p
 chain:∀ (i a b:Nat),os[i]?=some a->os[i + 1]?=some b->R a b
 nodup:os.Nodup
structure OrbEnd (R:Nat->Nat->Prop) (p:Nat) (os:List Nat):Prop extends Orb R p os where
 last:∃ l,os[os.length - 1]?=some l/\R l p
section
variable {R:Nat->Nat->Prop}
def Orb.pos {p:Nat} {os:List Nat} (h:Orb R p os):0 < os.length:=(Aa h.head).1
def Orb.one (p:Nat):Orb R p [p]:=⟨rfl,λi a b _ h2=>by simp at h2,by simp⟩
def Orb.new (inj:∀ a b x,R a x->R b x->a=b) {p l f:Nat} {os:List Nat} (h:Orb R p os) (hl:os[os.length - 1]?=some l) (hf:R l f) (hc:f≠p):f ∉ os:=by
 intro hm;obtain ⟨i,hi,e⟩:=mem_iff_getElem.mp hm;have e':os[i]?=some f:=by rw [Ac hi,e]
 cases i with
 | zero=>rw [h.head] at e'; cases e'; exact hc Y
 | succ i =>
  have lw:i < os.length:=by lia
  have ea:=Ac lw;have e2:=inj _ _ _ (h.chain i _ f ea e') hf;have e3:os[i]=os[os.length - 1]:=by
   have:=(Aa hl).2
   rw [e2,this]
  have:=(getElem_inj h.nodup).mp e3;lia
def Orb.snoc {os:List Nat} (h:Orb R p os) (hl:os[os.length - 1]?=some l) (hf:R l f) (hn:f ∉ os):Orb R p (os ++ [f]):=by
 have hp:=h.pos;refine ⟨by rw [Av hp]; exact h.head,λi a b ha hb=>?_,?_⟩
 ·by_cases z:i + 1 < os.length
  ·rw [Av z] at hb
   rw [Av (by lia)] at ha;exact h.chain i a b ha hb
  ·have hi:=(Aa hb).1
   rw [Ae,At] at hi;have hi:i=os.length - 1:=by lia
   subst hi;rw [Av (by lia),hl] at ha;cases ha;rw [getElem?_append_right (by lia),show os.length - 1 + 1 - os.length=0 by lia] at hb;cases hb;exact hf
 ·rw [nodup_append]
  refine ⟨h.nodup,by simp,λa ha b hb e=>?_⟩;rw [mem_singleton] at hb;subst hb e;exact hn ha
end
noncomputable def mtN (M:Lw) (h:Nat):Nat:=(M.getD h none).getD 0
def Zkk {ws:List Nat} {j i:Nat} (hj:j < ws.length) (hi:i < ws.length):(rot ws (j + 1))[i]?=ws[(i + (j + 1)) % ws.length]?:=by
 by_cases z:j + 1 < ws.length
 ·exact K3 z hi
 ·have e:j + 1=ws.length:=by lia
  rw [e,add_mod_right,mod_eq_of_lt hi];unfold rot;rw [drop_length,take_length,nil_append]
def CH (R:Nat->Nat->Prop) (l:List Nat):Prop:=∀ (k u v:Nat),l[k]?=some u->l[k + 1]?=some v->R u v
end KT
namespace L2
open PySem PySem.Spec PyProof.Rows
end L2
namespace L2
open PySem PySem.Spec PyProof.Rows PySem.SeqAt
section
variable {X:Cx}
def Oi:Y2 X (.type "dict") (λxs H Q=>∃ (d:Addr) (kvs:List (Key × V)),xs=[.ref d]/\Rd H d (.dK kvs)/\∀ p,H p=none->Q (.ref p) (upd H p (.dK kvs))):=by
 intro jh s σ H xs us Q I r h;obtain ⟨d,kvs,rfl,hd,q⟩:=h;obtain ⟨u,rfl,ru⟩:=Xm r;obtain rfl:u=Value.ref d:=ru;obtain ⟨z,m9,vs,j7,dd⟩:=Q7 I.hok hd;have hl:vs.length<=sizeLine:=by rw [<- j7.length]; exact z
 refine kt_call_dict m9 dd hl λh' hD tj=>?_;have hk:∀ b u,s.heap.get? b=some u->h'.get? b=some u:=λb u e=>(tj.2 b (As (Ao e))).trans (Ak _ e);refine ⟨.ref s.heap.objs.size,_,I.laid (a:=s.heap.objs.size) (o:=.dK kvs) (t':=s.toks) hk (An _) ⟨z,?_,vs,j7,hD⟩,Y,q _ (I.hok.fresh (An _))⟩;exact (Fs (P:=X.prog) (w:=X.w) (H:=H) s.heap I.big).2.1
def Zlx (bs:List Bool):((List.range bs.length).any λi=>bs.getD i true)=bs.any id:=by
 rw [Bool.eq_iff_iff,any_eq_true,any_eq_true];constructor
 ·rintro ⟨i,hi,h⟩
  have hi:=mem_range.mp hi;rw [Ad,Ac hi] at h;exact ⟨_,getElem_mem hi,h⟩
 ·rintro ⟨b,hb,h⟩
  obtain ⟨i,hi,rfl⟩:=mem_iff_getElem.mp hb;exact ⟨i,mem_range.mpr hi,by rw [Ad,Ac hi]; exact h⟩
def Zc2 (hc:X.calm=true):Y2 X (.builtin "any") (λxs H Q=>∃ p bs,xs=[.ref p]/\SqL X.K H p (List.map V.bl bs)/\Q (.bl (bs.any id)) H):=by
 intro jh s σ H xs us Q I r h;obtain ⟨p,bs,rfl,hq,q⟩:=h;obtain ⟨u,rfl,ru⟩:=Xm r;cases ru;obtain ⟨its,rv,pl,hz⟩:=I.list hq;have ne:p≠s.heap.objs.size:=by obtain ⟨o,ho,_⟩:=pl.isList; exact As (Ao ho)
 refine call_any_walk (wpAny_pyIter_list pl.isList ⟨s.heap.objs.size,_,_,_,_,_,λi=>bs.getD i true,Y,Walks.list (A:=X.A.in1) (show X.A.in1.handled=none from I.ok.hd hc) s.heap.objs.size p ne its.toArray,⟨⟨_,Ap _ Y,Y,Y⟩,pl.isList.push _⟩,?_,?_⟩)
 ·intro i v s' Q' E' hv ll
  have hv:its[i]?=some v:=by simpa using hv
  have jm:=rv.length;rw [Ab] at jm;have hi:i < bs.length:=by have:=(Aa hv).1; lia
  obtain ⟨u,hu,ru⟩:=rv.get (show (bs.map V.bl)[i]?=some (V.bl bs[i]) by rw [Ah,Ac hi]; rfl);rw [hv] at hu;cases hu;cases ru;have e:bs.getD i true=bs[i]:=by rw [Ad,Ac hi]; rfl
  refine wpAny_truthy_bool ?_;have ll:Q' (bs.getD i true) s':=ll;rw [e] at ll;exact ll
 ·intro h' tk hk
  have I1:Inv X jh σ H { s with heap:=h',toks:=tk }:=I.kept λb o e=>hk b o (λz=>absurd (Ao e) (by rw [Af z]; exact Nat.lt_irrefl _)) (Ak _ e);have jm:its.toArray.size=bs.length:=by have:=rv.length; rw [Ab] at this; simp; lia
  refine ⟨.bl (bs.any id),H,I1,?_,q⟩;show Value.bool _=_;rw [jm,Zlx]
theorem Za2 (ns:List Int):∀ k,k<=ns.length->preSum (λi=>ns.getD i 0) k=(ns.take k).sum
 | 0,_=>by simp [preSum]
 | k + 1,h=>by
  rw [preSum,Za2 ns k (by lia),Aw,Ac (by lia),sum_append,Ad,Ac (by lia)];simp
def Zfz {jh:List (m:)} {σ:St} {H:Hp} {s:Shared} {ns:List Int} {its:List Value} (rv:Vals (ns.map V.int) its):∀ (i:Nat) (v:Value),its.toArray[i]?=some v->∃ t,v=.int (ns.getD i 0) t:=λi v hv=>by
 have hv:its[i]?=some v:=by simpa using hv
 have jm:=rv.length;rw [Ab] at jm;have hi:i < ns.length:=by have:=(Aa hv).1; lia
 obtain ⟨u,hu,ru⟩:=rv.get (show (ns.map V.int)[i]?=some (V.int ns[i]) by rw [Ah,Ac hi]; rfl);rw [hv] at hu;cases hu;obtain ⟨t,rfl⟩:=ru;exact ⟨t,by rw [Ad,Ac hi]; rfl⟩
def Zlt (hc:X.calm=true):Y2 X (.builtin "sum") (λxs H Q=>∃ (p:Addr) (ns:List Int),xs=[.ref p]/\SqL X.K H p (ns.map V.int)/\Q (.int ns.sum) H):=by
 intro jh s σ H xs us Q I r h;obtain ⟨p,ns,rfl,hq,q⟩:=h;obtain ⟨u,rfl,ru⟩:=Xm r;cases ru;obtain ⟨its,rv,pl,hz⟩:=I.list hq;have lt:p < s.heap.objs.size:=by obtain ⟨o,ho,_⟩:=pl.isList; exact Ao ho
 have jm:its.toArray.size=ns.length:=by have:=rv.length; rw [Ab] at this; simp; lia
 refine call_sum_walkG (wpAny_pyIter_list pl.isList ⟨s.heap.objs.size,_,_,_,_,_,λi=>ns.getD i 0,Y,Walks.list (A:=X.A.in1) (show X.A.in1.handled=none from I.ok.hd hc) s.heap.objs.size p (As lt) its.toArray,⟨⟨_,Ap _ Y,Y,Y⟩,pl.isList.push _⟩,?_,Zfz (jh:=jh) (σ:=σ) (H:=H) (s:=s) rv,?_⟩)
 ·intro b hb
  show b < (s.heap.push _).objs.size;rw [Heap.size_push]
  rcases Ar hb with rfl | hb
  ·exact lt_succ_self _
  ·rw [Af hb]; exact lt_succ_of_lt lt
 ·intro h' tk t' hk
  have I1:Inv X jh σ H { s with heap:=h',toks:=tk }:=I.kept λb o e=>hk b o (λz=>absurd (Ao e) (by rw [Af z]; exact Nat.lt_irrefl _)) (Ak _ e);refine ⟨.int ns.sum,H,I1,⟨t',?_⟩,q⟩;rw [jm,Za2 ns _ (An _),take_length]
def Zlu (hc:X.calm=true):Y2 X (.builtin "max") (λxs H Q=>∃ (p:Addr) (ns:List Int),xs=[.ref p]/\SqL X.K H p (ns.map V.int)/\0 < ns.length/\∀ m,m∈ns->(∀ a∈ns,a<=m)->Q (.int m) H):=by
 intro jh s σ H xs us Q I r h;obtain ⟨p,ns,rfl,hq,hn,q⟩:=h;obtain ⟨u,rfl,ru⟩:=Xm r;cases ru;obtain ⟨its,rv,pl,hz⟩:=I.list hq;have lt:p < s.heap.objs.size:=by obtain ⟨o,ho,_⟩:=pl.isList; exact Ao ho
 have jm:its.toArray.size=ns.length:=by have:=rv.length; rw [Ab] at this; simp; lia
 have W:=Zfz (jh:=jh) (σ:=σ) (H:=H) (s:=s) rv;refine call_max_walk (wpAny_pyIter_list pl.isList ⟨s.heap.objs.size,_,_,_,_,_,_,Y,Walks.list (A:=X.A.in1) (show X.A.in1.handled=none from I.ok.hd hc) s.heap.objs.size p (As lt) its.toArray,⟨⟨_,Ap _ Y,Y,Y⟩,pl.isList.push _⟩,?_,by rw [jm]; exact hn,CmpOf.ints_gt (λi=>ns.getD i 0) W,?_⟩)
 ·intro b hb
  show b < (s.heap.push _).objs.size;rw [Heap.size_push]
  rcases Ar hb with rfl | hb
  ·exact lt_succ_self _
  ·rw [Af hb]; exact lt_succ_of_lt lt
 ·intro v h' tk hP hk
  have I1:Inv X jh σ H { s with heap:=h',toks:=tk }:=I.kept λb o e=>hk b o (λz=>absurd (Ao e) (by rw [Af z]; exact Nat.lt_irrefl _)) (Ak _ e);rw [jm] at hP;obtain ⟨a1,a2⟩:=argBest_gt (λi=>ns.getD i 0) (ns.length - 1);obtain ⟨t,e⟩:=W _ _ hP;generalize argBest (λi j=>decide (ns.getD i 0 > ns.getD j 0)) (ns.length - 1)=k at a1 a2 e;have mj:k < ns.length:=by lia
  have ek:ns.getD k 0=ns[k]:=by rw [Ad,Ac mj]; rfl
  refine ⟨.int (ns.getD k 0),H,I1,⟨t,e⟩,q _ (by rw [ek]; exact getElem_mem mj) λa ha=>?_⟩;obtain ⟨j,hj,rfl⟩:=mem_iff_getElem.mp ha;have:=a2 j (by lia);have ej:ns.getD j 0=ns[j]:=by rw [Ad,Ac hj]; rfl
  show ns[j]<=ns.getD k 0;rw [<- ej]; exact this
def Zay (K:W.Frag) (hc:X.calm=true) (h:X.K=K:=by rfl):Y2 X (.builtin "sum") (λxs H Q=>∃ (p:Addr) (ns:List Int),xs=[.ref p]/\SqL K H p (ns.map V.int)/\Q (.int ns.sum) H):=h ▸ Zlt hc
def Zjp (K:W.Frag) (hc:X.calm=true) (h:X.K=K:=by rfl):Y2 X (.builtin "max") (λxs H Q=>∃ (p:Addr) (ns:List Int),xs=[.ref p]/\SqL K H p (ns.map V.int)/\0 < ns.length/\∀ m,m∈ns->(∀ a∈ns,a<=m)->Q (.int m) H):=h ▸ Zlu hc
def Zp1:PIp X .Mult (λx y H Q=>∃ i j,x=.int i/\y=.int j/\IntMulOk i j/\Q (.int (i * j)) H):=by
 intro jh s σ H x y v u Q I r1 r2 h;obtain ⟨i,j,e1,e2,hc,q⟩:=h;subst e1; subst e2;obtain ⟨t,rfl⟩:=r1;obtain ⟨t',rfl⟩:=r2;exact imul_int ⟨.int _,H,I.tok _,⟨_,Y⟩,q⟩ hc
end
end L2
namespace L2
open PySem PySem.Spec PyProof.Rows
section
variable {X:Cx} {l:Expr} {tl:TE}
theorem Zk5:∀ {kvs:List (Key × V)} {vs:List (Key × Value)} {ns:List Int},KV kvs vs->kvs.map (·.2)=ns.map V.int->∀ (i:Nat) (k:Key) (v:Value),vs[i]?=some (k,v)->∃ t,v=.int (ns.getD i 0) t
 | _,_,ns,.nil,_,i,k,v,h=>by simp at h
 | _,_,ns,.cons (a:=a) (b:=b) r rs,hm,i,k,v,h=>by
  cases ns with
  | nil=>cases hm
  | cons n ns =>
   rw [map_cons,map_cons] at hm
   injection hm with h1 h2
   cases i with
   | zero =>
    have h:b=(k,v):=by simpa using h
    have r2:=r.2;rw [h1,h] at r2;obtain ⟨t,e⟩:=r2;exact ⟨t,e⟩
   | succ i =>
    obtain ⟨t,e⟩:=Zk5 rs h2 i k v (by simpa using h);exact ⟨t,by simpa using e⟩
def Zsh (tl:TE):TE:=λσ H Q=>tl σ H λv H1=>∃ (d:Addr) (kvs:List (Key × V)) (ns:List Int),v=.ref d/\Rd H1 d (.dK kvs)/\kvs.map (·.2)=ns.map V.int/\Q (.int ns.sum) H1
def Ziz {jv p:Pos} (hc:X.calm=true) (hl:PE X l tl) (m:M0 X l "values" jv js) (hg:Gl X "sum") (hm:X.mg "sum"=none):PE X (.Call (.Name "sum" p) [.Call (.Attribute l "values" jv) [] [] js] [] pos) (Zsh tl):=by
 intro jh s σ H Q I h;refine wpAny_Call_Name_kw (Xl I hg hm PyProof.Rows.boot_sum ?_ (d:) (d:));refine PyProof.Rows.callWith_builtin1 ?_ Y Y;show wpAny _ _ (spliced ((false,eval (.Call (.Attribute l "values" jv) [] [] js) X.env) :: [])) _ _ s;refine Calls.spliced_cons ?_;refine wpAny_Call_method m.base m.few m.line PySem.F.plainAttrs_dict PySem.F.slot_dict_values PySem.F.type_dict_values (thn (hl jh s σ H _ I h) λv s1 jp=>?_);obtain ⟨x,H1,I1,r1,q1⟩:=jp;obtain ⟨a,kvs,ns,e,hd,tq,q⟩:=q1;subst e;cases r1;obtain ⟨z,m9,vs,j7,dd⟩:=Q7 I1.hok hd;obtain ⟨ep,da⟩:=dd.dictAt;obtain ⟨t1,t2,_⟩:=Zat I1 (.inl ⟨kvs,hd⟩);refine ⟨t1,t2,?_⟩;refine Calls.callWith_builtin Y (PyProof.Rows.evalArgs_empty ?_);refine call_meetsIn PySem.F.slot_dict_values da.dictOf.typeIs PySem.F.entry_dict_values (PySem.F.args_dict_values_1 _) (meets_dict_values (Ye X.prog X.w) a m9) ⟨⟨vs,da.dictOf⟩,?_⟩;refine Calls.spliced_nil ?_;have lt:a < s1.heap.objs.size:=by obtain ⟨o,es,ho,_⟩:=id da; exact Ao ho
 have I3:Inv X jh σ H1 { s1 with heap:=s1.heap.push { cls:=.type "dict_values",data:=.fields #[.ref a] } }:=I1.kept (t':=s1.toks) λb o e=>Ak _ e;generalize nj:({ s1 with heap:=s1.heap.push { cls:=.type "dict_values",data:=.fields #[.ref a] } }:Shared)=s2 at I3 ⊢;have hv2:s2.heap.IsValuesView s1.heap.objs.size a:=by rw [<- nj]; exact ⟨_,Ap _ Y,Y,Y⟩
 have da2:s2.heap.DictAt (Ye X.prog X.w) a vs ep:=by rw [<- nj]; exact da.push _
 have lt2:a < s2.heap.objs.size:=by rw [<- nj]; show a < (s1.heap.push _).objs.size; rw [Heap.size_push]; exact lt_succ_of_lt lt
 have jm:vs.length=ns.length:=by have h1:=j7.length; have h2:=congrArg List.length tq; rw [Ab,Ab] at h2; lia
 refine call_sum_walkG (wpAny_pyIter_values hv2 da2 ⟨s2.heap.objs.size,_,_,_,_,_,λi=>ns.getD i 0,rfl,Walks.dictValues (knd:=Ye X.prog X.w) (A:=X.A.in1) (show X.A.in1.handled=none from I.ok.hd hc) s2.heap.objs.size a (As lt2) vs ep,⟨⟨_,Ap _ rfl,rfl,rfl⟩,da2.push _⟩,?_,λi v ⟨k,hv⟩=>Zk5 j7 tq i k v hv,?_⟩)
 ·intro b hb
  show b < (s2.heap.push _).objs.size;rw [Heap.size_push]
  rcases Ar hb with rfl | hb
  ·exact lt_succ_self _
  ·rw [Af hb]; exact lt_succ_of_lt lt2
 ·intro h' tk t' hk
  have I4:Inv X jh σ H1 { s2 with heap:=h',toks:=tk }:=I3.kept λb o e=>hk b o (λz=>absurd (Ao e) (by rw [Af z]; exact Nat.lt_irrefl _)) (Ak _ e);refine ⟨.int ns.sum,H1,I4,⟨t',?_⟩,q⟩;rw [jm,Za2 ns _ (An _),take_length]
end
end L2
namespace PySem.F
end PySem.F
namespace L2
open PySem PySem.Spec PyProof.Rows
noncomputable def dd (ks:List Int):List Int:=ks.foldl step_dedup []
def Zm0:typeLookup (.type "list_reverseiterator") "__len__"=pure none:=by
 rw [typeLookup_type];rw [builtinLookup_eq_fast]
 kernel_rfl
def Zp3:typeLookup (.type "list_reverseiterator") "__length_hint__"=pure (some (.builtin "list_reverseiterator.__length_hint__")):=by
 rw [typeLookup_type];rw [builtinLookup_eq_fast]
 kernel_rfl
section
variable {prog:Program} {w:World} {A:Around} {E:Value->Shared->Prop} {s:Shared}
def Zjn {I:Addr} {fp wr:List Addr} {G:Array GenState->Array GenState->Prop} {n:Nat} {P:Nat->Value->Prop} {St:Nat->Shared->Prop} {Q:List Value->Shared->Prop}
  (W:WalksS prog w A.in1 I fp wr G n P St) (hT:∀ i z,St i z->z.TypeIs (.ref I) "list_reverseiterator") (h0:St 0 s) (jw:∀ b∈fp,b < s.heap.objs.size) (hI:I∈fp)
  (q:∀ z jq,Moved wr G s z->ItemsOf P jq n->Q jq.toList z) (hn:n<=sizeLine):wpAny (p:) A (collect (.ref I)) Q E s:=by
 have nf:s.heap.objs.size ∉ fp:=λz=>absurd (jw _ z) (Nat.lt_irrefl _);have ni:s.heap.objs.size≠I:=λz=>nf (by rw [z]; exact hI);unfold collect;refine Al ?_;refine wpAny_runValue ?_;refine codeAny_builtin F.entry_proto_collect ?_;rw [Around.under_plainId F.plain_proto_collect _];refine Al (m:=newList []) ?_;refine wpAny_newObj_type ?_;refine wpAny_pure ?_;refine ⟨plainId_quiet F.plain_list_iadd _,?_⟩;refine codeAny_builtin F.entry_list_iadd ?_;rw [Around.under_plainId F.plain_list_iadd _];have k:∀ b o,s.heap.get? b=some o->(s.heap.push { cls:=.type "list",data:=.seq ([]:List Value).toArray }).get? b=some o:=λb o e=>Ak _ e;have h1:=W.frame 0 s _ s.toks h0 (An _) λb _ o e=>k b o e;have hS:(s.heap.push { cls:=.type "list",data:=.seq ([]:List Value).toArray }).get? s.heap.objs.size=some { cls:=.type "list",data:=.seq ([]:List Value).toArray }:=Ap _ rfl;have ns:Builtin.List.listSameRef (.ref s.heap.objs.size) (.ref I)=false:=by
  unfold Builtin.List.listSameRef
  simp [ni]
 show wpAny _ A.in1 (Builtin.List.listExtendWith (.ref s.heap.objs.size) (.ref I) (.ref s.heap.objs.size)) _ _ _;unfold Builtin.List.listExtendWith;refine Al ?_;refine wpAny_typeOf (hT 0 _ h1) ?_;rw [if_neg (by rw [ns]; decide)];refine Al ?_;refine W.self 0 _ _ _ h1 ?_;refine Al ?_;refine wpAny_holding ?_;unfold Builtin.List.listLengthHint;refine Al ?_;refine wpAny_specialOf (hT 0 _ h1) Zm0 ?_;refine Al (m:=specialOf (.ref I) (Str.ofString "__length_hint__")) ?_;refine wpAny_specialOf (hT 0 _ h1) Zp3 ?_;generalize hid:("list_reverseiterator.__length_hint__":String)=nmId
 (fail_if_success (clear hid nmId))
 wp_delta
 rw [show splitId nmId=some ("list_reverseiterator","__length_hint__") by rw [<- hid]; decide +kernel];subst hid;refine Al ?_;refine wpAny_isInstance (b:=true) (hT 0 _ h1) (by rw [isSubtype_type]; kernel_rfl) ?_;refine wpAny_pure ?_;rw [if_neg (d:)];refine wpAny_pure ?_;refine ⟨plainId_quiet F.plain_extend_loop _,?_⟩;refine codeAny_extend_loopS W hn _ nf _ n 0 _ _ _ Y (Az _) h1 hS (ItemsOf.nil P) λz jq c hm hz ha=>?_;show wpAny _ A (load s.heap.objs.size >>= _) _ _ z;refine Al ?_;refine wpAny_load hz ?_;refine wpAny_pure ?_;exact q z jq (Moved.drop_new (o:={ cls:=.type "list",data:=.seq ([]:List Value).toArray }) (tk:=s.toks) hm (An _)) ha
def Zpz {I l:Addr} {its:List Value} {ys:List Str} {x:Str} {t:Tok} {Q:Value->Shared->Prop} (hh:A.handled=none) (j9:l≠I) (mw:s.heap.IsRevIter I l ((its.length:Int) - 1)) (hl:s.heap.IsList l its.toArray)
  (hi:StrsAre its ys) (hsep:x.length<=16) (hw:(ys.map (·.length)).sum + ys.length<=1048576)
  (q:∀ h' t' k,(∀ b o,b≠I->s.heap.get? b=some o->h'.get? b=some o)->Q (.str (Txt.join x ys.reverse) t') { s with heap:=h',toks:=k }):wpAny (p:) A (call (.builtin "str.join") [.str x t,.ref I]) Q E s:=by
 have W:=(Walks.listRev (prog:=prog) (w:=w) (A:=A.in1.in1) hh I l j9 its.toArray).toS;have hT:∀ i (z:Shared),(i<=its.toArray.size/\z.heap.IsRevIter I l ((its.toArray.size:Int) - 1 - (i:Int))/\z.heap.IsList l its.toArray)->z.TypeIs (.ref I) "list_reverseiterator":=λi z h=>h.2.1.typeIs;have h0:0<=its.toArray.size/\s.heap.IsRevIter I l ((its.toArray.size:Int) - 1 - ((0:Nat):Int))/\s.heap.IsList l its.toArray:=⟨Az _,by simpa using mw,hl⟩;have hly:its.length=ys.length:=hi.length;refine wpAny_call ?_;refine codeAny_call_builtin F.slot_str_join.plain F.entry_str_join ?_;refine F.slot_str_join.check _ _ _ _ _ _ _ _ (typeIs_str _ _ _) (F.args_str_join_2 _ _) ?_;rw [join_tree_other];refine Al ?_;refine wpAny_typeOf (hT 0 s h0) ?_;show wpAny _ A.in1 ((pyIter (.ref I)).tryCatch _ >>= λit=>collect it >>= λzs=>joinTail x zs) _ _ s;refine Al ?_;refine wpAny_tryCatch ?_;refine W.of_in1.self 0 s _ _ h0 ?_;refine Al ?_;have jw:∀ b∈[I,l],b < s.heap.objs.size:=λb hb=>by
  rcases Ar hb with z | z
  ·obtain ⟨o,e,_⟩:=mw.typeIs
   subst z
   exact Ao e
  ·rw [Af z]
   obtain ⟨o,e,_⟩:=hl
   exact Ao e
 refine Zjn W hT h0 jw mem_cons_self (λz jq hm ha=>?_) (by rw [Aq,sizeLine_eq]; lia);have ea:jq.toList=its.reverse:=by
  refine ext_getElem? λj=>?_
  have hz:jq.size=its.length:=ha.1.trans Aq
  by_cases c:j < its.length
  ·have hj:j < jq.size:=by lia
   have h2:=ha.2 j _ (Array.getElem?_eq_getElem hj)
   rw [Array.getElem?_toList,Array.getElem?_eq_getElem hj,getElem?_reverse c,<- h2]
   simp
  ·rw [Ay (by rw [Array.length_toList]; lia),Ay (by rw [length_reverse]; lia)]
 obtain ⟨ps,zy⟩:=exists_strValues its.reverse λv hv=>hi.all v (mem_reverse.mp hv);have ey:ps.map (·.1)=ys.reverse:=by
  rw [<- hi.strs,<- map_reverse,<- zy]
  unfold strValues
  rw [map_map]
  rfl
 rw [ea,<- zy];have ok:JoinOk x (ps.map (·.1))=true:=joinOk_of_weight (by rw [ey]; simpa using hw) hsep;unfold JoinOk at ok;rw [Bool.not_eq_true'] at ok;have g:Gives (joinTail x (strValues ps)) (joinMade x ps):=by
  have g0:=gives_joinTail x ps ok
  rcases ps with _ | ⟨p,_ | ⟨p',r⟩⟩
  ·exact g0
  ·exact g0
  ·exact g0
 refine g prog w A (wants Q E) z (post_join ps ⟨joinFit_length ok,λt' k=>?_⟩);rw [ey];obtain ⟨zh,zg,zd,zt,zo⟩:=z;obtain ⟨m1,m2,m3,m4,m5⟩:=hm;have m2:zg=s.gens:=m2;have m3:zd=s.drawn:=m3;have m4:zo=s.os:=m4;subst m2 m3 m4;exact q zh t' k λb o hb e=>m1 b o (λz=>hb (Af z)) e
end
section
variable {X:Cx}
def Zl9 (K:W.Frag) (to:TE) (ta:TA):TE:=λσ H Q=>to σ H λx H1=>∃ l6,x=.str l6/\ta σ H1 λvs H2=>∃ a ys,vs=[.ref a]/\SqL K H2 a (List.map V.str ys)/\l6.length<=16/\(ys.map (·.length)).sum + ys.length<=1048576/\Q (.str (Txt.join l6 ys.reverse)) H2
def Zi0 {o l:Expr} {to:TE} {ta:TA} {p1 jv js qd:Pos} (hg:Gl X "reversed") (hm:X.mg "reversed"=none) (hc:X.calm=true) (ho:PE X o to) (ha:PA X [l] ta)
  (on:attributeBase o "join" X.env (eval o X.env)=eval o X.env:=by rfl)
  (rg:((backTo js (starEach [.Call (.Name "reversed" p1) [l] [] qd] X.env)).all (λx=>!x.1) && (backToKw js (keywordEach [] X.env)).all (λx=>x.1.isSome)
   && decide ([Expr.Call (.Name "reversed" p1) [l] [] qd].length + ([]:List Keyword).length + (if ([]:List Keyword).isEmpty then 0 else 1) < 30))=true:=by rfl)
  (oj:(jv.endLine == js.line)=true:=by rfl) (hs:starEach [.Call (.Name "reversed" p1) [l] [] qd] X.env=[(false,eval (.Call (.Name "reversed" p1) [l] [] qd) X.env)]:=by rfl) (yi:starEach [l] X.env=[(false,eval l X.env)]:=by rfl) :
  PE X (.Call (.Attribute o "join" jv) [.Call (.Name "reversed" p1) [l] [] qd] [] js) (Zl9 X.K to ta):=by
 intro jh s σ H Q I h;refine wpAny_Call_method_late on rg oj Y (thn (ho jh s σ H _ I h) λv s1 jp=>?_);obtain ⟨x,H1,I1,r1,q1⟩:=jp;obtain ⟨l6,rfl,q1⟩:=q1;obtain ⟨h1,h2⟩:=Zjt (T:="str") I1 r1 (by first | rfl | exact trivial);refine ⟨"str","str.join",PySem.F.plainAttrs_str,PySem.F.slot_str_join,PySem.F.type_str_join,h1,h2,?_⟩;obtain ⟨t,rfl⟩:=r1;rw [hs];refine Calls.callWith_builtin Y (Calls.evalArgs_plain ?_);refine Calls.spliced_cons ?_;refine Call_ (Xl I1 hg hm boot_reversed (PyProof.Rows.callWith_type1 (thn (ha qd jh s1 σ H1 _ I1 q1) λus s2 zz39=>?_) yi Y));obtain ⟨vs,H2,I2,r2,q2⟩:=zz39;obtain ⟨a,ys,e,hq,w1,w2,q⟩:=q2;subst e;obtain ⟨u,rfl,ru⟩:=Xm r2;cases ru;obtain ⟨its,rv,pl,_⟩:=I2.list hq;refine call_reversed_list pl.isList ?_;refine Calls.spliced_nil ?_;have I3:Inv X jh σ H2 { s2 with heap:=s2.heap.push (revObj a ((its.toArray.size:Int) - 1)) }:=I2.kept (t':=s2.toks) λb o e=>Ak _ e;have ne:a≠s2.heap.objs.size:=λz=>by
  obtain ⟨o,e,_⟩:=pl.isList
  exact As (Ao e) z
 have hl3:(s2.heap.push (revObj a ((its.toArray.size:Int) - 1))).IsList a its.toArray:=pl.isList.at λo e=>Ak _ e;have mw:(s2.heap.push (revObj a ((its.toArray.size:Int) - 1))).IsRevIter s2.heap.objs.size a ((its.length:Int) - 1):=by
  rw [show ((its.length:Int) - 1)=((its.toArray.size:Int) - 1) by simp]
  exact ⟨_,Ap _ Y,Y,Y⟩
 refine Zpz (I2.ok.hd hc) ne mw hl3 (by simpa using Fv rv) w1 w2 λh' t' k hk=>?_;refine ⟨.str _,H2,I2.kept (t':=k) λb o e=>hk b o (λz=>?_) (Ak _ e),⟨_,Y⟩,q⟩;exact As (Ao e) z
def Zrk:OpR X (compareOp .In) (λx y H Q=>∃ a b,x=.str a/\y=.str b/\Q (.bl (Txt.contains b a)) H):=by
 intro jh s σ H x y v u Q I rx ry h;obtain ⟨a,b,rfl,rfl,q⟩:=h;obtain ⟨t,rfl⟩:=rx;obtain ⟨t',rfl⟩:=ry;exact PySem.SB.contains ⟨.bl _,H,I,Y,q⟩
def Zge (K:W.Frag) (h:X.K=K:=by rfl):Y2 X (.builtin "isinstance") (λxs H Q=>∃ x T t b,xs=[x,V.ty T]/\TyOf K H x t/\PySem.W.kitOne K t (.type T)=some b/\Q (V.bl b) H):=h ▸ Zg8
def jStr (te:TE) (t:TJ):TJ:=λout σ H Q=>te σ H λv H1=>∃ x:Str,v=.str x/\x.length<=sizeLine/\(out ++ x).length<=sizeLine/\t (out ++ x) σ H1 Q
def Zrb {e:Expr} {es:List Expr} {te:TE} {t:TJ} {pos:Pos} (he:PE X e te) (h:PJ X es t):PJ X (.FormattedValue e (-1) none pos :: es) (jStr te t):=by
 intro out jh s σ H Q I hq;refine joinParts_cons (FormattedValue_plain (thn (he jh s σ H _ I hq) λu s1 jp=>?_));obtain ⟨v,H1,I1,r1,x,ev,hl,hz,q⟩:=jp;subst ev;obtain ⟨tk,rfl⟩:=r1;exact formatField_str (λt' k=>⟨hz,h _ jh _ σ H1 Q (I1.tok _) q⟩) hl
end
end L2
namespace HL
open PySem PyProof.Rows HT
end HL
namespace L2
open PySem PySem.Spec PyProof.Rows
def Ztm (i j:Int):Prop:=0<=j/\(Builtin.Int.intBits i:Int) * j<=2 ^ 27
def Zpl {X:Cx}:OpR X (binaryOp .Pow) (rI Ztm λi j=>.int (i ^ j.toNat)):=opI λ_ _ _ _ _ _ _ hc q=>pow_int hc.1 hc.2 q
def Zfx {X:Cx}:PIp X .FloorDiv (λx y H Q=>∃ i j,x=.int i/\y=.int j/\Za1 i j/\Q (.int (i / j)) H):=by
 intro jh s σ H x y v u Q I r1 r2 h;obtain ⟨i,j,e1,e2,hc,q⟩:=h;subst e1; subst e2;obtain ⟨t,rfl⟩:=r1;obtain ⟨t',rfl⟩:=r2;have h1:(0:Int) < j:=hc.1;refine ifloordiv_int (by lia) ?_ (.inl (PyProof.noPylong_of_log2 hc.2));rw [Int.fdiv_eq_ediv_of_nonneg i (by lia)];exact ⟨.int _,H,I.tok _,⟨_,Y⟩,q⟩
section
variable {X:Cx}
def Asc (x:Str):Prop:=∀ c∈x.cps.toList,c < 128
def Asc.all {x:Str} (h:Asc x):x.cps.all (· < 128)=true:=by
 rw [<- Array.all_toList,all_eq_true];exact λc hc=>decide_eq_true (h c hc)
def Asc.app {x y:Str} (h:Asc x) (h':Asc y):Asc (x ++ y):=by
 intro c hc;have:(x ++ y).cps.toList=x.cps.toList ++ y.cps.toList:=Array.toList_append;rw [this] at hc;exact (mem_append.mp hc).elim (h c) (h' c)
def Asc.join {ys:List Str} (h:∀ y∈ys,Asc y):Asc (Txt.join (w:) ys):=by
 intro c hc;rw [Fn] at hc;obtain ⟨l,hl,hc⟩:=mem_flatten.mp hc;obtain ⟨y,hy,rfl⟩:=mem_map.mp hl;exact h y hy c hc
end
def Asc.num (i:Int):Asc (Str.ofString (toString i)):=λc hc=>by
 refine Decidable.byContradiction λh=>?_;exact int_text_free' c ⟨by lia,by lia⟩ i hc
theorem Zgi {l6:Str} (hs:Asc l6):∀ (l:List Str) (a:Array Nat),(∀ c∈a.toList,c < 128)->(∀ y∈l,Asc y)->∀ c∈(l.foldl (λjq p=>jq ++ l6.cps ++ p.cps) a).toList,c < 128
 | [],a,ha,_,c,hc=>ha c hc
 | y :: l,a,ha,hl,c,hc=>by
  refine Zgi hs l (a ++ l6.cps ++ y.cps) (λd hd=>?_) (λz hz=>hl z (mem_cons_of_mem _ hz)) c hc;rw [Array.toList_append,Array.toList_append] at hd
  rcases mem_append.mp hd with h | h
  ·rcases mem_append.mp h with h | h
   ·exact ha d h
   ·exact hs d h
  ·exact hl y mem_cons_self d h
def Asc.joinS {l6:Str} {ys:List Str} (hs:Asc l6) (h:∀ y∈ys,Asc y):Asc (Txt.join l6 ys):=by
 unfold Txt.join Builtin.Str.glued
 cases ys with
 | nil=>intro c hc; have hc:c∈([]:List Nat):=hc; cases hc
 | cons y l=>exact Zgi hs l y.cps (h y mem_cons_self) λz hz=>h z (mem_cons_of_mem _ hz)
theorem Zcy {l6:Str}:∀ (l:List Str) (a:Array Nat),(l.foldl (λjq p=>jq ++ l6.cps ++ p.cps) a).size=a.size + (l.map (·.length)).sum + l.length * l6.length
 | [],a=>by simp
 | y :: l,a=>by
  rw [foldl_cons,Zcy l,Array.size_append,Array.size_append,map_cons,sum_cons,length_cons,Nat.add_mul];show a.size + l6.length + y.length + _ + _=_;lia
def Zne (l6:Str) (ys:List Str):(Txt.join l6 ys).length<=(ys.map (·.length)).sum + ys.length * l6.length:=by
 unfold Txt.join Builtin.Str.glued
 cases ys with
 | nil=>exact Az _
 | cons y l =>
  show (l.foldl (λjq p=>jq ++ l6.cps ++ p.cps) y.cps).size<=_;rw [Zcy,map_cons,sum_cons,length_cons,Nat.add_mul];show y.length + _ + _<=_;lia
theorem Za3 {B:Nat}:∀ {l:List Str},(∀ x∈l,x.length<=B)->(l.map (·.length)).sum<=B * l.length
 | [],_=>An _
 | x :: l,h=>by
  have h1:=h x mem_cons_self;have h2:=Za3 (l:=l) λy hy=>h y (mem_cons_of_mem _ hy);rw [map_cons,sum_cons,length_cons,Nat.mul_add];lia
def U0 (x y:Str):(x ++ y).length=x.length + y.length:=Array.size_append
section
variable {P:Program} {w:World} {A:Around} {E:Value->Shared->Prop} {s:Shared}
def Zll (hh:A.handled=none) (it t:Addr) (j9:t≠it) (its:Array Value):Draws P w A it [it,t] its.size (λi v=>its[i]?=some v) (λi h=>IsTupIter h it t i/\IsTup h t its):=by
 refine ⟨λ_ _ st=>let ⟨o,ho,_⟩:=st.1; ⟨o,ho⟩,λ_ _ _ st k=>?_,λi s Q E hi st hQ=>?_,λs Q E st hE=>?_⟩
 ·obtain ⟨⟨o,ho,r⟩,o2,qj,r2⟩:=st
  exact ⟨⟨o,k it (by simp) o ho,r⟩,o2,k t (by simp) o2 qj,r2⟩
 ·obtain ⟨mw,ht⟩:=st
  obtain ⟨o,ho,hc,hd⟩:=id mw;obtain ⟨ol,z0,_,nl,vt⟩:=id ht;have hx:its[i]?=some its[i]:=Array.getElem?_eq_getElem hi;unfold Builtin.SmallTypes.nextOf;refine Al (wpAny_callSpecial?_slot (name:=Str.ofString "__next__") mw.typeIs slot_tupleiter_next (wpAny_call_entry slot_tupleiter_next mw.typeIs entry_tupleiter_next ?_ (args_tupleiter_next _)));refine Al (m:=field (.ref it) 0) (wpAny_field ho hd (x:=.ref t) Y ?_);show wpAny _ _ (if (Value.ref t == Value.none)=true then _ else _) _ _ s;rw [if_neg (show ¬ ((Value.ref t == Value.none)=true) from Bool.false_ne_true)];refine Al (m:=field (.ref it) 1) (wpAny_field ho hd (x:=.int i 0) Y (Al (m:=seqItems? (.ref t)) (wpAny_seqItems z0 vt ?_)));simp only [Int.toNat_natCast,hx];refine Al (wpAny_setField ho hd (by simp) (wpAny_pure ⟨its[i],Y,wpAny_pure (hQ _ _ s.toks hx ⟨?_,(Heap.get?_update_other _ _ (Ne.symm j9)).trans z0 |> λe=>⟨ol,e,‹_›,nl,vt⟩⟩ (Heap.SameBut.update ..))⟩));exact ⟨_,Heap.get?_update_self _ ho (Obj.isFreed_of_fields (Obj.data_mapFields hd _)),(Obj.cls_mapFields ..).trans hc,by rw [Obj.data_mapFields hd]; simp [rawInt]⟩
 ·obtain ⟨mw,ht⟩:=st
  obtain ⟨o,ho,hc,hd⟩:=id mw;obtain ⟨ol,z0,_,nl,vt⟩:=id ht;unfold Builtin.SmallTypes.nextOf;refine Al (wpAny_callSpecial?_slot (name:=Str.ofString "__next__") mw.typeIs slot_tupleiter_next (wpAny_call_entry slot_tupleiter_next mw.typeIs entry_tupleiter_next ?_ (args_tupleiter_next _)));refine Al (m:=field (.ref it) 0) (wpAny_field ho hd (x:=.ref t) Y ?_);show wpAny _ _ (if (Value.ref t == Value.none)=true then _ else _) _ _ s;rw [if_neg (show ¬ ((Value.ref t == Value.none)=true) from Bool.false_ne_true)];refine Al (m:=field (.ref it) 1) (wpAny_field ho hd (x:=.int its.size 0) Y (Al (m:=seqItems? (.ref t)) (wpAny_seqItems z0 vt ?_)));simp only [Int.toNat_natCast,Array.getElem?_eq_none (An its.size)];refine Al (wpAny_rule (Al (wpAny_setField ho hd (by simp) ?_)));refine Al (m:=newExc (.type "StopIteration") []) ?_;simp only [newExc,newTuple];refine Al (wpAny_newObj_type ?_ (by size_fits));refine Al (m:=firstArgMember _ _) (wpAny_of_eq (a:=Value.none) (by first | rfl | (simp only [firstArgMember]; rfl)) (wpAny_newObj_type ?_ (by size_fits)));exact wpAny_raiseNew_none (A:=A.in1) hh (hE _ _ (((Heap.SameBut.update ..).extBut.push _).push _) ⟨_,Ap _ Y,Y⟩)
structure ZA (z TI TO i1 i2:Addr) (f1 f2:List Addr):Prop where
 TIz:TI≠z
 TOz:TO≠z
 i1z:i1≠z
 i2z:i2≠z
 TITO:TI≠TO
 TIi1:TI≠i1
 TIi2:TI≠i2
 TOi1:TO≠i1
 TOi2:TO≠i2
 i12:i1≠i2
 z1:z ∉ f1
 z2:z ∉ f2
 t1:TO ∉ f1
 t2:TO ∉ f2
 a1:i2 ∉ f1
 a2:i1 ∉ f2
variable {z TI TO i1 i2:Addr} {f1 f2:List Addr} {n1 n2:Nat} {P1 P2:Nat->Value->Prop} {S1 S2:Nat->Heap->Prop} {a b:Value}
def Zjs {k:Nat} {Q:Option Value->Shared->Prop} (D1:Draws P w A.in1 i1 f1 n1 P1 S1) (D2:Draws P w A.in1 i2 f2 n2 P2 S2) (D:ZA z TI TO i1 i2 f1 f2) (hz:IsZip s.heap z TI TO .none) (hTI:IsPair s.heap TI (.ref i1) (.ref i2)) (hTO:IsPair s.heap TO a b)
  (s1:S1 k s.heap) (s2:S2 k s.heap) (l1:k < n1) (l2:k < n2)
  (hQ:∀ x y h' tk,P1 k x->P2 k y->IsZip h' z TI TO (rawInt s.heap.objs.size)->IsPair h' TO x y->S1 (k + 1) h'->S2 (k + 1) h'->IsPair h' s.heap.objs.size x y ->
   (∀ c o,c≠z->c≠TO->c≠i1->c≠i2->s.heap.get? c=some o->h'.get? c=some o)->Q (some (.ref s.heap.objs.size)) { s with heap:=h',toks:=tk }):wpAny (model P w) A (pyNext (.ref z)) Q E s:=by
 have hT:s.TypeIs (.ref z) "zip":=⟨_,hz,rfl⟩;unfold pyNext;refine Al (wpAny_attempt (wpAny_callSpecial?_slot (name:=Str.ofString "__next__") hT PySem.F.slot_zip_next (wpAny_call_entry PySem.F.slot_zip_next hT PySem.F.entry_zip_next ?_ (PySem.F.args_zip_next_1 _))));refine Al (m:=field (.ref z) 2) (wpAny_field hz Y (x:=.bool false) Y ?_);refine Al (m:=field (.ref z) 3) (wpAny_field hz Y (x:=.ref TI) Y (Al (wpAny_seqItems hTI Y ?_)));refine Al (m:=Builtin.SmallTypes.ownedTupleIsFree (.ref z)) ?_;unfold Builtin.SmallTypes.ownedTupleIsFree;refine Al (wpAny_field hz Y (x:=.none) Y (wpAny_pure ?_));simp only [if_true];refine Al (wpAny_rule (Al (wpAny_field hz Y (x:=.ref TO) Y (Al (wpAny_setField_rec hz (by simp) λg1 q1 b1=>?_)))));replace q1:IsZip g1 z TI TO .ellipsis:=q1;refine Al ?_;simp only [zipIdx_cons,zipIdx_nil,forIn_cons,forIn_nil];refine Al (Al (wpAny_onRaise (Al (m:=Builtin.SmallTypes.nextOf (.ref i1)) (D1.item k _ _ _ l1 (D1.frame k _ _ s1 λc hc o e=>b1.extBut c o (λq=>D.z1 (q ▸ hc)) e) λx g2 tk2 px kn b2=>wpAny_pure ?_))));have r2:IsPair g2 TO a b:=b2.extBut _ _ D.TOi1 (b1.extBut _ _ D.TOz hTO);refine Al (wpAny_seqItems r2 Y (Al (wpAny_updateSeq_pair r2 λg3 r3 b3=>Al (wpAny_letGo (wpAny_pure ?_)))));replace r3:IsPair g3 TO x b:=r3;have ou:S2 k g3:=D2.frame k _ _ s2 λc hc o e=>b3.extBut c o (λq=>D.t2 (q ▸ hc)) (b2.extBut c o (λq=>D.a2 (q ▸ hc)) (b1.extBut c o (λq=>D.z2 (q ▸ hc)) e));refine Al (Al (wpAny_onRaise (Al (m:=Builtin.SmallTypes.nextOf (.ref i2)) (D2.item k _ _ _ l2 ou λy g4 tk4 py wj b4=>wpAny_pure ?_))));have r4:IsPair g4 TO x b:=b4.extBut _ _ D.TOi2 r3;refine Al (wpAny_seqItems r4 Y (Al (wpAny_updateSeq_pair r4 λg5 r5 b5=>Al (wpAny_letGo (wpAny_pure (wpAny_pure ?_))))));replace r5:IsPair g5 TO x y:=r5;refine Al (wpAny_seqItems r5 Y (Al (wpAny_newTuple ?_)));have sz:g5.objs.size=s.heap.objs.size:=by rw [b5.1,b4.1,b3.1,b2.1,b1.1]
 have q5:IsZip g5 z TI TO .ellipsis:=b5.extBut _ _ D.TOz.symm (b4.extBut _ _ D.i2z.symm (b3.extBut _ _ D.TOz.symm (b2.extBut _ _ D.i1z.symm q1)));have k5:∀ c o,c≠z->c≠TO->c≠i1->c≠i2->s.heap.get? c=some o->g5.get? c=some o:=λc o c1 c2 c3 c4 e=>b5.extBut _ _ c2 (b4.extBut _ _ c4 (b3.extBut _ _ c2 (b2.extBut _ _ c3 (b1.extBut _ _ c1 e))));have u1:S1 (k + 1) g5:=D1.frame _ _ _ kn λc hc o e=>b5.extBut c o (λq=>D.t1 (q ▸ hc)) (b4.extBut c o (λq=>D.a1 (q ▸ hc)) (b3.extBut c o (λq=>D.t1 (q ▸ hc)) e));have u2:S2 (k + 1) g5:=D2.frame _ _ _ wj λc hc o e=>b5.extBut c o (λq=>D.t2 (q ▸ hc)) e;have zl:z < g5.objs.size:=Ao q5;refine Al (m:=Builtin.SmallTypes.ownedTupleHandOut (.ref z) (.ref g5.objs.size)) ?_;unfold Builtin.SmallTypes.ownedTupleHandOut;refine Al (wpAny_setField_rec (show IsZip (g5.push { cls:=.type "tuple",data:=.seq #[x,y] }) z TI TO .ellipsis from Ak _ q5) (by simp) λg7 q7 b7=>?_);replace q7:IsZip g7 z TI TO (rawInt g5.objs.size):=q7;refine wpAny_setField_rec q7 (by simp) λg8 q8 b8=>?_;replace q8:IsZip g8 z TI TO (rawInt g5.objs.size):=q8;have up:∀ c o,c≠z->g5.get? c=some o->g8.get? c=some o:=λc o c1 e=>b8.extBut _ _ c1 (b7.extBut _ _ c1 (Ak _ e));have r8:IsPair g8 g5.objs.size x y:=b8.extBut _ _ (Nat.ne_of_gt zl) (b7.extBut _ _ (Nat.ne_of_gt zl) (Ap _ rfl));rw [sz] at q8 r8;refine wpAny_pure ⟨_,Y,wpAny_pure ?_⟩;show Q (some (.ref g5.objs.size)) _;rw [sz];exact hQ x y g8 tk4 px py q8 (up _ _ D.TOz r5) (D1.frame _ _ _ u1 λc hc o e=>up c o (λq=>D.z1 (q ▸ hc)) e) (D2.frame _ _ _ u2 λc hc o e=>up c o (λq=>D.z2 (q ▸ hc)) e) r8 λc o c1 c2 c3 c4 e=>up c o c1 (k5 c o c1 c2 c3 c4 e)
def Zl2 {k:Nat} {Q:Option Value->Shared->Prop} (D1:Draws P w A.in1 i1 f1 n1 P1 S1) (D2:Draws P w A.in1 i2 f2 n2 P2 S2) (D:ZA z TI TO i1 i2 f1 f2) (hz:IsZip s.heap z TI TO .none) (hTI:IsPair s.heap TI (.ref i1) (.ref i2)) (hTO:IsPair s.heap TO a b)
  (s1:S1 k s.heap) (s2:S2 k s.heap) (l1:k=n1\/k < n1/\k=n2)
  (hQ:∀ h' tk,(∀ c o,c≠z->c≠TO->c≠i1->c≠i2->s.heap.get? c=some o->h'.get? c=some o)->Q none { s with heap:=h',toks:=tk }):wpAny (model P w) A (pyNext (.ref z)) Q E s:=by
 have hT:s.TypeIs (.ref z) "zip":=⟨_,hz,rfl⟩;have kh:∀ (h':Heap) (tk:Nat) (e:Addr),(∀ c o,c≠z->c≠TO->c≠i1->c≠i2->s.heap.get? c=some o->h'.get? c=some o)->(∃ o,h'.get? e=some o/\o.cls=.type "StopIteration") ->
   wpAny (model P w) A (do if <- isInstance (.ref e) (.type "StopIteration") then pure (none:Option Value) else throw (.ref e)) Q E { s with heap:=h',toks:=tk }:=λh' tk e kp ⟨o,ho,hc⟩ =>
  Al (wpAny_isInstance (T:="StopIteration") (b:=true) ⟨o,ho,hc⟩ isSubtype_stop (wpAny_pure (hQ _ _ kp)))
 unfold pyNext;refine Al (wpAny_attempt (wpAny_callSpecial?_slot (name:=Str.ofString "__next__") hT PySem.F.slot_zip_next (wpAny_call_entry PySem.F.slot_zip_next hT PySem.F.entry_zip_next ?_ (PySem.F.args_zip_next_1 _))));refine Al (m:=field (.ref z) 2) (wpAny_field hz Y (x:=.bool false) Y ?_);refine Al (m:=field (.ref z) 3) (wpAny_field hz Y (x:=.ref TI) Y (Al (wpAny_seqItems hTI Y ?_)));refine Al (m:=Builtin.SmallTypes.ownedTupleIsFree (.ref z)) ?_;unfold Builtin.SmallTypes.ownedTupleIsFree;refine Al (wpAny_field hz Y (x:=.none) Y (wpAny_pure ?_));simp only [if_true];refine Al (wpAny_rule (Al (wpAny_field hz Y (x:=.ref TO) Y (Al (wpAny_setField_rec hz (by simp) λg1 q1 b1=>?_)))));replace q1:IsZip g1 z TI TO .ellipsis:=q1;refine Al ?_;simp only [zipIdx_cons,zipIdx_nil,forIn_cons,forIn_nil];have ub:S1 k g1:=D1.frame k _ _ s1 λc hc o e=>b1.extBut c o (λq=>D.z1 (q ▸ hc)) e
 rcases l1 with rfl | ⟨l1,rfl⟩
 ·refine Al (Al (wpAny_onRaise (Al (m:=Builtin.SmallTypes.nextOf (.ref i1)) (D1.done _ _ _ ub λg2 e b2 ⟨oe,uk,hce⟩=>?_))))
  have q2:IsZip g2 z TI TO .ellipsis:=b2 _ _ D.i1z.symm q1;have ez:e≠z:=λx=>by subst x; rw [q2] at uk; cases uk; simp at hce
  exact wpAny_setField_rec q2 (by simp) λg3 _ b3=>kh g3 s.toks e (λc o c1 _ c3 _ x=>b3.extBut _ _ c1 (b2 _ _ c3 (b1.extBut _ _ c1 x))) ⟨oe,b3.extBut _ _ ez uk,hce⟩
 ·refine Al (Al (wpAny_onRaise (Al (m:=Builtin.SmallTypes.nextOf (.ref i1)) (D1.item k _ _ _ l1 ub λx g2 tk2 px kn b2=>wpAny_pure ?_))))
  have r2:IsPair g2 TO a b:=b2.extBut _ _ D.TOi1 (b1.extBut _ _ D.TOz hTO);refine Al (wpAny_seqItems r2 Y (Al (wpAny_updateSeq_pair r2 λg3 r3 b3=>Al (wpAny_letGo (wpAny_pure ?_)))));have ou:S2 k g3:=D2.frame k _ _ s2 λc hc o e=>b3.extBut c o (λq=>D.t2 (q ▸ hc)) (b2.extBut c o (λq=>D.a2 (q ▸ hc)) (b1.extBut c o (λq=>D.z2 (q ▸ hc)) e));refine Al (Al (wpAny_onRaise (Al (m:=Builtin.SmallTypes.nextOf (.ref i2)) (D2.done _ _ _ ou λg4 e b4 jp=>?_))));obtain ⟨oe,uk,hce⟩:=jp;have q4:IsZip g4 z TI TO .ellipsis:=b4 _ _ D.i2z.symm (b3.extBut _ _ D.TOz.symm (b2.extBut _ _ D.i1z.symm q1));have ez:e≠z:=λx=>by subst x; rw [q4] at uk; cases uk; simp at hce
  exact wpAny_setField_rec q4 (by simp) λg5 _ b5=>kh g5 tk2 e (λc o c1 c2 c3 c4 x=>b5.extBut _ _ c1 (b4 _ _ c4 (b3.extBut _ _ c2 (b2.extBut _ _ c3 (b1.extBut _ _ c1 x))))) ⟨oe,b5.extBut _ _ ez uk,hce⟩
end
inductive ZS where
 | l (a:Addr)
 | t (a:Addr)
 | s (x:Str)
noncomputable def ZS.ad:ZS->List Addr
 | .l a=>[a]
 | .t a=>[a]
 | .s _=>[]
def ZS.has (K:W.Frag) (H:Hp) (S:ZS) (xs:List V):Prop:=match S with
 | .l a=>SqL K H a xs
 | .t a=>SqT K H a xs
 | .s x=>x.cps.all (· < 128)=true/\xs=x.cps.toList.map λc=>V.str ⟨#[c]⟩
def ZS.it (S:ZS) (i:Addr) (k:Nat) (h:Heap):Prop:=match S with
 | .l a=>h.IsListIter i a k
 | .t a=>IsTupIter h i a k
 | .s x=>∃ t,h.IsStrIter i "str_ascii_iterator" x t k
noncomputable def ZS.v:ZS->V
 | .l a=>.ref a
 | .t a=>.ref a
 | .s x=>.str x
def ZS.it_obj {S:ZS} {i:Addr} {k:Nat} {h:Heap} (st:S.it i k h):∃ o,h.get? i=some o/\∀ v,o.data≠.cell v:=by
 cases S with
 | l a=>obtain ⟨o,e,_,d⟩:=st; exact ⟨o,e,λv z=>by rw [d] at z; cases z⟩
 | t a=>obtain ⟨o,e,_,d⟩:=st; exact ⟨o,e,λv z=>by rw [d] at z; cases z⟩
 | s x=>obtain ⟨t,o,e,_,d⟩:=st; exact ⟨o,e,λv z=>by rw [d] at z; cases z⟩
def ZS.it_keep {S:ZS} {i:Addr} {k:Nat} {h h':Heap} (st:S.it i k h) (kp:∀ o,h.get? i=some o->h'.get? i=some o):S.it i k h':=by
 cases S with
 | l a=>obtain ⟨o,e,r⟩:=st; exact ⟨o,kp o e,r⟩
 | t a=>obtain ⟨o,e,r⟩:=st; exact ⟨o,kp o e,r⟩
 | s x=>obtain ⟨t,o,e,r⟩:=st; exact ⟨t,o,kp o e,r⟩
def ZS.has_inj {X:Cx} {jh:List (m:)} {σ:List (Option V)} {H:Hp} {s:Shared} (I:Inv X jh σ H s) {S:ZS} {xs ys:List V} (h1:S.has X.K H xs) (h2:S.has X.K H ys):xs=ys:=by
 cases S with
 | l a=>exact I.list_inj h1 h2
 | t a=>exact I.tuple_inj h1 h2
 | s x=>rw [h1.2,h2.2]
section
variable {X:Cx} {jh:List (m:)} {σ:List (Option V)} {H:Hp} {s:Shared}
def ZS.draws (I:Inv X jh σ H s) {A:Around} (hh:A.handled=none) {S:ZS} {xs:List V} (h:S.has X.K H xs) {i:Addr} (hi:i ∉ S.ad) {k:Nat} (st:S.it i k s.heap) :
  ∃ (P1:Nat->Value->Prop) (St:Nat->Heap->Prop),Draws X.prog X.w A i (i :: S.ad) xs.length P1 St/\St k s.heap/\(∀ k h,St k h->S.it i k h)/\∀ (k:Nat) (v:Value) (x:V),P1 k v->xs[k]?=some x->RelV x v:=by
 cases S with
 | l a =>
  obtain ⟨its,rv,pl,_⟩:=I.list h;have hl:xs.length=its.toArray.size:=by rw [Aq]; exact rv.length
  have j9:a≠i:=λz=>hi (by rw [z]; exact mem_singleton.mpr Y);refine ⟨_,_,hl ▸ Draws.list hh i a j9 its.toArray,⟨st,pl.isList⟩,λk h st=>st.1,λk v x hv hx=>?_⟩;obtain ⟨u,hu,ru⟩:=rv.get hx;have:its.toArray[k]?=some v:=hv;rw [getElem?_toArray,hu] at this;cases this;exact ru
 | t a =>
  obtain ⟨its,rv,pl,_⟩:=I.tuple h;have hl:xs.length=its.toArray.size:=by rw [Aq]; exact rv.length
  have j9:a≠i:=λz=>hi (by rw [z]; exact mem_singleton.mpr Y);refine ⟨_,_,hl ▸ Zll hh i a j9 its.toArray,⟨st,pl⟩,λk h st=>st.1,λk v x hv hx=>?_⟩;obtain ⟨u,hu,ru⟩:=rv.get hx;have:its.toArray[k]?=some v:=hv;rw [getElem?_toArray,hu] at this;cases this;exact ru
 | s x =>
  obtain ⟨ha,rfl⟩:=h;obtain ⟨t,st⟩:=st;have hl:(x.cps.toList.map λc=>V.str ⟨#[c]⟩).length=x.cps.size:=by rw [Ab,Array.length_toList]
  refine ⟨_,_,hl ▸ Draws.strAscii hh i x t,st,λk h st=>⟨t,st⟩,λk v y hv hy=>?_⟩;obtain ⟨c,u,hc,rfl⟩:=hv;rw [Ah,Array.getElem?_toList,hc] at hy;cases hy;exact ⟨u,Y⟩
end
noncomputable def Itz2 (K:W.Frag) (S T:ZS):It :=
  ⟨λi H=>∃ xs ys x y,S.has K H xs/\T.has K H ys/\xs[i]?=some x/\ys[i]?=some y,
   λi H v H'=>∃ q x y,H q=none/\v=.ref q/\(∀ xs,S.has K H xs->xs[i]?=some x)/\(∀ ys,T.has K H ys->ys[i]?=some y)/\H'=upd H q (.tup [x,y]),
   λi H=>∃ xs ys,S.has K H xs/\T.has K H ys/\i=xs.length/\xs.length=ys.length⟩
def m5 {α:Type} {c z a b d e:α}:c∈[z,a,b,d,e] ↔ c=z\/c=a\/c=b\/c=d\/c=e:=by simp
def m4 {α:Type} {c z a b d:α}:c∈[z,a,b,d] ↔ c=z\/c=a\/c=b\/c=d:=by simp
def n4 {α:Type} {c z a b d:α} (h:c ∉ [z,a,b,d]):c≠z/\c≠a/\c≠b/\c≠d:=by simpa using h
def Zju {P:Program} {w:World} {K:W.Frag} {md:List Expr} {x1:Nat} {pos:Pos} (S T:ZS) (z TI TO i1 i2:Addr) (D:ZA z TI TO i1 i2 (i1 :: S.ad) (i2 :: T.ad)) (h1:i1 ∉ S.ad) (h2:i2 ∉ T.ad) :
  Turn P w K (.Tuple md x1 pos) (Itz2 K S T) [z,TI,TO,i1,i2] z (λi h=>IsZip h z TI TO .none/\IsPair h TI (.ref i1) (.ref i2)/\(∃ u v,IsPair h TO u v)/\S.it i1 i h/\T.it i2 i h) where
 mem:=mem_cons_self
 obj:=λi h st c hc=>by
  obtain ⟨s1,s2,⟨u,v,s3⟩,s4,s5⟩:=st;have hc:=m5.mp hc
  rcases hc with rfl | rfl | rfl | rfl | rfl
  ·exact ⟨_,s1,λv y=>by have y':Data.fields _=Data.cell v:=y; cases y'⟩
  ·exact ⟨_,s2,λv y=>by have y':Data.seq _ _=Data.cell v:=y; cases y'⟩
  ·exact ⟨_,s3,λv y=>by have y':Data.seq _ _=Data.cell v:=y; cases y'⟩
  ·exact ZS.it_obj s4
  ·exact ZS.it_obj s5
 keep:=λi h h' st k=>by
  obtain ⟨s1,s2,⟨u,v,s3⟩,s4,s5⟩:=st;exact ⟨k z (m5.mpr (.inl Y)) _ s1,k TI (m5.mpr (.inr (.inl Y))) _ s2,⟨u,v,k TO (m5.mpr (.inr (.inr (.inl Y)))) _ s3⟩,ZS.it_keep s4 λo e=>k i1 (m5.mpr (.inr (.inr (.inr (.inl Y))))) o e,ZS.it_keep s5 λo e=>k i2 (m5.mpr (.inr (.inr (.inr (.inr Y))))) o e⟩
 item:=by
  intro X hP hw hK hc i jh s σ H E I hf st hg;subst hP hw hK;obtain ⟨xs,ys,x,y,yk,yj,hx,hy⟩:=hg;obtain ⟨s1,s2,⟨u0,v0,s3⟩,s4,s5⟩:=st;have hh:X.A.in1.handled=none:=I.ok.hd hc;obtain ⟨P1,St1,D1,t1,k1,r1⟩:=ZS.draws I hh yk h1 s4;obtain ⟨P2,St2,D2,t2,k2,r2⟩:=ZS.draws I hh yj h2 s5;refine Zjs D1 D2 D s1 s2 s3 t1 t2 (Aa hx).1 (Aa hy).1 λu v h' tk pu pv a1 a2 a3 a4 a5 a7=>?_;have ru:=r1 i u x pu hx;have rv:=r2 i v y pv hy;refine ⟨.ref s.heap.objs.size,Y,wpAny_letOwnedTupleGo_zip (s:={ s with heap:=h',toks:=tk }) a1 λql b1 sb=>?_⟩;replace sb:Heap.SameBut z h' ql:=sb;have lt:∀ c∈[z,TI,TO,i1,i2],c < s.heap.objs.size:=λc hc=>by
   have hc:=m5.mp hc
   rcases hc with rfl | rfl | rfl | rfl | rfl
   ·exact Ao s1
   ·exact Ao s2
   ·exact Ao s3
   ·obtain ⟨o,e,_⟩:=ZS.it_obj s4; exact Ao e
   ·obtain ⟨o,e,_⟩:=ZS.it_obj s5; exact Ao e
  have j8:∀ c o,c≠z->c≠TO->c≠i1->c≠i2->s.heap.get? c=some o->ql.get? c=some o:=λc o n1 n2 n3 n4 e=>(sb.2 c n1).trans (a7 c o n1 n2 n3 n4 e);have rc:ql.get? s.heap.objs.size=some { cls:=.type "tuple",data:=.seq #[u,v] }:=(sb.2 _ (Nat.ne_of_gt (lt z (m5.mpr (.inl rfl))))).trans a5;have hn:H s.heap.objs.size=none:=I.hok.fresh (An _)
  have I2:Inv X jh σ (upd H s.heap.objs.size (.tup [x,y])) { s with heap:=ql,toks:=tk }:=by
   have out:∀ c,c ∉ [z,TO,i1,i2]->c≠z/\c≠TO/\c≠i1/\c≠i2:=λc hc=>n4 hc;refine I.step (g':=s.gens) (d':=s.drawn) (ch:=[z,TO,i1,i2]) (λc hc=>?_) (λc o _ _ hc q _=>?_) (λc o _ _ hc q _=>⟨o.slots,?_⟩) (λc o _ q n=>by rw [Ze (As (Ao q))]; exact n)
    (λc o hc q=>⟨o,?_⟩) (λc zs q=>by rw [Ze (Zl q hn)]; exact q) (λc o zs q=>by rw [Ze (Zl q hn)]; exact q) (λc ps q=>⟨#[],by rw [Ze (Zl q hn),q]; simp⟩) (λm hm=>?_) (λc v' q=>?_) I.bare
   ·have hm:c∈[z,TI,TO,i1,i2]:=m5.mpr ((m4.mp hc).imp id .inr)
    obtain ⟨f0,f1,f2,f3,f4,f5⟩:=hf c hm;exact ⟨f3,f1,f4,f5⟩
   ·obtain ⟨n1,n2,n3,n4⟩:=out c hc; exact j8 c o n1 n2 n3 n4 q
   ·obtain ⟨n1,n2,n3,n4⟩:=out c hc; exact j8 c o n1 n2 n3 n4 q
   ·obtain ⟨n1,n2,n3,n4⟩:=out c hc; exact j8 c o n1 n2 n3 n4 q
   ·obtain ⟨o,es,ep,ho,r⟩:=hm
    exact ⟨o,es,ep,j8 _ o (Ne.symm (hf z (m5.mpr (.inl Y))).2.1) (Ne.symm (hf TO (m5.mpr (.inr (.inr (.inl Y))))).2.1) (Ne.symm (hf i1 (m5.mpr (.inr (.inr (.inr (.inl Y)))))).2.1) (Ne.symm (hf i2 (m5.mpr (.inr (.inr (.inr (.inr Y)))))).2.1) ho,r⟩
   ·by_cases hb:c=s.heap.objs.size
    ·subst hb
     rw [Zc] at q;cases q;exact ⟨by show 2<=sizeLine; decide,[u,v],.cons ru (.cons rv .nil),⟨_,rc,rfl,_,rfl⟩⟩
    ·rw [Ze hb] at q
     refine (I.hok c v' q).stay (λe w' he y'=>j8 e w' ?_ ?_ ?_ ?_ y') (λd y'=>by rw [Ze (Zl y' hn)]; exact y') λd zs y'=>by rw [Ze (Zl y' hn)]; exact y'
     all_goals
      rintro rfl;have wn:H e=none:=(hf e (by simp)).1
      rcases he with y' | y'
      ·rw [y',q] at wn; cases wn
      ·rw [wn] at y'; cases y'
  refine ⟨.ref s.heap.objs.size,_,I2,Y,⟨_,x,y,hn,Y,λzs hz=>by rw [ZS.has_inj I hz yk]; exact hx,λzs hz=>by rw [ZS.has_inj I hz yj]; exact hy,Y⟩,
   ⟨b1,(sb.2 TI D.TIz).trans (a7 TI _ D.TIz D.TITO D.TIi1 D.TIi2 s2),⟨u,v,(sb.2 TO D.TOz).trans a2⟩,ZS.it_keep (k1 _ _ a3) λo e=>(sb.2 i1 D.i1z).trans e,ZS.it_keep (k2 _ _ a4) λo e=>(sb.2 i2 D.i2z).trans e⟩,λc hc=>?_⟩;rw [Ze (As (lt c hc))];exact (hf c hc).1
 done:=by
  intro X hP hw hK hc i jh s σ H E I hf st hg;subst hP hw hK;obtain ⟨xs,ys,yk,yj,e1,e2⟩:=hg;obtain ⟨s1,s2,⟨u0,v0,s3⟩,s4,s5⟩:=st;have hh:X.A.in1.handled=none:=I.ok.hd hc;obtain ⟨P1,St1,D1,t1,k1,r1⟩:=ZS.draws I hh yk h1 s4;obtain ⟨P2,St2,D2,t2,k2,r2⟩:=ZS.draws I hh yj h2 s5;refine Zl2 D1 D2 D s1 s2 s3 t1 t2 (.inl e1) λh' tk eb=>⟨Y,?_⟩
  ·have out:∀ c,c ∉ [z,TO,i1,i2]->c≠z/\c≠TO/\c≠i1/\c≠i2:=λc hc=>n4 hc
   refine I.step (g':=s.gens) (d':=s.drawn) (t':=tk) (ch:=[z,TO,i1,i2]) (λc hc=>?_) (λc o _ _ hc q _=>?_) (λc o _ _ hc q _=>⟨o.slots,?_⟩) (λc o _ q n=>n)
    (λc o hc q=>⟨o,?_⟩) (λc zs q=>q) (λc o zs q=>q) (λc ps q=>⟨#[],by rw [q]; simp⟩) (λm hm=>?_) (λc v' q=>?_) I.bare
   ·have hm:c∈[z,TI,TO,i1,i2]:=m5.mpr ((m4.mp hc).imp id .inr)
    obtain ⟨f0,f1,f2,f3,f4,f5⟩:=hf c hm;exact ⟨f3,f1,f4,f5⟩
   ·obtain ⟨n1,n2,n3,n4⟩:=out c hc; exact eb c o n1 n2 n3 n4 q
   ·obtain ⟨n1,n2,n3,n4⟩:=out c hc; exact eb c o n1 n2 n3 n4 q
   ·obtain ⟨n1,n2,n3,n4⟩:=out c hc; exact eb c o n1 n2 n3 n4 q
   ·obtain ⟨o,es,ep,ho,r⟩:=hm
    exact ⟨o,es,ep,eb _ o (Ne.symm (hf z (m5.mpr (.inl Y))).2.1) (Ne.symm (hf TO (m5.mpr (.inr (.inr (.inl Y))))).2.1) (Ne.symm (hf i1 (m5.mpr (.inr (.inr (.inr (.inl Y)))))).2.1) (Ne.symm (hf i2 (m5.mpr (.inr (.inr (.inr (.inr Y)))))).2.1) ho,r⟩
   ·refine (I.hok c v' q).stay (λe w' he y'=>eb e w' ?_ ?_ ?_ ?_ y') (λd y'=>y') λd zs y'=>y'
    all_goals
     rintro rfl;have wn:H e=none:=(hf e (by simp)).1
     rcases he with y' | y'
     ·rw [y',q] at wn; cases wn
     ·rw [wn] at y'; cases y'
 self:=λ_ _ _ _ _ st h=>wpAny_pyIter_zip st.1 h
section
variable {P:Program} {w:World}
def Zgk (P:Program) (w:World) (v:Value) (o:Obj) (C:Heap->Prop):Prop:=(∀ h u,C h->C (h.push u))/\∀ (A:Around) (E:Value->Shared->Prop) (s:Shared) (Q:Value->Shared->Prop),C s.heap->Q (.ref s.heap.objs.size) { s with heap:=s.heap.push o }->wpAny (model P w) A (pyIter v) Q E s
def Zls {A:Around} {E:Value->Shared->Prop} {s:Shared} {v1 v2:Value} {o1 o2:Obj} {C1 C2:Heap->Prop} {Q:Value->Shared->Prop} (I1:Zgk P w v1 o1 C1) (I2:Zgk P w v2 o2 C2) (c1:C1 s.heap) (c2:C2 s.heap)
  (h:∀ h',IsZip h' (s.heap.objs.size + 4) (s.heap.objs.size + 2) (s.heap.objs.size + 3) .none->IsPair h' (s.heap.objs.size + 2) (.ref s.heap.objs.size) (.ref (s.heap.objs.size + 1)) ->
   IsPair h' (s.heap.objs.size + 3) .none .none->h'.get? s.heap.objs.size=some o1->h'.get? (s.heap.objs.size + 1)=some o2->(∀ c o,s.heap.get? c=some o->h'.get? c=some o)->Q (.ref (s.heap.objs.size + 4)) { s with heap:=h' }) (f1:o1.isFreed=false) (f2:o2.isFreed=false) :
  wpAny (model P w) A (call (.type "zip") [v1,v2]) Q E s:=by
 have M:MeetsIn P w (Builtin.«zip.__new__» ⟨[.type "zip",v1,v2],[]⟩) (λ_ R s=>C1 s.heap/\C2 s.heap/\R (.ok (.ret (.ref ((((s.heap.push o1).push o2).push { cls:=.type "tuple",data:=.seq #[.ref s.heap.objs.size,.ref (s.heap.push o1).objs.size] }).push { cls:=.type "tuple",data:=.seq #[.none,.none] }).objs.size)))
   { s with heap:=((((s.heap.push o1).push o2).push { cls:=.type "tuple",data:=.seq #[.ref s.heap.objs.size,.ref (s.heap.push o1).objs.size] }).push { cls:=.type "tuple",data:=.seq #[.none,.none] }).push { cls:=.type "zip",data:=.fields #[.none,.bool false,.bool false,.ref ((s.heap.push o1).push o2).objs.size,.ref (((s.heap.push o1).push o2).push { cls:=.type "tuple",data:=.seq #[.ref s.heap.objs.size,.ref (s.heap.push o1).objs.size] }).objs.size] } }):=by
  refine .of_wp λA R s h=>?_;obtain ⟨hp,g,d,tk,os⟩:=s;obtain ⟨q1,q2,h⟩:=h;have hsub:=sub_zip;have W1:∀ (A:Around) (E:Value->Shared->Prop) (Q:Value->Shared->Prop),Q (.ref hp.objs.size) ⟨hp.push o1,g,d,tk,os⟩->wpAny (model P w) A (pyIter v1) Q E ⟨hp,g,d,tk,os⟩:=λA E Q q=>I1.2 A E _ Q q1 q;have W2:∀ (A:Around) (E:Value->Shared->Prop) (Q:Value->Shared->Prop),Q (.ref (hp.push o1).objs.size) ⟨(hp.push o1).push o2,g,d,tk,os⟩->wpAny (model P w) A (pyIter v2) Q E ⟨hp.push o1,g,d,tk,os⟩:=λA E Q q=>I2.2 A E _ Q (I2.1 _ _ q2) q
  wp_walk using W1 _ _ _,W2 _ _ _
  exact ⟨_,Y,h⟩
 refine callType_newIn PySem.F.called_zip (d:) (by kernel_rfl) (by kernel_rfl) (λobj=>PySem.F.args_object_init_3 obj _ _) PySem.F.entry_zip_new M ⟨c1,c2,?_⟩;generalize hN:s.heap.objs.size=N at *;have z1:(s.heap.push o1).objs.size=N + 1:=by rw [Heap.size_push,hN]
 have z2:((s.heap.push o1).push o2).objs.size=N + 2:=by rw [Heap.size_push,z1]
 generalize hT1:({ cls:=.type "tuple",data:=.seq #[.ref N,.ref (s.heap.push o1).objs.size] }:Obj)=T1;have z3:(((s.heap.push o1).push o2).push T1).objs.size=N + 3:=by rw [Heap.size_push,z2]
 generalize hT2:({ cls:=.type "tuple",data:=.seq #[.none,.none] }:Obj)=T2;have z4:((((s.heap.push o1).push o2).push T1).push T2).objs.size=N + 4:=by rw [Heap.size_push,z3]
 have e1:(s.heap.push o1).get? N=some o1:=by rw [<- hN]; exact Ap _ f1
 have e2:((s.heap.push o1).push o2).get? (N + 1)=some o2:=by rw [<- z1]; exact Ap _ f2
 have e3:(((s.heap.push o1).push o2).push T1).get? (N + 2)=some T1:=by rw [<- z2]; exact Ap _ (by rw [<- hT1]; rfl)
 have e4:((((s.heap.push o1).push o2).push T1).push T2).get? (N + 3)=some T2:=by rw [<- z3]; exact Ap _ (by rw [<- hT2]; rfl)
 rw [z4,z3,z2];generalize hZ:({ cls:=.type "zip",data:=.fields #[.none,.bool false,.bool false,.ref (N + 2),.ref (N + 3)] }:Obj)=Z;have e5:(((((s.heap.push o1).push o2).push T1).push T2).push Z).get? (N + 4)=some Z:=by rw [<- z4]; exact Ap _ (by rw [<- hZ]; rfl)
 refine ⟨⟨_,e5,by rw [<- hZ]⟩,h _ (e5.trans (by rw [<- hZ])) (by
  have:=Ak Z (Ak T2 e3)
  rw [<- hT1,z1] at this
  rw [<- hT1,z1]
  exact this) (by
  have:=Ak Z e4
  rw [<- hT2] at this ⊢
  exact this) (Ak _ (Ak _ (Ak _ (Ak _ e1)))) (Ak _ (Ak _ (Ak _ e2))) λc o x=>Ak _ (Ak _ (Ak _ (Ak _ (Ak _ x))))⟩
end
section
variable {X:Cx} {jh:List (m:)} {σ:List (Option V)} {H:Hp} {s:Shared}
def ZS.iter (I:Inv X jh σ H s) {S:ZS} {xs:List V} (h:S.has X.K H xs) {v:Value} (r:RelV S.v v):∃ (o:Obj) (C:Heap->Prop),Zgk X.prog X.w v o C/\C s.heap/\o.isFreed=false/\(∀ (h:Heap) (i:Addr),h.get? i=some o->S.it i 0 h)/\∀ a∈S.ad,a < s.heap.objs.size:=by
 cases S with
 | l a =>
  obtain ⟨its,rv,pl,_⟩:=I.list h;cases r;refine ⟨_,λh=>h.IsList a its.toArray,⟨λh u c=>c.push u,λA E s Q c q=>wpAny_pyIter_list c q⟩,pl.isList,Y,λh i e=>⟨_,e,Y,Y⟩,λb hb=>?_⟩;obtain ⟨o,ho,_⟩:=pl.isList;rw [Af hb];exact Ao ho
 | t a =>
  obtain ⟨its,rv,pl,_⟩:=I.tuple h;cases r;refine ⟨_,λh=>IsTup h a its.toArray,⟨λh u c=>c.keeps λb o e=>Ak _ e,λA E s Q c q=>iter_tuple c q⟩,pl,Y,λh i e=>⟨_,e,Y,Y⟩,λb hb=>?_⟩;rw [Af hb];exact pl.lt
 | s x =>
  obtain ⟨ha,rfl⟩:=h;obtain ⟨t,rfl⟩:=r;exact ⟨_,λ_=>True,⟨λh u c=>trivial,λA E s Q c q=>wpAny_pyIter_ascii ha q⟩,trivial,Y,λh i e=>⟨t,_,e,Y,Y⟩,λb hb=>absurd hb not_mem_nil⟩
def Zql {N:Nat} {f g:List Addr} (h1:∀ a∈f,a < N) (h2:∀ a∈g,a < N):ZA (N + 4) (N + 2) (N + 3) N (N + 1) (N :: f) ((N + 1) :: g):=by
 have nf:∀ k,N + k ∉ f:=λk z=>absurd (h1 _ z) (Nat.not_lt.mpr (le_add_right _ _));have ng:∀ k,N + k ∉ g:=λk z=>absurd (h2 _ z) (Nat.not_lt.mpr (le_add_right _ _));have e:∀ {i j:Nat},i≠j->N + i≠N + j:=λh z=>h (Nat.add_left_cancel z);have c1:∀ {k:Nat} {f:List Addr} {i:Addr},N + k≠i->N + k ∉ f->N + k ∉ i :: f:=λh1 h2 z=>by
  rcases Ar z with q | q
  ·exact h1 q
  ·exact h2 q
 exact ⟨e (d:),e (d:),e (i:=0) (d:),e (d:),e (d:),e (j:=0) (d:),e (d:),e (j:=0) (d:),e (d:),e (i:=0) (d:),c1 (e (j:=0) (d:)) (nf 4),c1 (e (d:)) (ng 4),c1 (e (j:=0) (d:)) (nf 3),c1 (e (d:)) (ng 3),c1 (e (j:=0) (d:)) (nf 1),c1 (k:=0) (e (d:)) (ng 0)⟩
def Zs4 (K:W.Frag) (ta:TA):TI:=λσ H R=>ta σ H λvs H1=>∃ (S T:ZS) (xs ys:List V),vs=[S.v,T.v]/\S.has K H1 xs/\T.has K H1 ys/\R (Itz2 K S T) H1
def Zbo {md:List Expr} {x1:Nat} {m6 p pos:Pos} {l m:Expr} {ta:TA} (hg:Gl X "zip") (hm:X.mg "zip"=none) (ha:PA X [l,m] ta) (hs:starEach [l,m] X.env=[(false,eval l X.env),(false,eval m X.env)]:=by rfl) (nj:starEach [m] X.env=[(false,eval m X.env)]:=by rfl) :
  PI X (.Tuple md x1 m6) (.Call (.Name "zip" p) [l,m] [] pos) (Zs4 X.K ta):=by
 intro jh s σ H R I h;refine Call_ (Xl I hg hm boot_zip (PyProof.Rows.callWith_type1 (thn (ha pos jh s σ H _ I h) λus s1 ⟨vs,H1,I1,r1,q1⟩=>?_) (by rw [hs,nj]) (by rw [nj]; rfl)));obtain ⟨S,T,xs,ys,e,yk,yj,q⟩:=q1;subst e;obtain ⟨u,v,rfl,ru,rv⟩:=r1.two;obtain ⟨o1,C1,i1,c1,f1,t1,l1⟩:=ZS.iter I1 yk ru;obtain ⟨o2,C2,i2,c2,f2,t2,l2⟩:=ZS.iter I1 yj rv;refine Zls i1 i2 c1 c2 (λh' z1 z2 z3 z4 z5 z7=>wpAny_pyIter_zip z1 ?_) f1 f2;have I2:Inv X jh σ H1 { s1 with heap:=h' }:=I1.kept (t':=s1.toks) z7;generalize hN:s1.heap.objs.size=N at *;have n1:N ∉ S.ad:=λz=>Nat.lt_irrefl _ (l1 _ z);have n2:N + 1 ∉ T.ad:=λz=>absurd (l2 _ z) (Nat.not_lt.mpr (le_succ _));refine ⟨N + 4,[N + 4,N + 2,N + 3,N,N + 1],_,_,H1,Y,I2,Zju S T (N + 4) (N + 2) (N + 3) N (N + 1) (Zql l1 l2) n1 n2,⟨z1,z2,⟨_,_,z3⟩,t1 _ _ z4,t2 _ _ z5⟩,λc hc=>?_,q⟩;have hc:s1.heap.objs.size<=c:=by
  have hc:c=N + 4\/c=N + 2\/c=N + 3\/c=N\/c=N + 1:=by simpa using hc
  rw [hN]
  rcases hc with rfl | rfl | rfl | rfl | rfl
  ·exact le_add_right _ _
  ·exact le_add_right _ _
  ·exact le_add_right _ _
  ·exact An _
  ·exact le_add_right _ _
 exact I1.fpOk hc (I1.hok.fresh hc)
def Znj {K:W.Frag} {S T:ZS} {xs ys:List V} {g:TG} {tb:TS} {D:Ends} {σ:St} {H:Hp} (jm:xs.length=ys.length) (Pv:Nat->St->Hp->Prop) (h0:Pv 0 σ H) (hl:∀ i σ H,i<=xs.length->Pv i σ H->S.has K H xs/\T.has K H ys)
  (hs:∀ i x y σ H q,xs[i]?=some x->ys[i]?=some y->H q=none->Pv i σ H->g (.ref q) σ (upd H q (.tup [x,y])) λσ2 H2=>tb { D with nx:=Pv (i + 1),ct:=Pv (i + 1),bk:=D.nx } σ2 H2) (hd:∀ σ H,Pv xs.length σ H->D.nx σ H) :
  ∃ W:Nat->Nat->St->Hp->Prop,(∃ m,W 0 m σ H)/\∀ i m σ H,W i m σ H ->
   ((Itz2 K S T).stop i H/\D.nx σ H)\/((Itz2 K S T).go i H/\∃ N:St->Hp->Prop,(u:)/\∀ x H',(Itz2 K S T).yld i H x H'->g x σ H' λσ2 H2=>tb { D with nx:=N,ct:=N,bk:=D.nx } σ2 H2):=by
 refine (l:);rintro i m σ H ⟨rfl,hi,p⟩;obtain ⟨q1,q2⟩:=hl i σ H hi p;by_cases jw:i < xs.length
 ·have xt:i < ys.length:=by lia
  refine .inr ⟨⟨xs,ys,xs[i],ys[i],q1,q2,by simp [jw],by simp [xt]⟩,Pv (i + 1),λσ' H' p'=>⟨xs.length - (i + 1),by lia,Y,jw,p'⟩,λx H' y=>?_⟩;obtain ⟨c,u,v,hn,e1,y1,y2,e2⟩:=y;subst e1 e2;exact hs i u v σ H c (y1 xs q1) (y2 ys q2) hn p
 ·have e:i=xs.length:=by lia
  subst e;exact .inl ⟨⟨xs,ys,q1,q2,Y,jm⟩,hd σ H p⟩
end
def Zcr {K:W.Frag} {S T:ZS} {xs ys:List V} {g:TG} {tt:TT} {tb:TB} {R:St->Hp->Prop} {σ:St} {H:Hp} (jm:xs.length=ys.length) (Pv:Nat->St->Hp->Prop) (h0:Pv 0 σ H) (hl:∀ i σ H,i<=xs.length->Pv i σ H->S.has K H xs/\T.has K H ys)
  (hs:∀ (i:Nat) x y σ H q,xs[i]?=some x->ys[i]?=some y->H q=none->Pv i σ H->g (.ref q) σ (upd H q (.tup [x,y])) λσ2 H2=>tt σ2 H2 λb H3=>if b=true then tb σ2 H3 (Pv (i + 1)) else Pv (i + 1) σ2 H3) (hd:∀ σ H,Pv xs.length σ H->R σ H):Wv (Itz2 K S T) g tt tb R σ H:=by
 refine (l:);rintro i m σ H ⟨rfl,hi,p⟩;obtain ⟨q1,q2⟩:=hl i σ H hi p;by_cases jw:i < xs.length
 ·have xt:i < ys.length:=by lia
  refine .inr ⟨⟨xs,ys,xs[i],ys[i],q1,q2,by simp [jw],by simp [xt]⟩,Pv (i + 1),λσ' H' p'=>⟨xs.length - (i + 1),by lia,Y,jw,p'⟩,λx H' y=>?_⟩;obtain ⟨c,u,v,hn,e1,y1,y2,e2⟩:=y;subst e1 e2;exact hs i u v σ H c (y1 xs q1) (y2 ys q2) hn p
 ·have e:i=xs.length:=by lia
  subst e;exact .inl ⟨⟨xs,ys,q1,q2,Y,jm⟩,hd σ H p⟩
end L2
namespace KT
open PySem L2
noncomputable def aN (a:Nat):Nat:=(after a).toNat
noncomputable def bN (a:Nat):Nat:=(Y0 a).toNat
def Zoh (a:Nat):after a=(aN a:Int):=(Int.toNat_of_nonneg (Zlz a).2.2).symm
def Zog (a:Nat):Y0 a=(bN a:Int):=(Int.toNat_of_nonneg (Zjq a).2.2).symm
def Qp (a:Nat):aN a=if a % 3=2 then a - 2 else a + 1:=by
 have h:=Zoh a;unfold after at h;split at h <;> split <;> lia
def Qo (a:Nat):bN a=if a % 3=0 then a + 2 else a - 1:=by
 have h:=Zog a;unfold Y0 at h;split at h <;> split <;> lia
def d3_0 (q:Nat):3 * q / 3=q:=Nat.mul_div_cancel_left q (d:)
def d3_1 (q:Nat):(3 * q + 1) / 3=q:=by rw [mul_add_div (d:)]; rfl
def d3_2 (q:Nat):(3 * q + 2) / 3=q:=by rw [mul_add_div (d:)]; rfl
def aN_0 (q:Nat):aN (3 * q)=3 * q + 1:=by rw [Qp,if_neg (by rw [mul_mod_right]; decide)]
def aN_1 (q:Nat):aN (3 * q + 1)=3 * q + 2:=by rw [Qp,if_neg (by rw [mul_add_mod]; decide)]
def aN_2 (q:Nat):aN (3 * q + 2)=3 * q:=by rw [Qp,if_pos (by rw [mul_add_mod])]; rfl
def bN_0 (q:Nat):bN (3 * q)=3 * q + 2:=by rw [Qo,if_pos (mul_mod_right 3 q)]
def bN_1 (q:Nat):bN (3 * q + 1)=3 * q:=by rw [Qo,if_neg (by rw [mul_add_mod]; decide)]; rfl
def bN_2 (q:Nat):bN (3 * q + 2)=3 * q + 1:=by rw [Qo,if_neg (by rw [mul_add_mod]; decide)]; rfl
def three (a:Nat):∃ q,a=3 * q\/a=3 * q + 1\/a=3 * q + 2:=⟨a / 3,by lia⟩
def F2 (a:Nat):aN a / 3=a / 3/\bN a / 3=a / 3/\aN (aN a)=bN a/\bN (aN a)=a/\aN (bN a)=a/\bN (bN a)=aN a/\aN a≠a/\bN a≠a/\aN a≠bN a:=by
 have n1:∀ q,q + 1≠q:=λq=>succ_ne_self q;have n2:∀ q,q + 2≠q:=λq h=>Nat.ne_of_gt (Nat.lt_add_of_pos_right (n:=q) (k:=2) (d:)) h;obtain ⟨q,rfl | rfl | rfl⟩:=three a
 ·rw [aN_0,bN_0,aN_1,bN_1,aN_2,bN_2,d3_0,d3_1,d3_2]
  exact ⟨Y,Y,Y,Y,Y,Y,n1 _,n2 _,λh=>n1 _ h.symm⟩
 ·rw [aN_1,bN_1,aN_2,bN_2,aN_0,bN_0,d3_0,d3_1,d3_2]
  exact ⟨Y,Y,Y,Y,Y,Y,n1 _,λh=>n1 _ h.symm,n2 _⟩
 ·rw [aN_2,bN_2,aN_0,bN_0,aN_1,bN_1,d3_0,d3_1,d3_2]
  exact ⟨Y,Y,Y,Y,Y,Y,λh=>n2 _ h.symm,λh=>n1 _ h.symm,λh=>n1 _ h.symm⟩
def Zg7 (a z:Nat) (h:z / 3=a / 3):z=a\/z=aN a\/z=bN a:=by
 have h1:=Qp a;have h2:=Qo a;split at h1 <;> split at h2 <;> lia
structure PC (M:Lw) (f:Nat->Int):Prop where
 nn:∀ p,p < M.length->0<=f p
 rim:∀ p:Nat,M[p]?=some none->f p=0
 mate:∀ p q:Nat,M[p]?=some (some q)->f q=f p
 even:∀ p,p < M.length->(f p + f (aN p) + f (bN p)) % 2=0
 tri:∀ p,p < M.length->f p<=f (aN p) + f (bN p)
noncomputable def mx (x y:Int):Int:=if y > x then y else x
noncomputable def bh (f:Nat->Int) (a b:Nat):Int:=mx (f (aN a) + f (aN b)) (f (bN a) + f (bN b)) - f a
noncomputable def fx (left:Bool) (a b:Nat) (f:Nat->Int) (z:Nat):Int:=if z=a\/z=b then bh f a b else f (mvN (!left) a b z)
section
variable {M:Lw} {ns:List Int} {f:Nat->Int} {a b:Nat} {left:Bool}
def Nm (ns:List Int) (f:Nat->Int) (g:Int->Int):Prop:=∀ (p:Nat) (x:Int),ns[p]?=some x->g x=f p
end
noncomputable def sF (f:Nat->Int):Nat->Int
 | 0=>0
 | n + 1=>sF f n + f n
theorem Zn4:∀ {n:Nat},(∀ z,z < n->f z<=g z)->sF f n<=sF g n
 | 0,_=>Int.le_refl _
 | n + 1,h=>Int.add_le_add (Zn4 λz hz=>h z (by lia)) (h n (by lia))
def Vq {M:Lw} (h:M[q]?=some (some m)):mtN M q=m:=by unfold mtN; rw [Ad,h]; rfl
noncomputable def kr (M:Lw) (ws:List Nat) (p:Nat):Nat:=ws.countP λq=>decide (q=p\/mtN M q=p)
def ind3 (z q:Nat):(if q=z then 1 else 0) + (if q=aN z then 1 else 0) + (if q=bN z then 1 else 0)=if q / 3=z / 3 then 1 else 0:=by
 obtain ⟨a1,a2,_,_,_,_,a7,a8,a9⟩:=F2 z;by_cases c:q / 3=z / 3
 ·rw [if_pos c]
  rcases Zg7 z q c with rfl | rfl | rfl
  ·rw [if_pos rfl,if_neg (Ne.symm a7),if_neg (Ne.symm a8)]
  ·rw [if_neg a7,if_pos rfl,if_neg a9]
  ·rw [if_neg a8,if_neg (Ne.symm a9),if_pos rfl]
 ·rw [if_neg c,if_neg (λe=>c (by rw [e])),if_neg (λe=>c (by rw [e]; exact a1)),if_neg (λe=>c (by rw [e]; exact a2))]
def Zdr {q m s:Nat} (h:q≠m):(if decide (q=s\/m=s)=true then 1 else 0)=(if q=s then 1 else 0) + if m=s then 1 else 0:=by
 by_cases c:q=s
 ·subst c
  rw [if_pos (decide_eq_true (.inl rfl)),if_pos rfl,if_neg (Ne.symm h)]
 ·by_cases d:m=s
  ·rw [if_pos (decide_eq_true (.inr d)),if_neg c,if_pos d]
  ·rw [if_neg (λe=>by rcases of_decide_eq_true e with e | e; exact c e; exact d e),if_neg c,if_neg d]
theorem Zlp {M:Lw} (inv:InvM M) (z:Nat):∀ ws:List Nat,(∀ p∈ws,∃ m,M[p]?=some (some m)) ->
  kr M ws z + kr M ws (aN z) + kr M ws (bN z)=(ws.countP λq=>decide (q / 3=z / 3)) + ws.countP λq=>decide (mtN M q / 3=z / 3)
 | [],_=>rfl
 | q :: r,h=>by
  have ih:=Zlp inv z r λp hp=>h p (mem_cons_of_mem _ hp);obtain ⟨m,hm⟩:=h q mem_cons_self;have ne:=(inv q m hm).2;unfold kr at ih ⊢;simp only [countP_cons,Vq hm];rw [Zdr ne,Zdr ne,Zdr ne];have i1:=ind3 z q;have i2:=ind3 z m;have e:∀ c:Prop,[Decidable c]->(if decide c=true then 1 else 0)=if c then 1 else 0:=λc _=>by by_cases h:c <;> simp [h]
  rw [e,e];lia
def Zqa (inv:InvM M) (h:ws=[]\/Pl M ws) (z:Nat):(kr M ws z + kr M ws (aN z) + kr M ws (bN z)) % 2=0:=by
 rcases h with rfl | hP
 ·rfl
 ·rw [Zlp inv z ws hP.has]
  have hl:0 < ws.length:=length_pos_iff.mpr hP.ne;have e:(ws.map λq=>mtN M q / 3)=(rot ws 1).map λq=>q / 3:=by
   apply ext_getElem?
   intro i
   rw [Ah,Ah]
   by_cases hi:i < ws.length
   ·obtain ⟨m,hm⟩:=hP.has ws[i] (getElem_mem hi)
    have hn:(i + 1) % ws.length < ws.length:=mod_lt _ hl
    have:=(hP.nxt i ws[i] ws[(i + 1) % ws.length] (Ac hi) (Ac hn) m hm).1
    rw [Zkk (j:=0) hl hi,Ac hi,Ac hn]
    show some (mtN M ws[i] / 3)=some (ws[(i + 1) % ws.length] / 3)
    rw [Vq hm,this]
   ·rw [Ay (by lia),Ay (by rw [Jq _ (by lia)]; lia)]
    rfl
  have p:(rot ws 1).Perm ws:=by
   unfold rot;refine perm_append_comm.trans ?_;rw [take_append_drop]
  have c1:(ws.countP λq=>decide (mtN M q / 3=z / 3))=(ws.map λq=>mtN M q / 3).countP λx=>decide (x=z / 3):=by rw [countP_map]; rfl
  have c2:(ws.countP λq=>decide (q / 3=z / 3))=((rot ws 1).map λq=>q / 3).countP λx=>decide (x=z / 3):=by rw [countP_map,p.countP_eq]; rfl
  rw [c1,e,<- c2];lia
def Zns {M:Lw} (inv:InvM M) (has:∀ p∈ws,∃ m,M[p]?=some (some m)) (h:M[p]?=some (some y)):kr M ws y=kr M ws p:=by
 unfold kr;apply countP_congr;intro q hq;obtain ⟨m,hm⟩:=has q hq;have hy:=(inv p y h).1;rw [Vq hm,decide_eq_true_eq,decide_eq_true_eq];constructor
 ·rintro (rfl | rfl)
  ·right; rw [hy] at hm; cases hm; rfl
  ·left
   have:=(inv q m hm).1;rw [hy] at this; cases this; rfl
 ·rintro (rfl | rfl)
  ·right; rw [h] at hm; cases hm; rfl
  ·left
   have:=(inv q m hm).1;rw [h] at this; cases this; rfl
def Zqd {M:Lw} (inv:InvM M) (has:∀ p∈ws,∃ m,M[p]?=some (some m)) (h:(M[p]?).join=none):kr M ws p=0:=by
 unfold kr;rw [countP_eq_zero];intro q hq e;obtain ⟨m,hm⟩:=has q hq;rw [Vq hm] at e
 rcases of_decide_eq_true e with rfl | rfl
 ·rw [hm] at h; cases h
 ·rw [(inv q m hm).1] at h; cases h
def Nm.of {ns:List Int} (td:TD M ns) (pc:PC M f) (h:∀ x∈keys ns ns.length,∃ p,ns[p]?=some x/\g x=f p):Nm ns f g:=by
 intro p x hp;obtain ⟨q,hq,e⟩:=h x (Y9.mpr ⟨p,(Aa hp).1,hp⟩);rw [e]
 rcases td.eqv q p x hq hp with z | z
 ·rw [z]
 ·exact (pc.mate q p z).symm
theorem Zbi (f:Nat->Int):∀ n,sF f n=((List.range n).map f).sum
 | 0=>rfl
 | n + 1=>by rw [range_succ,Aj,sum_append,<- Zbi f n]; simp [sF]
def Zdy {a b:List Int} (h:a.Perm b):a.sum=b.sum:=by
 induction h with
 | nil=>rfl
 | cons x _ ih=>simp [ih]
 | swap x y l=>simp only [sum_cons]; lia
 | trans _ _ h1 h2=>exact h1.trans h2
def Zo7 {μ ν:Nat->Nat} (h1:∀ z,z < n->μ z < n) (h3:∀ z,z < n->ν z < n) (h4:∀ z,z < n->μ (ν z)=z) (h5:∀ z,z < n->ν (μ z)=z):sF (λz=>f (μ z)) n=sF f n:=by
 rw [Zbi,Zbi];have p:((List.range n).map μ).Perm (List.range n):=by
  have nd:((List.range n).map μ).Nodup:=by
   rw [List.Nodup,pairwise_map]
   refine List.Pairwise.imp_of_mem (λ{a b} ha hb nz e=>?_) nodup_range
   have:=congrArg ν e
   rw [h5 a (mem_range.mp ha),h5 b (mem_range.mp hb)] at this
   exact nz this
  rw [perm_ext_iff_of_nodup nd nodup_range]
  intro x
  constructor
  ·intro hx
   obtain ⟨z,hz,rfl⟩:=mem_map.mp hx
   exact mem_range.mpr (h1 z (mem_range.mp hz))
  ·intro hx
   have hx:=mem_range.mp hx
   exact mem_map.mpr ⟨ν x,mem_range.mpr (h3 x hx),h4 x hx⟩
 have:=Zdy (p.map f);rw [map_map] at this;exact this
theorem Zkf (f g:Nat->Int):∀ n,sF (λz=>f z + g z) n=sF f n + sF g n
 | 0=>rfl
 | n + 1=>by
  show sF (λz=>f z + g z) n + (f n + g n)=(sF f n + f n) + (sF g n + g n);rw [Zkf f g n]; lia
theorem Zeu:∀ {n},(∀ z,z < n->f z=g z)->sF f n=sF g n
 | 0,_=>rfl
 | n + 1,h=>by
  show sF f n + f n=sF g n + g n;rw [Zeu λz hz=>h z (by lia),h n (by lia)]
section
variable {M:Lw} {ns:List Int} {f:Nat->Int} {g:Int->Int}
noncomputable def fst1 (M:Lw) (f:Nat->Int) (p:Nat):Int:=match (M[p]?).join with
 | some q=>if q < p then 0 else f p
 | none=>f p
noncomputable def mu (M:Lw) (p:Nat):Nat:=match (M[p]?).join with
 | some q=>q
 | none=>p
theorem Zfv (td:TD M ns) (nm:Nm ns f g):∀ n,n<=ns.length->((keys ns n).map g).sum=sF (fst1 M f) n
 | 0,_=>rfl
 | n + 1,h=>by
  have ih:=Zfv td nm n (by lia);obtain ⟨x,hx⟩:∃ x,ns[n]?=some x:=⟨_,Ac (by lia)⟩;rw [Xy hx];show _=sF (fst1 M f) n + fst1 M f n;have hl:=td.len;by_cases c:x∈keys ns n
  ·rw [if_pos c,ih]
   obtain ⟨i,hi,e⟩:=Y9.mp c;have:fst1 M f n=0:=by
    unfold fst1
    rcases td.eqv n i x hx e with z | z
    ·lia
    ·rw [z]; exact if_pos hi
   lia
  ·rw [if_neg c,Aj,sum_append,ih]
   have:fst1 M f n=g x:=by
    rw [nm n x hx];unfold fst1
    cases e:M[n]? with
    | none=>rfl
    | some o=>cases o with
     | none=>rfl
     | some q =>
      refine if_neg λhq=>c (Y9.mpr ⟨q,hq,?_⟩);rw [td.eqm n q e]; exact hx
   simp [this]
def Zja (h:M[p]?=some (some q)):mu M p=q:=by unfold mu; rw [h]; rfl
def Zk6 (td:TD M ns) (nm:Nm ns f g) (pc:PC M f):2 * ((keys ns ns.length).map g).sum=sF f ns.length:=by
 rw [Zfv td nm _ (An _)];have hl:=td.len;have inv:=td.inv
 have e:sF f ns.length=sF (λz=>fst1 M f z + fst1 M f (mu M z)) ns.length:=Zeu λz hz=>by
  cases e:M[z]? with
  | none=>rw [List.getElem?_eq_none_iff] at e; lia
  | some o=>cases o with
   | none =>
    have h0:=pc.rim z e;have h1:mu M z=z:=by unfold mu; rw [e]; rfl
    have h2:fst1 M f z=f z:=by unfold fst1; rw [e]; rfl
    rw [h1,h2,h0]; rfl
   | some q =>
    obtain ⟨hq,ne⟩:=inv z q e;have h1:=Zja e;have h2:fst1 M f z=if q < z then 0 else f z:=by unfold fst1; rw [e]; rfl
    have h3:fst1 M f q=if z < q then 0 else f q:=by unfold fst1; rw [hq]; rfl
    have h4:=pc.mate z q e;rw [h1,h2,h3];by_cases c:q < z
    ·rw [if_pos c,if_neg (by lia),h4]; lia
    ·rw [if_neg c,if_pos (by lia)]; lia
 have lt:∀ z,z < ns.length->mu M z < ns.length:=by
  intro z hz;unfold mu
  cases e:M[z]? with
  | none=>exact hz
  | some o=>cases o with
   | none=>exact hz
   | some q=>have:=(Aa (inv z q e).1).1; show q < _; lia
 have rk:∀ u,u < ns.length->mu M (mu M u)=u:=λu hu=>by
  cases e:M[u]? with
  | none=>rw [List.getElem?_eq_none_iff] at e; lia
  | some o=>cases o with
   | none =>
    have h1:mu M u=u:=by unfold mu; rw [e]; rfl
    rw [h1,h1]
   | some q=>rw [Zja e,Zja (inv u q e).1]
 rw [e,Zkf,Zo7 (f:=fst1 M f) (μ:=mu M) (ν:=mu M) lt lt rk rk];lia
end
end KT
namespace KT
noncomputable def lowN (m n:Nat):Nat × Nat:=(m / Nat.gcd m n,n / Nat.gcd m n)
noncomputable def putG (g:Int->Nat × Nat) (x:Int) (v:Nat × Nat):Int->Nat × Nat:=λy=>if y=x then v else g y
noncomputable def o6 (g:Int->Nat × Nat):Int->Nat × Nat:=λx=>lowN (g x).1 (g x).2
end KT
namespace KT
open PySem L2
section
variable {M:Lw} {ns:List Int} {x y:Int} {a b:Nat}
def SwN (M:Lw) (ns:List Int) (x:Int):Prop:=∃ p j:Nat,M[p]?=some (some j)/\ns[p]?=some x
structure SwK (M:Lw) (ns:List Int) (ks:List Int):Prop where
 nd:ks.Nodup
 mem:∀ x,x∈ks ↔ SwN M ns x
def SwK.perm {ks ls:List Int} (h:SwK M ns ks) (g:SwK M ns ls):ks.Perm ls:=(perm_ext_iff_of_nodup h.nd g.nd).mpr λx=>(h.mem x).trans (g.mem x).symm
def SwN.key (td:TD M ns) (h:SwN M ns x):x∈keys ns ns.length:=by
 obtain ⟨p,j,_,e⟩:=h;exact Y9.mpr ⟨p,(Aa e).1,e⟩
end
end KT
namespace L2
open PySem PySem.Spec PyProof.Rows
def Zao {d:Addr} {kvs:List (Key × V)} {o:Obj} {g:TG} {tt:TT} {tb:TB} {R:St->Hp->Prop} {σ:St} {H:Hp} (Pv:Nat->St->Hp->Prop) (h0:Pv 0 σ H) (hl:∀ i σ H,i<=kvs.length->Pv i σ H->H d=some (.frz o (.dK kvs)))
  (hs:∀ (i:Nat) k x σ H q,kvs[i]?=some (k,x)->H q=none->Pv i σ H->g (.ref q) σ (upd H q (.tup [kV k,x])) λσ2 H2=>tt σ2 H2 λb H3=>if b=true then tb σ2 H3 (Pv (i + 1)) else Pv (i + 1) σ2 H3) (hd:∀ σ H,Pv kvs.length σ H->R σ H):Wv (Itm2 d kvs o) g tt tb R σ H:=by
 refine ⟨λi m σ H=>m=kvs.length - i/\i<=kvs.length/\Pv i σ H,⟨kvs.length,by simp,Az _,h0⟩,?_⟩;rintro i m σ H ⟨rfl,hi,p⟩;have q:=hl i σ H hi p;by_cases jw:i < kvs.length
 ·refine .inr ⟨⟨jw,q⟩,Pv (i + 1),λσ' H' p'=>⟨kvs.length - (i + 1),by omega,Y,jw,p'⟩,λx H' y=>?_⟩
  obtain ⟨c,k,v,hn,e1,y,e2⟩:=y;subst e1 e2;exact hs i k v σ H c y hn p
 ·have e:i=kvs.length:=by omega
  subst e;exact .inl ⟨⟨An _,q⟩,hd σ H p⟩
def Zqt (H0:Hp) (t:TE):TE:=λσ H Q=>t σ H λv H'=>∃ (a:Addr) (o:Obj) (kvs:List (Key × V)),H' a=some (.frz o (.dK kvs))/\(∀ o u,H0 a≠some (.frz o u))/\Q v (upd H' a (.dK kvs))
def Zhq {X:Cx} (h:PE X e t):PE X e (Zqt X.H₀ t):=by
 intro jh s σ H Q I hw;refine wpAny_mono (h jh s σ H _ I hw) (λv s' q=>?_) λ_ _ e=>e;obtain ⟨x,H',I',r,a,o,kvs,e,h0,q⟩:=q;exact ⟨x,_,I'.thaw e h0,r,q⟩
section
variable {X:Cx}
abbrev THs:=Value->TS
def PHs (X:Cx) (hs:List ExceptHandler) (t:THs):Prop :=
 ∀ jh s σ H (D:Ends) (e T:Addr) (cls a0:Value) (h':Heap),Inv X jh σ H s->FxOk X jh H e->FxOk X jh H T ->
  Heap.FlyingW (PySem.W.hideAll s.heap (e :: T :: frs X.stack)) X.stack e cls a0 h'->s.heap.UpToSlots h'->t cls D σ H->wpAny (c:) X.A (handleBy (.ref e) X.env hs) (SP X jh D) X.xe { s with heap:=h' }
def Zlc {hs:List ExceptHandler}:PHs X hs (λ_ _ _ _=>False):=λ_ _ _ _ _ _ _ _ _ _ _ _ _ _ _ z=>z.elim
def Zp2 {b₀:Stmt} {oa:List Stmt} {x:Str} {np pd:Pos} {jk:List ExceptHandler} {ts:TS} {tr:THs} {C:Addr} (hg:Gl X x) (hm:X.mg x=some (.ref C)) (hs:∀ e,PSs (V7 X e) (b₀ :: oa) ts) (hr:PHs X jk tr)
  (hex:X.ex=[]:=by rfl) (hx:X.xe=(λ_ _=>False):=by rfl) (l8:(x == ("__debug__":Str))=false:=by decide) :
  PHs X (.ExceptHandler (some (.Name x np)) none (b₀ :: oa) pd :: jk) (λcls D σ H=>∃ b,PySem.W.exmOne X.K cls (.ref C)=some b/\if b=true then ts D σ H else tr cls D σ H):=by
 intro jh s σ H D e T cls a0 h' I fe fT ke qh q;obtain ⟨b,hb,q⟩:=q;have I5:Inv X jh σ H { s with heap:=h' }:=I.flown hex fe fT ke.1 qh;obtain ⟨ob,hob,xq⟩:=ke.there;refine wpAny_handleBy_cons (codeAny_handlers_test (Je (X:=V7 X e) (I5.hnd e) hg hm ?_ l8)) (by intro q; cases q);have LT:PySem.W.Looks (c:) h' (typeOf (.ref e)) cls:=by
  have:PySem.W.Looks (c:) h' (typeOf (.ref e)) ob.cls:=(PySem.W.Looks.ld hob).andThen .now
  rw [xq] at this
  exact this
 refine (PySem.W.exm_one I5.kIn LT hb).here ?_
 cases b with
 | false=>exact hr jh s σ H D e T cls a0 h' I fe fT ke qh q
 | true =>
  refine codeAny_handlers_suite ?_;refine lands_againW ke λh₆ hfl₆ hsm₆=>?_;have I6:Inv X jh σ H { s with heap:=h₆ }:=I.flown hex fe fT hfl₆.1 (qh.trans hsm₆);have h6:=hs e jh _ σ H D (I6.hnd e) q;have ug:(V7 X e).xe=λ_ _=>False:=hx;rw [ug] at h6;refine wpAny_mono h6 (λf s2 q2=>?_) λ_ _ z=>z.elim;exact q2.unhnd I6.ok
def Zse (tb:TSX) (th:THs):TS:=λD σ H=>tb D (λcls σ' H'=>th cls D σ' H') σ H
def Zhl {body:List Stmt} {h₀:ExceptHandler} {hs:List ExceptHandler} {pos:Pos} {tb:TSX} {th:THs} (hb:PSsX false X body tb) (hh:PHs X (h₀ :: hs) th)
  (hex:X.ex=[]:=by rfl) (re:∃ o,X.stack=X.env :: o:=by exact ⟨_,Y⟩) (yp:X.env.frame=some X.env.locals:=by rfl) :
  PS X (.Try body (h₀ :: hs) [] [] pos) (Zse tb th):=by
 intro jh s σ H D I h;obtain ⟨outer,re⟩:=re;refine wpAny_Try_except (wpAny_mono (hb jh s σ H D _ I h) (λf s1 q=>?_) ?_)
 ·cases f with
  | next=>exact wpAny_execs_nil q
  | ret v=>exact q
  | brk=>exact q
  | cont=>exact q
 ·rintro ev s1 ⟨e,T,cls,a0,σ1,H1,rfl,I1,hx1,fe,fT,hT,q⟩
  obtain ⟨T,rfl⟩:∃ t,T=some t:=by
   cases T with
   | none=>exact absurd (hT Y) Bool.false_ne_true
   | some t=>exact ⟨t,Y⟩
  have fT:=fT T rfl;have t5:=Zr1 I1 hx1;have hA:X.A.frames=some (X.env :: outer):=by rw [I.ok.frames,re]
  have hf1':Heap.FlyingW (PySem.W.hideAll s1.heap (e :: T :: frs X.stack)) (X.env :: outer) e cls a0 s1.heap:=by
   have:=t5;generalize PySem.W.hideAll s1.heap (e :: T :: frs X.stack)=B at this ⊢;rw [re] at this;exact this
  refine wpAny_looks_onW hA yp hf1' λh₄ hheld₄ hsm₄=>?_;refine wpAny_landsW hheld₄ λh₅ ke hsm₅'=>?_;refine hh jh s1 σ1 H1 D e T cls a0 h₅ I1 fe fT ?_ (hsm₄.trans hsm₅') q;generalize PySem.W.hideAll s1.heap (e :: T :: frs X.stack)=B at ke ⊢;rw [re];exact ke
end
abbrev TBX:=St->Hp->(St->Hp->Prop)->XK->Prop
end L2
namespace KT
open PySem L2
end KT
namespace KT
structure Mx where
 a:Nat
 b:Nat
 c:Nat
 d:Nat
namespace Mx
noncomputable def one:Mx:=⟨1,0,0,1⟩
noncomputable def tp (x:Mx):Mx:=⟨x.a,x.c,x.b,x.d⟩
noncomputable def tr (x:Mx):Nat:=x.a + x.d
noncomputable def tu (l:Bool):Mx:=if l then ⟨1,1,0,1⟩ else ⟨1,0,1,1⟩
noncomputable def stp (x:Mx) (q:(Nat × Nat) × Bool):Mx:=if q.2 then ⟨x.a * q.1.1,x.b * q.1.2 + x.a * q.1.1,x.c * q.1.1,x.d * q.1.2 + x.c * q.1.1⟩ else ⟨x.a * q.1.1 + x.b * q.1.2,x.b * q.1.2,x.c * q.1.1 + x.d * q.1.2,x.d * q.1.2⟩
noncomputable def jo (l:List ((Nat × Nat) × Bool)):Mx:=l.foldl stp one
noncomputable def dt:List ((Nat × Nat) × Bool)->Nat
 | []=>1
 | q :: l=>q.1.1 * q.1.2 * dt l
end Mx
end KT
namespace KT
open PySem L2 Mx
noncomputable def tuB (y:Str):Bool:=decide (y=sL)
noncomputable def tuL (M:Lw) (ws:List Nat):List Bool:=(o8 M ws).map tuB
noncomputable def xi (h:Int->Nat × Nat) (ns:List Int) (ws:List Nat):List (Nat × Nat):=ws.map λp=>h (ns.getD p 0)
noncomputable def wz (h:Int->Nat × Nat) (M:Lw) (ns:List Int) (ws:List Nat):List ((Nat × Nat) × Bool):=(xi h ns ws).zip (tuL M ws)
noncomputable def wor (h:Int->Nat × Nat) (M:Lw) (ns:List Int) (ws:List Nat):Nat × Nat:=lowN (tr (jo (wz h M ns ws)) * tr (jo (wz h M ns ws))) (dt (wz h M ns ws))
variable {M:Lw} {ns:List Int} {ws:List Nat} {h:Int->Nat × Nat}
def Zh8:(xi h ns ws).length=ws.length:=by unfold xi; simp
where
 prd_mul:∀ (k:Nat) (fs:List Nat),fs.foldl (· * ·) k=k * fs.foldl (· * ·) 1
  | k,[]=>(Nat.mul_one k).symm
  | k,f :: fs=>by
   rw [foldl_cons,foldl_cons,prd_mul (k * f) fs,prd_mul (1 * f) fs,Nat.one_mul,Nat.mul_assoc]
end KT
namespace L2
open PySem PySem.Spec PyProof.Rows
def FnOk.or {P:Program} {w:World} {K:W.Frag} {mg:Str->Option Value} {base:Heap} {CX:CXT} {k:Nat} {f:Addr} {fd:FuncData} {ps:List Str} {sp sp':Sp} (F:FnOk P w K mg base CX k f fd ps sp) (G:FnOk P w K mg base CX k f fd ps sp') :
  FnOk P w K mg base CX k f fd ps (λvs H Q E=>sp vs H Q E\/sp' vs H Q E) :=
 ⟨λvs H Q E q=>q.elim (F.len vs H Q E) (G.len vs H Q E),λA outer s H args us vs Q E hr he hb hv hs=>hs.elim (F.run A outer s H args us vs Q E hr he hb hv) (G.run A outer s H args us vs Q E hr he hb hv)⟩
section
variable {X:Cx}
noncomputable def asCx (X:Cx) (e:Addr) (ob:Obj):Cx:={ V7 X e with pn:=(e,ob) :: X.pn }
variable {jh:List (m:)} {σ:St} {H:Hp} {s:Shared}
def Inv.asE (I:Inv X jh σ H s) {e:Addr} {ob:Obj} (h:s.heap.get? e=some ob) (f:FxOk X jh H e) (d:∀ v,ob.data≠.cell v):Inv (asCx X e ob) jh σ H s :=
 ⟨⟨I.ok.mod,I.ok.kind,I.ok.glob,I.ok.blt,I.ok.above,I.ok.inj,I.ok.has,I.ok.cab,λh=>absurd (show false=true from h) Bool.false_ne_true,I.ok.frames,I.ok.stk,I.ok.exf,I.ok.bs,I.ok.bsz,I.ok.noex,I.ok.exfs,I.ok.funs,I.ok.frf⟩,
  I.os,I.bare,I.base,I.loc,I.cell,I.free,I.freeC,λp hp=>(Ar (show p∈(e,ob) :: (X.pn ++ jh) from hp)).elim (λz=>z ▸ ⟨h,f.nt,f.nl,f.nf,d⟩) (I.pin p),I.hok,I.len⟩
def Inv.unas {e:Addr} {ob:Obj} (I:Inv (asCx X e ob) jh σ H s) (ok:X.Ok):Inv X jh σ H s :=
 ⟨ok,I.os,I.bare,I.base,I.loc,I.cell,I.free,I.freeC,λp hp=>I.pin p (mem_cons_of_mem _ hp),I.hok,I.len⟩
def Inv.gone {M:Model} {A:Around} {E:Value->Shared->Prop} {i:Nat} {n:Str} {pos:Pos} {Q:Unit->Shared->Prop} (I:Inv X jh σ H s) (hN:X.N.Nodup) (hi:X.N[i]?=some n) (hk:X.env.scope.names.lookup n=some .local)
  (h:∀ s',Inv X jh (σ.set i none) H s'->Q () s'):wpAny M A (do bindName X.env n .none; unbindBehindTheSuite X.env n pos) Q E s:=by
 obtain ⟨m,hn,hl⟩:=id I.loc;have xx:(X.env.scope.kind == .class || (X.env.scope.kind == .module && X.env.locals != X.env.globals))=false:=by rw [I.ok.kind]; rfl
 have hiσ:i < σ.length:=by rw [I.len]; exact (Aa hi).1
 have cne:=I.cne;refine wpAny_nameGoes_keeps hk hn xx λh' v hn' hs=>?_;refine h _ ⟨I.ok,I.os,I.bare,⟨λb o e n hb hx=>?_,λb o e n hb hx=>?_,I.base.free,λb o e hx=>?_,I.base.tups,I.base.frzs,I.base.tbls⟩,⟨_,hn',λj y v' e1 e2 e3=>?_⟩,λy c e=>?_,I.free,I.freeC,λp hp=>?_,λb ob e=>?_,by simpa using I.len⟩
 ·exact (hs.2 b (As (Ag (Ao e) I.ok.above))).trans (I.base.keep b o e n hb hx)
 ·obtain ⟨sl,e1⟩:=I.base.slot b o e n hb hx
  exact ⟨sl,(hs.2 b (As (Ag (Ao e) I.ok.above))).trans e1⟩
 ·obtain ⟨o',e1⟩:=I.base.there b o e hx
  exact ⟨o',(hs.2 b (As (Ag (Ao e) I.ok.above))).trans e1⟩
 ·by_cases hj:j=i
  ·subst hj
   rw [getElem?_set_self hiσ] at e2;cases e2
  ·rw [getElem?_set_ne (Ne.symm hj)] at e2
   obtain ⟨u',r',q⟩:=hl j y v' e1 e2 e3;refine ⟨u',r',?_⟩
   rcases q with ⟨k,e⟩ | ⟨k,c,e,z⟩
   ·refine .inl ⟨k,?_⟩
    have:y≠n:=λe=>hj (Fk hN e1 (e ▸ hi));simp [this,e]
   ·exact .inr ⟨k,c,e,z.sameBut hs (cne y c e)⟩
 ·obtain ⟨w',z⟩:=I.cell y c e
  exact ⟨w',z.sameBut hs (cne y c e)⟩
 ·obtain ⟨e,n,ne,nf,d⟩:=I.pin p hp
  exact ⟨(hs.2 p.1 ne).trans e,n,ne,nf,d⟩
 ·refine (I.hok b ob e).stay (λc w' hc q=>(hs.2 c ?_).trans q) (λ_ q=>q) λ_ _ q=>q
  rintro rfl
  rcases hc with rfl | hc
  ·rw [I.free] at e; cases e
  ·rw [I.free] at hc; cases hc
noncomputable def Zlw (i:Nat) (D:Ends):Ends:={ nx:=λσ H=>D.nx (σ.set i none) H,rt:=D.rt,bk:=λσ H=>D.bk (σ.set i none) H,ct:=λσ H=>D.ct (σ.set i none) H }
def Ztb {b₀:Stmt} {oa:List Stmt} {x n:Str} {np pd:Pos} {jk:List ExceptHandler} {ts:Addr->Obj->TS} {tr:THs} {C:Addr} {i:Nat} (hg:Gl X x) (hm:X.mg x=some (.ref C)) (hN:X.N.Nodup) (hi:X.N[i]?=some n) (hk:X.env.scope.names.lookup n=some .local) (hs:∀ e ob,PSs (asCx X e ob) (b₀ :: oa) (ts e ob)) (hr:PHs X jk tr)
  (hex:X.ex=[]:=by rfl) (hx:X.xe=(λ_ _=>False):=by rfl) (l8:(x == ("__debug__":Str))=false:=by decide) :
  PHs X (.ExceptHandler (some (.Name x np)) (some n) (b₀ :: oa) pd :: jk) (λcls D σ H=>∃ b,PySem.W.exmOne X.K cls (.ref C)=some b/\if b=true then ∀ e ob,ob.cls=cls->ts e ob (Zlw i D) (σ.set i (some (.ref e))) H else tr cls D σ H):=by
 intro jh s σ H D e T cls a0 h' I fe fT ke qh q;obtain ⟨b,hb,q⟩:=q;have I5:Inv X jh σ H { s with heap:=h' }:=I.flown hex fe fT ke.1 qh;obtain ⟨ob,hob,xq⟩:=ke.there;refine wpAny_handleBy_cons (codeAny_handlers_test (Je (X:=V7 X e) (I5.hnd e) hg hm ?_ l8)) (by intro q; cases q);have LT:PySem.W.Looks (c:) h' (typeOf (.ref e)) cls:=by
  have:PySem.W.Looks (c:) h' (typeOf (.ref e)) ob.cls:=(PySem.W.Looks.ld hob).andThen .now
  rw [xq] at this
  exact this
 refine (PySem.W.exm_one I5.kIn LT hb).here ?_
 cases b with
 | false=>exact hr jh s σ H D e T cls a0 h' I fe fT ke qh q
 | true =>
  refine codeAny_handlers_suite_as ?_;refine lands_againW ke λh₆ hfl₆ hsm₆=>?_;have I6:Inv X jh σ H { s with heap:=h₆ }:=I.flown hex fe fT hfl₆.1 (qh.trans hsm₆);obtain ⟨oe,ws,uk,hoec,hoed,_⟩:=hfl₆.first;have I7:=I6.asE uk fe (λv z=>by rw [hoed] at z; cases z);refine W7 (X:=asCx X e oe) (v:=.ref e) I7 hN hi (.inl hk) Y (λs7 I8=>?_) (.inr hk);have h6:=hs e oe jh s7 _ H (Zlw i D) I8 (q e oe hoec);have ug:(asCx X e oe).xe=λ_ _=>False:=hx;rw [ug] at h6;refine wpAny_mono h6 (λf s2 q2=>?_) λ_ _ z=>z.elim
  cases f with
  | next=>obtain ⟨σ',H',J,q⟩:=q2; exact (J.unas I6.ok).gone hN hi hk λs' J'=>⟨_,_,J',q⟩
  | brk=>obtain ⟨σ',H',J,q⟩:=q2; exact (J.unas I6.ok).gone hN hi hk λs' J'=>⟨_,_,J',q⟩
  | cont=>obtain ⟨σ',H',J,q⟩:=q2; exact (J.unas I6.ok).gone hN hi hk λs' J'=>⟨_,_,J',q⟩
  | ret u=>obtain ⟨v,σ',H',J,r,q⟩:=q2; exact (J.unas I6.ok).gone hN hi hk λs' J'=>⟨_,_,_,J',r,q⟩
def Za0:bootBuiltins "ValueError"=some (.type "ValueError"):=by decide +kernel
def Zp6 {K:W.Frag} {a:Addr} {t c:Value} (e:PySem.W.kitOne K t c=some true):Answers (λs=>PySem.W.Frag.In K s.heap/\∃ o,s.heap.get? a=some o/\o.cls=t) (.ref a) c true:=by
 intro dep tk prog w A R s hs;obtain ⟨h0,g,d,tt,os⟩:=s;obtain ⟨⟨X,o,ho,hc⟩,hq⟩:=hs;have LT:PySem.W.Looks (p:) h0 (typeOf (.ref a)) t:=by
  have:PySem.W.Looks (p:) h0 (typeOf (.ref a)) o.cls:=(PySem.W.Looks.ld ho).andThen .now
  rw [hc] at this
  exact this
 unfold PySem.W.kitOne at e;unfold Builtin.«isinstance.nested»;refine Al (LT.at ?_);by_cases q:(t == c)=true
 ·rw [if_pos q]
  first
   | exact Al (wpAny_rule (hq tt))
   | exact Al (wpAny_rule (wpAny_pure (hq tt)))
 ·rw [if_neg q] at e
  rw [if_neg q];obtain ⟨zq,his,hsub⟩:=PySem.W.kit_cls (M:=model prog w) X e;have LI:PySem.W.Looks (p:) h0 (isInstance (.ref a) c) true:=LT.andThen hsub;refine Al (zq.at ?_);rw [if_pos (d:)]
  k_delta "plainIsInstance"
  refine Al (Al (his.at ?_));simp only [Bool.not_true,Bool.false_eq_true,if_false];refine Al (LI.at ?_)
  first
   | exact wpAny_pure (wpAny_pure (hq tt))
   | (simp only [if_true]; first | exact wpAny_pure (wpAny_pure (hq tt)) | exact wpAny_pure (hq tt) | exact Al (wpAny_pure (wpAny_pure (hq tt))))
def Zgf {e:Addr} {ob:Obj}:Y2 (asCx X e ob) (.builtin "isinstance") (λxs H Q=>∃ T,xs=[.ref e,.ty T]/\PySem.W.kitOne X.K ob.cls (.type T)=some true/\Q (.bl true) H):=by
 intro jh s σ H xs us Q I r h;obtain ⟨T,rfl,hk,q⟩:=h;obtain ⟨u,u2,rfl,ru,ru2⟩:=Znx r;cases ru;obtain rfl:u2=Value.type T:=ru2;have hp:=I.pin (e,ob) (mem_cons_self ..);exact call_isinstance (S:=λ_ R s=>(X.K.In s.heap/\∃ o,s.heap.get? e=some o/\o.cls=ob.cls)/\∀ tk,R (.ok (.ret (.bool true))) { s with toks:=tk })
  (λprog w A R s hs=>isinstance_outer (Zp6 hk 0 _ prog w A R s hs) (C:)) ⟨⟨I.kIn,ob,hp.1,rfl⟩,λtk=>⟨.bl true,H,I.tok _,rfl,q⟩⟩
end
end L2
namespace KT
open PySem L2
section
variable {M:Lw}
open Classical in
noncomputable def fanF (M:Lw) (c:Nat):List Nat × Bool:=if h:∃ q:List Nat × Bool,FanEnd M c q.1 q.2 then h.choose else ([],false)
noncomputable def fanL (M:Lw) (c:Nat):List Nat:=(fanF M c).1
noncomputable def mn (l:List Nat):Nat:=l.min?.getD 0
noncomputable def key (M:Lw) (c:Nat):Int:=(mn (fanL M c):Nat)
end
noncomputable def it (f:Nat->Nat):Nat->Nat->Nat
 | 0,x=>x
 | k + 1,x=>f (it f k x)
section
variable {M:Lw} {P:List Nat} {n:Nat}
noncomputable def mtQ (M:Lw) (p:Nat):Nat:=(M.getD p none).getD 0
def Zk0 (h:M[x]?=some (some y)):mtQ M x=y:=by unfold mtQ; rw [Ad,h]; rfl
end
def nN (f:Nat->Int) (p:Nat):Nat:=(f p).toNat
noncomputable def sgP (M:Lw) (f:Nat->Int) (c:Nat):Nat:=1000 * mtQ M (c / 1000) + (nN f (c / 1000) - 1 - c % 1000)
noncomputable def tuP (f:Nat->Int) (c:Nat):Nat:=if ((c % 1000:Nat):Int) < (f (bN (c / 1000)) + f (c / 1000) - f (aN (c / 1000))) / 2 then 1000 * bN (c / 1000) + (nN f (bN (c / 1000)) - 1 - c % 1000) else 1000 * aN (c / 1000) + (nN f (c / 1000) - 1 - c % 1000)
noncomputable def nxP (M:Lw) (f:Nat->Int) (c:Nat):Nat:=tuP f (sgP M f c)
def VpP (M:Lw) (f:Nat->Int) (c:Nat):Prop:=c / 1000 < M.length/\c % 1000 < nN f (c / 1000)
structure Fam (M:Lw) (f:Nat->Int) (n:Nat):Prop where
 pc:PC M f
 inv:InvM M
 hn:M.length=3 * n
 le:∀ p,p < M.length->f p<=900
def Qm {p s:Nat} (h:s < 1000):(1000 * p + s) / 1000=p/\(1000 * p + s) % 1000=s:=by omega
section
variable {M:Lw} {f:Nat->Int} {n:Nat}
def Fam.nf (h:Fam M f n) (hp:p < M.length):((nN f p:Nat):Int)=f p/\nN f p<=900:=by
 have h1:=h.pc.nn p hp;have h2:=h.le p hp;unfold nN;omega
def Fam.sg (h:Fam M f n) (v:VpP M f c):∃ q,M[c / 1000]?=some (some q)/\sgP M f c=1000 * q + (nN f (c / 1000) - 1 - c % 1000)/\VpP M f (sgP M f c)/\sgP M f (sgP M f c)=c/\(sgP M f c) / 1000=q/\q≠c / 1000:=by
 obtain ⟨v1,v2⟩:=v;obtain ⟨f1,f2⟩:=h.nf v1;obtain ⟨o,ho⟩:∃ o,M[c / 1000]?=some o:=⟨_,Ac v1⟩
 cases o with
 | none=>have:=h.pc.rim _ ho; omega
 | some q =>
  obtain ⟨i1,i2⟩:=h.inv _ _ ho;have hq:q < M.length:=(Aa i1).1;have e:sgP M f c=1000 * q + (nN f (c / 1000) - 1 - c % 1000):=by unfold sgP; rw [Zk0 ho]
  have eN:nN f q=nN f (c / 1000):=by unfold nN; rw [h.pc.mate _ _ ho]
  have d:=Qm (p:=q) (s:=nN f (c / 1000) - 1 - c % 1000) (by omega);refine ⟨q,ho,e,?_,?_,by rw [e]; exact d.1,λz=>i2 z.symm⟩
  ·unfold VpP
   rw [e,d.1,d.2,eN];exact ⟨hq,by omega⟩
  ·rw [e]
   unfold sgP;rw [d.1,d.2,Zk0 i1,eN];omega
def tuI {x y z:Int} {A B C e:Nat} (fx:(C:Int)=x) (fy:(A:Int)=y) (fz:(B:Int)=z) (ev:(x + y + z) % 2=0) (t1:x<=y + z) (t2:y<=z + x) (t3:z<=x + y) (he:e < C):((e:Int) < (z + x - y) / 2->e < B/\¬ ((B - 1 - e:Nat):Int) < (y + z - x) / 2)/\(¬ (e:Int) < (z + x - y) / 2->C - 1 - e < A/\((C - 1 - e:Nat):Int) < (x + y - z) / 2):=by
 subst fx fy fz;obtain ⟨k,hk⟩:∃ k:Int,(C:Int) + A + B=2 * k:=⟨((C:Int) + A + B) / 2,by omega⟩;rw [show ((B:Int) + C - A) / 2=k - A by omega,show ((A:Int) + B - C) / 2=k - C by omega,show ((C:Int) + A - B) / 2=k - B by omega];clear ev;refine ⟨λh=>?_,λh=>?_⟩ <;> omega
def bk1 {B e:Nat} (h:e < B):B - 1 - (B - 1 - e)=e:=by omega
def lt1k {B e:Nat} (h:B<=900):B - 1 - e < 1000:=by omega
def lt1b {B e:Nat} (h:e < B):B - 1 - e < B:=by omega
def Fam.tuq (h:Fam M f n) {p e:Nat} (v1:p < M.length) (v2:e < nN f p):aN p < M.length/\bN p < M.length/\(((e:Int) < (f (bN p) + f p - f (aN p)) / 2->e < nN f (bN p)/\¬ ((nN f (bN p) - 1 - e:Nat):Int) < (f (aN p) + f (bN p) - f p) / 2)/\(¬ (e:Int) < (f (bN p) + f p - f (aN p)) / 2->nN f p - 1 - e < nN f (aN p)/\((nN f p - 1 - e:Nat):Int) < (f p + f (aN p) - f (bN p)) / 2)):=by
 obtain ⟨d1,d2,d3,d4,d5,d6,_⟩:=F2 p;have hn:=h.hn;have ha:aN p < M.length:=by clear v2 d2 d3 d4 d5 d6; omega
 have hb:bN p < M.length:=by clear v2 d1 d3 d4 d5 d6 ha; omega
 have t2:=h.pc.tri _ ha;have t3:=h.pc.tri _ hb;rw [d3,d4] at t2;rw [d5,d6] at t3;exact ⟨ha,hb,tuI (h.nf v1).1 (h.nf ha).1 (h.nf hb).1 (h.pc.even p v1) (h.pc.tri p v1) t2 t3 v2⟩
def Fam.tu (h:Fam M f n) (v:VpP M f c):VpP M f (tuP f c)/\tuP f (tuP f c)=c/\(tuP f c) / 1000 / 3=c / 1000 / 3/\(tuP f c) / 1000≠c / 1000:=by
 obtain ⟨v1,v2⟩:=v;have ec:=div_add_mod c 1000;generalize hp:c / 1000=p at *;generalize hs:c % 1000=e at *;obtain ⟨d1,d2,d3,d4,d5,d6,d7,d8,d9⟩:=F2 p;obtain ⟨ha,hb,q1,q2⟩:=h.tuq v1 v2;by_cases c1:(e:Int) < (f (bN p) + f p - f (aN p)) / 2
 ·have e1:tuP f c=1000 * bN p + (nN f (bN p) - 1 - e):=by unfold tuP; rw [hp,hs,if_pos c1]
  have dd:=Qm (p:=bN p) (lt1k (e:=e) (h.nf hb).2);obtain ⟨q3,q4⟩:=q1 c1;refine ⟨?_,?_,?_,?_⟩
  ·unfold VpP; rw [e1,dd.1,dd.2]; exact ⟨hb,lt1b q3⟩
  ·rw [e1]
   unfold tuP;rw [dd.1,dd.2,d5,d6,if_neg q4,bk1 q3];exact ec
  ·rw [e1,dd.1]; exact d2
  ·rw [e1,dd.1]; exact d8
 ·have e1:tuP f c=1000 * aN p + (nN f p - 1 - e):=by unfold tuP; rw [hp,hs,if_neg c1]
  have dd:=Qm (p:=aN p) (lt1k (e:=e) (h.nf v1).2);obtain ⟨q3,q4⟩:=q2 c1;refine ⟨?_,?_,?_,?_⟩
  ·unfold VpP; rw [e1,dd.1,dd.2]; exact ⟨ha,q3⟩
  ·rw [e1]
   unfold tuP;rw [dd.1,dd.2,d3,d4,if_pos q4,bk1 v2];exact ec
  ·rw [e1,dd.1]; exact d1
  ·rw [e1,dd.1]; exact d7
def Fam.nx (h:Fam M f n) {c:Nat} (v:VpP M f c):VpP M f (nxP M f c):=(h.tu (h.sg v).choose_spec.2.2.1).1
def Fam.sgV (h:Fam M f n) (v:VpP M f c):VpP M f (sgP M f c):=(h.sg v).choose_spec.2.2.1
def Fam.sgsg (h:Fam M f n) (v:VpP M f c):sgP M f (sgP M f c)=c:=(h.sg v).choose_spec.2.2.2.1
def Fam.nx_inj (h:Fam M f n) (v:VpP M f c) (v':VpP M f d) (e:nxP M f c=nxP M f d):c=d:=by
 have e1:=congrArg (tuP f) e;unfold nxP at e1;rw [(h.tu (h.sgV v)).2.1,(h.tu (h.sgV v')).2.1] at e1;have e2:=congrArg (sgP M f) e1;rwa [h.sgsg v,h.sgsg v'] at e2
theorem Fam.itV (h:Fam M f n) (v:VpP M f c):∀ k,VpP M f (it (nxP M f) k c)
 | 0=>v
 | k + 1=>h.nx (h.itV v k)
def RnP (M:Lw) (f:Nat->Int) (c d:Nat):Prop:=VpP M f c/\nxP M f c=d
def Fam.rinj (h:Fam M f n):∀ a b x,RnP M f a x->RnP M f b x->a=b:=λa b x h1 h2=>h.nx_inj h1.1 h2.1 (h1.2.trans h2.2.symm)
theorem Zhs {os:List Nat} (o:Orb (RnP M f) c os):∀ i x,os[i]?=some x->x=it (nxP M f) i c
 | 0,x,hx=>by rw [o.head] at hx; cases hx; rfl
 | i + 1,x,hx=>by
  have hi:i < os.length:=by have:=(Aa hx).1; omega
  have e:=Ac hi;have r:=o.chain i _ x e hx;rw [<- r.2,Zhs o i _ e];rfl
def Fam.orbV (h:Fam M f n) {c:Nat} (v:VpP M f c) {os:List Nat} (o:Orb (RnP M f) c os):∀ x∈os,VpP M f x:=λx hx=>by
 obtain ⟨i,hi,e⟩:=mem_iff_getElem.mp hx;rw [Zhs o i x (by rw [Ac hi,e])];exact h.itV v i
noncomputable def ptsL (f:Nat->Int):Nat->List Nat
 | 0=>[]
 | p + 1=>ptsL f p ++ (List.range (nN f p)).map λs=>1000 * p + s
theorem Zez (z8:∀ p,nN f p<=900\/True):∀ {m c:Nat},(∀ p,p < m->nN f p<=900)->(c∈ptsL f m ↔ c / 1000 < m/\c % 1000 < nN f (c / 1000))
 | 0,c,_=>by simp [ptsL]
 | m + 1,c,hl=>by
  unfold ptsL;rw [mem_append,Zez z8 (λp hp=>hl p (by omega)),mem_map];have:=hl m (lt_succ_self _);constructor
  ·rintro (⟨h1,h2⟩ | ⟨s,hs,rfl⟩)
   ·exact ⟨by omega,h2⟩
   ·have:=mem_range.mp hs
    have d:=Qm (p:=m) (s:=s) (by omega);rw [d.1,d.2];exact ⟨by omega,this⟩
  ·rintro ⟨h1,h2⟩
   by_cases z:c / 1000=m
   ·exact .inr ⟨c % 1000,mem_range.mpr (by rw [<- z]; exact h2),by omega⟩
   ·exact .inl ⟨by omega,h2⟩
def Fam.pts_mem (h:Fam M f n):c∈ptsL f M.length ↔ VpP M f c:=Zez (λ_=>.inr trivial) λp hp=>(h.nf hp).2
theorem Js (f:Nat->Int):∀ m,(∀ p,p < m->0<=f p)->((ptsL f m).length:Int)=sF f m
 | 0,_=>rfl
 | m + 1,hl=>by
  unfold ptsL;rw [Ae,Ab,length_range];have:=Js f m λp hp=>hl p (by omega);have h0:=hl m (lt_succ_self _);show ((_ + nN f m:Nat):Int)=sF f (m + 1);unfold nN sF;omega
theorem Zkz:∀ (l k:List Nat),l.Nodup->(∀ x∈l,x∈k)->l.length<=k.length
 | [],_,_,_=>Az _
 | x :: l,k,nd,h=>by
  obtain ⟨n1,n2⟩:=nodup_cons.mp nd;have hx:=h x mem_cons_self;have:=Zkz l (k.erase x) n2 λy hy=>(mem_erase_of_ne (λz=>n1 (by rw [<- z]; exact hy))).mpr (h y (mem_cons_of_mem _ hy));rw [length_erase_of_mem hx] at this;have:=length_pos_of_mem hx;rw [length_cons];omega
def Fam.few (h:Fam M f n) (hs:sF f M.length<=1200) {l:List Nat} (nd:l.Nodup) (hv:∀ c∈l,VpP M f c):l.length<=1200:=by
 have h1:=Zkz l (ptsL f M.length) nd λc hc=>h.pts_mem.mpr (hv c hc);have h2:=Js f M.length h.pc.nn;omega
def Fam.plain (h:Fam M f n) (v:VpP M f c) {os:List Nat} (o:OrbEnd (RnP M f) c os):Pl M (os.map (· / 1000)):=by
 have hp:=o.pos;refine ⟨λz=>?_,λp yl=>?_,λk a p ha uj m hm=>?_⟩
 ·rw [map_eq_nil_iff] at z; rw [z] at hp; simp at hp
 ·obtain ⟨x,hx,rfl⟩:=mem_map.mp yl
  obtain ⟨q,e,_⟩:=h.sg (h.orbV v o.toOrb x hx);exact ⟨q,e⟩
 ·rw [Ab,Ah] at uj
  rw [Ah] at ha;obtain ⟨x,ex,rfl⟩:=Option.map_eq_some_iff.mp ha;obtain ⟨y,ey,rfl⟩:=Option.map_eq_some_iff.mp uj;have vx:=h.orbV v o.toOrb x (Au ex)
  have r:RnP M f x y:=by
   have hk:=(Aa ex).1;by_cases z:k + 1 < os.length
   ·rw [mod_eq_of_lt z] at ey
    exact o.chain k x y ex ey
   ·rw [show k + 1=os.length by omega,mod_self,o.head] at ey
    cases ey;obtain ⟨l,hl,rl⟩:=o.last;rw [show os.length - 1=k by omega,ex] at hl;cases hl;exact rl
  obtain ⟨q,e1,_,v2,_,e5,_⟩:=h.sg vx;rw [hm] at e1;cases e1;obtain ⟨_,_,t3,t4⟩:=h.tu v2;rw [e5] at t3 t4;rw [<- r.2];exact ⟨t3,t4⟩
end
end KT
namespace L2
open PySem PySem.SetTable
noncomputable def s5:Nat->Nat
 | 0=>0
 | n + 1=>5 * s5 n + 1
theorem Zae:∀ n,4 * s5 n + 1=5 ^ n
 | 0=>rfl
 | n + 1=>by rw [Nat.pow_succ,<- Zae n]; show 4 * (5 * s5 n + 1) + 1=_; lia
def Zq3 (n:Nat):s5 (2 * n)=s5 n * (5 ^ n + 1):=by
 have h1:=Zae (2 * n);have h2:=Zae n;have e:5 ^ (2 * n)=5 ^ n * 5 ^ n:=by rw [Nat.two_mul,Nat.pow_add]
 have:4 * s5 (2 * n)=4 * (s5 n * (5 ^ n + 1)):=by
  have a1:4 * s5 (2 * n) + 1=5 ^ n * 5 ^ n:=by rw [h1,e]
  have a2:4 * (s5 n * (5 ^ n + 1)) + 1=5 ^ n * 5 ^ n:=by
   rw [<- h2];generalize s5 n=x;rw [Nat.add_assoc (4 * x) 1 1];simp only [Nat.mul_add,Nat.add_mul,Nat.mul_one,Nat.one_mul];have:4 * x * (4 * x)=4 * (x * (4 * x)):=Nat.mul_assoc _ _ _;lia
  lia
 lia
theorem Zkg:∀ n,s5 n % 2=n % 2
 | 0=>rfl
 | n + 1=>by have:=Zkg n; show (5 * s5 n + 1) % 2=_; lia
theorem Ky:∀ n,5 ^ n % 4=1
 | 0=>rfl
 | n + 1=>by have:=Ky n; rw [Nat.pow_succ]; lia
def Zbw {k x y:Nat} (hy:y % 2=1) (h:2 ^ k ∣ x * y):2 ^ k ∣ x:=by
 have c:Nat.Coprime (2 ^ k) y:=by
  apply Nat.Coprime.pow_left;rw [coprime_iff_gcd_eq_one,gcd_rec,hy];rfl
 exact c.dvd_of_dvd_mul_right h
theorem Zkh:∀ (k n:Nat),2 ^ k ∣ s5 n->2 ^ k ∣ n
 | 0,n,_=>by rw [Nat.pow_zero]; exact Nat.one_dvd n
 | k + 1,n,h=>by
  have h2:2 ∣ s5 n:=Nat.dvd_trans ⟨2 ^ k,by rw [Nat.pow_succ,Nat.mul_comm]⟩ h;have ho:=Zkg n;obtain ⟨m,rfl⟩:∃ m,n=2 * m:=⟨n / 2,by lia⟩;rw [Zq3] at h;have f:=Ky m;obtain ⟨q,hq⟩:∃ q,5 ^ m + 1=2 * q:=⟨(5 ^ m + 1) / 2,by lia⟩;have hq1:q % 2=1:=by lia
  rw [hq,Nat.pow_succ,<- Nat.mul_assoc,Nat.mul_right_comm,Nat.mul_comm _ 2,Nat.mul_comm (s5 m * q) 2] at h;have h:=Nat.dvd_of_mul_dvd_mul_left (d:) h;rw [Nat.pow_succ,Nat.mul_comm];exact Nat.mul_dvd_mul_left 2 (Zkh k m (Zbw hq1 h))
noncomputable def lq (N:Nat):Nat->Nat->Nat
 | 0,x=>x
 | n + 1,x=>(lq N n x * 5 + 1) % N
theorem Zfs (N x:Nat):∀ n,lq N n x % N=(5 ^ n * x + s5 n) % N
 | 0=>by show x % N=(1 * x + 0) % N; simp
 | n + 1=>by
  have ih:=Zfs N x n;show (lq N n x * 5 + 1) % N % N=(5 ^ (n + 1) * x + (5 * s5 n + 1)) % N;rw [mod_mod,Nat.pow_succ,add_mod,mul_mod,ih,<- mul_mod,<- add_mod];congr 1;rw [Nat.add_mul,Nat.mul_right_comm,Nat.mul_comm (s5 n) 5];lia
theorem Zki (m:Nat):∀ n,s5 (n + m)=5 ^ n * s5 m + s5 n
 | 0=>by simp [s5]
 | n + 1=>by
  rw [Nat.add_right_comm];show 5 * s5 (n + m) + 1=5 ^ (n + 1) * s5 m + (5 * s5 n + 1);rw [Zki m n,Nat.pow_succ,Nat.mul_add,<- Nat.mul_assoc,Nat.mul_comm 5 (5 ^ n)];lia
def Zrt {k:Nat} (hij:i < j) (hj:j < 2 ^ k):lq (2 ^ k) i x % 2 ^ k≠lq (2 ^ k) j x % 2 ^ k:=λe=>by
 rw [Zfs,Zfs] at e;obtain ⟨d,rfl⟩:∃ d,j=i + d:=⟨j - i,by lia⟩;have e1:5 ^ (i + d) * x + s5 (i + d)=(5 ^ i * x + s5 i) + 5 ^ i * (s5 d * (4 * x + 1)):=by
  rw [Zki,Nat.pow_add,<- Zae d]
  generalize 5 ^ i=u
  generalize s5 d=v
  simp only [Nat.mul_add,Nat.add_mul,Nat.mul_one,Nat.one_mul]
  have:u * (4 * v) * x=u * (v * (4 * x)):=by
   rw [Nat.mul_assoc,Nat.mul_comm 4 v,Nat.mul_assoc v 4 x]
  lia
 have dv:2 ^ k ∣ 5 ^ i * (s5 d * (4 * x + 1)):=by
  have:(5 ^ i * x + s5 i) % 2 ^ k=((5 ^ i * x + s5 i) + 5 ^ i * (s5 d * (4 * x + 1))) % 2 ^ k:=by rw [<- e1]; exact e
  have:=sub_mod_eq_zero_of_mod_eq this.symm;rw [Nat.add_sub_cancel_left] at this;exact dvd_of_mod_eq_zero this
 have o1:5 ^ i % 2=1:=by have:=Ky i; lia
 rw [Nat.mul_comm] at dv;have dv:=Zbw o1 dv;have dv:=Zbw (show (4 * x + 1) % 2=1 by lia) dv;have:=le_of_dvd (by lia) (Zkh k d dv);lia
theorem Zbx:∀ (n:Nat) (l:List Nat),l.Nodup->(∀ a∈l,a < n)->l.length<=n
 | 0,l,_,h=>by
  cases l with
  | nil=>exact An _
  | cons a r=>exact absurd (h a mem_cons_self) (not_lt_zero _)
 | n + 1,l,hd,h=>by
  have ih:=Zbx n (l.erase n) (hd.erase n) λa ha=>by
   have:=(List.Nodup.mem_erase_iff hd).mp ha;have:=h a this.2;lia
  by_cases z:n∈l
  ·have:=length_erase_of_mem z
   lia
  ·rw [erase_of_not_mem z] at ih
   lia
def Zru {k y:Nat} (hy:y < 2 ^ k):∃ n,n < 2 ^ k/\lq (2 ^ k) n x % 2 ^ k=y:=by
 refine Classical.byContradiction λno=>?_;have pos:0 < 2 ^ k:=Nat.two_pow_pos k;have nd:(y :: (List.range (2 ^ k)).map λn=>lq (2 ^ k) n x % 2 ^ k).Nodup:=by
  refine nodup_cons.mpr ⟨λz=>?_,?_⟩
  ·obtain ⟨n,hn,e⟩:=mem_map.mp z
   exact no ⟨n,mem_range.mp hn,e⟩
  ·refine pairwise_map.mpr (List.Pairwise.imp_of_mem (λ{a b} ha hb h=>Zrt h (mem_range.mp hb)) pairwise_lt_range)
 have:=Zbx (2 ^ k) _ nd λa ha=>by
  rcases Ar ha with rfl | ha
  ·exact hy
  ·obtain ⟨n,_,rfl⟩:=mem_map.mp ha
   exact mod_lt _ pos
 rw [length_cons,Ab,length_range] at this;lia
noncomputable def lp (m:Nat) (h:Int):Nat->Nat × Nat
 | 0=>(bits h % (m + 1),bits h)
 | n + 1=>leap m (lp m h n).1 (lp m h n).2
theorem Zje (m:Nat) (h:Int):∀ n,(lp m h n).1<=m
 | 0=>le_of_lt_succ (mod_lt _ (succ_pos m))
 | n + 1=>le_of_lt_succ (mod_lt _ (succ_pos m))
def Zqe (h:Int):bits h < 2 ^ 64:=by
 unfold bits;have h1:=Int.emod_nonneg h (show (2 ^ 64:Int)≠0 by decide);have h2:=Int.emod_lt_of_pos h (show (0:Int) < 2 ^ 64 by decide);lia
theorem Zk2 (m:Nat) (h:Int):∀ n,(lp m h n).2 * 32 ^ n<=bits h
 | 0=>by show bits h * 1<=_; lia
 | n + 1=>by
  have ih:=Zk2 m h n;show (lp m h n).2 / 32 * 32 ^ (n + 1)<=bits h;have:(lp m h n).2 / 32 * 32<=(lp m h n).2:=div_mul_le_self _ _
  calc (lp m h n).2 / 32 * 32 ^ (n + 1)=((lp m h n).2 / 32 * 32) * 32 ^ n:=by rw [Nat.pow_succ,Nat.mul_assoc,Nat.mul_comm 32]
   _<=(lp m h n).2 * 32 ^ n:=mul_le_mul_right _ this
   _<=bits h:=ih
def Zpu (m:Nat) (h:Int) (n:Nat):(lp m h (13 + n)).2=0:=by
 have h1:=Zk2 m h 13;have h2:=Zqe h;have h3:(lp m h 13).2=0:=by
  rcases eq_zero_or_pos (lp m h 13).2 with z | z
  ·exact z
  ·have:1 * 32 ^ 13<=(lp m h 13).2 * 32 ^ 13:=mul_le_mul_right _ z
   have e:(32:Nat) ^ 13=36893488147419103232:=by decide +kernel
   have e2:(2:Nat) ^ 64=18446744073709551616:=by decide +kernel
   lia
 induction n with
 | zero=>exact h3
 | succ n ih=>show (lp m h (13 + n)).2 / 32=0; rw [ih]
theorem Zoa (m:Nat) (h:Int):∀ n,(lp m h (13 + n)).1=lq (m + 1) n (lp m h 13).1
 | 0=>rfl
 | n + 1=>by
  show ((lp m h (13 + n)).1 * 5 + 1 + (lp m h (13 + n)).2 / 32) % (m + 1)=(lq (m + 1) n (lp m h 13).1 * 5 + 1) % (m + 1);rw [Zpu,Zoa m h n]
def Zk3 {k:Nat} (hm:m + 1=2 ^ k) (h:Int) {y:Nat} (hy:y<=m):∃ n,n<=m + 13/\(lp m h n).1=y:=by
 obtain ⟨n,h1,h2⟩:=Zru (k:=k) (x:=(lp m h 13).1) (y:=y) (by lia);refine ⟨13 + n,by lia,?_⟩;have e:=Zoa m h n;have hl:=Zje m h (13 + n);rw [hm] at e;rw [<- h2,<- e,mod_eq_of_lt (by lia)]
noncomputable def advM (m:Nat) (p:Probe):Probe :=
 if p.more > 0 then { p with j:=p.j + 1,more:=p.more - 1 } else
 { p with j:=(leap m p.i p.perturb).1,more:=runEnd m (leap m p.i p.perturb).1 - (leap m p.i p.perturb).1,i:=(leap m p.i p.perturb).1,perturb:=(leap m p.i p.perturb).2 }
def Zl0 (t:SetTable) (p:Probe):t.advance p=advM t.mask p:=by unfold advance advM; split <;> rfl
noncomputable def stM (m:Nat) (h:Int):Probe:={ j:=bits h % (m + 1),more:=runEnd m (bits h % (m + 1)) - bits h % (m + 1),i:=bits h % (m + 1),perturb:=bits h,dummy:=none }
noncomputable def pth (m:Nat) (h:Int):Nat->Probe
 | 0=>stM m h
 | n + 1=>advM m (pth m h n)
noncomputable def runL (m i:Nat):Nat:=runEnd m i - i
def Zq4 (m i:Nat):runL m i<=9:=by unfold runL runEnd; split <;> lia
def Zkj (h:i<=m):i + runL m i<=m:=by unfold runL runEnd; split <;> lia
noncomputable def ix (m:Nat) (h:Int):Nat->Nat
 | 0=>0
 | n + 1=>ix m h n + runL m (lp m h n).1 + 1
theorem Zoc (m:Nat) (h:Int):∀ n,ix m h n<=10 * n
 | 0=>An _
 | n + 1=>by have:=Zoc m h n; have:=Zq4 m (lp m h n).1; show ix m h n + _ + 1<=_; lia
theorem Jt (m:Nat) (h:Int):∀ n r,r<=runL m (lp m h n).1->pth m h (ix m h n + r)={ j:=(lp m h n).1 + r,more:=runL m (lp m h n).1 - r,i:=(lp m h n).1,perturb:=(lp m h n).2,dummy:=none }
 | 0,0,_=>rfl
 | n + 1,0,_=>by
  have e:=Jt m h n (runL m (lp m h n).1) (An _);show pth m h (ix m h n + runL m (lp m h n).1 + 1)=_;show advM m (pth m h (ix m h n + runL m (lp m h n).1))=_;rw [e];unfold advM;rw [if_neg (by show ¬ runL m (lp m h n).1 - runL m (lp m h n).1 > 0; lia)];rfl
 | n,r + 1,hr=>by
  have e:=Jt m h n r (by lia);show advM m (pth m h (ix m h n + r))=_;rw [e];unfold advM;rw [if_pos (by show runL m (lp m h n).1 - r > 0; lia)];show Probe.mk _ _ _ _ _=_;congr 1
theorem Ze0 (m:Nat) (h:Int):∀ n,∃ L r,n=ix m h L + r/\r<=runL m (lp m h L).1
 | 0=>⟨0,0,rfl,Az _⟩
 | n + 1=>by
  obtain ⟨L,r,rfl,hr⟩:=Ze0 m h n;by_cases z:r < runL m (lp m h L).1
  ·exact ⟨L,r + 1,Y,z⟩
  ·exact ⟨L + 1,0,by show _=ix m h L + runL m (lp m h L).1 + 1 + 0; lia,Az _⟩
def Zdq (m:Nat) (h:Int) (n:Nat):(pth m h n).j<=m/\(pth m h n).dummy=none:=by
 obtain ⟨L,r,rfl,hr⟩:=Ze0 m h n;rw [Jt m h L r hr];exact ⟨by have:=Zkj (Zje m h L); show (lp m h L).1 + r<=m; lia,rfl⟩
def Zdt {k:Nat} (hm:m + 1=2 ^ k) (h:Int) {O:Nat->Prop} (hy:y<=m) (ho:¬ O y):∃ N,N < 10 * turns m/\¬ O (pth m h N).j/\∀ n,n < N->O (pth m h n).j:=by
 obtain ⟨L,h1,h2⟩:=Zk3 hm h hy;have e:=Jt m h L 0 (Az _);have f:¬ O (pth m h (ix m h L)).j:=by rw [show ix m h L=ix m h L + 0 from rfl,e]; show ¬ O ((lp m h L).1 + 0); rw [h2]; exact ho
 have:∀ a,¬ O (pth m h a).j->∃ N,N<=a/\¬ O (pth m h N).j/\∀ n,n < N->O (pth m h n).j:=λa=>by
  induction a using Nat.strongRecOn with
  | ind a ih =>
   intro ha;by_cases c:∃ b,b < a/\¬ O (pth m h b).j
   ·obtain ⟨b,b1,b2⟩:=c
    obtain ⟨N,n1,n2⟩:=ih b b1 b2;exact ⟨N,by lia,n2⟩
   ·exact ⟨a,An _,ha,λn hn=>Classical.byContradiction λz=>c ⟨n,hn,z⟩⟩
 obtain ⟨N,n1,n2⟩:=this _ f;refine ⟨N,?_,n2⟩;have:=Zoc m h L;unfold turns;lia
def Zhj {ps:List Nat} (hp:ps.Pairwise (· < ·)) {a b x y:Nat} (nz:a<=b) (ha:ps[a]?=some x) (hb:ps[b]?=some y):x<=y:=by
 rcases Nat.eq_or_lt_of_le nz with z | z
 ·subst z; rw [ha] at hb; cases hb; exact An _
 ·obtain ⟨a1,rfl⟩:=Aa ha
  obtain ⟨b1,rfl⟩:=Aa hb;exact Nat.le_of_lt (pairwise_iff_getElem.mp hp a b a1 b1 z)
def Zrr {lo hi ju:Nat} (c:lo < hi) (hf:hi - lo<=ju + 1):lo<=(lo + hi) / 2/\(lo + hi) / 2 < hi/\hi - ((lo + hi) / 2 + 1)<=ju/\(lo + hi) / 2 - lo<=ju:=by lia
theorem K2 {ps:List Nat} (hp:ps.Pairwise (· < ·)) (j:Nat):∀ (ju lo hi:Nat),hi - lo<=ju->lo<=hi->hi<=ps.length->(∀ i x,i < lo->ps[i]?=some x->x < j)->(∀ i x,hi<=i->ps[i]?=some x->j<=x) ->
  below.go ps.toArray j ju lo hi<=ps.length/\(∀ i x,i < below.go ps.toArray j ju lo hi->ps[i]?=some x->x < j)/\(∀ i x,below.go ps.toArray j ju lo hi<=i->ps[i]?=some x->j<=x)
 | 0,lo,hi,hf,hl,hh,h1,h2=>by
  cases Nat.le_antisymm hl (Nat.le_of_sub_eq_zero (le_zero.mp hf));exact ⟨hh,h1,h2⟩
 | ju + 1,lo,hi,hf,hl,hh,h1,h2=>by
  unfold below.go;by_cases c:lo < hi
  ·rw [if_pos c]
   obtain ⟨k1,k2,k3,k4⟩:=Zrr c hf;generalize (lo + hi) / 2=q at *;have hm:q < ps.length:=Ag k2 hh;have eq:=Ac hm;have eg:ps.toArray.getD q j=ps[q]:=by rw [Array.getD_eq_getD_getElem?,getElem?_toArray,eq]; rfl
   simp only [eg];by_cases c2:ps[q] < j
   ·rw [if_pos c2]
    exact K2 hp j ju _ _ k3 k2 hh (λi x lw hx=>Nat.lt_of_le_of_lt (Zhj hp (le_of_lt_succ lw) hx eq) c2) h2
   ·rw [if_neg c2]
    exact K2 hp j ju _ _ k4 k1 (Nat.le_of_lt hm) h1 λi x lw hx=>Nat.le_trans (Nat.le_of_not_lt c2) (Zhj hp lw eq hx)
  ·rw [if_neg c]
   cases Nat.le_antisymm hl (Nat.le_of_not_lt c);exact ⟨hh,h1,h2⟩
def Zgg {ps:List Nat} (hp:ps.Pairwise (· < ·)) (j:Nat):below ps.toArray j<=ps.length/\(∀ i x,i < below ps.toArray j->ps[i]?=some x->x < j)/\(∀ i x,below ps.toArray j<=i->ps[i]?=some x->j<=x):=by
 unfold below;rw [Aq];exact K2 hp j _ _ _ (by lia) (Az _) (An _) (λi x h=>absurd h (not_lt_zero _)) λi x h hx=>by
  have:=(Aa hx).1
  lia
def Zhy (j:Nat):has #[] j=false:=by unfold has; simp
def Zcb {t:SetTable} {ps:List Nat} (hp:ps.Pairwise (· < ·)) (e:t.place=ps.toArray) (h:ps[i]?=some j):t.slot j=.live i:=by
 obtain ⟨b1,b2,b3⟩:=Zgg hp j;have hi:=(Aa h).1;have hb:below ps.toArray j=i:=by
  rcases Nat.lt_trichotomy (below ps.toArray j) i with z | z | z
  ·have hx:=Ac (show below ps.toArray j < ps.length by lia)
   have:=b3 _ _ (An _) hx
   obtain ⟨a1,a2⟩:=Aa h
   have:=pairwise_iff_getElem.mp hp _ i (by lia) a1 z
   lia
  ·exact z
  ·have:=b2 i j z h
   lia
 unfold slot;rw [e];simp only [hb,getElem?_toArray,h,beq_self_eq_true,if_true]
def Ziq {t:SetTable} {ps:List Nat} (hp:ps.Pairwise (· < ·)) (e:t.place=ps.toArray) (d:t.dummies=#[]) (h:j ∉ ps):t.slot j=.empty:=by
 unfold slot;rw [e,d,Zhy];have:(ps.toArray[below ps.toArray j]? == some j)=false:=by
  rw [beq_eq_false_iff_ne]
  intro z
  rw [getElem?_toArray] at z
  exact h (Au z)
 simp only [this,Bool.false_eq_true,if_false]
theorem Ze2 {t:SetTable} {ps:List Nat} (hp:ps.Pairwise (· < ·)) (e:t.place=ps.toArray) (d:t.dummies=#[]) (hN:(pth t.mask h N).j ∉ ps) (hl:∀ n,n < N->(pth t.mask h n).j∈ps) :
  ∀ (ju n:Nat),n<=N->N - n < ju ->
   probe.go t hashAt h ju (pth t.mask h n)=some (.empty (pth t.mask h N).j none)/\(∀ n',n<=n'->n' < N->∀ i,ps[i]?=some (pth t.mask h n').j->hashAt i≠h) \/
   ∃ n' i,n<=n'/\n' < N/\ps[i]?=some (pth t.mask h n').j/\hashAt i=h/\probe.go t hashAt h ju (pth t.mask h n)=some (.candidate (pth t.mask h n').j i (pth t.mask h (n' + 1)))/\∀ yh,n<=yh->yh < n'->∀ i,ps[i]?=some (pth t.mask h yh).j->hashAt i≠h
 | 0,n,_,h0=>absurd h0 (not_lt_zero _)
 | ju + 1,n,hn,hf=>by
  unfold probe.go
  rcases Nat.eq_or_lt_of_le hn with z | z
  ·subst z
   rw [Ziq hp e d hN];left;refine ⟨?_,λn' h1 h2=>absurd h2 (Nat.not_lt.mpr h1)⟩;show some (Met.empty _ _)=_;rw [(Zdq t.mask h n).2]
  ·obtain ⟨i,hi⟩:=mem_iff_getElem?.mp (hl n z)
   rw [Zcb hp e hi];have uq:∀ i',ps[i']?=some (pth t.mask h n).j->i'=i:=λi' lw=>by
    obtain ⟨a1,a2⟩:=Aa hi
    obtain ⟨b1,b2⟩:=Aa lw
    have nd:ps.Nodup:=hp.imp λh=>As h
    exact (getElem_inj nd).mp (b2.trans a2.symm)
   by_cases c:hashAt i=h
   ·right
    refine ⟨n,i,An _,z,hi,c,?_,λyh h1 h2=>absurd h2 (Nat.not_lt.mpr h1)⟩;show (if (hashAt i == h)=true then _ else _)=_;rw [if_pos (by simpa using c),Zl0];rfl
   ·have step:(if (hashAt i == h)=true then some (Met.candidate (pth t.mask h n).j i (t.advance (pth t.mask h n))) else probe.go t hashAt h ju (t.advance (pth t.mask h n)))=probe.go t hashAt h ju (pth t.mask h (n + 1)):=by
     rw [if_neg (by simpa using c),Zl0];rfl
    have ih:=Ze2 hp e d (hashAt:=hashAt) hN hl ju (n + 1) z (by lia);show ((if (hashAt i == h)=true then _ else _)=_/\_)\/_
    rcases ih with ⟨i1,i2⟩ | ⟨n',i',i1,i2,i3,i4,i5,i6⟩
    ·left
     refine ⟨step.trans i1,λn' h1 h2 i' lw=>?_⟩
     rcases Nat.eq_or_lt_of_le h1 with q | q
     ·subst q; rw [uq i' lw]; exact c
     ·exact i2 n' q h2 i' lw
    ·right
     refine ⟨n',i',le_of_succ_le i1,i2,i3,i4,step.trans i5,λyh h1 h2 i2' hi2'=>?_⟩
     rcases Nat.eq_or_lt_of_le h1 with q | q
     ·subst q; rw [uq i2' hi2']; exact c
     ·exact i6 yh q h2 i2' hi2'
theorem Zby (m:Nat) (h:Int) (a:Nat):∀ b,a < b->ix m h a + runL m (lp m h a).1 < ix m h b
 | 0,z=>absurd z (not_lt_zero _)
 | b + 1,z=>by
  show _ < ix m h b + runL m (lp m h b).1 + 1
  rcases Nat.lt_or_ge a b with q | q
  ·exact lt_succ_of_le (Nat.le_trans (Nat.le_of_lt (Zby m h a b q)) (le_add_right _ _))
  ·rw [Nat.le_antisymm (le_of_lt_succ z) q]; exact lt_succ_self _
def Zbz {m:Nat} {jn:Array (Option Nat)} (hs:jn.size=m + 1) (h:Int) (L k:Nat) (hk:k<=runL m (lp m h L).1):(jn.getD ((lp m h L).1 + k) (some 0)).isNone=true ↔ jn[(pth m h (ix m h L + k)).j]?=some none:=by
 rw [Jt m h L k hk];show _ ↔ jn[(lp m h L).1 + k]?=some none;have hrun:=Zkj (Zje m h L);have qx:(lp m h L).1 + k < jn.size:=by lia
 rw [Array.getD_eq_getD_getElem?,Array.getElem?_eq_getElem qx];cases jn[(lp m h L).1 + k] <;> simp
def Zmk {m p:Nat}:runEnd m p + 1 - p=runL m p + 1:=by unfold runL runEnd; split <;> lia
theorem Zh0 {jn:Array (Option Nat)} (hs:jn.size=m + 1) (h:Int):∀ (ju L:Nat) (N:Nat),(∃ L' r,L<=L'/\L' < L + ju/\r<=runL m (lp m h L').1/\N=ix m h L' + r)->jn[(pth m h N).j]?=some none->(∀ n,n < N->jn[(pth m h n).j]?≠some none) ->
  layClean.free m jn ju (lp m h L).1 (lp m h L).2=some (pth m h N).j
 | 0,L,N,⟨L',r,h1,h2,_⟩,_,_=>absurd h2 (Nat.not_lt.mpr h1)
 | ju + 1,L,N,⟨L',r,h1,h2,h3,h4⟩,hN,hl=>by
  unfold layClean.free;rw [Zmk];subst h4
  rcases Nat.eq_or_lt_of_le h1 with z | z
  ·subst z
   have hf:(List.range (runL m (lp m h L).1 + 1)).find? (λk=>(jn.getD ((lp m h L).1 + k) (some 0)).isNone)=some r:=find?_range_eq_some.mpr ⟨(Zbz hs h L r h3).mpr hN,mem_range.mpr (lt_succ_of_le h3),λj hj=>by
    rw [Bool.not_eq_true']
    exact Bool.eq_false_iff.mpr (mt (Zbz hs h L j (Nat.le_trans (Nat.le_of_lt hj) h3)).mp (hl _ (Nat.add_lt_add_left hj _)))⟩;rw [hf];show some _=some _;rw [Jt m h L r h3]
  ·have hf:(List.range (runL m (lp m h L).1 + 1)).find? (λk=>(jn.getD ((lp m h L).1 + k) (some 0)).isNone)=none:=find?_eq_none.mpr λk hk =>
    have hk:=le_of_lt_succ (mem_range.mp hk)
    mt (Zbz hs h L k hk).mp (hl _ (Nat.lt_of_le_of_lt (Nat.add_le_add_left hk _) (Ag (Zby m h L L' z) (le_add_right _ _))))
   rw [hf];exact Zh0 hs h ju (L + 1) _ ⟨L',r,z,by rw [Nat.add_right_comm]; exact h2,h3,Y⟩ hN hl
structure Good (m:Nat) (jo:List (Nat × Int × Value)):Prop where
 pw:(jo.map (·.1)).Pairwise (· < ·)
 le:∀ e∈jo,e.1<=m
 rch:∀ e∈jo,∃ n,(pth m e.2.1 n).j=e.1/\∀ n',n' < n->(pth m e.2.1 n').j∈jo.map (·.1)
def Good.nil (m:Nat):Good m []:=⟨List.Pairwise.nil,(λe h=>by cases h),(λe h=>by cases h)⟩
def O3 {α:Type} (l:List α) (p:Nat) (x:α):insertAt l.toArray p x=(l.take p ++ x :: l.drop p).toArray:=by
 unfold insertAt;apply Array.ext';simp [take_of_length_le]
def Good.put {jo:List (Nat × Int × Value)} (g:Good m jo) {x:Value} (hN:(pth m h N).j ∉ jo.map (·.1)) (hl:∀ n,n < N->(pth m h n).j∈jo.map (·.1)) (hp:p=below (jo.map (·.1)).toArray (pth m h N).j) :
  Good m (jo.take p ++ ((pth m h N).j,h,x) :: jo.drop p):=by
 obtain ⟨b1,b2,b3⟩:=Zgg g.pw (pth m h N).j;rw [<- hp] at b1 b2 b3;rw [Ab] at b1;have hj:=(Zdq m h N).1;generalize ej:(pth m h N).j=j at *;have mem:∀ y,y∈(jo.take p ++ (j,h,x) :: jo.drop p).map (·.1) ↔ y∈jo.map (·.1)\/y=j:=λy=>by
  have e:jo.map (·.1)=(jo.take p).map (·.1) ++ (jo.drop p).map (·.1):=by rw [<- Aj,take_append_drop]
  rw [e,Aj,map_cons,mem_append,mem_cons,mem_append]
  constructor
  ·rintro (z | z | z)
   ·exact .inl (.inl z)
   ·exact .inr z
   ·exact .inl (.inr z)
  ·rintro ((z | z) | z)
   ·exact .inl z
   ·exact .inr (.inr z)
   ·exact .inr (.inl z)
 have mem2:∀ e,e∈jo.take p ++ (j,h,x) :: jo.drop p->e∈jo\/e=(j,h,x):=λe he=>by
  rcases mem_append.mp he with z | z
  ·exact .inl (mem_of_mem_take z)
  ·rcases Ar z with z | z
   ·exact .inr z
   ·exact .inl (mem_of_mem_drop z)
 refine ⟨?_,λe he=>?_,λe he=>?_⟩
 ·have e:(jo.take p ++ (j,h,x) :: jo.drop p).map (·.1)=(jo.map (·.1)).take p ++ j :: (jo.map (·.1)).drop p:=by rw [Aj,map_cons,map_take,map_drop]
  rw [e];have jw:∀ y∈(jo.map (·.1)).take p,y < j:=λy hy=>by
   obtain ⟨i,hi,rfl⟩:=mem_iff_getElem.mp hy
   rw [Ai] at hi
   rw [getElem_take]
   exact b2 i _ (by lia) (Ac _)
  have hgt:∀ y∈(jo.map (·.1)).drop p,j < y:=λy hy=>by
   obtain ⟨i,hi,rfl⟩:=mem_iff_getElem.mp hy;rw [length_drop] at hi;rw [getElem_drop];have h1:=b3 (p + i) _ (le_add_right _ _) (Ac (by lia));have h2:(jo.map (·.1))[p + i]≠j:=λz=>hN (z ▸ getElem_mem _);lia
  have pw:=g.pw;rw [<- take_append_drop p (jo.map (·.1)),pairwise_append] at pw;rw [pairwise_append,pairwise_cons];refine ⟨pw.1,⟨hgt,pw.2.1⟩,λa ha b hb=>?_⟩
  rcases Ar hb with z | z
  ·rw [z]; exact jw a ha
  ·exact pw.2.2 a ha b z
 ·rcases mem2 e he with z | z
  ·exact g.le e z
  ·rw [z]; exact hj
 ·rcases mem2 e he with z | z
  ·obtain ⟨n,n1,n2⟩:=g.rch e z
   exact ⟨n,n1,λn' h'=>(mem _).mpr (.inl (n2 n' h'))⟩
  ·subst z
   exact ⟨N,ej,λn' h'=>(mem _).mpr (.inl (hl n' h'))⟩
structure LC (m:Nat) (hs:List Int) (jn:Array (Option Nat)):Prop where
 sz:jn.size=m + 1
 lt:∀ (j i:Nat),jn[j]?=some (some i)->∃ h,hs[i]?=some h/\∃ n,(pth m h n).j=j/\∀ n',n' < n->jn[(pth m h n').j]?≠some none
 un:∀ (j j' i:Nat),jn[j]?=some (some i)->jn[j']?=some (some i)->j=j'
 al:∀ i,i < hs.length->∃ j:Nat,jn[j]?=some (some i)
def LC.free {m:Nat} {hs:List Int} {jn:Array (Option Nat)} (c:LC m hs jn) (hl:hs.length<=m):∃ y:Nat,y<=m/\jn[y]?=some none:=by
 refine Classical.byContradiction λno=>?_
 have all:∀ j:Nat,j<=m->∃ i,jn[j]?=some (some i):=λj hj=>by
  have qx:j < jn.size:=by rw [c.sz]; lia
  cases e:jn[j]? with
  | none=>rw [Array.getElem?_eq_getElem qx] at e; cases e
  | some o =>
   cases o with
   | none=>exact absurd ⟨j,hj,e⟩ no
   | some i=>exact ⟨i,Y⟩
 have nd:((List.range (m + 1)).map λj=>((jn[j]?).join).getD 0).Nodup:=by
  refine pairwise_map.mpr (List.Pairwise.imp_of_mem (λ{a b} ha hb h e=>?_) pairwise_lt_range);obtain ⟨i,hi⟩:=all a (le_of_lt_succ (mem_range.mp ha));obtain ⟨i',lw⟩:=all b (le_of_lt_succ (mem_range.mp hb));rw [hi,lw] at e;have e:i=i':=e;subst e;have:=c.un a b i hi lw;lia
 have:=Zbx hs.length _ nd λx hx=>by
  obtain ⟨j,hj,rfl⟩:=mem_map.mp hx;obtain ⟨i,hi⟩:=all j (le_of_lt_succ (mem_range.mp hj));rw [hi];obtain ⟨h,h1,_⟩:=c.lt j i hi;exact (Aa h1).1
 rw [Ab,length_range] at this;lia
def LC.step {m k:Nat} (hm:m + 1=2 ^ k) {hs:List Int} {jn:Array (Option Nat)} (c:LC m hs jn) (hl:hs.length<=m) (h:Int):∃ j,layClean.free m jn (turns m) (bits h % (m + 1)) (bits h)=some j/\LC m (hs ++ [h]) (jn.setIfInBounds j (some hs.length)):=by
 obtain ⟨y,y1,y2⟩:=c.free hl;obtain ⟨N,n1,n2,n3⟩:=Zdt hm h (O:=λj=>jn[j]?≠some none) y1 (λz=>z y2);have n2:jn[(pth m h N).j]?=some none:=Classical.byContradiction n2;have hN:∃ L' r,0<=L'/\L' < 0 + turns m/\r<=runL m (lp m h L').1/\N=ix m h L' + r:=by
  obtain ⟨L,r,e,hr⟩:=Ze0 m h N
  refine ⟨L,r,Az _,?_,hr,e⟩
  obtain ⟨L1,l1,l2⟩:=Zk3 hm h y1
  have q:N<=ix m h L1:=by
   rcases Nat.lt_or_ge (ix m h L1) N with z | z
   ·have:=n3 _ z
    have e:=Jt m h L1 0 (Az _)
    rw [show ix m h L1=ix m h L1 + 0 from rfl,e] at this
    have this:jn[(lp m h L1).1 + 0]?≠some none:=this
    rw [l2] at this
    exact absurd y2 this
   ·exact z
  unfold turns
  rcases Nat.lt_or_ge L1 L with z | z
  ·exact absurd (Nat.le_trans (le_add_right _ r) (e ▸ q)) (Nat.not_le.mpr (Nat.lt_of_le_of_lt (le_add_right _ _) (Zby m h L1 L z)))
  ·clear e q n3 hr; lia
 refine ⟨(pth m h N).j,Zh0 c.sz h (turns m) 0 N hN n2 n3,?_⟩;have hj:=(Zdq m h N).1;have qx:(pth m h N).j < jn.size:=by rw [c.sz]; lia
 have gs:∀ z:Nat,(jn.setIfInBounds (pth m h N).j (some hs.length))[z]?=if (pth m h N).j=z then some (some hs.length) else jn[z]?:=λz=>by
  rw [Array.getElem?_setIfInBounds];by_cases e:(pth m h N).j=z
  ·rw [if_pos e,if_pos e,if_pos qx]
  ·rw [if_neg e,if_neg e]
 have keep:∀ z:Nat,jn[z]?≠some none->(jn.setIfInBounds (pth m h N).j (some hs.length))[z]?≠some none:=λz hz=>by
  rw [gs];split
  ·exact λq=>by cases q
  ·exact hz
 refine ⟨by rw [Array.size_setIfInBounds]; exact c.sz,λj i e=>?_,λj j' i e e'=>?_,λi hi=>?_⟩
 ·rw [gs] at e
  split at e
  ·rename_i z
   cases e;exact ⟨h,by rw [getElem?_append_right (An _),Nat.sub_self]; rfl,N,z,λn' h'=>keep _ (n3 n' h')⟩
  ·obtain ⟨h',h1,n,h2,h3⟩:=c.lt j i e
   exact ⟨h',by rw [Av (Aa h1).1]; exact h1,n,h2,λn' q=>keep _ (h3 n' q)⟩
 ·rw [gs] at e e'
  have no:∀ z:Nat,jn[z]?≠some (some hs.length):=λz q=>by
   obtain ⟨h',h1,_⟩:=c.lt z _ q;have:=(Aa h1).1;lia
  split at e <;> split at e'
  ·rename_i z1 z2; exact z1.symm.trans z2
  ·cases e; exact absurd e' (no _)
  ·cases e'; exact absurd e (no _)
  ·exact c.un j j' i e e'
 ·rw [Ae,At] at hi
  rcases Nat.lt_or_ge i hs.length with z | z
  ·obtain ⟨j,w6⟩:=c.al i z
   refine ⟨j,?_⟩;rw [gs,if_neg (λq=>by rw [<- q,n2] at w6; cases w6)];exact w6
  ·refine ⟨(pth m h N).j,?_⟩
   rw [gs,if_pos rfl,show i=hs.length by lia]
def LC.nil (m:Nat):LC m [] (Array.replicate (m + 1) none):=by
 have e:∀ j i:Nat,(Array.replicate (m + 1) (none:Option Nat))[j]?≠some (some i):=λj i=>by
  rw [Array.getElem?_replicate];split <;> exact λz=>by cases z
 exact ⟨by simp,λj i z=>absurd z (e j i),λj j' i z=>absurd z (e j i),λi hi=>absurd hi (not_lt_zero _)⟩
theorem Zf8 (hm:m + 1=2 ^ k):∀ (n:Nat) (hs:List Int),hs.length=n->n<=m + 1->∃ jn,(hs.foldl (init:=some (Array.replicate (m + 1) none,0)) λ(jq:Option (Array (Option Nat) × Nat)) h=>do
  let (jn,k) <- jq
  let j <- layClean.free m jn (turns m) (bits h % (m + 1)) (bits h)
  pure (jn.setIfInBounds j (some k),k + 1))=some (jn,n)/\LC m hs jn
 | 0,hs,e,_=>by
  rw [length_eq_zero_iff.mp e];exact ⟨_,Y,LC.nil m⟩
 | n + 1,hs,e,hn=>by
  obtain ⟨qs,h,rfl⟩:∃ qs h,hs=qs ++ [h]:=⟨hs.dropLast,hs.getLast (λz=>by rw [z] at e; cases e),(dropLast_concat_getLast _).symm⟩;rw [Ae,At] at e;obtain ⟨ow,o1,o2⟩:=Zf8 hm n qs (by lia) (by lia);obtain ⟨j,j1,j2⟩:=o2.step hm (by lia) h;refine ⟨_,?_,j2⟩;rw [foldl_append,o1];show (do let j <- layClean.free m ow (turns m) (bits h % (m + 1)) (bits h); pure (ow.setIfInBounds j (some n),n + 1))=_;rw [j1,show qs.length=n by lia];rfl
def Zpy {k:Nat} (hm:m + 1=2 ^ k) {es:List (Int × Value)} (hl:es.length<=m) (finger moves:Nat) (led plain:Bool) :
  ∃ jo:List (Nat × Int × Value),Good m jo/\(jo.map (·.2)).Perm es/\∃ og:Array Nat,laid m finger moves led plain ((es.map (·.1)).toArray)=some ({ mask:=m,place:=(jo.map (·.1)).toArray,dummies:=#[],finger,led,moves,plain },og)/\og.filterMap (es.toArray[·]?)=(jo.map (·.2)).toArray:=by
 obtain ⟨ow,o1,o2⟩:=Zf8 hm es.length (es.map (·.1)) (by rw [Ab]) (by lia);have lc:layClean m ((es.map (·.1)).toArray)=some ow:=by
  unfold layClean
  rw [foldl_toArray,o1]
  rfl
 have gd:∀ j:Nat,(ow.getD j none)=(ow[j]?).join:=λj=>by
  rw [Array.getD_eq_getD_getElem?]
  cases ow[j]? with
  | none=>rfl
  | some o=>rfl
 have lv:∀ (j i:Nat),(ow[j]?).join=some i ↔ ow[j]?=some (some i):=λj i=>by
  cases ow[j]? with
  | none=>simp
  | some o=>simp
 let live:=(List.range (m + 1)).filterMap λj=>(ow.getD j none).map (j,·)
 have lm:∀ q:Nat × Nat,q∈live ↔ ow[q.1]?=some (some q.2):=λ⟨j,i⟩=>by
  show (j,i)∈(List.range (m + 1)).filterMap _ ↔ _;rw [mem_filterMap];constructor
  ·rintro ⟨j',_,e⟩
   rw [gd] at e;obtain ⟨i',e1,e2⟩:=Option.map_eq_some_iff.mp e;cases e2;exact (lv _ _).mp e1
  ·intro e
   refine ⟨j,mem_range.mpr ?_,?_⟩
   ·have:=(Array.getElem?_eq_some_iff.mp e).1
    rw [o2.sz] at this;exact this
   ·rw [gd,(lv j i).mpr e]; rfl
 have pw:(live.map (·.1)).Pairwise (· < ·):=by
  rw [pairwise_map];refine pairwise_filterMap.mpr (pairwise_lt_range.imp λ{a b} nz x hx y hy=>?_);obtain ⟨_,_,rfl⟩:=Option.map_eq_some_iff.mp hx;obtain ⟨_,_,rfl⟩:=Option.map_eq_some_iff.mp hy;exact nz
 have p2:(live.map (·.2)).Perm (List.range es.length):=by
  refine (perm_ext_iff_of_nodup ?_ nodup_range).mpr λi=>?_
  ·have pw':live.Pairwise λa b=>a.1 < b.1:=pairwise_map.mp pw
   refine pairwise_map.mpr (List.Pairwise.imp_of_mem (λ{a b} ha hb h e=>?_) pw');have h1:=(lm a).mp ha;have h2:=(lm b).mp hb;rw [<- e] at h2;have:=o2.un _ _ _ h1 h2;lia
  ·rw [mem_map,mem_range]
   constructor
   ·rintro ⟨q,hq,rfl⟩
    obtain ⟨h,h1,_⟩:=o2.lt _ _ ((lm q).mp hq);have:=(Aa h1).1;rwa [Ab] at this
   ·intro hi
    obtain ⟨j,hj⟩:=o2.al i (by rw [Ab]; exact hi);exact ⟨(j,i),(lm (j,i)).mpr hj,Y⟩
 have vp:∀ q∈live,q.2 < es.length:=λq hq=>mem_range.mp (p2.mem_iff.mp (mem_map.mpr ⟨q,hq,rfl⟩));refine ⟨live.map λq=>(q.1,es.getD q.2 (0,.none)),⟨?_,λe he=>?_,λe he=>?_⟩,?_,(live.map (·.2)).toArray,?_,?_⟩
 ·rw [map_map]; exact pw
 ·obtain ⟨q,hq,rfl⟩:=mem_map.mp he
  have:=(Array.getElem?_eq_some_iff.mp ((lm q).mp hq)).1;rw [o2.sz] at this;exact le_of_lt_succ this
 ·obtain ⟨q,hq,rfl⟩:=mem_map.mp he
  obtain ⟨h,h1,n,n1,n2⟩:=o2.lt _ _ ((lm q).mp hq);have eh:(es.getD q.2 (0,.none)).1=h:=by
   rw [Ah] at h1
   rw [Ad]
   obtain ⟨z,z1,z2⟩:=Option.map_eq_some_iff.mp h1
   rw [z1]; exact z2
  refine ⟨n,by show (pth m (es.getD q.2 (0,.none)).1 n).j=q.1; rw [eh]; exact n1,λn' h'=>?_⟩;show (pth m (es.getD q.2 (0,.none)).1 n').j∈_;rw [eh,map_map];have j9:=n2 n' h';have qx:(pth m h n').j < ow.size:=by rw [o2.sz]; have:=(Zdq m h n').1; lia
  cases e:ow[(pth m h n').j]? with
  | none=>rw [Array.getElem?_eq_getElem qx] at e; cases e
  | some o =>
   cases o with
   | none=>exact absurd e j9
   | some i=>exact mem_map.mpr ⟨(_,i),(lm (_,i)).mpr e,Y⟩
 ·rw [map_map]
  have:live.map ((·.2) ∘ λq:Nat × Nat=>(q.1,es.getD q.2 (0,.none)))=(live.map (·.2)).map λi=>es.getD i (0,.none):=by rw [map_map]; rfl
  rw [this];refine (p2.map _).trans (List.Perm.of_eq ?_);apply ext_getElem?;intro i;rw [Ah];by_cases hi:i < es.length
  ·rw [getElem?_range hi,Ac hi]
   show some (es.getD i _)=_;rw [Ad,Ac hi];rfl
  ·rw [Ay (by rw [length_range]; lia),Ay (by lia)]
   rfl
 ·unfold laid
  rw [lc];show some (_,_)=_;rw [map_map];rfl
 ·rw [filterMap_toArray,map_map]
  congr 1
  have:∀ l:List (Nat × Nat),(∀ q∈l,q.2 < es.length)->(l.map (·.2)).filterMap (es.toArray[·]?)=l.map ((·.2) ∘ λq:Nat × Nat=>(q.1,es.getD q.2 (0,.none))):=λl=>by
   induction l with
   | nil=>intro _; rfl
   | cons q l ih =>
    intro hq;have h1:=hq q mem_cons_self;rw [map_cons,filterMap_cons,getElem?_toArray,Ac h1,ih λz hz=>hq z (mem_cons_of_mem _ hz)];show es[q.2] :: _=es.getD q.2 _ :: _;rw [Ad,Ac h1];rfl
  exact this live vp
structure STab (h:Heap) (a:Addr) (o:Obj) (ep:Nat) (t:SetTable) (jo:List (Nat × Int × Value)):Prop where
 ho:h.get? a=some o
 ex:o.ExactSet
 hd:o.data=.set (jo.map (·.2)).toArray ep t
 pl:t.place=(jo.map (·.1)).toArray
 dm:t.dummies=#[]
 gd:Good t.mask jo
 pw:∃ k,t.mask + 1=2 ^ k
 b1:t.mask<=8191
 b2:7<=t.mask
 rm:jo.length * 5 < t.mask * 3
section
variable {prog:Program} {w:World} {K:Type} [DecidableEq K] {knd:KeyKind prog w K} {A:Around} {E:Value->Shared->Prop} {s:Shared} {a:Addr}
def TK (knd:KeyKind prog w K) (h:Heap) (e:Int × Value) (k:List K):Prop:=e.1=tupleKeyHash knd k/\∃ b,e.2=.ref b/\IsTupleKey knd h k b
def STab.fits {t:SetTable} {jo:List (Nat × Int × Value)} (x:STab h a o ep t jo):t.fits (jo.map (·.2)).toArray.size=true:=by
 have:=x.rm;have:=x.b2;simp only [SetTable.fits,Bool.and_eq_true,beq_iff_eq,decide_eq_true_eq,SetTable.fill,x.pl,x.dm,Aq,Ab,Array.size_empty,length_nil,Nat.add_zero];exact ⟨trivial,by lia⟩
def Zf9 {n:Nat} (hk:IsTupleKey knd s.heap ks c) (h:Q false s):wpAny (p:) A (ofAClassStatement (n + 1) (.ref c)) Q E s:=by
 have hT:=hk.typeIs;obtain ⟨o,items,m,ho,hc,hd,hi⟩:=hk;unfold ofAClassStatement;refine Al (wpAny_typeOf hT ?_);dsimp only;rw [if_pos (d:)];refine Al (wpAny_pure ?_);simp only [Bool.not_true,Bool.false_eq_true,if_false];refine Al (wpAny_seqItems ho hd ?_);refine Al ?_;show wpAny _ _ (forIn items _ _) _ _ s;rw [<- Array.forIn_toList];refine wpAny_forIn_list _ (λjk r s'=>r.1=none/\s'=s/\∀ v∈jk,carriedByValue v=true) _ ?_ ?_ _ _ ⟨Y,Y,hi.byValue⟩
 ·rintro v jk r s' ⟨hr,rfl,hall⟩
  have hv:=hall v mem_cons_self
  have e:ofAClassStatement n v=pure false:=by
   cases v with
   | ref a=>simp [carriedByValue] at hv
   | _=>cases n <;> rfl
  rw [e];refine Al (wpAny_pure ?_);simp only [Bool.false_eq_true,if_false];exact wpAny_pure ⟨Y,Y,λu hu'=>hall u (mem_cons_of_mem _ hu')⟩
 ·rintro ⟨r1,r2⟩ s' ⟨hr,rfl,_⟩
  simp only at hr;subst hr;exact wpAny_pure h
def Zo5 {kx:List K} {c:Addr} (hx:IsTupleKey knd s.heap kx c) {stored:List Value} (hs:∀ v∈stored,∃ k b,v=.ref b/\IsTupleKey knd s.heap k b) {Q:Bool->Shared->Prop} (h:Q false s):wpAny (p:) A (searchCouldBeSeen (.ref c) stored) Q E s:=by
 unfold searchCouldBeSeen;refine Al ?_;refine wpAny_forIn_list _ (λjk r s'=>r.1=none/\s'=s/\∀ v∈jk,∃ k b,v=.ref b/\IsTupleKey knd s.heap k b) _ ?_ ?_ _ _ ⟨Y,Y,hs⟩
 ·rintro v jk r s' ⟨hr,rfl,hall⟩
  obtain ⟨k,b,rfl,hb⟩:=hall v mem_cons_self;dsimp only;split
  ·exact wpAny_pure ⟨Y,Y,λu hu=>hall u (mem_cons_of_mem _ hu)⟩
  ·refine Al (wpAny_eqIsQuiet_tuple hx ?_)
   simp only [Bool.not_true,Bool.false_eq_true,if_false];refine Al (wpAny_eqIsQuiet_tuple hb ?_);simp only [Bool.not_true,Bool.false_eq_true,if_false];refine Al (Zf9 hx ?_);simp only [Bool.false_eq_true,if_false];refine Al (Zf9 hb ?_);simp only [Bool.false_eq_true,if_false];exact wpAny_pure ⟨Y,Y,λu hu=>hall u (mem_cons_of_mem _ hu)⟩
 ·rintro ⟨r1,r2⟩ s' ⟨hr,rfl,_⟩
  simp only at hr;subst hr;exact wpAny_pure h
def Zqs {jo:List (Nat × Int × Value)} {i:Nat} (h:(jo.map (·.1))[i]?=some j):∃ e,jo[i]?=some e/\e.1=j/\(jo.map (·.2)).toArray[i]?=some e.2:=by
 rw [Ah] at h;obtain ⟨e,e1,e2⟩:=Option.map_eq_some_iff.mp h;exact ⟨e,e1,e2,by rw [getElem?_toArray,Ah,e1]; rfl⟩
theorem O4 {o:Obj} {ep:Nat} {t:SetTable} {jo:List (Nat × Int × Value)} {kx:List K} {c:Addr} {lh:Bool} (hu:A.units < cLine) (x:STab s.heap a o ep t jo) (hk:∀ e∈jo,∃ k,TK knd s.heap e.2 k) (hx:IsTupleKey knd s.heap kx c) {N:Nat}
  (hN:(pth t.mask (i:) N).j ∉ jo.map (·.1)) (hl:∀ n,n < N->(pth t.mask (i:) n).j∈jo.map (·.1)) (hN2:N < 10 * turns t.mask) {Q:SetFound->Shared->Prop}
  (q1:(∀ e∈jo,¬ TK knd s.heap e.2 kx)->Q (.free (pth t.mask (i:) N).j false) s) (q2:(∃ e∈jo,TK knd s.heap e.2 kx)->∀ i:Option Nat,(lh=false->i.isSome=true)->Q (.there i) s) :
  ∀ (ju n:Nat) (st:Option Probe),n<=N->N - n < ju->st.getD (t.probeStart (i:))=pth t.mask (i:) n ->
   (∀ n',n' < n->∀ e∈jo,e.1=(pth t.mask (i:) n').j->¬ TK knd s.heap e.2 kx)->wpAny (p:) A (setSearchFrom a (.ref c) (i:) lh ju st) Q E s
 | 0,n,_,_,h0,_,_=>absurd h0 (not_lt_zero _)
 | ju + 1,n,st,hn,hf,k7,yn=>by
  unfold setSearchFrom;refine Al (wpAny_setState_of x.ho x.hd x.fits ?_);dsimp only
  have odd:t.gaveWay=false:=by
   obtain ⟨k,mj⟩:=x.pw;have:=x.b2;unfold SetTable.gaveWay;rw [beq_eq_false_iff_ne]
   cases k with
   | zero=>lia
   | succ k=>rw [Nat.pow_succ] at mj; lia
  rw [odd];simp only [Bool.false_eq_true,if_false];rw [k7];have way:∀ e∈jo,TK knd s.heap e.2 kx->∃ n0,n<=n0/\n0 < N/\(pth t.mask (i:) n0).j=e.1:=λe he uh=>by
   obtain ⟨n0,r1,r2⟩:=x.gd.rch e he
   rw [uh.1] at r1 r2
   refine ⟨n0,?_,?_,r1⟩
   ·rcases Nat.lt_or_ge n0 n with z | z
    ·exact absurd uh (yn n0 z e he r1.symm)
    ·exact z
   ·rcases Nat.lt_or_ge n0 N with z | z
    ·exact z
    ·rcases Nat.eq_or_lt_of_le z with z | z
     ·subst z
      exact absurd (by rw [r1]; exact mem_map.mpr ⟨e,he,Y⟩) hN
     ·exact absurd (r2 N z) hN
  have nd:(jo.map (·.1)).Nodup:=x.gd.pw.imp λh=>As h;have one:∀ e∈jo,∀ e'∈jo,e.1=e'.1->e=e':=λe he e' t6 z=>by
   obtain ⟨i,hi,rfl⟩:=mem_iff_getElem.mp he
   obtain ⟨i',lw,rfl⟩:=mem_iff_getElem.mp t6
   have:=(getElem_inj nd (h₀:=by rw [Ab]; exact hi) (h₁:=by rw [Ab]; exact lw)).mp (by rw [getElem_map,getElem_map]; exact z)
   subst this
   rfl
  have pg:=Ze2 x.gd.pw x.pl x.dm (hashAt:=λi=>(((jo.map (·.2)).toArray[i]?).map (·.1)).getD 0) hN hl (10 * turns t.mask) n hn (by lia);generalize hpr:t.probe _ (tupleKeyHash knd kx) (pth t.mask (tupleKeyHash knd kx) n)=pr;have hpr:t.probe (λi=>(((jo.map (·.2)).toArray[i]?).map (·.1)).getD 0) (i:) (pth t.mask (i:) n)=pr:=hpr
  rcases pg with ⟨p1,p2⟩ | ⟨n',i,i1,i2,i3,i4,i5,i6⟩
  ·have e:t.probe (λi=>(((jo.map (·.2)).toArray[i]?).map (·.1)).getD 0) (i:) (pth t.mask (i:) n)=some (.empty (pth t.mask (i:) N).j none):=p1
   rw [hpr] at e;subst e;dsimp only;refine wpAny_pure (q1 λe' t6 uh=>?_);obtain ⟨n0,a1,a2,a3⟩:=way e' t6 uh;obtain ⟨i,hi,rfl⟩:=mem_iff_getElem.mp t6;refine p2 n0 a1 a2 i (by rw [Ah,Ac hi]; exact congrArg some a3.symm) ?_;show (((jo.map (·.2)).toArray[i]?).map (·.1)).getD 0=_;rw [getElem?_toArray,Ah,Ac hi];exact uh.1
  ·have e:t.probe (λi=>(((jo.map (·.2)).toArray[i]?).map (·.1)).getD 0) (i:) (pth t.mask (i:) n)=some (.candidate (pth t.mask (i:) n').j i (pth t.mask (i:) (n' + 1))):=i5
   rw [hpr] at e;subst e;dsimp only;obtain ⟨ent,e1,e2,e3⟩:=Zqs i3;have hem:ent∈jo:=Au e1;obtain ⟨ky,ky1,b,ky2,ky3⟩:=hk ent hem;have wb:t.slot (pth t.mask (i:) n').j=.live i:=Zcb x.gd.pw x.pl i3
   have after:wpAny (p:) A (do
     let some (_,y):=(jo.map (·.2)).toArray[i]? | unsupported "internal:set-entry"
     let equal <- holding [y] (eqBool y (.ref c))
     let (es',_,t') <- setState a
     if lh && equal then return .there none
     let some same:=t'.sameMemory t.moves t.mask | unsupported "set.changed-during-lookup:is-the-new-block-at-the-old-address"
     let still <- match (if same then t'.slot (pth t.mask (i:) n').j else .empty) with
      | .live i'=>match es'[i']? with
       | some (_,y')=>do pure (if <- isSame y' y then some i' else none)
       | none=>pure none
      | _=>pure none
     match still with
     | none=>rule "set.search.anew"; setSearchFrom a (.ref c) (i:) lh ju none
     | some i'=>if equal then return .there (some i') else setSearchFrom a (.ref c) (i:) lh ju (some (pth t.mask (i:) (n' + 1)))) Q E s:=by
    rw [e3];obtain ⟨ej,eh,ev⟩:=ent;have ky2:ev=.ref b:=ky2;subst ky2;dsimp only;refine Al (wpAny_holding (wpAny_eqBool_tuple hu ky3 hx ?_));refine Al (wpAny_setState_of x.ho x.hd x.fits ?_);dsimp only;by_cases oy:ky=kx
    ·subst oy
     have hex:∃ e∈jo,TK knd s.heap e.2 ky:=⟨_,hem,ky1,b,rfl,ky3⟩;rw [decide_eq_true rfl]
     cases lh with
     | true=>exact wpAny_pure (q2 hex none (λz=>by cases z))
     | false =>
      simp only [Bool.false_and,Bool.false_eq_true,if_false];have sm:t.sameMemory t.moves t.mask=some true:=by unfold sameMemory; rw [if_pos (by simp)]
      rw [sm];dsimp only;rw [if_pos rfl,wb];dsimp only;rw [e3];dsimp only;refine Al (wpAny_isSame_ref_self ?_);refine Al (wpAny_pure ?_);simp only [if_true];exact wpAny_pure (q2 hex (some i) λ_=>rfl)
    ·rw [decide_eq_false oy]
     simp only [Bool.and_false,Bool.false_eq_true,if_false];have sm:t.sameMemory t.moves t.mask=some true:=by unfold sameMemory; rw [if_pos (by simp)]
     rw [sm];dsimp only;rw [if_pos rfl,wb];dsimp only;rw [e3];dsimp only;refine Al (wpAny_isSame_ref_self ?_);refine Al (wpAny_pure ?_);simp only [if_true];refine O4 hu x hk hx hN hl hN2 q1 q2 ju (n' + 1) _ i2 (by lia) Y λn2 h2 e' t6 w6 uh=>?_
     rcases Nat.lt_or_ge n2 n with z | z
     ·exact yn n2 z e' t6 w6 uh
     ·rcases Nat.lt_or_ge n2 n' with z2 | z2
      ·obtain ⟨i',lw,rfl⟩:=mem_iff_getElem.mp t6
       refine i6 n2 z z2 i' (by rw [Ah,Ac lw]; exact congrArg some w6) ?_;show (((jo.map (·.2)).toArray[i']?).map (·.1)).getD 0=_;rw [getElem?_toArray,Ah,Ac lw];exact uh.1
      ·have:n2=n':=by lia
       subst this;have:=one _ hem e' t6 (e2.trans w6.symm);subst this;obtain ⟨_,b',ut,mj⟩:=uh;have:b=b':=by injection ut
       subst this;exact oy (ky3.inj mj)
   by_cases hled:t.led=true
   ·rw [hled]
    simp only [Bool.not_true,Bool.false_eq_true,if_false];exact after
   ·rw [Bool.eq_false_iff.mpr hled]
    simp only [Bool.not_false,if_true];refine Al (Zo5 hx (λv hv=>?_) ?_)
    ·obtain ⟨e',t6,rfl⟩:=mem_map.mp hv
     have:=Array.mem_filter.mp (Array.mem_toList_iff.mp t6);have:=Array.mem_toList_iff.mpr this.1;obtain ⟨e2',he2',rfl⟩:=mem_map.mp (by simpa using this:e'∈jo.map (·.2));obtain ⟨k',_,b',ut,mj⟩:=hk e2' he2';exact ⟨k',b',ut,mj⟩
    ·simp only [Bool.false_eq_true,if_false]
     exact after
theorem Zhd:∀ (l k:List Nat),l.Nodup->(∀ x∈l,x∈k)->l.length<=k.length
 | [],_,_,_=>Az _
 | x :: l,k,nd,h=>by
  obtain ⟨n1,n2⟩:=nodup_cons.mp nd;have hx:=h x mem_cons_self;have:=Zhd l (k.erase x) n2 λy hy=>(mem_erase_of_ne (λz=>n1 (by rw [<- z]; exact hy))).mpr (h y (mem_cons_of_mem _ hy));rw [length_erase_of_mem hx] at this;have:=length_pos_of_mem hx;rw [length_cons];lia
def STab.way {t:SetTable} {jo:List (Nat × Int × Value)} (x:STab h a o ep t jo) (hh:Int):∃ N,N < 10 * turns t.mask/\(pth t.mask hh N).j ∉ jo.map (·.1)/\∀ n,n < N->(pth t.mask hh n).j∈jo.map (·.1):=by
 obtain ⟨k,hk⟩:=x.pw;have:∃ y,y<=t.mask/\y ∉ jo.map (·.1):=by
  refine Classical.byContradiction λno=>?_
  have sub:∀ y∈List.range (t.mask + 1),y∈jo.map (·.1):=λy hy=>Classical.byContradiction λz=>no ⟨y,le_of_lt_succ (mem_range.mp hy),z⟩
  have:=Zhd _ _ nodup_range sub
  rw [length_range,Ab] at this
  have:=x.rm
  lia
 obtain ⟨y,y1,y2⟩:=this;obtain ⟨N,n1,n2,n3⟩:=Zdt hk hh (O:=λj=>j∈jo.map (·.1)) y1 y2;exact ⟨N,n1,n2,n3⟩
def Zhz {t:SetTable} (h:t.mask<=8191) {N:Nat} (hN:N < 10 * turns t.mask):N - 0 < 100000:=by unfold turns at hN; lia
def Zht:byScan (.ref c) es=false:=rfl
def Zol (hu:A.units < cLine) (x:STab s.heap a o ep t jo) (hk:∀ e∈jo,∃ k,TK knd s.heap e.2 k) (hx:IsTupleKey knd s.heap kx c)
  (q1:(∀ e∈jo,¬ TK knd s.heap e.2 kx)->Q none s) (q2:(∃ e∈jo,TK knd s.heap e.2 kx)->∀ i,Q (some i) s):wpAny (p:) A (setFind a (.ref c) (i:)) Q E s:=by
 unfold setFind setFindIn;refine Al (wpAny_setState_of x.ho x.hd x.fits ?_);dsimp only;rw [Zht];simp only [Bool.false_eq_true,if_false];obtain ⟨N,n1,n2,n3⟩:=x.way (i:);unfold setSearch;refine Al (O4 (knd:=knd) hu x hk hx n2 n3 n1 (λh=>?_) (λh i hi=>?_) 100000 0 none (Az _) (Zhz x.b1 n1) Y (λn' z=>absurd z (not_lt_zero _)))
 ·exact wpAny_pure (q1 h)
 ·cases i with
  | none=>have:=hi rfl; cases this
  | some i=>exact wpAny_pure (q2 h i)
theorem Zgj (hn:n < 8192):∀ (ju k:Nat),k<=13->3<=k->13 - k < ju->∃ k',3<=k'/\k'<=13/\sizeAbove.go n ju (2 ^ k)=2 ^ k'/\n < 2 ^ k'
 | 0,k,_,_,h=>absurd h (not_lt_zero _)
 | ju + 1,k,h1,h2,h3=>by
  unfold sizeAbove.go;by_cases c:2 ^ k<=n
  ·rw [if_pos c]
   have:k < 13:=by
    rcases Nat.lt_or_ge k 13 with z | z
    ·exact z
    ·have:k=13:=by lia
     subst this;have:(2:Nat) ^ 13=8192:=by decide
     lia
   rw [<- Nat.pow_succ];exact Zgj hn ju (k + 1) this (by lia) (by lia)
  ·rw [if_neg c]
   exact ⟨k,h2,h1,Y,by lia⟩
def Znw (hn:n < 8192):∃ k,3<=k/\k<=13/\sizeAbove n=2 ^ k/\n < 2 ^ k:=Zgj hn 64 3 (d:) (d:) (d:)
def Zg9 (hv:∀ k v n,knd.is k v=true->hashByValue n v=pure true) (hk:IsTupleKey knd s.heap ks c) (h:Q true s):wpAny (p:) A (hashByValue (n + 1) (.ref c)) Q E s:=by
 have hT:=hk.typeIs;obtain ⟨o,items,m,ho,hc,hd,hi⟩:=hk;unfold hashByValue;refine Al (wpAny_specialOf hT F.slot_tuple_hash.lookup ?_);dsimp only;show wpAny _ _ (seqItems? (.ref c) >>= _) _ _ s;refine Al (wpAny_seqItems ho hd ?_);refine Al ?_;show wpAny _ _ (forIn items _ _) _ _ s;rw [<- Array.forIn_toList];refine wpAny_forIn_list _ (λjk r s'=>r.1=none/\s'=s/\∃ ks,ItemsAre knd ks jk) _ ?_ ?_ _ _ ⟨Y,Y,ks,hi⟩
 ·rintro v jk r s' ⟨hr,rfl,ks,hall⟩
  cases hall with
  | cons h1 h2 =>
   rw [hv _ _ n h1];refine Al (wpAny_pure ?_);simp only [Bool.not_true,Bool.false_eq_true,if_false];exact wpAny_pure ⟨Y,Y,_,h2⟩
 ·rintro ⟨r1,r2⟩ s' ⟨hr,rfl,_⟩
  simp only at hr;subst hr;exact wpAny_pure h
def Zqq {jo:List (Nat × Int × Value)} (hu:A.units < cLine) (hv:∀ k v n,knd.is k v=true->hashByValue n v=pure true) (x:STab s.heap a o ep t jo) (hk:∀ e∈jo,∃ k,TK knd s.heap e.2 k) (hx:IsTupleKey knd s.heap kx c) (hroom:jo.length + 1<=2000)
  (q1:(∃ e∈jo,TK knd s.heap e.2 kx)->Q false s)
  (q2:(∀ e∈jo,¬ TK knd s.heap e.2 kx)->∀ h' o' xh t' uw,Heap.SameBut a s.heap h'->STab h' a o' xh t' uw->(uw.map (·.2)).Perm (jo.map (·.2) ++ [(tupleKeyHash knd kx,.ref c)])->Q true { s with heap:=h' }) :
  wpAny (p:) A (setAddHashed a (.ref c) (i:)) Q E s:=by
 unfold setAddHashed setAddHashedIn;refine wpAny_holding (Al (wpAny_setState_of x.ho x.hd x.fits ?_));dsimp only;rw [Zht];simp only [Bool.false_eq_true,if_false];obtain ⟨N,n1,n2,n3⟩:=x.way (i:);unfold setSearch;refine Al (O4 (knd:=knd) hu x hk hx n2 n3 n1 (λh=>?_) (λh i hi=>?_) 100000 0 none (Az _) (Zhz x.b1 n1) Y (λn' z=>absurd z (not_lt_zero _)))
 rotate_left
 ·exact wpAny_pure (q1 h)
 have q2:=q2 h;dsimp only;refine Al (wpAny_setState_of x.ho x.hd x.fits ?_);dsimp only;generalize hp:below (jo.map (·.1)).toArray (pth t.mask (tupleKeyHash knd kx) N).j=p;have g':=x.gd.put (x:=.ref c) n2 n3 hp.symm;have hput:t.put (pth t.mask (i:) N).j=({ t with place:=((jo.take p ++ ((pth t.mask (i:) N).j,tupleKeyHash knd kx,Value.ref c) :: jo.drop p).map (·.1)).toArray,dummies:=#[] },p):=by
  unfold SetTable.put
  rw [x.pl,x.dm,Zhy,hp]
  dsimp only
  rw [O3]
  simp only [Bool.false_eq_true,if_false,Aj,map_cons,map_take,map_drop]
 rw [hput];dsimp only;have hins:insertAt (jo.map (·.2)).toArray p (tupleKeyHash knd kx,Value.ref c)=((jo.take p ++ ((pth t.mask (i:) N).j,tupleKeyHash knd kx,Value.ref c) :: jo.drop p).map (·.2)).toArray:=by
  rw [O3]
  simp only [Aj,map_cons,map_take,map_drop]
 rw [hins];have j4:((jo.take p ++ ((pth t.mask (i:) N).j,tupleKeyHash knd kx,Value.ref c) :: jo.drop p).map (·.2)).Perm (jo.map (·.2) ++ [(tupleKeyHash knd kx,Value.ref c)]):=by
  rw [Aj,map_cons]
  refine perm_middle.trans ((perm_append_singleton _ _).symm.trans ?_ |>.trans (List.Perm.refl _))
  rw [<- Aj,take_append_drop]
 have jm:(jo.take p ++ ((pth t.mask (i:) N).j,tupleKeyHash knd kx,Value.ref c) :: jo.drop p).length=jo.length + 1:=by
  have:=j4.length_eq;simp only [Ab,Ae,length_cons,length_nil] at this ⊢;lia
 generalize jo.take p ++ ((pth t.mask (tupleKeyHash knd kx) N).j,tupleKeyHash knd kx,Value.ref c) :: jo.drop p=tab1 at g' j4 jm;have jk:∀ t1:SetTable,t1.mask=t.mask->t1.place=(tab1.map (·.1)).toArray->t1.dummies=#[]->wpAny (p:) A (do
   storeSet a (tab1.map (·.2)).toArray t1
   if (!false && t1.tooFull)=true then do
    setRelay a (grown ((jo.map (·.2)).toArray.size + 1))
    pure true
   else pure true) Q E s:=λt1 e1 e2 e3=>by
  have hz:(tab1.map (·.2)).toArray.size<=sizeLine:=by rw [Aq,Ab,jm,sizeLine_eq]; lia
  refine Al (wpAny_storeSet_of x.ho x.hd ?_ hz)
  have wx:(s.heap.update a (Obj.putSet (tab1.map (·.2)).toArray t1)).get? a=some { o with data:=.set (tab1.map (·.2)).toArray (ep + 1) t1 }:=by
   have:=Heap.get?_update_self (Obj.putSet (tab1.map (·.2)).toArray t1) x.ho (by rw [putSet_of _ t1 x.hd]; rfl)
   rw [putSet_of _ t1 x.hd] at this; exact this
  have sb1:=Heap.SameBut.update s.heap a (Obj.putSet (tab1.map (·.2)).toArray t1)
  have wd:t1.fill=jo.length + 1:=by unfold SetTable.fill; rw [e2,e3,Aq,Ab,jm]; rfl
  have xb1:=x.b1
  have xb2:=x.b2
  by_cases va:t1.tooFull=true
  ·rw [va]
   simp only [Bool.not_false,Bool.and_self,if_true]
   refine Al ?_
   unfold setRelay
   have t5:t1.fits (tab1.map (·.2)).toArray.size=true:=by
    have:=x.rm
    simp only [SetTable.fits,Bool.and_eq_true,beq_iff_eq,decide_eq_true_eq,wd,e1,e2,Aq,Ab]
    exact ⟨trivial,by lia⟩
   refine Al (wpAny_setState_of wx Y t5 ?_)
   dsimp only
   have ya:grown ((jo.map (·.2)).toArray.size + 1)=(jo.length + 1) * 4:=by
    unfold grown
    rw [Aq,Ab,if_neg (by lia)]
   rw [ya]
   obtain ⟨k,k1,k2,k3,k4⟩:=Znw (n:=(jo.length + 1) * 4) (by lia)
   have hk13:2 ^ k<=2 ^ 13:=Nat.pow_le_pow_right (d:) k2
   have hk3:2 ^ 3<=2 ^ k:=Nat.pow_le_pow_right (d:) k1
   have c13:(2:Nat) ^ 13=8192:=by decide
   have c3:(2:Nat) ^ 3=8:=by decide
   rw [if_neg (by rw [k3,sizeLine_eq]; lia)]
   obtain ⟨l9,l1,l2,og,l3,l4⟩:=Zpy (m:=2 ^ k - 1) (k:=k) (by lia) (es:=tab1.map (·.2)) (by rw [Ab,jm]; lia) t1.finger (t1.movedTo (2 ^ k - 1)) t1.led t1.plain
   have hrel:t1.relaid ((tab1.map (·.2)).toArray.map (·.1)) ((jo.length + 1) * 4)=some ({ mask:=2 ^ k - 1,place:=(l9.map (·.1)).toArray,dummies:=#[],finger:=t1.finger,led:=t1.led,moves:=t1.movedTo (2 ^ k - 1),plain:=t1.plain },og):=by
    unfold relaid
    rw [k3,map_toArray,l3]
   rw [hrel]
   have kf:l9.length=jo.length + 1:=by have:=l2.length_eq; rw [Ab,Ab,jm] at this; exact this
   refine Al ?_
   show wpAny _ _ (if ((og.filterMap ((tab1.map (·.2)).toArray[·]?)).size != (tab1.map (·.2)).toArray.size)=true then _ else _) _ _ _
   rw [l4]
   have hsz:((l9.map (·.2)).toArray.size != (tab1.map (·.2)).toArray.size)=false:=by
    rw [Aq,Aq,Ab,Ab,kf,jm]; simp
   rw [hsz]
   simp only [Bool.false_eq_true,if_false]
   refine wpAny_pure ?_
   dsimp only
   have hz2:(l9.map (·.2)).toArray.size<=sizeLine:=by rw [Aq,Ab,kf,sizeLine_eq]; lia
   refine wpAny_storeSet_of wx Y ?_ hz2
   refine wpAny_pure (q2 _ { o with data:=.set (l9.map (·.2)).toArray (ep + 1 + 1) { mask:=2 ^ k - 1,place:=(l9.map (·.1)).toArray,dummies:=#[],finger:=t1.finger,led:=t1.led,moves:=t1.movedTo (2 ^ k - 1),plain:=t1.plain } } (ep + 1 + 1) { mask:=2 ^ k - 1,place:=(l9.map (·.1)).toArray,dummies:=#[],finger:=t1.finger,led:=t1.led,moves:=t1.movedTo (2 ^ k - 1),plain:=t1.plain } l9 (sb1.trans (Heap.SameBut.update _ a _)) ⟨?_,x.ex,Y,Y,Y,l1,⟨k,by show 2 ^ k - 1 + 1=_; lia⟩,by show 2 ^ k - 1<=8191; lia,by show 7<=2 ^ k - 1; lia,by show l9.length * 5 < (2 ^ k - 1) * 3; lia⟩ (l2.trans j4))
   have:=Heap.get?_update_self (Obj.putSet (l9.map (·.2)).toArray { mask:=2 ^ k - 1,place:=(l9.map (·.1)).toArray,dummies:=#[],finger:=t1.finger,led:=t1.led,moves:=t1.movedTo (2 ^ k - 1),plain:=t1.plain }) wx (by rw [putSet_of _ _ rfl]; rfl)
   rw [putSet_of _ _ rfl] at this
   exact this
  ·rw [Bool.eq_false_iff.mpr va]
   simp only [Bool.not_false,Bool.and_false,Bool.false_eq_true,if_false]
   refine wpAny_pure (q2 _ _ _ t1 tab1 sb1 ⟨wx,x.ex,Y,e2,e3,e1 ▸ g',e1 ▸ x.pw,e1 ▸ x.b1,e1 ▸ x.b2,?_⟩ j4)
   unfold SetTable.tooFull at va
   rw [decide_eq_true_iff,wd] at va
   rw [jm]
   lia
 split
 ·refine Al (Zg9 hv hx ?_)
  exact jk _ Y Y Y
 ·refine Al (wpAny_pure ?_)
  exact jk _ Y Y Y
end
end L2
namespace L2
open PySem PySem.Spec PyProof.Rows
end L2
namespace L2
open PySem PySem.Spec PyProof.Rows PySem.W
end L2
namespace L2
open PySem PySem.Spec PyProof.Rows PySem.W PySem.SetTable
def TSO (P:Program) (w:World) (a:Addr) (xs:List (List Int × Addr)) (h:Heap):Prop:=∃ o ep t jo,STab h a o ep t jo/\(jo.map (·.2)).Perm (xs.map λq=>(tupleKeyHash (intKind P w) q.1,Value.ref q.2))
noncomputable def Xa (P:Program) (w:World) (a:Addr) (xs:List (List Int × Addr)):HO:=.ext (TSO P w a xs)
def Xn (H:Hp) (xs:List (List Int × Addr)):Prop:=∀ q∈xs,H q.2=some (.tup (q.1.map V.int))
def Xn.same (h:Xn H xs) (s:Same H H'):Xn H' xs:=λq hq=>s _ _ (h q hq)
def Xn.snoc {k:List Int} (h:Xn H xs) (hb:H b=some (.tup (k.map V.int))):Xn H (xs ++ [(k,b)]):=λq hq=>by
 rcases mem_append.mp hq with z | z
 ·exact h q z
 ·rw [Af z]; exact hb
section
variable {X:Cx}
def Zhb (x:TSO X.prog X.w a xs h):Yc X.prog X.w H h a (Xa X.prog X.w a xs):=by
 refine ⟨x,?_,λh1 h2 w1 k=>?_⟩
 ·obtain ⟨o,_,_,_,tt,_⟩:=x
  exact ⟨o,tt.ho⟩
 ·obtain ⟨o,ep,t,jo,tt,pm⟩:=w1
  exact ⟨o,ep,t,jo,⟨k _ tt.ho,tt.ex,tt.hd,tt.pl,tt.dm,tt.gd,tt.pw,tt.b1,tt.b2,tt.rm⟩,pm⟩
theorem Zar:∀ {k:List Int} {its:List Value},Vals (k.map V.int) its->ItemsAre (intKind X.prog X.w) k its
 | [],its,h=>by cases h; exact .nil
 | i :: k,its,h=>by
  cases h with
  | cons r t =>
   obtain ⟨tk,rfl⟩:=r;exact .cons (intKind_is _ _ _ _) (Zar t)
def Uw {s:Shared} (I:Inv X jh σ H s) {k:List Int} (h:H b=some (.tup (k.map V.int))):IsTupleKey (intKind X.prog X.w) s.heap k b:=by
 obtain ⟨its,rv,⟨o,ho,hc,m,hd⟩,_⟩:=I.tuple (SqT.of h);exact ⟨o,_,m,ho,hc,hd,by simpa using Zar rv⟩
def Zdx {s:Shared} (I:Inv X jh σ H s) {xs:List (List Int × Addr)} {jo:List (Nat × Int × Value)} (hk:Xn H xs) (pm:(jo.map (·.2)).Perm (xs.map λq=>(tupleKeyHash (intKind X.prog X.w) q.1,Value.ref q.2))):∀ e∈jo,∃ k,TK (intKind X.prog X.w) s.heap e.2 k:=λe he=>by
 obtain ⟨q,hq,e2⟩:=mem_map.mp (pm.mem_iff.mp (mem_map.mpr ⟨e,he,rfl⟩));exact ⟨q.1,by rw [<- e2],q.2,by rw [<- e2],Uw I (hk q hq)⟩
def Fu {s:Shared} (I:Inv X jh σ H s) {xs:List (List Int × Addr)} {jo:List (Nat × Int × Value)} (hk:Xn H xs) (pm:(jo.map (·.2)).Perm (xs.map λq=>(tupleKeyHash (intKind X.prog X.w) q.1,Value.ref q.2))) {k:List Int}:(∃ e∈jo,TK (intKind X.prog X.w) s.heap e.2 k) ↔ k∈xs.map (·.1):=by
 constructor
 ·rintro ⟨e,he,_,b,e1,e2⟩
  obtain ⟨q,hq,e3⟩:=mem_map.mp (pm.mem_iff.mp (mem_map.mpr ⟨e,he,rfl⟩));have:q.2=b:=by rw [<- e3] at e1; injection e1
  have h1:=Uw I (hk q hq);rw [this] at h1;exact mem_map.mpr ⟨q,hq,h1.inj e2⟩
 ·intro h
  obtain ⟨q,hq,rfl⟩:=mem_map.mp h;obtain ⟨e,he,e2⟩:=mem_map.mp (pm.mem_iff.mpr (mem_map.mpr ⟨q,hq,rfl⟩));exact ⟨e,he,by rw [e2],q.2,by rw [e2],Uw I (hk q hq)⟩
def Zjo:Y2 X (.type "set") (λxs H Q=>xs=[]/\∀ p,H p=none->Q (.ref p) (upd H p (Xa X.prog X.w p []))):=by
 intro jh s σ H xs us Q I r h;obtain ⟨rfl,q⟩:=h;cases r;refine call_set_0 λled=>?_;refine ⟨.ref s.heap.objs.size,_,I.laid (t':=s.toks) (λb o e=>Ak _ e) (An _) (Zhb ?_),Y,q _ (I.hok.fresh (An _))⟩;exact ⟨_,0,.fresh 0 0 led,[],⟨Ap _ Y,⟨Y,Y,Y⟩,Y,Y,Y,Good.nil _,⟨3,Y⟩,by show 7<=8191; decide,by show 7<=7; decide,by show 0 * 5 < 7 * 3; decide⟩,List.Perm.refl _⟩
def STab.typeIs {s:Shared} (x:STab s.heap a o ep t jo):s.TypeIs (.ref a) "set":=⟨o,x.ho,x.ex.1⟩
def Zfd (hu:X.A.units + 64 < cLine):OpR X (compareOp .NotIn) (λx y H Q=>∃ b k p xs,x=.ref b/\y=.ref p/\H b=some (.tup (k.map V.int))/\H p=some (Xa X.prog X.w p xs)/\Xn H xs/\Q (.bl (!decide (k∈xs.map (·.1)))) H):=by
 intro jh s σ H x y v u Q I rx ry h;obtain ⟨b,k,p,xs,rfl,rfl,hb,hp,hk,q⟩:=h;cases rx;cases ry;obtain ⟨⟨o,ep,t,jo,tt,pm⟩,_⟩:Yc X.prog X.w H s.heap p (Xa X.prog X.w p xs):=I.hok p _ hp;have ph:=Uw I hb;show wpAny _ _ (do return Value.bool (!(<- contains (.ref p) (.ref b)))) _ _ s;refine Al ?_;unfold contains
 try with_reducible refine wpAny_holding ?_
 refine Al (wpAny_specialOf tt.typeIs F.slot_set_contains.lookup ?_);show wpAny _ _ (if (some (Value.builtin "set.__contains__") == some Value.none)=true then _ else _) _ _ s;rw [if_neg (by rw [beq_builtin_none]; exact Bool.false_ne_true)];refine Al (wpAny_callSpecialUnlessNone?_slot (name:=Str.ofString "__contains__") tt.typeIs F.slot_set_contains
  (wpAny_call_entry F.slot_set_contains tt.typeIs entry_set_contains ?_ (F.args_set_contains_2 _ _)))
 unfold Builtin.«frozenset.__contains__» Builtin.Frozenset.oneOther;simp only [isEmpty_nil,bind_assoc];unfold Builtin.Frozenset.addrOf Builtin.Frozenset.withSetAsKey setContains;refine Al (wpAny_pure ?_)
 try dsimp only
 refine Al (wpAny_pure ?_)
 try dsimp only
 refine Al (wpAny_tryCatch ?_);refine wpAny_holding ?_;refine Al (wpAny_pyHash_tuple (by show X.A.units + _ < _; lia) ph ?_);refine Al (Zol (knd:=intKind X.prog X.w) (s:={ s with toks:=s.toks + (k.length + 1) }) (by show X.A.units + _ < _; lia) tt (Zdx I hk pm) ph (λh=>?_) (λh i=>?_))
 ·refine wpAny_pure ?_
  show wpAny _ _ (ret (Value.bool _)) _ _ _;refine wpAny_pure ⟨_,Y,wpAny_truthy_bool (wpAny_pure ⟨.bl _,H,I.tok _,Y,?_⟩)⟩;have:¬ k∈xs.map (·.1):=λz=>by obtain ⟨e,he,h'⟩:=(Fu I hk pm).mpr z; exact h e he h'
  rw [decide_eq_false this] at q;exact q
 ·refine wpAny_pure ?_
  show wpAny _ _ (ret (Value.bool _)) _ _ _;refine wpAny_pure ⟨_,Y,wpAny_truthy_bool (wpAny_pure ⟨.bl _,H,I.tok _,Y,?_⟩)⟩;rw [decide_eq_true ((Fu I hk pm).mp h)] at q;exact q
def Zai {jv js:Pos} (hu:X.A.units + 64 < cLine) (ho:PE X o to) (ha:PA X [e] t)
  (on:attributeBase o "add" X.env (eval o X.env)=eval o X.env:=by rfl)
  (rg:((backTo js (starEach [e] X.env)).all (λx=>!x.1) && (backToKw js (keywordEach [] X.env)).all (λx=>x.1.isSome)
   && decide ([e].length + ([]:List Keyword).length + (if ([]:List Keyword).isEmpty then 0 else 1) < 30))=true:=by rfl)
  (oj:(jv.endLine == js.line)=true:=by rfl) (hs:starEach [e] X.env=(false,eval e X.env) :: starEach [] X.env:=by rfl) :
  PE X (.Call (.Attribute o "add" jv) [e] [] js) (λσ H Q=>to σ H λx H1=>∃ p xs0,x=.ref p/\H1 p=some (Xa X.prog X.w p xs0)/\t σ H1 λvs H2=>∃ b k xs,vs=[.ref b]/\H2 b=some (.tup (k.map V.int))/\H2 p=some (Xa X.prog X.w p xs)/\Xn H2 xs/\xs.length + 1<=2000/\(k∈xs.map (·.1)->Q .non H2)/\(k ∉ xs.map (·.1)->Q .non (upd H2 p (Xa X.prog X.w p (xs ++ [(k,b)]))))):=by
 intro jh s σ H Q I h;refine wpAny_Call_method_late on rg oj Y (thn (ho jh s σ H _ I h) λv s1 jp=>?_);obtain ⟨x,H1,I1,r1,p,xs0,ex,hp0,q1⟩:=jp;subst ex;cases r1;obtain ⟨⟨o0,ep0,t0,tab0,tt0,_⟩,_⟩:Yc X.prog X.w H1 s1.heap p (Xa X.prog X.w p xs0):=I1.hok p _ hp0;refine ⟨"set",_,PySem.F.plainAttrs_set,PySem.F.slot_set_add,PySem.F.type_set_add,⟨o0,tt0.ho,tt0.ex.1⟩,λa z=>by cases z; exact ⟨o0,tt0.ho,tt0.ex.2.1⟩,?_⟩;have hA:=ha js jh s1 σ H1 _ I1 q1;rw [hs] at hA ⊢;refine Calls.callWith_builtin Y (Calls.evalArgs_plain ?_);refine thn hA λus s2 jp=>?_;obtain ⟨vs,H2,I2,r2,b,k,xs,ev,hb,hp,hk,hl,qy,qn⟩:=jp;subst ev;obtain ⟨u,rfl,ru⟩:=Xm r2;cases ru;obtain ⟨⟨o,ep,t,jo,tt,pm⟩,_⟩:Yc X.prog X.w H2 s2.heap p (Xa X.prog X.w p xs):=I2.hok p _ hp;have ph:=Uw I2 hb;have jm:jo.length=xs.length:=by have:=pm.length_eq; rw [Ab,Ab] at this; exact this
 refine wpAny_call_entry PySem.F.slot_set_add tt.typeIs PySem.F.entry_set_add ?_ (PySem.F.args_set_add_2 _ _);unfold Builtin.«set.add» Builtin.Frozenset.oneOther;simp only [isEmpty_nil,bind_assoc];unfold Builtin.Frozenset.addrOf setAdd;refine Al (wpAny_pure ?_)
 try dsimp only
 refine Al ?_;refine wpAny_holding ?_;refine Al (wpAny_pyHash_tuple (by show X.A.units + _ < _; lia) ph ?_);refine Zqq (knd:=intKind X.prog X.w) (s:={ s2 with toks:=s2.toks + (k.length + 1) }) (by show X.A.units + _ < _; lia) (λk v n hv=>?_) tt (Zdx I2 hk pm) ph (by lia) (λh=>?_) (λh h' o' xh t' uw sb tt' pm'=>?_)
 ·have:v.isInt k=true:=by simpa [intKind] using hv
  cases v <;> simp [Value.isInt] at this;cases n <;> rfl
 ·show wpAny _ _ (ret Value.none) _ _ _
  exact wpAny_pure ⟨_,Y,.non,_,I2.tok _,Y,qy ((Fu I2 hk pm).mp h)⟩
 ·show wpAny _ _ (ret Value.none) _ _ _
  refine wpAny_pure ⟨_,Y,?_⟩;have hn:k ∉ xs.map (·.1):=λz=>by obtain ⟨e,he,h'⟩:=(Fu I2 hk pm).mpr z; exact h e he h'
  refine ⟨.non,_,I2.write (t':=s2.toks + (k.length + 1)) (x:=p) (e:=p) (by rw [hp]; exact trivial) (.inl Y) (λb' u hb hu=>(sb.2 b' hb).trans hu) ⟨_,tt'.ho⟩ (Zhb ⟨o',xh,t',uw,tt',?_⟩),Y,qn hn⟩;refine pm'.trans ?_;rw [Aj];exact pm.append (List.Perm.refl _)
end
end L2
namespace L2
open PySem PyProof.Rows
end L2
namespace L2
open PySem PySem.Spec PyProof.Rows PySem.W
noncomputable def kval {α:Type} (f:Nat->Nat->Bool):KasT α->α
 | .ret a=>a
 | .ask i j k=>kval f (k (f i j))
def Rng {α:Type} (n:Nat) (P:α->Prop):KasT α->Prop
 | .ret a=>P a
 | .ask i j k=>i < n/\j < n/\∀ b,Rng n P (k b)
theorem Rng.bind {α β:Type} {n:Nat} {P:α->Prop} {R:β->Prop} {g:α->KasT β} (hg:∀ a,P a->Rng n R (g a)):∀ t:KasT α,Rng n P t->Rng n R (t.bind g)
 | .ret a,h=>hg a h
 | .ask i j k,h=>⟨h.1,h.2.1,λb=>Rng.bind hg (k b) (h.2.2 b)⟩
theorem Zaq {α:Type} {n:Nat} {P:α->Prop} {cmp:Nat->Nat->(Bool->Shared->Prop)->Shared->Prop} {f:Nat->Nat->Bool} {s:Shared} (hc:∀ i j,i < n->j < n->∀ C,C (f i j) s->cmp i j C s):∀ (t:KasT α) (Q:α->Shared->Prop),Rng n P t->Q (kval f t) s->t.kasWp cmp Q s
 | .ret _,_,_,h=>h
 | .ask i j k,Q,r,h=>hc i j r.1 r.2.1 _ (Zaq hc (k (f i j)) Q (r.2.2 _) h)
def Ent (n:Nat) (p:Array Nat):Prop:=0 < n/\∀ v∈p.toList,v < n
def Ent.at {n:Nat} {p:Array Nat} (h:Ent n p) (x:Nat):p.getD x 0 < n:=by
 rw [Array.getD_eq_getD_getElem?]
 cases e:p[x]? with
 | none=>exact h.1
 | some v =>
  refine h.2 v ?_;obtain ⟨hx,e'⟩:=Array.getElem?_eq_some_iff.mp e;rw [<- e'];exact Array.getElem_mem_toList hx
theorem Zb4 {n:Nat} {p:Array Nat} (h:Ent n p):∀ g k,Rng n (λ_:Nat=>True) (kas_asc p g k)
 | 0,_=>trivial
 | g + 1,k=>⟨h.at _,h.at _,λb=>by
  show Rng n _ (if b=true then .ret k else kas_asc p g (k + 1));split
  ·trivial
  ·exact Zb4 h g (k + 1)⟩
theorem Ko {n:Nat} {p:Array Nat} (h:Ent n p) (k:Nat):∀ g l r,Rng n (λ_:Nat=>True) (kas_place p k g l r)
 | 0,_,_=>trivial
 | g + 1,l,r=>by
  show Rng n _ (if l ≥ r then .ret l else .ask (p.getD k 0) (p.getD ((l + r) / 2) 0) λc=>if c=true then kas_place p k g l ((l + r) / 2) else kas_place p k g ((l + r) / 2 + 1) r);split
  ·trivial
  ·refine ⟨h.at _,h.at _,λc=>?_⟩
   show Rng n _ (if c=true then kas_place p k g l ((l + r) / 2) else kas_place p k g ((l + r) / 2 + 1) r);split
   ·exact Ko h k g _ _
   ·exact Ko h k g _ _
def Zpa {ts:List Addr}:∀ {its:List Value},Vals (ts.map V.ref) its->its=ts.map Value.ref:=by
 induction ts with
 | nil=>intro its h; cases h; rfl
 | cons t r ih =>
  intro its h
  cases h with
  | cons a b =>
   obtain rfl:=(show _=Value.ref t from a);rw [ih b];rfl
section
variable {prog:Program} {w:World} {A:Around} {E:Value->Shared->Prop} {s:Shared}
def LsC (as:List Addr) (c:Addr->List Int) (h:Heap):Prop:=∀ a∈as,∃ its:List Value,h.IsList a its.toArray/\IntsAre its (c a)
def Zrm {xs ys:Array Value} (hl:s.heap.IsList l xs) (hb:s.heap.IsList b ys) (hi:IntsAre xs.toList ns) (hj:IntsAre ys.toList ms) (hu:A.units < cLine) (h:Q (HT.lexLt ns ms) s):wpAny (p:) A (oneLt' true (.ref l) (.ref b)) Q E s:=by
 obtain ⟨⟨cls,dd,data,sl⟩,ho,hc,n,hd⟩:=id hl;obtain ⟨⟨cls2,v9,data2,vb⟩,qj,my,n2,nr⟩:=id hb;simp only at hc hd my nr;subst hc hd my nr;rw [oneLt'_eq];simp only [if_true];refine Al (wpAny_cRoomFor hu ?_);refine Al (wpAny_callSpecialIfBound?_slot ⟨_,ho,Y⟩ PySem.F.slot_list_lt (call_meets PySem.F.slot_list_lt ⟨_,ho,Y⟩ PySem.F.entry_list_lt (PySem.F.args_list_lt_2 _ _) (_root_.HL.list_lt l b xs ys n n2 dd v9 sl vb ns ms hi hj) ⟨ho,qj,?_⟩));exact wpAny_truthy_bool h
def Zjg {as:List Addr} (hJ:LsC as c s.heap) (hn:0 < as.length) (h:Q oneType' s):wpAny (p:) A (keyKind' (as.map Value.ref).toArray) Q E s:=by
 rw [keyKind'_eq,mapM_toArray];have ty:∀ a∈as,s.TypeIs (.ref a) "list":=λa ha=>by
  obtain ⟨its,⟨o,ho,hc,_⟩,_⟩:=hJ a ha
  exact ⟨o,ho,hc⟩
 have yb:∀ (l:List Addr),(∀ a∈l,a∈as)->∀ {Q:List (Option Value)->Shared->Prop},Q (l.map λ_=>none) s->wpAny (p:) A ((l.map Value.ref).mapM firstOfTuple') Q E s:=λl=>by
  induction l with
  | nil=>intro _ Q h; exact wpAny_pure h
  | cons a l ih =>
   intro hl Q h;rw [map_cons,mapM_cons];refine Al ?_;show wpAny _ _ (do if (<- typeOf (.ref a)) != .type "tuple" then return none else return (<- Builtin.List.listItems (.ref a))[0]?) _ _ _;refine Al (wpAny_typeOf (ty a (hl a mem_cons_self)) ?_);rw [if_pos (d:)];refine wpAny_pure ?_;exact Al (ih (λb hb=>hl b (mem_cons_of_mem _ hb)) (wpAny_pure h))
 have types:∀ (l:List Addr),(∀ a∈l,a∈as)->∀ {Q:List Value->Shared->Prop},Q (l.map λ_=>Value.type "list") s->wpAny (p:) A ((l.map Value.ref).mapM typeOf) Q E s:=λl=>by
  induction l with
  | nil=>intro _ Q h; exact wpAny_pure h
  | cons a l ih =>
   intro hl Q h;rw [map_cons,mapM_cons];refine Al (wpAny_typeOf (ty a (hl a mem_cons_self)) ?_);exact Al (ih (λb hb=>hl b (mem_cons_of_mem _ hb)) (wpAny_pure h))
 cases as with
 | nil=>simp at hn
 | cons a0 r =>
  refine Al ?_;refine wpAny_map ?_;refine yb (a0 :: r) (λa h=>h) ?_;rw [if_neg (by simp),if_neg (by simp)];rw [oneTypeOnly'_eq,mapM_toArray];refine Al (Al (wpAny_map (types (a0 :: r) (λa h=>h) ?_)));have hall:((List.map (λ_=>Value.type "list") (a0 :: r)).toArray.all λx=>x == Value.type "list")=true:=by
   simp only [all_toArray,all_map,all_eq_true]
   intro _ _
   rfl
  have h0:(List.map (λ_=>Value.type "list") (a0 :: r)).toArray[0]?=some (Value.type "list"):=by simp
  rw [h0];simp only [hall,if_true];exact wpAny_pure (wpAny_pure h)
def LsC.stay {h h':Heap} {p:Addr} (hJ:LsC as c h) (yn:∀ a∈as,a≠p) (k:∀ b o,b≠p->h.get? b=some o->h'.get? b=some o):LsC as c h':=λa ha=>by
 obtain ⟨its,⟨o,ho,hc⟩,n⟩:=hJ a ha;exact ⟨its,⟨o,k a o (yn a ha) ho,hc⟩,n⟩
end
end L2
namespace KT
open PySem L2
noncomputable def kP (c:Nat):List Int:=[((c / 1000:Nat):Int),((c % 1000:Nat):Int)]
theorem Zhu {α:Type} [DecidableEq α]:∀ (l k:List α),l.Nodup->(∀ x∈l,x∈k)->l.length<=k.length
 | [],_,_,_=>Az _
 | x :: l,k,nd,h=>by
  obtain ⟨n1,n2⟩:=nodup_cons.mp nd;have hx:=h x mem_cons_self;have:=Zhu l (k.erase x) n2 λy hy=>(mem_erase_of_ne (λz=>n1 (by rw [<- z]; exact hy))).mpr (h y (mem_cons_of_mem _ hy));rw [length_erase_of_mem hx] at this;have:=length_pos_of_mem hx;rw [length_cons];lia
section
variable {M:Lw} {f:Nat->Int} {n:Nat}
def lt1i {B e:Nat} {x:Int} (hB:(B:Int)=x) (h:e < B):x - 1 - (e:Int)=((B - 1 - e:Nat):Int):=by subst hB; lia
def Fam.sg_key (h:Fam M f n) (v:VpP M f c) (hq:M[c / 1000]?=some (some q)):[((q:Nat):Int),f (c / 1000) - 1 - ((c % 1000:Nat):Int)]=kP (sgP M f c):=by
 obtain ⟨q',e1,e2,v2,_,e5,_⟩:=h.sg v;rw [hq] at e1;cases e1;have d:=Qm (p:=q) (lt1k (e:=c % 1000) (h.nf v.1).2);unfold kP;rw [e2,d.1,d.2,lt1i (h.nf v.1).1 v.2]
def Fam.tu_key (h:Fam M f n) (v:VpP M f c):(if ((c % 1000:Nat):Int) < (f (bN (c / 1000)) + f (c / 1000) - f (aN (c / 1000))) / 2 then [((bN (c / 1000):Nat):Int),f (bN (c / 1000)) - 1 - ((c % 1000:Nat):Int)] else [((aN (c / 1000):Nat):Int),f (c / 1000) - 1 - ((c % 1000:Nat):Int)])=kP (tuP f c):=by
 obtain ⟨v1,v2⟩:=v;generalize hp:c / 1000=p at *;generalize hs:c % 1000=e at *;obtain ⟨ha,hb,q1,q2⟩:=h.tuq v1 v2;unfold kP tuP;rw [hp,hs];by_cases c1:(e:Int) < (f (bN p) + f p - f (aN p)) / 2
 ·have dd:=Qm (p:=bN p) (lt1k (e:=e) (h.nf hb).2)
  rw [if_pos c1,if_pos c1,dd.1,dd.2,lt1i (h.nf hb).1 (q1 c1).1]
 ·have dd:=Qm (p:=aN p) (lt1k (e:=e) (h.nf v1).2)
  rw [if_neg c1,if_neg c1,dd.1,dd.2,lt1i (h.nf v1).1 v2]
def Fam.sides (h:Fam M f n) (hp:p < M.length):aN p < M.length/\bN p < M.length:=by
 obtain ⟨d1,d2,_⟩:=F2 p;have:=h.hn;lia
end
def Off (a b:Addr) (H H':Hp):Prop:=∀ x o,x≠a->x≠b->H x=some o->H' x=some o
def Off.refl:Off a b H H:=λ_ _ _ _ h=>h
def Off.trans (s:Off a b H H1) (s':Off a b H1 H2):Off a b H H2:=λx o h1 h2 h=>s' x o h1 h2 (s x o h1 h2 h)
def Off.of (s:Same H H1):Off a b H H1:=λx o _ _ h=>s x o h
def Off.a {a b:Addr} {H H1:Hp} {o:HO} (s:Off a b H H1):Off a b H (upd H1 a o):=λx u h1 h2 h=>by rw [Ze h1]; exact s x u h1 h2 h
def Off.b {a b:Addr} {H H1:Hp} {o:HO} (s:Off a b H H1):Off a b H (upd H1 b o):=λx u h1 h2 h=>by rw [Ze h2]; exact s x u h1 h2 h
def Off.same {a b:Addr} {H0 H H':Hp} (s:Off a b H H') (s0:Same H0 H) (ha:H0 a=none) (hb:H0 b=none):Same H0 H':=λx u e=>s x u (λz=>by rw [z,ha] at e; cases e) (λz=>by rw [z,hb] at e; cases e) (s0 x u e)
end KT
namespace L2
open PySem PySem.Spec PyProof.Rows PySem.W
def EntP (n:Nat) (p:Array Nat):Prop:=0 < n/\p.Perm (List.range n).toArray
def EntP.ent {n:Nat} {p:Array Nat} (h:EntP n p):Ent n p:=⟨h.1,λv hv=>by simpa using (Array.perm_iff_toList_perm.mp h.2).mem_iff.mp hv⟩
def EntP.perm {n:Nat} {p q:Array Nat} (h:EntP n p) (e:q.Perm p):EntP n q:=⟨h.1,e.trans h.2⟩
def EntP.rev {n:Nat} {p:Array Nat} (h:EntP n p) (i j:Nat):EntP n (kas_rev p i j):=h.perm (mirror_perm _ _ _ _)
theorem Zfu {α:Type} {n:Nat} {P:α->Prop} {f:Nat->Nat->Bool}:∀ {t:KasT α},Rng n P t->P (kval f t)
 | .ret _,h=>h
 | .ask i j k,h=>Zfu (t:=k (f i j)) (h.2.2 _)
theorem Og {n:Nat}:∀ (g:Nat) (p:Array Nat) (k q:Nat),EntP n p->Rng n (λr:Array Nat × Nat × Nat=>EntP n r.1) (kas_desc g p k q)
 | 0,p,_,_,h=>h
 | g + 1,p,k,q,h=>⟨h.ent.at _,h.ent.at _,λb=>by
  show Rng n _ (if b=true then (if q > 0 then kas_desc g (kas_rev p (k - (q + 1)) k) (k + 1) 0 else kas_desc g p (k + 1) 0) else .ask (p.getD (k - 1) 0) (p.getD k 0) λd=>if d=true then .ret (p,k,q) else kas_desc g p (k + 1) (q + 1));split
  ·split
   ·exact Og g _ _ _ (h.rev _ _)
   ·exact Og g _ _ _ h
  ·refine ⟨h.ent.at _,h.ent.at _,λd=>?_⟩
   show Rng n _ (if d=true then .ret (p,k,q) else kas_desc g p (k + 1) (q + 1));split
   ·exact h
   ·exact Og g _ _ _ h⟩
def Zdw {n:Nat} {p:Array Nat} (h:EntP n p) (k m:Nat):Rng n (λr:Nat × Array Nat=>EntP n r.2) (kas_tail3 k m p) :=
 Rng.bind (P:=λ_=>True) (λm' _=>(show Rng n (λr:Nat × Array Nat=>EntP n r.2) (.ret (m',kas_rev p 0 k)) from h.rev _ _)) _ (Zb4 (h.rev _ _).ent _ _)
def Zfb {n:Nat} {p:Array Nat} (h:EntP n p) (k m:Nat):Rng n (λr:Nat × Array Nat=>EntP n r.2) (kas_descPart k m p) :=
 Rng.bind (P:=λr=>EntP n r.1) (λr hr=>by
  split
  ·exact Zdw (hr.rev _ _) _ _
  ·exact Zdw hr _ _) _ (Og _ _ _ _ h)
def Zlr {n:Nat} {p:Array Nat} (h:EntP n p) (m:Nat):Rng n (λr:Nat × Array Nat=>EntP n r.2) (kas_count m p) :=
 Rng.bind (P:=λ_=>True) (λk _=>by
  split
  ·exact h
  ·split
   ·refine ⟨h.ent.at _,h.ent.at _,λc=>?_⟩
    show Rng n _ (if c=true then .ret (k,p) else kas_descPart k m (kas_rev p 0 k));split
    ·exact h
    ·exact Zfb (h.rev _ _) _ _
   ·exact Zfb h _ _) _ (Zb4 h.ent _ _)
theorem Zib {n:Nat}:∀ (g:Nat) (p:Array Nat) (k:Nat),EntP n p->Rng n (λr:Array Nat=>EntP n r) (kas_bin g p k)
 | 0,_,_,h=>h
 | g + 1,p,k,h=>Rng.bind (P:=λ_=>True) (λl _=>Zib g _ _ (h.perm (bubble_perm _ _ _))) _ (Ko h.ent k _ _ _)
def Zd9 {n:Nat} (h:0 < n):Rng n (λr:Array Nat=>EntP n r) (kas_sort n) :=
 Rng.bind (P:=λr=>EntP n r.2) (λr hr=>by
  split
  ·exact Zib _ _ _ hr
  ·exact hr) _ (Zlr ⟨h,.refl _⟩ n)
section
variable {prog:Program} {w:World} {A:Around} {E:Value->Shared->Prop} {s:Shared}
def Zg4 {a:Addr} {vs:List Value} {n:Nat} {P:PySem.Fin->Shared->Prop} {f:Nat->Nat->Bool} (ho:s.heap.get? a=some (seqObj "list" vs.toArray n)) (h64:vs.length < 64)
  (hq:2<=vs.length->∀ h6:Heap,(∀ b o,b≠a->s.heap.get? b=some o->h6.get? b=some o)->∃ κ,(∀ Q:SortKind->Shared->Prop,Q κ { s with heap:=h6 }->wpAny (p:) A (keyKind' vs.toArray) Q E { s with heap:=h6 }) /\
   ∀ i j,i < vs.length->j < vs.length->∀ C:Bool->Shared->Prop,C (f i j) { s with heap:=h6 }->wpAny (p:) A (keyLt' κ (vs.getD i Value.none) (vs.getD j Value.none)) C (λ_ _=>False) { s with heap:=h6 })
  (h:∀ p:List Nat,p.Perm (List.range vs.length)->P (.done (.ret .none)) { s with heap:=sortedHeap s.heap a vs (p.map λi=>vs.getD i Value.none).toArray }) :
  wpAny (p:) A (Builtin.«list.sort» ⟨[.ref a],[]⟩) P E s:=by
 rw [list_sort_plain];have ha:a < s.heap.objs.size:=Ao ho;refine Al (listItems_at ho Y ?_);refine Al (listUpdate_at ho Y ?_);obtain ⟨e1,wx⟩:∃ e1,(s.heap.update a (Obj.mapSeq λ_=>#[])).get? a=some (seqObj "list" #[] e1):=⟨_,get?_update_seq ho (λ_=>#[])⟩;refine Al (seqEpoch_at wx Y ?_);refine Al (wpAny_newTuple ?_);refine Al (wpAny_newList ?_);refine wpAny_holding ?_;have z6:(((s.heap.update a (Obj.mapSeq λ_=>#[])).push (seqObj "tuple" vs.toArray 0)).push (seqObj "list" #[] 0)).get? a=some (seqObj "list" #[] e1):=by
  rw [Heap.get?_push_ne _ _ _ (by rw [size_push',Heap.size_update]; exact As (lt_succ_of_lt ha)),Heap.get?_push_ne _ _ _ (by rw [Heap.size_update]; exact As ha)]
  exact wx
 have yo:∀ b o,b≠a->s.heap.get? b=some o->(((s.heap.update a (Obj.mapSeq λ_=>#[])).push (seqObj "tuple" vs.toArray 0)).push (seqObj "list" #[] 0)).get? b=some o:=λb o hb e =>
  Ak _ (Ak _ ((Heap.get?_update_other _ _ (Ne.symm hb)).trans e))
 show wpAny (p:) A _ P E { s with heap:=((s.heap.update a (Obj.mapSeq λ_=>#[])).push (seqObj "tuple" vs.toArray 0)).push (seqObj "list" #[] 0) };dsimp only;have hsz:vs.toArray.size=vs.length:=by simp
 by_cases h2:vs.toArray.size < 2
 ·rw [if_pos h2,if_pos h2]
  refine Al (wpAny_pure ?_);rw [StateT.run_pure];refine Al (wpAny_pure ?_);dsimp only;refine Al (seqEpoch_at z6 Y ?_);refine Al (listUpdate_at z6 Y ?_ (hsz2:=by rw [Array.size_map]; show (pairsOf vs).size<=_; rw [pairsOf_size,sizeLine_eq]; lia));simp only [bne_self_eq_false,Bool.false_eq_true,if_false];have kh:=h (List.range vs.length) (.refl _);refine wpAny_pure ?_
  have e:((List.range vs.length).map λi=>vs.getD i Value.none).toArray=(arrOf (SortSt.mk' general' (vs.toArray.zip vs.toArray) #[] 7 none)).map (·.2):=by
   show _=(vs.toArray.zip vs.toArray).map (·.2);clear kh hq h z6 yo ho
   match vs,h2 with
   | [],_=>simp
   | [v],_=>simp
   | _ :: _ :: _,h2=>exact absurd h2 (by simp)
  rw [e] at kh;exact kh
 ·rw [if_neg h2,if_neg h2]
  have h2':2<=vs.length:=by lia
  obtain ⟨κ,k1,k2⟩:=hq h2' _ yo;refine Al (k1 _ ?_);refine Al (wpAny_mono (kat_run (ks:=vs) (vs:=vs) (κ:=κ) (G:=λp s'=>p=kval f (kas_sort vs.length)/\s'={ s with heap:=((s.heap.update a (Obj.mapSeq λ_=>#[])).push (seqObj "tuple" vs.toArray 0)).push (seqObj "list" #[] 0) })
   (Q:=λko s'=>s'={ s with heap:=((s.heap.update a (Obj.mapSeq λ_=>#[])).push (seqObj "tuple" vs.toArray 0)).push (seqObj "list" #[] 0) }/\failedOf ko=none/\(kval f (kas_sort vs.length)).size=vs.length/\arrOf ko=(kval f (kas_sort vs.length)).map (kas_item (vs.toArray.zip vs.toArray)))
   rfl h2' h64 (λp ko s' hp u8 hf hg=>by obtain ⟨rfl,rfl⟩:=hg; exact ⟨Y,hf,hp,u8⟩) (Zaq (n:=vs.length) (f:=f) (λi j hi hj C hC=>k2 i j hi hj C hC) _ _ (Zd9 (by lia)) ⟨Y,Y⟩)) ?_ λ_ _ e=>e)
  rintro ⟨⟨⟩,ko⟩ s' ⟨rfl,hf,hp,u8⟩;have v1:=(Zfu (f:=f) (Zd9 (n:=vs.length) (by lia))).2;generalize kval f (kas_sort vs.length)=p at hp u8 v1;dsimp only;have uj:p.toList.Perm (List.range vs.length):=by
   have:=Array.perm_iff_toList_perm.mp v1
   simpa using this
  refine Al (seqEpoch_at z6 Y ?_);have eo:=kat_snds (ks:=vs) (vs:=vs) rfl u8;refine Al (listUpdate_at z6 Y ?_ (hsz2:=by rw [eo]; show (List.toArray (p.toList.map λi=>vs.getD i Value.none)).size<=_; simp; rw [hp,sizeLine_eq]; lia));rw [hf];simp only [bne_self_eq_false,Bool.false_eq_true,if_false];refine wpAny_pure ?_;rw [eo];exact h p.toList uj
end
section
variable {X:Cx}
def Zgc (hu:X.A.units + 64 < cLine):Y2 X (.builtin "sorted") (λxs H Q=>∃ (p:Addr) (as:List Addr) (c:Addr->List Int),xs=[.ref p]/\SqL X.K H p (as.map V.ref)/\(∀ a∈as,SqL X.K H a ((c a).map V.int))/\as.length < 64 /\
  ∀ (q:Addr) (bs:List Addr),H q=none->bs.Perm as->Q (.ref q) (upd H q (.lst (bs.map V.ref)))):=by
 intro jh s σ H xs us Q I r h;obtain ⟨p,as,c,rfl,hp,hc,hz,q⟩:=h;obtain ⟨u,rfl,ru⟩:=Xm r;obtain rfl:u=Value.ref p:=ru;obtain ⟨its,rv,pl,_⟩:=I.list hp;have hits:=Zpa rv;subst hits;have hl:(as.map Value.ref).length=as.length:=Ab _;have hJ:LsC as c s.heap:=λa ha=>by
  obtain ⟨its,r,p,_⟩:=I.list (hc a ha)
  exact ⟨its,p.isList,Wt r⟩
 refine Calls.call_function_entry kind_sorted plain_sorted entry_sorted (args_sorted1 _) ?_;unfold Builtin.«sorted»;refine Al (m:=checkCount "sorted" 1 1 _) (wpAny_pure ?_);refine Al (collect_list pl.isList ?_ (by rw [hl,sizeLine_eq]; lia));have mj:∀ b o,s.heap.get? b=some o->((s.heap.push (seqObj "list" #[] 0)).update s.heap.objs.size (Obj.mapSeq λx=>x ++ (as.map Value.ref).toArray)).get? b=some o:=λb o e =>
  (Heap.get?_update_other _ _ (Nat.ne_of_gt (Ao e))).trans (Ak _ e)
 generalize (s.heap.push (seqObj "list" #[] 0)).update s.heap.objs.size (Obj.mapSeq λx=>x ++ (as.map Value.ref).toArray)=h' at mj;refine Al (wpAny_newList ?_ (by rw [hl,sizeLine_eq]; lia));have I1:Inv X jh σ H { s with heap:=h' }:=I.kept (t':=s.toks) mj;have ul:(h'.push { cls:=.type "list",data:=.seq (as.map Value.ref).toArray }).get? h'.objs.size=some (seqObj "list" (as.map Value.ref).toArray 0):=Ap _ rfl;have hJ1:LsC as c (h'.push { cls:=.type "list",data:=.seq (as.map Value.ref).toArray }):=λa ha=>by
  obtain ⟨its,⟨o,ho,vw⟩,n⟩:=hJ a ha
  exact ⟨its,⟨o,Ak _ (mj a o ho),vw⟩,n⟩
 have hna:∀ b∈as,b≠h'.objs.size:=λb hb=>by
  obtain ⟨its,⟨o,ho,_⟩,_⟩:=hJ b hb;exact As (Ao (mj b o ho))
 have hgd:∀ i,i < as.length->(as.map Value.ref).getD i Value.none=.ref (as.getD i 0)/\as.getD i 0∈as:=λi hi=>by
  rw [Ad,Ah,Ac hi,Ad,Ac hi];exact ⟨Y,getElem_mem hi⟩
 have hu1:X.A.in1.in1.units < cLine:=by
  have e:X.A.in1.in1.units<=X.A.units + 64:=(by unfold Around.in1; first | (dsimp only; lia) | (simp only; lia));lia
 refine Al (wpAny_holding (wpAny_call_entry slot_list_sort ⟨_,ul,Y⟩ entry_list_sort (Zg4 (f:=λi j=>HT.lexLt (c (as.getD i 0)) (c (as.getD j 0))) ul (by rw [hl]; exact hz) (λh2 h6 yo=>⟨oneType',λQk hQk=>Zjg (hJ1.stay hna yo) (by rw [hl] at h2; lia) hQk,λi j hi hj C hC=>?_⟩) λpp vm=>⟨_,rfl,?_⟩) (args_list_sort _)))
 ·rw [hl] at hi hj
  obtain ⟨e1,m1⟩:=hgd i hi;obtain ⟨e2,m2⟩:=hgd j hj;rw [e1,e2,keyLt'_oneType];obtain ⟨i1,l1,n1⟩:=(hJ1.stay hna yo) _ m1;obtain ⟨i2,l2,n2⟩:=(hJ1.stay hna yo) _ m2;exact Zrm l1 l2 (by simpa using n1) (by simpa using n2) hu1 hC
 rw [hl] at vm;have eb:(pp.map λi=>(as.map Value.ref).getD i Value.none)=(pp.map λi=>as.getD i 0).map Value.ref:=by
  rw [map_map]
  exact map_congr_left λi hi=>(hgd i (mem_range.mp (vm.mem_iff.mp hi))).1
 have pb:(pp.map λi=>as.getD i 0).Perm as:=by
  refine (vm.map _).trans ?_;rw [show (List.range as.length).map (λi=>as.getD i 0)=as from ?_];apply ext_getElem (by simp);intro i h1 h2;rw [getElem_map,getElem_range,Ad,Ac h2];rfl
 rw [eb];generalize (pp.map λi=>as.getD i 0)=bs at pb;refine wpAny_pure ⟨_,Y,?_⟩;obtain ⟨e,he⟩:=sortedHeap_at (out:=(bs.map Value.ref).toArray) ul;have kp:∀ b u,h'.get? b=some u->(sortedHeap (h'.push { cls:=.type "list",data:=.seq (as.map Value.ref).toArray }) h'.objs.size (as.map Value.ref) (bs.map Value.ref).toArray).get? b=some u:=λb u hb=>by
  have jw:b < h'.objs.size:=Ao hb
  rw [sortedHeap_old (As jw) (by rw [Heap.size_push]; exact lt_succ_of_lt jw)]
  exact Ak _ hb
 have hv:∀ l:List Addr,Vals (l.map V.ref) (l.map Value.ref):=λl=>by
  induction l with
  | nil=>exact .nil
  | cons b l ih=>exact .cons Y ih
 refine ⟨.ref h'.objs.size,upd H h'.objs.size (.lst (bs.map V.ref)),I1.laid kp (An _) ?_,Y,q _ bs I1.fresh pb⟩;refine ⟨?_,bs.map Value.ref,e,hv bs,?_⟩
 ·rw [Ab,pb.length_eq,sizeLine_eq]; lia
 ·exact he
end
end L2
namespace L2
open PySem PySem.Spec PyProof.Rows
abbrev TAZ:=St->Hp->(List V->Hp->Prop)->XK->Prop
def PAZ (fr:Bool) (X:Cx) (es:List Expr) (t:TAZ):Prop :=
 ∀ (pos:Pos) (jh:List (m:)) (s:Shared) (σ:St) (H:Hp) (Q:List V->Hp->Prop) (E:XK),Inv X jh σ H s->t σ H Q E->wpAny (c:) X.A (spliced (backTo pos (starEach es X.env))) (AP X jh σ Q) (XS fr X jh λcls σ' H'=>σ'=σ/\E cls none H') s
section
variable {X:Cx} {fr:Bool} {k:Nat} {f:Addr} {fd:FuncData} {ps:List Str} {sp:Sp} {kj:List V} {ds:List Value} {x:Str} {p pos:Pos} {e:Expr} {es:List Expr}
def Zfa {t:TA} (h:PA X es t) (hx:X.xe=(λ_ _=>False):=by rfl):PAZ fr X es (λσ H Q _=>t σ H Q):=by
 intro pos jh s σ H Q E I q;have h0:=h pos jh s σ H Q I q;rw [hx] at h0;exact wpAny_mono h0 (λ_ _ z=>z) λ_ _ z=>z.elim
def Wn {te:TEX} {t:TAZ} (ha:PEX fr X e te) (hr:PAZ fr X es t) (hs:starEach (e :: es) X.env=(false,eval e X.env) :: starEach es X.env:=by rfl):PAZ fr X (e :: es) (λσ H Q E=>te σ H (λx H1=>t σ H1 (λxs H2=>Q (x :: xs) H2) E) E):=by
 intro pos jh s σ H Q E I h;rw [hs];show wpAny _ _ (spliced ((false,eval e X.env) :: backTo pos (starEach es X.env))) _ _ s;refine Calls.spliced_cons (thn (ha jh s σ H _ E I h) λu s1 jp=>?_);obtain ⟨x,H1,I1,r1,q1⟩:=jp;refine thn (hr pos jh s1 σ H1 _ E I1 q1) λus s2 zz40=>?_;obtain ⟨xs,H2,I2,r2,q2⟩:=zz40;exact ⟨x :: xs,H2,I2,.cons r1 r2,q2⟩
def Kq {t:TAZ} (F:FnOk X.prog X.w X.K X.mg X.base (CXr X.prog X.w) k f fd ps sp) (hr:Room k X.A) (hg:Gl X x) (hm:X.mg x=some (.ref f)) (hk:PySem.W.keepIn X.K (.ref f)=true) (hb:Wb X.K fd ps ds) (hd:Vals kj ds)
  (ha:PAZ fr X (e :: es) t) (hex:X.ex=[]:=by rfl) (l8:(x == ("__debug__":Str))=false:=by decide) (he:starEach (e :: es) X.env=(false,eval e X.env) :: starEach es X.env:=by rfl) (k8:(backTo pos (starEach es X.env)).any (·.1)=false:=by rfl) :
  PEX fr X (.Call (.Name x p) (e :: es) [] pos) (λσ H Q E=>t σ H (λvs H1=>sp (vs ++ kj) H1 Q E) E):=by
 intro jh s σ H Q E I h;have h0:=ha pos jh s σ H _ E I h;refine wpAny_Call_Name_kw (Je I hg hm ?_ l8);refine PySem.W.callWith_K (h₀:=X.base) I.ok.mod.kin hk (wpAny_mono h0 (λus s1 zz41=>?_) λ_ _ z=>z) he k8;obtain ⟨vs,H1,I1,r,q⟩:=zz41;refine ⟨I1.kIn,?_⟩;exact Zbj F hr hb hd hex I1 r q
end
end L2
namespace KT
open PySem L2
noncomputable def mz (xs:List Nat) (p:Nat):Nat:=xs.countP λq=>decide (q=p)
def Wa (x:Nat) (xs:List Nat) (p:Nat):mz (x :: xs) p=mz xs p + if x=p then 1 else 0:=by
 unfold mz;rw [countP_cons];by_cases c:x=p <;> simp [c]
theorem Kz {M:Lw} (inv:InvM M) (p:Nat):∀ ws:List Nat,(∀ q∈ws,∃ m,M[q]?=some (some m))->kr M ws p=mz ws p + mz (ws.map (mtN M)) p
 | [],_=>rfl
 | q :: r,h=>by
  have ih:=Kz inv p r λz hz=>h z (mem_cons_of_mem _ hz);obtain ⟨m,hm⟩:=h q mem_cons_self;have ne:=(inv q m hm).2;unfold kr at ih ⊢;rw [countP_cons,ih,map_cons,Wa,Wa,Vq hm,Zdr ne];lia
def Zpm {p x y:Nat} (h:y / 3=x / 3) (ne:y≠x):(if x=p then 1 else 0) + (if y=p then 1 else 0)<=((if x=aN p then 1 else 0) + if y=aN p then 1 else 0) + ((if x=bN p then 1 else 0) + if y=bN p then 1 else 0):=by
 have i1:=ind3 p x;have i2:=ind3 p y;rw [h] at i2;by_cases c:x / 3=p / 3
 ·rw [if_pos c] at i1 i2
  by_cases d:x=p
  ·subst d
   rw [if_neg ne] at i2 ⊢;rw [if_pos rfl];lia
  ·by_cases e:y=p
   ·subst e
    rw [if_neg d] at i1 ⊢;rw [if_pos rfl];lia
   ·rw [if_neg d,if_neg e]
    lia
 ·rw [if_neg c] at i1 i2
  lia
theorem Zb7 (p:Nat):∀ xs ys:List Nat,xs.length=ys.length->(∀ (i:Nat) x y,xs[i]?=some x->ys[i]?=some y->y / 3=x / 3/\y≠x)->mz xs p + mz ys p<=(mz xs (aN p) + mz ys (aN p)) + (mz xs (bN p) + mz ys (bN p))
 | [],[],_,_=>Az _
 | [],_ :: _,h,_=>by cases h
 | _ :: _,[],h,_=>by cases h
 | x :: xs,y :: ys,h,r=>by
  have ih:=Zb7 p xs ys (by simpa using h) λi a b e1 e2=>r (i + 1) a b e1 e2;obtain ⟨r1,r2⟩:=r 0 x y rfl rfl;have:=Zpm (p:=p) r1 r2;rw [Wa,Wa,Wa,Wa,Wa,Wa];lia
def Zqc {M:Lw} (inv:InvM M) {ws:List Nat} (hP:Pl M ws) (p:Nat):kr M ws p<=kr M ws (aN p) + kr M ws (bN p):=by
 have hl:0 < ws.length:=length_pos_iff.mpr hP.ne;have pm:(rot ws 1).Perm ws:=by
  unfold rot
  refine perm_append_comm.trans ?_
  rw [take_append_drop]
 have e:∀ z,mz ws z=mz (rot ws 1) z:=λz=>(pm.countP_eq _).symm;have t:=Zb7 p (ws.map (mtN M)) (rot ws 1) (by rw [Ab,pm.length_eq]) λi x y e1 e2=>by
  rw [Ah] at e1
  obtain ⟨q,hq,rfl⟩:=Option.map_eq_some_iff.mp e1
  have hi:=(Aa hq).1
  rw [Zkk (j:=0) hl hi] at e2
  obtain ⟨m,hm⟩:=hP.has q (Au hq)
  rw [Vq hm]
  exact hP.nxt i q y hq e2 m hm
 rw [Kz inv _ ws hP.has,Kz inv _ ws hP.has,Kz inv _ ws hP.has,e,e,e];lia
def Pl.pc {M:Lw} (inv:InvM M) {ws:List Nat} (hP:Pl M ws):PC M λp=>((kr M ws p:Nat):Int):=by
 refine ⟨λp _=>Int.natCast_nonneg _,λp hp=>?_,λp q hp=>?_,λp _=>?_,λp _=>?_⟩
 ·show ((kr M ws p:Nat):Int)=0
  rw [Zqd inv hP.has (by rw [hp]; rfl)];rfl
 ·show ((kr M ws q:Nat):Int)=((kr M ws p:Nat):Int)
  rw [Zns inv hP.has hp]
 ·show (((kr M ws p:Nat):Int) + ((kr M ws (aN p):Nat):Int) + ((kr M ws (bN p):Nat):Int)) % 2=0
  have:=Zqa inv (.inr hP) p;lia
 ·show ((kr M ws p:Nat):Int)<=((kr M ws (aN p):Nat):Int) + ((kr M ws (bN p):Nat):Int)
  have:=Zqc inv hP p;lia
theorem Zke (q:Nat):∀ n:Nat,sF (λp=>if q=p then 1 else 0) n<=if q < n then 1 else 0
 | 0=>Int.le_refl _
 | n + 1=>by
  have ih:=Zke q n;show sF _ n + (if q=n then 1 else 0)<=_;by_cases c:q=n
  ·subst c
   rw [if_neg (Nat.lt_irrefl _)] at ih;rw [if_pos rfl,if_pos (lt_succ_self _)];lia
  ·rw [if_neg c]
   by_cases d:q < n
   ·rw [if_pos d] at ih; rw [if_pos (by lia)]; lia
   ·rw [if_neg d] at ih; rw [if_neg (by lia)]; lia
theorem Zbh {f g:Nat->Int}:∀ n:Nat,sF (λp=>f p + g p) n=sF f n + sF g n
 | 0=>rfl
 | n + 1=>by
  have ih:=Zbh (f:=f) (g:=g) n;show sF _ n + (f n + g n)=(sF f n + f n) + (sF g n + g n);lia
theorem Ziv (n:Nat):∀ xs:List Nat,sF (λp=>((mz xs p:Nat):Int)) n<=xs.length
 | []=>by
  have:sF (λp=>((mz [] p:Nat):Int)) n<=sF (λ_=>0) n:=Zn4 λ_ _=>Int.le_refl _
  have z:∀ n,sF (λ_=>0) n=0:=λn=>by
   induction n with
   | zero=>rfl
   | succ n ih=>show sF _ n + 0=0; lia
  rw [z] at this;exact this
 | x :: xs=>by
  have ih:=Ziv n xs;have e:(λp=>((mz (x :: xs) p:Nat):Int))=λp=>((mz xs p:Nat):Int) + if x=p then 1 else 0:=by
   funext p
   rw [Wa]
   by_cases c:x=p <;> simp [c]
  rw [e,Zbh,length_cons];have:=Zke x n;by_cases c:x < n
  ·rw [if_pos c] at this; lia
  ·rw [if_neg c] at this; lia
def Zst {M:Lw} (inv:InvM M) {ws:List Nat} (hP:Pl M ws) (n:Nat):sF (λp=>((kr M ws p:Nat):Int)) n<=2 * ws.length:=by
 have e:(λp=>((kr M ws p:Nat):Int))=λp=>((mz ws p:Nat):Int) + ((mz (ws.map (mtN M)) p:Nat):Int):=by
  funext p;rw [Kz inv p ws hP.has];lia
 rw [e,Zbh];have h1:=Ziv n ws;have h2:=Ziv n (ws.map (mtN M));rw [Ab] at h2;lia
end KT
set_option genInjectivity false
set_option genSizeOf false
namespace KT
open PySem L2
noncomputable def bmV:List Value:=[.type "ValueError",.type "Exception",.type "BaseException",.type "object"]
def FBV:ExcBaseFacts "ValueError" "ValueError.__new__" "ValueError.__init__" bmV:=PySem.F.excBase_ValueError
def Z6 {α:Type} {f:α->V} {l:List α} {i:Nat} {y:V} (h:(l.map f)[i]?=some y):∃ q,l[i]?=some q/\y=f q:=by
 rw [Ah] at h
 cases e:l[i]? with
 | none=>rw [e] at h; cases h
 | some q=>rw [e] at h; cases h; exact ⟨q,Y,Y⟩
structure FT (K:W.Frag) (mg:Str->Option Value) (x:Str) (st:Stmt) (ps:List Str) (f:Addr) (d:FuncData):Prop where
 F:Fun K x x st f d
 b:Wb K d ps []
 g:mg x=some (.ref f)
structure FM (K:W.Frag) (C:Addr) (x q:Str) (st:Stmt) (ps:List Str) (f:Addr) (d:FuncData):Prop where
 F:Fun K x q st f d
 b:Wb K d ps []
 m:Meth K C x f
section
variable {X:Cx} {fr:Bool} {j k:Nat} {f:Addr} {fd:FuncData} {ps:List Str} {sp:Sp} {x:Str} {st:Stmt} {p pos:Pos} {e:Expr} {es:List Expr} {t:TA}
def pcT (F:FnOk X.prog X.w X.K X.mg X.base (CXr X.prog X.w) k f fd ps sp) (hr:Room j X.A) (q:FT X.K X.mg x st ps f fd) (ha:PA X (e :: es) t) (hk:k<=j:=by decide) (hg:Gl X x:=by rfl) (l8:(x == ("__debug__":Str))=false:=by decide) (he:starEach (e :: es) X.env=(false,eval e X.env) :: starEach es X.env:=by rfl) (k8:(backTo pos (starEach es X.env)).any (·.1)=false:=by rfl) :
  PE X (.Call (.Name x p) (e :: es) [] pos) (Zn2 sp [] E0 t):=Zpk F (hr.mono hk) hg q.g q.F.kp q.b .nil Yf ha l8 he k8
def pxT (F:FnOk X.prog X.w X.K X.mg X.base (CXr X.prog X.w) k f fd ps sp) (hr:Room j X.A) (q:FT X.K X.mg x st ps f fd) (ha:PA X (e :: es) t) (hk:k<=j:=by decide) (hg:Gl X x:=by rfl) (hex:X.ex=[]:=by rfl) (hx:X.xe=(λ_ _=>False):=by rfl) (l8:(x == ("__debug__":Str))=false:=by decide) (he:starEach (e :: es) X.env=(false,eval e X.env) :: starEach es X.env:=by rfl) (k8:(backTo pos (starEach es X.env)).any (·.1)=false:=by rfl) :
  PEX fr X (.Call (.Name x p) (e :: es) [] pos) (Zj0 sp [] t):=Zmt F (hr.mono hk) hg q.g q.F.kp q.b .nil ha hex hx l8 he k8
end
def BA (q:Str) (st:Stmt) (ps:List Str):Prop:=∀ (x:Str) (kV kc pm:Value) (an:Option Addr) (j5 ct:Value) (us:List Value),us.length=ps.length->bindArgs (PySem.W.fnOf x q (Xi st) (Yv st) (Zh st) .none kV kc pm an j5 ct) ⟨us,[]⟩=pure (ps.zip us)
def Zhv {α:Type} {us:List α} (e:us.length=2):∃ a b,us=[a,b]:=by
 obtain ⟨a,us,rfl⟩:=exists_cons_of_length_eq_add_one e;obtain ⟨b,rfl⟩:=length_eq_one_iff.mp (Nat.succ.inj e);exact ⟨a,b,Y⟩
def Zct {α:Type} {us:List α} (e:us.length=3):∃ a b c,us=[a,b,c]:=by
 obtain ⟨a,us,rfl⟩:=exists_cons_of_length_eq_add_one e;obtain ⟨b,c,rfl⟩:=Zhv (Nat.succ.inj e);exact ⟨a,b,c,Y⟩
def ba1 {ps:List Str} (h:∀ (x:Str) (kV kc pm:Value) (an:Option Addr) (j5 ct:Value) (a:Value),bindArgs (PySem.W.fnOf x q (Xi st) (Yv st) (Zh st) .none kV kc pm an j5 ct) ⟨[a],[]⟩=pure (ps.zip [a])) (hl:ps.length=1):BA q st ps:=λx kV kc pm an j5 ct us e=>by
 rw [hl] at e;obtain ⟨a,rfl⟩:=length_eq_one_iff.mp e;exact h x kV kc pm an j5 ct a
def ba2 {ps:List Str} (h:∀ (x:Str) (kV kc pm:Value) (an:Option Addr) (j5 ct:Value) (a b:Value),bindArgs (PySem.W.fnOf x q (Xi st) (Yv st) (Zh st) .none kV kc pm an j5 ct) ⟨[a,b],[]⟩=pure (ps.zip [a,b])) (hl:ps.length=2):BA q st ps:=λx kV kc pm an j5 ct us e=>by
 rw [hl] at e;obtain ⟨a,b,rfl⟩:=Zhv e;exact h x kV kc pm an j5 ct a b
def ba3 {ps:List Str} (h:∀ (x:Str) (kV kc pm:Value) (an:Option Addr) (j5 ct:Value) (a b c:Value),bindArgs (PySem.W.fnOf x q (Xi st) (Yv st) (Zh st) .none kV kc pm an j5 ct) ⟨[a,b,c],[]⟩=pure (ps.zip [a,b,c])) (hl:ps.length=3):BA q st ps:=λx kV kc pm an j5 ct us e=>by
 rw [hl] at e;obtain ⟨a,b,c,rfl⟩:=Zct e;exact h x kV kc pm an j5 ct a b c
def ba4 {q:Str} {st:Stmt} {ps:List Str} (h:∀ (x:Str) (kV kc pm:Value) (an:Option Addr) (j5 ct:Value) (a b c d:Value),bindArgs (PySem.W.fnOf x q (Xi st) (Yv st) (Zh st) .none kV kc pm an j5 ct) ⟨[a,b,c,d],[]⟩=pure (ps.zip [a,b,c,d])) (hl:ps.length=4):BA q st ps:=λx kV kc pm an j5 ct us e=>by
 rw [hl] at e;obtain ⟨a,us,rfl⟩:=exists_cons_of_length_eq_add_one e;obtain ⟨b,c,d,rfl⟩:=Zct (Nat.succ.inj e);exact h x kV kc pm an j5 ct a b c d
def ba5 {q:Str} {st:Stmt} {ps:List Str} (h:∀ (x:Str) (kV kc pm:Value) (an:Option Addr) (j5 ct:Value) (a b c d e:Value),bindArgs (PySem.W.fnOf x q (Xi st) (Yv st) (Zh st) .none kV kc pm an j5 ct) ⟨[a,b,c,d,e],[]⟩=pure (ps.zip [a,b,c,d,e])) (hl:ps.length=5):BA q st ps:=λx kV kc pm an j5 ct us e=>by
 rw [hl] at e
 match us,e with
 | [a,b,c,d,e],_=>exact h x kV kc pm an j5 ct a b c d e
section
variable {K:W.Frag} {h:Heap} {mg:Str->Option Value} {C:Addr} {x q:Str} {st:Stmt} {ps:List Str} {f:Addr} {oc:Value} {od an:Option Addr} {sl:Array (Option Value)} {kV kc pm cd ct:Value}
def FT.of (X:K.In h) (G:h.Ns mainGlobals mg) (B:BA x st ps) (a:PySem.W.nsIn K mainGlobals x=some (some (.ref f))) (l:K.lookup f=some ⟨oc,od,.func (PySem.W.fnOf x x (Xi st) (Yv st) (Zh st) .none kV kc pm an cd ct),sl⟩)
  (c:PySem.W.codeIn K cd x=true) (k:PySem.W.keepIn K (.ref f)=true):FT K mg x st ps f (PySem.W.fnOf x x (Xi st) (Yv st) (Zh st) .none kV kc pm an cd ct):=⟨Zav l c k,(Zav l c k).binds (B x),PySem.W.mg_of X G a⟩
def FM.of (B:BA q st ps) (a:PySem.W.findIn K (.ref C) x=some (some (.ref f))) (i:PySem.W.isFn K (.ref f)=true) (l:K.lookup f=some ⟨oc,od,.func (PySem.W.fnOf x q (Xi st) (Yv st) (Zh st) .none kV kc pm an cd ct),sl⟩)
  (c:PySem.W.codeIn K cd q=true) (k:PySem.W.keepIn K (.ref f)=true):FM K C x q st ps f (PySem.W.fnOf x q (Xi st) (Yv st) (Zh st) .none kV kc pm an cd ct):=⟨Zav l c k,(Zav l c k).binds (B x),⟨a,i,k⟩⟩
end
def top (i:Nat):Stmt:=PySem.Challenge.pw_tentloops_k64_hall_strangers.main.body.getD i (.Pass ⟨0,0,0,0⟩)
abbrev Zhi:Stmt:=top 23
abbrev Zet:Stmt:=top 24
abbrev Zab:Stmt:=top 25
abbrev F6:Stmt:=top 26
abbrev F8:Stmt:=top 27
abbrev Gw:Stmt:=Yq (top 28) 0
abbrev Gu:Stmt:=Yq (top 28) 1
abbrev Kg:Stmt:=Yq (top 28) 3
abbrev Qt:Stmt:=Yq (top 28) 4
abbrev Vk:Stmt:=Yq (top 28) 5
abbrev Qs:Stmt:=Yq (top 28) 6
abbrev Uo:Stmt:=Yq (top 28) 7
abbrev Ou:Stmt:=Yq (top 28) 8
abbrev Gv:Stmt:=Yq (top 28) 9
abbrev Um:Stmt:=Yq (top 28) 10
abbrev Gs:Stmt:=top 37
abbrev Zck:Stmt:=top 38
abbrev Zhf:Stmt:=top 39
abbrev Om:Stmt:=top 40
abbrev Zac:Stmt:=top 41
abbrev Zej:Stmt:=top 42
abbrev Ke:Stmt:=top 43
abbrev Zhg:Stmt:=top 44
abbrev Zhh:Stmt:=top 45
abbrev Zem:Stmt:=top 46
abbrev Zce:Stmt:=top 47
abbrev Uj:Stmt:=top 51
abbrev Op:Stmt:=top 52
abbrev Oo:Stmt:=top 55
abbrev Ot:Stmt:=top 56
abbrev Ul:Stmt:=top 57
abbrev Kf:Stmt:=top 58
abbrev Zek:Stmt:=top 59
abbrev Vj:Stmt:=top 64
abbrev V0:Stmt:=top 65
abbrev Zaa:Stmt:=top 66
abbrev Kd:Stmt:=top 67
abbrev Oq:Stmt:=top 68
abbrev Vy:Stmt:=top 69
abbrev Uk:Stmt:=top 72
abbrev Ol:Stmt:=top 73
abbrev Zhe:Stmt:=top 74
abbrev Zcd:Stmt:=top 80
abbrev Zcj:Stmt:=top 81
abbrev Zcl:Stmt:=top 82
abbrev F7:Stmt:=top 83
abbrev Os:Stmt:=top 84
abbrev Kh:Stmt:=Yq (top 88) 0
abbrev Gq:Stmt:=top 89
abbrev Ui:Stmt:=top 90
abbrev Vz:Stmt:=top 91
abbrev On:Stmt:=top 92
abbrev Zel:Stmt:=top 93
abbrev G1:Stmt:=Yq (top 95) 0
abbrev Ki:Stmt:=Yq (top 95) 1
abbrev Zad:Stmt:=Yq (top 95) 2
abbrev Gy:Stmt:=Yq (top 95) 3
abbrev G0:Stmt:=Yq (top 95) 4
abbrev Ov:Stmt:=Yq (top 95) 14
abbrev Gz:Stmt:=Yq (top 95) 15
abbrev Jm:Stmt:=Yq (top 95) 16
abbrev V1:Stmt:=Yq (top 95) 19
abbrev Gx:Stmt:=Yq (top 95) 20
abbrev Zes:Stmt:=top 97
abbrev Gr:Stmt:=top 98
abbrev Zeq:Stmt:=top 99
abbrev Zer:Stmt:=top 100
abbrev Zep:Stmt:=top 101
abbrev Zen:Stmt:=top 102
abbrev F9:Stmt:=top 103
abbrev Zcg:Stmt:=top 104
abbrev Zcf:Stmt:=top 105
abbrev Zkd:Stmt:=top 106
abbrev Zeo:Stmt:=top 107
abbrev Zch:Stmt:=top 108
abbrev Zci:Stmt:=top 109
abbrev Zn3:Stmt:=top 110
structure Adr where
 (aa ac ae ic gz eZ e7 e9 cg dW dj bo bG bp ci cJ dX cj dY fN ie cK fb gA dk ig ii gB fO ck cL cM cN cm dl gC bH bU fc dn cO bV cn cP ij fP fQ fR fg cQ bO dZ cp bW cR gu cq dq fh d0 cr aW bq aA aK br gD ed gE gF gG gH fi fS fU iD gI fV fW iS bX bI du iT gJ ik dg bc fj ak ee:Addr)
 (il gK fk fo fq eu eC dw bu bJ bv cu cS eE cv eF fX im cT ft gL dy ip iq gM fY cw cU cV cW cx dz gN bK bY fu dA cX bZ cy cY ir fZ f6 f7 fw cZ dB eG cz b6 c6 gv eI dC fA eJ cA aY bx aB aL bz gO eK gP gQ gR gS fB f8 f9 iE gT gc gf iF:FuncData)
 (eS dP eT fC iZ dD fK eU:Tok)
structure Txt (w:World) (K:W.Frag) (mg:Str->Option Value) (t:Adr):Prop where
 iM:mg "Tent"=some (.ref t.aa)
 aj:Cls K t.aa
 bC:Y7 K t.aa "cloths"
 av:Y7 K t.aa "names_at"
 aS:Y7 K t.aa "spots"
 dE:Y7 K t.aa "mates"
 dF:mg "Scene"=some (.ref t.ac)
 ag:Cls K t.ac
 ao:Y7 K t.ac "tent"
 am:Y7 K t.ac "threads"
 aq:Y7 K t.ac "pools"
 aD:Y7 K t.ac "worths"
 iN:mg "Hall"=some (.ref t.ae)
 af:Cls K t.ae
 bP:Y7 K t.ae "began"
 ah:Y7 K t.ae "scene"
 b9:Y7 K t.ae "standing"
 c7:Y7 K t.ae "undone"
 eX:FT K mg "after" Zhi ["place"] t.ic t.il
 fD:FT K mg "before" Zet ["place"] t.gz t.gK
 bg:FT K mg "cloth_of" Zab ["place"] t.eZ t.fk
 fE:FT K mg "spots_of" F6 ["names_at"] t.e7 t.fo
 fF:FT K mg "mates_of" F8 ["spots","count"] t.e9 t.fq
 eO:FM K t.aa "__init__" "Tent.__init__" Gw ["self","rows"] t.cg t.eu
 cB:FM K t.aa "rows" "Tent.rows" Gu ["self"] t.dW t.eC
 aT:FM K t.aa "seams" "Tent.seams" Kg ["self"] t.dj t.dw
 ay:FM K t.aa "all_places" "Tent.all_places" Qt ["self"] t.bo t.bu
 aE:FM K t.aa "has_place" "Tent.has_place" Vk ["self","place"] t.bG t.bJ
 az:FM K t.aa "look_place" "Tent.look_place" Qs ["self","place"] t.bp t.bv
 aI:FM K t.aa "seam_at" "Tent.seam_at" Uo ["self","place"] t.ci t.cu
 bD:FM K t.aa "places" "Tent.places" Ou ["self","seam"] t.cJ t.cS
 ar:FM K t.aa "mate" "Tent.mate" Gv ["self","place"] t.dX t.eE
 aJ:FM K t.aa "sort_of" "Tent.sort_of" Um ["self","seam"] t.cj t.cv
 eP:FT K mg "crossable" Gs ["tent","place"] t.dY t.eF
 gh:FT K mg "follows" Zck ["tent","ahead","place"] t.fN t.fX
 iu:FT K mg "plain" Zhf ["tent","word"] t.ie t.im
 aZ:FT K mg "look_thread" Om ["tent","word"] t.cK t.cT
 fG:FT K mg "backward" Zac ["tent","word"] t.fb t.ft
 dG:FT K mg "turned" Zej ["word","by"] t.gA t.gL
 bQ:FT K mg "least_turn" Ke ["word"] t.dk t.dy
 eY:FT K mg "least" Zhg ["tent","word"] t.ig t.ip
 dH:FT K mg "alike" Zhh ["tent","one","other"] t.ii t.iq
 gU:FT K mg "letter" Zem ["tent","ahead","place"] t.gB t.gM
 gj:FT K mg "letters" Zce ["tent","word"] t.fO t.fY
 cC:FT K mg "look_numbers" Uj ["tent","counts"] t.ck t.cw
 bE:FT K mg "look_counts" Op ["tent","counts"] t.cL t.cU
 c9:FT K mg "look_family" Oo ["tent","counts"] t.cM t.cV
 a6:FT K mg "across_seam" Ot ["tent","numbers","at"] t.cN t.cW
 bi:FT K mg "across_cloth" Ul ["numbers","at"] t.cm t.cx
 dJ:FT K mg "gone_round" Kf ["tent","numbers","start"] t.dl t.dz
 cD:FT K mg "traced" Zek ["tent","counts"] t.gC t.gN
 aV:FT K mg "common_measure" Vj ["one","other"] t.bH t.bK
 ce:FT K mg "look_fraction" V0 ["top","bottom"] t.bU t.bY
 fH:FT K mg "fraction" Zaa ["top","bottom"] t.fc t.fu
 bR:FT K mg "sewn_seams" Kd ["tent"] t.dn t.dA
 db:FT K mg "even_worths" Oq ["tent"] t.cO t.cX
 cf:FT K mg "lowest_worths" Vy ["tent","worths"] t.bV t.bZ
 cE:FT K mg "diagonal_sum" Uk ["crossed","turns"] t.cn t.cy
 dc:FT K mg "lowest_over" Ol ["top","factors"] t.cP t.cY
 dL:FT K mg "worth" Zhe ["tent","worths","word"] t.ij t.ir
 gk:FT K mg "made_of" Zcd ["text","signs"] t.fP t.fZ
 gl:FT K mg "is_name" Zcj ["text"] t.fQ t.f6
 dQ:FT K mg "figures" Zcl ["number"] t.fR t.f7
 bS:FT K mg "row_text" F7 ["words"] t.fg t.fw
 de:FT K mg "counts_text" Os ["counts"] t.cQ t.cZ
 aU:FM K t.ac "__init__" "Scene.__init__" Kh ["self","tent","threads","pools","worths"] t.bO t.dB
 cF:FT K mg "with_item" Gq ["table","name","value"] t.dZ t.eG
 bj:FT K mg "without_item" Ui ["table","name"] t.cp t.cz
 ba:FT K mg "look_new_name" Vz ["scene","name"] t.bW t.b6
 df:FT K mg "look_length" On ["word"] t.cR t.c6
 iO:FT K mg "look_parts" Zel ["parts"] t.gu t.gv
 eQ:FM K t.ae "__init__" "Hall.__init__" G1 ["self","rows"] t.cq t.eI
 aH:FM K t.ae "enter" "Hall.enter" Ki ["self","text","scene"] t.dq t.dC
 aP:FM K t.ae "lay" "Hall.lay" Zad ["self","name","word"] t.fh t.fA
 cG:FM K t.ae "pour" "Hall.pour" Gy ["self","name","counts"] t.d0 t.eJ
 aF:FM K t.ae "lift" "Hall.lift" G0 ["self","name"] t.cr t.cA
 ai:FM K t.ae "thread" "Hall.thread" Ov ["self","name"] t.aW t.aY
 aG:FM K t.ae "pool" "Hall.pool" Gz ["self","name"] t.bq t.bx
 aC:FM K t.ae "pool_threads" "Hall.pool_threads" Jm ["self","name"] t.aA t.aB
 aM:FM K t.ae "worth_of" "Hall.worth_of" V1 ["self","name"] t.aK t.aL
 aQ:FM K t.ae "same" "Hall.same" Gx ["self","one","other"] t.br t.bz
 bL:FT K mg "_law_cell" Zes ["_law_script","_law_at"] t.gD t.gO
 bA:FT K mg "_law_numbers" Gr ["_law_cell_here","_law_many"] t.ed t.eK
 gV:FT K mg "_law_sewn" Zeq ["_law_nums","_law_many","_law_share"] t.gE t.gP
 gW:FT K mg "_law_rows" Zer ["_law_mates","_law_start","_law_step"] t.gF t.gQ
 gX:FT K mg "_law_tent" Zep ["_law_script"] t.gG t.gR
 gY:FT K mg "_law_walk" Zen ["_law_mates","_law_nums"] t.gH t.gS
 fI:FT K mg "_law_thread" F9 ["_law_script","_law_at","_law_mates"] t.fi t.fB
 gm:FT K mg "_law_named" Zcg ["_law_rows_here","_law_counts"] t.fS t.f8
 gn:FT K mg "_law_tally" Zcf ["_law_mates","_law_word"] t.fU t.f9
 iG:FT K mg "_law_go" Zkd ["_law_hall","_law_door","_law_name","_law_thing"] t.iD t.iE
 bn:FT K mg "_law_told" Zeo ["_law_hall","_law_door","_law_name","_law_thing"] t.gI t.gT
 gr:FT K mg "_law_based" Zch ["_law_hall","_law_name"] t.fV t.gc
 bM:FT K mg "_law_asked" Zci ["_law_hall","_law_names","_law_threads","_law_families","_law_kept"] t.fW t.gf
 iU:FT K mg "law" Zn3 ["_law_script"] t.iS t.iF
 iP:Mk K t.aa t.cg
 dM:Mk K t.ac t.bO
 iQ:Mk K t.ae t.cq
 eV:mg "GREATEST_NAME"=some (.int 9999 t.eS)
 dR:mg "MOST_CROSSINGS"=some (.int 600 t.dP)
 eW:mg "SMALL_LETTERS"=some (.str (Str.ofString "abcdefghijklmnopqrstuvwxyz") t.eT)
 fJ:mg "LONGEST_NAME"=some (.int 8 t.fC)
 iH:mg "PART"=some (.int 1000000000000000000000000000000000000000000000000000000000000 t.iZ)
 iw:mg "WRITTEN_AT_ONCE"=some (.int 60 t.dD)
 fL:mg "MOST_PLACES"=some (.int 400 t.fK)
 iC:mg "GREATEST_PART"=some (.int 1000000000000000000000000000000000000000000000000000000000000 t.eU)
 iy:mg "CONTRARY_WAYS"=some (.ref t.bX)
 iz:Zoi w K t.bX [(Sum.inr "left",.str "right"),(Sum.inr "right",.str "left")]
 bl:∀ (s:Shared) (u:Value),BindsTo s t.iF ⟨[u],[]⟩ [("_law_script",u)]
 gw:mg "ValueError"=none
 iI:mg "all"=none
 iV:mg "any"=none
 g9:mg "dict"=none
 gZ:mg "enumerate"=none
 dO:mg "isinstance"=none
 au:mg "len"=none
 bF:mg "list"=none
 i9:mg "max"=none
 iW:mg "min"=none
 aO:mg "range"=none
 dh:mg "reversed"=none
 ja:mg "set"=none
 cH:mg "sorted"=none
 iX:mg "str"=none
 iJ:mg "sum"=none
 iR:mg "tuple"=none
 iK:mg "zip"=none
 hG:mg "NoPlace"=some (.ref t.bI)
 iA:ExcK K t.bI bmV "ValueError.__new__"
 iB:mg "NoSeam"=some (.ref t.du)
 iL:ExcK K t.du bmV "ValueError.__new__"
 jf:mg "Rim"=some (.ref t.iT)
 jg:ExcK K t.iT bmV "ValueError.__new__"
 i8:mg "Locked"=some (.ref t.gJ)
 jb:ExcK K t.gJ bmV "ValueError.__new__"
 jd:mg "NoWay"=some (.ref t.ik)
 je:ExcK K t.ik bmV "ValueError.__new__"
 g6:mg "NoThread"=some (.ref t.dg)
 hV:ExcK K t.dg bmV "ValueError.__new__"
 fM:mg "NoFraction"=some (.ref t.bc)
 gx:ExcK K t.bc bmV "ValueError.__new__"
 iY:mg "NoWorths"=some (.ref t.fj)
 i7:ExcK K t.fj bmV "ValueError.__new__"
 bT:mg "Unknown"=some (.ref t.ak)
 dU:ExcK K t.ak bmV "ValueError.__new__"
 gy:mg "TentError"=some (.ref t.ee)
 hX:PySem.W.kitOne K (.ref t.ak) (.type "ValueError")=some true
 di:PySem.W.exmOne K (.ref t.ak) (.ref t.ak)=some true
 cI:PySem.W.exmOne K (.ref t.ak) (.ref t.ee)=some true
def Same.add (s:Same H H1) (hp:H p=none):Same H (upd H1 p o):=λb u e=>by rw [Ze (Zl e hp)]; exact s b u e
def Same.new {H:Hp} {p:Addr} {o:HO} (hp:H p=none):Same H (upd H p o):=Same.add (Same.refl H) hp
def Zz (Post:St->Hp->Prop) (ht:∀ nx:St->Hp->Prop,(∀ σ H,Post σ H->nx σ H)->t { D with nx:=nx } σ H) (hu:∀ σ H,Post σ H->u D σ H):tSeq t u D σ H:=ht (u D) hu
def Zn (ht:∀ nx:St->Hp->Prop,(∀ σ H,u D σ H->nx σ H)->t { D with nx:=nx } σ H):tSeq t u D σ H:=ht (u D) λ_ _ h=>h
def Zfr (xs:List Int) (y:Int):xs.map V.int ++ [V.int y]=(xs ++ [y]).map V.int:=by simp
def getI {ns:List Int} (h:n < ns.length):(ns.map V.int)[n]?=some (V.int (ns.getD n 0)):=by
 rw [Ah,Ac h,Ad,Ac h];rfl
noncomputable def cell (ns:List Int) (n:Int):Int:=if n < ns.length then ns.getD n.toNat 0 else if ns.length=0 then 31 * n + 7 else ns.getD (n % ns.length).toNat 0 % 1000003 + 101 * n
def Zoz (K:W.Frag):Sp:=λvs H Q _=>∃ (a:Addr) (ns:List Int) (n:Int),vs=[.ref a,.int n]/\SqL K H a (ns.map V.int)/\ns.length<=63/\0<=n/\n < 1000000/\Q (.int (cell ns n)) H
def Zij:Sp:=λvs H Q _=>∃ (c:Int) (n:Nat),vs=[.int c,.int n]/\n<=60/\∀ (p:Addr) (xs:List Int) (H':Hp),Same H H'->H p=none->H' p=some (.lst (xs.map V.int))->xs.length=n->(∀ x∈xs,0<=x/\x < 1009)->Q (.ref p) H'
section
variable {P:Program} {w:World} {K:W.Frag} {mg:Str->Option Value} {base:Heap} {t:Adr}
def Zkb:FnScope ["_law_script","_law_at"] ["_law_script","_law_at"] (Zh Zes):=Am
def Qf (T:Txt w K mg t):FnOk P w K mg base (CXr P w) 1 t.gD t.gO ["_law_script","_law_at"] (Zoz K):=by
 refine T.bL.F.aR Zkb (a:)
 ·obtain ⟨a,ns,n,rfl,hS,hl,h0,h1,k⟩:=h
  refine ⟨_,(Zd (Z2 (Zo J8 (pv 1) (v:) (Zs _)) (Zg (Zm (Ya Z4 (pv 0) (pv 1) (A:)))) Zx)
   (Zd (Z2 (Zo Yt (v:) Zf (Zs _)) (Zg (Zm (Zi Yr (Zi Wp Zf (pv 1)) Zf))) Zx)
   (Zg (Zm (Zi Yr (Zi Yh (Ya Z4 (pv 0) (Zi Yh (pv 1) (v:)) (A:)) Zf) (Zi Wp Zf (pv 1))))))),?_⟩;have el:((ns.map V.int).length:Int)=ns.length:=by simp
  refine ⟨_,Y,_,Y,a,_,Y,.inl hS,_,_,Y,Y,_,Y,?_⟩;rw [el];refine ite2 (λh=>?_) (λh=>?_)
  ·have h:n < ns.length:=by simpa using h
   have e:cell ns n=ns.getD n.toNat 0:=if_pos h;have en:n=(n.toNat:Int):=by lia
   have ei:atI (ns.map V.int) n=some (V.int (ns.getD n.toNat 0)):=by rw [en]; exact Xp (getI (n:=n.toNat) (by lia))
   rw [e] at k;exact ⟨_,Y,_,Y,a,_,_,_,Y,Y,hS,ei,k⟩
  ·have h:¬ n < ns.length:=by simpa using h
   have e:cell ns n=if ns.length=0 then 31 * n + 7 else ns.getD (n % ns.length).toNat 0 % 1000003 + 101 * n:=if_neg h
   refine ⟨_,Y,a,_,Y,.inl hS,Y,_,Y,?_⟩;rw [el];refine ite2 (λg=>?_) (λg=>?_)
   ·have g:ns.length=0:=by simpa using g
    refine ⟨_,Y,_,_,Y,Y,.inl ⟨by decide,by decide⟩,_,_,Y,Y,?_⟩;rw [if_pos g] at e;rw [e] at k; exact k
   ·have g:¬ ns.length=0:=by simpa using g
    have gp:(0:Int) < ns.length:=by lia
    rw [if_neg g] at e;have m0:=Int.emod_nonneg n (show (ns.length:Int)≠0 by lia);have m1:=Int.emod_lt_of_pos n gp;refine ⟨_,Y,_,Y,_,Y,a,_,Y,.inl hS,_,_,Y,Y,(by rw [el]; exact gp),a,_,_,_,Y,Y,hS,(?_:atI _ _=some (V.int (ns.getD (n % ns.length).toNat 0))),_,_,Y,Y,(by show (0:Int) < 1000003; decide),_,rfl,_,_,rfl,rfl,.inl ⟨by decide,by decide⟩,_,_,rfl,rfl,?_⟩
    ·rw [el]
     have en:n % (ns.length:Int)=((n % (ns.length:Int)).toNat:Int):=by lia
     rw [en];exact Xp (getI (by lia))
    ·rw [e] at k; exact k
def X1:FnScope ["_law_cell_here","_law_many","_law_row","_law_rest","_law_seed"] ["_law_cell_here","_law_many"] (Zh Gr):=Am
def Vp (T:Txt w K mg t):FnOk P w K mg base (CXr P w) 1 t.ed t.eK ["_law_cell_here","_law_many"] Zij:=by
 refine T.bA.F.aR X1 (a:)
 ·obtain ⟨c,n,rfl,hn60,k⟩:=h
  refine ⟨_,(Zd (Zp (i:=2) X1.nd Y (Or.inl Y) (Yn Zb))
   (Zd (Zp (i:=3) X1.nd rfl (f:) (Zi Wo (pv 0) (Zi Zri Zf Zf)))
   (Zd (Ju PassesOwn.never (PW.pt (Km (Zo Q1 (pv 3) Zf (Zs _)) (Up (Zo J8 (Zt Zu (by rfl) T.au PySem.boot_len (B:)) (pv 1) (Zs _))))) (Zd (Z3 (Xw PySem.F.plainAttrs_list PySem.F.slot_list_append PySem.F.type_list_append Y3 (pv 2) (Za (Zi Yh (pv 3) Zf) Zb)))
   (Zg (Zp (i:=3) X1.nd rfl (f:) (Zi Xo (pv 3) Zf)))))
   (Zd (Zp (i:=4) X1.nd rfl (f:) (Zi Yh (pv 0) Zf))
   (Zd (Ju PassesOwn.never (Zo J8 (Zt Zu (by rfl) T.au PySem.boot_len (B:)) (pv 1) (Zs _)) (Zd (Zp (i:=4) X1.nd rfl (f:) (Zi Yh (Zi Yr (Zi Yr (Zi Wp (pv 4) Zf) Zf) (Zt Zu (by rfl) T.au PySem.boot_len (B:))) Zf))
   (Zg (Z3 (Xw PySem.F.plainAttrs_list PySem.F.slot_list_append PySem.F.type_list_append Y3 (pv 2) (Za (Zi Yh (Zi Xo (Zi Yh (Zi Wp (pv 4) Zf) Zf) Zf) Zf) Zb))))))
   (Zg (Zm (pv 2)))))))),?_⟩;refine ⟨Az _,λr qt=>?_⟩;refine ⟨_,Y,_,_,Y,Y,⟨by decide,by decide,by decide⟩,_,_,Y,Y,?_⟩;show tSeq (O5 _ _) _ _ _ _;refine Zz (λσ H1=>∃ (xs:List Int) (jk:Int),σ=[some (.int c),some (.int n),some (.ref r),some (.int jk),none]/\Same H H1/\H1 r=some (.lst (xs.map V.int))/\xs.length<=n/\(∀ x∈xs,0<=x/\x < 1009)) (λnx jy=>?_) ?_
  ·refine ⟨λm σ H1=>∃ (xs:List Int) (jk:Int),m=n - xs.length/\σ=[some (.int c),some (.int n),some (.ref r),some (.int jk),none]/\Same H H1/\H1 r=some (.lst (xs.map V.int))/\xs.length<=n/\(∀ x∈xs,0<=x/\x < 1009),
    ⟨n,[],_,rfl,rfl,Same.new qt,Zc,Az _,λx hx=>absurd hx (by simp)⟩,?_⟩
   rintro m σ H1 ⟨xs,jk,rfl,rfl,sm,h1,hl,hx⟩;have el:((xs.map V.int).length:Int)=xs.length:=by simp
   refine ⟨_,Y,_,_,Y,Y,_,Y,?_⟩;refine ite2 (λ_=>?_) (λ_=>?_)
   ·refine ⟨_,Y,r,_,Y,.inl (SqL.of h1),_,Y,_,_,Y,Y,_,Y,?_⟩
    rw [el];refine ite2 (λg=>?_) (λ_=>?_)
    ·have g:(xs.length:Int) < n:=by simpa using g
     refine ⟨_,λσ' H' h=>h,?_⟩;refine ⟨_,Y,.inl ⟨Y,_,SqL.of h1⟩,_,Y,_,_,Y,Y,(by show (0:Int) < 1009; decide),r,_,_,rfl,rfl,h1,(by rw [Ab]; exact Zv (by lia)),?_⟩;refine ⟨_,Y,_,_,Y,Y,⟨by decide,by decide⟩,?_⟩;refine ⟨n - (xs ++ [jk % 1009]).length,?_,xs ++ [jk % 1009],_,Y,Y,Same.add sm qt,?_,?_,?_⟩
     ·rw [Ae,At]; lia
     ·rw [Zc,<- Zfr]
     ·rw [Ae,At]; lia
     ·intro x hm
      rcases mem_append.mp hm with z | z
      ·exact hx x z
      ·have:x=jk % 1009:=by simpa using z
       subst this;lia
    ·exact jy _ _ ⟨xs,jk,Y,sm,h1,hl,hx⟩
   ·exact jy _ _ ⟨xs,jk,Y,sm,h1,hl,hx⟩
  rintro σ H1 ⟨xs,jk,rfl,sm,h1,hl,hx⟩;refine ⟨_,Y,_,_,Y,Y,(by show (0:Int) < 2147483629; decide),?_⟩;show tSeq (O5 _ _) _ _ _ _;refine Zz (λσ H1=>∃ (xs:List Int) (jk o4:Int),σ=[some (.int c),some (.int n),some (.ref r),some (.int jk),some (.int o4)]/\Same H H1/\H1 r=some (.lst (xs.map V.int))/\xs.length=n/\(∀ x∈xs,0<=x/\x < 1009)) (λnx jy=>?_) ?_
  ·refine ⟨λm σ H1=>∃ (xs:List Int) (jk o4:Int),m=n - xs.length/\σ=[some (.int c),some (.int n),some (.ref r),some (.int jk),some (.int o4)]/\Same H H1/\H1 r=some (.lst (xs.map V.int))/\xs.length<=n/\(∀ x∈xs,0<=x/\x < 1009),
    ⟨n - xs.length,xs,jk,_,rfl,rfl,sm,h1,hl,hx⟩,?_⟩
   clear h1 hl hx sm xs jk;rintro m σ H1 ⟨xs,jk,o4,rfl,rfl,sm,h1,hl,hx⟩;have el:((xs.map V.int).length:Int)=xs.length:=by simp
   refine ⟨_,Y,r,_,Y,.inl (SqL.of h1),_,Y,_,_,Y,Y,_,Y,?_⟩;rw [el];refine ite2 (λg=>?_) (λg=>?_)
   ·have g:(xs.length:Int) < n:=by simpa using g
    refine ⟨_,λσ' H' h=>h,?_⟩;refine ⟨_,Y,_,_,Y,Y,.inr ⟨by decide,by decide⟩,_,_,Y,Y,_,Y,r,_,Y,.inl (SqL.of h1),_,_,Y,Y,_,_,Y,Y,(by show (0:Int) < 2147483647; decide),?_⟩;obtain ⟨y,hy⟩:∃ y,y=(o4 * 48271 + 12345 + ((xs.map V.int).length:Int)) % 2147483647 * 69621 % 2147483629 / 7 % 1009:=⟨_,rfl⟩;refine ⟨_,Y,.inl ⟨Y,_,SqL.of h1⟩,_,Y,_,_,Y,Y,.inr ⟨by decide,by decide⟩,_,_,Y,Y,(by show (0:Int) < 2147483629; decide),_,_,rfl,rfl,⟨by decide,by decide⟩,_,_,rfl,rfl,(by show (0:Int) < 1009; decide),r,_,_,rfl,rfl,h1,(by rw [Ab]; exact Zv (by lia)),?_⟩;refine ⟨n - (xs ++ [y]).length,?_,xs ++ [y],_,_,Y,Y,Same.add sm qt,?_,?_,?_⟩
    ·rw [Ae,At]; lia
    ·rw [Zc,<- Zfr,hy]
    ·rw [Ae,At]; lia
    ·intro x hm
     rcases mem_append.mp hm with z | z
     ·exact hx x z
     ·have:x=y:=by simpa using z
      rw [this,hy];exact ⟨Int.emod_nonneg _ (d:),Int.emod_lt_of_pos _ (d:)⟩
   ·have g:¬ (xs.length:Int) < n:=by simpa using g
    exact jy _ _ ⟨xs,jk,o4,Y,sm,h1,by lia,hx⟩
  rintro σ H1 ⟨xs,jk,o4,rfl,sm,h1,hl,hx⟩;exact ⟨_,Y,k r xs H1 sm qt h1 hl hx⟩
def Zov (K:W.Frag):Sp:=λvs H Q _=>∃ (a:Addr) (xs:List Int) (n:Nat) (sh:Int),vs=[.ref a,.int n,.int sh]/\H a=some (.lst (xs.map V.int))/\xs.length=60/\(∀ x∈xs,0<=x/\x < 1009)/\1<=n/\n<=14 /\
 ∀ (p:Addr) (M:Lw) (H':Hp),Same H H'->H p=none->H' p=some (.lst (M.map mV))->M.length=3 * n->(∀ (i j:Nat),M[i]?=some (some j)->M[j]?=some (some i)/\i≠j)->Q (.ref p) H'
def map_set {α:Type} (f:α->V) (l:List α) (i:Nat) (x:α):(l.map f).set i (f x)=(l.set i x).map f:=by rw [List.map_set]
def Vc (h:i < n):ixN n (i:Int)=some i:=by
 unfold ixN;simp;lia
theorem Zlj {α β:Type} (f:α->β):∀ (l:List α) (i:Nat),(l.map f).eraseIdx i=(l.eraseIdx i).map f
 | [],_=>rfl
 | _ :: _,0=>rfl
 | a :: r,i + 1=>by rw [map_cons,eraseIdx_cons_succ,Zlj f r i,eraseIdx_cons_succ,map_cons]
def natV (F:List Nat) (i:Nat):(F.map λ(j:Nat)=>V.int j)[i]?=(F[i]?).map λ(j:Nat)=>V.int j:=Ah ..
def X6:FnScope ["_law_nums","_law_many","_law_share","_law_mates","_law_free","_law_at","_law_one","_law_pick","_law_other"] ["_law_nums","_law_many","_law_share"] (Zh Zeq):=Am
def Zkw (T:Txt w K mg t):FnOk P w K mg base (CXr P w) 1 t.gE t.gP ["_law_nums","_law_many","_law_share"] (Zov K):=by
 refine T.gV.F.aR X6 (a:)
 ·obtain ⟨a,xs,n,sh,rfl,ha,hl,hx,h1,h2,k⟩:=h
  refine ⟨_,(Zd (Zp (i:=3) X6.nd Y (Or.inl Y) (Zi Zfc (Yn (Za Us Zb)) (Zi Wp Zf (pv 1))))
   (Zd (Zp (i:=4) X6.nd rfl (f:) (Kr rfl T.bF rfl T.aO rfl (Za (Zi Wp Zf (pv 1)) Zb)))
   (Zd (Zp (i:=5) X6.nd rfl (f:) Zf)
   (Zd (Ju PassesOwn.never (Zo Q1 (Zt Zu (by rfl) T.au PySem.boot_len (Za (pv 4) Zb)) Zf (Zs _)) (Zd (Zp (i:=6) X6.nd rfl (f:) (Xw PySem.F.plainAttrs_list PySem.F.slot_list_pop PySem.F.type_list_pop Zfo (pv 4) (Za Zf Zb)))
   (Zd (Zp (i:=7) X6.nd rfl (f:) (Ya Z4 (pv 0) (pv 5) (A:)))
   (Zd (Zp (i:=5) X6.nd rfl (f:) (Zi Yr (pv 5) Zf))
   (Zg (Z2 (Zo Zn6 (Zi Yh (pv 7) Zf) (pv 2) (Zs _)) (Zd (Zp (i:=8) X6.nd rfl (f:) (Xw PySem.F.plainAttrs_list PySem.F.slot_list_pop PySem.F.type_list_pop Zfo (pv 4) (Za (Zi Yh (Zi Xo (pv 7) Zf) (Zt Zu (by rfl) T.au PySem.boot_len (Za (pv 4) Zb))) Zb)))
   (Zd (Qe (pv 8) (Zag (pv 3) (pv 6) Jo))
   (Zg (Qe (pv 6) (Zag (pv 3) (pv 8) Jo))))) Zx))))))
   (Zg (Zm (pv 3))))))),?_⟩;refine ⟨(by show 1<=sizeLine; decide),λq hq=>?_⟩;refine ⟨_,Y,_,_,Y,Y,.inl ⟨by decide,by decide⟩,q,_,_,Y,Y,Zc,(by lia),(by lia),?_,λm hm=>?_⟩
  ·have:(3 * (n:Int)).toNat=3 * n:=by lia
   show 1 * (3 * (n:Int)).toNat<=sizeLine;rw [this,sizeLine_eq]; lia
  have eN:(3 * (n:Int)).toNat=3 * n:=by lia
  have eM:(List.replicate (3 * (n:Int)).toNat [V.non]).flatten=(List.replicate (3 * n) (none:Option Nat)).map mV:=by
   rw [eN,flatten_replicate_singleton,map_replicate];rfl
  refine ⟨_,Y,_,_,Y,Y,.inl ⟨by decide,by decide⟩,3 * n,(congrArg (λz=>[V.int z]) (by lia:(3 * (n:Int))=((3 * n:Nat):Int))),by lia,λf hf=>?_⟩;have vq:f≠m:=λz=>by rw [z,Zc] at hf; cases hf
  have pq:H m=none:=by
   have:m≠q:=λz=>by rw [z,Zc] at hm; cases hm
   rw [Ze this] at hm; exact hm
  have pz:H f=none:=by
   rw [Ze vq] at hf;have:f≠q:=λz=>by rw [z,Zc] at hf; cases hf
   rw [Ze this] at hf; exact hf
  have sm0:Same H (upd (upd (upd H q (.lst [.non])) m (.lst (List.replicate (3 * (n:Int)).toNat [V.non]).flatten)) f (.lst ((List.range (3 * n)).map λ(i:Nat)=>V.int i))):=Same.add (Same.add (Same.new hq) pq) pz;show tSeq (O5 _ _) _ _ _ _;refine Zz (λσ H1=>∃ (M:Lw) (v4 v5 v6 v7 v8:Option V),σ=[some (.ref a),some (.int n),some (.int sh),some (.ref m),v4,v5,v6,v7,v8]/\Same H H1/\H1 m=some (.lst (M.map mV))/\M.length=3 * n/\∀ (i j:Nat),M[i]?=some (some j)->M[j]?=some (some i)/\i≠j) (λnx jy=>?_) ?_
  ·refine ⟨λc σ H1=>∃ (F:List Nat) (M:Lw) (at':Nat) (v6 v7 v8:Option V),c=F.length/\σ=[some (.ref a),some (.int n),some (.int sh),some (.ref m),some (.ref f),some (.int at'),v6,v7,v8]/\Same H H1/\H1 m=some (.lst (M.map mV))/\H1 f=some (.lst (F.map λ(i:Nat)=>V.int i))/\SewOk (3 * n) F M/\at' + F.length<=3 * n,
    ⟨_,List.range (3 * n),List.replicate (3 * n) none,0,none,none,none,rfl,rfl,sm0,?_,Zc,SewOk.start _,by simp⟩,?_⟩
   ·rw [Ze vq.symm,Zc,eM]
   rintro c σ H1 ⟨F,M,at',v6,v7,v8,rfl,rfl,sm,g1,g2,hs,hat⟩;refine ⟨_,Y,f,_,Y,.inl (SqL.of g2),_,_,Y,Y,_,Y,?_⟩;rw [Ab];refine ite2 (λg=>?_) (λg=>?_)
   ·have g:1 < F.length:=by have:=of_decide_eq_true g; lia
    obtain ⟨one,F',rfl⟩:∃ one F',F=one :: F':=by
     cases F with
     | nil=>simp at g
     | cons a b=>exact ⟨a,b,Y⟩
    rw [length_cons] at g hat;refine ⟨_,λσ' H' h=>h,?_⟩;refine ⟨_,Y,.inl ⟨Y,_,SqL.of g2⟩,f,_,0,0,V.int one,Y,Y,g2,by decide,by decide,(by simp [seqIndex?]),Y,?_⟩;have e0:((one :: F').map λ(i:Nat)=>V.int i).eraseIdx 0=F'.map λ(i:Nat)=>V.int i:=rfl;rw [e0];have g2':(upd H1 f (.lst (F'.map λ(i:Nat)=>V.int i))) f=some (.lst (F'.map λ(i:Nat)=>V.int i)):=Zc;have g1':(upd H1 f (.lst (F'.map λ(i:Nat)=>V.int i))) m=some (.lst (M.map mV)):=by rw [Ze vq.symm]; exact g1
    have sm':Same H (upd H1 f (.lst (F'.map λ(i:Nat)=>V.int i))):=Same.add sm pz;generalize upd H1 f (.lst (F'.map λ(i:Nat)=>V.int i))=H2 at g1' g2' sm' ⊢;have rq:at' < xs.length:=by lia
    refine ⟨_,Y,_,Y,a,_,_,_,Y,Y,SqL.of (sm' _ _ ha),Xp (getI rq),?_⟩;obtain ⟨p0,p1⟩:=hx _ (getElem_mem rq);have ep:xs.getD at' 0=xs[at']:=by rw [Ad,Ac rq]; rfl
    rw [ep];generalize xs[at']=ml at p0 p1 ⊢;refine ⟨_,Y,_,_,Y,Y,?_⟩;refine ⟨_,Y,_,_,Y,Y,(by show (0:Int) < 7; decide),_,rfl,_,_,rfl,rfl,_,rfl,?_⟩;refine ite2 (λ_=>?_) (λ_=>?_)
    ·-- other=free.pop(..)
     have hF:(0:Int) < F'.length:=by lia
     have k0:=Int.emod_nonneg (ml / 7) (show (F'.length:Int)≠0 by lia);have k1:=Int.emod_lt_of_pos (ml / 7) hF;obtain ⟨kk,w5⟩:∃ kk:Nat,ml / 7 % (F'.length:Int)=kk:=⟨_,(Int.toNat_of_nonneg k0).symm⟩;have nq:kk < F'.length:=by lia
     refine ⟨_,Y,.inl ⟨Y,_,SqL.of g2'⟩,_,Y,_,_,Y,Y,⟨by decide,by decide⟩,_,Y,f,_,Y,.inl (SqL.of g2'),_,_,Y,Y,(by rw [Ab]; exact hF),f,_,_,kk,V.int F'[kk],Y,Y,g2',?_,?_,?_,?_,?_⟩
     ·rw [Ab,w5]; lia
     ·rw [Ab,w5]; lia
     ·rw [Ab,w5]; simp [seqIndex?]; lia
     ·rw [natV,Ac nq]; rfl
     have e1:(F'.map λ(i:Nat)=>V.int i).eraseIdx kk=(F'.eraseIdx kk).map λ(i:Nat)=>V.int i:=by rw [Zlj]
     rw [e1];have hp:=hs.pair (Ac nq);have l1:one < M.length:=by rw [hs.len]; exact (hs.free one mem_cons_self).1
     have l2:F'[kk] < M.length:=by rw [hs.len]; exact (hs.free _ (mem_cons_of_mem _ (getElem_mem nq))).1
     have g1'':(upd H2 f (.lst ((F'.eraseIdx kk).map λ(i:Nat)=>V.int i))) m=some (.lst (M.map mV)):=by rw [Ze vq.symm]; exact g1'
     refine ⟨_,Y,_,Y,_,Y,m,_,_,one,Y,Y,g1'',(by rw [Ab]; exact Vc l1),?_⟩;refine ⟨_,Y,_,Y,_,Y,m,_,_,F'[kk],Y,Y,Zc,(by rw [length_set,Ab]; exact Vc l2),?_⟩;refine ⟨(F'.eraseIdx kk).length,?_,F'.eraseIdx kk,(M.set one (some F'[kk])).set F'[kk] (some one),at' + 1,_,_,_,Y,Y,Same.add (Same.add (Same.add sm' pz) pq) pq,?_,?_,hp,?_⟩
     ·rw [length_eraseIdx_of_lt nq,length_cons]; lia
     ·rw [Zc]
      show some (HO.lst (((M.map mV).set one (mV (some F'[kk]))).set F'[kk] (mV (some one))))=_;rw [map_set,map_set]
     ·rw [Ze vq,Ze vq,Zc]
     ·rw [length_eraseIdx_of_lt nq]; lia
    ·exact ⟨F'.length,by rw [length_cons]; lia,F',M,at' + 1,_,_,_,rfl,rfl,sm',g1',g2',hs.skip,by lia⟩
   ·exact jy _ _ ⟨M,_,_,_,_,_,Y,sm,g1,hs.len,hs.inv⟩
  rintro σ H1 ⟨M,v4,v5,v6,v7,v8,rfl,sm,g1,vo,lw⟩;exact ⟨_,Y,k m M H1 sm pq g1 vo lw⟩
noncomputable def figS (i:Int):Str:=Txt.join (w:) [(Str.ofString (toString i))]
def Zip:Sp:=λvs H Q _=>∃ i:Int,vs=[.int i]/\0<=i/\i < 1000000000000000000000000000000000000000000000000000000000000/\∀ H',Same H H'->Q (.str (figS i)) H'
noncomputable def mdL (x y:Str):List Bool:=x.cps.toList.map λc=>Txt.contains y ⟨#[c]⟩
def Zik:Sp:=λvs H Q _=>∃ x y:Str,vs=[.str x,.str y]/\x.cps.all (· < 128)=true/\x.cps.size<=900/\∀ H',Same H H'->Q (.bl ((mdL x y).all id)) H'
def Ztk:(10:Int) ^ 60=1000000000000000000000000000000000000000000000000000000000000:=by decide
def Zsa:(2:Nat) ^ 200=1606938044258990275541962092341162602522202993782792835301376:=by decide
def Zh2 {i:Int} (h0:0<=i) (h1:i < 1000000000000000000000000000000000000000000000000000000000000):(Str.ofString (toString i)).length<=60:=PyProof.Rows.toString_length_le h0 (d:) (by rw [Ztk]; exact h1)
def Zm5 {x:Str} {g:TG} {tt:TT} {tb:TB} {R:St->Hp->Prop} {σ:St} {H:Hp} (Pv:Nat->St->Hp->Prop) (h0:Pv 0 σ H)
  (hs:∀ (i:Nat) c σ H,x.cps[i]?=some c->Pv i σ H->g (.str ⟨#[c]⟩) σ H λσ2 H2=>tt σ2 H2 λb H3=>if b=true then tb σ2 H3 (Pv (i + 1)) else Pv (i + 1) σ2 H3) (hd:∀ σ H,Pv x.cps.size σ H->R σ H):Wv (Its x) g tt tb R σ H:=by
 refine ⟨λi m σ H=>m=x.cps.size - i/\i<=x.cps.size/\Pv i σ H,⟨x.cps.size,by simp,Az _,h0⟩,?_⟩;rintro i m σ H ⟨rfl,hi,p⟩;by_cases jw:i < x.cps.size
 ·refine .inr ⟨jw,Pv (i + 1),λσ' H' p'=>⟨x.cps.size - (i + 1),by lia,Y,jw,p'⟩,λy H' z=>?_⟩
  obtain ⟨e,c,hc,ec⟩:=z;subst e ec;exact hs i c σ _ hc p
 ·have e:i=x.cps.size:=by lia
  subst e;exact .inl ⟨An _,hd σ H p⟩
def U7:FnScope ["number","parts"] ["number"] (Zh Zcl):=Am
def Zak (T:Txt w K mg t):FnOk P w K mg base (CXr P w) 1 t.fR t.f7 ["number"] Zip:=by
 refine T.dQ.F.aR U7 (a:)
 ·obtain ⟨i,rfl,h0,h1,k⟩:=h
  have hu:=Y4 hr;refine ⟨_,(Zd (Zp (i:=1) U7.nd Y (Or.inl Y) (Yn Zb))
   (Zd (Ju PassesOwn.never (Zo Zn6 (pv 0) (Jw (v:=.int 1000000000000000000000000000000000000000000000000000000000000) rfl T.iH ⟨_,rfl⟩) (Zs _)) (Zd Zmq
   (Zg (Ze1 (i:=0) U7.nd rfl (f:) (Jw (v:=.int 1000000000000000000000000000000000000000000000000000000000000) rfl T.iH ⟨_,rfl⟩) Zfx))))
   (Zd (Z3 (Xw PySem.F.plainAttrs_list PySem.F.slot_list_append PySem.F.type_list_append Y3 (pv 1) (Za (Yz Zgb (by rfl) T.iX PySem.Pv.boot_str (Za (pv 0) Zb)) Zb)))
   (Zg (Zm (Zi0 rfl T.dh (by rfl) Zr (s:))))))),?_⟩
  refine Zn λjx ji=>?_;refine ⟨Az _,λp hp=>?_⟩;refine ji _ _ ?_;have s1:Same H (upd H p (.lst [])):=Same.new hp;have h2:(upd H p (.lst [])) p=some (.lst []):=Zc;generalize upd H p (.lst [])=H1 at s1 h2 ⊢
  try dsimp only [Zj]
  refine Zz (λσ H'=>σ=[some (.int i),some (.ref p)]/\H'=H1) (λnx jy=>?_) ?_
  ·refine ⟨λm σ H'=>σ=[some (.int i),some (.ref p)]/\H'=H1,⟨0,Y,Y⟩,?_⟩
   rintro m σ H' ⟨rfl,rfl⟩;refine ⟨_,Y,_,_,Y,Y,_,Y,?_⟩;rw [decide_eq_false (by lia)];exact iteF (jy _ _ ⟨Y,Y⟩)
  rintro σ H' ⟨rfl,rfl⟩;have xu:i.natAbs.log2 < 1920:=by
   rcases eq_zero_or_pos i.natAbs with z | z
   ·rw [z]; decide
   ·exact (Nat.log2_lt (by lia)).mpr (Ag (by rw [Zsa]; lia:i.natAbs < 2 ^ 200) (Nat.pow_le_pow_right (d:) (d:)))
  have jm:(Str.ofString (toString i)).length<=60:=Zh2 h0 h1;refine Zn λjx ji=>?_;refine ⟨_,Y,.inl ⟨Y,_,SqL.of h2⟩,_,Y,i,Y,xu,p,_,_,Y,Y,h2,Zv (d:),?_⟩;refine ji _ _ ?_;refine ⟨_,Y,_,Y,p,[(Str.ofString (toString i))],Y,SqL.of Zc,by decide,(by show ((Str.ofString (toString i)).length + 0) + 1<=1048576; lia),?_⟩;exact k _ (Same.add s1 hp)
def Zis:FnScope ["text","signs"] ["text","signs"] (Zh Zcd):=Am
def Zi3 (T:Txt w K mg t):FnOk P w K mg base (CXr P w) 1 t.fP t.fZ ["text","signs"] Zik:=by
 refine T.gk.F.aR Zis (a:)
 ·obtain ⟨x,y,rfl,hx,hz,k⟩:=h
  refine ⟨_,(Zg (Zm (Zt (Ft Y) (by rfl) T.iI PyProof.Rows.boot_all (Za (Yp (ts:=["sign"]) (fv:=[("signs",1)]) (b:) rfl (Zrf (pv 0)) (λ_ _ _ _=>(Zk (i:=0) (show List.Nodup (["sign","signs"]:List Str) from by decide +kernel) rfl (f:) (Or.inr rfl))) (λ_ _ _ _=>Yd) (λ_ _ _=>rfl) (λ_ _ _ _ _ _=>Yo (Wg Zrk (pv 0) (pv 1) (D:)))) Zb)))),?_⟩;refine ⟨_,Y,x,Y,hx,λD hD=>?_⟩;refine Zm5 (λi σ H6=>∃ v,σ=[v,some (.str y)]/\Same H H6/\H6 D=some (.lst (((mdL x y).take i).map V.bl))) ⟨none,Y,Same.new hD,Zc⟩ ?_ ?_
  ·rintro i c σ H6 hc ⟨v,rfl,s6,h6⟩
   have vp:i < x.cps.size:=(Array.getElem?_eq_some_iff.mp hc).1;have hm:(mdL x y)[i]?=some (Txt.contains y ⟨#[c]⟩):=by
    unfold mdL
    rw [Ah,Array.getElem?_toList,hc]
    rfl
   dsimp only [Zj,tYes];rw [if_pos rfl];refine ⟨_,Y,_,Y,_,_,Y,Y,_,h6,by rw [Ab,Ai]; exact Zv (by lia),_,Y,Same.add s6 hD,?_⟩;rw [Zc,Aw,hm,Aj];rfl
  ·rintro σ H6 ⟨v,rfl,s6,h6⟩
   have hl:(mdL x y).length=x.cps.size:=by unfold mdL; rw [Ab,Array.length_toList]
   rw [<- hl,take_length] at h6;exact ⟨D,_,Y,SqL.of h6,k _ s6⟩
def Q4 (Pv:Nat->St->Hp->Prop) (h0:Pv 0 σ H)
  (hs:∀ (i:Nat) σ H,i < n->Pv i σ H->g (.int (lo + i)) σ H λσ2 H2=>tt σ2 H2 λb H3=>if b=true then tb σ2 H3 (Pv (i + 1)) else Pv (i + 1) σ2 H3) (hd:∀ σ H,Pv n σ H->R σ H):Wv (Itr lo n) g tt tb R σ H:=by
 refine ⟨λi m σ H=>m=n - i/\i<=n/\Pv i σ H,⟨n,by simp,Az _,h0⟩,?_⟩;rintro i m σ H ⟨rfl,hi,p⟩;by_cases jw:i < n
 ·refine .inr ⟨jw,Pv (i + 1),λσ' H' p'=>⟨n - (i + 1),by lia,Y,jw,p'⟩,λx H' y=>?_⟩
  obtain ⟨e,y⟩:=y;subst e y;exact hs i σ _ jw p
 ·have e:i=n:=by lia
  subst e;exact .inl ⟨An _,hd σ H p⟩
def Yl {xs:List V} (Pv:Nat->St->Hp->Prop) (h0:Pv 0 σ H) (hl:∀ i σ H,i<=xs.length->Pv i σ H->SqL K H a xs)
  (hs:∀ (i:Nat) x σ H,xs[i]?=some x->Pv i σ H->g x σ H λσ2 H2=>tt σ2 H2 λb H3=>if b=true then tb σ2 H3 (Pv (i + 1)) else Pv (i + 1) σ2 H3) (hd:∀ σ H,Pv xs.length σ H->R σ H):Wv (Itl K a) g tt tb R σ H:=by
 refine (l:);rintro i m σ H ⟨rfl,hi,p⟩;have q:=hl i σ H hi p;by_cases jw:i < xs.length
 ·refine .inr ⟨⟨xs,xs[i],q,by simp [jw]⟩,Pv (i + 1),λσ' H' p'=>⟨xs.length - (i + 1),by lia,Y,jw,p'⟩,λx H' y=>?_⟩
  obtain ⟨e,y⟩:=y;subst e;exact hs i x σ _ (y xs q) p
 ·have e:i=xs.length:=by lia
  subst e;exact .inl ⟨⟨xs,q,An _⟩,hd σ H p⟩
def Fm {xs:List V} (Pv:Nat->St->Hp->Prop) (h0:Pv 0 σ H) (hl:∀ i σ H,i<=xs.length->Pv i σ H->SqT K H a xs)
  (hs:∀ (i:Nat) x σ H,xs[i]?=some x->Pv i σ H->g x σ H λσ2 H2=>tt σ2 H2 λb H3=>if b=true then tb σ2 H3 (Pv (i + 1)) else Pv (i + 1) σ2 H3) (hd:∀ σ H,Pv xs.length σ H->R σ H):Wv (Itt K a) g tt tb R σ H:=by
 refine (l:);rintro i m σ H ⟨rfl,hi,p⟩;have q:=hl i σ H hi p;by_cases jw:i < xs.length
 ·refine .inr ⟨⟨xs,xs[i],q,by simp [jw]⟩,Pv (i + 1),λσ' H' p'=>⟨xs.length - (i + 1),by lia,Y,jw,p'⟩,λx H' y=>?_⟩
  obtain ⟨e,y⟩:=y;subst e;exact hs i x σ _ (y xs q) p
 ·have e:i=xs.length:=by lia
  subst e;exact .inl ⟨⟨xs,q,An _⟩,hd σ H p⟩
noncomputable def row3 (ns:List Int) (k:Nat):List V:=[.int (ns.getD (3 * k) 0),.int (ns.getD (3 * k + 1) 0),.int (ns.getD (3 * k + 2) 0)]
def Y6 (H:Hp) (r:Addr) (ns:List Int):Prop:=∃ ts:List Addr,H r=some (.lst (ts.map V.ref))/\ns.length=3 * ts.length/\∀ (k:Nat) (t:Addr),ts[k]?=some t->H t=some (.tup (row3 ns k))
def Y6.same (h:Y6 H r ns) (s:Same H H'):Y6 H' r ns:=by
 obtain ⟨ts,h1,h2,h3⟩:=h;exact ⟨ts,s _ _ h1,h2,λk t e=>s _ _ (h3 k t e)⟩
def Zow:Sp:=λvs H Q _=>∃ (a:Addr) (M:Lw) (n:Nat) (st sp:Int),vs=[.ref a,.int st,.int sp]/\H a=some (.lst (M.map mV))/\M.length=3 * n/\1<=n/\n<=14/\(∀ (i j:Nat),M[i]?=some (some j)->M[j]?=some (some i)/\i≠j)/\sp∈U1 /\
 ∀ (p:Addr) (H':Hp),Same H H'->H p=none->Y6 H' p (flat M st sp)->Q (.ref p) H'
def Gm {t:Int} (h:t∈U1):-(2 ^ 64) < t/\t < 2 ^ 64:=by
 simp only [U1,mem_cons,not_mem_nil,or_false] at h
 rcases h with rfl | rfl | rfl | rfl | rfl | rfl | rfl | rfl <;> decide
def Zrs {M:Lw} {i:Nat} (h:i < M.length):atI (M.map mV) (0 + (i:Int))=some (mV M[i]):=by
 rw [Int.zero_add];exact Xp (by rw [Ah,Ac h]; rfl)
def Vw:FnScope ["_law_mates","_law_start","_law_step","_law_flat","_law_at","_law_mate"] ["_law_mates","_law_start","_law_step"] (Zh Zer):=Am
def Zkx (T:Txt w K mg t):FnOk P w K mg base (CXr P w) 1 t.gF t.gQ ["_law_mates","_law_start","_law_step"] Zow:=by
 refine T.gW.F.aR Vw (a:)
 ·obtain ⟨a,M,n,st,sp,rfl,ha,hM,h1,h2,hi,mh,k⟩:=h
  refine ⟨_,(Zd (Zp (i:=3) Vw.nd Y (Or.inr Y) (Yn Zb))
   (Zd (Xj PassesOwn.never rfl (X7 rfl T.aO (Za (v:) Zb)) (Zk (i:=4) Vw.nd rfl (f:)) (Zd (Zp (i:=5) Vw.nd rfl (f:) (Ya Z4 (pv 0) (pv 4) (A:)))
   (Zg (Z2 (PW.pt (Km (Zo K4 (pv 5) Us (Zs _)) (Up (Zo J8 (pv 5) (pv 4) (Zs _))))) (Zg (Z3 (Xw PySem.F.plainAttrs_list PySem.F.slot_list_append PySem.F.type_list_append Y3 (pv 3) (Za (Ya Z4 (pv 3) (pv 5) (A:)) Zb)))) (Zg (Z3 (Xw PySem.F.plainAttrs_list PySem.F.slot_list_append PySem.F.type_list_append Y3 (pv 3) (Za (Zi Yh (Zi Yr (pv 1) (Zi Wp (pv 2) (pv 4))) Zf) Zb))))))))
   (Zg (Zm (Yp (ts:=["_law_k"]) (fv:=[("_law_flat",3)]) (b:) rfl (X7 rfl T.aO (Za (Zi Xo (v:) Zf) Zb)) (λ_ _ _ _=>(Zk (i:=0) (show List.Nodup (["_law_k","_law_flat"]:List Str) from by decide +kernel) rfl (f:) (Or.inr rfl))) (λ_ _ _ _=>Yd) (λ_ _ _=>rfl) (λ_ _ _ _ _ _=>Yo (X3 (Za (Ya (J1 K) (pv 1) (Zi Wp Zf (pv 0)) (A:)) (Za (Ya (J1 K) (pv 1) (Zi Yr (Zi Wp Zf (pv 0)) Zf) (A:)) (Za (Ya (J1 K) (pv 1) (Zi Yr (Zi Wp Zf (pv 0)) Zf) (A:)) Zb)))))))))),?_⟩;refine ⟨Az _,λf hf=>?_⟩;have eL:(((M.map mV).length:Nat):Int).toNat=M.length:=by simp
  have ha1:(upd H f (.lst [])) a=some (.lst (M.map mV)):=by rw [Ze (Zl ha hf)]; exact ha
  dsimp only [Zj];show tSeq (tFor _ _ _) _ _ _ _;refine Zz (λσ H1=>∃ (v4 v5:Option V),σ=[some (.ref a),some (.int st),some (.int sp),some (.ref f),v4,v5]/\Same H H1/\H1 f=some (.lst ((flat M st sp).map V.int))) (λnx jy=>?_) ?_
  ·refine ⟨_,Y,a,_,Y,.inl (SqL.of ha1),_,Y,by lia,by rw [Ab]; lia,?_⟩
   rw [eL];refine Ql (n:=M.length) (λi σ H1=>∃ (v4 v5:Option V),σ=[some (.ref a),some (.int st),some (.int sp),some (.ref f),v4,v5]/\Same H H1/\H1 f=some (.lst (((List.range i).map λi=>nm st sp (rep M i)).map V.int))) ⟨none,none,Y,Same.new hf,Zc⟩ ?_ ?_
   ·rintro i σ H1 jw ⟨v4,v5,rfl,sm,ot⟩
    refine ⟨_,Y,_,Y,a,_,_,_,Y,Y,SqL.of (sm _ _ ha),Zrs jw,?_⟩;have kh:∀ x:Int,x=nm st sp (rep M i)->(upd H1 f (.lst (((List.range i).map λi=>nm st sp (rep M i)).map V.int ++ [V.int x]))) f=some (.lst (((List.range (i + 1)).map λi=>nm st sp (rep M i)).map V.int)):=λx hx=>by
     rw [Zc,hx,range_succ]
     simp
    have jm:(((List.range i).map λi=>nm st sp (rep M i)).map V.int).length < sizeLine:=by
     rw [Ab,Ab,length_range]; exact Zv (by lia)
    refine ⟨_,Y,Y,_,Y,?_⟩
    cases e:M[i] with
    | none =>
     have er:rep M i=i:=by unfold rep; rw [Ac jw,e]
     refine iteF ?_;refine iteF ?_;refine ⟨_,Y,.inl ⟨Y,_,SqL.of ot⟩,_,Y,_,Y,_,Y,_,_,Y,Y,.inl (Gm mh),_,_,Y,Y,_,_,Y,Y,(by show (0:Int) < 10000; decide),f,_,_,rfl,rfl,ot,jm,?_⟩;exact ⟨_,_,Y,Same.add sm hf,kh _ (by rw [er]; unfold nm; rw [Int.zero_add])⟩
    | some j =>
     have hMi:M[i]?=some (some j):=by rw [Ac jw,e]
     refine iteT ?_;refine ⟨_,Y,_,Y,_,_,Y,Y,_,Y,?_⟩;refine ite2 (λg=>?_) (λg=>?_)
     ·have g:j < i:=by have:=of_decide_eq_true g; lia
      have er:rep M i=j:=by unfold rep; rw [hMi]; exact if_pos g
      have erj:rep M j=j:=by unfold rep; rw [(hi i j hMi).1]; exact if_neg (by lia)
      have ej:atI (((List.range i).map λi=>nm st sp (rep M i)).map V.int) (j:Int)=some (V.int (nm st sp (rep M i))):=by
       refine Xp ?_;rw [Ah,Ah,getElem?_range g,er];show some (V.int (nm st sp (rep M j)))=_;rw [erj]
      refine ⟨_,Y,.inl ⟨Y,_,SqL.of ot⟩,_,Y,_,Y,f,_,_,_,Y,Y,SqL.of ot,ej,f,_,_,Y,Y,ot,jm,?_⟩;exact ⟨_,_,Y,Same.add sm hf,kh _ Y⟩
     ·have g:¬ j < i:=by
       have:¬ ((j:Int) < 0 + (i:Int)):=λz=>g (decide_eq_true z);lia
      have er:rep M i=i:=by unfold rep; rw [hMi]; exact if_neg g
      refine ⟨_,Y,.inl ⟨Y,_,SqL.of ot⟩,_,Y,_,Y,_,Y,_,_,Y,Y,.inl (Gm mh),_,_,Y,Y,_,_,Y,Y,(by show (0:Int) < 10000; decide),f,_,_,rfl,rfl,ot,jm,?_⟩;exact ⟨_,_,Y,Same.add sm hf,kh _ (by rw [er]; unfold nm; rw [Int.zero_add])⟩
   ·rintro σ H1 ⟨v4,v5,rfl,sm,ot⟩
    exact jy _ _ ⟨v4,v5,Y,sm,ot⟩
  rintro σ H1 ⟨v4,v5,rfl,sm,ot⟩;refine ⟨_,Y,a,_,Y,.inl (SqL.of (sm _ _ ha)),_,_,Y,Y,⟨by decide,by decide⟩,_,Y,by rw [Ab]; lia,by rw [Ab]; lia,λD hD=>?_⟩;have eD:((((M.map mV).length:Nat):Int) / 3).toNat=n:=by rw [Ab,hM]; lia
  have hD0:H D=none:=sm.free hD;have hfD:f≠D:=λz=>by rw [z] at ot; rw [hD] at ot; cases ot
  have hlf:(flat M st sp).length=3 * n:=by unfold flat; simp [hM]
  show Wv (Itr 0 ((((M.map mV).length:Nat):Int) / 3).toNat) _ _ _ _ _ _;rw [eD];refine Q4 (λi σ H2=>∃ (ts:List Addr) (v:Option V),σ=[v,some (.ref f)]/\Same H H2/\H2 D=some (.lst (ts.map V.ref))/\ts.length=i/\H2 f=some (.lst ((flat M st sp).map V.int))/\∀ (k:Nat) (t:Addr),ts[k]?=some t->H2 t=some (.tup (row3 (flat M st sp) k)))
   ⟨[],none,rfl,Same.add sm hD0,Zc,rfl,by rw [Ze hfD]; exact ot,λk t z=>by simp at z⟩ ?_ ?_
  ·rintro i σ H2 jw ⟨ts,v,rfl,yd,g1,kf,g2,g3⟩
   have at':∀ (c:Nat) (z:Int),c < 3->z=3 * (0 + (i:Int)) + c->atI ((flat M st sp).map V.int) z=some (V.int ((flat M st sp).getD (3 * i + c) 0)):=λc z hc hz=>by
    have e:z=((3 * i + c:Nat):Int):=by lia
    rw [e];exact Xp (getI (by lia))
   dsimp only [Zj,tYes];rw [if_pos rfl];refine ⟨_,Y,_,Y,_,_,Y,Y,.inl ⟨by decide,by decide⟩,f,_,_,_,Y,Y,SqL.of g2,at' 0 _ (d:) (by simp),?_⟩;refine ⟨_,Y,_,Y,_,_,Y,Y,.inl ⟨by decide,by decide⟩,_,_,Y,Y,f,_,_,_,Y,Y,SqL.of g2,at' 1 _ (d:) Y,?_⟩;refine ⟨_,Y,_,Y,_,_,Y,Y,.inl ⟨by decide,by decide⟩,_,_,Y,Y,f,_,_,_,Y,Y,SqL.of g2,at' 2 _ (d:) Y,?_⟩;refine ⟨(by show 3<=sizeLine; decide),λq hq=>?_⟩;have hqD:q≠D:=λz=>by rw [z,g1] at hq; cases hq
   have hqf:q≠f:=λz=>by rw [z,g2] at hq; cases hq
   have wt:H q=none:=yd.free hq;refine ⟨_,by rw [Ze (Ne.symm hqD)]; exact g1,(by rw [Ab]; exact Zv (by lia)),ts ++ [q],_,Y,Same.add (Same.add yd wt) hD0,?_,?_,?_,?_⟩
   ·rw [Zc]; simp
   ·rw [Ae,At,kf]
   ·rw [Ze hfD,Ze (Ne.symm hqf)]; exact g2
   ·intro k t z
    by_cases hk:k < ts.length
    ·rw [Av hk] at z
     have g:=g3 k t z;rw [Ze (λe=>by rw [e,g1] at g; cases g),Ze (Zl g hq)];exact g
    ·have hk2:k=ts.length:=by
      have:=(Aa z).1;rw [Ae,At] at this;lia
     subst hk2;have:t=q:=by simpa using z.symm
     subst this;rw [Ze hqD,Zc,kf];rfl
  ·rintro σ H2 ⟨ts,v,rfl,yd,g1,kf,g2,g3⟩
   exact k D H2 yd hD0 ⟨ts,g1,by rw [hlf,kf],g3⟩
noncomputable def isN (x:Str):Bool:=decide (1<=(x.length:Int)) && decide ((x.length:Int)<=8) && (mdL x (Str.ofString "abcdefghijklmnopqrstuvwxyz")).all id
def Zin:Sp:=λvs H Q _=>∃ x:Str,vs=[.str x]/\x.cps.all (· < 128)=true/\x.cps.size<=900/\∀ H',Same H H'->Q (.bl (isN x)) H'
noncomputable def wV:Str ⊕ Int->V
 | .inl x=>.str x
 | .inr i=>.int i
noncomputable def wS:Str ⊕ Int->Str
 | .inl x=>x
 | .inr i=>figS i
def wOk:Str ⊕ Int->Prop
 | .inl _=>True
 | .inr i=>0<=i/\i < 1000000000000000000000000000000000000000000000000000000000000
theorem Zj1 {B:Nat}:∀ {l:List (Str ⊕ Int)},(∀ x∈l,(wS x).length<=B)->((l.map wS).map (·.length)).sum<=B * l.length
 | [],_=>An _
 | x :: l,h=>by
  have h1:=h x mem_cons_self;have h2:=Zj1 (l:=l) λy hy=>h y (mem_cons_of_mem _ hy);rw [map_cons,map_cons,sum_cons,length_cons,Nat.mul_add];lia
def Zf4 {i:Int} (h0:0<=i) (h1:i < 1000000000000000000000000000000000000000000000000000000000000):(figS i).length<=60:=by
 have e:figS i=Str.ofString (toString i):=rfl;rw [e];exact Zh2 h0 h1
def Zqg (i:Int):Asc (figS i):=Asc.join λy hy=>by rw [Af hy]; exact Asc.num i
def Zgn:Sp:=λvs H Q _=>∃ (a:Addr) (ws:List (Str ⊕ Int)),vs=[.ref a]/\H a=some (.lst (ws.map wV))/\ws.length<=900/\(∀ x∈ws,wOk x)/\((ws.map wS).map (·.length)).sum + ws.length<=1048576/\∀ H',Same H H'->Q (.str (Txt.join (Str.ofString " ") (ws.map wS))) H'
def Ziu:FnScope ["text"] ["text"] (Zh Zcj):=Am
def Zi8 (T:Txt w K mg t):FnOk P w K mg base (CXr P w) 2 t.fQ t.f6 ["text"] Zin:=by
 refine T.gl.F.aR Ziu (a:)
 ·obtain ⟨x,rfl,hx,hz,k⟩:=h
  refine ⟨_,(Zg (Zm (Ze8 (Ze7 Zi2 Zi2 Zf (Zt Zgd (by rfl) T.au PySem.boot_len (Za (pv 0) Zb)) (Jw (v:=.int 8) Y T.fJ ⟨_,Y⟩)) (Ze6 (pcT (Zi3 T) hr T.gk (Za (pv 0) (Za (Jw (v:=.str (Str.ofString "abcdefghijklmnopqrstuvwxyz")) rfl T.eW ⟨_,rfl⟩) Zb))))))),?_⟩;have hs:x.length=x.cps.size:=rfl;refine ⟨_,Y,x,Y,by rw [sizeLine_eq]; lia,_,_,rfl,rfl,_,rfl,?_⟩;unfold isN at k;refine ite2 (λz=>?_) (λz=>?_)
  ·refine ⟨_,_,Y,Y,_,Y,?_⟩
   refine ite2 (λz2=>?_) (λz2=>?_)
   ·refine ⟨_,Y,x,_,Y,hx,hz,λH' s'=>?_⟩
    have:=k H' s';rw [z,z2,Bool.true_and,Bool.true_and] at this;exact this
   ·have:=k H (Same.refl _)
    rw [Bool.eq_false_iff.mpr z2,Bool.and_false,Bool.false_and] at this;exact this
  ·refine ⟨_,Y,iteF ?_⟩
   have:=k H (Same.refl _);rw [Bool.eq_false_iff.mpr z,Bool.false_and,Bool.false_and] at this;exact this
def Zgu:FnScope ["words"] ["words"] (Zh F7):=Am
def Ua (T:Txt w K mg t):FnOk P w K mg base (CXr P w) 2 t.fg t.fw ["words"] Zgn:=by
 refine T.bS.F.aR Zgu (a:)
 ·obtain ⟨a,ws,rfl,ha,hl,hw,u4,k⟩:=h
  refine ⟨_,(Zg (Zm (Xw PySem.F.plainAttrs_str PySem.F.slot_str_join PySem.F.type_str_join K7 Zr (Za (Yp (ts:=["word"]) (fv:=[]) (k:) rfl (Yj (pv 0)) (λ_ _ _ _=>(Zk (i:=0) (show List.Nodup (["word"]:List Str) from by decide +kernel) rfl (f:) (Or.inr rfl))) (λ_ _ _ _=>Yd) (λ_ _ _=>rfl) (λ_ _ _ _ _ _=>Yo (Vo (Qd (Zt (Zge K) (by rfl) T.dO PyProof.Rows.boot_isinstance (Za (pv 0) (Za (Zhr (v:=.ty "str") (by rfl) T.iX PySem.Pv.boot_str rfl) Zb)))) (pv 0) (pcT (Zak T) hr T.dQ (Za (pv 0) Zb))))) Zb)))),?_⟩;refine ⟨Y,_,Y,a,Y,⟨_,SqL.of ha⟩,λD hD=>?_⟩;refine Yl (xs:=ws.map wV) (λi σ H6=>∃ v,σ=[v]/\Same H H6/\H6 D=some (.lst (((ws.take i).map wS).map V.str))) ⟨none,Y,Same.new hD,Zc⟩ ?_ ?_ ?_
  ·rintro i σ H6 _ ⟨v,rfl,s6,_⟩
   exact SqL.of (s6 _ _ ha)
  ·rintro i y σ H6 hy ⟨v,rfl,s6,h6⟩
   rw [Ah] at hy;obtain ⟨x,hx,rfl⟩:=Option.map_eq_some_iff.mp hy;have vp:i < ws.length:=(Aa hx).1;have ok:=hw x (Au hx);have lt:(((ws.take i).map wS).map V.str).length < sizeLine:=by rw [Ab,Ab,Ai]; exact Zv (by lia)
   dsimp only [Zj,tYes];rw [if_pos rfl]
   cases x with
   | inl y =>
    refine ⟨_,Y,_,"str",_,true,rfl,TyOf.str y,Znd,_,rfl,iteT ?_⟩;refine ⟨_,Y,_,h6,lt,_,Y,Same.add s6 hD,?_⟩;rw [Zc,Aw,hx,Aj,Aj];rfl
   | inr j =>
    refine ⟨_,Y,_,"str",_,false,rfl,TyOf.int j,(by rfl),_,rfl,iteF ?_⟩;refine ⟨_,Y,j,Y,ok.1,ok.2,λH7 s7=>?_⟩;refine ⟨_,s7 _ _ h6,lt,_,Y,Same.add (s6.trans s7) hD,?_⟩;rw [Zc,Aw,hx,Aj,Aj];rfl
  ·rintro σ H6 ⟨v,rfl,s6,h6⟩
   rw [Ab,take_length] at h6;refine ⟨_,D,ws.map wS,Y,Y,SqL.of h6,by decide,?_,k _ s6⟩;rw [Ab];exact u4
def at4 (h0:0<=i) (h1:i < 4):∃ sh:Int,atI [V.int 0,V.int 0,V.int 1,V.int 3] i=some (V.int sh):=by
 obtain rfl | rfl | rfl | rfl:i=0\/i=1\/i=2\/i=3:=by lia
 all_goals exact ⟨_,Y⟩
def at8 (h0:0<=i) (h1:i < 8):∃ sp:Int,sp∈U1/\atI [V.int 1,V.int 3,V.int 7,V.int 9,V.int 37,V.int 1009,V.int 3333,V.int 9999] i=some (V.int sp):=by
 obtain rfl | rfl | rfl | rfl | rfl | rfl | rfl | rfl:i=0\/i=1\/i=2\/i=3\/i=4\/i=5\/i=6\/i=7:=by lia
 all_goals exact ⟨_,by decide,Y⟩
def Zou (K:W.Frag):Sp:=λvs H Q _=>∃ (a:Addr) (ns:List Int),vs=[.ref a]/\SqL K H a (ns.map V.int)/\ns.length<=63 /\
 ∀ (p m r:Addr) (M:Lw) (nv:List Int) (H':Hp),Same H H'->H' p=some (.tup [.ref m,.ref r])->H' m=some (.lst (M.map mV))->Y6 H' r nv->TD M nv->M.length<=42->H m=none->H r=none->Q (.ref p) H'
def X5:FnScope ["_law_script","_law_head","_law_many","_law_names","_law_share","_law_mates","_law_step"] ["_law_script"] (Zh Zep):=Am
def Zkv (T:Txt w K mg t):FnOk P w K mg base (CXr P w) 2 t.gG t.gR ["_law_script"] (Zou K):=by
 refine T.gX.F.aR X5 (a:)
 ·obtain ⟨a,ns,rfl,hS,hl,k⟩:=h
  refine ⟨_,(Zd (Zp (i:=1) X5.nd Y (Or.inl Y) (pcT (Qf T) hr T.bL (Za (pv 0) (Za Zf Zb))))
   (Zd (Zp (i:=2) X5.nd rfl (f:) (Zi Yr Zf (Zi Yh (pv 1) Zf)))
   (Zd (Z2 (Zo Yt (Zi Yh (Zi Xo (pv 1) Zf) Zf) Zf (Zs _)) (Zg (Zp (i:=2) X5.nd rfl (f:) (Zi Yr Zf (Zi Yh (Zi Xo (pv 1) Zf) Zf)))) Zx)
   (Zd (Zp (i:=3) X5.nd rfl (f:) (pcT (Qf T) hr T.bL (Za (pv 0) (Za Zf Zb))))
   (Zd (Zp (i:=4) X5.nd rfl (f:) (Ya Zfw (X3 (Za Zf (Za Zf (Za Zf (Za Zf Zb))))) (Zi Yh (pv 3) Zf) (A:)))
   (Zd (Zp (i:=5) X5.nd rfl (f:) (pcT (Zkw T) hr T.gV (Za (pcT (Vp T) hr T.bA (Za (pcT (Qf T) hr T.bL (Za (pv 0) (Za Zf Zb))) (Za Zf Zb))) (Za (pv 2) (Za (pv 4) Zb)))))
   (Zd (Zp (i:=6) X5.nd rfl (f:) (Ya Zfw (X3 (Za Zf (Za Zf (Za Zf (Za Zf (Za Zf (Za Zf (Za Zf (Za Zf Zb))))))))) (Zi Yh (Zi Xo (pv 3) Zf) Zf) (A:)))
   (Zg (Zm (X3 (Za (pv 5) (Za (pcT (Zkx T) hr T.gW (Za (pv 5) (Za (Zi Yh (Zi Xo (pv 3) Zf) Zf) (Za (pv 6) Zb)))) Zb)))))))))))),?_⟩;refine ⟨_,Y,a,ns,0,Y,hS,hl,by decide,by decide,?_⟩;generalize cell ns 0=hd;refine ⟨_,Y,_,_,Y,Y,(by show (0:Int) < 6; decide),_,_,rfl,rfl,?_⟩;dsimp only [Zj];show tSeq (tIfS _ _ _) _ _ _ _;refine Zz (λσ H1=>∃ n:Nat,1<=n/\n<=14/\σ=[some (.ref a),some (.int hd),some (.int n),none,none,none,none]/\H1=H) (λnx jy=>?_) ?_
  ·refine ⟨_,Y,_,_,Y,Y,⟨by decide,by decide⟩,_,_,Y,Y,(by show (0:Int) < 9; decide),rfl,_,rfl,?_⟩
   refine ite2 (λ_=>?_) (λ_=>?_)
   ·refine ⟨_,Y,_,_,Y,Y,⟨by decide,by decide⟩,_,_,Y,Y,(by show (0:Int) < 8; decide),_,_,rfl,rfl,?_⟩
    have e:(7 + hd / 54 % 8:Int)=((7 + (hd / 54 % 8).toNat:Nat):Int):=by lia
    exact jy _ _ ⟨7 + (hd / 54 % 8).toNat,by lia,by lia,by rw [<- e]; rfl,rfl⟩
   ·have e:(1 + hd % 6:Int)=((1 + (hd % 6).toNat:Nat):Int):=by lia
    exact jy _ _ ⟨1 + (hd % 6).toNat,by lia,by lia,by rw [<- e]; rfl,rfl⟩
  rintro σ H1 ⟨n,n1,n2,rfl,rfl⟩;refine ⟨_,Y,a,ns,2,Y,hS,hl,by decide,by decide,?_⟩;generalize cell ns 2=nam;refine ⟨(by show 4<=sizeLine; decide),λq hq=>?_⟩;have m4:0<=nam % 4/\nam % 4 < 4:=by lia
  obtain ⟨sh,esh⟩:=at4 m4.1 m4.2;refine ⟨_,Y,_,_,Y,Y,(by show (0:Int) < 4; decide),q,_,_,_,rfl,rfl,SqT.of Zc,esh,?_⟩;have s1:Same H1 (upd H1 q (.tup [V.int 0,V.int 0,V.int 1,V.int 3])):=Same.new hq;refine ⟨_,Y,a,ns,1,Y,s1.seq hS,hl,by decide,by decide,?_⟩;refine ⟨_,60,Y,by decide,λp xs H2 s2 hp h2 h60 hx=>?_⟩;refine ⟨_,Y,_,Y,p,xs,n,sh,Y,h2,h60,hx,n1,n2,λm M H3 s3 hm hM jm n8=>?_⟩;have s13:Same H1 H3:=(s1.trans s2).trans s3;have pq:H1 m=none:=(s1.trans s2).free hm;refine ⟨(by show 8<=sizeLine; decide),λq2 zx=>?_⟩;have m8:0<=nam / 4 % 8/\nam / 4 % 8 < 8:=by lia
  obtain ⟨sp,mh,esp⟩:=at8 m8.1 m8.2;refine ⟨_,Y,_,_,Y,Y,⟨by decide,by decide⟩,_,_,Y,Y,(by show (0:Int) < 8; decide),q2,_,_,_,rfl,rfl,SqT.of Zc,esp,?_⟩;have s14:Same H1 (upd H3 q2 (.tup [V.int 1,V.int 3,V.int 7,V.int 9,V.int 37,V.int 1009,V.int 3333,V.int 9999])):=Same.add s13 (s13.free zx);have hM4:(upd H3 q2 (.tup [V.int 1,V.int 3,V.int 7,V.int 9,V.int 37,V.int 1009,V.int 3333,V.int 9999])) m=some (.lst (M.map mV)):=by rw [Ze (Zl hM zx)]; exact hM
  refine ⟨_,Y,_,Y,_,Y,_,_,Y,Y,⟨by decide,by decide⟩,_,_,Y,Y,(by show (0:Int) < 10000; decide),_,rfl,m,M,n,_,sp,rfl,hM4,jm,n1,n2,n8,mh,λr H5 s5 hr5 hrow=>?_⟩;refine ⟨(by show 2<=sizeLine; decide),λp5 zz=>?_⟩;have s15:=s14.trans s5;have qt:H1 r=none:=s14.free hr5;refine k p5 m r M _ _ (Same.add s15 (s15.free zz)) Zc ?_ (hrow.same (Same.new zz)) (Zon n1 n2 jm n8 mh) (by lia) pq qt;rw [Ze (Zl (s5 _ _ hM4) zz)];exact s5 _ _ hM4
noncomputable def spk (ns:List Int) (n:Nat) (f:Int->Addr):List (Key × V):=(keys ns n).map λx=>((Sum.inl x:Key),V.ref (f x))
structure SpotsF (H:Hp) (ns:List Int) (n:Nat) (f:Int->Addr):Prop where
 inj:∀ x∈keys ns n,∀ y∈keys ns n,f x=f y->x=y
 at':∀ x∈keys ns n,H (f x)=some (.lst ((pl ns n x).map nV))
def Zgm:Sp:=λvs H Q _=>∃ (a:Addr) (M:Lw) (ns:List Int),vs=[.ref a]/\H a=some (.lst (ns.map V.int))/\TD M ns/\ns.length<=120 /\
 ∀ (d:Addr) (f:Int->Addr) (H':Hp),Same H H'->H d=none->H' d=some (.dK (spk ns ns.length f))->SpotsF H' ns ns.length f->(∀ x∈keys ns ns.length,H (f x)=none)->Q (.ref d) H'
def J7:FnScope ["names_at","spots","place","name"] ["names_at"] (Zh F6):=Am
def Zgx (T:Txt w K mg t):FnOk P w K mg base (CXr P w) 1 t.e7 t.fo ["names_at"] Zgm:=by
 refine T.fE.F.aR J7 (a:)
 ·obtain ⟨a,M,ns,rfl,ha,td,hl,k⟩:=h
  have hu:=Y4 hr;refine ⟨_,(Zd (Zp (i:=1) J7.nd Y (Or.inl Y) U8)
   (Zd (Xj PassesOwn.never rfl (Zpi rfl T.gZ (Za (pv 0) Zb)) (Ji rfl (Z0 (Zk (i:=2) J7.nd rfl (f:)) (Z0 (Zk (i:=3) J7.nd rfl (f:)) Xg))) (Zd (Z2 (PW.pt (Q0 (Zo J8 (pv 3) Zf (Zs _)) (Jh (Zo Q1 (pv 3) (Jw (v:=.int 9999) rfl T.eV ⟨_,rfl⟩) (Zs _))))) Yg Zx)
   (Zd (Z3 (Xw PySem.F.plainAttrs_list PySem.F.slot_list_append PySem.F.type_list_append Y3 (Zmu (pv 1) (pv 3) (Yn Zb) ⟨rfl,rfl,rfl,rfl⟩) (B:)))
   (Zg (Z2 (Zo Q1 (Zt Zu (by rfl) T.au PySem.boot_len (Za (Jc hu (pv 1) (pv 3) (A:)) Zb)) Zf (Zs _)) Yg Zx)))))
   (Zg (Zm (pv 1))))),?_⟩
  intro d hd;have hda:a≠d:=Zl ha hd;dsimp only [Zj];show tSeq (tFor _ _ _) _ _ _ _;refine Zz (λσ H1=>∃ (f:Int->Addr) (v2 v3:Option V),σ=[some (.ref a),some (.ref d),v2,v3]/\Same H H1/\H1 d=some (.dK (spk ns ns.length f))/\SpotsF H1 ns ns.length f/\∀ x∈keys ns ns.length,H (f x)=none) (λnx jy=>?_) ?_
  ·refine ⟨_,Y,a,Y,⟨_,SqL.of (by rw [Ze hda]; exact ha)⟩,?_⟩
   have el:(ns.map V.int).length=ns.length:=by simp
   refine Znl (xs:=ns.map V.int) (λi σ H1=>∃ (f:Int->Addr) (v2 v3:Option V),σ=[some (.ref a),some (.ref d),v2,v3]/\Same H H1/\H1 d=some (.dK (spk ns i f))/\SpotsF H1 ns i f/\∀ x∈keys ns i,H (f x)=none)
    ⟨λ_=>0,none,none,rfl,Same.new hd,Zc,⟨λx hx=>by simp [keys] at hx,λx hx=>by simp [keys] at hx⟩,λx hx=>by simp [keys] at hx⟩ ?_ ?_ ?_
   ·rintro i σ H1 _ ⟨f,v2,v3,rfl,sm,_⟩
    exact SqL.of (sm _ _ ha)
   ·rintro i x0 σ H1 q hx hq ⟨f,v2,v3,rfl,sm,ur,sf,pz⟩
    have hi:i < ns.length:=by rw [<- el]; exact (Aa hx).1
    obtain ⟨x,mf⟩:∃ x,ns[i]?=some x:=⟨_,Ac hi⟩;obtain rfl:x0=V.int x:=by rw [Ah,mf] at hx; exact (Ax hx).symm
    refine ⟨q,_,Y,SqT.of Zc,Y,_,_,Y,_,_,Y,Y,?_⟩;obtain ⟨x0,x1⟩:=td.rng i x mf;refine ⟨_,Y,_,_,Y,Y,_,Y,?_⟩;rw [decide_eq_false (by lia:¬ x < 0)];refine iteF ?_;refine ⟨_,Y,_,_,Y,Y,_,Y,?_⟩;rw [decide_eq_false (by lia:¬ x > 9999)];refine iteF ?_;have hdq:d≠q:=Zl ur hq;have nr:(upd H1 q (.tup [.int i,.int x])) d=some (.dK (spk ns i f)):=by rw [Ze hdq]; exact ur
    dsimp only [Wz];show tSeq (Zn1 _) _ _ _ _;refine Zz (λσ H2=>∃ (f:Int->Addr),σ=[some (.ref a),some (.ref d),some (.int i),some (.int x)]/\Same H H2/\H2 d=some (.dK (spk ns (i + 1) f))/\SpotsF H2 ns (i + 1) f/\∀ x∈keys ns (i + 1),H (f x)=none) (λnx2 hnx2=>?_) ?_
    ·refine ⟨_,Y,d,Y,.inl ⟨_,.inl nr⟩,_,Y,Az _,λl vo=>?_⟩
     obtain ⟨hlq,km⟩:=Wi vo;have vt:d≠l:=Zl ur km;have hd3:(upd (upd H1 q (.tup [.int i,.int x])) l (.lst [])) d=some (.dK (spk ns i f)):=by rw [Ze vt]; exact nr
     have hlk:(spk ns i f).length < sizeLine:=by unfold spk; rw [Ab]; exact Zv (by have:=Vs ns i; lia)
     have wt:H q=none:=sm.free hq;have hl0:H l=none:=sm.free km;have smq:Same H (upd (upd H1 q (.tup [.int i,.int x])) l (.lst [])):=Same.add (Same.add sm wt) hl0;have oq:(pl ns i x).length < sizeLine:=Zv (by have:=Ze4 td i x; lia);have lf:∀ b u,H1 b=some u->(upd (upd H1 q (.tup [.int i,.int x])) l (.lst [])) b=some u:=λb u e=>by rw [Ze (Zl e km),Ze (Zl e hq)]; exact e
     refine ⟨spk ns i f,Sum.inl x,hd3,hlk,Y,λv hv=>?_,λhv=>?_⟩
     ·-- the name stands already
      have sv:x∈keys ns i:=by
       unfold spk at hv;rw [Ja] at hv;by_cases c:x∈keys ns i
       ·exact c
       ·rw [if_neg c] at hv; cases hv
      obtain rfl:v=V.ref (f x):=by
       unfold spk at hv;rw [Ja,if_pos sv] at hv;exact (Ax hv).symm
      have ek:keys ns (i + 1)=keys ns i:=by rw [Xy mf,if_pos sv]
      have uo:=lf _ _ (sf.at' x sv);refine ⟨.inl ⟨Y,_,SqL.of uo⟩,_,Y,f x,_,_,Y,Y,uo,by rw [Ab]; exact oq,hnx2 _ _ ⟨f,Y,Same.add smq (pz x sv),?_,⟨?_,?_⟩,?_⟩⟩
      ·have:d≠f x:=λz=>by rw [<- z,hd3] at uo; cases uo
       rw [Ze this,hd3];unfold spk;rw [ek]
      ·rw [ek]; exact sf.inj
      ·intro y hy
       rw [ek] at hy;by_cases c:y=x
       ·subst c
        rw [Zc,Zhp mf,Aj];rfl
       ·have:f y≠f x:=λz=>c (sf.inj y hy x sv z)
        rw [Ze this,lf _ _ (sf.at' y hy),Ze3 (by rw [mf]; intro z; cases z; exact c Y)]
      ·rw [ek]; exact pz
     ·-- a new name
      have sv:x ∉ keys ns i:=by
       intro c;unfold spk at hv;rw [Ja,if_pos c] at hv;cases hv
      have ek:keys ns (i + 1)=keys ns i ++ [x]:=by rw [Xy mf,if_neg sv]
      have ep:putK (spk ns i f) (Sum.inl x) (V.ref l)=spk ns (i + 1) (λy=>if y=x then l else f y):=by
       unfold spk;rw [Zbk sv,ek,Aj];congr 1
       ·apply map_congr_left
        intro y hy;dsimp only;rw [if_neg (λ(z:y=x)=>sv (z ▸ hy))]
       ·simp
      rw [ep];have hl4:(upd (upd (upd H1 q (.tup [.int i,.int x])) l (.lst [])) d (.dK (spk ns (i + 1) (λy=>if y=x then l else f y)))) l=some (.lst []):=by rw [Ze (Ne.symm vt),Zc]
      refine ⟨.inl ⟨Y,_,SqL.of hl4⟩,_,Y,l,_,_,Y,Y,hl4,by decide,hnx2 _ _ ⟨λy=>if y=x then l else f y,Y,Same.add (Same.add smq hd) hl0,?_,⟨?_,?_⟩,?_⟩⟩
      ·rw [Ze vt,Zc]
      ·intro y hy z hz e
       rw [ek,mem_append,mem_singleton] at hy hz;by_cases c1:y=x
       ·by_cases c2:z=x
        ·rw [c1,c2]
        ·have wp:=hz.resolve_right c2
         simp only [c1,c2,if_true,if_false] at e;exact absurd (sf.at' z wp) (by rw [<- e,km]; intro w; cases w)
       ·have mo:=hy.resolve_right c1
        by_cases c2:z=x
        ·simp only [c1,c2,if_true,if_false] at e
         exact absurd (sf.at' y mo) (by rw [e,km]; intro w; cases w)
        ·have wp:=hz.resolve_right c2
         simp only [c1,c2,if_false] at e;exact sf.inj y mo z wp e
      ·intro y hy
       rw [ek,mem_append,mem_singleton] at hy;by_cases c:y=x
       ·subst c
        simp only [if_true];rw [Zc,Zhp mf,Zq9 sv];rfl
       ·have mo:=hy.resolve_right c
        have e1:=sf.at' y mo;have n1:f y≠l:=Zl e1 km;have n2:f y≠d:=λz=>by rw [z,ur] at e1; cases e1
        simp only [c,if_false];rw [Ze n1,Ze n2,lf _ _ e1,Ze3 (by rw [mf]; intro z; cases z; exact c Y)]
      ·intro y hy
       rw [ek,mem_append,mem_singleton] at hy;by_cases c:y=x
       ·simp only [c,if_true]; exact hl0
       ·simp only [c,if_false]; exact pz y (hy.resolve_right c)
    rintro σ H2 ⟨f',rfl,yd,hd4,sf2,hf2⟩;have hx3:x∈keys ns (i + 1):=Y9.mpr ⟨i,by lia,mf⟩;have hg:valV (spk ns (i + 1) f') (Sum.inl x)=some (V.ref (f' x)):=by unfold spk; rw [Ja,if_pos hx3]
    refine ⟨_,Y,_,Y,d,_,Y,?_,f' x,_,Y,.inl (SqL.of (sf2.at' x hx3)),_,_,Y,Y,_,Y,?_⟩
    ·exact .inl ⟨_,Sum.inl x,.inl hd4,Y,hg.symm⟩
    have h2:=Ze4 td (i + 1) x;rw [decide_eq_false (by rw [Ab]; lia:¬ ((((pl ns (i + 1) x).map nV).length:Nat):Int) > 2)];refine iteF ?_;exact ⟨f',_,_,Y,yd,hd4,sf2,hf2⟩
   ·rintro σ H1 ⟨f,v2,v3,rfl,sm,ur,sf,pz⟩
    rw [el] at ur sf pz;exact jy _ _ ⟨f,v2,v3,Y,sm,ur,sf,pz⟩
  rintro σ H1 ⟨f,v2,v3,rfl,sm,ur,sf,pz⟩;exact ⟨_,Y,k d f H1 sm hd ur sf pz⟩
def Zgo:Sp:=λvs H Q _=>∃ (d:Addr) (M:Lw) (ns:List Int) (f:Int->Addr),vs=[.ref d,.int ns.length]/\H d=some (.dK (spk ns ns.length f))/\SpotsF H ns ns.length f/\TD M ns/\ns.length<=120 /\
 ∀ (m:Addr) (o:Obj) (H':Hp),(∀ b u,b≠d->H b=some u->H' b=some u)->H m=none->H' m=some (.lst (M.map mV))->H' d=some (.frz o (.dK (spk ns ns.length f)))->Q (.ref m) H'
def V8:FnScope ["spots","count","mates","pair"] ["spots","count"] (Zh F8):=Am
def Zgy (T:Txt w K mg t):FnOk P w K mg base (CXr P w) 1 t.e9 t.fq ["spots","count"] Zgo:=by
 refine T.fF.F.aR V8 (a:)
 ·obtain ⟨d,M,ns,f,rfl,hd,sf,td,hl,k⟩:=h
  refine ⟨_,(Zd (Zp (i:=2) V8.nd Y (Or.inl Y) (Zi Zfc (Yn (Za Us Zb)) (pv 1)))
   (Zd (Xj PassesOwn.never rfl (Zpg (pv 0) ⟨rfl,rfl,rfl⟩) (Zk (i:=3) V8.nd rfl (f:)) (Zg (Z2 (Zo Yt (Zt Zu (by rfl) T.au PySem.boot_len (Za (pv 3) Zb)) Zf (Zs _)) (Zd (Qe (Ya Z4 (pv 3) Zf (A:)) (Zag (pv 2) (Ya Z4 (pv 3) Zf (A:)) Jo))
   (Zg (Qe (Ya Z4 (pv 3) Zf (A:)) (Zag (pv 2) (Ya Z4 (pv 3) Zf (A:)) Jo)))) Zx)))
   (Zg (Zm (pv 2))))),?_⟩;refine ⟨(by show 1<=sizeLine; decide),λq hq=>?_⟩;refine ⟨_,Y,q,_,_,Y,Y,Zc,by lia,by lia,?_,λm hm=>?_⟩
  ·have:((ns.length:Nat):Int).toNat=ns.length:=by lia
   show 1 * ((ns.length:Nat):Int).toNat<=sizeLine;rw [this,sizeLine_eq]; lia
  obtain ⟨hmq,pq⟩:=Wi hm;have eM:(List.replicate ((ns.length:Nat):Int).toNat [V.non]).flatten=(part M ns []).map mV:=by
   have:((ns.length:Nat):Int).toNat=M.length:=by rw [<- td.len]; lia
   rw [this,flatten_replicate_singleton,Zmw td,map_replicate]
   rfl
  rw [eM];have hdm:d≠m:=Zl hd pq;have hdq:d≠q:=Zl hd hq;dsimp only [Zj];show tSeq (tFor _ _ _) _ _ _ _;refine Zz (λσ H1=>∃ (o:Obj) (v:Option V),σ=[some (.ref d),some (.int ns.length),some (.ref m),v]/\(∀ b u,b≠d->H b=some u->H1 b=some u)/\H1 m=some (.lst (M.map mV))/\H1 d=some (.frz o (.dK (spk ns ns.length f)))) (λnx jy=>?_) ?_
  ·refine ⟨_,Y,d,_,Y,.inl ⟨by rw [Ze hdm,Ze hdq]; exact hd,λo=>?_⟩⟩
   refine Znk (λj σ H1=>∃ (v:Option V),σ=[some (.ref d),some (.int ns.length),some (.ref m),v]/\(∀ b u,b≠d->H b=some u->H1 b=some u)/\H1 m=some (.lst ((part M ns ((keys ns ns.length).take j)).map mV))/\H1 d=some (.frz o (.dK (spk ns ns.length f))))
    ⟨none,rfl,λb u hb e=>?_,?_,Zc⟩ ?_ ?_ ?_
   ·rw [Ze hb,Ze (Zl e pq),Ze (Zl e hq)]; exact e
   ·rw [Ze (Ne.symm hdm),Zc]
    rfl
   ·rintro j σ H1 _ ⟨v,rfl,lf,h1,h2⟩
    exact h2
   ·rintro j k0 x0 σ H1 hk ⟨v,rfl,lf,h1,h2⟩
    obtain ⟨x,hx,rfl⟩:∃ x,(keys ns ns.length)[j]?=some x/\x0=V.ref (f x):=by
     unfold spk at hk;rw [Ah] at hk
     cases e:(keys ns ns.length)[j]? with
     | none=>rw [e] at hk; cases hk
     | some x=>rw [e] at hk; cases hk; exact ⟨x,Y,Y⟩
    have hm1:x∈keys ns ns.length:=Au hx;have et:(keys ns ns.length).take (j + 1)=(keys ns ns.length).take j ++ [x]:=by
     rw [Aw,hx]; rfl
    have uo:=sf.at' x hm1;have hfd:f x≠d:=λz=>by rw [z,hd] at uo; cases uo
    have t5:=lf _ _ hfd uo;dsimp only [Zj];refine ⟨_,Y,f x,_,Y,.inl (SqL.of t5),Y,_,Y,?_⟩
    rcases Fb td hm1 with ⟨a,e,ea,ma⟩ | ⟨a,b,nz,e,ea,eb,ma,mb⟩
    ·rw [e] at t5 ⊢
     refine iteF ?_;refine ⟨_,Y,lf,?_,h2⟩;rw [et,Zmv td e ma];exact h1
    ·rw [e] at t5 ⊢
     refine iteT ?_;have la:a < (part M ns ((keys ns ns.length).take j)).length:=by rw [Xz]; exact (Aa ma).1
     have lb:b < (part M ns ((keys ns ns.length).take j)).length:=by rw [Xz]; exact (Aa mb).1
     have vq:f x≠m:=Zl uo pq;refine ⟨_,Y,f x,_,_,_,Y,Y,SqL.of t5,Y,?_⟩;refine ⟨_,Y,_,Y,f x,_,_,_,Y,Y,SqL.of t5,Y,m,_,_,a,Y,Y,h1,(by rw [Ab]; exact Vc la),?_⟩;have hf2:(upd H1 m (.lst (((part M ns ((keys ns ns.length).take j)).map mV).set a (nV b)))) (f x)=some (.lst ([a,b].map nV)):=by rw [Ze vq]; exact t5
     refine ⟨_,Y,f x,_,_,_,Y,Y,SqL.of hf2,Y,?_⟩;refine ⟨_,Y,_,Y,f x,_,_,_,Y,Y,SqL.of hf2,Y,m,_,_,b,Y,Y,Zc,(by rw [length_set,Ab]; exact Vc lb),?_⟩;refine ⟨_,Y,λc u hc ec=>?_,?_,?_⟩
     ·have:c≠m:=Zl ec pq
      rw [Ze this,Ze this];exact lf c u hc ec
     ·rw [Zc,et,Zkr td e nz ma mb]
      show some (HO.lst ((((part M ns ((keys ns ns.length).take j)).map mV).set a (mV (some b))).set b (mV (some a))))=_;rw [map_set,map_set]
     ·rw [Ze hdm,Ze hdm]; exact h2
   ·rintro σ H1 ⟨v,rfl,lf,h1,h2⟩
    refine jy _ _ ⟨o,v,Y,lf,?_,h2⟩;have:(keys ns ns.length).take (spk ns ns.length f).length=keys ns ns.length:=by
     unfold spk; rw [Ab,take_length]
    rw [this,Zmx td] at h1;exact h1
  rintro σ H1 ⟨o,v,rfl,lf,h1,h2⟩;exact ⟨_,Y,k m o H1 lf pq h1 h2⟩
noncomputable def Xr (cl na sp mt:Addr):List (Str × V):=putF "mates" (.ref mt) (putF "spots" (.ref sp) (putF "names_at" (.ref na) (putF "cloths" (.ref cl) [])))
theorem Y8 (f:Str) (v:V):∀ fs:List (Str × V),(putF f v fs).length<=fs.length + 1
 | []=>by simp [putF]
 | (g,x) :: r=>by
  have:=Y8 f v r;unfold putF;split
  ·simp
  ·simp only [length_cons]; lia
def s_cn:¬ ("cloths":Str)="names_at":=by decide
def s_cs:¬ ("cloths":Str)="spots":=by decide
def s_cm:¬ ("cloths":Str)="mates":=by decide
def s_ns:¬ ("names_at":Str)="spots":=by decide
def s_nm:¬ ("names_at":Str)="mates":=by decide
def s_sm:¬ ("spots":Str)="mates":=by decide
def Zli (cl na sp mt:Addr):(Xr cl na sp mt).lookup ("cloths":Str)=some (.ref cl):=by
 unfold Xr; rw [Z1,if_neg s_cm,Z1,if_neg s_cs,Z1,if_neg s_cn,Z1,if_pos rfl]
def Fr (cl na sp mt:Addr):(Xr cl na sp mt).lookup ("names_at":Str)=some (.ref na):=by
 unfold Xr; rw [Z1,if_neg s_nm,Z1,if_neg s_ns,Z1,if_pos rfl]
def Fq (cl na sp mt:Addr):(Xr cl na sp mt).lookup ("spots":Str)=some (.ref sp):=by
 unfold Xr; rw [Z1,if_neg s_sm,Z1,if_pos rfl]
def Znm (cl na sp mt:Addr):(Xr cl na sp mt).lookup ("mates":Str)=some (.ref mt):=by
 unfold Xr; rw [Z1,if_pos rfl]
def Yu (cl na sp mt:Addr) {m:Str} (h:m≠"cloths"/\m≠"names_at"/\m≠"spots"/\m≠"mates":=by decide):(Xr cl na sp mt).lookup m=none:=by
 obtain ⟨h1,h2,h3,h4⟩:=h;unfold Xr; rw [Z1,if_neg h4,Z1,if_neg h3,Z1,if_neg h2,Z1,if_neg h1]; rfl
structure TentB (C:Addr) (H:Hp) (p:Addr) (M:Lw) (ns:List Int) (dx cl na sp mt:Addr) (o:Obj) (f:Int->Addr):Prop where
 ins:H p=some (.ins C dx (Xr cl na sp mt))
 rows:Y6 H cl ns
 names:H na=some (.lst (ns.map V.int))
 spots:H sp=some (.frz o (.dK (spk ns ns.length f)))
 mates:H mt=some (.lst (M.map mV))
 at':∀ x∈keys ns ns.length,H (f x)=some (.lst ((pl ns ns.length x).map nV))
def Zy (C:Addr) (H:Hp) (p:Addr) (M:Lw) (ns:List Int):Prop:=∃ dx cl na sp mt o f,TentB C H p M ns dx cl na sp mt o f
def Zy.same (h:Zy C H p M ns) (s:Same H H'):Zy C H' p M ns:=by
 obtain ⟨dx,cl,na,sp,mt,o,f,b⟩:=h;exact ⟨dx,cl,na,sp,mt,o,f,s _ _ b.ins,b.rows.same s,s _ _ b.names,s _ _ b.spots,s _ _ b.mates,λx hx=>s _ _ (b.at' x hx)⟩
def Zl8 {ns:List Int} {n:Nat} (h:ns.length=3 * n) (hk:k < n):(ns.take (3 * k)).map V.int ++ row3 ns k=(ns.take (3 * (k + 1))).map V.int:=by
 have e:ns.take (3 * (k + 1))=ns.take (3 * k) ++ [ns.getD (3 * k) 0,ns.getD (3 * k + 1) 0,ns.getD (3 * k + 2) 0]:=by
  have l0:3 * k < ns.length:=by lia
  have l1:3 * k + 1 < ns.length:=by lia
  have l2:3 * k + 2 < ns.length:=by lia
  have g:∀ i,i < ns.length->ns[i]?=some (ns.getD i 0):=λi hi=>by rw [Ad,Ac hi]; rfl
  rw [show 3 * (k + 1)=3 * k + 1 + 1 + 1 by lia,Aw,Aw,Aw,g _ l0,g _ l1,g _ l2,append_assoc,append_assoc];rfl
 rw [e,Aj];rfl
def Zd5 (C:Addr):Sp:=λvs H Q _=>∃ (p r dx:Addr) (M:Lw) (ns:List Int),vs=[.ref p,.ref r]/\H p=some (.ins C dx [])/\Y6 H r ns/\TD M ns/\ns.length<=120 /\
 ∀ (H':Hp),(∀ b u,b≠p->H b=some u->H' b=some u)->Zy C H' p M ns->Q .non H'
def Zeh:FnScope ["self","rows"] ["self","rows"] (Zh Gw):=Am
def Zfj (T:Txt w K mg t):FnOk P w K mg base (CXr P w) 2 t.cg t.eu ["self","rows"] (Zd5 t.aa):=by
  refine T.eO.F.aR Zeh (a:)
  · obtain ⟨p,r,dx,M,ns,rfl,hp,⟨ts,mv,hr2,hr3⟩,td,hl,k⟩:=h
    refine ⟨_,(Zd (Z2 (Wx (W8 (pv 1) (λ_=>rfl))) Yg Zx)
      (Zd (Xv (pv 0) (Yp (ts:=["row"]) (fv:=[]) (k:) rfl (Yj (pv 1)) (λ_ _ _ _=>(Zk (i:=0) (show List.Nodup (["row"]:List Str) from by decide +kernel) rfl (f:) (Or.inr rfl))) (λ_ _ _ _=>Yd) (λ_ _ _=>rfl) (λ_ _ _ _ _ _=>Yo (Yz (Zb1 K) (by rfl) T.iR PySem.Pv.boot_tuple (Za (pv 0) Zb)))) rfl)
      (Zd (Xv (pv 0) (Yp (ts:=["row","name"]) (fv:=[]) (k:) rfl (Yj (Zq (pv 0) rfl)) (λ_ _ _ _=>(Zk (i:=0) (show List.Nodup (["row","name"]:List Str) from by decide +kernel) rfl (f:) (Or.inr rfl))) (λ_ _ _ _=>Yd) (λ_ _ _=>rfl) (λ_ _ _ _ _ _=>Ze9 rfl rfl (Zbp K (pv 0)) (Zk (i:=1) (show List.Nodup (["row","name"]:List Str) from by decide +kernel) rfl (f:) (Or.inr rfl)) Yd (pv 1))) rfl)
      (Zd (Xv (pv 0) (pcT (Zgx T) hr T.fE (Za (Zq (pv 0) rfl) Zb)) rfl)
      (Zg (Xv (pv 0) (pcT (Zgy T) hr T.fF (Za (Zq (pv 0) rfl) (Za (Zt Zu (by rfl) T.au PySem.boot_len (Za (Zq (pv 0) rfl) Zb)) Zb))) rfl)))))),?_⟩;obtain ⟨n,n1,n2,hn⟩:=td.n;have hnn:ns.length=3 * n:=by rw [td.len,hn]
    have zr:ts.length=n:=by lia
    have hrp:r≠p:=λz=>by rw [z,hp] at mv; cases mv
    refine ⟨_,Y,true,.inl ⟨_,SqL.of mv,?_⟩,?_⟩
    · cases ts with
      | nil=>simp at zr; lia
      | cons _ _=>rfl
    refine iteF ?_;dsimp only [Wz];refine ⟨_,Y,r,Y,⟨_,SqL.of mv⟩,λD hD=>?_⟩;have hDp:D≠p:=λz=>by rw [z,hp] at hD; cases hD
    refine Yl (xs:=ts.map V.ref) (λi σ H1=>∃ (v:Option V),σ=[v]/\Same H H1/\H1 D=some (.lst ((ts.take i).map V.ref))) ⟨none,Y,Same.new hD,Zc⟩ ?_ ?_ ?_
    · rintro i σ H1 _ ⟨v,rfl,sm,h1⟩
      exact SqL.of (sm _ _ mv)
    · rintro i x σ H1 hx ⟨v,rfl,sm,h1⟩
      dsimp only [Zj,tYes];rw [if_pos rfl];obtain ⟨tt,ht,rfl⟩:=Z6 hx;refine ⟨_,Y,tt,_,Y,.inr ⟨SqT.of (sm _ _ (hr3 i tt ht)),_,h1,(by rw [Ab,Ai]; exact Zv (by lia)),_,Y,Same.add sm hD,?_⟩⟩;rw [Zc,Aw,ht,Aj];rfl
    rintro σ H1 ⟨v,rfl,y3,h1⟩;rw [Ab,take_length] at h1;have vm:=y3 _ _ hp;refine ⟨_,Y,p,_,dx,_,Y,vm,T.aj,T.bC,by decide,?_⟩;have xm:∀ b u,b≠p->H b=some u->(upd H1 p (.ins t.aa dx (o:))) b=some u:=λb u hb e=>by rw [Ze hb]; exact y3 b u e
    have lx:(upd H1 p (.ins t.aa dx (o:))) D=some (.lst (ts.map V.ref)):=by rw [Ze hDp]; exact h1
    have oq:(upd H1 p (.ins t.aa dx (o:))) p=some (.ins t.aa dx (o:)):=Zc
    have ht2:∀ (k:Nat) (q:Addr),ts[k]?=some q->(upd H1 p (.ins t.aa dx (o:))) q=some (.tup (row3 ns k)):=λk q e=>by
      have e1:=hr3 k q e;have:q≠p:=λz=>by rw [z,hp] at e1; cases e1
      exact xm q _ this e1
    generalize upd H1 p (.ins t.aa dx (putF "cloths" (.ref D) []))=H2 at xm lx oq ht2 ⊢;refine ⟨_,Y,p,_,dx,_,_,Y,oq,T.aj,T.bC,Y,D,Y,⟨_,SqL.of lx⟩,λN hN=>?_⟩;have hND:N≠D:=λz=>by rw [z,lx] at hN; cases hN
    have hNp:N≠p:=λz=>by rw [z,oq] at hN; cases hN
    refine Yl (xs:=ts.map V.ref) (λi σ H3=>∃ (v v':Option V),σ=[v,v']/\Same H2 H3/\H3 N=some (.lst ((ns.take (3 * i)).map V.int))) ⟨none,none,Y,Same.new hN,Zc⟩ ?_ ?_ ?_
    · rintro i σ H3 _ ⟨v,v',rfl,sm,h3⟩
      exact SqL.of (sm _ _ lx)
    · rintro i x σ H3 hx ⟨v,v',rfl,sm,h3⟩
      dsimp only [Zj,tYes];rw [if_pos rfl];obtain ⟨tt,ht,rfl⟩:=Z6 hx;have hi:i < n:=by rw [<- zr]; exact (Aa ht).1
      refine ⟨_,Y,tt,Y,⟨_,SqT.of (sm _ _ (ht2 i tt ht))⟩,?_⟩;refine Fm (xs:=row3 ns i) (λj σ H4=>∃ (v':Option V),σ=[some (.ref tt),v']/\Same H2 H4/\H4 N=some (.lst ((ns.take (3 * i)).map V.int ++ (row3 ns i).take j))) ⟨v',Y,sm,by rw [h3,take_zero,append_nil]⟩ ?_ ?_ ?_
      · rintro j σ H4 _ ⟨v',rfl,sm,h4⟩
        exact SqT.of (sm _ _ (ht2 i tt ht))
      · rintro j x σ H4 hx ⟨v',rfl,sm,h4⟩
        dsimp only [Zj,tYes];rw [if_pos rfl];refine ⟨_,Y,_,h4,?_,_,Y,Same.add sm hN,?_⟩
        · rw [Ae,Ab,Ai,Ai]
          exact Zv (by have:(row3 ns i).length=3:=rfl; lia)
        · rw [Zc,Aw,hx,<- append_assoc]
          rfl
      · rintro σ H4 ⟨v',rfl,sm,h4⟩
        refine ⟨_,_,Y,sm,?_⟩;rw [h4,take_length,Zl8 hnn hi]
    rintro σ H3 ⟨v,v',rfl,sm3,h3⟩;have eall:ns.take (3 * (ts.map V.ref).length)=ns:=by rw [Ab,zr,<- hnn,take_length]
    rw [eall] at h3;have hp3:=sm3 _ _ oq;refine ⟨_,rfl,p,_,dx,_,rfl,hp3,T.aj,T.av,(by have h1:=Y8 "cloths" (.ref D) []; simp only [length_nil] at h1; lia),?_⟩;have old4:∀ b u,b≠p->H2 b=some u->(upd H3 p (.ins t.aa dx (g:))) b=some u:=λb u hb e=>by rw [Ze hb]; exact sm3 b u e
    have hN4:(upd H3 p (.ins t.aa dx (g:))) N=some (.lst (ns.map V.int)):=by rw [Ze hNp]; exact h3
    have qv:(upd H3 p (.ins t.aa dx (g:))) p=some (.ins t.aa dx (g:)):=Zc;generalize upd H3 p (.ins t.aa dx (putF "names_at" (.ref N) (putF "cloths" (.ref D) [])))=H4 at old4 hN4 qv ⊢;have lk1:(g:).lookup ("names_at":Str)=some (.ref N):=by rw [Z1,if_pos rfl]
    refine ⟨_,Y,p,_,dx,_,_,Y,qv,T.aj,T.av,lk1,N,M,ns,Y,hN4,td,hl,λd f H5 sm5 hd5 hd5' sf pz=>?_⟩;have zz:=sm5 _ _ qv;refine ⟨_,rfl,p,_,dx,_,rfl,zz,T.aj,T.aS,(by have h1:=Y8 "cloths" (.ref D) []; have h2:=Y8 "names_at" (.ref N) (o:); simp only [length_nil] at h1; lia),?_⟩;have hdp:d≠p:=λz=>by rw [z,qv] at hd5; cases hd5
    have hfp:∀ x∈keys ns ns.length,f x≠p:=λx hx z=>by have:=pz x hx; rw [z,qv] at this; cases this
    have xl:∀ b u,b≠p->H4 b=some u->(upd H5 p (.ins t.aa dx (putF "spots" (.ref d) (g:)))) b=some u:=λb u hb e=>by rw [Ze hb]; exact sm5 b u e
    have qi:(upd H5 p (.ins t.aa dx (putF "spots" (.ref d) (g:)))) p=some (.ins t.aa dx (putF "spots" (.ref d) (g:))):=Zc;have hd6:(upd H5 p (.ins t.aa dx (putF "spots" (.ref d) (g:)))) d=some (.dK (spk ns ns.length f)):=by rw [Ze hdp]; exact hd5'
    have sf6:SpotsF (upd H5 p (.ins t.aa dx (putF "spots" (.ref d) (g:)))) ns ns.length f:=⟨sf.inj,λx hx=>by rw [Ze (hfp x hx)]; exact sf.at' x hx⟩;generalize upd H5 p (.ins t.aa dx (putF "spots" (.ref d) (putF "names_at" (.ref N) (putF "cloths" (.ref D) []))))=H6 at xl qi hd6 sf6 ⊢;have lk2:(putF "spots" (.ref d) (g:)).lookup ("spots":Str)=some (.ref d):=by rw [Z1,if_pos rfl]
    have lk3:(putF "spots" (.ref d) (g:)).lookup ("names_at":Str)=some (.ref N):=by rw [Z1,if_neg s_ns,Z1,if_pos rfl]
    have hN6:=xl _ _ hNp hN4;have eln:(((ns.map V.int).length:Nat):Int)=(ns.length:Nat):=by rw [Ab]
    refine ⟨_,Y,p,_,dx,_,_,Y,qi,T.aj,T.aS,lk2,_,Y,p,_,dx,_,_,Y,qi,T.aj,T.av,lk3,N,_,Y,.inl (SqL.of hN6),d,M,ns,f,(by rw [eln]; rfl),hd6,sf6,td,hl,λm o H7 old7 hm7 hmm hdd=>?_⟩;have hpd:p≠d:=Ne.symm hdp;have ym:=old7 _ _ hpd qi;refine ⟨_,rfl,p,_,dx,_,rfl,ym,T.aj,T.dE,(by have h1:=Y8 "cloths" (.ref D) []; have h2:=Y8 "names_at" (.ref N) (o:); have h3:=Y8 "spots" (.ref d) (g:); simp only [length_nil] at h1; lia),?_⟩;have hmp:m≠p:=λz=>by rw [z,qi] at hm7; cases hm7
    have dN:N≠d:=λz=>by rw [z,hd6] at hN6; cases hN6
    have xk:∀ b u,b≠p->b≠d->H6 b=some u->(upd H7 p (.ins t.aa dx (Xr D N d m))) b=some u:=λb u hb hbd e=>by rw [Ze hb]; exact old7 b u hbd e
    have old46:∀ b u,b≠p->H4 b=some u->H6 b=some u/\b≠d:=λb u hb e=>⟨xl b u hb e,λz=>by rw [z,hd5] at e; cases e⟩;have rn:∀ b u,b≠p->H2 b=some u->(upd H7 p (.ins t.aa dx (Xr D N d m))) b=some u:=λb u hb e=>by
      obtain ⟨e6,hbd⟩:=old46 b u hb (old4 b u hb e)
      exact xk b u hb hbd e6
    refine k _ (λb u hb e=>rn b u hb (xm b u hb e)) ⟨dx,D,N,d,m,o,f,Zc,⟨ts,rn _ _ hDp lx,by lia,λk q e=>?_⟩,?_,?_,?_,?_⟩
    · have e1:=ht2 k q e
      exact rn q _ (λz=>by rw [z,oq] at e1; cases e1) e1
    · exact xk _ _ hNp dN hN6
    · rw [Ze hdp]; exact hdd
    · rw [Ze hmp]; exact hmm
    · intro x hx
      have e1:=sf6.at' x hx;exact xk _ _ (hfp x hx) (λz=>by rw [z,hd6] at e1; cases e1) e1
noncomputable def Y5 (ns:List Int) (x:Int):Str:=match pl ns ns.length x with
 | [a,b]=>if a / 3=b / 3 then "locked" else "free"
 | _=>"rim"
def Zmg:Sp:=λvs H Q _=>∃ p:Int,vs=[.int p]/\Q (.int (after p)) H
def Zj8:Sp:=λvs H Q _=>∃ p:Int,vs=[.int p]/\Q (.int (Y0 p)) H
def Zgr:Sp:=λvs H Q _=>∃ p:Int,vs=[.int p]/\Q (.int (p / 3)) H
def Zd3 (C:Addr):Sp:=λvs H Q _=>∃ (p:Addr) (M:Lw) (ns:List Int),vs=[.ref p]/\Zy C H p M ns /\
 ∀ (l:Addr) (ts:List Addr),H l=none->ns.length=3 * ts.length->(∀ (k:Nat) (t:Addr),ts[k]?=some t->H t=some (.tup (row3 ns k)))->Q (.ref l) (upd H l (.lst (ts.map V.ref)))
def Zdd (C:Addr):Sp:=λvs H Q _=>∃ (p:Addr) (M:Lw) (ns:List Int),vs=[.ref p]/\Zy C H p M ns/\ns.length < 64 /\
 ∀ (l:Addr) (out:List Int),H l=none->out.Perm (keys ns ns.length)->out.Pairwise (·<=·)->Q (.ref l) (upd H l (.lst (out.map V.int)))
def Gg (C:Addr):Sp:=λvs H Q _=>∃ (p:Addr) (M:Lw) (ns:List Int) (x:Int),vs=[.ref p,.int x]/\Zy C H p M ns/\Q (.bl (decide (0<=x/\x < ns.length))) H
def O6 (C EP:Addr):Sp:=λvs H Q E=>∃ (p:Addr) (M:Lw) (ns:List Int) (x:Int),vs=[.ref p,.int x]/\Zy C H p M ns/\(0<=x/\x < ns.length->Q .non H)/\(¬ (0<=x/\x < ns.length)->E (.ref EP) none H)
def F1 (C EP:Addr):Sp:=λvs H Q E=>∃ (p:Addr) (M:Lw) (ns:List Int) (x:Int),vs=[.ref p,.int x]/\Zy C H p M ns/\(∀ (i:Nat) (y:Int),x=i->ns[i]?=some y->Q (.int y) H)/\(¬ (0<=x/\x < ns.length)->E (.ref EP) none H)
def Zd4 (C EP:Addr):Sp:=λvs H Q E=>∃ (p:Addr) (M:Lw) (ns:List Int) (x:Int),vs=[.ref p,.int x]/\Zy C H p M ns/\M.length=ns.length/\(∀ (i:Nat) (y:Option Nat),x=i->M[i]?=some y->Q (mV y) H)/\(¬ (0<=x/\x < ns.length)->E (.ref EP) none H)
def Zba (C ES:Addr):Sp:=λvs H Q E=>∃ (p:Addr) (M:Lw) (ns:List Int) (x:Int),vs=[.ref p,.int x]/\Zy C H p M ns/\(x∈keys ns ns.length->∀ l,H l=none->Q (.ref l) (upd H l (.lst ((pl ns ns.length x).map nV))))/\(x ∉ keys ns ns.length->E (.ref ES) none H)
def F0 (C ES:Addr):Sp:=λvs H Q E=>∃ (p:Addr) (M:Lw) (ns:List Int) (x:Int),vs=[.ref p,.int x]/\Zy C H p M ns/\TD M ns/\(x∈keys ns ns.length->∀ H',Same H H'->Q (.str (Y5 ns x)) H')/\(x ∉ keys ns ns.length->E (.ref ES) none H)
def Zmj:FnScope ["place"] ["place"] (Zh Zhi):=Am
def Fi (T:Txt w K mg t):FnOk P w K mg base (CXr P w) 1 t.ic t.il ["place"] Zmg:=by
 refine T.eX.F.aR Zmj (a:)
 ·obtain ⟨p,rfl,k⟩:=h
  refine ⟨_,(Zg (Zm (Vo (Zo Yt (Zi Yh (pv 0) Zf) Zf (Zs _)) (Zi Wo (pv 0) Zf) (Zi Yr (pv 0) Zf)))),?_⟩;refine ⟨_,Y,_,_,Y,Y,(by show (0:Int) < 3; decide),rfl,_,rfl,?_⟩;refine ite2 (λh=>?_) (λh=>?_)
  ·have h:p % 3=2:=by simpa using h
   refine ⟨_,Y,_,_,Y,Y,?_⟩;have e:after p=p - 2:=if_pos h;rw [e] at k; exact k
  ·have h:¬ p % 3=2:=by simpa using h
   refine ⟨_,Y,_,_,Y,Y,?_⟩;have e:after p=p + 1:=if_neg h;rw [e] at k; exact k
def Zkc:FnScope ["place"] ["place"] (Zh Zet):=Am
def Zcq (T:Txt w K mg t):FnOk P w K mg base (CXr P w) 1 t.gz t.gK ["place"] Zj8:=by
 refine T.fD.F.aR Zkc (a:)
 ·obtain ⟨p,rfl,k⟩:=h
  refine ⟨_,(Zg (Zm (Vo (Zo Yt (Zi Yh (pv 0) Zf) Zf (Zs _)) (Zi Yr (pv 0) Zf) (Zi Wo (pv 0) Zf)))),?_⟩;refine ⟨_,Y,_,_,Y,Y,(by show (0:Int) < 3; decide),rfl,_,rfl,?_⟩;refine ite2 (λh=>?_) (λh=>?_)
  ·have h:p % 3=0:=by simpa using h
   refine ⟨_,Y,_,_,Y,Y,?_⟩;have e:Y0 p=p + 2:=if_pos h;rw [e] at k; exact k
  ·have h:¬ p % 3=0:=by simpa using h
   refine ⟨_,Y,_,_,Y,Y,?_⟩;have e:Y0 p=p - 1:=if_neg h;rw [e] at k; exact k
def Zgv:FnScope ["place"] ["place"] (Zh Zab):=Am
def J9 (T:Txt w K mg t):FnOk P w K mg base (CXr P w) 1 t.eZ t.fk ["place"] Zgr:=by
 refine T.bg.F.aR Zgv (a:)
 ·obtain ⟨p,rfl,k⟩:=h
  refine ⟨_,(Zg (Zm (Zi Xo (pv 0) Zf))),?_⟩;exact ⟨_,Y,_,_,Y,Y,⟨by decide,by decide⟩,k⟩
def Zef:FnScope ["self"] ["self"] (Zh Gu):=Am
def Zfi (T:Txt w K mg t):FnOk P w K mg base (CXr P w) 1 t.dW t.eC ["self"] (Zd3 t.aa):=by
 refine T.cB.F.aR Zef (a:)
 ·obtain ⟨p,M,ns,rfl,⟨dx,cl,na,sp,mt,o,f,b⟩,k⟩:=h
  refine ⟨_,(Zg (Zm (Yz Xf (by rfl) T.bF PySem.Pv.boot_list (Za (Zq (pv 0) Y) Zb)))),?_⟩;obtain ⟨ts,h1,h2,h3⟩:=b.rows;exact ⟨_,Y,p,_,dx,_,_,Y,b.ins,T.aj,T.bC,Zli ..,cl,_,Y,.inl (SqL.of h1),λl hl=>k l ts hl h2 h3⟩
def Zdi:FnScope ["self"] ["self"] (Zh Kg):=Am
def Oy (T:Txt w K mg t):FnOk P w K mg base (CXr P w) 1 t.dj t.dw ["self"] (Zdd t.aa):=by
 refine T.aT.F.aR Zdi (a:)
 ·obtain ⟨p,M,ns,rfl,⟨dx,cl,na,sp,mt,o,f,b⟩,h64,k⟩:=h
  refine ⟨_,(Zg (Zm (Zt (Jl Y) (by rfl) T.cH PyProof.Rows.boot_sorted (Za (Zq (pv 0) Y) Zb)))),?_⟩;refine ⟨_,rfl,p,_,dx,_,_,rfl,b.ins,T.aj,T.aS,Fq ..,sp,_,keys ns ns.length,rfl,.inr ⟨o,b.spots⟩,?_,by have:=Vs ns ns.length; lia,k⟩;unfold spk; rw [map_map]; rfl
def Gh:FnScope ["self","place"] ["self","place"] (Zh Vk):=Am
def Qw (T:Txt w K mg t):FnOk P w K mg base (CXr P w) 1 t.bG t.bJ ["self","place"] (Gg t.aa):=by
 refine T.aE.F.aR Gh (a:)
 ·obtain ⟨p,M,ns,x,rfl,⟨dx,cl,na,sp,mt,o,f,b⟩,k⟩:=h
  refine ⟨_,(Zg (Zm (Ze7 Zi2 J8 Zf (pv 1) (Zt Zu (by rfl) T.au PySem.boot_len (Za (Zq (pv 0) Y) Zb))))),?_⟩;refine ⟨_,Y,_,_,Y,Y,_,Y,?_⟩;refine ite2 (λh=>?_) (λh=>?_)
  ·have h:0<=x:=of_decide_eq_true h
   refine ⟨_,Y,p,_,dx,_,_,Y,b.ins,T.aj,T.av,Fr ..,na,_,Y,.inl (SqL.of b.names),_,_,Y,Y,?_⟩;have:decide (x < (((ns.map V.int).length:Nat):Int))=decide (0<=x/\x < (ns.length:Int)):=by rw [Ab]; simp [h]
   show Q (V.bl (decide (x < (((ns.map V.int).length:Nat):Int)))) H;rw [this]; exact k
  ·have h:¬ 0<=x:=λz=>h (decide_eq_true z)
   have:decide (0<=x/\x < (ns.length:Int))=false:=decide_eq_false λz=>h z.1;rw [this] at k; exact k
def O9:FnScope ["self","place"] ["self","place"] (Zh Qs):=Am
def Qg (T:Txt w K mg t):FnOk P w K mg base (CXr P w) 2 t.bp t.bv ["self","place"] (O6 t.aa t.bI):=by
 refine T.az.F.aX O9 (a:)
 ·obtain ⟨p,M,ns,x,rfl,ta,k1,k2⟩:=h
  obtain ⟨dx,cl,na,sp,mt,o,f,b⟩:=id ta;refine ⟨_,(Zw (X2 (Wx (Qd (Yk (pv 0) T.aj T.aE.m (Qw T) (hr.mono (d:)) T.aE.b .nil Yf (s:)))) (Zw (Wm T.iA FBV Y T.hG Y (Za Zr Zb))) W9)),?_⟩;refine ⟨_,Y,p,dx,_,Y,b.ins,Yu _ _ _ _,_,Y,p,M,ns,x,Y,ta,_,Y,?_⟩;by_cases c:0<=x/\x < (ns.length:Int)
  ·rw [decide_eq_true c]
   exact iteF (k1 c)
  ·rw [decide_eq_false c]
   exact iteT ⟨by decide,k2 c⟩
def F5:FnScope ["self","place"] ["self","place"] (Zh Uo):=Am
def V5 (T:Txt w K mg t):FnOk P w K mg base (CXr P w) 3 t.ci t.cu ["self","place"] (F1 t.aa t.bI):=by
 refine T.aI.F.aX F5 (a:)
 ·obtain ⟨p,M,ns,x,rfl,ta,k1,k2⟩:=h
  obtain ⟨dx,cl,na,sp,mt,o,f,b⟩:=id ta;refine ⟨_,(Ys (Y1 (Yx (pv 0) T.aj T.az.m (Qg T) (hr.mono (d:)) T.az.b .nil (s:)))
   (Zw (Wd (Zm (Ya Z4 (Zq (pv 0) rfl) (pv 1) (A:)))))),?_⟩
  refine ⟨_,Y,p,dx,_,Y,b.ins,Yu _ _ _ _,_,Y,p,M,ns,x,Y,ta,λc=>?_,k2⟩;have hi:x.toNat < ns.length:=by lia
  obtain ⟨y,hy⟩:∃ y,ns[x.toNat]?=some y:=⟨_,Ac hi⟩;have ex:x=(x.toNat:Int):=by lia
  refine ⟨_,Y,p,_,dx,_,_,Y,b.ins,T.aj,T.av,Fr ..,_,Y,na,_,_,_,Y,Y,SqL.of b.names,(by rw [ex]; exact We hy),k1 _ _ ex hy⟩
def Zeg:FnScope ["self","place"] ["self","place"] (Zh Gv):=Am
def Wq (T:Txt w K mg t):FnOk P w K mg base (CXr P w) 3 t.dX t.eE ["self","place"] (Zd4 t.aa t.bI):=by
 refine T.ar.F.aX Zeg (a:)
 ·obtain ⟨p,M,ns,x,rfl,ta,jm,k1,k2⟩:=h
  obtain ⟨dx,cl,na,sp,mt,o,f,b⟩:=id ta;refine ⟨_,(Ys (Y1 (Yx (pv 0) T.aj T.az.m (Qg T) (hr.mono (d:)) T.az.b .nil (s:)))
   (Zw (Wd (Zm (Ya Z4 (Zq (pv 0) rfl) (pv 1) (A:)))))),?_⟩
  refine ⟨_,Y,p,dx,_,Y,b.ins,Yu _ _ _ _,_,Y,p,M,ns,x,Y,ta,λc=>?_,k2⟩;have hi:x.toNat < M.length:=by lia
  obtain ⟨y,hy⟩:∃ y,M[x.toNat]?=some y:=⟨_,Ac hi⟩;have ex:x=(x.toNat:Int):=by lia
  refine ⟨_,Y,p,_,dx,_,_,Y,b.ins,T.aj,T.dE,Znm ..,_,Y,mt,_,_,_,Y,Y,SqL.of b.mates,(by rw [ex]; exact We hy),k1 _ _ ex hy⟩
def Zbg:FnScope ["self","seam"] ["self","seam"] (Zh Ou):=Am
def Zbv (T:Txt w K mg t):FnOk P w K mg base (CXr P w) 1 t.cJ t.cS ["self","seam"] (Zba t.aa t.du):=by
 refine T.bD.F.aX Zbg (a:)
 ·obtain ⟨p,M,ns,x,rfl,ta,k1,k2⟩:=h
  obtain ⟨dx,cl,na,sp,mt,o,f,b⟩:=id ta;have hu:=Y4 hr;refine ⟨_,(Ys (X2 (Wl (Xx hu (pv 1) (Zq (pv 0) Y)) (D:)) (Zw (Wm T.iL FBV Y T.iB Y (Za Zr Zb))) W9)
   (Zw (Wd (Zm (Yz Xf (by rfl) T.bF PySem.Pv.boot_list (Za (Jc hu (Zq (pv 0) rfl) (pv 1) (A:)) Zb)))))),?_⟩
  have hg:DGet H sp (.int x) (if x∈keys ns ns.length then some (V.ref (f x)) else none):=.inl ⟨_,Sum.inl x,.inr ⟨o,b.spots⟩,rfl,by unfold spk; rw [Ja]⟩;refine ⟨_,Y,_,Y,p,_,dx,_,_,Y,b.ins,T.aj,T.aS,Fq ..,sp,_,Y,hg,_,Y,?_⟩;by_cases c:x∈keys ns ns.length
  ·rw [if_pos c] at hg ⊢
   refine iteF ?_;exact ⟨_,Y,p,_,dx,_,_,Y,b.ins,T.aj,T.aS,Fq ..,_,Y,sp,_,Y,hg,f x,_,Y,.inl (SqL.of (b.at' x c)),k1 c⟩
  ·rw [if_neg c] at hg ⊢
   exact iteT ⟨by decide,k2 c⟩
def Vx:FnScope ["self","seam","spots"] ["self","seam"] (Zh Um):=Am
def V4 (T:Txt w K mg t):FnOk P w K mg base (CXr P w) 2 t.cj t.cv ["self","seam"] (F0 t.aa t.du):=by
 refine T.aJ.F.aX Vx (a:)
 ·obtain ⟨p,M,ns,x,rfl,ta,td,k1,k2⟩:=h
  obtain ⟨dx,cl,na,sp,mt,o,f,b⟩:=id ta;refine ⟨_,(Ys (Zhk (i:=2) Vx.nd Y (Or.inl Y) (Yx (pv 0) T.aj T.bD.m (Zbv T) (hr.mono (d:)) T.bD.b .nil (s:)))
   (Ys (Wd (Z2 (Zo Yt (Zt Zu (by rfl) T.au PySem.boot_len (B:)) Zf (Zs _)) (Zg (Zm Zr)) Zx))
   (Ys (Wd (Z2 (Zo Yt (pcT (J9 T) hr T.bg (Za (Ya Z4 (pv 2) Zf (A:)) Zb)) (pcT (J9 T) hr T.bg (Za (Ya Z4 (pv 2) Zf (A:)) Zb)) (Zs _)) (Zg (Zm Zr)) Zx))
   (Zw (Wd (Zm Zr)))))),?_⟩
  refine ⟨_,Y,p,dx,_,Y,b.ins,Yu _ _ _ _,_,Y,p,M,ns,x,Y,ta,λc l hl=>?_,k2⟩;have vk:=k1 c _ (Same.new (o:=.lst ((pl ns ns.length x).map nV)) hl);refine ⟨_,Y,l,_,Y,.inl (SqL.of Zc),Y,_,Y,?_⟩
  rcases Fb td c with ⟨a,e,_⟩ | ⟨a,b',nz,e,_⟩
  ·rw [e] at vk ⊢
   refine iteT ?_;have:Y5 ns x="rim":=by unfold Y5; rw [e]
   rw [this] at vk;exact vk
  ·rw [e] at vk ⊢
   refine iteF ?_;refine ⟨_,Y,l,_,_,_,Y,Y,SqL.of Zc,Y,_,Y,_,Y,l,_,_,_,Y,Y,SqL.of Zc,Y,_,Y,Y,_,Y,?_⟩;by_cases q:a / 3=b' / 3
   ·have:Y5 ns x="locked":=by unfold Y5; rw [e]; exact if_pos q
    rw [this] at vk;rw [decide_eq_true (by congr 1; lia)];exact iteT vk
   ·have:Y5 ns x="free":=by unfold Y5; rw [e]; exact if_neg q
    rw [this] at vk;rw [decide_eq_false (λz=>q (by injection z; lia))];exact iteF vk
def U3 {M:Lw} {ns:List Int} (td:TD M ns) (hx:x∈keys ns ns.length) :
  (Y5 ns x="rim"/\∃ a,pl ns ns.length x=[a]/\M[a]?=some none)\/(Y5 ns x="locked"/\∃ a b,a < b/\pl ns ns.length x=[a,b]/\M[a]?=some (some b)/\a / 3=b / 3)\/(Y5 ns x="free"/\∃ a b,a < b/\pl ns ns.length x=[a,b]/\M[a]?=some (some b)/\a / 3≠b / 3):=by
 rcases Fb td hx with ⟨a,e,_,ma⟩ | ⟨a,b,nz,e,_,_,ma,_⟩
 ·exact .inl ⟨by unfold Y5; rw [e],a,e,ma⟩
 ·by_cases c:a / 3=b / 3
  ·exact .inr (.inl ⟨by unfold Y5; rw [e]; exact if_pos c,a,b,nz,e,ma,c⟩)
  ·exact .inr (.inr ⟨by unfold Y5; rw [e]; exact if_neg c,a,b,nz,e,ma,c⟩)
def t_lr:¬ (("locked":Str))="rim":=by decide
def t_fr:¬ (("free":Str))="rim":=by decide
def Zq2 (h:¬ x=y):decide (V.str x=V.str y)=false:=decide_eq_false λz=>h (by injection z)
def Zq6 {ns:List Int} {i:Nat} (h:Y6 H r ns) (hx:ns[i]?=some x):∃ ts:List Addr,∃ q,H r=some (.lst (ts.map V.ref))/\ts[i / 3]?=some q/\H q=some (.tup (row3 ns (i / 3)))/\(row3 ns (i / 3))[i % 3]?=some (V.int x):=by
 obtain ⟨ts,h1,h2,h3⟩:=h;have hi:i < ns.length:=(Aa hx).1;have hk:i / 3 < ts.length:=by lia
 refine ⟨ts,ts[i / 3],h1,Ac hk,h3 _ _ (Ac hk),?_⟩;have g:∀ j,ns[j]?=some x->ns.getD j 0=x:=λj hj=>by rw [Ad,hj]; rfl
 have hm:i % 3=0\/i % 3=1\/i % 3=2:=by lia
 rcases hm with m | m | m
 ·have:3 * (i / 3)=i:=by lia
  rw [m]; show some (V.int (ns.getD (3 * (i / 3)) 0))=_; rw [this,g i hx]
 ·have:3 * (i / 3) + 1=i:=by lia
  rw [m]; show some (V.int (ns.getD (3 * (i / 3) + 1) 0))=_; rw [this,g i hx]
 ·have:3 * (i / 3) + 2=i:=by lia
  rw [m]; show some (V.int (ns.getD (3 * (i / 3) + 2) 0))=_; rw [this,g i hx]
def div3 (i:Nat):(i:Int) / 3=((i / 3:Nat):Int):=by lia
def mod3 (i:Nat):(i:Int) % 3=((i % 3:Nat):Int):=by lia
def sp_law (K:W.Frag):Sp:=λvs H Q _=>∃ (a:Addr) (ns:List Int),vs=[.ref a]/\SqL K H a (ns.map V.int)/\ns.length<=63/\∀ H',Q (.bl true) H'
def sp_law_start {ns:List Int} (hl:ns.length<=63) (hS:SqL K H a (ns.map V.int)):sp_law K [.ref a] H (λv _=>v=.bl true) λ_ _ _=>False:=⟨a,ns,rfl,hS,hl,λ_=>rfl⟩
def Y6.copy {ns:List Int} {ts:List Addr} (h1:H r=some (.lst (ts.map V.ref))) (h2:ns.length=3 * ts.length) (h3:∀ (k:Nat) (t:Addr),ts[k]?=some t->H t=some (.tup (row3 ns k))) (hl:H l=none):Y6 (upd H l (.lst (ts.map V.ref))) l ns :=
 ⟨ts,Zc,h2,λk q e=>by rw [Ze (Zl (h3 k q e) hl)]; exact h3 k q e⟩
def Zl7 {ns:List Int} {ts:List Addr} (g1:H1 r=some (.lst (ts.map V.ref))) (g2:ns.length=3 * ts.length) (g3:∀ (k:Nat) (t:Addr),ts[k]?=some t->H1 t=some (.tup (row3 ns k)))
  (km:H1 l=none) (hx:upd H1 l (.lst (ts.map V.ref)) x=none) (hdx:upd H1 l (.lst (ts.map V.ref)) dx=none) :
  Y6 (upd (upd (upd H1 l (.lst (ts.map V.ref))) dx (.own x)) x (.ins C dx [])) l ns/\Same (upd H1 l (.lst (ts.map V.ref))) (upd (upd (upd H1 l (.lst (ts.map V.ref))) dx (.own x)) x (.ins C dx [])):=by
 have s:Same (upd H1 l (.lst (ts.map V.ref))) (upd (upd (upd H1 l (.lst (ts.map V.ref))) dx (.own x)) x (.ins C dx [])):=Same.add (Same.new hdx) hx;exact ⟨(Y6.copy g1 g2 g3 km).same s,s⟩
def Zca {a b:List Int} (h1:a.Perm c) (h2:b.Perm c) (s1:a.Pairwise (·<=·)) (s2:b.Pairwise (·<=·)):a=b :=
 (h1.trans h2.symm).eq_of_pairwise (λx y _ _ h1 h2=>Int.le_antisymm h1 h2) s1 s2
def Zm9 {ws:List Int}:(((ws.map V.int).length:Nat):Int)=ws.length:=by rw [Ab]
def Znp (x0:Int) (xr:List Int):cutV ((x0 :: xr).map V.int) (some 1) none=xr.map V.int:=by
 unfold cutV;have e1:HT.sIx ((x0 :: xr).map V.int).length 0 (some ((1:Nat):Int))=1:=by
  rw [HT.sIx_nat,Ab,length_cons]
  lia
 rw [show (some (1:Int))=some ((1:Nat):Int) from rfl,e1,HT.sIx_none,map_cons,drop_succ_cons,drop_zero,length_cons,Nat.add_sub_cancel,take_length]
def Zf1 {α:Type} {p:α->Bool} {l:List α} {i:Nat} {x:α} (h:l[i]?=some x):(l.take (i + 1)).filter p=if p x=true then (l.take i).filter p ++ [x] else (l.take i).filter p:=by
 rw [Aw,h,filter_append];by_cases c:p x=true
 ·simp [c]
 ·simp [c]
def Zot:Sp:=λvs H Q _=>∃ (m a:Addr) (M:Lw) (xs:List Int),vs=[.ref m,.ref a]/\H m=some (.lst (M.map mV))/\H a=some (.lst (xs.map V.int))/\xs≠[]/\xs.length<=60/\(∀ x∈xs,0<=x/\x < 1009)/\M.length<=42/\(∃ n,M.length=3 * n)/\(∀ (i j:Nat),M[i]?=some (some j)->M[j]?=some (some i)/\i≠j) /\
 ∀ (l:Addr) (ws:List Nat) (H':Hp),Same H H'->H l=none->H' l=some (.lst (ws.map nV))->ws.length<=60->(ws=[]\/Pl M ws)->Q (.ref l) H'
def Zj4 (K:W.Frag):Sp:=λvs H Q _=>∃ (a m:Addr) (sc:List Int) (i:Int) (M:Lw),vs=[.ref a,.int i,.ref m]/\SqL K H a (sc.map V.int)/\sc.length<=63/\0<=i/\i < 1000/\H m=some (.lst (M.map mV))/\M.length<=42/\(∃ n,M.length=3 * n)/\(∀ (i j:Nat),M[i]?=some (some j)->M[j]?=some (some i)/\i≠j) /\
 ∀ (l:Addr) (ws:List Nat) (H':Hp),Same H H'->H l=none->H' l=some (.lst (ws.map nV))->ws.length<=60->(ws=[]\/Pl M ws)->Q (.ref l) H'
noncomputable def k6 (M:Lw) (i:Nat):Bool:=match M[i]? with
 | some (some _)=>true
 | _=>false
def J2 {M:Lw}:k6 M i=true ↔ ∃ j,M[i]?=some (some j):=by
 unfold k6;split
 ·rename_i j h; exact ⟨λ_=>⟨j,h⟩,λ_=>rfl⟩
 ·rename_i h; exact ⟨λz=>absurd z (d:),λ⟨j,e⟩=>absurd e (h j)⟩
def Xt:FnScope ["_law_mates","_law_nums","_law_spots","_law_row","_law_pick","_law_side","_law_ways","_law_start","_law_stop"] ["_law_mates","_law_nums"] (Zh Zen):=Am
def Zku (T:Txt w K mg t):FnOk P w K mg base (CXr P w) 1 t.gH t.gS ["_law_mates","_law_nums"] Zot:=by
  refine T.gY.F.aR Xt (a:)
  · obtain ⟨m,a,M,xs,rfl,hm,ha,hx0,hx60,hx,h42,⟨n,hn⟩,inv,k⟩:=h
    refine ⟨_,(Zd (Wf (ts:=["_law_p"]) (fv:=[("_law_mates",0)]) (i:=2) (b:) rfl Xt.nd rfl rfl (by rfl) (X7 rfl T.aO (Za (v:) Zb)) (λ_ _ _ _=>(Zk (i:=0) (show List.Nodup (["_law_p","_law_mates"]:List Str) from by decide +kernel) rfl (f:) (Or.inr rfl))) (λ_ _ _ _=>(Uq (Zo K4 (Ya (J1 K) (pv 1) (pv 0) (A:)) Us (Zs _)))) (λ_ _ _=>rfl) (λ_ _ _ _ _ _=>Yo (pv 0)))
      (Zd (Z2 (Zo Yt (Zt Zu (by rfl) T.au PySem.boot_len (B:)) Zf (Zs _)) (Zg (Zm (Yn Zb))) Zx)
      (Zd (Zp (i:=3) Xt.nd rfl (f:) (Yn (Za (Ya Z4 (pv 2) (Zi Yh (Ya Z4 (pv 1) Zf (A:)) (Zt Zu (by rfl) T.au PySem.boot_len (B:))) (A:)) Zb)))
      (Zd (Xj PassesOwn.never rfl (Yj (Vm Ue (pv 1) (Jv Zf) Zbn)) (Zk (i:=4) Xt.nd rfl (f:)) (Zd (Zp (i:=5) Xt.nd rfl (Or.inr rfl) (Ya Z4 (pv 0) (Ya Z4 (pv 3) (Zsy Zqp Zf) (A:)) (A:)))
      (Zd (Wf (ts:=["_law_k"]) (fv:=[("_law_side",5)]) (i:=6) (b:) rfl Xt.nd rfl rfl (by rfl) (X7 rfl T.aO (Za Zf Zb)) (λ_ _ _ _=>(Zk (i:=0) (show List.Nodup (["_law_k","_law_side"]:List Str) from by decide +kernel) rfl (f:) (Or.inr rfl))) (λ_ _ _ _=>Yd) (λ_ _ _=>rfl) (λ_ _ _ _ _ _=>Yo (Zi Yr (Zi Wo (pv 1) (Zi Yh (pv 1) Zf)) (Zi Yh (Zi Yr (Zi Yr (pv 1) Zf) (pv 0)) Zf))))
      (Zd (Wf (ts:=["_law_p"]) (fv:=[("_law_mates",0)]) (i:=6) (b:) rfl Xt.nd rfl rfl (by rfl) (Yj (pv 6)) (λ_ _ _ _=>(Zk (i:=0) (show List.Nodup (["_law_p","_law_mates"]:List Str) from by decide +kernel) rfl (f:) (Or.inr rfl))) (λ_ _ _ _=>(Uq (Zo K4 (Ya (J1 K) (pv 1) (pv 0) (A:)) Us (Zs _)))) (λ_ _ _=>rfl) (λ_ _ _ _ _ _=>Yo (pv 0)))
      (Zd (Z2 (Zo Yt (Zt Zu (by rfl) T.au PySem.boot_len (Za (pv 6) Zb)) Zf (Zs _)) (Zg Zmr) Zx)
      (Zg (Z3 (Xw PySem.F.plainAttrs_list PySem.F.slot_list_append PySem.F.type_list_append Y3 (pv 3) (Za (Ya Z4 (pv 6) (Zi Yh (pv 4) (Zt Zu (by rfl) T.au PySem.boot_len (Za (pv 6) Zb))) (A:)) Zb)))))))))
      (Zd (Xj PassesOwn.never rfl (X7 rfl T.aO (Za (Zt Zu (by rfl) T.au PySem.boot_len (Za (pv 3) Zb)) Zb)) (Zk (i:=7) Xt.nd rfl (f:)) (Zg (Xj PassesOwn.never rfl (Zph rfl T.dh rfl T.aO (Za (Zi Yr (pv 7) Zf) (Za (Zt Zu (by rfl) T.au PySem.boot_len (Za (pv 3) Zb)) Zb))) (Zk (i:=8) Xt.nd rfl (f:)) (Zg (Z2 (Zo Yt (Ya Z4 (pv 3) (pv 7) (A:)) (Ya Z4 (pv 3) (pv 8) (A:)) (Zs _)) (Zg (Zm (Vm Ue (pv 3) (Jv (pv 7)) (Jv (pv 8))))) Zx)))))
      (Zg (Zm (Yn Zb)))))))),?_⟩;refine Zn λjx ji=>?_;refine ⟨_,Y,m,_,Y,.inl (SqL.of hm),_,Y,by lia,by rw [Ab]; lia,λD hD=>?_⟩;have eL:(((M.map mV).length:Nat):Int).toNat=M.length:=by simp
    rw [eL];refine Q4 (λi σ H1=>∃ v,σ=[v,some (.ref m)]/\Same H H1/\H1 D=some (.lst (((List.range i).filter (k6 M)).map nV))) ⟨none,Y,Same.new hD,Zc⟩ ?_ ?_
    · rintro i σ H1 jw ⟨v,rfl,sm,h1⟩
      dsimp only [Zj];rw [Int.zero_add];obtain ⟨y,hy⟩:∃ y,M[i]?=some y:=⟨_,Ac jw⟩;have lt:(((List.range i).filter (k6 M)).map nV).length < sizeLine:=by
        rw [Ab]
        have:=length_filter_le (k6 M) (List.range i)
        rw [length_range] at this
        exact Zv (by lia)
      refine ⟨_,Y,_,Y,m,_,_,_,Y,Y,SqL.of (sm _ _ hm),We hy,Y,_,Y,?_⟩
      cases y with
      | none =>
        refine iteF ⟨_,Y,sm,?_⟩;rw [h1,range_succ,filter_append];have:k6 M i=false:=by rw [Bool.eq_false_iff]; intro z; obtain ⟨j,e⟩:=J2.mp z; rw [hy] at e; cases e
        simp [this]
      | some j =>
        refine iteT ⟨_,Y,_,h1,lt,_,Y,Same.add sm hD,?_⟩;rw [Zc,range_succ,filter_append];have:k6 M i=true:=J2.mpr ⟨j,hy⟩;simp [this];rfl
    rintro σ H1 ⟨v,rfl,s1,h1⟩;refine ji _ _ ?_;have mh:∀ p∈(List.range M.length).filter (k6 M),∃ j,M[p]?=some (some j):=λp hp=>J2.mp (mem_filter.mp hp).2;generalize (List.range M.length).filter (k6 M)=sps at h1 mh;refine Zn λjx ji=>?_;refine ⟨_,Y,D,_,Y,.inl (SqL.of h1),Y,_,Y,?_⟩;refine ite2 (λc=>?_) (λc=>?_)
    · exact ⟨Az _,λl hl=>k l [] _ (Same.add s1 (s1.free hl)) (s1.free hl) Zc (Az _) (.inl Y)⟩
    have j9:0 < sps.length:=by
      cases sps with
      | nil=>exact absurd Y c
      | cons _ _=>simp
    dsimp only [Wz];refine ji _ _ ?_
    obtain ⟨x0,xr,rfl⟩:∃ x0 xr,xs=x0 :: xr:=by
      cases xs with
      | nil=>exact absurd Y hx0
      | cons a b=>exact ⟨a,b,Y⟩
    have k0:=Int.emod_nonneg x0 (show (sps.length:Int)≠0 by lia);have k1:=Int.emod_lt_of_pos x0 (show (0:Int) < sps.length by lia);obtain ⟨kk,w5⟩:∃ kk:Nat,x0 % (sps.length:Int)=kk:=⟨_,(Int.toNat_of_nonneg k0).symm⟩;have nq:kk < sps.length:=by lia
    refine Zn λjx ji=>?_;refine ⟨_,Y,_,Y,a,_,_,_,Y,Y,SqL.of (s1 _ _ ha),(show atI _ ((0:Nat):Int)=_ from Xp Y),_,Y,D,_,Y,.inl (SqL.of h1),_,_,Y,Y,(by rw [Ab]; lia),D,_,_,_,rfl,rfl,SqL.of h1,(by rw [Ab,w5]; exact We (Ac nq)),(by show 1<=sizeLine; decide),λr mv=>?_⟩;refine ji _ _ ?_;have qt:H r=none:=s1.free mv;obtain ⟨j0,hj0⟩:=mh _ (getElem_mem nq);have ch0:Ch M [sps[kk]]:=Ch.one hj0;generalize sps[kk]=p0 at ch0;have s2:Same H (upd H1 r (.lst [nV p0])):=Same.add s1 qt;have h2:(upd H1 r (.lst [nV p0])) r=some (.lst ([p0].map nV)):=Zc;generalize upd H1 r (.lst [nV p0])=H2 at s2 h2;dsimp only [Zj];show tSeq (tFor _ _ _) _ _ _ _;refine Zz (λσ H3=>∃ (row:List Nat) (v4 v5 v6:Option V),σ=[some (.ref m),some (.ref a),some (.ref D),some (.ref r),v4,v5,v6,none,none]/\Same H H3/\H3 r=some (.lst (row.map nV))/\Ch M row/\row.length<=60) (λnx jy=>?_) ?_
    · refine ⟨_,Y,_,Y,a,_,Y,SqL.of (s2 _ _ ha),λq hq=>?_⟩
      rw [Znp];have hrq:r≠q:=Zl h2 hq;have wt:H q=none:=s2.free hq;refine ⟨q,Y,⟨_,SqL.of Zc⟩,?_⟩;rw [length_cons] at hx60;refine J5 (xs:=xr.map V.int) (λi σ H3=>∃ (row:List Nat) (v4 v5 v6:Option V),σ=[some (.ref m),some (.ref a),some (.ref D),some (.ref r),v4,v5,v6,none,none]/\Same H H3/\H3 q=some (.lst (xr.map V.int))/\H3 r=some (.lst (row.map nV))/\Ch M row/\row≠[]/\row.length<=i + 1)
        ⟨[p0],none,none,none,rfl,Same.add s2 wt,Zc,by rw [Ze hrq]; exact h2,ch0,by simp,by simp⟩ ?_ ?_ ?_
      · rintro i σ H3 _ ⟨row,v4,v5,v6,rfl,s3,h3,_⟩
        exact SqL.of h3
      · rintro i x σ H3 zj ⟨row,v4,v5,v6,rfl,s3,h3,h4,ch,rne,xj⟩
        have hi:i < xr.length:=by have:=(Aa zj).1; rw [Ab] at this; exact this
        obtain ⟨ml,hpk,rfl⟩:∃ ml,xr[i]?=some ml/\x=V.int ml:=by
          rw [Ah,Ac hi] at zj;exact ⟨_,Ac hi,(Ax zj).symm⟩
        obtain ⟨la,wy⟩:∃ la,row.getLast?=some la:=by
          cases e:row.getLast? with
          | none=>exact absurd (getLast?_eq_none_iff.mp e) rne
          | some z=>exact ⟨z,Y⟩
        have hlm:la∈row:=mem_of_getLast? wy;obtain ⟨sd,hsd⟩:=ch.has la hlm;have hsdM:sd < M.length:=(Aa (inv la sd hsd).1).1
        have elast:atI (row.map nV) (-1)=some (nV la):=by
          unfold atI ixN
          have hl:0 < row.length:=by cases row with | nil=>exact absurd rfl rne | cons _ _=>simp
          rw [if_neg (d:),if_pos (by rw [Ab]; lia)];show ((row.map nV)[((-1:Int) + (row.map nV).length).toNat]?)=_;rw [Ab,show ((-1:Int) + (row.length:Int)).toNat=row.length - 1 by lia,Ah,<- getLast?_eq_getElem?,wy];rfl
        dsimp only [Zj];refine Zn λjx ji=>?_;refine ⟨_,Y,_,Y,_,Y,r,_,_,_,Y,Y,SqL.of h4,elast,m,_,_,_,Y,Y,SqL.of (s3 _ _ hm),We hsd,?_⟩;refine ji _ _ ?_;refine Zn λjx ji=>?_;refine ⟨2,Y,by decide,by decide,λW hW=>?_⟩;have hW0:H W=none:=s3.free hW;have hWr:r≠W:=Zl h4 hW;have hWq:q≠W:=Zl h3 hW;refine Q4 (n:=2) (λc σ H5=>∃ v,σ=[v,some (nV sd)]/\Same H3 H5/\H5 W=some (.lst (([j6 sd 1,j6 sd 2].take c).map nV))) ⟨none,Y,Same.new hW,Zc⟩ ?_ ?_
        · rintro c σ H5 hc ⟨v,rfl,s5,h5⟩
          dsimp only [Zj,tYes];rw [if_pos rfl];refine ⟨_,Y,_,Y,_,_,Y,Y,(by show (0:Int) < 3; decide),_,_,rfl,rfl,_,rfl,_,_,rfl,rfl,_,rfl,_,_,rfl,rfl,_,_,rfl,rfl,(by show (0:Int) < 3; decide),_,_,rfl,rfl,_,h5,?_,_,rfl,Same.add s5 hW,?_⟩
          · rw [Ab,Ai]; exact Zv (by lia)
          · rw [Zc]
            have hc:c=0\/c=1:=by lia
            have e:∀ k:Nat,(sd:Int) - (sd:Int) % 3 + ((sd:Int) + 1 + (0 + (k:Int))) % 3=((j6 sd (k + 1):Nat):Int):=λk=>by unfold j6; omega
            rcases hc with rfl | rfl
            · show some (HO.lst ([] ++ [V.int ((sd:Int) - (sd:Int) % 3 + ((sd:Int) + 1 + (0 + ((0:Nat):Int))) % 3)]))=_
              rw [e 0]; rfl
            · show some (HO.lst ([nV (j6 sd 1)] ++ [V.int ((sd:Int) - (sd:Int) % 3 + ((sd:Int) + 1 + (0 + ((1:Nat):Int))) % 3)]))=_
              rw [e 1]; rfl
        rintro σ H5 ⟨v,rfl,s5,h5⟩;refine ji _ _ ?_;have h5:H5 W=some (.lst ([j6 sd 1,j6 sd 2].map nV)):=h5;have sl:∀ c,j6 sd c < M.length:=λc=>by rw [hn]; exact Zo3 (by lia)
        refine Zn λjx ji=>?_;refine ⟨_,Y,W,Y,⟨_,SqL.of h5⟩,λW2 hW2=>?_⟩;have s35:=s3.trans s5;refine Yl (xs:=[j6 sd 1,j6 sd 2].map nV) (λc σ H6=>∃ v,σ=[v,some (.ref m)]/\Same H5 H6/\H6 W2=some (.lst ((([j6 sd 1,j6 sd 2].take c).filter (k6 M)).map nV))) ⟨none,Y,Same.new hW2,Zc⟩ ?_ ?_ ?_
        · rintro c σ H6 _ ⟨v,rfl,s6,h6⟩
          exact SqL.of (s6 _ _ h5)
        · rintro c x σ H6 hxc ⟨v,rfl,s6,h6⟩
          obtain ⟨p,hp,rfl⟩:=Z6 hxc;have hpM:p < M.length:=by
            have:=Au hp
            rcases Ar this with rfl | z
            · exact sl 1
            · rw [Af z]; exact sl 2
          obtain ⟨y,hy⟩:∃ y,M[p]?=some y:=⟨_,Ac hpM⟩;dsimp only [Zj];refine ⟨_,Y,_,Y,m,_,_,_,Y,Y,SqL.of (s6 _ _ (s35 _ _ hm)),We hy,Y,_,Y,?_⟩
          cases y with
          | none =>
            refine iteF ⟨_,Y,s6,?_⟩;have:k6 M p=false:=by rw [Bool.eq_false_iff]; intro z; obtain ⟨j,e⟩:=J2.mp z; rw [hy] at e; cases e
            rw [h6,Zf1 hp,if_neg (by rw [this]; decide)]
          | some jj =>
            refine iteT ⟨_,Y,_,h6,?_,_,Y,Same.add s6 hW2,?_⟩
            · rw [Ab]
              have h1:=length_filter_le (k6 M) ([j6 sd 1,j6 sd 2].take c);have h2:([j6 sd 1,j6 sd 2].take c).length<=2:=by rw [Ai]; exact Nat.min_le_right _ _
              exact Zv (by lia)
            · rw [Zc,Zf1 hp,if_pos (J2.mpr ⟨jj,hy⟩),Aj]
              rfl
        rintro σ H6 ⟨v,rfl,s6,h6⟩;refine ji _ _ ?_;have h6:H6 W2=some (.lst (([j6 sd 1,j6 sd 2].filter (k6 M)).map nV)):=h6;have hws:∀ p∈[j6 sd 1,j6 sd 2].filter (k6 M),(∃ j,M[p]?=some (some j))/\p / 3=sd / 3/\p≠sd:=λp hp=>by
          obtain ⟨z1,z2⟩:=mem_filter.mp hp
          refine ⟨J2.mp z2,?_,?_⟩
          · rcases Ar z1 with rfl | z
            · exact Zeb _ _
            · rw [Af z]; exact Zeb _ _
          · rcases Ar z1 with rfl | z
            · unfold j6; omega
            · rw [Af z]; unfold j6; omega
        generalize [j6 sd 1,j6 sd 2].filter (k6 M)=wys at h6 hws;have s36:=s5.trans s6;have xf:=s36 _ _ h4;have h3':=s36 _ _ h3;have s06:=s3.trans s36;refine Zn λjx ji=>?_;refine ⟨_,Y,W2,_,Y,.inl (SqL.of h6),Y,_,Y,?_⟩;refine ite2 (λc=>?_) (λc=>?_)
        · exact jy _ _ ⟨row,_,_,_,Y,s06,xf,ch,by lia⟩
        have hwp:0 < wys.length:=by
          cases wys with
          | nil=>exact absurd Y c
          | cons _ _=>simp
        dsimp only [Wz];refine ji _ _ ?_;have c0:=Int.emod_nonneg ml (show (wys.length:Int)≠0 by lia);have c1:=Int.emod_lt_of_pos ml (show (0:Int) < wys.length by lia);obtain ⟨cc,hcc⟩:∃ cc:Nat,ml % (wys.length:Int)=cc:=⟨_,(Int.toNat_of_nonneg c0).symm⟩;have vw:cc < wys.length:=by lia
        obtain ⟨w1,w2,w3⟩:=hws _ (getElem_mem vw);have hget:=Ac vw;refine ⟨_,Y,.inl ⟨Y,_,SqL.of xf⟩,_,Y,_,Y,_,Y,W2,_,Y,.inl (SqL.of h6),_,_,Y,Y,(by rw [Ab]; lia),W2,_,_,_,rfl,rfl,SqL.of h6,(by rw [Ab,hcc]; exact We hget),r,_,_,Y,Y,xf,(by rw [Ab]; exact Zv (by lia)),?_⟩;refine ⟨row ++ [wys[cc]],_,_,_,Y,Same.add s06 qt,?_,?_,ch.snoc wy hsd w2 w3 w1,by simp,by rw [Ae,At]; lia⟩
        · rw [Ze (Ne.symm hrq)]; exact h3'
        · rw [Zc,Aj]; rfl
      · rintro σ H3 ⟨row,v4,v5,v6,rfl,s3,h3,h4,ch,rne,xj⟩
        rw [Ab] at xj;exact jy _ _ ⟨row,_,_,_,Y,s3,h4,ch,by lia⟩
    rintro σ H3 ⟨row,v4,v5,v6,rfl,s3,h3,ch,xj⟩;show tSeq (tFor _ _ _) _ _ _ _;refine Zz (λσ H4=>H4=H3) (λnx jy=>?_) ?_
    · refine ⟨_,Y,r,_,Y,.inl (SqL.of h3),_,Y,by lia,by rw [Ab]; lia,?_⟩
      have eR:(((row.map nV).length:Nat):Int).toNat=row.length:=by simp
      rw [eR];refine Ql (n:=row.length) (λi σ H4=>∃ v7 v8,σ=[some (.ref m),some (.ref a),some (.ref D),some (.ref r),v4,v5,v6,v7,v8]/\H4=H3) ⟨_,_,Y,Y⟩ ?_ ?_
      · rintro i σ H4 hi ⟨v7,v8,rfl,rfl⟩
        dsimp only [Zj];rw [Int.zero_add];refine ⟨_,Y,_,_,Y,Y,_,Y,r,_,Y,.inl (SqL.of h3),((i + 1:Nat):Int),row.length - (i + 1),?_,by lia,by lia,?_⟩
        · rw [Ab]
          show [V.int ((i:Int) + 1),V.int (row.length:Int)]=_;rw [show ((i:Int) + 1)=((i + 1:Nat):Int) by lia,show (row.length:Int)=((i + 1:Nat):Int) + ((row.length - (i + 1):Nat):Int) by lia]
        refine Zjj (n:=row.length - (i + 1)) (λc σ H5=>∃ v8,σ=[some (.ref m),some (.ref a),some (.ref D),some (.ref r),v4,v5,v6,some (.int i),v8]/\H5=H4) ⟨_,Y,Y⟩ ?_ ?_
        · rintro c σ H4 hc ⟨v8,rfl,rfl⟩
          obtain ⟨e,he,hie,hel⟩:∃ e:Nat,((i + 1:Nat):Int) + ((row.length - (i + 1):Nat):Int) - 1 + (c:Int) * -1=(e:Int)/\i < e/\e < row.length:=⟨row.length - 1 - c,by lia,by lia,by lia⟩;dsimp only [Zj];rw [he];have gi:=Ac hi;have ge:=Ac hel;refine ⟨_,Y,_,Y,r,_,_,_,Y,Y,SqL.of h3,We gi,_,Y,_,Y,r,_,_,_,Y,Y,SqL.of h3,We ge,Y,_,Y,?_⟩;refine ite2 (λz=>?_) (λz=>?_)
          · have z:nV row[i]=nV row[e]:=of_decide_eq_true z
            have z:row[i]=row[e]:=by unfold nV at z; injection z with z; lia
            refine ⟨_,Y,_,Y,_,Y,_,Y,_,Y,r,_,Y,SqL.of h3,λl hl=>?_⟩;have ec:cutV (row.map nV) (some (i:Int)) (some (e:Int))=((row.drop i).take (e - i)).map nV:=by
              unfold cutV
              rw [HT.sIx_nat,HT.sIx_nat,Ab,Nat.min_eq_left (by lia),Nat.min_eq_left (by lia),map_take,map_drop]
            rw [ec];refine k l _ _ (Same.add s3 (s3.free hl)) (s3.free hl) Zc ?_ (.inr (ch.cut hie gi (by rw [ge,z])));rw [Ai,length_drop]; lia
          · exact ⟨_,Y,Y⟩
        · rintro σ H4 ⟨v8,rfl,rfl⟩
          exact ⟨_,_,Y,Y⟩
      · rintro σ H4 ⟨v7,v8,rfl,rfl⟩
        exact jy _ _ Y
    · rintro σ H4 rfl
      exact ⟨Az _,λl hl=>k l [] _ (Same.add s3 (s3.free hl)) (s3.free hl) Zc (Az _) (.inl Y)⟩
noncomputable def J6 (ws:List Int) (by':Int):List Int:=rot ws (by' % ws.length).toNat
def Zj2:Sp:=λvs H Q _=>∃ (a:Addr) (ws:List Int) (b:Int),vs=[.ref a,.int b]/\H a=some (.lst (ws.map V.int))/\ws.length<=100000/\∀ (l:Addr) (H':Hp),Same H H'->H l=none->H' l=some (.lst ((J6 ws b).map V.int))->Q (.ref l) H'
def Zd2 (C:Addr):Sp:=λvs H Q _=>∃ (p:Addr) (M:Lw) (ns:List Int) (x:Int),vs=[.ref p,.int x]/\Zy C H p M ns/\M.length=ns.length/\Q (.bl (X4 M x)) H
def Zio (C:Addr):Sp:=λvs H Q _=>∃ (p:Addr) (M:Lw) (ns:List Int) (a x:Int),vs=[.ref p,.int a,.int x]/\Zy C H p M ns/\M.length=ns.length/\X4 M a=true/\Q (.bl (Wu M a x)) H
def Zmb (C:Addr):Sp:=λvs H Q _=>∃ (p a:Addr) (M:Lw) (ns ws:List Int),vs=[.ref p,.ref a]/\Zy C H p M ns/\M.length=ns.length/\H a=some (.lst (ws.map V.int))/\ws.length<=100000/\∀ H',Same H H'->Q (.bl (Wy M ws)) H'
def Za4 (C EN:Addr):Sp:=λvs H Q E=>∃ (p a:Addr) (M:Lw) (ns ws:List Int),vs=[.ref p,.ref a]/\Zy C H p M ns/\M.length=ns.length/\H a=some (.lst (ws.map V.int))/\ws.length<=100000/\∀ H',Same H H'->(Wy M ws=true->Q .non H')/\(Wy M ws=false->E (.ref EN) none H')
def U4 {n:Nat} (h:n<=100000):n<=sizeLine:=by rw [sizeLine_eq]; lia
def Znq {ws:List Int} (h:s<=ws.length):cutV (ws.map V.int) (some (s:Int)) none=(ws.drop s).map V.int:=by
 unfold cutV;rw [HT.sIx_nat,HT.sIx_none,Ab,Nat.min_eq_left h,map_drop,take_of_length_le];rw [length_drop,Ab];exact An _
def Zr8 {ws:List Int} (h:s<=ws.length):cutV (ws.map V.int) none (some (s:Int))=(ws.take s).map V.int:=by
 unfold cutV;rw [HT.sIx_none,HT.sIx_nat,Ab,Nat.min_eq_left h,drop_zero,Nat.sub_zero,map_take]
def Go:FnScope ["_law_script","_law_at","_law_mates","_law_cell_here"] ["_law_script","_law_at","_law_mates"] (Zh F9):=Am
def Zgz (T:Txt w K mg t):FnOk P w K mg base (CXr P w) 2 t.fi t.fB ["_law_script","_law_at","_law_mates"] (Zj4 K):=by
 refine T.fI.F.aR Go (a:)
 ·obtain ⟨a,m,sc,i,M,rfl,hS,hl,i0,i1,hm,h42,hn,inv,k⟩:=h
  refine ⟨_,(Zd (Zp (i:=3) Go.nd Y (Or.inl Y) (pcT (Qf T) hr T.bL (Za (pv 0) (s:))))
   (Zg (Zm (pcT (Zku T) hr T.gY (Za (pv 2) (Za (pcT (Vp T) hr T.bA (Za (Zi Xo (pv 3) Zf) (Za (Zi Yr Zf (Zi Yh (pv 3) Zf)) Zb))) Zb)))))),?_⟩;refine ⟨_,Y,_,Y,a,sc,i,Y,hS,hl,i0,by lia,?_⟩;dsimp only [Zj];generalize cell sc i=c;have m0:0<=c % 50:=Int.emod_nonneg _ (d:);have m1:c % 50 < 50:=Int.emod_lt_of_pos _ (d:);have e:(4 + c % 50:Int)=((4 + (c % 50).toNat:Nat):Int):=by lia
  refine ⟨_,Y,_,Y,_,_,Y,Y,⟨by decide,by decide⟩,_,Y,_,_,Y,Y,(by show (0:Int) < 50; decide),_,_,rfl,rfl,_,4 + (c % 50).toNat,(by rw [<- e]; rfl),by lia,λp xs H1 s1 hp h1 uf hx=>?_⟩;refine ⟨m,p,M,xs,Y,s1 _ _ hm,h1,λz=>by rw [z] at uf; simp at uf; lia,by lia,hx,h42,hn,inv,λl ws H2 s2 kf h2 hw k8=>k l ws H2 (s1.trans s2) (s1.free kf) h2 hw k8⟩
def Zcc:FnScope ["word","by","start"] ["word","by"] (Zh Zej):=Am
def Ku (T:Txt w K mg t):FnOk P w K mg base (CXr P w) 1 t.gA t.gL ["word","by"] Zj2:=by
 refine T.dG.F.aR Zcc (a:)
 ·obtain ⟨a,ws,b,rfl,ha,hl,k⟩:=h
  refine ⟨_,(Zd (Z2 (Wx (W8 (pv 0) (λ_=>rfl))) (Zg (Zm (Yn Zb))) Zx)
   (Zd (Zp (i:=2) Zcc.nd rfl (f:) (Zi Yh (pv 1) (v:)))
   (Zg (Zm (Zi Zfe (Vm Ue (pv 0) (Jv (pv 2)) Zbn) (Vm Ue (pv 0) Zbn (Jv (pv 2)))))))),?_⟩;refine Zn λjx ji=>?_;refine ⟨_,Y,_,.inl ⟨_,SqL.of ha,Y⟩,?_⟩;by_cases j9:ws=[]
  ·subst j9
   exact iteT ⟨Az _,λl vo=>k l _ (Same.new vo) vo (by rw [Zc]; unfold J6 rot; simp)⟩
  ·have e:(!(ws.map V.int).isEmpty)=true:=by cases ws with | nil=>exact absurd rfl j9 | cons _ _=>rfl
   have hp:0 < ws.length:=by cases ws with | nil=>exact absurd rfl j9 | cons _ _=>simp
   rw [e];refine iteF ?_;dsimp only [Wz];refine ji _ _ ?_;have k0:=Int.emod_nonneg b (show (ws.length:Int)≠0 by lia);have k1:=Int.emod_lt_of_pos b (show (0:Int) < ws.length by lia);obtain ⟨st,k7⟩:∃ st:Nat,b % (ws.length:Int)=st:=⟨_,(Int.toNat_of_nonneg k0).symm⟩;have yi:st<=ws.length:=by lia
   have et:J6 ws b=ws.drop st ++ ws.take st:=by unfold J6 rot; rw [k7,Int.toNat_natCast]
   refine ⟨_,Y,_,Y,a,_,Y,.inl (SqL.of ha),_,_,Y,Y,(by rw [Ab]; lia),?_⟩;dsimp only [Zj];rw [Zm9,k7];refine ⟨_,Y,_,Y,_,Y,a,_,Y,SqL.of ha,λl1 h1=>?_⟩;rw [Znq yi];have s1:Same H (upd H l1 (.lst ((ws.drop st).map V.int))):=Same.new h1;refine ⟨_,Y,_,Y,_,Y,a,_,Y,SqL.of (s1 _ _ ha),λl2 h2=>?_⟩;rw [Zr8 yi];obtain ⟨u7,h2'⟩:=Wi h2;refine ⟨l1,l2,_,_,Y,Y,by rw [Ze (Ne.symm u7),Zc],Zc,?_,λl3 h3=>?_⟩
   ·rw [Ab,Ab,length_drop,Ai]; exact U4 (by lia)
   ·have s3:=Same.add (o:=.lst ((ws.take st).map V.int)) s1 h2'
    refine k l3 _ (Same.add s3 (s3.free h3)) (s3.free h3) ?_;rw [Zc,et,Aj]
def Zee:FnScope ["tent","place"] ["tent","place"] (Zh Gs):=Am
def Zfg (T:Txt w K mg t):FnOk P w K mg base (CXr P w) 4 t.dY t.eF ["tent","place"] (Zd2 t.aa):=by
 refine T.eP.F.aR Zee (a:)
 ·obtain ⟨p,M,ns,x,rfl,ta,kg,k⟩:=h
  obtain ⟨dx,cl,na,sp,mt,o,f,b⟩:=id ta;refine ⟨_,(Zg (Zm (Ze8 (Yk (pv 0) T.aj T.aE.m (Qw T) (hr.mono (d:)) T.aE.b .nil Yf (s:)) (Ze6 (Wg K4 (Yk (pv 0) T.aj T.ar.m (Wq T) (hr.mono (d:)) T.ar.b .nil Yf (s:)) Us (Zs _)))))),?_⟩;refine ⟨_,Y,p,dx,_,Y,b.ins,Yu _ _ _ _,_,Y,p,M,ns,x,Y,ta,_,Y,?_⟩;by_cases c:0<=x/\x < (ns.length:Int)
  ·rw [decide_eq_true c]
   refine iteT ⟨_,Y,p,dx,_,Y,b.ins,Yu _ _ _ _,_,Y,p,M,ns,x,Y,ta,kg,λi y e1 e2=>?_,λz=>absurd c z⟩;refine ⟨Y,?_⟩
   have:X4 M x=!decide (mV y=.non):=by
    unfold X4;rw [e1,Int.toNat_natCast,Ad,e2,decide_eq_true (show (0:Int)<=i/\(i:Int) < M.length by lia)];cases y <;> rfl
   rw [this] at k;exact k
  ·rw [decide_eq_false c]
   have:X4 M x=false:=by unfold X4; rw [decide_eq_false (by lia)]; rfl
   rw [this] at k;exact iteF k
def F4:FnScope ["tent","ahead","place","entry"] ["tent","ahead","place"] (Zh Zck):=Am
def Zi9 (T:Txt w K mg t):FnOk P w K mg base (CXr P w) 4 t.fN t.fX ["tent","ahead","place"] (Zio t.aa):=by
 refine T.gh.F.aR F4 (a:)
 ·obtain ⟨p,M,ns,a,x,rfl,ta,kg,hc,k⟩:=h
  obtain ⟨dx,cl,na,sp,mt,o,f,b⟩:=id ta;refine ⟨_,(Zd (Zp (i:=3) F4.nd Y (Or.inl Y) (Yk (pv 0) T.aj T.ar.m (Wq T) (hr.mono (d:)) T.ar.b .nil Yf (s:)))
   (Zg (Zm (Ze8 (Wg Yt (pcT (J9 T) hr T.bg (B:)) (pcT (J9 T) hr T.bg (Za (pv 3) Zb)) (Zs _)) (Ze6 (Wg Jk (pv 2) (pv 3) (Zs _))))))),?_⟩
  obtain ⟨mv,hs1⟩:=Bool.and_eq_true_iff.mp hc;have mv:=of_decide_eq_true mv;obtain ⟨m,hm⟩:=Option.isSome_iff_exists.mp hs1;have hal:a.toNat < M.length:=by lia
  have ha:M[a.toNat]?=some (some m):=by rw [Ad,Ac hal] at hm; rw [Ac hal]; exact congrArg some hm
  have ef:Wu M a x=(decide (x / 3=(m:Int) / 3) && !decide (x=(m:Int))):=by unfold Wu; rw [hm]
  rw [ef] at k;refine ⟨_,Y,p,dx,_,Y,b.ins,Yu _ _ _ _,_,Y,p,M,ns,a,Y,ta,kg,λi y e1 e2=>?_,λz=>absurd (show 0<=a/\a < (ns.length:Int) by lia) z⟩;have:i=a.toNat:=by lia
  subst this;rw [ha] at e2;cases e2;refine ⟨_,Y,_,Y,_,Y,_,Y,Y,_,Y,?_⟩;have dI:∀ u v:Int,decide (V.int u=V.int v)=decide (u=v):=λu v=>by
   by_cases z:u=v
   ·subst z; simp
   ·rw [decide_eq_false z,decide_eq_false (λy=>z (by injection y))]
  rw [dI];by_cases z:x / 3=(m:Int) / 3
  ·rw [decide_eq_true z] at k ⊢
   refine iteT ⟨_,Y,_,Y,Y,?_⟩;show Q (.bl (!decide (V.int x=V.int (m:Int)))) H;rw [dI];exact k
  ·rw [decide_eq_false z] at k ⊢
   exact iteF k
def Zmh:FnScope ["tent","word"] ["tent","word"] (Zh Zhf):=Am
def Zmy (T:Txt w K mg t):FnOk P w K mg base (CXr P w) 5 t.ie t.im ["tent","word"] (Zmb t.aa):=by
  refine T.iu.F.aR Zmh (a:)
  · obtain ⟨p,a,M,ns,ws,rfl,ta,kg,ha,hl,k⟩:=h
    refine ⟨_,(Zd (Z2 (PW.pt (Q0 (Wx (W8 (pv 1) (λ_=>rfl))) (Jh (Wx (Qd (Zt (Ft Y) (by rfl) T.iI PyProof.Rows.boot_all (Za (Yp (ts:=["place"]) (fv:=[("tent",0)]) (b:) rfl (Yj (pv 1)) (λ_ _ _ _=>(Zk (i:=0) (show List.Nodup (["place","tent"]:List Str) from by decide +kernel) rfl (f:) (Or.inr rfl))) (λ_ _ _ _=>Yd) (λ_ _ _=>rfl) (λ_ _ _ _ _ _=>Yo (pcT (Zfg T) hr T.eP (Za (pv 1) (Za (pv 0) Zb))))) Zb))))))) (Zg (Zm U9)) Zx)
      (Zg (Zm (Zt (Ft rfl) (by rfl) T.iI PyProof.Rows.boot_all (Za (Yp (ts:=["ahead","place"]) (fv:=[("tent",0)]) (b:) rfl (Zbo rfl T.iK (Za (pv 1) (Za (pcT (Ku T) hr T.dG (Za (pv 1) (Za Zf Zb))) Zb))) (λ_ _ _ _=>(Va (n:=2) K rfl (Z0 (Zk (i:=0) (show List.Nodup (["ahead","place","tent"]:List Str) from by decide +kernel) rfl (f:) (Or.inr rfl)) (Z0 (Zk (i:=1) (show List.Nodup (["ahead","place","tent"]:List Str) from by decide +kernel) rfl (f:) (Or.inr rfl)) Xg)))) (λ_ _ _ _=>Yd) (λ_ _ _=>rfl) (λ_ _ _ _ _ _=>Yo (pcT (Zi9 T) hr T.gh (Za (pv 2) (Za (pv 0) (s:)))))) Zb))))),?_⟩;refine Zn λjx ji=>?_;refine ⟨_,Y,_,.inl ⟨_,SqL.of ha,Y⟩,?_⟩;by_cases j9:ws=[]
    · subst j9
      exact iteT (k _ (Same.refl _))
    · have e:(!(ws.map V.int).isEmpty)=true:=by cases ws with | nil=>exact absurd rfl j9 | cons _ _=>rfl
      have e':(!ws.isEmpty)=true:=by cases ws with | nil=>exact absurd rfl j9 | cons _ _=>rfl
      have hp:0 < ws.length:=by cases ws with | nil=>exact absurd rfl j9 | cons _ _=>simp
      rw [e];refine iteF ?_;refine ⟨_,Y,a,Y,⟨_,SqL.of ha⟩,λD hD=>?_⟩;refine Yl (xs:=ws.map V.int) (λi σ H1=>∃ v,σ=[v,some (.ref p)]/\Same H H1/\H1 D=some (.lst (((ws.take i).map (X4 M)).map V.bl))) ⟨none,Y,Same.new hD,Zc⟩ ?_ ?_ ?_
      · rintro i σ H1 _ ⟨v,rfl,sm,h1⟩
        exact SqL.of (sm _ _ ha)
      · rintro i x σ H1 hx ⟨v,rfl,sm,h1⟩
        obtain ⟨y,hy,rfl⟩:=Z6 hx;dsimp only [Zj,tYes];rw [if_pos rfl];refine ⟨_,Y,_,Y,p,M,ns,y,Y,ta.same sm,kg,_,h1,?_,_,Y,Same.add sm hD,?_⟩
        · rw [Ab,Ab,Ai,sizeLine_eq]; lia
        · rw [Zc,Aw,hy,Aj,Aj]; rfl
      rintro σ H1 ⟨v,rfl,s1,h1⟩;rw [Ab,take_length] at h1;refine ⟨D,_,Y,SqL.of h1,_,Y,?_⟩;by_cases hc:(ws.map (X4 M)).all id=true
      · rw [hc]
        refine iteF ?_;dsimp only [Wz];refine ji _ _ ?_;refine ⟨_,Y,_,Y,a,ws,1,Y,s1 _ _ ha,hl,λtl H2 s2 htl h2=>?_⟩;have lg:=s1.trans s2;have et:J6 ws 1=rot ws (1 % ws.length):=by
          unfold J6
          congr 1
        rw [et] at h2;have tm:(rot ws (1 % ws.length)).length=ws.length:=Jq ws (Nat.le_of_lt (mod_lt _ hp));have hcr:∀ y∈ws,X4 M y=true:=λy hy=>all_eq_true.mp hc _ (mem_map.mpr ⟨y,hy,rfl⟩);have ep:Wy M ws=(Jj M ws (rot ws (1 % ws.length))).all id:=by unfold Wy; rw [e',hc]; rfl
        have k':=λH' s'=>k H' s';rw [ep] at k';generalize rot ws (1 % ws.length)=vs at h2 tm k';refine ⟨.l a,.l tl,_,_,Y,SqL.of (lg _ _ ha),SqL.of h2,λD2 lx=>?_⟩;refine Zcr (S:=.l a) (T:=.l tl) (xs:=ws.map V.int) (ys:=vs.map V.int) (by rw [Ab,Ab,tm]) (λi σ H3=>∃ v v',σ=[v,v',some (.ref p)]/\Same H2 H3/\H3 D2=some (.lst (((Jj M ws vs).take i).map V.bl))) ⟨none,none,Y,Same.new lx,Zc⟩ ?_ ?_ ?_
        · rintro i σ H3 _ ⟨v,v',rfl,s3,h3⟩
          exact ⟨SqL.of (s3 _ _ (lg _ _ ha)),SqL.of (s3 _ _ h2)⟩
        · rintro i x y σ H3 q hx hy hq ⟨v,v',rfl,s3,h3⟩
          obtain ⟨x',mf,rfl⟩:=Z6 hx;obtain ⟨y',mo,rfl⟩:=Z6 hy;have s4:Same H3 (upd H3 q (.tup [V.int x',V.int y'])):=Same.new hq;refine ⟨q,_,Y,SqT.of Zc,Y,_,_,Y,_,_,Y,Y,?_⟩;dsimp only [tYes];rw [if_pos rfl];refine ⟨_,Y,_,Y,_,Y,p,M,ns,x',y',Y,((ta.same lg).same s3).same s4,kg,hcr x' (Au mf),_,s4 _ _ h3,?_,_,_,Y,Same.add (s3.trans s4) lx,?_⟩
          · rw [Ab,Ai]
            have:(Jj M ws vs).length<=ws.length:=by unfold Jj; rw [Ab,length_zip]; lia
            rw [sizeLine_eq]; lia
          · have:(Jj M ws vs)[i]?=some (Wu M x' y'):=by
              unfold Jj;rw [Ah,getElem?_zip_eq_some (z:=(x',y')) |>.mpr ⟨mf,mo⟩];rfl
            rw [Zc,Aw,this,Aj];rfl
        rintro σ H3 ⟨v,v',rfl,s3,h3⟩;have k8:(Jj M ws vs).length=ws.length:=by unfold Jj; rw [Ab,length_zip]; lia
        rw [Ab,take_of_length_le (Nat.le_of_eq k8)] at h3;exact ⟨D2,_,Y,SqL.of h3,k' _ (lg.trans s3)⟩
      · have hc:(ws.map (X4 M)).all id=false:=by rw [Bool.eq_false_iff]; exact hc
        rw [hc];have ep:Wy M ws=false:=by unfold Wy; rw [hc]; simp
        have:=k _ s1;rw [ep] at this;exact iteT this
def Zbb:FnScope ["tent","word"] ["tent","word"] (Zh Om):=Am
def Jy (T:Txt w K mg t):FnOk P w K mg base (CXr P w) 6 t.cK t.cT ["tent","word"] (Za4 t.aa t.dg):=by
 refine T.aZ.F.aX Zbb (a:)
 ·obtain ⟨p,a,M,ns,ws,rfl,ta,kg,ha,hl,k⟩:=h
  refine ⟨_,(Zw (X2 (Wx (Qd (pcT (Zmy T) hr T.iu (Za (pv 0) (s:))))) (Zw (Wm T.hV FBV Y T.g6 Y (Za Zr Zb))) W9)),?_⟩;refine ⟨_,Y,_,Y,p,a,M,ns,ws,Y,ta,kg,ha,hl,λH' s'=>⟨_,Y,?_⟩⟩;obtain ⟨k1,k2⟩:=k H' s'
  cases e:Wy M ws with
  | true=>exact iteF (k1 e)
  | false=>exact iteT ⟨by decide,k2 e⟩
def K6 (ws:List Nat):ws.map nV=(wI ws).map V.int:=by rw [map_map]; rfl
def Vd (ws:List Nat):(wI ws).length=ws.length:=by simp
noncomputable def Qc (M:Lw) (ws:List Nat):List Nat:=ws.reverse.map λp=>(M.getD p none).getD 0
def Qn (M:Lw) (ws:List Nat):(Qc M ws).length=ws.length:=by unfold Qc; simp
def Zlv {M:Lw} {ws:List Nat} {i:Nat} (h:ws.reverse[i]?=some p) (hm:M[p]?=some (some m)):(Qc M ws)[i]?=some m:=by
 unfold Qc;rw [Ah,h];show some ((M.getD p none).getD 0)=some m;rw [Ad,hm];rfl
def Zgs (C:Addr):Sp:=λvs H Q _=>∃ (p a:Addr) (M:Lw) (ns:List Int) (ws:List Nat),vs=[.ref p,.ref a]/\Zy C H p M ns/\M.length=ns.length/\H a=some (.lst (ws.map nV))/\ws.length<=10000/\Pl M ws/\∀ (l:Addr) (H':Hp),Same H H'->H l=none->H' l=some (.lst ((Qc M ws).map nV))->Q (.ref l) H'
def Zgw:FnScope ["tent","word"] ["tent","word"] (Zh Zac):=Am
def Zg1 (T:Txt w K mg t):FnOk P w K mg base (CXr P w) 7 t.fb t.ft ["tent","word"] (Zgs t.aa):=by
 refine T.fG.F.aX Zgw (a:)
 ·obtain ⟨p,a,M,ns,ws,rfl,ta,kg,ha,hl,hP,k⟩:=h
  refine ⟨_,(Ys (Y1 (pxT (Jy T) hr T.aZ (Za (pv 0) (s:))))
   (Zw (Wd (Zm (Yp (ts:=["place"]) (fv:=[("tent",0)]) (b:) rfl (Zrg rfl T.dh (s:)) (λ_ _ _ _=>(Zk (i:=0) (show List.Nodup (["place","tent"]:List Str) from by decide +kernel) rfl (f:) (Or.inr rfl))) (λ_ _ _ _=>Yd) (λ_ _ _=>rfl) (λ_ _ _ _ _ _=>Yo (Yk (pv 1) T.aj T.ar.m (Wq T) (hr.mono (d:)) T.ar.b .nil Yf (Za (pv 0) Zb)))))))),?_⟩;refine ⟨_,Y,_,Y,p,a,M,ns,wI ws,Y,ta,kg,by rw [ha,K6],by rw [Vd]; lia,λH1 s1=>⟨λ_=>?_,λz=>absurd ((Kn.mpr hP).symm.trans z) (d:)⟩⟩;refine ⟨_,Y,a,_,Y,SqL.of (s1 _ _ ha),λD hD=>?_⟩;refine Zm6 (xs:=ws.map nV) (λi σ H2=>∃ v,σ=[v,some (.ref p)]/\Same H1 H2/\H2 D=some (.lst (((Qc M ws).take i).map nV))) ⟨none,Y,Same.new hD,Zc⟩ ?_ ?_ ?_
  ·rintro i σ H2 _ ⟨v,rfl,sm,h2⟩
   exact SqL.of (sm _ _ (s1 _ _ ha))
  ·rintro i x σ H2 hx ⟨v,rfl,sm,h2⟩
   obtain ⟨q,hq,rfl⟩:∃ q,ws.reverse[i]?=some q/\x=nV q:=by
    rw [<- map_reverse,Ah] at hx
    cases e:ws.reverse[i]? with
    | none=>rw [e] at hx; cases hx
    | some y=>rw [e] at hx; cases hx; exact ⟨y,Y,Y⟩
   obtain ⟨mt,tw⟩:=hP.has q (mem_reverse.mp (Au hq));have p7:=(ta.same s1).same sm;obtain ⟨dx,cl,na,sp,zc,o,f,b⟩:=id p7;have hqM:q < M.length:=(Aa tw).1;dsimp only [Zj,tYes];rw [if_pos rfl];refine ⟨_,Y,p,dx,_,Y,b.ins,Yu _ _ _ _,_,Y,p,M,ns,q,Y,p7,kg,λi' y e1 e2=>?_,λz=>absurd (show (0:Int)<=q/\(q:Int) < ns.length by lia) z⟩;have:i'=q:=by lia
   subst this;rw [tw] at e2;cases e2;refine ⟨_,h2,?_,_,Y,Same.add sm hD,?_⟩
   ·rw [Ab,Ai,Qn]; exact U4 (by lia)
   ·rw [Zc,Aw,Zlv hq tw,Aj]; rfl
  ·rintro σ H2 ⟨v,rfl,sm,h2⟩
   rw [Ab,take_of_length_le (by rw [Qn]; exact An _)] at h2;exact k D H2 (s1.trans sm) (s1.free hD) h2
def dN {a b:Nat}:decide (V.int (a:Int)=V.int (b:Int))=decide (a=b):=by
 by_cases z:a=b
 ·subst z; simp
 ·rw [decide_eq_false z,decide_eq_false (λy=>z (by injection y with y; lia))]
def Zj6 (C:Addr):Sp:=λvs H Q _=>∃ (p:Addr) (M:Lw) (ns:List Int) (a x m:Nat),vs=[.ref p,.int a,.int x]/\Zy C H p M ns/\M.length=ns.length/\M[a]?=some (some m)/\Q (.str (letS M a x)) H
def Zil (C:Addr):Sp:=λvs H Q _=>∃ (p a:Addr) (M:Lw) (ns:List Int) (ws:List Nat),vs=[.ref p,.ref a]/\Zy C H p M ns/\M.length=ns.length/\H a=some (.lst (ws.map nV))/\ws.length<=10000/\Pl M ws/\∀ H',Same H H'->Q (.str (Txt.join (w:) (o8 M ws))) H'
def Zm7 (M:Lw) (a p:Nat):(letS M a p).length=1:=by unfold letS; split <;> decide
theorem Zft (M:Lw):∀ l:List (Nat × Nat),((l.map λq=>letS M q.1 q.2).map (·.length)).sum=l.length
 | []=>rfl
 | q :: r=>by rw [map_cons,map_cons,sum_cons,Zft M r,Zm7,length_cons]; lia
def Zka:FnScope ["tent","ahead","place"] ["tent","ahead","place"] (Zh Zem):=Am
def Zkt (T:Txt w K mg t):FnOk P w K mg base (CXr P w) 4 t.gB t.gM ["tent","ahead","place"] (Zj6 t.aa):=by
 refine T.gU.F.aR Zka (a:)
 ·obtain ⟨p,M,ns,a,x,m,rfl,ta,kg,ha,k⟩:=h
  obtain ⟨dx,cl,na,sp,zc,o,f,b⟩:=id ta;have haM:a < M.length:=(Aa ha).1;refine ⟨_,(Zg (Zm (Vo (Zo Yt (pv 2) (pcT (Fi T) hr T.eX (Za (Yk (pv 0) T.aj T.ar.m (Wq T) (hr.mono (d:)) T.ar.b .nil Yf (s:)) Zb)) (Zs _)) Zr Zr))),?_⟩;refine ⟨_,Y,_,Y,p,dx,_,Y,b.ins,Yu _ _ _ _,_,Y,p,M,ns,a,Y,ta,kg,λi y e1 e2=>?_,λz=>absurd (show (0:Int)<=a/\(a:Int) < ns.length by lia) z⟩;have:i=a:=by lia
  subst this;rw [ha] at e2;cases e2;refine ⟨(m:Int),Y,Y,_,Y,?_⟩;have e:letS M i x=if x=qg m then Str.ofString "R" else Str.ofString "L":=by unfold letS; rw [Ad,ha]; rfl
  rw [e] at k;rw [Zqj,dN];by_cases z:x=qg m
  ·rw [if_pos z] at k
   rw [decide_eq_true z];exact iteT k
  ·rw [if_neg z] at k
   rw [decide_eq_false z];exact iteF k
def Zit:FnScope ["tent","word"] ["tent","word"] (Zh Zce):=Am
def Zi4 (T:Txt w K mg t):FnOk P w K mg base (CXr P w) 7 t.fO t.fY ["tent","word"] (Zil t.aa):=by
 refine T.gj.F.aX Zit (a:)
 ·obtain ⟨p,a,M,ns,ws,rfl,ta,kg,ha,hl,hP,k⟩:=h
  refine ⟨_,(Ys (Y1 (pxT (Jy T) hr T.aZ (Za (pv 0) (s:))))
   (Zw (Wd (Zm (Xw PySem.F.plainAttrs_str PySem.F.slot_str_join PySem.F.type_str_join K7 Zr (Za (Yp (ts:=["ahead","place"]) (fv:=[("tent",0)]) (b:) rfl (Zbo rfl T.iK (Za (pv 1) (Za (pcT (Ku T) hr T.dG (Za (pv 1) (Za Zf Zb))) Zb))) (λ_ _ _ _=>(Va (n:=2) K rfl (Z0 (Zk (i:=0) (show List.Nodup (["ahead","place","tent"]:List Str) from by decide +kernel) rfl (f:) (Or.inr rfl)) (Z0 (Zk (i:=1) (show List.Nodup (["ahead","place","tent"]:List Str) from by decide +kernel) rfl (f:) (Or.inr rfl)) Xg)))) (λ_ _ _ _=>Yd) (λ_ _ _=>rfl) (λ_ _ _ _ _ _=>Yo (pcT (Zkt T) hr T.gU (Za (pv 2) (Za (pv 0) (s:)))))) Zb)))))),?_⟩
  have hp:0 < ws.length:=by have:=hP.ne; cases ws with | nil=>exact absurd rfl this | cons _ _=>simp
  refine ⟨_,Y,_,Y,p,a,M,ns,wI ws,Y,ta,kg,by rw [ha,K6],by rw [Vd]; lia,λH1 s1=>⟨λ_=>?_,λz=>absurd ((Kn.mpr hP).symm.trans z) (d:)⟩⟩;refine ⟨Y,_,Y,_,Y,a,wI ws,1,Y,by rw [s1 _ _ ha,K6],by rw [Vd]; lia,λtl H2 s2 htl h2=>?_⟩;have lg:=s1.trans s2;have et:(J6 (wI ws) 1).map V.int=(rot ws (1 % ws.length)).map nV:=by
   rw [K6]
   congr 1
   unfold J6
   rw [Vd,show (1 % (ws.length:Int)).toNat=1 % ws.length by
    rw [show (1:Int)=((1:Nat):Int) from rfl,<- Int.natCast_emod,Int.toNat_natCast]]
   unfold rot wI
   rw [Aj,map_drop,map_take]
  rw [et] at h2;have tm:(rot ws (1 % ws.length)).length=ws.length:=Jq ws (Nat.le_of_lt (mod_lt _ hp));unfold o8 at k;generalize rot ws (1 % ws.length)=vs at h2 tm k;refine ⟨.l a,.l tl,_,_,Y,SqL.of (lg _ _ ha),SqL.of h2,λD2 lx=>?_⟩;refine Zcr (S:=.l a) (T:=.l tl) (xs:=ws.map nV) (ys:=vs.map nV) (by rw [Ab,Ab,tm]) (λi σ H3=>∃ v v',σ=[v,v',some (.ref p)]/\Same H2 H3/\H3 D2=some (.lst ((((ws.zip vs).map λq=>letS M q.1 q.2).take i).map V.str))) ⟨none,none,Y,Same.new lx,Zc⟩ ?_ ?_ ?_
  ·rintro i σ H3 _ ⟨v,v',rfl,s3,h3⟩
   exact ⟨SqL.of (s3 _ _ (lg _ _ ha)),SqL.of (s3 _ _ h2)⟩
  ·rintro i x y σ H3 q hx hy hq ⟨v,v',rfl,s3,h3⟩
   obtain ⟨x',mf,rfl⟩:=Z6 hx;obtain ⟨y',mo,rfl⟩:=Z6 hy;have s4:Same H3 (upd H3 q (.tup [nV x',nV y'])):=Same.new hq;obtain ⟨mt,tw⟩:=hP.has x' (Au mf);refine ⟨q,_,Y,SqT.of Zc,Y,_,_,Y,_,_,Y,Y,?_⟩;dsimp only [tYes];rw [if_pos rfl];refine ⟨_,Y,_,Y,_,Y,p,M,ns,x',y',mt,Y,((ta.same lg).same s3).same s4,kg,tw,_,s4 _ _ h3,?_,_,_,Y,Same.add (s3.trans s4) lx,?_⟩
   ·rw [Ab,Ai,Ab,length_zip,sizeLine_eq]
    lia
   ·have:((ws.zip vs).map λq=>letS M q.1 q.2)[i]?=some (letS M x' y'):=by
     rw [Ah,getElem?_zip_eq_some (z:=(x',y')) |>.mpr ⟨mf,mo⟩];rfl
    rw [Zc,Aw,this,Aj];rfl
  rintro σ H3 ⟨v,v',rfl,s3,h3⟩;have k8:((ws.zip vs).map λq=>letS M q.1 q.2).length=ws.length:=by rw [Ab,length_zip]; lia
  rw [Ab,take_of_length_le (Nat.le_of_eq k8)] at h3;exact ⟨_,D2,_,Y,Y,SqL.of h3,by decide,by rw [Zft,Ab,length_zip]; lia,k _ (lg.trans s3)⟩
noncomputable def tp (v:Nat × Nat):HO:=.tup [V.int v.1,V.int v.2]
noncomputable def wD (ks:List Int) (ad:Int->Addr):List (Key × V):=ks.map λx=>((Sum.inl x:Key),V.ref (ad x))
def WAt (H:Hp) (d:Addr) (ks:List Int) (g:Int->Nat × Nat):Prop:=∃ ad:Int->Addr,H d=some (.dK (wD ks ad))/\∀ x∈ks,H (ad x)=some (tp (g x))
def WAt.same {H H':Hp} {d:Addr} {ks:List Int} {g:Int->Nat × Nat} (h:WAt H d ks g) (s:Same H H'):WAt H' d ks g:=by
 obtain ⟨ad,h1,h2⟩:=h;exact ⟨ad,s _ _ h1,λx hx=>s _ _ (h2 x hx)⟩
def WAt.congr {H:Hp} {d:Addr} {ks:List Int} {g g':Int->Nat × Nat} (h:WAt H d ks g) (e:∀ x∈ks,g x=g' x):WAt H d ks g':=by
 obtain ⟨ad,h1,h2⟩:=h;exact ⟨ad,h1,λx hx=>by rw [<- e x hx]; exact h2 x hx⟩
def Zdu (ks:List Int) (ad:Int->Addr):(wD ks ad).length=ks.length:=by unfold wD; rw [Ab]
def Zqn {ks:List Int} {ad:Int->Addr} {y:Int}:valV (wD ks ad) (Sum.inl y)=if y∈ks then some (V.ref (ad y)) else none:=by unfold wD; rw [Ja]
def Zqo {H:Hp} {d:Addr} {ks:List Int} {ad:Int->Addr} {y:Int} (h:Rd H d (.dK (wD ks ad))) (hy:y∈ks):DGet H d (.int y) (some (V.ref (ad y))):=.inl ⟨_,Sum.inl y,h,rfl,by rw [Zqn,if_pos hy]⟩
def Zsb {ks:List Int} {ad:Int->Addr} {i:Nat} {k:Key} {v:V} (h:(wD ks ad)[i]?=some (k,v)):∃ y,ks[i]?=some y/\k=Sum.inl y/\v=V.ref (ad y):=by
 unfold wD at h;rw [Ah] at h
 cases e:ks[i]? with
 | none=>rw [e] at h; cases h
 | some z=>rw [e] at h; cases h; exact ⟨z,Y,Y,Y⟩
def WAt.new {H:Hp} {d q:Addr} {ks:List Int} {g:Int->Nat × Nat} {ad:Int->Addr} {y:Int} {v:Nat × Nat} (h1:H d=some (.dK (wD ks ad))) (h2:∀ x∈ks,H (ad x)=some (tp (g x))) (hq:H q=some (tp v)) (hy:y ∉ ks) :
  WAt (upd H d (.dK (putK (wD ks ad) (Sum.inl y) (V.ref q)))) d (ks ++ [y]) (putG g y v):=by
 have nd:∀ r u,H r=some (tp u)->r≠d:=λr u h z=>by rw [z,h1] at h; cases h
 refine ⟨λx=>if x=y then q else ad x,?_,λx hx=>?_⟩
 ·rw [Zc]
  unfold wD;rw [Zbk hy,Aj];congr 3
  ·apply map_congr_left
   intro x hx;have:x≠y:=λz=>hy (z ▸ hx);simp [this]
  ·simp
 ·unfold putG
  show upd H d _ (if x=y then q else ad x)=some (tp (if x=y then v else g x));by_cases c:x=y
  ·rw [if_pos c,if_pos c,Ze (nd _ _ hq)]; exact hq
  ·rw [if_neg c,if_neg c]
   have mf:x∈ks:=by
    rcases mem_append.mp hx with z | z
    ·exact z
    ·exact absurd (Af z) c
   rw [Ze (nd _ _ (h2 x mf))]; exact h2 x mf
def okD (m n:Nat):Prop:=Nat.gcd m n < 2 ^ 8900
def Zpo {m n:Nat} (hm:1<=m) (h:okD m n):Za1 (m:Int) (Nat.gcd m n:Nat)/\Za1 (n:Int) (Nat.gcd m n:Nat):=by
 have h1:0 < Nat.gcd m n:=gcd_pos_of_pos_left _ hm;have h3:(((Nat.gcd m n:Nat):Int)).natAbs.log2 < 9000:=by
  refine Ag (log2_lt (k:=8900) ?_ (d:)) (d:)
  rw [Int.natAbs_natCast]
  exact h
 exact ⟨⟨by lia,h3⟩,⟨by lia,h3⟩⟩
def Zrn {m n:Nat} (hm:1<=m) (h:m < 2 ^ 8900):okD m n:=Nat.lt_of_le_of_lt (le_of_dvd hm (gcd_dvd_left _ _)) h
def Zj7:Sp:=λvs H Q _=>∃ a b:Nat,vs=[.int a,.int b]/\Q (.int (Nat.gcd a b:Nat)) H
def G6 (EF:Addr):Sp:=λvs H Q E=>∃ a b:Int,vs=[.int a,.int b]/\(1<=a->1<=b->Q .non H)/\(a < 1\/b < 1->E (.ref EF) none H)
def Zgq (EF:Addr):Sp:=λvs H Q E=>∃ a b:Int,vs=[.int a,.int b]/\(∀ m n:Nat,a=m->b=n->1<=m->1<=n->okD m n/\∀ p,H p=none->Q (.ref p) (upd H p (tp (lowN m n))))/\(a < 1\/b < 1->E (.ref EF) none H)
def Zc9 (C:Addr):Sp:=λvs H Q _=>∃ (p:Addr) (M:Lw) (ns:List Int),vs=[.ref p]/\Zy C H p M ns/\TD M ns/\ns.length < 64/\∀ (l:Addr) (H':Hp) (out:List Int),Same H H'->H l=none->H' l=some (.lst (out.map V.int))->out.Pairwise (·<=·)->SwK M ns out->Q (.ref l) H'
def Za7 (C:Addr):Sp:=λvs H Q _=>∃ (p:Addr) (M:Lw) (ns:List Int),vs=[.ref p]/\Zy C H p M ns/\TD M ns/\ns.length < 64/\∀ (d:Addr) (H':Hp) (ks:List Int),Same H H'->H d=none->WAt H' d ks (λ_=>(1,1))->SwK M ns ks->Q (.ref d) H'
def Zj5 (C:Addr):Sp:=λvs H Q _=>∃ (p d:Addr) (M:Lw) (ns ks:List Int) (g:Int->Nat × Nat),vs=[.ref p,.ref d]/\Zy C H p M ns/\TD M ns/\ns.length < 64/\WAt H d ks g/\SwK M ns ks/\(∀ x∈ks,1<=(g x).1/\1<=(g x).2/\(g x).1 < 2 ^ 8900) /\
 ∀ (d':Addr) (H':Hp),Same H H'->H d'=none->WAt H' d' ks (o6 g)->Q (.ref d') H'
def mulN {m n:Nat} (h1:m < 2 ^ 60000) (h2:n < 2 ^ 60000):IntMulOk (m:Int) (n:Int):=PyProof.Rows.mulOk_of_bits (Zb2 (k:=60000) (by rw [Int.natAbs_natCast]; exact h1) (d:)) (Zb2 (k:=60000) (by rw [Int.natAbs_natCast]; exact h2) (d:)) (d:)
def Zec {M:Lw} {ns:List Int} (td:TD M ns) {x:Int} (hx:x∈keys ns ns.length):SwN M ns x ↔ Y5 ns x≠"rim":=by
 constructor
 ·rintro ⟨p,j,h1,h2⟩ e
  rcases U3 td hx with ⟨_,a,e1,ma⟩ | ⟨e',_⟩ | ⟨e',_⟩
  ·have hp:p∈pl ns ns.length x:=Xd.mpr ⟨(Aa h2).1,h2⟩
   rw [e1,mem_singleton] at hp;rw [hp,ma] at h1;cases h1
  ·exact t_lr (e'.symm.trans e)
  ·exact t_fr (e'.symm.trans e)
 ·intro e
  rcases U3 td hx with ⟨e',_⟩ | ⟨_,a,b,_,e1,ma,_⟩ | ⟨_,a,b,_,e1,ma,_⟩
  ·exact absurd e' e
  ·have hp:a∈pl ns ns.length x:=by rw [e1]; exact mem_cons_self
   exact ⟨a,b,ma,(Xd.mp hp).2⟩
  ·have hp:a∈pl ns ns.length x:=by rw [e1]; exact mem_cons_self
   exact ⟨a,b,ma,(Xd.mp hp).2⟩
def SwK.len {M:Lw} {ns ks:List Int} (sw:SwK M ns ks) (td:TD M ns):ks.length<=ns.length:=by
 have e:ks.Perm ((keys ns ns.length).filter λx=>decide (x∈ks)):=(perm_ext_iff_of_nodup sw.nd ((Ob ns ns.length).filter _)).mpr λx=>by
  rw [mem_filter,decide_eq_true_eq];exact ⟨λh=>⟨((sw.mem x).mp h).key td,h⟩,λh=>h.2⟩
 have h1:=e.length_eq;have h2:=length_filter_le (λx=>decide (x∈ks)) (keys ns ns.length);have h3:=Vs ns ns.length;lia
noncomputable def swB (ns:List Int) (x:Int):Bool:=!decide (V.str (Y5 ns x)=V.str "rim")
def Zor {ns:List Int} {x:Int}:swB ns x=true ↔ Y5 ns x≠"rim":=by
 unfold swB;rw [Bool.not_eq_true',decide_eq_false_iff_not];exact ⟨λh e=>h (by rw [e]),λh e=>h (by injection e)⟩
def Gk {α:Type} {f:α->Bool} {l:List α} {i:Nat} {x:α} (h:l[i]?=some x):(l.take (i + 1)).filter f=if f x=true then (l.take i).filter f ++ [x] else (l.take i).filter f:=by
 rw [Aw,h,filter_append];by_cases c:f x=true
 ·simp [c]
 ·simp [c]
def Qr:FnScope ["one","other"] ["one","other"] (Zh Vj):=Am
def Qv (T:Txt w K mg t):FnOk P w K mg base (CXr P w) 1 t.bH t.bK ["one","other"] Zj7:=by
 refine T.aV.F.aR Qr (a:)
 ·obtain ⟨a,b,rfl,k⟩:=h
  refine ⟨_,(Zd (Ju PassesOwn.never (W8 (pv 1) (λ_=>rfl)) (Zg (Vl (i:=0) (j:=1) Y Qr.nd Y Y (d:) Y Y (Za (pv 1) (Za (Zi Yh (pv 0) (pv 1)) Zb)) (by rfl))))
   (Zg (Zm (pv 0)))),?_⟩;refine ⟨λm σ H1=>∃ a' b':Nat,b'=m/\H1=H/\σ=[some (.int a'),some (.int b')]/\Nat.gcd a' b'=Nat.gcd a b,⟨b,a,b,Y,Y,Y,Y⟩,?_⟩;rintro m σ H1 ⟨a',b',rfl,rfl,rfl,e⟩;refine ⟨_,Y,_,Y,?_⟩;by_cases z:b'=0
  ·subst z
   refine iteF ⟨_,Y,?_⟩;rw [gcd_zero_right] at e;rw [e];exact k
  ·have hz:((b':Int) != 0)=true:=by simp; lia
   rw [hz];refine iteT ⟨_,λσ' H' h=>h,?_⟩;refine ⟨_,Y,_,Y,_,Y,_,_,Y,Y,(by show (0:Int) < b'; lia),_,_,rfl,?_⟩;refine ⟨a' % b',mod_lt _ (by lia),b',a' % b',Y,Y,?_,?_⟩
   ·rw [Int.natCast_emod]; rfl
   ·rw [<- e,gcd_comm a' b',gcd_rec b' a',gcd_comm]
def G9:FnScope ["top","bottom"] ["top","bottom"] (Zh V0):=Am
def Fg (T:Txt w K mg t):FnOk P w K mg base (CXr P w) 1 t.bU t.bY ["top","bottom"] (G6 t.bc):=by
 refine T.ce.F.aX G9 (a:)
 ·obtain ⟨a,b,rfl,k1,k2⟩:=h
  refine ⟨_,(Zw (X2 (PW.pt (Q0 (Zo J8 (pv 0) Zf (Zs _)) (Jh (Zo J8 (pv 1) Zf (Zs _))))) (Zw (Wm T.gx FBV Y T.fM Y (Za Zr Zb))) W9)),?_⟩;refine ⟨_,Y,_,_,Y,Y,_,Y,?_⟩;refine ite2 (λc=>?_) (λc=>?_)
  ·have c:a < 1:=by simpa using c
   exact iteT ⟨by decide,k2 (.inl c)⟩
  ·have c:¬ a < 1:=by simpa using c
   refine ⟨_,Y,_,_,Y,Y,_,Y,?_⟩;refine ite2 (λd=>?_) (λd=>?_)
   ·have d:b < 1:=by simpa using d
    exact ⟨by decide,k2 (.inr d)⟩
   ·have d:¬ b < 1:=by simpa using d
    exact k1 (by lia) (by lia)
def Gp:FnScope ["top","bottom","measure"] ["top","bottom"] (Zh Zaa):=Am
def Zg0 (T:Txt w K mg t):FnOk P w K mg base (CXr P w) 2 t.fc t.fu ["top","bottom"] (Zgq t.bc):=by
 refine T.fH.F.aX Gp (a:)
 ·obtain ⟨a,b,rfl,k1,k2⟩:=h
  refine ⟨_,(Ys (Y1 (pxT (Fg T) hr T.ce (Za (pv 0) (s:))))
   (Ys (Wd (Zp (i:=2) Gp.nd rfl (f:) (pcT (Qv T) hr T.aV (Za (pv 0) (s:)))))
   (Zw (Wd (Zm (X3 (Za (Zi Fe (pv 0) (pv 2)) (Za (Zi Fe (pv 1) (pv 2)) Zb)))))))),?_⟩;refine ⟨_,Y,_,Y,a,b,Y,λha hb=>?_,k2⟩;obtain ⟨m,rfl⟩:∃ m:Nat,a=m:=⟨a.toNat,by lia⟩;obtain ⟨n,rfl⟩:∃ n:Nat,b=n:=⟨b.toNat,by lia⟩;obtain ⟨hbg,k⟩:=k1 m n rfl rfl (by lia) (by lia);obtain ⟨g1,g2⟩:=Zpo (m:=m) (n:=n) (by lia) hbg;refine ⟨_,Y,_,Y,m,n,Y,?_⟩;dsimp only [Zj];refine ⟨_,Y,_,Y,_,_,Y,Y,g1,_,Y,_,Y,_,_,Y,Y,g2,(by show 2<=sizeLine; rw [sizeLine_eq]; decide),λp hp=>?_⟩;exact k p hp
def Zdh:FnScope ["tent"] ["tent"] (Zh Kd):=Am
def Ow (T:Txt w K mg t):FnOk P w K mg base (CXr P w) 3 t.dn t.dA ["tent"] (Zc9 t.aa):=by
 refine T.bR.F.aR Zdh (a:)
 ·obtain ⟨p,M,ns,rfl,ta,td,h64,k⟩:=h
  refine ⟨_,(Zg (Zm (Yp (ts:=["seam"]) (fv:=[("tent",0)]) (b:) rfl (Yj (Vn (pv 0) T.aj T.aT.m (Oy T) (hr.mono (d:)) T.aT.b .nil Yf)) (λ_ _ _ _=>(Zk (i:=0) (show List.Nodup (["seam","tent"]:List Str) from by decide +kernel) rfl (f:) (Or.inr rfl))) (λ_ _ _ _=>(Uq (Zo Jk (Yk (pv 1) T.aj T.aJ.m (V4 T) (hr.mono (d:)) T.aJ.b .nil Yf (Za (pv 0) Zb)) Zr (Zs _)))) (λ_ _ _=>rfl) (λ_ _ _ _ _ _=>Yo (pv 0))))),?_⟩;obtain ⟨dx,cl,na,sp,mt,o,ff,b⟩:=id ta;refine ⟨_,Y,p,dx,_,Y,b.ins,Yu _ _ _ _,p,M,ns,Y,ta,h64,λl ks km yl k7=>?_⟩;have s1:Same H (upd H l (.lst (ks.map V.int))):=Same.new km;have h1:(upd H l (.lst (ks.map V.int))) l=some (.lst (ks.map V.int)):=Zc;generalize upd H l (.lst (ks.map V.int))=H1 at s1 h1 ⊢;have nq:ks.length<=64:=by rw [yl.length_eq]; have:=Vs ns ns.length; lia
  refine ⟨l,Y,⟨_,SqL.of h1⟩,λD hD=>?_⟩;refine Yl (xs:=ks.map V.int) (λi σ H3=>∃ v,σ=[v,some (.ref p)]/\Same H1 H3/\H3 D=some (.lst (((ks.take i).filter (swB ns)).map V.int))) ⟨none,Y,Same.new hD,Zc⟩ ?_ ?_ ?_
  ·rintro i σ H3 _ ⟨v,rfl,s3,h3⟩
   exact SqL.of (s3 _ _ h1)
  ·rintro i x σ H3 hx ⟨v,rfl,s3,h3⟩
   obtain ⟨y,hy,rfl⟩:=Z6 hx;have zi:y∈keys ns ns.length:=yl.mem_iff.mp (Au hy);have qm:=(ta.same s1).same s3;obtain ⟨dx,cl,na,sp,mt,o,ff,b⟩:=id qm;dsimp only [Zj];refine ⟨_,Y,p,dx,_,Y,b.ins,Yu _ _ _ _,_,Y,p,M,ns,y,Y,qm,td,λ_ H4 s4=>?_,λz=>absurd zi z⟩;refine ⟨Y,_,Y,?_⟩;show if swB ns y=true then _ else _
   have lt:(((ks.take i).filter (swB ns)).map V.int).length < sizeLine:=by
    rw [Ab];have:=length_filter_le (swB ns) (ks.take i);rw [Ai] at this;exact Zv (by lia)
   by_cases c:swB ns y=true
   ·rw [if_pos c]
    refine ⟨_,Y,_,s4 _ _ h3,lt,_,Y,Same.add (s3.trans s4) hD,?_⟩;rw [Zc,Gk hy,if_pos c,Aj];rfl
   ·rw [if_neg c]
    refine ⟨_,Y,s3.trans s4,?_⟩;rw [s4 _ _ h3,Gk hy,if_neg c]
  ·rintro σ H3 ⟨v,rfl,s3,h3⟩
   rw [Ab,take_length] at h3;refine k D H3 _ (s1.trans s3) (s1.free hD) h3 (k7.filter _) ⟨(yl.nodup_iff.mpr (Ob ns ns.length)).filter _,λx=>?_⟩;rw [mem_filter,yl.mem_iff,Zor];refine ⟨λzz42=>?_,λh=>⟨h.key td,(Zec td (h.key td)).mp h⟩⟩;obtain ⟨h1,h2⟩:=zz42;exact (Zec td h1).mpr h2
def Zbe:FnScope ["tent"] ["tent"] (Zh Oq):=Am
def Zbt (T:Txt w K mg t):FnOk P w K mg base (CXr P w) 4 t.cO t.cX ["tent"] (Za7 t.aa):=by
 refine T.db.F.aR Zbe (a:)
 ·obtain ⟨p,M,ns,rfl,ta,td,h64,k⟩:=h
  have hu:=Y4 hr;refine ⟨_,(Zg (Zm (Ks (ts:=["seam"]) (fv:=[]) (k:) rfl (Yj (pcT (Ow T) hr T.bR (Za (pv 0) Zb))) (λ_ _ _ _=>(Zk (i:=0) (show List.Nodup (["seam"]:List Str) from by decide +kernel) rfl (f:) (Or.inr rfl))) (λ_ _ _ _=>Yd) (λ_ _ _=>rfl) (λ_ _ _ _ _ _=>Fd (pv 0) (X3 (Za Zf (Za Zf Zb))))))),?_⟩;refine ⟨_,Y,p,M,ns,Y,ta,td,h64,λl H1 ks s1 km h1 _ sw=>?_⟩;have nq:ks.length<=64:=by
   have:=sw.len td
   lia
  refine ⟨l,Y,⟨_,SqL.of h1⟩,λD hD=>?_⟩;refine Yl (xs:=ks.map V.int) (λi σ H3=>∃ v,σ=[v]/\Same H1 H3/\WAt H3 D (ks.take i) λ_=>(1,1)) ⟨none,Y,Same.new hD,λ_=>0,Zc,λx hx=>by simp at hx⟩ ?_ ?_ ?_
  ·rintro i σ H3 _ ⟨v,rfl,s3,h3⟩
   exact SqL.of (s3 _ _ h1)
  ·rintro i x σ H3 hx ⟨v,rfl,s3,ad,h3,h4⟩
   obtain ⟨y,hy,rfl⟩:=Z6 hx;dsimp only [Zj,tYes];rw [if_pos rfl];refine ⟨_,Y,(by show 2<=sizeLine; rw [sizeLine_eq]; decide),λq hq=>?_⟩;have sq:Same H3 (upd H3 q (.tup [V.int 1,V.int 1])):=Same.new hq;have ll:(upd H3 q (.tup [V.int 1,V.int 1])) q=some (tp (1,1)):=Zc;have hny:y ∉ ks.take i:=λz=>by
    have hi:i < ks.length:=(Aa hy).1
    have nd:=sw.nd
    rw [<- take_append_drop i ks,nodup_append] at nd
    refine nd.2.2 y z y ?_ Y
    rw [drop_eq_getElem_cons hi,(Aa hy).2]
    exact mem_cons_self
   refine ⟨_,Sum.inl y,Y,sq _ _ h3,(by rw [Zdu,Ai]; exact Zv (by lia)),_,Y,Same.add (s3.trans sq) hD,?_⟩;rw [Aw,hy];have:=WAt.new (g:=λ_=>(1,1)) (v:=(1,1)) (sq _ _ h3) (λx hx=>sq _ _ (h4 x hx)) ll hny;exact this.congr λx _=>by unfold putG; split <;> rfl
  ·rintro σ H3 ⟨v,rfl,s3,h3⟩
   rw [Ab,take_length] at h3;exact k D H3 ks (s1.trans s3) (s1.free hD) h3 sw
def G7:FnScope ["tent","worths"] ["tent","worths"] (Zh Vy):=Am
def Ff (T:Txt w K mg t):FnOk P w K mg base (CXr P w) 4 t.bV t.bZ ["tent","worths"] (Zj5 t.aa):=by
 refine T.cf.F.aR G7 (a:)
 ·obtain ⟨p,d,M,ns,ks,g,rfl,ta,td,h64,wa,sw,ok,k⟩:=h
  have hu:=Y4 hr;refine ⟨_,(Zd (Z2 (Zo (Zks hr.units) (Zt (Jl Y) (by rfl) T.cH PyProof.Rows.boot_sorted (s:)) (pcT (Ow T) hr T.bR (Za (pv 0) Zb)) (Zs _)) Yg Zx)
   (Zg (Zm (Zhq (Ks (ts:=["seam","top","bottom"]) (fv:=[]) (k:) rfl (Fc (pv 1) ⟨rfl,rfl,rfl⟩) (λ_ _ _ _=>(Va (n:=2) K rfl (Z0 (Zk (i:=0) (show List.Nodup (["seam","top","bottom"]:List Str) from by decide +kernel) rfl (f:) (Or.inr rfl)) (Z0 (Va (n:=2) K rfl (Z0 (Zk (i:=1) (show List.Nodup (["seam","top","bottom"]:List Str) from by decide +kernel) rfl (f:) (Or.inr rfl)) (Z0 (Zk (i:=2) (show List.Nodup (["seam","top","bottom"]:List Str) from by decide +kernel) rfl (f:) (Or.inr rfl)) Xg))) Xg)))) (λ_ _ _ _=>Yd) (λ_ _ _=>rfl) (λ_ _ _ _ _ _=>Fd (pv 0) (pcT (Zg0 T) hr T.fH (Za (pv 1) (B:))))))))),?_⟩
  obtain ⟨ad,hd,had⟩:=id wa;have nq:ks.length < 64:=by
   have:=sw.len td
   lia
  refine Zn λjx ji=>?_;refine ⟨_,Y,d,_,ks,Y,.inl hd,(by unfold wD; rw [map_map]; rfl),nq,λl1 ka km ud ub=>?_⟩;have s1:Same H (upd H l1 (.lst (ka.map V.int))):=Same.new km;have h1:(upd H l1 (.lst (ka.map V.int))) l1=some (.lst (ka.map V.int)):=Zc;generalize upd H l1 (.lst (ka.map V.int))=H1 at s1 h1 ⊢;refine ⟨_,Y,p,M,ns,Y,ta.same s1,td,h64,λl2 H2 ux s2 kf h2 kn sw2=>?_⟩;refine ⟨l1,l2,ka,ux,Y,Y,SqL.of (s2 _ _ h1),SqL.of h2,_,Y,?_⟩;obtain rfl:=Zca ud (sw2.perm sw) ub kn;rw [decide_eq_true rfl];refine iteF ?_
  try dsimp only [Wz]
  refine ji _ _ ?_;have mr:=s1.trans s2;have nr:=mr _ _ hd;have had2:∀ x∈ks,H2 (ad x)=some (tp (g x)):=λx hx=>mr _ _ (had x hx);clear h1 h2 ub kn ud sw2 kf;refine ⟨_,Y,d,_,Y,.inl ⟨nr,λo=>?_⟩⟩;intro D hD;obtain ⟨xc,lx⟩:=Wi hD;have hda:∀ x∈ks,ad x≠d:=λx hx z=>by have:=had2 x hx; rw [z,nr] at this; cases this
  refine Zao (λi σ H3=>∃ v0 v1 v2,σ=[v0,v1,v2]/\(∀ b u,b≠d->H2 b=some u->H3 b=some u)/\H3 d=some (.frz o (.dK (wD ks ad)))/\WAt H3 D (ks.take i) (o6 g)) ⟨none,none,none,Y,λb u hb e=>by rw [Ze (Zl e lx),Ze hb]; exact e,by rw [Ze (Ne.symm xc),Zc],λ_=>0,Zc,λx hx=>by simp at hx⟩ ?_ ?_ ?_
  ·rintro i σ H3 _ ⟨v0,v1,v2,rfl,_,e,_⟩
   exact e
  ·rintro i k0 x0 σ H3 q tz hq ⟨v0,v1,v2,rfl,s3,e3,ad3,h3,h4⟩
   obtain ⟨y,hy,rfl,rfl⟩:=Zsb tz;have zi:=Au hy;obtain ⟨o1,o2,o3⟩:=ok y zi;have sq:Same H3 (upd H3 q (.tup [kV (Sum.inl y),V.ref (ad y)])):=Same.new hq;have zw:(upd H3 q (.tup [kV (Sum.inl y),V.ref (ad y)])) q=some (.tup [kV (Sum.inl y),V.ref (ad y)]):=Zc;have hay:(upd H3 q (.tup [kV (Sum.inl y),V.ref (ad y)])) (ad y)=some (tp (g y)):=sq _ _ (s3 _ _ (hda y zi) (had2 y zi));generalize upd H3 q (.tup [kV (Sum.inl y),V.ref (ad y)])=H4 at sq zw hay ⊢;dsimp only [Zj];refine ⟨q,_,Y,SqT.of zw,Y,_,_,Y,_,_,Y,⟨ad y,_,Y,SqT.of hay,Y,_,_,Y,_,_,Y,Y,?_⟩⟩;refine ⟨Y,?_⟩;dsimp only [Zj,tYes];rw [if_pos rfl];refine ⟨_,Y,_,Y,_,Y,((g y).1:Int),((g y).2:Int),Y,λm n em en hm hn=>?_,λz=>by lia⟩;obtain rfl:m=(g y).1:=by lia
   obtain rfl:n=(g y).2:=by lia
   refine ⟨Zrn hm o3,λr hr=>?_⟩;have sr:Same H4 (upd H4 r (tp (lowN (g y).1 (g y).2))):=Same.new hr;have hny:y ∉ ks.take i:=λz=>by
    have hi:i < ks.length:=(Aa hy).1
    have nd:=sw.nd
    rw [<- take_append_drop i ks,nodup_append] at nd
    refine nd.2.2 y z y ?_ Y
    rw [drop_eq_getElem_cons hi,(Aa hy).2]
    exact mem_cons_self
   have y7:=sq.trans sr;refine ⟨_,Sum.inl y,Y,y7 _ _ h3,(by rw [Zdu,Ai]; exact Zv (by lia)),_,_,_,Y,λb u hb e=>?_,?_,?_⟩
   ·rw [Ze (Zl e lx)]; exact y7 _ _ (s3 b u hb e)
   ·rw [Ze (Ne.symm xc)]; exact y7 _ _ e3
   ·rw [Aw,hy]
    have:=WAt.new (g:=o6 g) (v:=lowN (g y).1 (g y).2) (y7 _ _ h3) (λx hx=>y7 _ _ (h4 x hx)) (Zc (H:=H4) (a:=r)) hny;exact this.congr λx _=>by
     unfold putG
     split
     ·rename_i z; rw [z]; rfl
     ·rfl
  ·rintro σ H3 ⟨v0,v1,v2,rfl,s3,e3,w3⟩
   rw [Zdu,take_length] at w3;refine ⟨d,o,_,e3,(λo' u z=>by have z:H d=some (.frz o' u):=z; rw [hd] at z; cases z),?_⟩;have sF:Same H2 (upd H3 d (.dK (wD ks ad))):=λb u e=>by
    by_cases c:b=d
    ·subst c; rw [nr] at e; rw [Zc]; exact e
    ·rw [Ze c]; exact s3 b u c e
   refine k D _ (mr.trans sF) (mr.free lx) ?_;obtain ⟨ad3,h5,h6⟩:=w3;exact ⟨ad3,by rw [Ze xc]; exact h5,λx hx=>by rw [Ze (λz=>by have:=h6 x hx; rw [z,e3] at this; cases this)]; exact h6 x hx⟩
def Xq {H:Hp} {p:Addr} {a b:HO}:upd (upd H p a) p b=upd H p b:=by
 funext c;by_cases z:c=p
 ·subst z; rw [Zc,Zc]
 ·rw [Ze z,Ze z,Ze z]
noncomputable def Xb (te th po wo:V):List (Str × V):=putF "worths" wo (putF "pools" po (putF "threads" th (putF "tent" te [])))
noncomputable def Xh (be sc st un:Addr):List (Str × V):=putF "undone" (.ref un) (putF "standing" (.ref st) (putF "scene" (.ref sc) (putF "began" (.ref be) [])))
structure HallNew (CT CS CH:Addr) (H:Hp) (p:Addr) (M:Lw) (ns:List Int) (dx be sc st un jt th po wo:Addr) (ks:List Int):Prop where
 ins:H p=some (.ins CH dx (Xh be sc st un))
 tent:Zy CT H be M ns
 scn:H sc=some (.ins CS jt (Xb (.ref be) (.ref th) (.ref po) (.ref wo)))
 thr:H th=some (.dK [])
 poo:H po=some (.dK [])
 wor:WAt H wo ks λ_=>(1,1)
 sw:SwK M ns ks
 sta:H st=some (.lst [])
 und:H un=some (.lst [])
def OthP (p:Addr) (H H':Hp):Prop:=∀ b u,b≠p->H b=some u->H' b=some u
def OthP.trans {p:Addr} {H H1 H':Hp} (s:OthP p H H1) (s1:OthP p H1 H'):OthP p H H':=λb u hb e=>s1 b u hb (s b u hb e)
def OthP.of {p:Addr} {H H':Hp} (s:Same H H'):OthP p H H':=λb u _ e=>s b u e
def OthP.upd {p:Addr} {H:Hp} {o:HO}:OthP p H (upd H p o):=λb u hb e=>by rw [Ze hb]; exact e
def Xe {H H':Hp} {p C dx:Addr} {fs:List (Str × V)} (hp:H p=some (.ins C dx fs)) (s:OthP p H H') {b:Addr} {u:HO} (e:H b=some u) (hu:∀ C dx fs,u≠.ins C dx fs):H' b=some u :=
 s b u (λz=>by rw [z,hp] at e; exact hu _ _ _ (Ax e).symm) e
def Y6.oth {H H':Hp} {p C dx r:Addr} {fs:List (Str × V)} {ns:List Int} (h:Y6 H r ns) (hp:H p=some (.ins C dx fs)) (s:OthP p H H'):Y6 H' r ns:=by
 obtain ⟨ts,h1,h2,h3⟩:=h;exact ⟨ts,Xe hp s h1 (q:),h2,λk q e=>Xe hp s (h3 k q e) (q:)⟩
def Zy.oth {C0:Addr} {H H':Hp} {p C dx x:Addr} {fs:List (Str × V)} {M:Lw} {ns:List Int} (h:Zy C0 H x M ns) (hp:H p=some (.ins C dx fs)) (hx:x≠p) (s:OthP p H H'):Zy C0 H' x M ns:=by
 obtain ⟨dt,cl,na,sp,mt,o,f,b⟩:=h;exact ⟨dt,cl,na,sp,mt,o,f,s _ _ hx b.ins,b.rows.oth hp s,Xe hp s b.names (q:),Xe hp s b.spots (q:),Xe hp s b.mates (q:),λy hy=>Xe hp s (b.at' y hy) (q:)⟩
def WAt.oth {H H':Hp} {p C dx d:Addr} {fs:List (Str × V)} {ks:List Int} {g:Int->Nat × Nat} (h:WAt H d ks g) (hp:H p=some (.ins C dx fs)) (s:OthP p H H'):WAt H' d ks g:=by
 obtain ⟨ad,h1,h2⟩:=h;exact ⟨ad,Xe hp s h1 (q:),λx hx=>Xe hp s (h2 x hx) (q:)⟩
def Zde (C:Addr):Sp:=λvs H Q _=>∃ (p dx:Addr) (te th po wo:V),vs=[.ref p,te,th,po,wo]/\H p=some (.ins C dx [])/\Q .non (upd H p (.ins C dx (Xb te th po wo)))
def Zd8 (CT CS CH:Addr):Sp:=λvs H Q _=>∃ (p r dx:Addr) (M:Lw) (ns:List Int),vs=[.ref p,.ref r]/\H p=some (.ins CH dx [])/\Y6 H r ns/\TD M ns/\ns.length < 64 /\
 ∀ (H':Hp),OthP p H H'->(∃ be sc st un jt th po wo ks,HallNew CT CS CH H' p M ns dx be sc st un jt th po wo ks/\H st=none/\H un=none/\st≠un)->Q .non H'
def Zdj:FnScope ["self","tent","threads","pools","worths"] ["self","tent","threads","pools","worths"] (Zh Kh):=Am
def W4 (T:Txt w K mg t):FnOk P w K mg base (CXr P w) 1 t.bO t.dB ["self","tent","threads","pools","worths"] (Zde t.ac):=by
 refine T.aU.F.aR Zdj (a:)
 ·obtain ⟨p,dx,te,th,po,wo,rfl,hp,k⟩:=h
  refine ⟨_,(Zd (Xv (pv 0) (pv 1) Y)
   (Zd (Xv (pv 0) (pv 2) rfl)
   (Zd (Xv (pv 0) (pv 3) rfl)
   (Zg (Xv (pv 0) (pv 4) rfl))))),?_⟩;have l1:=Y8 "tent" te [];have l2:=Y8 "threads" th (putF "tent" te []);have l3:=Y8 "pools" po (putF "threads" th (putF "tent" te []));rw [length_nil] at l1;refine ⟨_,Y,_,Y,p,_,dx,_,Y,hp,T.ag,T.ao,by decide,?_⟩;refine ⟨_,Y,_,Y,p,_,dx,_,Y,Zc,T.ag,T.am,by lia,?_⟩;refine ⟨_,Y,_,Y,p,_,dx,_,Y,Zc,T.ag,T.aq,by lia,?_⟩;refine ⟨_,Y,_,Y,p,_,dx,_,Y,Zc,T.ag,T.aD,by lia,?_⟩;rw [Xq,Xq,Xq];exact k
def Zei:FnScope ["self","rows"] ["self","rows"] (Zh G1):=Am
def Zfm (T:Txt w K mg t):FnOk P w K mg base (CXr P w) 5 t.cq t.eI ["self","rows"] (Zd8 t.aa t.ac t.ae):=by
 refine T.eQ.F.aR Zei (a:)
 ·obtain ⟨p,r,dx,M,ns,rfl,hp,mv,td,h64,k⟩:=h
  refine ⟨_,(Zd (Xv (pv 0) (Vb T.iP (Zfj T) (hr.mono (d:)) Y T.iM T.eO.b .nil Yf (s:)) Y)
   (Zd (Xv (pv 0) (Vb T.dM (W4 T) (hr.mono (d:)) rfl T.dF T.aU.b .nil Yf (Za (Zq (pv 0) rfl) (Za U8 (Za U8 (Za (pcT (Zbt T) hr T.db (Za (Zq (pv 0) rfl) Zb)) Zb))))) rfl)
   (Zd (Xv (pv 0) (Yn Zb) rfl)
   (Zg (Xv (pv 0) (Yn Zb) rfl))))),?_⟩;refine ⟨_,Y,?_⟩;intro x dt hx hdt j9;have s0:Same H (upd (upd H dt (.own x)) x (.ins t.aa dt [])):=Same.add (Same.new hdt) hx;refine ⟨x,r,dt,M,ns,Y,Zc,mv.same s0,td,by lia,λH1 lf ta=>⟨Y,?_⟩⟩;have s1:Same H H1:=λb u e=>lf b u (Zl e hx) (s0 b u e);refine ⟨_,Y,p,_,dx,_,Y,s1 _ _ hp,T.af,T.bP,by decide,?_⟩;have l1:=Y8 "began" (.ref x) [];rw [length_nil] at l1;have vm:=s1 _ _ hp;have nx:x≠p:=λz=>by rw [z,hp] at hx; cases hx
  have o2:OthP p H1 (upd H1 p (.ins t.ae dx (putF "began" (.ref x) []))):=.upd;have oq:(upd H1 p (.ins t.ae dx (putF "began" (.ref x) []))) p=some (.ins t.ae dx (putF "began" (.ref x) [])):=Zc;have p7:=ta.oth vm nx o2;have o02:OthP p H _:=(OthP.of s1).trans o2;generalize upd H1 p (.ins t.ae dx (putF "began" (.ref x) []))=H2 at o2 oq p7 o02 ⊢;clear o2 ta lf s1 s0 vm hdt j9 mv;have lk1:(putF "began" (.ref x) []).lookup ("began":Str)=some (.ref x):=by rw [Z1,if_pos rfl]
  refine ⟨_,Y,p,_,dx,_,_,Y,oq,T.af,T.bP,lk1,?_⟩;intro th hth po hpo;obtain ⟨hpt,pe⟩:=Wi hpo;have s3:Same H2 (upd (upd H2 th (.dK [])) po (.dK [])):=Same.add (Same.new hth) pe;have ht3:(upd (upd H2 th (.dK [])) po (.dK [])) th=some (.dK []):=by rw [Ze (Ne.symm hpt),Zc]
  have ui:(upd (upd H2 th (.dK [])) po (.dK [])) po=some (.dK []):=Zc;generalize upd (upd H2 th (.dK [])) po (.dK [])=H3 at s3 ht3 ui ⊢;refine ⟨_,Y,p,_,dx,_,_,Y,s3 _ _ oq,T.af,T.bP,lk1,x,M,ns,Y,p7.same s3,td,h64,λwo H4 ks s4 hwo w4 sw=>?_⟩;intro sc jt wq xw u7;have s5:Same H4 (upd (upd H4 jt (.own sc)) sc (.ins t.ac jt [])):=Same.add (Same.new xw) wq;refine ⟨sc,jt,_,_,_,_,Y,Zc,Y,?_⟩;rw [Xq];have s6:Same H4 (upd (upd H4 jt (.own sc)) sc (.ins t.ac jt (Xb (.ref x) (.ref th) (.ref po) (.ref wo)))):=Same.add (Same.new xw) wq;have hc6:(upd (upd H4 jt (.own sc)) sc (.ins t.ac jt (Xb (.ref x) (.ref th) (.ref po) (.ref wo)))) sc=some (.ins t.ac jt (Xb (.ref x) (.ref th) (.ref po) (.ref wo))):=Zc;generalize upd (upd H4 jt (.own sc)) sc (.ins t.ac jt (Xb (.ref x) (.ref th) (.ref po) (.ref wo)))=H6 at s6 hc6 ⊢;clear s5;have qb:=s4.trans s6;have s26:=s3.trans qb;have qi:=s26 _ _ oq;have nsc:sc≠p:=λz=>by rw [z,(s3.trans s4) _ _ oq] at wq; cases wq
  refine ⟨_,Y,p,_,dx,_,Y,qi,T.af,T.ah,by lia,?_⟩;have l2:=Y8 "scene" (.ref sc) (putF "began" (.ref x) []);have o7:OthP p H6 (upd H6 p (.ins t.ae dx (z:))):=.upd;have ym:(upd H6 p (.ins t.ae dx (z:))) p=some (.ins t.ae dx (z:)):=Zc;have ta7:=(p7.same s26).oth qi nx o7;have ht7:=Xe qi o7 (qb _ _ ht3) (q:);have hq7:=Xe qi o7 (qb _ _ ui) (q:);have w7:=(w4.same s6).oth qi o7;have hc7:=o7 _ _ nsc hc6;have o07:OthP p H _:=(o02.trans (.of s26)).trans o7;generalize upd H6 p (.ins t.ae dx (putF "scene" (.ref sc) (putF "began" (.ref x) [])))=H7 at o7 ym ta7 ht7 hq7 w7 hc7 o07 ⊢;clear o7 qi s26 qb s6 hc6 s4 w4 s3 ht3 ui p7 oq o02 hth hpo pe hwo wq xw;refine ⟨Az _,λst k7=>?_⟩
  have hst0:H st=none:=by
   cases e:H st with
   | none=>rfl
   | some u =>
    rw [o07 _ _ (λz=>by rw [z,ym] at k7; cases k7) e] at k7;cases k7
  have s8:Same H7 (upd H7 st (.lst [])):=Same.new k7;have hs8:(upd H7 st (.lst [])) st=some (.lst []):=Zc;generalize upd H7 st (.lst [])=H8 at s8 hs8 ⊢;have wv:=s8 _ _ ym;refine ⟨_,Y,p,_,dx,_,Y,wv,T.af,T.b9,by lia,?_⟩;have l3:=Y8 "standing" (.ref st) (z:);have o9:OthP p H8 (upd H8 p (.ins t.ae dx (putF "standing" (.ref st) (z:)))):=.upd;have hp9:(upd H8 p (.ins t.ae dx (putF "standing" (.ref st) (z:)))) p=some (.ins t.ae dx (putF "standing" (.ref st) (z:))):=Zc;have ta9:=(ta7.same s8).oth wv nx o9;have ht9:=Xe wv o9 (s8 _ _ ht7) (q:);have hq9:=Xe wv o9 (s8 _ _ hq7) (q:);have hs9:=Xe wv o9 hs8 (q:);have w9:=(w7.same s8).oth wv o9;have hc9:=o9 _ _ nsc (s8 _ _ hc7);have o09:OthP p H _:=(o07.trans (.of s8)).trans o9;generalize upd H8 p (.ins t.ae dx (putF "standing" (.ref st) (putF "scene" (.ref sc) (putF "began" (.ref x) []))))=H9 at o9 hp9 ta9 ht9 hq9 hs9 w9 hc9 o09 ⊢;clear o9 wv s8 hs8 ym ta7 ht7 hq7 w7 hc7 o07 k7;refine ⟨Az _,λun l7=>?_⟩
  have xo:H un=none:=by
   cases e:H un with
   | none=>rfl
   | some u =>
    rw [o09 _ _ (λz=>by rw [z,hp9] at l7; cases l7) e] at l7;cases l7
  have hsu:st≠un:=λz=>by rw [<- z,hs9] at l7; cases l7
  have sA:Same H9 (upd H9 un (.lst [])):=Same.new l7;have hsA:(upd H9 un (.lst [])) un=some (.lst []):=Zc;generalize upd H9 un (.lst [])=HA at sA hsA ⊢;have wu:=sA _ _ hp9;refine ⟨_,Y,p,_,dx,_,Y,wu,T.af,T.c7,by lia,?_⟩;have oB:OthP p HA (upd HA p (.ins t.ae dx (Xh x sc st un))):=.upd;refine k _ ((o09.trans (.of sA)).trans oB) ⟨x,sc,st,un,jt,th,po,wo,ks,⟨Zc,(ta9.same sA).oth wu nx oB,oB _ _ nsc (sA _ _ hc9),Xe wu oB (sA _ _ ht9) (q:),Xe wu oB (sA _ _ hq9) (q:),(w9.same sA).oth wu oB,sw,Xe wu oB (sA _ _ hs9) (q:),Xe wu oB hsA (q:)⟩,hst0,xo,hsu⟩
noncomputable def dS (l:List (Str × V)):List (Key × V):=l.map λkv=>((Sum.inr kv.1:Key),kv.2)
def Zax (l:List (Str × V)):(dS l).length=l.length:=by unfold dS; rw [Ab]
def Zdz:Sp:=λvs H Q _=>∃ (d:Addr) (k:Key) (v:V) (l:List (Key × V)),vs=[.ref d,kV k,v]/\H d=some (.dK l)/\l.length<=900/\∀ e:Addr,H e=none->Q (.ref e) (upd H e (.dK (putK l k v)))
def Fw:Sp:=λvs H Q _=>∃ (d:Addr) (x:Str) (l:List (Str × V)),vs=[.ref d,.str x]/\H d=some (.dK (dS l))/\l.length<=900/\(l.map (·.1)).Nodup/\∀ (e:Addr) (H':Hp),Same H H'->H e=none->H' e=some (.dK (dS (l.filter λkv=>decide (kv.1≠x))))->Q (.ref e) H'
def Ztj {l:List (Str × V)} {i:Nat} {k:Key} {v:V} (h:(dS l)[i]?=some (k,v)):∃ kv,l[i]?=some kv/\k=Sum.inr kv.1/\v=kv.2:=by
 unfold dS at h;rw [Ah] at h;obtain ⟨kv,h1,h2⟩:=Option.map_eq_some_iff.mp h;cases h2;exact ⟨kv,h1,Y,Y⟩
def Zf7 {l:List (Str × V)} {x:Str} {v:V} (hn:x ∉ l.map (·.1)):putK (dS l) (Sum.inr x) v=dS (l ++ [(x,v)]):=by
 have:((dS l).any λkv=>decide (kv.1=(Sum.inr x:Key)))=false:=by
  rw [any_eq_false];intro kv hk z;unfold dS at hk;obtain ⟨y,hy,rfl⟩:=mem_map.mp hk;have e:=of_decide_eq_true z
  injection e with e
  exact hn (mem_map.mpr ⟨y,hy,e⟩)
 unfold putK;rw [this,if_neg (d:)];unfold dS;rw [Aj];rfl
noncomputable def thV (L:List (Str × List Nat)) (ad:Str->Addr):List (Str × V):=L.map λy=>(y.1,V.ref (ad y.1))
noncomputable def nmL (L:List (Str × List Nat)):List Str:=L.map (·.1)
def Zb8 (L:List (Str × List Nat)) (ad:Str->Addr):(thV L ad).map (·.1)=nmL L:=by unfold thV nmL; rw [map_map]; rfl
theorem Zhc {ad:Str->Addr} {x:Str}:∀ L:List (Str × List Nat),valV (dS (thV L ad)) (Sum.inr x)=if x∈nmL L then some (V.ref (ad x)) else none
 | []=>by simp [valV,dS,thV,nmL]
 | y :: L=>by
  have ih:=Zhc (ad:=ad) (x:=x) L;unfold valV dS thV nmL at ih ⊢;rw [map_cons,map_cons,find?_cons,map_cons];by_cases z:y.1=x
  ·subst z
   rw [decide_eq_true rfl,if_pos mem_cons_self];rfl
  ·rw [decide_eq_false (λe=>z (by injection e))]
   show Option.map _ (List.find? _ _)=_;rw [ih];by_cases c:x∈List.map (·.1) L
   ·rw [if_pos c,if_pos (mem_cons_of_mem _ c)]
   ·rw [if_neg c,if_neg (λe=>by rcases Ar e with e | e; exact z e.symm; exact c e)]
def Ud {H:Hp} {th:Addr} {L:List (Str × List Nat)} {ad:Str->Addr} {x:Str} (h:H th=some (.dK (dS (thV L ad)))):DGet H th (.str x) (if x∈nmL L then some (V.ref (ad x)) else none):=.inl ⟨_,Sum.inr x,.inl h,rfl,(Zhc L).symm⟩
def Za5:Sp:=λvs H Q _=>∃ (a:Addr) (vs':List V),vs=[.ref a]/\H a=some (.lst vs')/\vs'.length<=400/\Q .non H
def O7:FnScope ["table","name","value","copied"] ["table","name","value"] (Zh Gq):=Am
def Kt (T:Txt w K mg t):FnOk P w K mg base (CXr P w) 1 t.dZ t.eG ["table","name","value"] Zdz:=by
 refine T.cF.F.aR O7 (a:)
 ·obtain ⟨d,k,v,l,rfl,hd,hl,q⟩:=h
  have hu:=Y4 hr;refine ⟨_,(Zd (Zp (i:=3) O7.nd Y (Or.inl Y) (Yz Oi (by rfl) T.g9 PySem.Pv.boot_dict (Za (pv 0) Zb)))
   (Zd (Zhm hu (pv 3) (pv 1) (pv 2) rfl)
   (Zg (Zm (pv 3))))),?_⟩
  refine Zn λjx ji=>?_;refine ⟨_,Y,d,_,Y,.inl hd,λe he=>?_⟩;refine ji _ _ ?_;refine ⟨_,Y,_,Y,_,Y,e,_,Y,DPut.k (k:=k) Zc (Zv (by lia)),?_⟩;rw [Xq];exact ⟨_,Y,q e he⟩
def G8:FnScope ["scene","name"] ["scene","name"] (Zh Vz):=Am
def Zbc:FnScope ["word"] ["word"] (Zh On):=Am
def Zbr (T:Txt w K mg t):FnOk P w K mg base (CXr P w) 1 t.cR t.c6 ["word"] Za5:=by
 refine T.df.F.aR Zbc (a:)
 ·obtain ⟨a,vs',rfl,ha,hl,k⟩:=h
  refine ⟨_,(Zg (Z2 (Zo Q1 (v:) (Jw (v:=.int 400) Y T.fL ⟨_,Y⟩) (Zs _)) Yg Zx)),?_⟩;refine ⟨_,Y,a,_,Y,.inl (SqL.of ha),_,_,Y,Y,_,Y,?_⟩;rw [decide_eq_false (by lia)];exact iteF k
def F3:FnScope ["table","name"] ["table","name"] (Zh Ui):=Am
def V2 (T:Txt w K mg t):FnOk P w K mg base (CXr P w) 1 t.cp t.cz ["table","name"] Fw:=by
 refine T.bj.F.aR F3 (a:)
 ·obtain ⟨d,x,l,rfl,hd,hl,nd,k⟩:=h
  have hu:=Y4 hr;refine ⟨_,(Zg (Zm (Zhq (Ks (ts:=["key","value"]) (fv:=[("name",1)]) (b:) rfl (Fc (pv 0) ⟨rfl,rfl,rfl⟩) (λ_ _ _ _=>(Va (n:=2) K rfl (Z0 (Zk (i:=0) (show List.Nodup (["key","value","name"]:List Str) from by decide +kernel) rfl (f:) (Or.inr rfl)) (Z0 (Zk (i:=1) (show List.Nodup (["key","value","name"]:List Str) from by decide +kernel) rfl (f:) (Or.inr rfl)) Xg)))) (λ_ _ _ _=>(Uq (Zo Jk (pv 0) (pv 2) (Zs _)))) (λ_ _ _=>rfl) (λ_ _ _ _ _ _=>Fd (pv 0) (pv 1)))))),?_⟩;refine ⟨_,Y,d,_,Y,.inl ⟨hd,λo=>?_⟩⟩;intro D hD;obtain ⟨xc,lx⟩:=Wi hD;have hll:=Zax l;refine Zao (kvs:=dS l) (λi σ H3=>∃ v0 v1,σ=[v0,v1,some (.str x)]/\(∀ b u,b≠d->H b=some u->H3 b=some u)/\H3 d=some (.frz o (.dK (dS l)))/\H3 D=some (.dK (dS ((l.take i).filter λkv=>decide (kv.1≠x))))) ⟨none,none,Y,λb u hb e=>by rw [Ze (Zl e lx),Ze hb]; exact e,by rw [Ze (Ne.symm xc),Zc],Zc⟩ ?_ ?_ ?_
  ·rintro i σ H3 _ ⟨v0,v1,rfl,_,e,_⟩
   exact e
  ·rintro i k0 x0 σ H3 q tz hq ⟨v0,v1,rfl,s3,e3,h3⟩
   obtain ⟨kv,hkv,rfl,rfl⟩:=Ztj tz;have vp:i < l.length:=(Aa hkv).1;have sq:Same H3 (upd H3 q (.tup [kV (Sum.inr kv.1),kv.2])):=Same.new hq;have zw:(upd H3 q (.tup [kV (Sum.inr kv.1),kv.2])) q=some (.tup [kV (Sum.inr kv.1),kv.2]):=Zc;generalize upd H3 q (.tup [kV (Sum.inr kv.1),kv.2])=H4 at sq zw ⊢;have s4:∀ b u,b≠d->H b=some u->H4 b=some u:=λb u hb e=>sq _ _ (s3 b u hb e);have etk:l.take (i + 1)=l.take i ++ [kv]:=by rw [Aw,hkv]; rfl
   dsimp only [Zj];refine ⟨q,_,Y,SqT.of zw,Y,_,_,Y,_,_,Y,Y,?_⟩;refine ⟨_,Y,_,Y,Y,_,Y,?_⟩;show if (!decide (V.str kv.1=V.str x))=true then _ else _
   by_cases c:kv.1=x
   ·rw [c,decide_eq_true rfl]
    refine iteF ⟨_,_,Y,s4,sq _ _ e3,?_⟩;rw [sq _ _ h3,etk,filter_append];simp [c]
   ·rw [decide_eq_false (λz=>c (by injection z))]
    have pf:kv.1 ∉ ((l.take i).filter λkv=>decide (kv.1≠x)).map (·.1):=λz=>by
     obtain ⟨y,hy,e⟩:=mem_map.mp z;have hy:=(mem_filter.mp hy).1;rw [<- take_append_drop i l,Aj,nodup_append] at nd;refine nd.2.2 y.1 (mem_map.mpr ⟨y,hy,Y⟩) kv.1 ?_ e;rw [drop_eq_getElem_cons vp,(Aa hkv).2];exact mem_cons_self
    refine iteT ⟨_,Y,_,Y,_,Sum.inr kv.1,Y,sq _ _ h3,?_,_,_,Y,λb u hb e=>?_,?_,?_⟩
    ·rw [Zax]
     have:=length_filter_le (λkv:Str × V=>decide (kv.1≠x)) (l.take i);rw [Ai] at this;exact Zv (by lia)
    ·rw [Ze (Zl e lx)]; exact s4 b u hb e
    ·rw [Ze (Ne.symm xc)]; exact sq _ _ e3
    ·rw [Zc,Zf7 pf,etk,filter_append]
     have:[kv].filter (λkv:Str × V=>decide (kv.1≠x))=[kv]:=by simp [c]
     rw [this]
  ·rintro σ H3 ⟨v0,v1,rfl,s3,e3,h3⟩
   rw [hll,take_length] at h3;refine ⟨d,o,_,e3,(λo' u z=>by have z:H d=some (.frz o' u):=z; rw [hd] at z; cases z),?_⟩;have sF:Same H (upd H3 d (.dK (dS l))):=λb u e=>by
    by_cases c:b=d
    ·subst c; rw [hd] at e; rw [Zc]; exact e
    ·rw [Ze c]; exact s3 b u c e
   exact k D _ sF lx (by rw [Ze xc]; exact h3)
def Ztc (be sc st un lu:Addr):putF "undone" (.ref lu) (Xh be sc st un)=Xh be sc st lu:=by first | rfl | decide
def Ztd (be sc st un kd:Addr):putF "scene" (.ref kd) (Xh be sc st un)=Xh be kd st un:=by first | rfl | decide
def Zle (be sc st un:Addr):(Xh be sc st un).length < 1000:=by
 have:(Xh be sc st un).length=4:=rfl;lia
def Zdf (CH:Addr):Sp:=λvs H Q _=>∃ (p dx be sc st un kd:Addr) (x:Str) (l:List V),vs=[.ref p,.str x,.ref kd]/\H p=some (.ins CH dx (Xh be sc st un))/\H st=some (.lst l)/\l.length<=900 /\
 ∀ (q lu:Addr) (H':Hp),H q=none->H lu=none->(∀ b u,b≠p->b≠st->H b=some u->H' b=some u)->H' p=some (.ins CH dx (Xh be kd st lu))->H' st=some (.lst (l ++ [.ref q]))->H' q=some (.tup [.str x,.ref sc])->H' lu=some (.lst [])->Q .non H'
def Zdk:FnScope ["self","text","scene"] ["self","text","scene"] (Zh Ki):=Am
def Qq (T:Txt w K mg t):FnOk P w K mg base (CXr P w) 1 t.dq t.dC ["self","text","scene"] (Zdf t.ae):=by
 refine T.aH.F.aR Zdk (a:)
 ·obtain ⟨p,dx,be,sc,st,un,kd,x,l,rfl,hp,k7,hl,k⟩:=h
  refine ⟨_,(Zd (Z3 (Xw PySem.F.plainAttrs_list PySem.F.slot_list_append PySem.F.type_list_append Y3 (Zq (pv 0) Y) (Za (X3 (Za (pv 1) (Za (Zq (pv 0) Y) Zb))) Zb)))
   (Zd (Xv (pv 0) (Yn Zb) rfl)
   (Zg (Xv (pv 0) (pv 2) rfl)))),?_⟩;have zy:p≠st:=λz=>by rw [z,k7] at hp; cases hp
  refine Zn λjx ji=>?_;refine ⟨_,Y,p,_,dx,_,.ref st,Y,hp,T.af,T.b9,Y,.inl ⟨Y,_,SqL.of k7⟩,_,Y,_,Y,p,_,dx,_,.ref sc,Y,hp,T.af,T.ah,Y,(by show 2<=sizeLine; decide),λq hq=>?_⟩;have s1:Same H (upd H q (.tup [V.str x,V.ref sc])):=Same.new hq;have h1:(upd H q (.tup [V.str x,V.ref sc])) q=some (.tup [V.str x,V.ref sc]):=Zc;refine ⟨st,_,_,Y,Y,s1 _ _ k7,Zv (by lia),?_⟩;refine ji _ _ ?_;generalize upd H q (.tup [V.str x,V.ref sc])=H1 at s1 h1 ⊢;have hqs:q≠st:=λz=>by rw [z,k7] at hq; cases hq
  have hqp:q≠p:=λz=>by rw [z,hp] at hq; cases hq
  have p2:(upd H1 st (.lst (l ++ [V.ref q]))) p=some (.ins t.ae dx (Xh be sc st un)):=by rw [Ze zy]; exact s1 _ _ hp
  have q2:(upd H1 st (.lst (l ++ [V.ref q]))) q=some (.tup [V.str x,V.ref sc]):=by rw [Ze hqs]; exact h1
  have t2:(upd H1 st (.lst (l ++ [V.ref q]))) st=some (.lst (l ++ [V.ref q])):=Zc;have o2:∀ b u,b≠p->b≠st->H b=some u->(upd H1 st (.lst (l ++ [V.ref q]))) b=some u:=λb u _ h2 e=>by rw [Ze h2]; exact s1 _ _ e
  generalize upd H1 st (.lst (l ++ [V.ref q]))=H2 at p2 q2 t2 o2 ⊢;refine Zn λjx ji=>?_;refine ⟨Az _,λlu l7=>?_⟩;have s3:Same H2 (upd H2 lu (.lst [])):=Same.new l7;have u3:(upd H2 lu (.lst [])) lu=some (.lst []):=Zc
  have xo:H lu=none:=by
   cases e:H lu with
   | none=>rfl
   | some u =>
    have hne1:lu≠p:=λz=>by rw [z,p2] at l7; cases l7
    have u7:lu≠st:=λz=>by rw [z,t2] at l7; cases l7
    rw [o2 _ _ hne1 u7 e] at l7;cases l7
  refine ⟨_,Y,p,_,dx,_,Y,s3 _ _ p2,T.af,T.c7,Zle _ _ _ _,?_⟩;rw [Ztc];refine ji _ _ ?_;have hup:lu≠p:=λz=>by rw [z,p2] at l7; cases l7
  refine ⟨_,Y,_,Y,p,_,dx,_,Y,Zc,T.af,T.ah,Zle _ _ _ _,?_⟩;rw [Ztd,Xq];refine k q lu _ hq xo (λb u b1 b2 e=>?_) Zc ?_ ?_ ?_
  ·rw [Ze b1]; exact s3 _ _ (o2 b u b1 b2 e)
  ·rw [Ze (Ne.symm zy)]; exact s3 _ _ t2
  ·rw [Ze hqp]; exact s3 _ _ q2
  ·rw [Ze hup]; exact u3
noncomputable def dI (ks:List Int) (f:Int->Int):List (Key × V):=ks.map λx=>((Sum.inl x:Key),V.int (f x))
def Zr4 (h:y∈ks):valV (dI ks f) (Sum.inl y)=some (V.int (f y)):=by unfold dI; rw [Ja,if_pos h]
def Zr5 (h:y∈ks):putK (dI ks f) (Sum.inl y) (V.int v)=dI ks λx=>if x=y then v else f x:=by
 unfold dI;rw [Zpc h];apply map_congr_left;intro x _;by_cases c:x=y
 ·simp [c]
 ·simp [c]
def Zr6 (h:y ∉ ks):putK (dI ks f) (Sum.inl y) (V.int v)=dI (ks ++ [y]) λx=>if x=y then v else f x:=by
 unfold dI;rw [Zbk h,Aj];congr 1
 ·apply map_congr_left
  intro x hx;have:x≠y:=λz=>h (z ▸ hx);simp [this]
 ·simp
def Zr7 {ks:List Int}:(dI ks f).length=ks.length:=by unfold dI; simp
noncomputable def crP (M:Lw) (ws:List Nat) (p:Nat):Int:=((ws.countP λq=>decide (q=p\/M[q]?=some (some p)):Nat):Int)
def Znt {α:Type} {f:α->Bool} {l:List α} {i:Nat} {x:α} (h:l[i]?=some x):(l.take (i + 1)).countP f=(l.take i).countP f + if f x=true then 1 else 0:=by
 rw [Aw,h,countP_append];simp [countP_cons]
def Znr {M:Lw} {ws:List Nat} {i q m:Nat} (h:ws[i]?=some q) (hm:M[q]?=some (some m)) (ne:q≠m) (p:Nat):crP M (ws.take (i + 1)) p=if p=m then crP M (ws.take i) m + 1 else if p=q then crP M (ws.take i) q + 1 else crP M (ws.take i) p:=by
 unfold crP;rw [Znt h];by_cases c:p=m
 ·subst c
  rw [if_pos rfl,if_pos (decide_eq_true (.inr hm))];lia
 ·rw [if_neg c]
  by_cases d:p=q
  ·subst d
   rw [if_pos rfl,if_pos (decide_eq_true (.inl rfl))];lia
  ·rw [if_neg d,if_neg]
   ·lia
   ·intro z
    rcases of_decide_eq_true z with e | e
    ·exact d e.symm
    ·rw [hm] at e; cases e; exact c Y
noncomputable def rowI (n:Nat) (f:Nat->Int):List V:=(List.range n).map λp=>V.int (f p)
def X9 (n:Nat) (f:Nat->Int):(rowI n f).length=n:=by unfold rowI; simp
def Q9 (h:p < n):(rowI n f)[p]?=some (V.int (f p)):=by unfold rowI; rw [Ah,getElem?_range h]; rfl
def Zew:(rowI n f).set p (V.int v)=rowI n λq=>if q=p then v else f q:=by
 apply ext_getElem?;intro i;by_cases hi:i < n
 ·rw [Q9 hi,getElem?_set,X9]
  by_cases c:p=i
  ·subst c; simp [hi]
  ·rw [if_neg c,Q9 hi,if_neg (λz=>c z.symm)]
 ·rw [Ay (by rw [length_set,X9]; lia),Ay (by rw [X9]; lia)]
def Ziw (h:∀ p,f p=g p):rowI n f=rowI n g:=by unfold rowI; exact map_congr_left λp _=>by rw [h p]
def Zmc:Sp:=λvs H Q _=>∃ (r c:Addr) (ns:List Int) (f:Nat->Int),vs=[.ref r,.ref c]/\Y6 H r ns/\ns.length<=1000/\H c=some (.lst (rowI ns.length f)) /\
 ∀ (l:Addr) (g:Int->Int) (H':Hp),Same H H'->H l=none->H' l=some (.dK (dI (keys ns ns.length) g))->(∀ x∈keys ns ns.length,∃ p,ns[p]?=some x/\g x=f p)->Q (.ref l) H'
theorem K8 (ns:List Int):∀ n,(keys ns n).length<=n
 | 0=>An _
 | n + 1=>by
  have ih:=K8 ns n
  cases h:ns[n]? with
  | none =>
   have:keys ns (n + 1)=keys ns n:=by
    show (x:)=_;rw [h]
   rw [this]; lia
  | some x =>
   rw [Xy h];split
   ·lia
   ·rw [Ae,At]; lia
def U6:FnScope ["_law_rows_here","_law_counts","_law_due","_law_p"] ["_law_rows_here","_law_counts"] (Zh Zcg):=Am
def Zi6 (T:Txt w K mg t):FnOk P w K mg base (CXr P w) 1 t.fS t.f8 ["_law_rows_here","_law_counts"] Zmc:=by
 refine T.gm.F.aR U6 (a:)
 ·obtain ⟨r,c,ns,f,rfl,mv,hl,hc,k⟩:=h
  have hu:=Y4 hr;refine ⟨_,(Zd (Zp (i:=2) U6.nd Y (Or.inl Y) U8)
   (Zd (Xj PassesOwn.never rfl (X7 rfl T.aO (Za (Zt Zu (by rfl) T.au PySem.boot_len (s:)) Zb)) (Zk (i:=3) U6.nd rfl (f:)) (Zg (Zhm hu (pv 2) (Ya Zfw (Ya Z4 (pv 0) (Zi Xo (pv 3) Zf) (A:)) (Zi Yh (pv 3) Zf) (A:)) (Ya Z4 (pv 1) (pv 3) (A:)) rfl)))
   (Zg (Zm (pv 2))))),?_⟩
  intro d hd;have s1:Same H (upd H d (.dK [])):=Same.new hd;dsimp only [Zj];show tSeq (tFor _ _ _) _ _ _ _;refine Zz (λσ H'=>∃ (g:Int->Int) (v:Option V),σ=[some (.ref r),some (.ref c),some (.ref d),v]/\Same H H'/\H' d=some (.dK (dI (keys ns ns.length) g))/\∀ x∈keys ns ns.length,∃ p,ns[p]?=some x/\g x=f p) (λnx jy=>?_) ?_
  ·refine ⟨_,Y,c,_,Y,.inl (SqL.of (s1 _ _ hc)),_,Y,by rw [X9]; lia,by rw [X9]; lia,?_⟩
   have eL:((((rowI ns.length f).length:Nat):Int)).toNat=ns.length:=by rw [X9,Int.toNat_natCast]
   rw [eL];refine Ql (n:=ns.length) (λi σ H'=>∃ (g:Int->Int) (v:Option V),σ=[some (.ref r),some (.ref c),some (.ref d),v]/\Same H H'/\H' d=some (.dK (dI (keys ns i) g))/\∀ x∈keys ns i,∃ p,ns[p]?=some x/\g x=f p) ⟨λ_=>0,_,Y,s1,Zc,λx hx=>by simp [keys] at hx⟩ ?_ ?_
   ·rintro i σ H' hi ⟨g,v,rfl,s2,nr,hg⟩
    dsimp only [Zj];rw [Int.zero_add];obtain ⟨y,hy⟩:∃ y,ns[i]?=some y:=⟨_,Ac hi⟩;obtain ⟨ts',q,e1,e2,e3,e4⟩:=Zq6 (mv.same s2) hy;have my:=s2 _ _ hc;refine ⟨_,Y,_,Y,c,_,_,_,Y,Y,SqL.of my,Xp (Q9 hi),_,Y,?_⟩;refine ⟨_,Y,_,Y,_,_,Y,Y,⟨by decide,by decide⟩,r,_,_,_,Y,Y,SqL.of e1,(by rw [div3]; exact We e2),_,Y,_,_,Y,Y,(by show (0:Int) < 3; decide),q,_,_,_,rfl,rfl,SqT.of e3,(by rw [mod3]; exact Xp e4),?_⟩;refine ⟨d,_,Y,DPut.k (k:=Sum.inl y) nr (by rw [Zr7]; exact Zv (by have:=K8 ns i; lia)),?_⟩;refine ⟨λx=>if x=y then f i else g x,_,Y,Same.add s2 hd,?_,?_⟩
    ·rw [Zc,Xy hy]
     by_cases z:y∈keys ns i
     ·rw [if_pos z,Zr5 z]
     ·rw [if_neg z,Zr6 z]
    ·intro x hx
     by_cases z:x=y
     ·subst z
      exact ⟨i,hy,if_pos Y⟩
     ·have:x∈keys ns i:=by
       rw [Xy hy] at hx;split at hx
       ·exact hx
       ·rcases mem_append.mp hx with q' | q'
        ·exact q'
        ·exact absurd (Af q') z
      obtain ⟨p,h1,h2⟩:=hg x this;exact ⟨p,h1,by show (if x=y then f i else g x)=f p; rw [if_neg z]; exact h2⟩
   ·rintro σ H' ⟨g,v,rfl,s2,nr,hg⟩
    exact jy _ _ ⟨g,v,Y,s2,nr,hg⟩
  ·rintro σ H' ⟨g,v,rfl,s2,nr,hg⟩
   exact ⟨_,Y,k d g H' s2 hd nr hg⟩
structure OkC (M:Lw) (ns:List Int) (g:Int->Int):Prop where
 nn:∀ x∈keys ns ns.length,0<=g x
 rim:∀ (i:Nat) (x:Int),M[i]?=some none->ns[i]?=some x->g x=0
 even:∀ k,3 * k + 2 < ns.length->(g (ns.getD (3 * k) 0) + g (ns.getD (3 * k + 1) 0) + g (ns.getD (3 * k + 2) 0)) % 2=0
 tri:∀ k,3 * k + 2 < ns.length->g (ns.getD (3 * k) 0)<=g (ns.getD (3 * k + 1) 0) + g (ns.getD (3 * k + 2) 0)/\g (ns.getD (3 * k + 1) 0)<=g (ns.getD (3 * k) 0) + g (ns.getD (3 * k + 2) 0)/\g (ns.getD (3 * k + 2) 0)<=g (ns.getD (3 * k) 0) + g (ns.getD (3 * k + 1) 0)
def Ztl (H H':Hp):Prop:=∀ b u,(∀ kvs,u≠.dK kvs)->H b=some u->H' b=some u
def Zy.sameD (h:Zy C H p M ns) (s:Ztl H H'):Zy C H' p M ns:=by
 obtain ⟨dx,cl,na,sp,mt,o,f,b⟩:=h;obtain ⟨ts,r1,r2,r3⟩:=b.rows;exact ⟨dx,cl,na,sp,mt,o,f,s _ _ (λ_ z=>nomatch z) b.ins,⟨ts,s _ _ (λ_ z=>nomatch z) r1,r2,λk t e=>s _ _ (λ_ z=>nomatch z) (r3 k t e)⟩,s _ _ (λ_ z=>nomatch z) b.names,s _ _ (λ_ z=>nomatch z) b.spots,s _ _ (λ_ z=>nomatch z) b.mates,λx hx=>s _ _ (λ_ z=>nomatch z) (b.at' x hx)⟩
def Q8 (H:Hp) (c:Addr) (ns:List Int) (g:Int->Int):Prop:=∃ ks:List Int,H c=some (.dK (dI ks g))/\ks.Perm (keys ns ns.length)
def Q8.same (h:Q8 H c ns g) (s:Same H H'):Q8 H' c ns g:=by
 obtain ⟨ks,h1,h2⟩:=h;exact ⟨ks,s _ _ h1,h2⟩
def Zq7 {M:Lw} {ns:List Int} (td:TD M ns) (hx:x∈keys ns ns.length) (h:Y5 ns x="rim"):∃ a:Nat,M[a]?=some none/\ns[a]?=some x:=by
 rcases U3 td hx with ⟨_,a,e,ma⟩ | ⟨e,_⟩ | ⟨e,_⟩
 ·refine ⟨a,ma,?_⟩
  have:a∈pl ns ns.length x:=by rw [e]; exact mem_singleton.mpr Y
  unfold pl at this;exact of_decide_eq_true (mem_filter.mp this).2
 ·rw [h] at e; exact absurd e (d:)
 ·rw [h] at e; exact absurd e (d:)
noncomputable def g3 (ns:List Int) (g:Int->Int) (k:Nat):List Int:=[g (ns.getD (3 * k) 0),g (ns.getD (3 * k + 1) 0),g (ns.getD (3 * k + 2) 0)]
def Zap {ns:List Int} (h:i < ns.length):ns.getD i 0∈keys ns ns.length:=by
 have e:ns[i]?=some (ns.getD i 0):=by rw [Ad,Ac h]; rfl
 exact Y9.mpr ⟨i,h,e⟩
def Ztf {ns:List Int} {j:Nat} (h:(row3 ns i)[j]?=some x):∃ z,(3 * i + 2 < ns.length->z∈keys ns ns.length)/\x=V.int z/\(g3 ns g i)[j]?=some (g z):=by
 match j,h with
 | 0,h=>cases h; exact ⟨_,λh=>Zap (by lia),Y,Y⟩
 | 1,h=>cases h; exact ⟨_,λh=>Zap (by lia),Y,Y⟩
 | 2,h=>cases h; exact ⟨_,λh=>Zap h,Y,Y⟩
 | j + 3,h=>simp [row3] at h
def Zlg {us:List Addr} (h:some (HO.lst (us.map V.ref))=some (HO.lst ((g3 ns g k).map V.int))):False:=by
 injection h with h
 injection h with h
 cases us with
 | nil=>cases h
 | cons a r=>injection h with h _; cases h
def Zb0 (h:H c=some (.dK (dI ks g))) (hz:z∈ks):DGet H c (.int z) (some (.int (g z))):=.inl ⟨_,Sum.inl z,.inl h,rfl,(Zr4 hz).symm⟩
def Zc8 (n:Nat):(List.replicate n false).any id=false:=by
 induction n with
 | zero=>rfl
 | succ n ih=>rw [replicate_succ,any_cons,ih]; rfl
structure OkN (M:Lw) (ns:List Int) (g:Int->Int):Prop where
 nn:∀ x∈keys ns ns.length,0<=g x
 rim:∀ (i:Nat) (x:Int),M[i]?=some none->ns[i]?=some x->g x=0
def Zgp (C:Addr):Sp:=λvs H Q _=>∃ (p c:Addr) (M:Lw) (ns:List Int) (g:Int->Int),vs=[.ref p,.ref c]/\Zy C H p M ns/\TD M ns/\ns.length < 64/\Q8 H c ns g/\OkN M ns g/\∀ H',Same H H'->Q .non H'
def Fx (C:Addr):Sp:=λvs H Q _=>∃ (p c:Addr) (M:Lw) (ns:List Int) (g:Int->Int),vs=[.ref p,.ref c]/\Zy C H p M ns/\TD M ns/\ns.length < 64/\Q8 H c ns g/\OkC M ns g/\∀ H',Same H H'->Q .non H'
def Jf:FnScope ["tent","counts","seam","number"] ["tent","counts"] (Zh Uj):=Am
def Zaj (T:Txt w K mg t):FnOk P w K mg base (CXr P w) 3 t.ck t.cw ["tent","counts"] (Zgp t.aa):=by
 refine T.cC.F.aR Jf (a:)
 ·obtain ⟨p,c,M,ns,g,rfl,ta,td,h64,⟨ks,hc,j4⟩,ok,k⟩:=h
  refine ⟨_,(Zd (Z2 (Zo (Zks hr.units) (Zt (Jl Y) (by rfl) T.cH PyProof.Rows.boot_sorted (s:)) (Vn (pv 0) T.aj T.aT.m (Oy T) (hr.mono (d:)) T.aT.b .nil Yf) (Zs _)) Yg Zx)
   (Zg (Zpe (Xj PassesOwn.never rfl (Fc (pv 1) ⟨rfl,rfl,rfl⟩) (Ji rfl (Z0 (Zk (i:=2) Jf.nd rfl (f:)) (Z0 (Zk (i:=3) Jf.nd rfl (f:)) Xg))) (Zd (Z2 (Zo J8 (pv 3) Zf (Zs _)) Yg Zx)
   (Zg (Z2 (PW.pt (Km (Zo Q1 (pv 3) Zf (Zs _)) (Up (Zo Yt (Yk (pv 0) T.aj T.aJ.m (V4 T) (hr.mono (d:)) T.aJ.b .nil Yf (B:)) Zr (Zs _))))) Yg Zx))))))),?_⟩;refine Zn λjx ji=>?_;have nq:ks.length < 64:=by have h1:=j4.length_eq; have h2:=K8 ns ns.length; lia
  refine ⟨_,Y,c,_,ks,Y,.inl hc,(by unfold dI; rw [map_map]; rfl),nq,λl1 ka km ud ub=>?_⟩;have s1:Same H (upd H l1 (.lst (ka.map V.int))):=Same.new km;have qo:=ta.same s1;obtain ⟨dx,cl,na,sp,mt,o,f,B⟩:=id qo;refine ⟨_,Y,p,dx,_,Y,B.ins,Yu _ _ _ _,p,M,ns,Y,qo,h64,λl2 ux kf pm2 kn=>?_⟩;have s2:Same (upd H l1 (.lst (ka.map V.int))) (upd (upd H l1 (.lst (ka.map V.int))) l2 (.lst (ux.map V.int))):=Same.new kf;refine ⟨l1,l2,ka,ux,Y,Y,SqL.of (s2 _ _ Zc),SqL.of Zc,_,Y,?_⟩;obtain rfl:=Zca (ud.trans j4) pm2 ub kn;rw [decide_eq_true rfl];refine iteF ?_;have mr:=s1.trans s2;generalize upd (upd H l1 (.lst (ka.map V.int))) l2 (.lst (ka.map V.int))=H2 at mr ⊢;clear B qo s1 s2 ud ub pm2 kn km kf
  try dsimp only [Wz]
  refine ji _ _ ?_;have my:=mr _ _ hc;have p7:=ta.same mr;refine ⟨_,Y,c,_,Y,.inl ⟨my,λo=>?_⟩⟩;refine Zlh (λi σ H9=>∃ v2 v3:Option V,σ=[some (.ref p),some (.ref c),v2,v3]/\(∀ b u,b≠c->H2 b=some u->H9 b=some u)/\H9 c=some (.frz o (.dK (dI ks g)))) ⟨none,none,Y,λb u hb e=>by rw [Ze hb]; exact e,Zc⟩ ?_ ?_ ?_
  ·rintro i σ H9 _ ⟨v2,v3,rfl,_,e⟩
   exact e
  ·rintro i k0 x0 σ H9 q tz hq ⟨v2,v3,rfl,s9,h9⟩
   obtain ⟨y,hy,rfl,rfl⟩:∃ y,y∈ks/\k0=Sum.inl y/\x0=V.int (g y):=by
    unfold dI at tz;rw [Ah] at tz
    cases e:ks[i]? with
    | none=>rw [e] at tz; cases tz
    | some z=>rw [e] at tz; cases tz; exact ⟨z,Au e,Y,Y⟩
   have mo:y∈keys ns ns.length:=j4.mem_iff.mp hy;have sq:Same H9 (upd H9 q (.tup [kV (Sum.inl y),V.int (g y)])):=Same.new hq;have taq:Zy t.aa (upd H9 q (.tup [kV (Sum.inl y),V.int (g y)])) p M ns:=(p7.sameD (λb u hu e=>s9 b u (λz=>by rw [z,my] at e; cases e; exact hu _ Y) e)).same sq;refine ⟨q,_,Y,SqT.of Zc,Y,_,_,Y,_,_,Y,Y,?_⟩;refine Zn λjx ji=>?_;refine ⟨_,Y,_,_,Y,Y,_,Y,?_⟩;rw [decide_eq_false (show ¬ g y < 0 from by have:=ok.nn y mo; lia)];refine iteF ?_
   try dsimp only [Wz]
   refine ji _ _ ?_;refine ⟨_,Y,_,_,Y,Y,_,Y,?_⟩;have nx9:∀ H',Same (upd H9 q (.tup [kV (Sum.inl y),V.int (g y)])) H'->∃ v2 v3:Option V,[some (.ref p),some (.ref c),some (V.int y),some (V.int (g y))]=[some (.ref p),some (.ref c),v2,v3]/\(∀ b u,b≠c->H2 b=some u->H' b=some u)/\H' c=some (.frz o (.dK (dI ks g))):=λH' s'=>⟨_,_,rfl,λb u hb e=>s' _ _ (sq _ _ (s9 b u hb e)),s' _ _ (sq _ _ h9)⟩;refine ite2 (λz=>?_) (λ_=>iteF (nx9 _ (Same.refl _)));have hg0:0 < g y:=of_decide_eq_true z;obtain ⟨dx,cl,na,sp,mt,o',f,B⟩:=id taq;refine ⟨_,Y,p,dx,_,Y,B.ins,Yu _ _ _ _,_,Y,p,M,ns,y,Y,taq,td,λ_ H' s'=>?_,λz=>absurd mo z⟩;refine ⟨Y,_,Y,?_⟩;by_cases e:Y5 ns y="rim"
   ·obtain ⟨a,ma,na⟩:=Zq7 td mo e
    have:=ok.rim a y ma na;lia
   ·rw [Zq2 e]
    exact iteF (nx9 H' s')
  ·rintro σ H9 ⟨v2,v3,rfl,s9,h9⟩
   refine ⟨c,o,_,h9,λo' u z=>?_,?_⟩
   ·have z:H c=some (.frz o' u):=z
    rw [hc] at z; cases z
   ·refine k _ λb u e=>?_
    by_cases hb:b=c
    ·subst hb
     rw [Zc];rw [hc] at e; exact e
    ·rw [Ze hb]
     exact s9 b u hb (mr b u e)
def Uf:FnScope ["tent","counts","triples"] ["tent","counts"] (Zh Op):=Am
def Ut (T:Txt w K mg t):FnOk P w K mg base (CXr P w) 4 t.cL t.cU ["tent","counts"] (Fx t.aa):=by
  refine T.bE.F.aR Uf (a:)
  · obtain ⟨p,c,M,ns,g,rfl,ta,td,h64,n9,ok,k⟩:=h
    have hu:=Y4 hr;refine ⟨_,(Zd (Z3 (pcT (Zaj T) hr T.cC (Za (pv 0) (s:))))
      (Zd (Wf (ts:=["row"]) (fv:=[("counts",1)]) (i:=2) (b:) rfl Uf.nd rfl rfl (by rfl) (Yj (Vn (pv 0) T.aj T.cB.m (Zfi T) (hr.mono (d:)) T.cB.b .nil Yf)) (λ_ _ _ _=>(Zk (i:=0) (show List.Nodup (["row","counts"]:List Str) from by decide +kernel) rfl (f:) (Or.inr rfl))) (λ_ _ _ _=>Yd) (λ_ _ _=>rfl) (λ_ _ _ _ _ _=>Yo (Yp (ts:=["seam"]) (fv:=[("counts",1)]) (b:) rfl (Zbp K (pv 0)) (λ_ _ _ _=>(Zk (i:=0) (show List.Nodup (["seam","counts"]:List Str) from by decide +kernel) rfl (f:) (Or.inr rfl))) (λ_ _ _ _=>Yd) (λ_ _ _=>rfl) (λ_ _ _ _ _ _=>Yo (Jc hu (pv 1) (pv 0) (A:))))))
      (Zd (Z2 (Qd (Zt (Zc2 rfl) (by rfl) T.iV PyProof.Rows.boot_any (Za (Yp (ts:=["triple"]) (fv:=[]) (k:) rfl (Yj (pv 2)) (λ_ _ _ _=>(Zk (i:=0) (show List.Nodup (["triple"]:List Str) from by decide +kernel) rfl (f:) (Or.inr rfl))) (λ_ _ _ _=>Yd) (λ_ _ _=>rfl) (λ_ _ _ _ _ _=>Yo (Wg Yt (Zi Yh (Zt (Zay K rfl) (by rfl) T.iJ PyProof.Rows.boot_sum (Za (pv 0) Zb)) Zf) Zf (Zs _)))) Zb))) Yg Zx)
      (Zg (Z2 (Qd (Zt (Zc2 rfl) (by rfl) T.iV PyProof.Rows.boot_any (Za (Yp (ts:=["triple"]) (fv:=[]) (k:) rfl (Yj (pv 2)) (λ_ _ _ _=>(Zk (i:=0) (show List.Nodup (["triple"]:List Str) from by decide +kernel) rfl (f:) (Or.inr rfl))) (λ_ _ _ _=>Yd) (λ_ _ _=>rfl) (λ_ _ _ _ _ _=>Yo (Wg Q1 (Zi Wp Zf (Zt (Zjp K rfl) (by rfl) T.i9 PyProof.Rows.boot_max (Za (pv 0) Zb))) (Zt (Zay K rfl) (by rfl) T.iJ PyProof.Rows.boot_sum (Za (pv 0) Zb)) (Zs _)))) Zb))) Yg Zx))))),?_⟩
    refine Zn λjx ji=>?_;refine ⟨_,Y,_,Y,p,c,M,ns,g,Y,ta,td,h64,n9,⟨ok.nn,ok.rim⟩,λH1 s1=>?_⟩;refine ji _ _ ?_;have qo:=ta.same s1;have t7:=n9.same s1;obtain ⟨n,n1,n40,hn⟩:=td.n;have kg:=td.len;refine Zn λjx ji=>?_;obtain ⟨dx,cl,na,sp,mt,o,f,B⟩:=id qo;refine ⟨_,Y,p,dx,_,Y,B.ins,Yu _ _ _ _,p,M,ns,Y,qo,λlr ts hlr ts1 ts2=>?_⟩;have s2:Same H1 (upd H1 lr (.lst (ts.map V.ref))):=Same.new hlr;have h2:(upd H1 lr (.lst (ts.map V.ref))) lr=some (.lst (ts.map V.ref)):=Zc;have h2t:∀ (k:Nat) (t:Addr),ts[k]?=some t->(upd H1 lr (.lst (ts.map V.ref))) t=some (.tup (row3 ns k)):=λk t e=>s2 _ _ (ts2 k t e);generalize upd H1 lr (.lst (ts.map V.ref))=H2 at s2 h2 h2t ⊢;refine ⟨lr,Y,⟨_,SqL.of h2⟩,λD hD=>?_⟩;obtain ⟨ks,my,j4⟩:=t7.same s2;clear B ts2 hlr;have mr:=s1.trans s2;have zr:ts.length=n:=by lia
    refine Yl (xs:=ts.map V.ref) (λi σ H3=>∃ (v:Option V) (us:List Addr),σ=[v,some (.ref c)]/\Same H2 H3/\H3 D=some (.lst (us.map V.ref))/\us.length=i/\∀ (k:Nat) (u:Addr),us[k]?=some u->H3 u=some (.lst ((g3 ns g k).map V.int))) ⟨none,[],Y,Same.new hD,Zc,Y,λk u e=>by simp at e⟩ ?_ ?_ ?_
    · rintro i σ H3 _ ⟨v,us,rfl,sm,_⟩
      exact SqL.of (sm _ _ h2)
    · rintro i y σ H3 hy ⟨v,us,rfl,sm,h3,zn,zm⟩
      obtain ⟨q,hq,rfl⟩:=Z6 hy;have hi:i < n:=by rw [<- zr]; exact (Aa hq).1
      dsimp only [Zj,tYes];rw [if_pos rfl];have ui:=sm _ _ (h2t i q hq);refine ⟨_,Y,q,Y,⟨_,SqT.of ui⟩,λD2 lx=>?_⟩;refine Fm (xs:=row3 ns i) (λj σ H4=>∃ (v':Option V),σ=[v',some (.ref c)]/\Same H3 H4/\H4 D2=some (.lst (((g3 ns g i).take j).map V.int))) ⟨none,Y,Same.new lx,Zc⟩ ?_ ?_ ?_
      · rintro j σ H4 _ ⟨v',rfl,sj,h4⟩
        exact SqT.of (sj _ _ ui)
      · rintro j x σ H4 hx ⟨v',rfl,sj,h4⟩
        dsimp only [Zj,tYes];rw [if_pos rfl];obtain ⟨z,hz,rfl,hg⟩:=Ztf (g:=g) hx;have hzk:z∈ks:=j4.mem_iff.mpr (hz (by lia));refine ⟨_,Y,_,Y,c,_,Y,Zb0 (sj _ _ (sm _ _ my)) hzk,?_⟩;refine ⟨_,h4,?_,_,Y,Same.add sj lx,?_⟩
        · rw [Ab,Ai]
          exact Zv (by have:(g3 ns g i).length=3:=rfl; lia)
        · rw [Zc,Aw,hg]
          simp
      · rintro σ H4 ⟨v',rfl,sj,h4⟩
        have xf:H4 D2=some (.lst ((g3 ns g i).map V.int)):=h4;refine ⟨_,sj _ _ h3,(by rw [Ab]; exact Zv (by lia)),_,us ++ [D2],Y,Same.add (sm.trans sj) hD,?_,?_,?_⟩
        · rw [Zc]; simp
        · rw [Ae,At,zn]
        · intro k u z
          by_cases hk:k < us.length
          · rw [Av hk] at z
            have gg:=sj _ _ (zm k u z);rw [Ze (λe=>by rw [e,sj _ _ h3] at gg; exact Zlg gg)];exact gg
          · have hk2:k=us.length:=by
              have:=(Aa z).1;rw [Ae,At] at this;lia
            subst hk2;have:u=D2:=by simpa using z.symm
            subst this;rw [zn,Ze (λe=>by rw [e,sj _ _ h3] at xf; exact Zlg xf)];exact xf
    rintro σ H3 ⟨v,us,rfl,sm,h3,zn,zm⟩;refine ji _ _ ?_
    try dsimp only [Zj]
    have vw:∀ k,k < us.length->3 * k + 2 < ns.length:=λk hk=>by rw [zn,Ab] at hk; lia
    have hul:us.length<=1000:=by rw [zn,Ab]; lia
    clear h2 h2t hD;refine Zn λjx ji=>?_;refine ⟨_,Y,D,Y,⟨_,SqL.of h3⟩,λD1 yv=>?_⟩;refine Yl (xs:=us.map V.ref) (λi σ H4=>∃ (v:Option V),σ=[v]/\Same H3 H4/\H4 D1=some (.lst ((List.replicate i false).map V.bl))) ⟨none,Y,Same.new yv,Zc⟩ ?_ ?_ ?_
    · rintro i σ H4 _ ⟨v,rfl,s4,_⟩
      exact SqL.of (s4 _ _ h3)
    · rintro i y σ H4 hy ⟨v,rfl,s4,h4⟩
      obtain ⟨u,zp,rfl⟩:=Z6 hy;have hi:i < us.length:=(Aa zp).1;dsimp only [Zj,tYes];rw [if_pos rfl];refine ⟨_,Y,u,_,Y,SqL.of (s4 _ _ (zm i u zp)),_,_,Y,Y,(by show (0:Int) < 2; decide),rfl,?_⟩;have e:(g3 ns g i).sum % 2=0:=by
        have:=ok.even i (vw i hi)
        simp only [g3,sum_cons,sum_nil]
        lia
      refine ⟨_,h4,(by rw [Ab,length_replicate]; exact Zv (by lia)),_,Y,Same.add s4 yv,?_⟩;rw [Zc,replicate_succ',Aj];show some (HO.lst (_ ++ [V.bl (decide (V.int ((g3 ns g i).sum % 2)=V.int 1))]))=_;rw [e];rfl
    rintro σ H4 ⟨v,rfl,s4,h4⟩;refine ⟨D1,_,Y,SqL.of h4,_,Y,?_⟩;rw [Zc8];refine iteF ?_
    try dsimp only [Wz]
    refine ji _ _ ?_;have h34:=s4 _ _ h3;have hus4:∀ (k:Nat) (u:Addr),us[k]?=some u->H4 u=some (.lst ((g3 ns g k).map V.int)):=λk u e=>s4 _ _ (zm k u e);have s14:=mr.trans (sm.trans s4);clear h3 zm h4 s4 yv;refine ⟨_,Y,D,Y,⟨_,SqL.of h34⟩,λD1 yv=>?_⟩;refine Yl (xs:=us.map V.ref) (λi σ H5=>∃ (v:Option V),σ=[v]/\Same H4 H5/\H5 D1=some (.lst ((List.replicate i false).map V.bl))) ⟨none,Y,Same.new yv,Zc⟩ ?_ ?_ ?_
    · rintro i σ H5 _ ⟨v,rfl,s5,_⟩
      exact SqL.of (s5 _ _ h34)
    · rintro i y σ H5 hy ⟨v,rfl,s5,h5⟩
      obtain ⟨u,zp,rfl⟩:=Z6 hy;have hi:i < us.length:=(Aa zp).1;dsimp only [Zj,tYes];rw [if_pos rfl];have hu5:=s5 _ _ (hus4 i u zp);refine ⟨_,Y,u,_,Y,SqL.of hu5,(by show 0 < 3; decide),λm hm hmx=>?_⟩;refine ⟨_,_,Y,Y,(by show CMul 2 m; exact .inl ⟨by decide,by decide⟩),_,Y,u,_,Y,SqL.of hu5,_,_,Y,Y,?_⟩;have e:¬ (g3 ns g i).sum < 2 * m:=by
        obtain ⟨t1,t2,t3⟩:=ok.tri i (vw i hi)
        simp only [g3,sum_cons,sum_nil]
        simp only [g3,mem_cons,not_mem_nil,or_false] at hm
        rcases hm with rfl | rfl | rfl <;> lia
      refine ⟨_,h5,(by rw [Ab,length_replicate]; exact Zv (by lia)),_,Y,Same.add s5 yv,?_⟩;rw [Zc,replicate_succ',Aj];show some (HO.lst (_ ++ [V.bl (decide ((g3 ns g i).sum < 2 * m))]))=_;rw [decide_eq_false e];rfl
    rintro σ H5 ⟨v,rfl,s5,h5⟩;refine ⟨D1,_,Y,SqL.of h5,_,Y,?_⟩;rw [Zc8];refine iteF ?_;exact k _ (s14.trans s5)
structure Sd where
 (M:Lw) (ns:List Int) (L:List (Str × List Nat)) (Q:List (Str × (Int->Int))) (ks:List Int) (g:Int->Nat × Nat)
noncomputable def poV (L:List (Str × (Int->Int))) (ap:Str->Addr):List (Str × V):=L.map λy=>(y.1,V.ref (ap y.1))
noncomputable def nmQ (L:List (Str × (Int->Int))):List Str:=L.map (·.1)
def Zcm (L:List (Str × (Int->Int))) (ap:Str->Addr):(poV L ap).map (·.1)=nmQ L:=by unfold poV nmQ; rw [map_map]; rfl
theorem Zho {ap:Str->Addr} {x:Str}:∀ L:List (Str × (Int->Int)),valV (dS (poV L ap)) (Sum.inr x)=if x∈nmQ L then some (V.ref (ap x)) else none
 | []=>by simp [valV,dS,poV,nmQ]
 | y :: L=>by
  have ih:=Zho (ap:=ap) (x:=x) L;unfold valV dS poV nmQ at ih ⊢;rw [map_cons,map_cons,find?_cons,map_cons];by_cases z:y.1=x
  ·subst z
   rw [decide_eq_true rfl,if_pos mem_cons_self];rfl
  ·rw [decide_eq_false (λe=>z (by injection e))]
   show Option.map _ (List.find? _ _)=_;rw [ih];by_cases c:x∈List.map (·.1) L
   ·rw [if_pos c,if_pos (mem_cons_of_mem _ c)]
   ·rw [if_neg c,if_neg (λe=>by rcases Ar e with e | e; exact z e.symm; exact c e)]
def Ur {H:Hp} {th:Addr} {L:List (Str × (Int->Int))} {ap:Str->Addr} {x:Str} (h:H th=some (.dK (dS (poV L ap)))):DGet H th (.str x) (if x∈nmQ L then some (V.ref (ap x)) else none):=.inl ⟨_,Sum.inr x,.inl h,rfl,(Zho L).symm⟩
structure ScB (CT CS:Addr) (H:Hp) (sc jt te th po wo:Addr) (d:Sd) (ad ap:Str->Addr):Prop where
 ins:H sc=some (.ins CS jt (Xb (.ref te) (.ref th) (.ref po) (.ref wo)))
 thr:H th=some (.dK (dS (thV d.L ad)))
 wrd:∀ y∈d.L,H (ad y.1)=some (.lst (y.2.map nV))
 poo:H po=some (.dK (dS (poV d.Q ap)))
 cnt:∀ y∈d.Q,Q8 H (ap y.1) d.ns y.2
 ten:Zy CT H te d.M d.ns
 wor:WAt H wo d.ks d.g
def ScB.same {CT CS:Addr} {H H':Hp} {sc jt te th po wo:Addr} {d:Sd} {ad ap:Str->Addr} (h:ScB CT CS H sc jt te th po wo d ad ap) (s:Same H H'):ScB CT CS H' sc jt te th po wo d ad ap :=
 ⟨s _ _ h.ins,s _ _ h.thr,λy hy=>s _ _ (h.wrd y hy),s _ _ h.poo,λy hy=>(h.cnt y hy).same s,h.ten.same s,h.wor.same s⟩
def Sc (CT CS:Addr) (H:Hp) (sc:Addr) (d:Sd):Prop:=∃ (jt te th po wo:Addr) (ad ap:Str->Addr),ScB CT CS H sc jt te th po wo d ad ap
def Sc.same {CT CS:Addr} {H H':Hp} {sc:Addr} {d:Sd} (h:Sc CT CS H sc d) (s:Same H H'):Sc CT CS H' sc d:=by
 obtain ⟨a,b,c,e,f,g,i,h⟩:=h;exact ⟨a,b,c,e,f,g,i,h.same s⟩
def Stk (CT CS:Addr) (H:Hp):List Addr->List Sd->Prop
 | [],[]=>True
 | q :: qs,d :: ds=>(∃ (x:Str) (s:Addr),H q=some (.tup [.str x,.ref s])/\Sc CT CS H s d)/\Stk CT CS H qs ds
 | _,_=>False
theorem Stk.same {CT CS:Addr} {H H':Hp} (s:Same H H'):∀ {qs:List Addr} {ds:List Sd},Stk CT CS H qs ds->Stk CT CS H' qs ds
 | [],[],_=>True.intro
 | [],_ :: _,h=>h.elim
 | _ :: _,[],h=>h.elim
 | q :: qs,d :: ds,h=>by
  obtain ⟨⟨x,a,h1,h2⟩,h3⟩:=h;exact ⟨⟨x,a,s _ _ h1,h2.same s⟩,Stk.same s h3⟩
theorem Stk.len {CT CS:Addr} {H:Hp}:∀ {qs:List Addr} {ds:List Sd},Stk CT CS H qs ds->qs.length=ds.length
 | [],[],_=>rfl
 | [],_ :: _,h=>h.elim
 | _ :: _,[],h=>h.elim
 | q :: qs,d :: ds,h=>by rw [length_cons,length_cons,Stk.len h.2]
structure HallB (CT CS CH:Addr) (H H0:Hp) (p dx be sc st un:Addr) (qs us:List Addr) (d:Sd) (S U:List Sd):Prop where
 ins:H p=some (.ins CH dx (Xh be sc st un))
 sta:H st=some (.lst (qs.reverse.map V.ref))
 und:H un=some (.lst (us.reverse.map V.ref))
 low:Same H0 H
 np:H0 p=none
 nst:H0 st=none
 nun:H0 un=none
 su:st≠un
 cur:Sc CT CS H0 sc d
 stk:Stk CT CS H0 qs S
 unk:Stk CT CS H0 us U
def Z7 (CT CS CH:Addr) (H H0:Hp) (p:Addr) (d:Sd) (S U:List Sd):Prop:=∃ (dx be sc st un:Addr) (qs us:List Addr),HallB CT CS CH H H0 p dx be sc st un qs us d S U
def Z7.same {CT CS CH:Addr} {H H' H0:Hp} {p:Addr} {d:Sd} {S U:List Sd} (h:Z7 CT CS CH H H0 p d S U) (s:Same H H'):Z7 CT CS CH H' H0 p d S U:=by
 obtain ⟨dx,be,sc,st,un,qs,us,B⟩:=h;exact ⟨dx,be,sc,st,un,qs,us,s _ _ B.ins,s _ _ B.sta,s _ _ B.und,B.low.trans s,B.np,B.nst,B.nun,B.su,B.cur,B.stk,B.unk⟩
def Z7.low {CT CS CH:Addr} {H H0:Hp} {p:Addr} {d:Sd} {S U:List Sd} (h:Z7 CT CS CH H H0 p d S U):Same H0 H:=by
 obtain ⟨dx,be,sc,st,un,qs,us,B⟩:=h;exact B.low
noncomputable def Rs (H:Hp) (p st un:Addr):Hp:=λb=>if b=p\/b=st\/b=un then none else H b
def Rs.at {H:Hp} {p st un b:Addr} {u:HO} (e:H b=some u) (h1:b≠p) (h2:b≠st) (h3:b≠un):Rs H p st un b=some u:=by
 unfold Rs;rw [if_neg (λz=>z.elim h1 λz=>z.elim h2 h3)];exact e
def Rs.le {H:Hp} {p st un:Addr}:Same (Rs H p st un) H:=λb u e=>by
 unfold Rs at e;by_cases z:b=p\/b=st\/b=un
 ·rw [if_pos z] at e; cases e
 ·rw [if_neg z] at e; exact e
def Rs.out {H:Hp} {p st un b:Addr} (h:b=p\/b=st\/b=un):Rs H p st un b=none:=by unfold Rs; rw [if_pos h]
def Rs.no {H:Hp} {p st un b:Addr} (h:H b=none):Rs H p st un b=none:=by unfold Rs; split; rfl; exact h
def Uh {H H':Hp} {p st un:Addr} (s:Same H H') (h1:H p=none) (h2:H st=none) (h3:H un=none):Same H (Rs H' p st un):=λb u e =>
 Rs.at (s b u e) (λz=>by rw [z,h1] at e; cases e) (λz=>by rw [z,h2] at e; cases e) (λz=>by rw [z,h3] at e; cases e)
def Yy {H H':Hp} {b c:Addr} {u:HO} (s:Same H H') (hb:H b=some u) (hc:H' c=none):c≠b:=λz=>by rw [z,s _ _ hb] at hc; cases hc
def Z7.more {CT CS CH:Addr} {H H' H0:Hp} {p:Addr} {d:Sd} {S U:List Sd} (h:Z7 CT CS CH H H0 p d S U) (s:Same H H'):∃ kl,Same H0 kl/\Z7 CT CS CH H' kl p d S U/\∀ b u,H' b=some u->H b=none\/(∀ xs,u≠.lst xs)/\(∀ C d f,u≠.ins C d f)->kl b=some u:=by
 obtain ⟨dx,be,sc,st,un,qs,us,B⟩:=h;have s0:Same H0 (Rs H' p st un):=Uh (B.low.trans s) B.np B.nst B.nun;refine ⟨Rs H' p st un,s0,⟨dx,be,sc,st,un,qs,us,s _ _ B.ins,s _ _ B.sta,s _ _ B.und,Rs.le,Rs.out (.inl Y),Rs.out (.inr (.inl Y)),Rs.out (.inr (.inr Y)),B.su,B.cur.same s0,B.stk.same s0,B.unk.same s0⟩,λb u e' e=>?_⟩
 rcases e with e | ⟨e1,e2⟩
 ·exact Rs.at e' (Yy (Same.refl _) B.ins e) (Yy (Same.refl _) B.sta e) (Yy (Same.refl _) B.und e)
 ·exact Rs.at e' (λz=>by rw [z,s _ _ B.ins] at e'; exact e2 _ _ _ (Ax e').symm) (λz=>by rw [z,s _ _ B.sta] at e'; exact e1 _ (Ax e').symm) (λz=>by rw [z,s _ _ B.und] at e'; exact e1 _ (Ax e').symm)
def HallB.entered {CT CS CH:Addr} {H H0 H8 H9:Hp} {p dx be sc st un kd q lu:Addr} {qs us:List Addr} {d d':Sd} {S U:List Sd} {x:Str} (B:HallB CT CS CH H H0 p dx be sc st un qs us d S U) (s:Same H H8) (hs:Sc CT CS (Rs H8 p st un) kd d') (hq:H8 q=none) (hu:H8 lu=none) (o9:∀ b u,b≠p->b≠st->H8 b=some u->H9 b=some u)
  (p9:H9 p=some (.ins CH dx (Xh be kd st lu))) (wf:H9 st=some (.lst (qs.reverse.map V.ref ++ [.ref q]))) (q9:H9 q=some (.tup [.str x,.ref sc])) (u9:H9 lu=some (.lst [])):∃ kl,Same H0 kl/\Z7 CT CS CH H9 kl p d' (d :: S) []:=by
 have s0:Same H0 (Rs H8 p st un):=Uh (B.low.trans s) B.np B.nst B.nun;have s1:Same (Rs H8 p st un) (upd (Rs H8 p st un) q (.tup [.str x,.ref sc])):=Same.new (Rs.no hq);have s01:=s0.trans s1;have qp:p≠q:=(Yy s B.ins hq).symm;have qst:st≠q:=(Yy s B.sta hq).symm;have qu:lu≠q:=λz=>by rw [z,q9] at u9; cases u9
 refine ⟨_,s01,dx,be,kd,st,lu,q :: qs,[],p9,?_,u9,λb u e=>?_,?_,?_,?_,(Yy s B.sta hu).symm,hs.same s1,⟨⟨x,sc,Zc,B.cur.same s01⟩,B.stk.same s01⟩,True.intro⟩
 ·rw [wf,reverse_cons,Aj]; rfl
 ·by_cases z:b=q
  ·subst z; rw [Zc] at e; rw [<- e]; exact q9
  ·rw [Ze z] at e
   have hb:=Rs.le b u e;refine o9 b u (λz=>?_) (λz=>?_) hb
   ·rw [z,Rs.out (.inl rfl)] at e; cases e
   ·rw [z,Rs.out (.inr (.inl rfl))] at e; cases e
 ·rw [Ze qp,Rs.out (.inl rfl)]
 ·rw [Ze qst,Rs.out (.inr (.inl rfl))]
 ·rw [Ze qu,Rs.no hu]
def Zr0 {be sc st un cl na sp mt:Addr}:Xh be sc st un≠Xr cl na sp mt:=λe=>by
 have e1:(Xh be sc st un).map (·.1)=(Xr cl na sp mt).map (·.1):=by rw [e]
 have e2:(Xh be sc st un).map (·.1)=(Xh 0 0 0 0).map (·.1):=rfl;have e3:(Xr cl na sp mt).map (·.1)=(Xr 0 0 0 0).map (·.1):=rfl;rw [e2,e3] at e1;exact absurd e1 (d:)
def Zan {α:Type} {g:α->V} {xs:List α} (h:xs≠[]):HO.lst (xs.map g)≠.lst []:=λe=>by
 injection e with e
 exact h (map_eq_nil_iff.mp e)
def Zsd {M:Lw} {ns:List Int} (td:TD M ns):ns≠[]:=λz=>by
 obtain ⟨n,h1,_,h2⟩:=td.n;have:=td.len;rw [z,length_nil] at this;lia
def HallNew.hall {CT CS CH:Addr} {H H1:Hp} {p dx be sc st un jt th po wo:Addr} {M:Lw} {ns ks:List Int} (td:TD M ns) (h:HallNew CT CS CH H p M ns dx be sc st un jt th po wo ks) (su:st≠un) (s:∀ b u,b≠p->H1 b=some u->H b=some u) (h1:H1 p=none) (h2:H1 st=none) (h3:H1 un=none):∃ H0,Same H1 H0/\Z7 CT CS CH H H0 p ⟨M,ns,[],[],ks,λ_=>(1,1)⟩ [] []:=by
 have j9:=Zsd td;have s1:Same H1 (Rs H p st un):=λb u e=>Rs.at (s b u (λz=>by rw [z,h1] at e; cases e) e) (λz=>by rw [z,h1] at e; cases e) (λz=>by rw [z,h2] at e; cases e) (λz=>by rw [z,h3] at e; cases e);have kp:∀ {b:Addr} {u:HO},H b=some u->(∀ C d f,u≠.ins C d f)->u≠.lst []->Rs H p st un b=some u:=λ{b u} e c1 c2=>Rs.at e (λz=>by rw [z,h.ins] at e; exact c1 _ _ _ (Ax e).symm) (λz=>by rw [z,h.sta] at e; exact c2 (Ax e).symm) (λz=>by rw [z,h.und] at e; exact c2 (Ax e).symm);have ki:∀ {b C d:Addr} {f:List (Str × V)},H b=some (.ins C d f)->(∀ be sc st un,f≠Xh be sc st un)->Rs H p st un b=some (.ins C d f):=λ{b C d f} e c=>Rs.at e (λz=>by
  rw [z,h.ins] at e
  injection e with e
  injection e with _ _ e
  exact c _ _ _ _ e.symm) (λz=>by rw [z,h.sta] at e; cases e) (λz=>by rw [z,h.und] at e; cases e)
 obtain ⟨dt,cl,na,sp,mt,o,f,B⟩:=h.tent;obtain ⟨ts,r1,r2,r3⟩:=B.rows;obtain ⟨aw,w1,w2⟩:=h.wor;refine ⟨Rs H p st un,s1,dx,be,sc,st,un,[],[],h.ins,h.sta,h.und,Rs.le,Rs.out (.inl Y),Rs.out (.inr (.inl Y)),Rs.out (.inr (.inr Y)),su,⟨jt,be,th,po,wo,λ_=>0,λ_=>0,ki h.scn ?_,kp h.thr (q:) (C:),λy hy=>absurd hy not_mem_nil,kp h.poo (q:) (C:),(λy hy=>absurd hy not_mem_nil),?_,aw,kp w1 (q:) (C:),λx hx=>kp (w2 x hx) (q:) (C:)⟩,True.intro,True.intro⟩
 ·intro be sc st un e
  have e1:=congrArg (List.map (·.1)) e;have e2:(Xh be sc st un).map (·.1)=(Xh 0 0 0 0).map (·.1):=rfl;rw [e2] at e1;exact absurd e1 (by show (Xb (.int 0) (.int 0) (.int 0) (.int 0)).map (·.1)≠_; decide)
 ·refine ⟨dt,cl,na,sp,mt,o,f,ki B.ins (λ_ _ _ _=>(Zr0).symm),⟨ts,kp r1 (q:) (Zan λz=>?_),r2,λk q e=>kp (r3 k q e) (q:) (C:)⟩,kp B.names (q:) (Zan j9),kp B.spots (q:) (C:),kp B.mates (q:) (Zan λz=>?_),λy hy=>kp (B.at' y hy) (q:) (Zan λz=>?_)⟩
  ·rw [z,length_nil] at r2
   exact j9 (eq_nil_of_length_eq_zero r2)
  ·have:=td.len
   have z:M=[]:=z;rw [z] at this;exact j9 (eq_nil_of_length_eq_zero this)
  ·obtain ⟨i,hi,hx⟩:=Y9.mp hy
   have:=Xd.mpr ⟨hi,hx⟩;rw [z] at this;cases this
def mulS {m n:Nat} (h1:m < 2 ^ 3000) (h2:n < 2 ^ 3000):IntMulOk (m:Int) (n:Int):=mulN (Ag h1 (Nat.pow_le_pow_right (d:) (d:))) (Ag h2 (Nat.pow_le_pow_right (d:) (d:)))
def divS {m n:Nat} (h0:0 < n) (h:n < 2 ^ 3000):Za1 (m:Int) (n:Int):=⟨by lia,Ag (log2_lt (k:=3000) (by rw [Int.natAbs_natCast]; exact h) (d:)) (d:)⟩
def FrAt (H:Hp) (a:Addr) (vs:List (Nat × Nat)):Prop:=∃ qs:List Addr,H a=some (.lst (qs.map V.ref))/\qs.length=vs.length/\∀ (i:Nat) (q:Addr) (v:Nat × Nat),qs[i]?=some q->vs[i]?=some v->H q=some (tp v)
def FrAt.same {H H':Hp} {a:Addr} {vs:List (Nat × Nat)} (h:FrAt H a vs) (s:Same H H'):FrAt H' a vs:=by
 obtain ⟨qs,h1,h2,h3⟩:=h;exact ⟨qs,s _ _ h1,h2,λi q v e1 e2=>s _ _ (h3 i q v e1 e2)⟩
def Zoy:Sp:=λus H Q _=>∃ (c:Addr) (vs:List (Nat × Nat)) (ys:List Str),us=[.ref c,.str (Txt.join (w:) ys)]/\FrAt H c vs/\vs.length=ys.length/\vs.length<=100/\(∀ v∈vs,v=(1,1))/\(∀ y∈ys,isLR y)/\∀ (N:Nat) (H':Hp),0 < N->N < 2 ^ 1000->Same H H'->Q (.int (N:Nat)) H'
def Zox:Sp:=λus H Q _=>∃ (a:Addr) (N:Nat) (fs:List Nat),us=[.int N,.ref a]/\H a=some (.lst (fs.map nV))/\0 < N/\N < 2 ^ 3000/\(∀ f∈fs,f=1)/\∀ r H',Same H H'->Q (.ref r) H'
def Zma (C:Addr):Sp:=λus H Q _=>∃ (p d a:Addr) (M:Lw) (ns ks:List Int) (g:Int->Nat × Nat) (ws:List Nat),us=[.ref p,.ref d,.ref a]/\Zy C H p M ns/\TD M ns/\ns.length < 64/\WAt H d ks g/\SwK M ns ks/\(∀ x∈ks,g x=(1,1))/\H a=some (.lst (ws.map nV))/\ws.length<=100/\Pl M ws /\
 ∀ (r:Addr) (H':Hp),Same H H'->Q (.ref r) H'
theorem Zf2:∀ vs:List (Nat × Nat),(vs.flatMap λv=>[v.1,v.2]).length=2 * vs.length
 | []=>rfl
 | v :: vs=>by rw [flatMap_cons,Ae,Zf2 vs]; simp only [length_cons,length_nil]; lia
def dSt {a b:Str}:decide (V.str a=V.str b)=decide (a=b):=by
 by_cases z:a=b
 ·subst z; simp
 ·rw [decide_eq_false z,decide_eq_false (λy=>z (by injection y))]
def Zoj {ys:List Str} (h:∀ y∈ys,isLR y):(Txt.join (w:) ys).cps.all (· < 128)=true/\ys.map V.str=(Txt.join (w:) ys).cps.toList.map λc=>V.str ⟨#[c]⟩:=by
 obtain ⟨j1,j2,j3⟩:=Zk8 h;refine ⟨j1,?_⟩;apply ext_getElem?;intro i;rw [Ah,Ah]
 rcases Nat.lt_or_ge i ys.length with hi | hi
 ·have lw:i < (Txt.join (w:) ys).cps.size:=by lia
  have e:=Array.getElem?_eq_getElem lw;have e2:=j3 i _ e;have e3:(Txt.join (w:) ys).cps.toList[i]?=some (Txt.join (w:) ys).cps[i]:=by rw [Array.getElem?_toList]; exact e
  rw [e3,e2];rfl
 ·rw [Ay hi,Ay (by rw [Array.length_toList]; lia)]
  rfl
def Z8:FnScope ["crossed","turns","upper_left","upper_right","lower_left","lower_right","top","bottom","turn"] ["crossed","turns"] (Zh Uk):=Am
def Zal (T:Txt w K mg t):FnOk P w K mg base (CXr P w) 1 t.cn t.cy ["crossed","turns"] Zoy:=by
 refine T.cE.F.aR Z8 (λ_ _ _ s H vs Q E hr h=>?_)
 ·obtain ⟨c,vs,ys,rfl,⟨qs,h1,h2,h3⟩,hl,h100,hv,hy,k⟩:=h
  refine ⟨_,(Zd (Qe (X3 (Za Zf (Za Zf (Za Zf (Za Zf Zb))))) (Ji Y (Z0 (Zk (i:=2) Z8.nd Y (Or.inl Y)) (Z0 (Zk (i:=3) Z8.nd Y (Or.inl Y)) (Z0 (Zk (i:=4) Z8.nd Y (Or.inl Y)) (Z0 (Zk (i:=5) Z8.nd Y (Or.inl Y)) Xg))))))
   (Zd (Xj PassesOwn.never rfl (Zbo rfl T.iK (Za (pv 0) (s:))) (Ji rfl (Z0 (Ji rfl (Z0 (Zk (i:=6) Z8.nd rfl (f:)) (Z0 (Zk (i:=7) Z8.nd rfl (f:)) Xg))) (Z0 (Zk (i:=8) Z8.nd rfl (f:)) Xg))) (Zd (Vl (i:=2) (j:=4) rfl Z8.nd rfl rfl (d:) rfl rfl (Za (Zi K5 (pv 2) (pv 6)) (Za (Zi K5 (pv 4) (pv 6)) Zb)) (by rfl))
   (Zd (Vl (i:=3) (j:=5) rfl Z8.nd rfl rfl (d:) rfl rfl (Za (Zi K5 (pv 3) (pv 7)) (Za (Zi K5 (pv 5) (pv 7)) Zb)) (by rfl))
   (Zg (Z2 (Zo Yt (pv 8) Zr (Zs _)) (Zg (Vl (i:=3) (j:=5) rfl Z8.nd rfl rfl (d:) rfl rfl (Za (Zi Yr (pv 3) (pv 2)) (Za (Zi Yr (pv 5) (pv 4)) Zb)) (by rfl))) (Zg (Vl (i:=2) (j:=4) rfl Z8.nd rfl rfl (d:) rfl rfl (Za (Zi Yr (pv 2) (pv 3)) (Za (Zi Yr (pv 4) (pv 5)) Zb)) (by rfl))))))))
   (Zg (Zm (Zi Yr (pv 2) (pv 5)))))),?_⟩;obtain ⟨z1,z2⟩:=Zoj hy;refine Zn λjx ji=>?_;refine ⟨(by show 4<=sizeLine; rw [sizeLine_eq]; decide),λq0 wt=>?_⟩;have s0:Same H (upd H q0 (.tup [V.int 1,V.int 0,V.int 0,V.int 1])):=Same.new wt;refine ⟨q0,_,Y,SqT.of Zc,Y,_,_,Y,_,_,Y,_,_,Y,_,_,Y,Y,?_⟩;refine ji _ _ ?_
  try dsimp only [Zj]
  show tSeq (tFor _ _ _) _ _ _ (upd H q0 (.tup [V.int 1,V.int 0,V.int 0,V.int 1]));generalize upd H q0 (.tup [V.int 1,V.int 0,V.int 0,V.int 1])=H0 at s0 ⊢;have p2:∀ {n i:Nat},n<=2 ^ i->i<=200->n < 2 ^ 3000:=λh hi=>Nat.lt_of_le_of_lt h (Nat.pow_lt_pow_right (d:) (by lia));refine Zz (λσ H'=>Same H H'/\∃ (v6 v7 v8:Option V) (a b c' d:Nat),σ=[some (.ref c),some (.str (Txt.join (w:) ys)),some (.int a),some (.int b),some (.int c'),some (.int d),v6,v7,v8]/\1<=a/\a<=2 ^ vs.length/\d<=2 ^ vs.length) (λnx jy=>?_) ?_
  ·refine ⟨_,Y,_,Y,.l c,.s _,_,_,Y,SqL.of (s0 _ _ h1),⟨z1,z2⟩,?_⟩
   refine Znj (S:=.l c) (T:=.s (Txt.join (w:) ys)) (xs:=qs.map V.ref) (ys:=ys.map V.str) (by rw [Ab,Ab]; lia) (λi σ H'=>Same H H'/\∃ (v6 v7 v8:Option V) (a b c' d:Nat),σ=[some (.ref c),some (.str (Txt.join (w:) ys)),some (.int a),some (.int b),some (.int c'),some (.int d),v6,v7,v8]/\1<=a/\a<=2 ^ i/\b<=2 ^ i/\c'<=2 ^ i/\d<=2 ^ i) ⟨s0,_,_,_,1,0,0,1,rfl,by decide,by decide,by decide,by decide,by decide⟩ ?_ ?_ ?_
   ·rintro i σ H' _ ⟨s1,v6,v7,v8,a,b,c',d,rfl,_⟩
    exact ⟨SqL.of (s1 _ _ h1),z1,z2⟩
   ·rintro i x y σ H1 q hx mo hq ⟨s1,v6,v7,v8,a,b,c',d,rfl,a0,a1,b1,c1,d1⟩
    obtain ⟨qa,hqa,rfl⟩:=Z6 hx;obtain ⟨yy,hyy,rfl⟩:=Z6 mo;have hi:i < vs.length:=by rw [<- h2]; exact (Aa hqa).1
    have hta:=s1 _ _ (h3 i qa _ hqa (Ac hi));rw [hv _ (getElem_mem hi)] at hta;have s2:Same H1 (upd H1 q (.tup [V.ref qa,V.str yy])):=Same.new hq;refine ⟨q,_,Y,SqT.of Zc,Y,_,_,Y,qa,_,Y,SqT.of (s2 _ _ hta),Y,_,_,Y,_,_,Y,Y,_,_,Y,Y,?_⟩;dsimp only [Zj];have m0:(1:Nat) < 2 ^ 3000:=by decide +kernel
    have e2:2 ^ (i + 1)=2 ^ i * 2:=Nat.pow_succ ..;refine Zn λjx ji=>?_;refine ⟨_,Y,_,Y,_,_,Y,Y,mulS (p2 a1 (by lia)) m0,_,Y,_,Y,_,_,Y,Y,mulS (p2 c1 (by lia)) m0,_,_,Y,?_⟩;refine ji _ _ ?_;refine Zn λjx ji=>?_;refine ⟨_,Y,_,Y,_,_,Y,Y,mulS (p2 b1 (by lia)) m0,_,Y,_,Y,_,_,Y,Y,mulS (p2 d1 (by lia)) m0,_,_,Y,?_⟩;refine ji _ _ ?_;refine ⟨_,Y,Y,_,Y,?_⟩;rw [dSt]
    rcases hy yy (Au hyy) with rfl | rfl
    ·refine iteF ?_
     refine ⟨_,Y,_,Y,_,_,Y,Y,_,Y,_,Y,_,_,Y,Y,_,_,Y,?_⟩;exact ⟨s1.trans s2,_,_,_,a * 1 + b * 1,b * 1,c' * 1 + d * 1,d * 1,Y,by lia,by lia,by lia,by lia,by lia⟩
    ·refine iteT ?_
     refine ⟨_,Y,_,Y,_,_,Y,Y,_,Y,_,Y,_,_,Y,Y,_,_,Y,?_⟩;exact ⟨s1.trans s2,_,_,_,a * 1,b * 1 + a * 1,c' * 1,d * 1 + c' * 1,Y,by lia,by lia,by lia,by lia,by lia⟩
   ·rintro σ H' ⟨s1,v6,v7,v8,a,b,c',d,rfl,a0,a1,b1,c1,d1⟩
    rw [Ab,h2] at a1 d1;exact jy _ _ ⟨s1,_,_,_,a,b,c',d,Y,a0,a1,d1⟩
  ·rintro σ H' ⟨s1,v6,v7,v8,a,b,c',d,rfl,a0,a1,d1⟩
   refine ⟨_,Y,_,Y,_,_,Y,Y,?_⟩;have e3:2 ^ vs.length * 2 < 2 ^ 1000:=by
    rw [<- Nat.pow_succ]
    exact Nat.pow_lt_pow_right (d:) (by lia)
   exact k (a + d) H' (by lia) (by lia) s1
def Xk:FnScope ["top","factors","bottom","factor","measure"] ["top","factors"] (Zh Ol):=Am
def Zbq (T:Txt w K mg t):FnOk P w K mg base (CXr P w) 2 t.cP t.cY ["top","factors"] Zox:=by
 refine T.dc.F.aR Xk (a:)
 ·obtain ⟨a,N,fs,rfl,ha,hN,hN2,hf,k⟩:=h
  refine ⟨_,(Zd (Zp (i:=2) Xk.nd Y (Or.inl Y) Zf)
   (Zd (Xj PassesOwn.never rfl (Yj (pv 1)) (Zk (i:=3) Xk.nd rfl (f:)) (Zd (Zp (i:=4) Xk.nd rfl (f:) (pcT (Qv T) hr T.aV (Za (pv 0) (Za (pv 3) Zb))))
   (Zd (Ze1 (i:=0) Xk.nd rfl (f:) (pv 4) Zfx)
   (Zg (Ze1 (i:=2) Xk.nd rfl (f:) (Zi Fe (pv 3) (pv 4)) Zp1)))))
   (Zg (Zm (X3 (Za (pv 0) (B:))))))),?_⟩;refine Zn λjx ji=>?_;refine ji _ _ ?_
  try dsimp only [Zj]
  show tSeq (tFor _ _ _) _ _ _ _;refine Zz (λσ H'=>H'=H/\∃ v3 v4,σ=[some (.int N),some (.ref a),some (.int 1),v3,v4]) (λnx jy=>?_) ?_
  ·refine ⟨_,Y,a,Y,⟨_,SqL.of ha⟩,?_⟩
   refine J5 (xs:=fs.map nV) (λi σ H'=>H'=H/\∃ v3 v4,σ=[some (.int N),some (.ref a),some (.int 1),v3,v4]) ⟨Y,_,_,Y⟩ ?_ ?_ ?_
   ·rintro i σ H' _ ⟨rfl,v3,v4,rfl⟩
    exact SqL.of ha
   ·rintro i x σ H' hx ⟨rfl,v3,v4,rfl⟩
    obtain ⟨f,hfi,rfl⟩:=Z6 hx;obtain rfl:=hf f (Au hfi);have g1:Nat.gcd N 1=1:=gcd_one_right N;have m0:(1:Nat) < 2 ^ 3000:=by decide +kernel
    dsimp only [Zj];refine Zn λjx ji=>?_;refine ⟨_,Y,_,Y,N,1,Y,?_⟩;rw [g1];refine ji _ _ ?_
    try dsimp only [Zj]
    refine Zn λjx ji=>?_;refine ⟨_,Y,_,Y,_,_,Y,Y,divS (m:=N) (n:=1) (d:) m0,?_⟩;refine ji _ _ ?_;refine ⟨_,Y,_,Y,_,Y,_,_,Y,Y,divS (m:=1) (n:=1) (d:) m0,_,_,Y,Y,mulS (m:=1) (n:=1) m0 m0,Y,some (nV 1),some (V.int ((1:Nat):Int)),?_⟩;have e1:(N:Int) / ((1:Nat):Int)=N:=Int.ediv_one _;have e2:(1:Int) * (((1:Nat):Int) / ((1:Nat):Int))=1:=by decide
    show [some (V.int ((N:Int) / ((1:Nat):Int))),_,some (V.int ((1:Int) * (((1:Nat):Int) / ((1:Nat):Int)))),_,_]=_;rw [e1,e2]
   ·rintro σ H' ⟨rfl,v3,v4,rfl⟩
    exact jy _ _ ⟨Y,_,_,Y⟩
  ·rintro σ H' ⟨rfl,v3,v4,rfl⟩
   exact ⟨_,Y,_,Y,(by show 2<=sizeLine; rw [sizeLine_eq]; decide),λp hp=>k p _ (Same.new hp)⟩
def Vg:FnScope ["tent","worths","word","turns","lowest","crossed","factors"] ["tent","worths","word"] (Zh Zhe):=Am
def Zff (T:Txt w K mg t):FnOk P w K mg base (CXr P w) 8 t.ij t.ir ["tent","worths","word"] (Zma t.aa):=by
  refine T.dL.F.aR Vg (a:)
  · obtain ⟨p,d,a,M,ns,ks,g,ws,rfl,ta,td,h64,wa,sw,bd,ha,tf,hP,k⟩:=h
    have hu:=Y4 hr;refine ⟨_,(Zd (Zp (i:=3) Vg.nd Y (Or.inl Y) (pcT (Zi4 T) hr T.gj (Za (pv 0) (B:))))
      (Zd (Zp (i:=4) Vg.nd rfl (Or.inr rfl) (pcT (Ff T) hr T.cf (Za (pv 0) (s:))))
      (Zd (Wf (ts:=["place"]) (fv:=[("lowest",4),("tent",0)]) (i:=5) ⟨rfl,by decide +kernel,by decide +kernel,Z5 (by rfl),⟨⟨rfl,rfl,Or.inl rfl⟩,⟨rfl,rfl,Or.inl rfl⟩,trivial⟩⟩ rfl Vg.nd rfl rfl (by rfl) (Yj (pv 2)) (λ_ _ _ _=>(Zk (i:=0) (show List.Nodup (["place","lowest","tent"]:List Str) from by decide +kernel) rfl (f:) (Or.inr rfl))) (λ_ _ _ _=>Yd) (λ_ _ _=>rfl) (λ_ _ _ _ _ _=>Yo (Jc hu (pv 1) (Yk (pv 2) T.aj T.aI.m (V5 T) (hr.mono (d:)) T.aI.b .nil Yf (Za (pv 0) Zb)) (A:))))
      (Zd (Wf (ts:=["parts","part"]) (fv:=[]) (i:=6) (k:) rfl Vg.nd rfl rfl (by rfl) (Yj (pv 5)) (λ_ _ _ _=>(Zk (i:=0) (show List.Nodup (["parts","part"]:List Str) from by decide +kernel) rfl (f:) (Or.inr rfl))) (λ_ _ _ _=>Yd) (λ_ _ _=>rfl) (λ_ _ _ _ _ _=>Ze9 rfl rfl (Zbp K (pv 0)) (Zk (i:=1) (show List.Nodup (["parts","part"]:List Str) from by decide +kernel) rfl (f:) (Or.inr rfl)) Yd (pv 1)))
      (Zg (Zm (pcT (Zbq T) hr T.dc (Za (Zi Zpl (pcT (Zal T) hr T.cE (Za (pv 5) (Za (pv 3) Zb))) Zf) (Za (pv 6) Zb))))))))),?_⟩
    have kg:=td.len;have h0:0 < ws.length:=length_pos_iff.mpr hP.ne;have inK:∀ q∈ws,ns.getD q 0∈ks/\∃ y,ns[q]?=some y/\ns.getD q 0=y:=λq hq=>by
      obtain ⟨m,hm⟩:=hP.has q hq
      have jw:q < ns.length:=by rw [kg]; exact (Aa hm).1
      have e:=Ac jw
      have e2:ns.getD q 0=ns[q]:=by rw [Ad,e]; rfl
      exact ⟨by rw [e2]; exact (sw.mem _).mpr ⟨q,m,hm,e⟩,_,e,e2⟩
    refine Zn λjx ji=>?_;refine ⟨_,Y,_,Y,p,a,M,ns,ws,Y,ta,kg.symm,ha,by lia,hP,λH1 s1=>?_⟩;refine ji _ _ ?_
    try dsimp only [Zj]
    refine Zn λjx ji=>?_;refine ⟨_,Y,_,Y,p,d,M,ns,ks,g,Y,ta.same s1,td,h64,wa.same s1,sw,λx hx=>(by rw [bd x hx]; exact ⟨An 1,An 1,by decide +kernel⟩),λlo H2 s2 hlo w2=>?_⟩;refine ji _ _ ?_
    try dsimp only [Zj]
    have lg:=s1.trans s2;obtain ⟨ad,e1,e2⟩:=id w2;refine Zn λjx ji=>?_;refine ⟨_,Y,a,Y,⟨_,SqL.of (lg _ _ ha)⟩,λD hD=>?_⟩;refine Yl (xs:=ws.map nV) (λi σ H3=>∃ v,σ=[v,some (.ref lo),some (.ref p)]/\Same H2 H3/\H3 D=some (.lst (((ws.map λq=>ad (ns.getD q 0)).take i).map V.ref))) ⟨none,Y,Same.new hD,Zc⟩ ?_ ?_ ?_
    · rintro i σ H3 _ ⟨v,rfl,sm,h3⟩
      exact SqL.of (sm _ _ (lg _ _ ha))
    · rintro i y σ H3 hy ⟨v,rfl,sm,h3⟩
      obtain ⟨q,hq,rfl⟩:=Z6 hy;dsimp only [Zj,tYes];rw [if_pos rfl];obtain ⟨kq,yq,hyq,eyq⟩:=inK q (Au hq);have jw:=(Aa hyq).1;have qm:=(ta.same lg).same sm;obtain ⟨dx,cl,na,sp,zc,o,f,b⟩:=id qm;have g3:=Zqo (.inl (sm _ _ e1)) kq;rw [eyq] at g3;refine ⟨_,Y,_,Y,p,dx,_,Y,b.ins,Yu _ _ _ _,_,Y,p,M,ns,(q:Int),Y,qm,λi' y' ei ey=>?_,λz=>absurd (show (0:Int)<=q/\(q:Int) < ns.length by lia) z⟩;have:i'=q:=by lia
      subst this;rw [hyq] at ey;cases ey;refine ⟨lo,_,Y,g3,_,h3,?_,_,Y,Same.add sm hD,?_⟩
      · rw [Ab,Ai,Ab]; exact Zv (by lia)
      · rw [Zc,Aw,Ah,hq,Aj]
        show _=some (HO.lst (_ ++ [V.ref (ad (ns.getD i' 0))]));rw [eyq]
    rintro σ H3 ⟨v,rfl,s3,h3⟩;refine ji _ _ ?_
    try dsimp only [Zj]
    rw [Ab,take_of_length_le (by rw [Ab]; exact An _)] at h3
    have hF3:FrAt H3 D (xi (o6 g) ns ws):=by
      refine ⟨_,h3,by rw [Ab,Zh8],λi q v hq hv=>?_⟩;unfold xi at hv;rw [Ah] at hq hv
      cases e:ws[i]? with
      | none=>rw [e] at hv; cases hv
      | some z =>
        rw [e] at hq hv;cases hq; cases hv;exact s3 _ _ (e2 _ (inK z (Au e)).1)
    have wm:=lg.trans s3;have vw:=Zh8 (h:=o6 g) (ns:=ns) (ws:=ws);have hcb:∀ v∈xi (o6 g) ns ws,v=(1,1):=λv hv=>by
      obtain ⟨q,hq,rfl⟩:=mem_map.mp hv
      show lowN (g (ns.getD q 0)).1 (g (ns.getD q 0)).2=_
      rw [bd _ (inK q hq).1]
      decide
    have hll:=Zm8 M ws h0;have hlr:=Zpw M ws;generalize xi (o6 g) ns ws=vs at *;generalize o8 M ws=ys at *;obtain ⟨qs,f1,f2,f3⟩:=id hF3;refine Zn λjx ji=>?_;refine ⟨_,Y,D,Y,⟨_,SqL.of f1⟩,λD2 lx=>?_⟩;refine Yl (xs:=qs.map V.ref) (λi σ H4=>∃ v v',σ=[v,v']/\Same H3 H4/\H4 D2=some (.lst (((vs.take i).flatMap λv=>[v.1,v.2]).map nV))) ⟨none,none,Y,Same.new lx,Zc⟩ ?_ ?_ ?_
    · rintro i σ H4 _ ⟨v,v',rfl,sm,h4⟩
      exact SqL.of (sm _ _ f1)
    · rintro i x σ H4 hx ⟨v,v',rfl,sm,h4⟩
      obtain ⟨q,hq,rfl⟩:=Z6 hx;have hi:i < vs.length:=by rw [<- f2]; exact (Aa hq).1
      have hvi:=Ac hi;have ui:=f3 i q _ hq hvi;have ht:(vs.take (i + 1)).flatMap (λv=>[v.1,v.2])=(vs.take i).flatMap (λv=>[v.1,v.2]) ++ [vs[i].1,vs[i].2]:=by
        rw [Aw,hvi,flatMap_append]; simp
      have ot:((vs.take i).flatMap λv=>[v.1,v.2]).length=2 * i:=by
        rw [Zf2,Ai];lia
      dsimp only [Zj,tYes];rw [if_pos rfl];refine ⟨_,Y,q,Y,⟨_,SqT.of (sm _ _ ui)⟩,?_⟩;refine Fm (xs:=[V.int vs[i].1,V.int vs[i].2]) (λj σ H5=>∃ v',σ=[some (.ref q),v']/\Same H3 H5/\H5 D2=some (.lst (((vs.take i).flatMap λv=>[v.1,v.2]).map nV ++ ([V.int vs[i].1,V.int vs[i].2]).take j))) ⟨v',Y,sm,by rw [h4,take_zero,append_nil]⟩ ?_ ?_ ?_
      · rintro j σ H5 _ ⟨v',rfl,sm,h5⟩
        exact SqT.of (sm _ _ ui)
      · rintro j x σ H5 hx ⟨v',rfl,sm,h5⟩
        dsimp only [Zj,tYes];rw [if_pos rfl];refine ⟨_,Y,_,h5,?_,_,Y,Same.add sm lx,?_⟩
        · rw [Ae,Ab,ot,Ai]
          exact Zv (by have:([V.int vs[i].1,V.int vs[i].2]).length=2:=rfl; lia)
        · rw [Zc,Aw,hx,<- append_assoc]
          rfl
      · rintro σ H5 ⟨v',rfl,sm,h5⟩
        refine ⟨_,_,Y,sm,?_⟩;rw [h5,take_length,ht,Aj];rfl
    rintro σ H4 ⟨v,v',rfl,s4,h4⟩;refine ji _ _ ?_
    try dsimp only [Zj]
    rw [Ab,f2,take_length] at h4;have hvl:vs.length=ys.length:=by lia
    refine ⟨_,Y,_,Y,D,vs,ys,Y,hF3.same s4,hvl,by lia,hcb,hlr,λtN H5 htr hbt s5=>?_⟩;refine ⟨_,_,Y,Y,⟨by decide,?_⟩,?_⟩
    · have:=Zb2 (j:=(tN:Int)) (k:=1000) (by rw [Int.natAbs_natCast]; exact hbt) (d:)
      show (_:Int) * 2<=2 ^ 27;lia
    refine ⟨_,Y,D2,tN * tN,_,?_,s5 _ _ h4,Nat.mul_pos htr htr,?_,?_,λr H6 s6=>k r _ ((wm.trans s4).trans (s5.trans s6))⟩
    · show [V.int ((tN:Int) ^ 2),V.ref D2]=[V.int ((tN * tN:Nat):Int),V.ref D2]
      rw [Int.natCast_mul,Int.pow_succ,Int.pow_succ,Int.pow_zero,Int.one_mul]
    · calc tN * tN < 2 ^ 1000 * 2 ^ 1000:=mul_lt_mul'' hbt hbt
        _=2 ^ 2000:=by rw [<- Nat.pow_add]
        _<=2 ^ 3000:=Nat.pow_le_pow_right (d:) (d:)
    · intro f hf
      obtain ⟨v,hv,hf⟩:=mem_flatMap.mp hf;rw [hcb v hv] at hf;simpa using hf
def Pl.wind {M:Lw} {ws vs:List Nat} {m s:Nat} (h:Pl M ws) (hl:vs.length=m * ws.length) (j9:vs≠[]) (hg:∀ k,k < vs.length->vs[k]?=ws[(k + s) % ws.length]?):Pl M vs:=by
 have dv:ws.length ∣ vs.length:=⟨m,by rw [hl,Nat.mul_comm]⟩
 have hp:0 < vs.length:=by cases vs with | nil=>exact absurd rfl j9 | cons _ _=>simp
 refine ⟨j9,λp hm=>?_,λk a p ha uj m' um=>?_⟩
 ·obtain ⟨k,hk,e⟩:=mem_iff_getElem.mp hm
  have:=hg k hk;rw [Ac hk,e] at this;exact h.has p (Au this.symm)
 ·have hk:k < vs.length:=(Aa ha).1
  rw [hg k hk] at ha;rw [hg _ (mod_lt _ hp)] at uj;refine h.nxt ((k + s) % ws.length) a p ha ?_ m' um;rw [<- uj];congr 1;rw [mod_add_mod,<- mod_add_mod ((k + 1) % vs.length),mod_mod_of_dvd _ dv,mod_add_mod];congr 1;lia
def Pl.turn {M:Lw} {ws:List Nat} {m b:Nat} (h:Pl M ws) (hb:b < m * ws.length):Pl M (rot (List.replicate m ws).flatten b):=by
 have hl:=Zmn ws m;have tm:(rot (List.replicate m ws).flatten b).length=m * ws.length:=by rw [Jq _ (by lia),hl]
 refine h.wind (m:=m) (s:=b) tm (λz=>?_) λk hk=>?_
 ·rw [z] at tm
  simp only [length_nil] at tm;lia
 ·rw [tm] at hk
  rw [K3 (by lia) (by lia),hl,Zex ws m _ (mod_lt _ (by lia)),mod_mod_of_dvd _ ⟨m,Nat.mul_comm _ _⟩]
def Zqm (ws:List Nat) (b:Nat):rot (wI ws) b=wI (rot ws b):=by
 unfold rot wI; rw [Aj,map_drop,map_take]
def Ge (M:Lw) (ws:List Nat) (x:List Int):Prop:=∃ b,b < ws.length/\(x=wI (rot ws b)\/x=wI (rot (Qc M ws) b))
def Zl5 (ws:List Nat) (h:b < ws.length):J6 (wI ws) (b:Int)=wI (rot ws b):=by
 unfold J6;rw [Vd,show ((b:Int) % (ws.length:Int)).toNat=b by rw [<- Int.natCast_emod,mod_eq_of_lt h,Int.toNat_natCast],Zqm]
def Zjf {p q:Addr} (h:HT.IsLeast S a):HT.IsLeast (λx=>S x\/x=b) (if HT.lexLt b a=true then b else a):=by
 by_cases z:HT.lexLt b a=true
 ·rw [if_pos z]
  refine ⟨.inr Y,λc hc=>?_⟩
  rcases hc with hc | rfl
  ·cases e:HT.lexLt c b with
   | false=>rfl
   | true=>rw [<- HT.lex_trans c b a e z]; exact (h.2 c hc)
  ·exact HT.lex_irr _
 ·rw [if_neg z]
  refine ⟨.inl h.1,λc hc=>?_⟩
  rcases hc with hc | rfl
  ·exact h.2 c hc
  ·simpa using z
def Zda:Sp:=λvs H Q _=>∃ (a:Addr) (ws:List Nat),vs=[.ref a]/\H a=some (.lst (ws.map nV))/\0 < ws.length/\ws.length<=10000/\∀ (l:Addr) (L:List Int) (H':Hp),Same H H'->H l=none->H' l=some (.lst (L.map V.int))->HT.IsLeast (λx=>∃ b,b < ws.length/\x=wI (rot ws b)) L->Q (.ref l) H'
def Zmd (C:Addr):Sp:=λvs H Q _=>∃ (p a:Addr) (M:Lw) (ns:List Int) (ws:List Nat),vs=[.ref p,.ref a]/\Zy C H p M ns/\M.length=ns.length/\H a=some (.lst (ws.map nV))/\ws.length<=10000/\Pl M ws/\∀ (l:Addr) (L:List Int) (H':Hp),Same H H'->H l=none->H' l=some (.lst (L.map V.int))->HT.IsLeast (Ge M ws) L->Q (.ref l) H'
def Znb (h:HT.IsLeast S a) (g:HT.IsLeast T b):HT.IsLeast (λx=>S x\/T x) (if HT.lexLt b a=true then b else a):=by
 by_cases z:HT.lexLt b a=true
 ·rw [if_pos z]
  refine ⟨.inr g.1,λc hc=>?_⟩
  rcases hc with hc | hc
  ·cases e:HT.lexLt c b with
   | false=>rfl
   | true=>rw [<- HT.lex_trans c b a e z]; exact (h.2 c hc)
  ·exact g.2 c hc
 ·have z:HT.lexLt b a=false:=by simpa using z
  rw [if_neg (by rw [z]; decide)];refine ⟨.inl h.1,λc hc=>?_⟩
  rcases hc with hc | hc
  ·exact h.2 c hc
  ·exact HT.lex_le z (g.2 c hc)
def IsLeast.iff (h:HT.IsLeast S a) (e:∀ x,S x ↔ T x):HT.IsLeast T a:=⟨(e a).mp h.1,λb hb=>h.2 b ((e b).mpr hb)⟩
def Ze5 {H:Hp} {a b:List Int} {c:Bool} (h1:H p=some (.lst (a.map V.int))) (h2:H q=some (.lst (b.map V.int))):H (if c=true then q else p)=some (.lst ((if c=true then b else a).map V.int)):=by
 cases c <;> assumption
def Zcn {H:Hp} {c:Bool} (h1:H p=none) (h2:H q=none):H (if c=true then q else p)=none:=by
 cases c <;> assumption
def Zl3 (M:Lw) (ws:List Nat) (x:List Int):((∃ b,b < ws.length/\x=wI (rot ws b))\/∃ b,b < (Qc M ws).length/\x=wI (rot (Qc M ws) b)) ↔ Ge M ws x:=by
 rw [Qn];constructor
 ·rintro (⟨b,h,e⟩ | ⟨b,h,e⟩)
  ·exact ⟨b,h,.inl e⟩
  ·exact ⟨b,h,.inr e⟩
 ·rintro ⟨b,h,e | e⟩
  ·exact .inl ⟨b,h,e⟩
  ·exact .inr ⟨b,h,e⟩
def Zn8 {ws:List Nat}:ws.map nV=(wI ws).map V.int:=K6 ws
def W0:FnScope ["word","best","by"] ["word"] (Zh Ke):=Am
def Ox (T:Txt w K mg t):FnOk P w K mg base (CXr P w) 2 t.dk t.dy ["word"] Zda:=by
 refine T.bQ.F.aR W0 (a:)
 ·obtain ⟨a,ws,rfl,ha,h0,hl,k⟩:=h
  refine ⟨_,(Zd (Zp (i:=1) W0.nd Y (Or.inl Y) (Yz Xf (by rfl) T.bF PySem.Pv.boot_list (Za (pv 0) Zb)))
   (Zd (Xj PassesOwn.never rfl (Zkp rfl T.aO (Za Zf (Za (v:) Zb))) (Zk (i:=2) W0.nd rfl (f:)) (Zg (Zp (i:=1) W0.nd rfl (f:) (Zt (Zaz rfl hr.units) (by rfl) T.iW PyProof.Rows.boot_min (Za (pv 1) (Za (pcT (Ku T) hr T.dG (Za (pv 0) (B:))) Zb))))))
   (Zg (Zm (pv 1))))),?_⟩;refine Zn λjx ji=>?_;refine ⟨_,Y,a,_,Y,.inl (SqL.of ha),λl km=>?_⟩;refine ji _ _ ?_;dsimp only [Zj];have s1:Same H (upd H l (.lst (ws.map nV))):=Same.new km;have h1:(upd H l (.lst (ws.map nV))) l=some (.lst ((wI ws).map V.int)):=by rw [Zc,Zn8]
  generalize upd H l (.lst (ws.map nV))=H1 at s1 h1 ⊢;show tSeq (tFor _ _ _) _ _ _ _;refine Zz (λσ H2=>∃ (p:Addr) (L:List Int) (v:Option V),σ=[some (.ref a),some (.ref p),v]/\Same H H2/\H p=none/\H2 p=some (.lst (L.map V.int))/\HT.IsLeast (λx=>∃ b,b < ws.length/\x=wI (rot ws b)) L) (λnx jy=>?_) ?_
  ·refine ⟨_,Y,a,_,Y,.inl (SqL.of (s1 _ _ ha)),_,_,Y,⟨by decide,by decide,by rw [Ab]; lia,by rw [Ab]; lia⟩,?_⟩
   rw [Ab];refine Ql (n:=((ws.length:Int) - 1).toNat) (λi σ H2=>∃ (p:Addr) (L:List Int) (v:Option V),σ=[some (.ref a),some (.ref p),v]/\Same H H2/\H p=none/\H2 p=some (.lst (L.map V.int))/\HT.IsLeast (λx=>∃ b,b < 1 + i/\x=wI (rot ws b)) L)
    ⟨l,wI ws,none,rfl,s1,km,h1,⟨0,by lia,by rw [Fa]⟩,λc ⟨b,hb,e⟩=>?_⟩ ?_ ?_
   ·have:b=0:=by lia
    subst this;rw [e,Fa];exact HT.lex_irr _
   ·rintro i σ H2 hi ⟨p,L,v,rfl,s2,hp,h2,m2⟩
    dsimp only [Zj];rw [show ((1:Int) + (i:Int))=((1 + i:Nat):Int) by lia];have hb:1 + i < ws.length:=by lia
    refine ⟨_,Y,_,Y,_,Y,a,wI ws,_,Y,by rw [s2 _ _ ha,Zn8],by rw [Vd]; lia,λq H3 s3 hq h3=>?_⟩;rw [Zl5 ws hb] at h3;refine ⟨p,q,L,_,Y,SqL.of (s3 _ _ h2),SqL.of h3,?_⟩;refine ⟨_,_,_,Y,s2.trans s3,Zcn hp (s2.free hq),Ze5 (s3 _ _ h2) h3,?_⟩;refine IsLeast.iff (Zjf (p:=p) (q:=q) m2) λx=>?_;constructor
    ·rintro (⟨b,g,e⟩ | rfl)
     ·exact ⟨b,by lia,e⟩
     ·exact ⟨1 + i,by lia,Y⟩
    ·rintro ⟨b,g,e⟩
     by_cases z:b=1 + i
     ·subst z; exact .inr e
     ·exact .inl ⟨b,by lia,e⟩
   ·rintro σ H2 ⟨p,L,v,rfl,s2,hp,h2,m2⟩
    refine jy _ _ ⟨p,L,v,Y,s2,hp,h2,IsLeast.iff m2 λx=>?_⟩;refine ⟨λzz43=>?_,λ⟨b,g,e⟩=>⟨b,by lia,e⟩⟩;obtain ⟨b,g,e⟩:=zz43;exact ⟨b,by lia,e⟩
  ·rintro σ H2 ⟨p,L,v,rfl,s2,hp,h2,m2⟩
   exact ⟨_,Y,k p L H2 s2 hp h2 m2⟩
def Zed:FnScope ["tent","word","back"] ["tent","word"] (Zh Zhg):=Am
def Fh (T:Txt w K mg t):FnOk P w K mg base (CXr P w) 8 t.ig t.ip ["tent","word"] (Zmd t.aa):=by
 refine T.eY.F.aX Zed (a:)
 ·obtain ⟨p,a,M,ns,ws,rfl,ta,kg,ha,hl,hP,k⟩:=h
  have hw0:0 < ws.length:=by have:=hP.ne; cases ws with | nil=>exact absurd rfl this | cons _ _=>simp
  refine ⟨_,(Ys (Zhk (i:=2) Zed.nd Y (Or.inl Y) (pxT (Zg1 T) hr T.fG (Za (pv 0) (s:))))
   (Zw (Wd (Zm (Zt (Zaz rfl hr.units) (by rfl) T.iW PyProof.Rows.boot_min (Za (pcT (Ox T) hr T.bQ (s:)) (Za (pcT (Ox T) hr T.bQ (B:)) Zb))))))),?_⟩;refine ⟨_,Y,_,Y,p,a,M,ns,ws,Y,ta,kg,ha,hl,hP,λb H1 s1 hb h1=>?_⟩;refine ⟨_,Y,a,ws,Y,s1 _ _ ha,hw0,hl,λl2 L2 H2 s2 kf h2 m2=>?_⟩;refine ⟨_,Y,b,Qc M ws,Y,s2 _ _ h1,by rw [Qn]; exact hw0,by rw [Qn]; exact hl,λl3 L3 H3 s3 hl3 h3 m3=>?_⟩;refine ⟨l2,l3,L2,L3,Y,SqL.of (s3 _ _ h2),SqL.of h3,?_⟩;have s13:=s1.trans (s2.trans s3);exact k _ _ H3 s13 (Zcn (s1.free kf) (s1.free (s2.free hl3))) (Ze5 (s3 _ _ h2) h3) (IsLeast.iff (Znb m2 m3) (Zl3 M ws))
def Zro {L:List (Str × List Nat)} {x:Str} {ws:List Nat} (h:(x,ws)∈L):x∈nmL L:=mem_map.mpr ⟨_,h,rfl⟩
def Zpq {L:List (Str × (Int->Int))} {x:Str} {f:Int->Int} (h:(x,f)∈L):x∈nmQ L:=mem_map.mpr ⟨_,h,rfl⟩
structure Gd5 (d:Sd):Prop where
 td:TD d.M d.ns
 h64:d.ns.length < 64
 pl:∀ y∈d.L,Pl d.M y.2/\y.2.length<=100
 sw:SwK d.M d.ns d.ks
 bd:∀ x∈d.ks,d.g x=(1,1)
def Jn (CT CS CH:Addr):Sp:=λvs H Q _=>∃ (p:Addr) (x:Str) (H0:Hp) (d:Sd) (S U:List Sd) (ws:List Nat),vs=[.ref p,.str x]/\Z7 CT CS CH H H0 p d S U/\(x,ws)∈d.L/\∀ l,H l=none->Q (.ref l) (upd H l (.lst (ws.map nV)))
def Xs (CT CS CH EU:Addr):Sp:=λvs H Q E=>∃ (p:Addr) (x:Str) (H0:Hp) (d:Sd) (S U:List Sd),vs=[.ref p,.str x]/\Z7 CT CS CH H H0 p d S U/\x ∉ nmL d.L/\E (.ref EU) none H
def Vf (CT CS CH:Addr):Sp:=λvs H Q _=>∃ (p:Addr) (x:Str) (H0:Hp) (d:Sd) (S U:List Sd) (f:Int->Int),vs=[.ref p,.str x]/\Z7 CT CS CH H H0 p d S U/\(x,f)∈d.Q/\∀ (l:Addr) (ks:List Int),H l=none->ks.Perm (keys d.ns d.ns.length)->Q (.ref l) (upd H l (.dK (dI ks f)))
def Wc (CT CS CH EU:Addr):Sp:=λvs H Q E=>∃ (p:Addr) (x:Str) (H0:Hp) (d:Sd) (S U:List Sd),vs=[.ref p,.str x]/\Z7 CT CS CH H H0 p d S U/\x ∉ nmQ d.Q/\E (.ref EU) none H
def Ug:FnScope ["self","name"] ["self","name"] (Zh Ov):=Am
def Wh (T:Txt w K mg t):FnOk P w K mg base (CXr P w) 1 t.aW t.aY ["self","name"] (Jn t.aa t.ac t.ae):=by
 refine T.ai.F.aR Ug (a:)
 ·obtain ⟨p,x,H0,d,S,U,ws,rfl,⟨dx,be,sc,st,un,qs,us,B⟩,hx,k⟩:=h
  have hu:=Y4 hr;obtain ⟨jt,te,th,po,wo,ad,ap,C⟩:=B.cur;have C:=C.same B.low;refine ⟨_,(Zd (Z2 (Wl (Xx hu (pv 1) (Zq (Zq (pv 0) Y) Y)) (D:)) Yg Zx)
   (Zg (Zm (Yz Xf (by rfl) T.bF PySem.Pv.boot_list (Za (Jc hu (Zq (Zq (pv 0) rfl) rfl) (pv 1) (A:)) Zb))))),?_⟩
  have g:=Ud (x:=x) C.thr;rw [if_pos (Zro hx)] at g;refine ⟨_,Y,_,Y,p,_,dx,_,.ref sc,Y,B.ins,T.af,T.ah,Y,sc,_,jt,_,.ref th,Y,C.ins,T.ag,T.am,Y,th,_,Y,g,_,Y,iteF ?_⟩;exact ⟨_,Y,p,_,dx,_,.ref sc,Y,B.ins,T.af,T.ah,Y,sc,_,jt,_,.ref th,Y,C.ins,T.ag,T.am,Y,_,Y,th,_,Y,g,ad x,_,Y,.inl (SqL.of (C.wrd _ hx)),k⟩
def V6 (T:Txt w K mg t):FnOk P w K mg base (CXr P w) 1 t.aW t.aY ["self","name"] (Xs t.aa t.ac t.ae t.ak):=by
 refine T.ai.F.aX Ug (a:)
 ·obtain ⟨p,x,H0,d,S,U,rfl,⟨dx,be,sc,st,un,qs,us,B⟩,hx,k⟩:=h
  have hu:=Y4 hr;obtain ⟨jt,te,th,po,wo,ad,ap,C⟩:=B.cur;have C:=C.same B.low;refine ⟨_,(Ys (X2 (Wl (Xx hu (pv 1) (Zq (Zq (pv 0) Y) Y)) (D:)) (Zw (Wm T.dU FBV Y T.bT Y (Za Zr Zb))) W9)
   (Zbm Yg)),?_⟩
  have g:=Ud (x:=x) C.thr;rw [if_neg hx] at g;exact ⟨_,Y,_,Y,p,_,dx,_,.ref sc,Y,B.ins,T.af,T.ah,Y,sc,_,jt,_,.ref th,Y,C.ins,T.ag,T.am,Y,th,_,Y,g,_,Y,iteT ⟨by decide,k⟩⟩
def Wr (T:Txt w K mg t):FnOk P w K mg base (CXr P w) 1 t.aW t.aY ["self","name"] (λvs H Q E=>Jn t.aa t.ac t.ae vs H Q E\/Xs t.aa t.ac t.ae t.ak vs H Q E):=(Wh T).or (V6 T)
def Kc:FnScope ["self","name"] ["self","name"] (Zh Gz):=Am
def O0 (T:Txt w K mg t):FnOk P w K mg base (CXr P w) 1 t.bq t.bx ["self","name"] (Vf t.aa t.ac t.ae):=by
 refine T.aG.F.aR Kc (a:)
 ·obtain ⟨p,x,H0,d,S,U,f,rfl,⟨dx,be,sc,st,un,qs,us,B⟩,hx,k⟩:=h
  have hu:=Y4 hr;obtain ⟨jt,te,th,po,wo,ad,ap,C⟩:=B.cur;have C:=C.same B.low;refine ⟨_,(Zd (Z2 (Wl (Xx hu (pv 1) (Zq (Zq (pv 0) Y) Y)) (D:)) Yg Zx)
   (Zg (Zm (Yz Oi (by rfl) T.g9 PySem.Pv.boot_dict (Za (Jc hu (Zq (Zq (pv 0) rfl) rfl) (pv 1) (A:)) Zb))))),?_⟩
  have g:=Ur (x:=x) C.poo;rw [if_pos (Zpq hx)] at g;obtain ⟨ks,c1,c2⟩:=C.cnt _ hx;refine ⟨_,Y,_,Y,p,_,dx,_,.ref sc,Y,B.ins,T.af,T.ah,Y,sc,_,jt,_,.ref po,Y,C.ins,T.ag,T.aq,Y,po,_,Y,g,_,Y,iteF ?_⟩;exact ⟨_,Y,p,_,dx,_,.ref sc,Y,B.ins,T.af,T.ah,Y,sc,_,jt,_,.ref po,Y,C.ins,T.ag,T.aq,Y,_,Y,po,_,Y,g,ap x,_,Y,.inl c1,λl hl=>k l ks hl c2⟩
def Oz (T:Txt w K mg t):FnOk P w K mg base (CXr P w) 1 t.bq t.bx ["self","name"] (Wc t.aa t.ac t.ae t.ak):=by
 refine T.aG.F.aX Kc (a:)
 ·obtain ⟨p,x,H0,d,S,U,rfl,⟨dx,be,sc,st,un,qs,us,B⟩,hx,k⟩:=h
  have hu:=Y4 hr;obtain ⟨jt,te,th,po,wo,ad,ap,C⟩:=B.cur;have C:=C.same B.low;refine ⟨_,(Ys (X2 (Wl (Xx hu (pv 1) (Zq (Zq (pv 0) Y) Y)) (D:)) (Zw (Wm T.dU FBV Y T.bT Y (Za Zr Zb))) W9)
   (Zbm Yg)),?_⟩
  have g:=Ur (x:=x) C.poo;rw [if_neg hx] at g;exact ⟨_,Y,_,Y,p,_,dx,_,.ref sc,Y,B.ins,T.af,T.ah,Y,sc,_,jt,_,.ref po,Y,C.ins,T.ag,T.aq,Y,po,_,Y,g,_,Y,iteT ⟨by decide,k⟩⟩
def Zfl (T:Txt w K mg t):FnOk P w K mg base (CXr P w) 1 t.bq t.bx ["self","name"] (λvs H Q E=>Vf t.aa t.ac t.ae vs H Q E\/Wc t.aa t.ac t.ae t.ak vs H Q E):=(O0 T).or (Oz T)
def J3 {ns:List Int} (h:i < ns.length):ns[i]?=some (ns.getD i 0):=by rw [Ad,Ac h]; rfl
def Zn7 (pc:PC M f) (nm:Nm ns f g) (td:TD M ns):OkC M ns g:=by
 have hl:=td.len;refine ⟨λx hx=>?_,λi x h1 h2=>?_,λk hk=>?_,λk hk=>?_⟩
 ·obtain ⟨i,hi,e⟩:=Y9.mp hx
  rw [nm i x e];exact pc.nn i (by lia)
 ·rw [nm i x h2]
  exact pc.rim i h1
 ·rw [nm _ _ (J3 (show 3 * k < ns.length by lia)),nm _ _ (J3 (show 3 * k + 1 < ns.length by lia)),nm _ _ (J3 hk)]
  have:=pc.even (3 * k) (by lia);rw [show aN (3 * k)=3 * k + 1 by rw [Qp,if_neg (by lia)],show bN (3 * k)=3 * k + 2 by rw [Qo,if_pos (by lia)]] at this;exact this
 ·rw [nm _ _ (J3 (show 3 * k < ns.length by lia)),nm _ _ (J3 (show 3 * k + 1 < ns.length by lia)),nm _ _ (J3 hk)]
  have t1:=pc.tri (3 * k) (by lia);have t2:=pc.tri (3 * k + 1) (by lia);have t3:=pc.tri (3 * k + 2) (by lia);rw [show aN (3 * k)=3 * k + 1 by rw [Qp,if_neg (by lia)],show bN (3 * k)=3 * k + 2 by rw [Qo,if_pos (by lia)]] at t1;rw [show aN (3 * k + 1)=3 * k + 2 by rw [Qp,if_neg (by lia)],show bN (3 * k + 1)=3 * k by rw [Qo,if_neg (by lia)]; lia] at t2;rw [show aN (3 * k + 2)=3 * k by rw [Qp,if_pos (by lia)]; lia,show bN (3 * k + 2)=3 * k + 1 by rw [Qo,if_neg (by lia)]; lia] at t3;exact ⟨by lia,by lia,by lia⟩
noncomputable def ptD (c:Nat):PyData:=.tuple ((kP c).map PyData.int)
def Zkm (c:Nat):PySem.SeqAt.shaped (ptD c)=true:=by unfold ptD kP; simp [PySem.SeqAt.shaped,PyData.canLay0,PyData.canLayAll0,PyData.depth,PyData.depthAll]
def Zpd (c d:Nat):PySem.SeqAt.noMix (ptD c) (ptD d)=true:=by unfold ptD kP; simp [PySem.SeqAt.noMix,PySem.SeqAt.noMixAll]
def Zmp (c d:Nat):Spec.same (ptD c) (ptD d)=decide (c=d):=by
 unfold ptD kP;simp only [map_cons,map_nil,Spec.same,Spec.sameAll,Bool.and_true];by_cases z:c=d
 ·subst z; simp
 ·rw [decide_eq_false z]
  have:¬ (c / 1000=d / 1000/\c % 1000=d % 1000):=by lia
  simp;lia
def X0 (H:Hp) (bs:List Addr) (os:List Nat):Prop:=bs.length=os.length/\∀ (i:Nat) (b:Addr) (c:Nat),bs[i]?=some b->os[i]?=some c->H b=some (.tup ((kP c).map V.int))
def X0.same {H H':Hp} {bs:List Addr} {os:List Nat} (h:X0 H bs os) (s:Same H H'):X0 H' bs os:=⟨h.1,λi b c hb hc=>s _ _ (h.2 i b c hb hc)⟩
def X0.snoc {H:Hp} {bs:List Addr} {os:List Nat} {b:Addr} {c:Nat} (h:X0 H bs os) (hb:H b=some (.tup ((kP c).map V.int))):X0 H (bs ++ [b]) (os ++ [c]):=by
 obtain ⟨h1,h2⟩:=h;refine ⟨by simp [h1],λi b' c' e1 e2=>?_⟩;by_cases z:i < bs.length
 ·rw [Av z] at e1
  rw [Av (by lia)] at e2;exact h2 i b' c' e1 e2
 ·rw [getElem?_append_right (by lia)] at e1
  rw [getElem?_append_right (by lia),<- h1] at e2;obtain ⟨k,hk⟩:∃ k,i - bs.length=k:=⟨_,rfl⟩;rw [hk] at e1 e2
  cases k with
  | zero=>cases e1; cases e2; exact hb
  | succ k=>simp at e1
def Za6 (C:Addr):Sp:=λvs H Q _=>∃ (p c:Addr) (M:Lw) (ns:List Int) (f:Nat->Int) (g:Int->Int),vs=[.ref p,.ref c]/\Zy C H p M ns/\TD M ns/\ns.length < 64/\Q8 H c ns g/\Nm ns f g/\PC M f/\sF f ns.length<=1200/\∀ H',Same H H'->Q .non H'
def Zdc (C:Addr):Sp:=λvs H Q _=>∃ (p:Addr) (M:Lw) (ns:List Int),vs=[.ref p]/\Zy C H p M ns/\ns.length<=1000/\∀ l,H l=none->Q (.ref l) (upd H l (.lst ((List.range ns.length).map nV)))
def Za9 (C:Addr):Sp:=λvs H Q _=>∃ (p nb b:Addr) (M:Lw) (ns:List Int) (f:Nat->Int) (n c:Nat),vs=[.ref p,.ref nb,.ref b]/\Zy C H p M ns/\M.length=ns.length/\Fam M f n/\H nb=some (.lst (rowI M.length f))/\VpP M f c/\H b=some (.tup ((kP c).map V.int)) /\
 ∀ (q:Addr) (H':Hp),Same H H'->H q=none->H' q=some (.tup ((kP (sgP M f c)).map V.int))->Q (.ref q) H'
def Fz:Sp:=λvs H Q _=>∃ (nb b:Addr) (M:Lw) (f:Nat->Int) (n c:Nat),vs=[.ref nb,.ref b]/\Fam M f n/\H nb=some (.lst (rowI M.length f))/\VpP M f c/\H b=some (.tup ((kP c).map V.int)) /\
 ∀ (q:Addr) (H':Hp),Same H H'->H q=none->H' q=some (.tup ((kP (tuP f c)).map V.int))->Q (.ref q) H'
def Zdb (C:Addr):Sp:=λvs H Q _=>∃ (p nb b:Addr) (M:Lw) (ns:List Int) (f:Nat->Int) (n c:Nat),vs=[.ref p,.ref nb,.ref b]/\Zy C H p M ns/\M.length=ns.length/\Fam M f n/\sF f M.length<=1200/\H nb=some (.lst (rowI M.length f))/\VpP M f c/\H b=some (.tup ((kP c).map V.int)) /\
 ∀ (l:Addr) (bs:List Addr) (os:List Nat) (H':Hp),Same H H'->H l=none->H' l=some (.lst (bs.map V.ref))->X0 H' bs os->OrbEnd (RnP M f) c os->Q (.ref l) H'
def Kj (h:p < n):atI (rowI n f) (p:Int)=some (V.int (f p)):=Xp (Q9 h)
def Zbd:FnScope ["tent","counts"] ["tent","counts"] (Zh Oo):=Am
def Zbs (T:Txt w K mg t):FnOk P w K mg base (CXr P w) 5 t.cM t.cV ["tent","counts"] (Za6 t.aa):=by
 refine T.c9.F.aR Zbd (a:)
 ·obtain ⟨p,c,M,ns,f,g,rfl,ta,td,h64,n9,nm,pc,u4,k⟩:=h
  refine ⟨_,(Zd (Z3 (pcT (Ut T) hr T.bE (Za (pv 0) (s:))))
   (Zg (Z2 (Zo Q1 (Ziz rfl (pv 1) ⟨rfl,rfl,rfl⟩ (by rfl) T.iJ) (Jw (v:=.int 600) rfl T.dR ⟨_,rfl⟩) (Zs _)) Yg Zx))),?_⟩;refine Zn λjx ji=>?_;refine ⟨_,Y,_,Y,p,c,M,ns,g,Y,ta,td,h64,n9,Zn7 pc nm td,λH1 s1=>?_⟩;refine ji _ _ ?_;obtain ⟨ks,t7,j4⟩:=n9.same s1;refine ⟨_,Y,c,_,ks.map g,Y,.inl t7,(by unfold dI; rw [map_map,map_map]; rfl),_,_,rfl,rfl,_,rfl,?_⟩;have e:¬ (600:Int) < (ks.map g).sum:=by
   have h1:=Zdy (j4.map g)
   have h2:=Zk6 td nm pc
   lia
  show if decide ((600:Int) < (ks.map g).sum)=true then _ else _
  rw [decide_eq_false e];exact iteF (k _ s1)
def Ka:FnScope ["self"] ["self"] (Zh Qt):=Am
def Qh (T:Txt w K mg t):FnOk P w K mg base (CXr P w) 1 t.bo t.bu ["self"] (Zdc t.aa):=by
 refine T.ay.F.aR Ka (a:)
 ·obtain ⟨p,M,ns,rfl,⟨dx,cl,na,sp,mt,o,f,b⟩,hl,k⟩:=h
  refine ⟨_,(Zg (Zm (Kr Y T.bF Y T.aO Y (Za (Zt Zu (by rfl) T.au PySem.boot_len (Za (Zq (pv 0) Y) Zb)) Zb)))),?_⟩;exact ⟨_,Y,p,_,dx,_,_,Y,b.ins,T.aj,T.av,Fr ..,na,_,Y,.inl (SqL.of b.names),ns.length,by rw [Ab],hl,λl vo=>k l vo⟩
def Jp:FnScope ["tent","numbers","at","place","spot"] ["tent","numbers","at"] (Zh Ot):=Am
def Jz (T:Txt w K mg t):FnOk P w K mg base (CXr P w) 4 t.cN t.cW ["tent","numbers","at"] (Za9 t.aa):=by
 refine T.a6.F.aR Jp (a:)
 ·obtain ⟨p,nb,b,M,ns,f,n,c,rfl,ta,kg,fm,ox,vc,hb,k⟩:=h
  obtain ⟨dx,cl,na,sp,mt,o,f',bb⟩:=id ta;refine ⟨_,(Zd (Qe (pv 2) (Ji Y (Z0 (Zk (i:=3) Jp.nd Y (Or.inl Y)) (Z0 (Zk (i:=4) Jp.nd Y (Or.inl Y)) Xg))))
   (Zg (Zm (X3 (Za (Yk (pv 0) T.aj T.ar.m (Wq T) (hr.mono (d:)) T.ar.b .nil Yf (Za (pv 3) Zb)) (Za (Zi Wo (Zi Wo (Ya Z4 (pv 1) (pv 3) (A:)) Zf) (pv 4)) Zb)))))),?_⟩
  refine ⟨_,Y,b,_,Y,SqT.of hb,Y,_,_,Y,_,_,Y,Y,?_⟩;dsimp only [Zj];obtain ⟨q,e1,_⟩:=fm.sg vc;have hp:c / 1000 < M.length:=vc.1;refine ⟨_,Y,p,dx,_,Y,bb.ins,Yu _ _ _ _,_,Y,p,M,ns,_,Y,ta,kg,λi y e2 e3=>?_,λz=>absurd (show (0:Int)<=((c / 1000:Nat):Int)/\((c / 1000:Nat):Int) < (ns.length:Int) by lia) z⟩;have:i=c / 1000:=by lia
  subst this;rw [e1] at e3;cases e3;refine ⟨_,Y,_,Y,nb,_,_,_,Y,Y,SqL.of ox,Kj hp,_,_,Y,Y,_,Y,_,_,Y,Y,(by show 2<=sizeLine; decide),λq' ll=>?_⟩;refine k q' _ (Same.new ll) ll ?_;rw [Zc,<- fm.sg_key vc e1];rfl
def Xu:FnScope ["numbers","at","place","spot","own","prior","tied_back"] ["numbers","at"] (Zh Ul):=Am
def V3 (T:Txt w K mg t):FnOk P w K mg base (CXr P w) 2 t.cm t.cx ["numbers","at"] Fz:=by
 refine T.bi.F.aR Xu (a:)
 ·obtain ⟨nb,b,M,f,n,c,rfl,fm,ox,vc,hb,k⟩:=h
  refine ⟨_,(Zd (Qe (pv 1) (Ji Y (Z0 (Zk (i:=2) Xu.nd Y (Or.inl Y)) (Z0 (Zk (i:=3) Xu.nd Y (Or.inl Y)) Xg))))
   (Zd (Vl (i:=4) (j:=5) rfl Xu.nd rfl rfl (d:) rfl rfl (Za (Ya Z4 (pv 0) (pv 2) (A:)) (Za (Ya Z4 (pv 0) (pcT (Zcq T) hr T.fD (B:)) (A:)) Zb)) (by rfl))
   (Zd (Zp (i:=6) Xu.nd rfl (f:) (Zi Xo (Zi Wo (Zi Yr (pv 5) (pv 4)) (Ya Z4 (pv 0) (pcT (Fi T) hr T.eX (B:)) (A:))) Zf))
   (Zd (Z2 (Zo J8 (pv 3) (pv 6) (Zs _)) (Zg (Zm (X3 (Za (pcT (Zcq T) hr T.fD (B:)) (Za (Zi Wo (Zi Wo (pv 5) Zf) (pv 3)) Zb))))) Zx)
   (Zg (Zm (X3 (Za (pcT (Fi T) hr T.eX (B:)) (Za (Zi Wo (Zi Wo (pv 4) Zf) (pv 3)) Zb))))))))),?_⟩;have hp:c / 1000 < M.length:=vc.1;obtain ⟨sa,sb⟩:=fm.sides hp;have tk:=fm.tu_key vc;have eB:=Zog (c / 1000);have eA:=Zoh (c / 1000);refine ⟨_,Y,b,_,Y,SqT.of hb,Y,_,_,Y,_,_,Y,Y,?_⟩
  try dsimp only [Zj]
  refine Zn λjx ji=>?_;refine ⟨_,Y,_,Y,nb,_,_,_,Y,Y,SqL.of ox,Kj hp,_,Y,_,Y,((c / 1000:Nat):Int),Y,nb,_,_,_,Y,Y,SqL.of ox,(by rw [eB]; exact Kj sb),_,_,Y,?_⟩;refine ji _ _ ?_
  try dsimp only [Zj]
  refine Zn λjx ji=>?_;refine ⟨_,Y,_,Y,_,_,Y,Y,_,Y,_,Y,((c / 1000:Nat):Int),Y,nb,_,_,_,Y,Y,SqL.of ox,(by rw [eA]; exact Kj sa),_,_,Y,Y,_,_,Y,Y,⟨by decide,by decide⟩,?_⟩;refine ji _ _ ?_
  try dsimp only [Zj]
  refine ⟨_,Y,_,Y,_,_,Y,Y,_,Y,?_⟩;refine ite2 (λz=>?_) (λz=>?_)
  ·rw [if_pos (of_decide_eq_true z)] at tk
   refine ⟨_,Y,((c / 1000:Nat):Int),Y,_,Y,_,_,Y,Y,_,Y,_,_,Y,Y,(by show 2<=sizeLine; decide),λq' ll=>?_⟩;refine k q' _ (Same.new ll) ll ?_;rw [Zc,<- tk,eB];rfl
  ·rw [if_neg (λy=>z (decide_eq_true y))] at tk
   refine ⟨_,Y,((c / 1000:Nat):Int),Y,_,Y,_,_,Y,Y,_,Y,_,_,Y,Y,(by show 2<=sizeLine; decide),λq' ll=>?_⟩;refine k q' _ (Same.new ll) ll ?_;rw [Zc,<- tk,eA];rfl
def W3:FnScope ["tent","numbers","start","way","at"] ["tent","numbers","start"] (Zh Kf):=Am
def Zdl (T:Txt w K mg t):FnOk P w K mg base (CXr P w) 5 t.dl t.dz ["tent","numbers","start"] (Zdb t.aa):=by
 refine T.dJ.F.aR W3 (a:)
 ·obtain ⟨p,nb,b,M,ns,f,n,c,rfl,ta,kg,fm,qh,ox,vc,hb,k⟩:=h
  refine ⟨_,(Zd (Zp (i:=3) W3.nd Y (Or.inl Y) (Yn (B:)))
   (Zd (Zp (i:=4) W3.nd rfl (f:) (pcT (V3 T) hr T.bi (Za (pv 1) (Za (pcT (Jz T) hr T.a6 (Za (pv 0) (Za (pv 1) (B:)))) Zb))))
   (Zd (Ju PassesOwn.never (Zo (Zrj hr.units) (pv 4) (pv 2) (Zs _)) (Zd (Z3 (Xw PySem.F.plainAttrs_list PySem.F.slot_list_append PySem.F.type_list_append Y3 (pv 3) (Za (pv 4) Zb)))
   (Zg (Zp (i:=4) W3.nd rfl (f:) (pcT (V3 T) hr T.bi (Za (pv 1) (Za (pcT (Jz T) hr T.a6 (Za (pv 0) (Za (pv 1) (Za (pv 4) Zb)))) Zb)))))))
   (Zg (Zm (pv 3)))))),?_⟩;refine ⟨_,Y,(by show 1<=sizeLine; rw [sizeLine_eq]; decide),λl hl=>?_⟩;have s0:Same H (upd H l (.lst [V.ref b])):=Same.new hl;have h0:(upd H l (.lst [V.ref b])) l=some (.lst ([b].map V.ref)):=Zc;generalize upd H l (.lst [V.ref b])=H0 at s0 h0
  try dsimp only [Zj]
  refine ⟨_,Y,_,Y,_,Y,_,Y,p,nb,b,M,ns,f,n,c,Y,ta.same s0,kg,fm,s0 _ _ ox,vc,s0 _ _ hb,λq1 H1 s1 hq1 h1=>?_⟩;refine ⟨nb,q1,M,f,n,sgP M f c,Y,fm,s1 _ _ (s0 _ _ ox),fm.sgV vc,h1,λq2 H2 s2 zx h2=>?_⟩
  have p0:X0 H2 [b] [c]:=⟨rfl,λi b' c' e1 e2=>by
   cases i with
   | zero=>cases e1; cases e2; exact s2 _ _ (s1 _ _ (s0 _ _ hb))
   | succ i=>simp at e1⟩
  show tSeq (O5 _ _) _ _ _ _;refine ⟨λm σ H3=>∃ (bs:List Addr) (os:List Nat) (la x:Nat) (q:Addr),m=1200 - os.length/\σ=[some (.ref p),some (.ref nb),some (.ref b),some (.ref l),some (.ref q)]/\Same H H3/\H3 l=some (.lst (bs.map V.ref))/\X0 H3 bs os/\Orb (RnP M f) c os/\os[os.length - 1]?=some la/\RnP M f la x/\H3 q=some (.tup ((kP x).map V.int)),⟨_,[b],[c],c,nxP M f c,q2,Y,Y,s0.trans (s1.trans s2),s2 _ _ (s1 _ _ h0),p0,Orb.one c,Y,⟨vc,Y⟩,h2⟩,?_⟩;clear p0 h2 zx s2 h1 hq1 s1 h0 s0;clear q1 q2 H0 H1 H2;rintro m σ H3 ⟨bs,os,la,x,q,rfl,rfl,s3,h3,pt,o,wy,r,hq⟩;refine ⟨_,Y,_,Y,?_⟩;refine ⟨ptD x,ptD c,.tup (SqT.of hq) (DVs.ints _),.tup (SqT.of (s3 _ _ hb)) (DVs.ints _),Zkm x,Zkm c,Zpd x c,_,Y,?_⟩;rw [Zmp];by_cases z:x=c
  ·rw [decide_eq_true z]
   subst z;exact iteF ⟨_,Y,k l bs os H3 s3 hl h3 pt ⟨o,la,wy,r⟩⟩
  ·rw [decide_eq_false z]
   have o':=o.snoc wy r (o.new fm.rinj wy r z);have jm:=fm.few qh o'.nodup (fm.orbV vc o');rw [Ae,At] at jm;have vx:VpP M f x:=fm.orbV vc o' x (mem_append_right _ mem_cons_self);have hbl:=pt.1;refine iteT ⟨_,λσ' H' h=>h,?_⟩;refine ⟨_,Y,.inl ⟨Y,_,SqL.of h3⟩,_,Y,l,_,_,Y,Y,h3,(by rw [Ab,sizeLine_eq]; lia),?_⟩;have j9:∀ {b':Addr} {k':Nat},H3 b'=some (.tup ((kP k').map V.int))->b'≠l:=λe z=>by rw [z,h3] at e; cases e
   have s4:Same H (upd H3 l (.lst (bs.map V.ref ++ [V.ref q]))):=Same.add s3 hl;have h4:(upd H3 l (.lst (bs.map V.ref ++ [V.ref q]))) l=some (.lst ((bs ++ [q]).map V.ref)):=by rw [Zc,Aj]; rfl
   have hq4:(upd H3 l (.lst (bs.map V.ref ++ [V.ref q]))) q=some (.tup ((kP x).map V.int)):=by rw [Ze (j9 hq)]; exact hq
   have pt4:X0 (upd H3 l (.lst (bs.map V.ref ++ [V.ref q]))) bs os:=⟨pt.1,λi b' c' e1 e2=>by rw [Ze (j9 (pt.2 i b' c' e1 e2))]; exact pt.2 i b' c' e1 e2⟩;show _;generalize upd H3 l (.lst (bs.map V.ref ++ [V.ref q]))=H4 at s4 h4 hq4 pt4
   try dsimp only [Zj]
   refine ⟨_,Y,_,Y,_,Y,_,Y,p,nb,q,M,ns,f,n,x,Y,ta.same s4,kg,fm,s4 _ _ ox,vx,hq4,λq1 H5 s5 hq1 h5=>?_⟩;refine ⟨nb,q1,M,f,n,sgP M f x,Y,fm,s5 _ _ (s4 _ _ ox),fm.sgV vx,h5,λq2 H6 s6 zx h6=>?_⟩;refine ⟨1200 - (os ++ [x]).length,by rw [Ae,At]; lia,bs ++ [q],os ++ [x],x,nxP M f x,q2,rfl,rfl,s4.trans (s5.trans s6),s6 _ _ (s5 _ _ h4),(pt4.snoc hq4).same (s5.trans s6),o',?_,⟨vx,rfl⟩,h6⟩;rw [Ae,At,Nat.add_sub_cancel,getElem?_append_right (An _),Nat.sub_self];rfl
def KeyW (M:Lw) (f:Nat->Int) (ks:List (List Int)):Prop:=ks.Nodup/\∀ k∈ks,∃ c,VpP M f c/\k=kP c
def KeyW.snoc {M:Lw} {f:Nat->Int} {ks:List (List Int)} {d:Nat} (h:KeyW M f ks) (vd:VpP M f d) (hm:kP d ∉ ks):KeyW M f (ks ++ [kP d]):=⟨nodup_append.mpr ⟨h.1,by simp,λa ha b hb=>by rw [Af hb]; exact λz=>hm (z ▸ ha)⟩,λk hk=>by
 rcases mem_append.mp hk with z | z
 ·exact h.2 k z
 ·rw [Af z]; exact ⟨d,vd,Y⟩⟩
def KeyW.len {M:Lw} {f:Nat->Int} {n:Nat} {ks:List (List Int)} (h:KeyW M f ks) (fm:Fam M f n) (hs:sF f M.length<=60):ks.length<=60:=by
 have h1:=Zhu ks ((ptsL f M.length).map kP) h.1 λk hk=>by
  obtain ⟨c,v,rfl⟩:=h.2 k hk;exact mem_map_of_mem (fm.pts_mem.mpr v)
 have h2:=Js f M.length fm.pc.nn;rw [Ab] at h1;lia
def IsI (H:Hp) (a:Addr):Prop:=∃ g:List Int,H a=some (.lst (g.map V.int))
def Zj3 (C:Addr):Sp:=λvs H Q _=>∃ (p c:Addr) (M:Lw) (ns:List Int) (f:Nat->Int) (g:Int->Int),vs=[.ref p,.ref c]/\Zy C H p M ns/\TD M ns/\ns.length < 64/\Q8 H c ns g/\Nm ns f g/\PC M f/\sF f ns.length<=60/\(∀ p,p < M.length->f p<=900) /\
 ∀ (l:Addr) (H':Hp),Same H H'->Q (.ref l) H'
def Zob (h:Xn H xs) (hS:H S=some (Xa P w S ys)):Xn (upd H S o) xs:=λq hq=>by
 rw [Ze (λz=>by have:=h q hq; rw [z,hS] at this; unfold Xa at this; cases this)];exact h q hq
def Zs1 (h:Xn H xs) (hF:H F=some (.lst l)):Xn (upd H F o) xs:=λq hq=>by
 rw [Ze (λz=>by have:=h q hq; rw [z,hF] at this; cases this)];exact h q hq
def X0.updF {H:Hp} {F:Addr} {bs:List Addr} {os:List Nat} {l:List V} {o:HO} (h:X0 H bs os) (hF:H F=some (.lst l)):X0 (upd H F o) bs os:=⟨h.1,λi b c hb hc=>by
 rw [Ze (λz=>by have:=h.2 i b c hb hc; rw [z,hF] at this; cases this)]
 exact h.2 i b c hb hc⟩
def Zs3 {i j:Nat} (h:j < 1000):kP (1000 * i + j)=[((i:Nat):Int),((j:Nat):Int)]:=by
 have d:=Qm (p:=i) (s:=j) h;unfold kP;rw [d.1,d.2]
def Wj:FnScope ["tent","counts","numbers","seen","family","start","way","at"] ["tent","counts"] (Zh Zek):=Am
def Zcp (T:Txt w K mg t):FnOk P w K mg base (CXr P w) 9 t.gC t.gN ["tent","counts"] (Zj3 t.aa):=by
  refine T.cD.F.aR Wj (λ_ _ _ s H vs Q E hr h=>?_)
  · obtain ⟨p,c,M,ns,f,g,rfl,ta,td,h64,n9,nm,pc,u4,z8,k⟩:=h
    have hu:=Y4 hr;refine ⟨_,(Zd (Z3 (pcT (Zbs T) hr T.c9 (Za (pv 0) (s:))))
      (Zd (Zp (i:=2) Wj.nd rfl (Or.inr rfl) (Yp (ts:=["place"]) (fv:=[("counts",1),("tent",0)]) ⟨rfl,by decide +kernel,by decide +kernel,Z5 (by rfl),⟨⟨rfl,rfl,Or.inl rfl⟩,⟨rfl,rfl,Or.inl rfl⟩,trivial⟩⟩ rfl (Yj (Vn (pv 0) T.aj T.ay.m (Qh T) (hr.mono (d:)) T.ay.b .nil Yf)) (λ_ _ _ _=>(Zk (i:=0) (show List.Nodup (["place","counts","tent"]:List Str) from by decide +kernel) rfl (f:) (Or.inr rfl))) (λ_ _ _ _=>Yd) (λ_ _ _=>rfl) (λ_ _ _ _ _ _=>Yo (Jc hu (pv 1) (Yk (pv 2) T.aj T.aI.m (V5 T) (hr.mono (d:)) T.aI.b .nil Yf (Za (pv 0) Zb)) (A:)))))
      (Zd (Zp (i:=3) Wj.nd rfl (f:) (Zi1 Zjo (by rfl) T.ja PySem.Pv.boot_set))
      (Zd (Zp (i:=4) Wj.nd rfl (f:) (Yn Zb))
      (Zd (Xj PassesOwn.never rfl (Yj (Yp (ts:=["place","spot"]) (fv:=[("numbers",2)]) (b:) rfl (Yj (Vn (pv 0) T.aj T.ay.m (Qh T) (hr.mono (d:)) T.ay.b .nil Yf)) (λ_ _ _ _=>(Zk (i:=0) (show List.Nodup (["place","spot","numbers"]:List Str) from by decide +kernel) rfl (f:) (Or.inr rfl))) (λ_ _ _ _=>Yd) (λ_ _ _=>rfl) (λ_ _ _ _ _ _=>Ze9 rfl rfl (X7 rfl T.aO (Za (Ya (J1 K) (pv 2) (pv 0) (A:)) Zb)) (Zk (i:=1) (show List.Nodup (["place","spot","numbers"]:List Str) from by decide +kernel) rfl (f:) (Or.inr rfl)) Yd (X3 (Za (pv 0) (s:)))))) (Zk (i:=5) Wj.nd rfl (f:)) (Zg (Z2 (Zo (Zfd hr.units) (pv 5) (pv 3) (D:)) (Zd (Zp (i:=6) Wj.nd rfl (f:) (pcT (Zdl T) hr T.dJ (Za (pv 0) (Za (pv 2) (Za (pv 5) Zb)))))
      (Zd (Z3 (Xw PySem.F.plainAttrs_list PySem.F.slot_list_append PySem.F.type_list_append Y3 (pv 4) (Za (pcT (Fh T) hr T.eY (Za (pv 0) (Za (Yp (ts:=["place","spot"]) (fv:=[]) (k:) rfl (Yj (pv 6)) (λ_ _ _ _=>(Va (n:=2) K rfl (Z0 (Zk (i:=0) (show List.Nodup (["place","spot"]:List Str) from by decide +kernel) rfl (f:) (Or.inr rfl)) (Z0 (Zk (i:=1) (show List.Nodup (["place","spot"]:List Str) from by decide +kernel) rfl (f:) (Or.inr rfl)) Xg)))) (λ_ _ _ _=>Yd) (λ_ _ _=>rfl) (λ_ _ _ _ _ _=>Yo (pv 0))) Zb))) Zb)))
      (Zg (Xj PassesOwn.never rfl (Yj (pv 6)) (Zk (i:=7) Wj.nd rfl (f:)) (Zd (Z3 (Zai hr.units (pv 3) (Za (pv 7) Zb)))
      (Zg (Z3 (Zai hr.units (pv 3) (Za (pcT (Jz T) hr T.a6 (Za (pv 0) (Za (pv 2) (Za (pv 7) Zb)))) Zb))))))))) Zx)))
      (Zg (Zm (Zt (Zgc hr.units) (by rfl) T.cH PyProof.Rows.boot_sorted (Za (pv 4) Zb))))))))),?_⟩
    have kg:M.length=ns.length:=td.len.symm;obtain ⟨n,n1,n40,hn⟩:=td.n;have fm:Fam M f n:=⟨pc,td.inv,hn,z8⟩;have hsm0:sF f M.length<=60:=by rw [kg]; exact u4
    have qh:sF f M.length<=1200:=by lia
    refine Zn λjx ji=>?_;refine ⟨_,Y,_,Y,p,c,M,ns,f,g,Y,ta,td,h64,n9,nm,pc,by lia,λH1 s1=>?_⟩;refine ji _ _ ?_
    try dsimp only [Zj]
    have qo:=ta.same s1;obtain ⟨ks,t7,j4⟩:=n9.same s1;refine Zn λjx ji=>?_;obtain ⟨dx,cl,na,sp,zc,o,f',b⟩:=id qo;refine ⟨_,Y,p,dx,_,Y,b.ins,Yu _ _ _ _,p,M,ns,Y,qo,by lia,λl hl=>?_⟩;have s2:Same H1 (upd H1 l (.lst ((List.range ns.length).map nV))):=Same.new hl;have h2:(upd H1 l (.lst ((List.range ns.length).map nV))) l=some (.lst ((List.range ns.length).map nV)):=Zc;generalize upd H1 l (.lst ((List.range ns.length).map nV))=H2 at s2 h2;clear b;refine ⟨l,Y,⟨_,SqL.of h2⟩,λnb ox=>?_⟩;have p7:=qo.same s2;have my:=s2 _ _ t7;refine Yl (xs:=(List.range ns.length).map nV) (λi σ H3=>∃ v,σ=[v,some (.ref c),some (.ref p)]/\Same H2 H3/\H3 nb=some (.lst (rowI i f))) ⟨none,Y,Same.new ox,by rw [Zc]; rfl⟩ ?_ ?_ ?_
    · rintro i σ H3 _ ⟨v,rfl,s3,h3⟩
      exact SqL.of (s3 _ _ h2)
    · rintro i x σ H3 hx ⟨v,rfl,s3,h3⟩
      obtain ⟨hi,rfl⟩:i < ns.length/\x=nV i:=by
        rw [Ah] at hx;by_cases z:i < ns.length
        · rw [getElem?_range z] at hx; cases hx; exact ⟨z,Y⟩
        · rw [Ay (by rw [length_range]; lia)] at hx; cases hx
      dsimp only [Zj,tYes];rw [if_pos rfl];have qm:=p7.same s3;obtain ⟨dx,cl,na,sp,zc,o,f',b⟩:=id qm;have ey:=J3 hi;have hzk:ns.getD i 0∈ks:=j4.mem_iff.mpr (Zap hi);refine ⟨_,Y,_,Y,p,dx,_,Y,b.ins,Yu _ _ _ _,_,Y,p,M,ns,i,Y,qm,λi' y e1 e2=>?_,λq=>absurd ⟨by lia,by lia⟩ q⟩;obtain rfl:i=i':=by lia
      rw [ey] at e2
      injection e2 with e2
      subst e2;refine ⟨c,_,Y,Zb0 (s3 _ _ my) hzk,?_⟩;refine ⟨_,h3,?_,_,Y,Same.add s3 ox,?_⟩
      · rw [X9]; exact Zv (by lia)
      · rw [Zc,nm _ _ ey]
        unfold rowI;rw [range_succ,Aj];rfl
    rintro σ H3 ⟨v,rfl,s3,h3⟩;rw [Ab,length_range,<- kg] at h3;refine ji _ _ ?_
    try dsimp only [Zj]
    have qm:=p7.same s3;have sH3:=s1.trans (s2.trans s3);have hnbH:H nb=none:=s1.free (s2.free ox);clear s1 s2 s3 qo p7 t7 my h2 hl ox;refine Zn λjx ji=>?_;refine ⟨Y,λS hS=>?_⟩;refine ji _ _ ?_;refine Zn λjx ji=>?_;refine ⟨Az _,λF hF=>?_⟩;obtain ⟨hFS,hF0⟩:=Wi hF;refine (λ(G:∀ H4:Hp,Same H3 H4->H4 S=some (Xa P w S [])->H4 F=some (.lst (([]:List Addr).map V.ref))->jx _ H4)=>G _ (Same.add (Same.new hS) hF0) (by rw [Ze (Ne.symm hFS),Zc]; rfl) Zc) ?_;intro H4 s4 hS4 hF4;have hSH:H S=none:=sH3.free hS;have hFH:H F=none:=sH3.free hF0;refine ji _ _ ?_;clear hF
    try dsimp only [Zj]
    have sH4:=sH3.trans s4;have ta4:=qm.same s4;have h4:=s4 _ _ h3;have hnS:nb≠S:=λz=>by rw [z,hS] at h3; cases h3
    have hnF:nb≠F:=λz=>by rw [z,hF0] at h3; cases h3
    clear s4 qm h3 sH3;show tSeq (tFor _ _ _) _ _ _ _;refine Zz (λσ HX=>∃ (xs:List (List Int × Addr)) (as:List Addr) (v5 v6 v7:Option V),σ=[some (.ref p),some (.ref c),some (.ref nb),some (.ref S),some (.ref F),v5,v6,v7]/\Same H HX/\HX F=some (.lst (as.map V.ref))/\(∀ a∈as,IsI HX a)/\as.length < 64) (λnx jy=>?_) ?_
    · -- the starts
      obtain ⟨dx,cl,na,sp,zc,o,f',b⟩:=id ta4;refine ⟨_,Y,p,dx,_,Y,b.ins,Yu _ _ _ _,p,M,ns,Y,ta4,by lia,λl hl=>?_⟩;have s5:Same H4 (upd H4 l (.lst ((List.range ns.length).map nV))):=Same.new hl;have h5:(upd H4 l (.lst ((List.range ns.length).map nV))) l=some (.lst ((List.range ns.length).map nV)):=Zc;generalize upd H4 l (.lst ((List.range ns.length).map nV))=H5 at s5 h5;clear b;refine ⟨l,Y,⟨_,SqL.of h5⟩,λZ hZ=>?_⟩;have hn5:=s5 _ _ h4;refine Yl (xs:=(List.range ns.length).map nV) (λi σ H6=>∃ (zs:List Addr) (v v':Option V),σ=[v,v',some (.ref nb)]/\Same H5 H6/\H6 Z=some (.lst (zs.map V.ref))/\X0 H6 zs (ptsL f i)) ⟨[],none,none,Y,Same.new hZ,by rw [Zc]; rfl,rfl,λi b c e=>by simp at e⟩ ?_ ?_ ?_
      · rintro i σ H6 _ ⟨zs,v,v',rfl,s6,_⟩
        exact SqL.of (s6 _ _ h5)
      · rintro i x σ H6 hx ⟨zs,v,v',rfl,s6,h6,yg⟩
        obtain ⟨hi,rfl⟩:i < ns.length/\x=nV i:=by
          rw [Ah] at hx;by_cases z:i < ns.length
          · rw [getElem?_range z] at hx; cases hx; exact ⟨z,Y⟩
          · rw [Ay (by rw [length_range]; lia)] at hx; cases hx
        dsimp only [Zj,tYes];rw [if_pos rfl];have lw:i < M.length:=by lia
        obtain ⟨f1,f2⟩:=fm.nf lw
        have k8:((ptsL f i).length:Int)<=1200:=by
          have h1:=Js f i λq hq=>pc.nn q (by lia);have h2:=Js f M.length pc.nn
          have h3:(ptsL f i).length<=(ptsL f M.length).length:=by
            have:∀ d i,(ptsL f i).length<=(ptsL f (i + d)).length:=λd i=>by
              induction d with
              | zero=>exact An _
              | succ d ih=>show _<=(ptsL f (i + d) ++ _).length; rw [Ae]; lia
            have:=this (M.length - i) i;rwa [show i + (M.length - i)=M.length by lia] at this
          lia
        refine ⟨_,Y,_,Y,nb,_,_,_,Y,Y,SqL.of (s6 _ _ hn5),Kj lw,_,Y,by lia,by lia,?_⟩;show Wv (Itr 0 (nN f i)) _ _ _ _ _ _;refine Q4 (λj σ H7=>∃ (zs:List Addr) (v':Option V),σ=[some (nV i),v',some (.ref nb)]/\Same H5 H7/\H7 Z=some (.lst (zs.map V.ref))/\X0 H7 zs (ptsL f i ++ (List.range j).map λs=>1000 * i + s)) ⟨zs,v',Y,s6,h6,by rw [range_zero,map_nil,append_nil]; exact yg⟩ ?_ ?_
        · rintro j σ H7 hj ⟨zs,v',rfl,s7,h7,pt7⟩
          dsimp only [Zj,tYes];rw [if_pos rfl,Int.zero_add];have hzl:=pt7.1;rw [Ae,Ab,length_range] at hzl;refine ⟨_,Y,_,Y,(by show 2<=sizeLine; decide),λq hq=>?_⟩;have s8:Same H7 (upd H7 q (.tup [nV i,V.int j])):=Same.new hq;have e8:(upd H7 q (.tup [nV i,V.int j])) q=some (.tup ((kP (1000 * i + j)).map V.int)):=by rw [Zc,Zs3 (by lia)]; rfl
          show ∃ xs,(upd H7 q (.tup [nV i,V.int j])) Z=some (.lst xs)/\_;generalize upd H7 q (.tup [nV i,V.int j])=H8 at s8 e8 ⊢;refine ⟨_,s8 _ _ h7,by rw [Ab,sizeLine_eq]; lia,zs ++ [q],_,rfl,Same.add (s7.trans s8) hZ,by rw [Zc,Aj]; rfl,?_⟩;have hqZ:q≠Z:=λz=>by rw [z,h7] at hq; cases hq
          have p8:=(pt7.same s8).snoc e8;rw [range_succ,Aj,<- append_assoc];refine ⟨p8.1,λi' b' c' e1 e2=>?_⟩;have:=p8.2 i' b' c' e1 e2;rw [Ze (λz=>by rw [z,s8 _ _ h7] at this; cases this)];exact this
        · rintro σ H7 ⟨zs,v',rfl,s7,h7,pt7⟩
          exact ⟨zs,_,_,Y,s7,h7,pt7⟩
      rintro σ H6 ⟨zs,v,v',rfl,s6,h6,yg⟩;rw [Ab,length_range,<- kg] at yg;have qb:=s5.trans s6;have hZS:Z≠S:=λz=>by rw [z] at hZ; rw [s5.free hZ] at hS4; cases hS4
      have hZF:Z≠F:=λz=>by rw [z] at hZ; rw [s5.free hZ] at hF4; cases hF4
      refine ⟨Z,Y,⟨_,SqL.of h6⟩,?_⟩
      have neS:∀ {a:Addr} {x:HO},H6 a=some x->(∀ xs,x≠Xa P w S xs)->a≠S:=λe h z=>by rw [z,qb _ _ hS4] at e; injection e with e; exact h _ e.symm
      have tS:∀ (a:Addr) (k:List V) (xs:List (List Int × Addr)),(HO.tup k)≠Xa P w a xs:=λa k xs z=>by unfold Xa at z; cases z
      have lS:∀ (a:Addr) (k:List V) (xs:List (List Int × Addr)),(HO.lst k)≠Xa P w a xs:=λa k xs z=>by unfold Xa at z; cases z
      refine J5 (xs:=zs.map V.ref) (λi σ H7=>∃ (xs:List (List Int × Addr)) (as:List Addr) (v5 v6 v7:Option V),σ=[some (.ref p),some (.ref c),some (.ref nb),some (.ref S),some (.ref F),v5,v6,v7]/\Off S F H6 H7/\H7 S=some (Xa P w S xs)/\Xn H7 xs/\KeyW M f (xs.map (·.1))/\H7 F=some (.lst (as.map V.ref))/\(∀ a∈as,IsI H7 a/\a≠S/\a≠F)/\as.length<=i) ⟨[],[],none,none,none,Y,Off.refl,qb _ _ hS4,λq hq=>absurd hq not_mem_nil,⟨nodup_nil,λk hk=>absurd hk not_mem_nil⟩,qb _ _ hF4,λa ha=>absurd ha not_mem_nil,An 0⟩ ?_ ?_ ?_
      · rintro i σ H7 _ ⟨xs,as,v5,v6,v7,rfl,ss,_⟩
        exact SqL.of (ss _ _ hZS hZF h6)
      · rintro i x σ H7 hx ⟨xs,as,v5,v6,v7,rfl,ss,xa,hK7,sk7,t8,fr7,pr7⟩
        obtain ⟨b,hb,rfl⟩:=Z6 hx;have vp:i < (ptsL f M.length).length:=by rw [<- yg.1]; exact (Aa hb).1
        obtain ⟨d,hd⟩:∃ d,(ptsL f M.length)[i]?=some d:=⟨_,Ac vp⟩;have vd:VpP M f d:=fm.pts_mem.mp (Au hd);have hb6:=yg.2 i b d hb hd;have hbS:b≠S:=neS hb6 (tS _ _);have hbF:b≠F:=λz=>by rw [z,qb _ _ hF4] at hb6; cases hb6
        have hb7:=ss _ _ hbS hbF hb6;dsimp only [Zj];refine ⟨_,Y,_,Y,b,kP d,S,xs,Y,Y,hb7,xa,hK7,_,Y,?_⟩;by_cases hm:kP d∈xs.map (·.1)
        · rw [decide_eq_true hm]
          refine iteF ?_;exact ⟨xs,as,_,_,_,Y,ss,xa,hK7,sk7,t8,fr7,by lia⟩
        · rw [decide_eq_false hm]
          refine iteT ?_;have sH7:Same H H7:=ss.same (sH4.trans qb) hSH hFH;refine Zn λjx ji=>?_;refine ⟨_,Y,_,Y,_,Y,p,nb,b,M,ns,f,n,d,Y,ta.same sH7,kg,fm,qh,ss _ _ hnS hnF (qb _ _ h4),vd,hb7,λW ws os H8 s8 hW h8 pt8 o=>?_⟩;refine ji _ _ ?_
          try dsimp only [Zj]
          have hWS:W≠S:=λz=>by rw [z,xa] at hW; cases hW
          have hWF:W≠F:=λz=>by rw [z,t8] at hW; cases hW
          have hos:=fm.few qh o.nodup (fm.orbV vd o.toOrb);have tf:=pt8.1;refine Zn λjx ji=>?_;refine ⟨_,Y,.inl ⟨Y,_,SqL.of (s8 _ _ t8)⟩,_,Y,_,Y,W,Y,⟨_,SqL.of h8⟩,λB hB=>?_⟩;refine Yl (xs:=ws.map V.ref) (λj σ H9=>∃ (v v':Option V),σ=[v,v']/\Same H8 H9/\H9 B=some (.lst (((os.take j).map (· / 1000)).map nV))) ⟨none,none,Y,Same.new hB,by rw [Zc]; rfl⟩ ?_ ?_ ?_
          · rintro j σ H9 _ ⟨v,v',rfl,s9,_⟩
            exact SqL.of (s9 _ _ h8)
          · rintro j x σ H9 hx ⟨v,v',rfl,s9,h9⟩
            obtain ⟨b',ut,rfl⟩:=Z6 hx;have hj:j < os.length:=by rw [<- tf]; exact (Aa ut).1
            obtain ⟨c',ny⟩:∃ c',os[j]?=some c':=⟨_,Ac hj⟩;dsimp only [Zj,tYes];refine ⟨_,_,Y,SqT.of (s9 _ _ (pt8.2 j b' c' ut ny)),Y,_,_,Y,_,_,Y,Y,?_⟩
            try rw [if_pos rfl]
            refine ⟨_,Y,_,h9,by rw [Ab,Ab,Ai,sizeLine_eq]; lia,_,_,rfl,Same.add s9 hB,?_⟩;rw [Zc,Aw,ny,Aj,Aj];rfl
          rintro σ H9 ⟨v,v',rfl,s9,h9⟩;rw [Ab,tf,take_length] at h9;have yf:=s8.trans s9;refine ⟨p,B,M,ns,os.map (· / 1000),Y,ta.same (sH7.trans yf),kg,h9,by rw [Ab]; lia,fm.plain vd o,λl2 L2 HA sA kf hL2 isL=>?_⟩;have ve:=yf.trans sA;have hil':i < 60:=by
            have h2:=Js f M.length pc.nn
            lia
          refine ⟨F,_,_,Y,Y,ve _ _ t8,(by rw [Ab,sizeLine_eq]; lia),?_⟩;have hl2S:l2≠S:=λz=>by rw [z,yf _ _ xa] at kf; cases kf
          have hl2F:l2≠F:=λz=>by rw [z,yf _ _ t8] at kf; cases kf
          have hl2H:H l2=none:=sH7.free (yf.free kf);refine (λ(G:∀ HB:Hp,Off S F H7 HB->HB S=some (Xa P w S xs)->HB F=some (.lst ((as ++ [l2]).map V.ref))->Xn HB xs->(∀ a∈as ++ [l2],IsI HB a/\a≠S/\a≠F)->HB W=some (.lst (ws.map V.ref))->X0 HB ws os->jx _ HB)=>G _ (Off.of ve).b (by rw [Ze (Ne.symm hFS)]; exact ve _ _ xa) (by rw [Zc,Aj]; rfl) (Zs1 (hK7.same ve) (ve _ _ t8)) ?_ (by rw [Ze hWF]; exact (s9.trans sA) _ _ h8) ((pt8.same (s9.trans sA)).updF (ve _ _ t8))) ?_
          · intro a ha
            rcases mem_append.mp ha with z | z
            · obtain ⟨⟨g',hg'⟩,n1,n2⟩:=fr7 a z
              exact ⟨⟨g',by rw [Ze n2]; exact ve _ _ hg'⟩,n1,n2⟩
            · rw [Af z]
              exact ⟨⟨L2,by rw [Ze hl2F]; exact hL2⟩,hl2S,hl2F⟩
          intro HB ofB hSB hFB hKB frB hWB ptB;refine ji _ _ ?_
          try dsimp only [Zj]
          clear hL2 isL ve kf sA h9 s9 hB yf s8 h8 pt8 hW fr7 t8 xa hK7;refine ⟨_,Y,W,Y,⟨_,SqL.of hWB⟩,?_⟩;refine J5 (xs:=ws.map V.ref) (λj σ HC=>∃ (xs:List (List Int × Addr)) (v7:Option V),σ=[some (.ref p),some (.ref c),some (.ref nb),some (.ref S),some (.ref F),some (.ref b),some (.ref W),v7]/\Off S F HB HC/\HC S=some (Xa P w S xs)/\Xn HC xs/\KeyW M f (xs.map (·.1))/\HC F=some (.lst ((as ++ [l2]).map V.ref))) ⟨xs,_,Y,Off.refl,hSB,hKB,sk7,hFB⟩ ?_ ?_ ?_
          · rintro j σ HC _ ⟨xs,v7,rfl,vh,_⟩
            exact SqL.of (vh _ _ hWS hWF hWB)
          · rintro j x σ HC hx ⟨xs,v7,rfl,vh,yu,hKC,y6,hFC⟩
            obtain ⟨b',ut,rfl⟩:=Z6 hx;have hj:j < os.length:=by rw [<- tf]; exact (Aa ut).1
            obtain ⟨c',ny⟩:∃ c',os[j]?=some c':=⟨_,Ac hj⟩;have vc':VpP M f c':=fm.orbV vd o.toOrb c' (Au ny);have vy:=ptB.2 j b' c' ut ny
            have hbS':b'≠S:=λz=>by rw [z,hSB] at vy; injection vy with vy; exact tS _ _ _ vy.symm
            have hbF':b'≠F:=λz=>by rw [z,hFB] at vy; cases vy
            have hbC:=vh _ _ hbS' hbF' vy;have uf:=y6.len fm hsm0;rw [Ab] at uf;dsimp only [Zj];refine Zz (λσ HD=>∃ (xs:List (List Int × Addr)),σ=[some (.ref p),some (.ref c),some (.ref nb),some (.ref S),some (.ref F),some (.ref b),some (.ref W),some (.ref b')]/\Off S F HB HD/\HD S=some (Xa P w S xs)/\Xn HD xs/\KeyW M f (xs.map (·.1))/\HD F=some (.lst ((as ++ [l2]).map V.ref))) (λnx jy=>?_) ?_
            · refine ⟨_,Y,S,xs,Y,yu,_,Y,b',kP c',xs,Y,hbC,yu,hKC,by lia,λqx=>jy _ _ ⟨xs,Y,vh,yu,hKC,y6,hFC⟩,λpf=>jy _ _ ⟨xs ++ [(kP c',b')],Y,vh.a,Zc,Zob (hKC.snoc hbC) yu,?_,by rw [Ze hFS]; exact hFC⟩⟩
              rw [Aj];exact y6.snoc vc' pf
            rintro σ HD ⟨xs,rfl,y9,hSD,hKD,skD,hFD⟩;have hbD:=y9 _ _ hbS' hbF' vy;have sHD:Same H HD:=(ofB.trans y9).same sH7 hSH hFH;have uf:=skD.len fm hsm0;rw [Ab] at uf;refine ⟨_,Y,S,xs,Y,hSD,_,Y,_,Y,_,Y,p,nb,b',M,ns,f,n,c',Y,ta.same sHD,kg,fm,y9 _ _ hnS hnF (ofB _ _ hnS hnF (ss _ _ hnS hnF (qb _ _ h4))),vc',hbD,λq HE sE hq hqE=>?_⟩;refine ⟨q,kP (sgP M f c'),xs,Y,hqE,sE _ _ hSD,hKD.same sE,by lia,λqx=>?_,λpf=>?_⟩
            · exact ⟨xs,_,Y,y9.trans (Off.of sE),sE _ _ hSD,hKD.same sE,skD,sE _ _ hFD⟩
            · refine ⟨xs ++ [(kP (sgP M f c'),q)],_,Y,(y9.trans (Off.of sE)).a,Zc,Zob ((hKD.same sE).snoc hqE) (sE _ _ hSD),?_,by rw [Ze hFS]; exact sE _ _ hFD⟩
              rw [Aj];exact skD.snoc (fm.sgV vc') pf
          · rintro σ HC ⟨xs,v7,rfl,vh,yu,hKC,y6,hFC⟩
            refine ⟨xs,as ++ [l2],_,_,_,Y,ss.trans (ofB.trans vh),yu,hKC,y6,hFC,λa ha=>?_,by rw [Ae,At]; lia⟩;obtain ⟨⟨g',hg'⟩,n1,n2⟩:=frB a ha;exact ⟨⟨g',vh _ _ n1 n2 hg'⟩,n1,n2⟩
      · rintro σ H7 ⟨xs,as,v5,v6,v7,rfl,ss,xa,hK7,sk7,t8,fr7,pr7⟩
        rw [Ab,yg.1] at pr7;have h2:=Js f M.length pc.nn;exact jy _ _ ⟨xs,as,_,_,_,Y,ss.same (sH4.trans qb) hSH hFH,t8,λa ha=>(fr7 a ha).1,by lia⟩
    · rintro σ HX ⟨xs,as,v5,v6,v7,rfl,sX,hFX,yp,hal⟩
      have hg:∀ a,∃ g:List Int,a∈as->HX a=some (.lst (g.map V.int)):=λa=>by
        by_cases z:a∈as
        · obtain ⟨g,h⟩:=yp a z
          exact ⟨g,λ_=>h⟩
        · exact ⟨[],λh=>absurd h z⟩
      refine ⟨_,Y,F,as,λa=>(hg a).choose,Y,SqL.of hFX,λa ha=>SqL.of ((hg a).choose_spec ha),hal,λq bs hq pm=>?_⟩;exact k q _ (Same.add sX (sX.free hq))
def Zmf (C:Addr):Sp:=λvs H Q _=>∃ (p a b:Addr) (M:Lw) (ns:List Int) (ws us:List Nat),vs=[.ref p,.ref a,.ref b]/\Zy C H p M ns/\M.length=ns.length/\H a=some (.lst (ws.map nV))/\H b=some (.lst (us.map nV))/\ws.length<=10000/\us.length<=10000/\Pl M ws/\Pl M us /\
 ∀ (L1 L2:List Int) (H':Hp),Same H H'->HT.IsLeast (Ge M ws) L1->HT.IsLeast (Ge M us) L2->Q (.bl (decide (L1=L2))) H'
def Gn (CT CS CH:Addr):Sp:=λvs H Q _=>∃ (p:Addr) (x:Str) (H0:Hp) (d:Sd) (S U:List Sd) (ws:List Nat),vs=[.ref p,.str x]/\Z7 CT CS CH H H0 p d S U/\Gd5 d/\(x,ws)∈d.L/\∀ (r:Addr) (H':Hp),Same H H'->Q (.ref r) H'
def Zd1 (CT CS CH:Addr):Sp:=λvs H Q _=>∃ (p:Addr) (x y:Str) (H0:Hp) (d:Sd) (S U:List Sd) (ws us:List Nat),vs=[.ref p,.str x,.str y]/\Z7 CT CS CH H H0 p d S U/\Gd5 d/\(x,ws)∈d.L/\(y,us)∈d.L/\∀ (b:Bool) (H':Hp),Same H H'->Q (.bl b) H'
def Zd0 (CT CS CH EU:Addr):Sp:=λvs H Q E=>∃ (p:Addr) (x y:Str) (H0:Hp) (d:Sd) (S U:List Sd),vs=[.ref p,.str x,.str y]/\Z7 CT CS CH H H0 p d S U/\(x ∉ nmL d.L\/∃ ws,(x,ws)∈d.L/\y ∉ nmL d.L)/\∀ H',Same H H'->E (.ref EU) none H'
def Zmi:FnScope ["tent","one","other"] ["tent","one","other"] (Zh Zhh):=Am
def Zfh (T:Txt w K mg t):FnOk P w K mg base (CXr P w) 9 t.ii t.iq ["tent","one","other"] (Zmf t.aa):=by
 refine T.dH.F.aR Zmi (a:)
 ·obtain ⟨p,a,b,M,ns,ws,us,rfl,ta,kg,ha,hb,la,lb,pa,pb,k⟩:=h
  refine ⟨_,(Zg (Zm (Wg (Zrl hr.units) (pcT (Fh T) hr T.eY (Za (pv 0) (s:))) (pcT (Fh T) hr T.eY (Za (pv 0) (B:))) (Zs _)))),?_⟩;refine ⟨_,Y,_,Y,p,a,M,ns,ws,Y,ta,kg,ha,la,pa,λl1 L1 H1 s1 km h1 m1=>?_⟩;refine ⟨_,Y,_,Y,p,b,M,ns,us,Y,ta.same s1,kg,s1 _ _ hb,lb,pb,λl2 L2 H2 s2 kf h2 m2=>?_⟩;exact ⟨l1,l2,L1,L2,Y,Y,SqL.of (s2 _ _ h1),SqL.of h2,k L1 L2 H2 (s1.trans s2) m1 m2⟩
def Vh:FnScope ["self","name"] ["self","name"] (Zh V1):=Am
def Gj (T:Txt w K mg t):FnOk P w K mg base (CXr P w) 9 t.aK t.aL ["self","name"] (Gn t.aa t.ac t.ae):=by
 refine T.aM.F.aR Vh (a:)
 ·obtain ⟨p,x,H0,d,S,U,ws,rfl,ha,gd,hx,k⟩:=h
  obtain ⟨dx,be,sc,st,un,qs,us,B⟩:=id ha;obtain ⟨jt,te,th,po,wo,ad,ap,C⟩:=B.cur;have C:=C.same B.low;refine ⟨_,(Zg (Zm (pcT (Zff T) hr T.dL (Za (Zq (Zq (pv 0) Y) Y) (Za (Zq (Zq (pv 0) Y) Y) (Za (Yk (pv 0) T.af T.ai.m (Wh T) (hr.mono (d:)) T.ai.b .nil Yf (s:)) Zb)))))),?_⟩;obtain ⟨hP,hl⟩:=gd.pl _ hx;refine ⟨_,Y,p,_,dx,_,.ref sc,Y,B.ins,T.af,T.ah,Y,sc,_,jt,_,.ref te,Y,C.ins,T.ag,T.ao,Y,_,Y,p,_,dx,_,.ref sc,Y,B.ins,T.af,T.ah,Y,sc,_,jt,_,.ref wo,Y,C.ins,T.ag,T.aD,Y,_,Y,p,dx,_,Y,B.ins,Y,_,Y,p,x,H0,d,S,U,ws,Y,ha,hx,λl km=>?_⟩;have s1:Same H (upd H l (.lst (ws.map nV))):=Same.new km;exact ⟨te,wo,l,d.M,d.ns,d.ks,d.g,ws,Y,C.ten.same s1,gd.td,gd.h64,C.wor.same s1,gd.sw,gd.bd,Zc,hl,hP,λr H' s'=>k r H' (s1.trans s')⟩
def Gi (T:Txt w K mg t):FnOk P w K mg base (CXr P w) 9 t.aK t.aL ["self","name"] (Xs t.aa t.ac t.ae t.ak):=by
 refine T.aM.F.aX Vh (a:)
 ·obtain ⟨p,x,H0,d,S,U,rfl,ha,hx,k⟩:=h
  obtain ⟨dx,be,sc,st,un,qs,us,B⟩:=id ha;obtain ⟨jt,te,th,po,wo,ad,ap,C⟩:=B.cur;have C:=C.same B.low;refine ⟨_,(Zw (Zbl (Kq (Zff T) (hr.mono (d:)) Y T.dL.g T.dL.F.kp T.dL.b .nil (Wn (Zah (Zq (Zq (pv 0) Y) Y)) (Wn (Zah (Zq (Zq (pv 0) Y) Y)) (Wn (Yx (pv 0) T.af T.ai.m (V6 T) (hr.mono (d:)) T.ai.b .nil (s:)) (Zfa Zb))))))),?_⟩;exact ⟨_,Y,p,_,dx,_,.ref sc,Y,B.ins,T.af,T.ah,Y,sc,_,jt,_,.ref te,Y,C.ins,T.ag,T.ao,Y,_,Y,p,_,dx,_,.ref sc,Y,B.ins,T.af,T.ah,Y,sc,_,jt,_,.ref wo,Y,C.ins,T.ag,T.aD,Y,_,Y,p,dx,_,Y,B.ins,Y,_,Y,p,x,H0,d,S,U,Y,ha,hx,k⟩
def Vv (CT CS CH:Addr):Sp:=λvs H Q _=>∃ (p:Addr) (x:Str) (H0:Hp) (d:Sd) (S U:List Sd) (f:Nat->Int) (g:Int->Int),vs=[.ref p,.str x]/\Z7 CT CS CH H H0 p d S U/\TD d.M d.ns/\d.ns.length < 64/\(x,g)∈d.Q/\Nm d.ns f g/\PC d.M f/\sF f d.ns.length<=60/\(∀ p,p < d.M.length->f p<=900)/\∀ (r:Addr) (H':Hp),Same H H'->Q (.ref r) H'
def Kb:FnScope ["self","one","other"] ["self","one","other"] (Zh Gx):=Am
def Zdn (T:Txt w K mg t):FnOk P w K mg base (CXr P w) 10 t.br t.bz ["self","one","other"] (Zd1 t.aa t.ac t.ae):=by
 refine T.aQ.F.aR Kb (a:)
 ·obtain ⟨p,x,y,H0,d,S,U,ws,ua,rfl,ha,gd,hx,hy,k⟩:=h
  obtain ⟨dx,be,sc,st,un,qs,us,B⟩:=id ha;obtain ⟨jt,te,th,po,wo,ad,ap,C⟩:=B.cur;have C:=C.same B.low;refine ⟨_,(Zg (Zm (pcT (Zfh T) hr T.dH (Za (Zq (Zq (pv 0) Y) Y) (Za (Yk (pv 0) T.af T.ai.m (Wh T) (hr.mono (d:)) T.ai.b .nil Yf (s:)) (Za (Yk (pv 0) T.af T.ai.m (Wh T) (hr.mono (d:)) T.ai.b .nil Yf (B:)) Zb)))))),?_⟩;obtain ⟨hP,hl⟩:=gd.pl _ hx;obtain ⟨hU,hv⟩:=gd.pl _ hy;refine ⟨_,Y,p,_,dx,_,.ref sc,Y,B.ins,T.af,T.ah,Y,sc,_,jt,_,.ref te,Y,C.ins,T.ag,T.ao,Y,_,Y,p,dx,_,Y,B.ins,Y,_,Y,p,x,H0,d,S,U,ws,Y,ha,hx,λl km=>?_⟩;have s1:Same H (upd H l (.lst (ws.map nV))):=Same.new km;have e1:(upd H l (.lst (ws.map nV))) l=some (.lst (ws.map nV)):=Zc;generalize upd H l (.lst (ws.map nV))=H1 at s1 e1 ⊢;refine ⟨_,Y,p,dx,_,Y,s1 _ _ B.ins,Y,_,Y,p,y,H0,d,S,U,ua,Y,ha.same s1,hy,λl' kf=>?_⟩;have s2:Same H1 (upd H1 l' (.lst (ua.map nV))):=Same.new kf;exact ⟨te,l,l',d.M,d.ns,ws,ua,Y,C.ten.same (s1.trans s2),gd.td.len.symm,s2 _ _ e1,Zc,Nat.le_trans hl (d:),Nat.le_trans hv (d:),hP,hU,λL1 L2 H' s' _ _=>k _ H' ((s1.trans s2).trans s')⟩
def Zdm (T:Txt w K mg t):FnOk P w K mg base (CXr P w) 10 t.br t.bz ["self","one","other"] (Zd0 t.aa t.ac t.ae t.ak):=by
 refine T.aQ.F.aX Kb (a:)
 ·obtain ⟨p,x,y,H0,d,S,U,rfl,ha,hx,k⟩:=h
  obtain ⟨dx,be,sc,st,un,qs,us,B⟩:=id ha;obtain ⟨jt,te,th,po,wo,ad,ap,C⟩:=B.cur;have C:=C.same B.low;refine ⟨_,(Zw (Zbl (Kq (Zfh T) (hr.mono (d:)) Y T.dH.g T.dH.F.kp T.dH.b .nil (Wn (Zah (Zq (Zq (pv 0) Y) Y)) (Wn (Yx (pv 0) T.af T.ai.m (Wr T) (hr.mono (d:)) T.ai.b .nil (s:)) (Wn (Yx (pv 0) T.af T.ai.m (Wr T) (hr.mono (d:)) T.ai.b .nil (B:)) (Zfa Zb))))))),?_⟩;refine ⟨_,Y,p,_,dx,_,.ref sc,Y,B.ins,T.af,T.ah,Y,sc,_,jt,_,.ref te,Y,C.ins,T.ag,T.ao,Y,_,Y,p,dx,_,Y,B.ins,Y,_,Y,?_⟩
  rcases hx with hx | ⟨ws,hx,hy⟩
  ·exact .inr ⟨p,x,H0,d,S,U,Y,ha,hx,k H (Same.refl _)⟩
  ·refine .inl ⟨p,x,H0,d,S,U,ws,Y,ha,hx,λl km=>?_⟩
   have s1:Same H (upd H l (.lst (ws.map nV))):=Same.new km;exact ⟨_,Y,p,dx,_,Y,s1 _ _ B.ins,Y,_,Y,.inr ⟨p,y,H0,d,S,U,Y,ha.same s1,hy,k _ s1⟩⟩
def Jg:FnScope ["self","name"] ["self","name"] (Zh Jm):=Am
def Uv (T:Txt w K mg t):FnOk P w K mg base (CXr P w) 10 t.aA t.aB ["self","name"] (Vv t.aa t.ac t.ae):=by
 refine T.aC.F.aR Jg (a:)
 ·obtain ⟨p,x,H0,d,S,U,f,g,rfl,ha,td,h64,hx,nm,pc,hs,le,k⟩:=h
  obtain ⟨dx,be,sc,st,un,qs,us,B⟩:=id ha;obtain ⟨jt,te,th,po,wo,ad,ap,C⟩:=B.cur;have C:=C.same B.low;refine ⟨_,(Zg (Zm (pcT (Zcp T) hr T.cD (Za (Zq (Zq (pv 0) Y) Y) (Za (Yk (pv 0) T.af T.aG.m (O0 T) (hr.mono (d:)) T.aG.b .nil Yf (s:)) Zb))))),?_⟩;refine ⟨_,Y,p,_,dx,_,.ref sc,Y,B.ins,T.af,T.ah,Y,sc,_,jt,_,.ref te,Y,C.ins,T.ag,T.ao,Y,_,Y,p,dx,_,Y,B.ins,Y,_,Y,p,x,H0,d,S,U,g,Y,ha,hx,λl ks km pm=>?_⟩;have s1:Same H (upd H l (.dK (dI ks g))):=Same.new km;exact ⟨te,l,d.M,d.ns,f,g,Y,C.ten.same s1,td,h64,⟨ks,Zc,pm⟩,nm,pc,hs,le,λr H' s'=>k r H' (s1.trans s')⟩
def Uu (T:Txt w K mg t):FnOk P w K mg base (CXr P w) 10 t.aA t.aB ["self","name"] (Wc t.aa t.ac t.ae t.ak):=by
 refine T.aC.F.aX Jg (a:)
 ·obtain ⟨p,x,H0,d,S,U,rfl,ha,hx,k⟩:=h
  obtain ⟨dx,be,sc,st,un,qs,us,B⟩:=id ha;obtain ⟨jt,te,th,po,wo,ad,ap,C⟩:=B.cur;have C:=C.same B.low;refine ⟨_,(Zw (Zbl (Kq (Zcp T) (hr.mono (d:)) Y T.cD.g T.cD.F.kp T.cD.b .nil (Wn (Zah (Zq (Zq (pv 0) Y) Y)) (Wn (Yx (pv 0) T.af T.aG.m (Oz T) (hr.mono (d:)) T.aG.b .nil (s:)) (Zfa Zb)))))),?_⟩;exact ⟨_,Y,p,_,dx,_,.ref sc,Y,B.ins,T.af,T.ah,Y,sc,_,jt,_,.ref te,Y,C.ins,T.ag,T.ao,Y,_,Y,p,dx,_,Y,B.ins,Y,_,Y,p,x,H0,d,S,U,Y,ha,hx,k⟩
def Zom {L:List (Str × List Nat)} {ad:Str->Addr} {x:Str} {ws:List Nat} {w':Addr} (h:x ∉ nmL L):thV (L ++ [(x,ws)]) (λz=>if z=x then w' else ad z)=thV L ad ++ [(x,V.ref w')]:=by
 unfold thV;rw [Aj];congr 1
 ·refine map_congr_left λy hy=>?_
  show (y.1,V.ref (if y.1=x then w' else ad y.1))=_;rw [if_neg (λz=>h (mem_map.mpr ⟨y,hy,z⟩))]
 ·show [(x,V.ref (if x=x then w' else ad x))]=_
  rw [if_pos rfl]
def Zig {L:List (Str × List Nat)} {ad:Str->Addr} {x:Str}:(thV L ad).filter (λkv=>decide (kv.1≠x))=thV (L.filter λy=>decide (y.1≠x)) ad:=by
 unfold thV;rw [filter_map];rfl
def Zpf {L:List (Str × (Int->Int))} {ad:Str->Addr} {x:Str} {ws:Int->Int} {w':Addr} (h:x ∉ nmQ L):poV (L ++ [(x,ws)]) (λz=>if z=x then w' else ad z)=poV L ad ++ [(x,V.ref w')]:=by
 unfold poV;rw [Aj];congr 1
 ·refine map_congr_left λy hy=>?_
  show (y.1,V.ref (if y.1=x then w' else ad y.1))=_;rw [if_neg (λz=>h (mem_map.mpr ⟨y,hy,z⟩))]
 ·show [(x,V.ref (if x=x then w' else ad x))]=_
  rw [if_pos rfl]
def Ziy {L:List (Str × (Int->Int))} {ad:Str->Addr} {x:Str}:(poV L ad).filter (λkv=>decide (kv.1≠x))=poV (L.filter λy=>decide (y.1≠x)) ad:=by
 unfold poV;rw [filter_map];rfl
def Gf (CS:Addr):Sp:=λvs H Q _=>∃ (sc jt th po:Addr) (te wo:V) (x:Str) (L:List (Str × List Nat)) (Lq:List (Str × (Int->Int))) (ad ap:Str->Addr),vs=[.ref sc,.str x]/\H sc=some (.ins CS jt (Xb te (.ref th) (.ref po) wo))/\H th=some (.dK (dS (thV L ad)))/\H po=some (.dK (dS (poV Lq ap)))/\x.cps.all (· < 128)=true/\x.cps.size<=900/\isN x=true/\x ∉ nmL L/\x ∉ nmQ Lq/\∀ H',Same H H'->Q .non H'
def Zgt (CT CS CH:Addr):Sp:=λvs H Q _=>∃ (p a:Addr) (x:Str) (H0:Hp) (d:Sd) (S U:List Sd) (ws:List Nat),vs=[.ref p,.str x,.ref a]/\Z7 CT CS CH H H0 p d S U/\TD d.M d.ns/\d.ns.length<=1000/\S.length<=800/\d.L.length<=800/\Asc x/\x.length<=900/\isN x=true/\x ∉ nmL d.L/\x ∉ nmQ d.Q/\H a=some (.lst (ws.map nV))/\ws.length<=400/\Pl d.M ws /\
 ∀ H' kl,Same H0 kl->Z7 CT CS CH H' kl p ⟨d.M,d.ns,d.L ++ [(x,ws)],d.Q,d.ks,d.g⟩ (d :: S) []->Q .non H'
def Qu (T:Txt w K mg t):FnOk P w K mg base (CXr P w) 3 t.bW t.b6 ["scene","name"] (Gf t.ac):=by
 refine T.ba.F.aR G8 (a:)
 ·obtain ⟨sc,jt,th,po,te,wo,x,L,Lq,ad,ap,rfl,wq,hth,hpo,hx,hz,e,hn,vn,k⟩:=h
  have hu:=Y4 hr;refine ⟨_,(Zd (Z2 (Wx (Qd (pcT (Zi8 T) hr T.gl (s:)))) Yg Zx)
   (Zg (Z2 (PW.pt (Q0 (Wl (Zkq hu (pv 1) (Zq (pv 0) rfl)) (D:)) (Jh (Wl (Zkq hu (pv 1) (Zq (pv 0) rfl)) (D:))))) Yg Zx))),?_⟩
  refine ⟨_,Y,x,Y,hx,hz,λH1 s1=>⟨_,Y,?_⟩⟩;rw [e];refine iteF ?_;have hsc1:=s1 _ _ wq;have g:=Ud (x:=x) (s1 _ _ hth);rw [if_neg hn] at g;have gq:=Ur (x:=x) (s1 _ _ hpo);rw [if_neg vn] at gq;refine ⟨_,Y,_,Y,sc,_,jt,_,.ref th,Y,hsc1,T.ag,T.am,Y,th,_,Y,g,_,Y,iteF ?_⟩;exact ⟨_,Y,_,Y,sc,_,jt,_,.ref po,Y,hsc1,T.ag,T.aq,Y,po,_,Y,gq,_,Y,iteF (k H1 s1)⟩
def V9:FnScope ["self","name","word","now","threads"] ["self","name","word"] (Zh Zad):=Am
def Ub (T:Txt w K mg t):FnOk P w K mg base (CXr P w) 7 t.fh t.fA ["self","name","word"] (Zgt t.aa t.ac t.ae):=by
 refine T.aP.F.aR V9 (a:)
 ·obtain ⟨p,a,x,H0,d,S,U,ws,rfl,⟨dx,be,sc,st,un,qs,us,B⟩,td,tq,hS,hL,hx,hxz,e1,hn,vn,ha,tf,hP,k⟩:=h
  obtain ⟨jt,te,th,po,wo,ad,ap,C0⟩:=B.cur;have C:=C0.same B.low;have hu:=Y4 hr;refine ⟨_,(Zd (Zp (i:=3) V9.nd Y (Or.inl Y) (Zq (pv 0) Y))
   (Zd (Z3 (pcT (Qu T) hr T.ba (Za (pv 3) (s:))))
   (Zd (Z3 (pcT (Jy T) hr T.aZ (Za (Zq (pv 3) rfl) (B:))))
   (Zd (Z3 (pcT (Zbr T) hr T.df (B:)))
   (Zd (Zp (i:=4) V9.nd rfl (f:) (pcT (Kt T) hr T.cF (Za (Zq (pv 3) rfl) (Za (pv 1) (Za (Yz Xf (by rfl) T.bF PySem.Pv.boot_list (B:)) Zb)))))
   (Zg (Z3 (Yk (pv 0) T.af T.aH.m (Qq T) (hr.mono (d:)) T.aH.b .nil Yf (Za (pcT (Ua T) hr T.bS (Za (Zi Zfe (Yn (Za Zr (s:))) (pv 2)) Zb)) (Za (Vb T.dM (W4 T) (hr.mono (d:)) rfl T.dF T.aU.b .nil Yf (Za (Zq (pv 3) rfl) (Za (pv 4) (Za (Zq (pv 3) rfl) (Za (Zq (pv 3) rfl) Zb))))) Zb)))))))))),?_⟩
  refine ⟨_,Y,p,_,dx,_,.ref sc,Y,B.ins,T.af,T.ah,Y,?_⟩;refine ⟨_,Y,_,Y,sc,jt,th,po,_,_,x,d.L,d.Q,ad,ap,Y,C.ins,C.thr,C.poo,hx.all,hxz,e1,hn,vn,λH1 s1=>?_⟩;refine ⟨_,Y,sc,_,jt,_,.ref te,Y,s1 _ _ C.ins,T.ag,T.ao,Y,_,Y,te,a,d.M,d.ns,wI ws,Y,C.ten.same s1,td.len.symm,(by rw [<- K6]; exact s1 _ _ ha),by rw [Vd]; lia,λH2 s2=>⟨λ_=>?_,λe=>absurd (Kn.mpr hP) (by rw [e]; decide)⟩⟩;have lg:=s1.trans s2;refine ⟨_,Y,a,_,Y,lg _ _ ha,by rw [Ab]; exact tf,?_⟩;have hx8:x.length<=16:=by
   unfold isN at e1
   rw [Bool.and_eq_true,Bool.and_eq_true,decide_eq_true_eq,decide_eq_true_eq] at e1
   lia
  have r9:∀ i∈ws,i < 1000:=λi hi=>by
   obtain ⟨m,hm⟩:=hP.has i hi;have:=(Aa hm).1;have:=td.len;lia
  refine ⟨_,Y,sc,_,jt,_,.ref th,Y,lg _ _ C.ins,T.ag,T.am,Y,_,Y,_,Y,a,_,Y,.inl (SqL.of (lg _ _ ha)),λw' zk=>?_⟩;have s3:Same H2 (upd H2 w' (.lst (ws.map nV))):=Same.new zk;have w3:(upd H2 w' (.lst (ws.map nV))) w'=some (.lst (ws.map nV)):=Zc;generalize upd H2 w' (.lst (ws.map nV))=H3 at s3 w3 ⊢;refine ⟨th,Sum.inr x,.ref w',dS (thV d.L ad),Y,s3 _ _ (lg _ _ C.thr),by rw [Zax]; unfold thV; rw [Ab]; lia,λpi uz=>?_⟩;rw [Zf7 (by rw [Zb8]; exact hn),<- Zom (ws:=ws) hn];have s4:=Same.new (o:=.dK (dS (thV (d.L ++ [(x,ws)]) λz=>if z=x then w' else ad z))) uz;have h4:(upd H3 pi (.dK (dS (thV (d.L ++ [(x,ws)]) λz=>if z=x then w' else ad z)))) pi=some (.dK (dS (thV (d.L ++ [(x,ws)]) λz=>if z=x then w' else ad z))):=Zc;generalize upd H3 pi (.dK (dS (thV (d.L ++ [(x,ws)]) λz=>if z=x then w' else ad z)))=H4 at s4 h4 ⊢;have wm:=lg.trans s3;have sk:=wm.trans s4;have w4:=s4 _ _ w3;have qv:=sk _ _ B.ins;refine ⟨_,Y,p,dx,_,Y,qv,Y,?_⟩;refine ⟨_,Y,(by show 2<=sizeLine; decide),λqr kf=>?_⟩;have s5:Same H4 (upd H4 qr (.lst [V.str (Str.ofString "lay"),V.str x])):=Same.new kf;have c5:(upd H4 qr (.lst [V.str (Str.ofString "lay"),V.str x])) qr=some (.lst [V.str (Str.ofString "lay"),V.str x]):=Zc;generalize upd H4 qr (.lst [V.str (Str.ofString "lay"),V.str x])=H5 at s5 c5 ⊢;refine ⟨_,Y,qr,a,_,_,Y,Y,c5,s5 _ _ (sk _ _ ha),by rw [Ab,sizeLine_eq]; show 2 + ws.length<=_; lia,λc hc=>?_⟩;have s6:=Same.new (o:=.lst ([V.str (Str.ofString "lay"),V.str x] ++ ws.map nV)) hc;refine ⟨c,[.inl (Str.ofString "lay"),.inl x] ++ ws.map (λi=>.inr (i:Int)),rfl,by rw [Zc,Aj,map_map]; rfl,by rw [Ae,Ab]; show 2 + ws.length<=900; lia,λy hy=>?_,?_,λH7 s7=>?_⟩
  ·rcases mem_append.mp hy with z | z
   ·rcases Ar z with rfl | z
    ·exact True.intro
    ·rw [Af z]; exact True.intro
   ·obtain ⟨i,hi,rfl⟩:=mem_map.mp z
    exact ⟨Int.natCast_nonneg _,Int.lt_trans (Int.ofNat_lt.mpr (r9 i hi)) (d:)⟩
  ·have:=Zj1 (B:=60) (l:=[.inl (Str.ofString "lay"),.inl x] ++ ws.map (λi=>.inr (i:Int))) λy hy=>by
    rcases mem_append.mp hy with z | z
    ·rcases Ar z with rfl | z
     ·show (Str.ofString "lay").length<=60
      decide
     ·rw [Af z]; exact Nat.le_trans hx8 (d:)
    ·obtain ⟨i,hi,rfl⟩:=mem_map.mp z
     exact Zf4 (Int.natCast_nonneg _) (Int.lt_trans (Int.ofNat_lt.mpr (r9 i hi)) (d:))
   have hl:([.inl (Str.ofString "lay"),.inl x] ++ ws.map (λi=>.inr (i:Int)):List (Str ⊕ Int)).length=2 + ws.length:=by rw [Ae,Ab]; rfl
   rw [hl] at this ⊢;lia
  have vg:=s5.trans (s6.trans s7);have qq:=sk.trans vg;have mm:=qq _ _ C.ins;generalize Txt.join (Str.ofString " ") _=rr;refine ⟨_,Y,sc,_,jt,_,.ref te,Y,mm,T.ag,T.ao,Y,_,Y,_,Y,sc,_,jt,_,.ref po,Y,mm,T.ag,T.aq,Y,_,Y,sc,_,jt,_,.ref wo,Y,mm,T.ag,T.aD,Y,?_⟩;intro kd jz n6 om hne';refine ⟨kd,jz,_,_,_,_,Y,Zc,Y,?_⟩;rw [Xq];have s8:Same H7 (upd (upd H7 jz (.own kd)) kd (.ins t.ac jz (Xb (.ref te) (.ref pi) (.ref po) (.ref wo)))):=Same.add (Same.new om) n6;have c8:(upd (upd H7 jz (.own kd)) kd (.ins t.ac jz (Xb (.ref te) (.ref pi) (.ref po) (.ref wo)))) kd=some (.ins t.ac jz (Xb (.ref te) (.ref pi) (.ref po) (.ref wo))):=Zc;generalize upd (upd H7 jz (.own kd)) kd (.ins t.ac jz (Xb (.ref te) (.ref pi) (.ref po) (.ref wo)))=H8 at s8 c8 ⊢;have pj:=qq.trans s8;have vf:=vg.trans s8;have hql:=B.stk.len;have C8:=C0.same (Uh (B.low.trans pj) B.np B.nst B.nun);have nw:∀ {HX:Hp} {b:Addr} {u:HO},Same H HX->HX b=none->H8 b=some u->Rs H8 p st un b=some u:=λ{HX b u} sx hb e=>Rs.at e (Yy sx B.ins hb) (Yy sx B.sta hb) (Yy sx B.und hb);have S8:Sc t.aa t.ac (Rs H8 p st un) kd ⟨d.M,d.ns,d.L ++ [(x,ws)],d.Q,d.ks,d.g⟩:=⟨jz,te,pi,po,wo,_,ap,nw qq n6 c8,nw wm uz (vf _ _ h4),λy hy=>(by
   rcases mem_append.mp hy with z | z
   ·try dsimp only
    rw [if_neg (λe=>hn (mem_map.mpr ⟨y,z,e⟩))]
    exact C8.wrd y z
   ·rw [Af z]
    try dsimp only
    rw [if_pos rfl]
    exact nw lg zk (vf _ _ w4)),C8.poo,C8.cnt,C8.ten,C8.wor⟩
  refine ⟨p,dx,be,sc,st,un,kd,rr,qs.reverse.map V.ref,Y,pj _ _ B.ins,pj _ _ B.sta,by rw [Ab,length_reverse]; lia,λq lu H9 hq l7 o9 p9 wf q9 u9=>?_⟩;obtain ⟨kl,z1,z2⟩:=B.entered pj S8 hq l7 o9 p9 wf q9 u9;exact k H9 kl z1 z2
noncomputable def cntS (g:Int->Int) (x:Int):Str:=(Str.empty ++ (toString x:Str)) ++ (Str.ofString ":") ++ figS (g x)
def Za8:Sp:=λvs H Q _=>∃ (c:Addr) (ks:List Int) (g:Int->Int),vs=[.ref c]/\H c=some (.dK (dI ks g))/\ks.length < 64/\(∀ x∈ks,0<=x/\x<=9999/\0<=g x/\g x < 1000000000000000000000000000000000000000000000000000000000000)/\∀ (H':Hp) (r:Str),Same H H'->Asc r->r.length<=5000->Q (.str r) H'
def Zh9 {g:Int->Int} {x:Int} (h:0<=x/\x<=9999/\0<=g x/\g x < 1000000000000000000000000000000000000000000000000000000000000):(cntS g x).length<=71:=by
 unfold cntS;rw [U0,U0,U0];have h1:=Zf4 h.2.2.1 h.2.2.2;have h2:(toString x:Str).length<=10:=PySem.W.KT.len_num h.1 (by lia);have h3:Str.empty.length=0:=rfl;have h4:(Str.ofString ":").length=1:=by decide
 lia
def Zqh (g:Int->Int) (x:Int):Asc (cntS g x):=by
 unfold cntS;refine (Asc.app (Asc.app (λc hc=>?_) (Asc.num x)) (λc hc=>?_)).app (Zqg _)
 ·have hc:c∈([]:List Nat):=hc; cases hc
 ·revert c hc; show ∀ c∈[58],c < 128; decide
def Zbf:FnScope ["counts"] ["counts"] (Zh Os):=Am
def Zbu (T:Txt w K mg t):FnOk P w K mg base (CXr P w) 2 t.cQ t.cZ ["counts"] Za8:=by
 refine T.de.F.aR Zbf (a:)
 ·obtain ⟨c,ks,g,rfl,hc,hl,hk,k⟩:=h
  have hu:=Y4 hr;refine ⟨_,(Zg (Zm (Xw PySem.F.plainAttrs_str PySem.F.slot_str_join PySem.F.type_str_join K7 Zr (Za (Yp (ts:=["seam"]) (fv:=[("counts",0)]) (b:) rfl (Yj (Zt (Jl rfl) (by rfl) T.cH PyProof.Rows.boot_sorted (Za (pv 0) Zb))) (λ_ _ _ _=>(Zk (i:=0) (show List.Nodup (["seam","counts"]:List Str) from by decide +kernel) rfl (f:) (Or.inr rfl))) (λ_ _ _ _=>Yd) (λ_ _ _=>rfl) (λ_ _ _ _ _ _=>Yo (Zpj (Zrd (pv 0) (Zra (Zrb (pcT (Zak T) hr T.dQ (Za (Jc hu (pv 1) (pv 0) (A:)) Zb)) Zrc)))))) Zb)))),?_⟩;refine ⟨Y,_,Y,c,_,ks,Y,.inl hc,(by unfold dI; rw [map_map]; rfl),hl,λl1 ka km ud ub=>?_⟩;have s1:Same H (upd H l1 (.lst (ka.map V.int))):=Same.new km;have h1:(upd H l1 (.lst (ka.map V.int))) l1=some (.lst (ka.map V.int)):=Zc;generalize upd H l1 (.lst (ka.map V.int))=H1 at s1 h1 ⊢;have z0:ka.length < 64:=by rw [ud.length_eq]; exact hl
  refine ⟨l1,Y,⟨_,SqL.of h1⟩,λD hD=>?_⟩;refine Yl (xs:=ka.map V.int) (λi σ H6=>∃ v,σ=[v,some (.ref c)]/\Same H1 H6/\H6 D=some (.lst (((ka.take i).map (cntS g)).map V.str))) ⟨none,Y,Same.new hD,Zc⟩ ?_ ?_ ?_
  ·rintro i σ H6 _ ⟨v,rfl,s6,_⟩
   exact SqL.of (s6 _ _ h1)
  ·rintro i y σ H6 hy ⟨v,rfl,s6,h6⟩
   rw [Ah] at hy;obtain ⟨x,hx,rfl⟩:=Option.map_eq_some_iff.mp hy;have hxk:x∈ks:=ud.mem_iff.mp (Au hx);have ok:=hk x hxk;have hx10:(toString x:Str).length<=10:=PySem.W.KT.len_num ok.1 (by lia);dsimp only [Zj,tYes];rw [if_pos rfl];have xu:x.natAbs.log2 < 1920:=by
    rcases eq_zero_or_pos x.natAbs with z | z
    ·rw [z]; decide
    ·exact (Nat.log2_lt (by lia)).mpr (Ag (by lia:x.natAbs < 2 ^ 20) (Nat.pow_le_pow_right (d:) (d:)))
   have cl:=Zh9 ok;have e58:(Str.ofString ":").length=1:=by decide
   have l1':(Str.empty ++ (toString x:Str)).length<=10:=by rw [U0]; have e:Str.empty.length=0:=rfl; lia
   have qr:((Str.empty ++ (toString x:Str)) ++ (Str.ofString ":")).length<=11:=by rw [U0]; lia
   refine ⟨_,Y,x,Y,xu,by rw [sizeLine_eq]; lia,by rw [sizeLine_eq]; exact Nat.le_trans qr (d:),?_⟩;refine ⟨_,Y,_,Y,c,_,Y,Zb0 (s6 _ _ (s1 _ _ hc)) hxk,g x,Y,ok.2.2.1,ok.2.2.2,λH7 s7=>?_⟩;have fl:=Zf4 ok.2.2.1 ok.2.2.2;refine ⟨_,Y,by rw [sizeLine_eq]; lia,(show (cntS g x).length<=sizeLine by rw [sizeLine_eq]; lia),(show (cntS g x).length<=sizeLine by rw [sizeLine_eq]; lia),?_⟩;refine ⟨_,s7 _ _ h6,by rw [Ab,Ab,Ai]; exact Zv (by lia),_,Y,Same.add (s6.trans s7) hD,?_⟩;rw [Zc,Aw,hx,Aj,Aj];rfl
  ·rintro σ H6 ⟨v,rfl,s6,h6⟩
   rw [Ab,take_length] at h6;have sm:=Za3 (B:=71) (l:=ka.map (cntS g)) λy hy=>by
    obtain ⟨x,hx,rfl⟩:=mem_map.mp hy
    exact Zh9 (hk x (ud.mem_iff.mp hx))
   have jl:=Zne (Str.ofString " ") (ka.map (cntS g));have e1:(Str.ofString " ").length=1:=by decide
   rw [Ab] at sm jl;rw [e1] at jl;refine ⟨_,D,ka.map (cntS g),Y,Y,SqL.of h6,by decide,by rw [Ab]; lia,k _ _ (s1.trans s6) (Asc.joinS (λc hc=>by have hc:c∈[32]:=hc; rw [Af hc]; decide) λy hy=>?_) (by lia)⟩;obtain ⟨x,hx,rfl⟩:=mem_map.mp hy;exact Zqh g x
def Zd6 (CT CS CH:Addr):Sp:=λvs H Q _=>∃ (p c:Addr) (x:Str) (H0:Hp) (d:Sd) (S U:List Sd) (g:Int->Int),vs=[.ref p,.str x,.ref c]/\Z7 CT CS CH H H0 p d S U/\TD d.M d.ns/\d.ns.length < 64/\S.length<=800/\d.Q.length<=800/\Asc x/\x.length<=900/\isN x=true/\x ∉ nmL d.L/\x ∉ nmQ d.Q/\Q8 H c d.ns g/\OkC d.M d.ns g/\(∀ y∈keys d.ns d.ns.length,g y < 1000000000000000000000000000000000000000000000000000000000000) /\
 ∀ H' kl,Same H0 kl->Z7 CT CS CH H' kl p ⟨d.M,d.ns,d.L,d.Q ++ [(x,g)],d.ks,d.g⟩ (d :: S) []->Q .non H'
def Zd7 (CT CS CH:Addr):Sp:=λvs H Q _=>∃ (p:Addr) (x:Str) (H0:Hp) (d:Sd) (S U:List Sd),vs=[.ref p,.str x]/\Z7 CT CS CH H H0 p d S U/\S.length<=800/\d.L.length<=800/\d.Q.length<=800/\(nmL d.L).Nodup/\(nmQ d.Q).Nodup/\Asc x/\x.length<=900/\(x∈nmL d.L\/x∈nmQ d.Q) /\
 ∀ H' kl,Same H0 kl->Z7 CT CS CH H' kl p ⟨d.M,d.ns,d.L.filter λy=>decide (y.1≠x),d.Q.filter λy=>decide (y.1≠x),d.ks,d.g⟩ (d :: S) []->Q .non H'
def Oj (CT CS CH EU:Addr):Sp:=λvs H Q E=>∃ (p:Addr) (x:Str) (H0:Hp) (d:Sd) (S U:List Sd),vs=[.ref p,.str x]/\Z7 CT CS CH H H0 p d S U/\x ∉ nmL d.L/\x ∉ nmQ d.Q/\E (.ref EU) none H
def Vi:FnScope ["self","name","counts","now","pools"] ["self","name","counts"] (Zh Gy):=Am
def Zfk (T:Txt w K mg t):FnOk P w K mg base (CXr P w) 5 t.d0 t.eJ ["self","name","counts"] (Zd6 t.aa t.ac t.ae):=by
 refine T.cG.F.aR Vi (a:)
 ·obtain ⟨p,c,x,H0,d,S,U,g,rfl,⟨dx,be,sc,st,un,qs,us,B⟩,td,h64,hS,hL,hx,hxz,e1,hn,vn,⟨ks,hc,j4⟩,okc,gb,k⟩:=h
  obtain ⟨jt,te,th,po,wo,ad,ap,C0⟩:=B.cur;have C:=C0.same B.low;have hu:=Y4 hr;refine ⟨_,(Zd (Zp (i:=3) Vi.nd Y (Or.inl Y) (Zq (pv 0) Y))
   (Zd (Z3 (pcT (Qu T) hr T.ba (Za (pv 3) (s:))))
   (Zd (Z3 (pcT (Ut T) hr T.bE (Za (Zq (pv 3) rfl) (B:))))
   (Zd (Zp (i:=4) Vi.nd rfl (f:) (pcT (Kt T) hr T.cF (Za (Zq (pv 3) rfl) (Za (pv 1) (Za (Yz Oi (by rfl) T.g9 PySem.Pv.boot_dict (B:)) Zb)))))
   (Zg (Z3 (Yk (pv 0) T.af T.aH.m (Qq T) (hr.mono (d:)) T.aH.b .nil Yf (Za (pcT (Ua T) hr T.bS (Za (Yn (Za Zr (Za (pv 1) (Za (pcT (Zbu T) hr T.de (B:)) Zb)))) Zb)) (Za (Vb T.dM (W4 T) (hr.mono (d:)) rfl T.dF T.aU.b .nil Yf (Za (Zq (pv 3) rfl) (Za (Zq (pv 3) rfl) (Za (pv 4) (Za (Zq (pv 3) rfl) Zb))))) Zb))))))))),?_⟩
  refine ⟨_,Y,p,_,dx,_,.ref sc,Y,B.ins,T.af,T.ah,Y,?_⟩;refine ⟨_,Y,_,Y,sc,jt,th,po,_,_,x,d.L,d.Q,ad,ap,Y,C.ins,C.thr,C.poo,hx.all,hxz,e1,hn,vn,λH1 s1=>?_⟩;refine ⟨_,Y,sc,_,jt,_,.ref te,Y,s1 _ _ C.ins,T.ag,T.ao,Y,_,Y,te,c,d.M,d.ns,g,Y,C.ten.same s1,td,h64,⟨ks,s1 _ _ hc,j4⟩,okc,λH2 s2=>?_⟩;have lg:=s1.trans s2;have hx8:x.length<=8:=by
   unfold isN at e1
   rw [Bool.and_eq_true,Bool.and_eq_true,decide_eq_true_eq,decide_eq_true_eq] at e1
   lia
  refine ⟨_,Y,sc,_,jt,_,.ref po,Y,lg _ _ C.ins,T.ag,T.aq,Y,_,Y,_,Y,c,_,Y,.inl (lg _ _ hc),λw' zk=>?_⟩;have s3:Same H2 (upd H2 w' (.dK (dI ks g))):=Same.new zk;have w3:(upd H2 w' (.dK (dI ks g))) w'=some (.dK (dI ks g)):=Zc;generalize upd H2 w' (.dK (dI ks g))=H3 at s3 w3 ⊢;refine ⟨po,Sum.inr x,.ref w',dS (poV d.Q ap),Y,s3 _ _ (lg _ _ C.poo),by rw [Zax]; unfold poV; rw [Ab]; lia,λpk pe=>?_⟩;rw [Zf7 (by rw [Zcm]; exact vn),<- Zpf (ws:=g) vn];have s4:=Same.new (o:=.dK (dS (poV (d.Q ++ [(x,g)]) λz=>if z=x then w' else ap z))) pe;have h4:(upd H3 pk (.dK (dS (poV (d.Q ++ [(x,g)]) λz=>if z=x then w' else ap z)))) pk=some (.dK (dS (poV (d.Q ++ [(x,g)]) λz=>if z=x then w' else ap z))):=Zc;generalize upd H3 pk (.dK (dS (poV (d.Q ++ [(x,g)]) λz=>if z=x then w' else ap z)))=H4 at s4 h4 ⊢;have wm:=lg.trans s3;have sk:=wm.trans s4;have w4:=s4 _ _ w3;have qv:=sk _ _ B.ins;refine ⟨_,Y,p,dx,_,Y,qv,Y,?_⟩;have w5:∀ y∈ks,0<=y/\y<=9999/\0<=g y/\g y < 1000000000000000000000000000000000000000000000000000000000000:=λy hy=>by
   have mo:=j4.mem_iff.mp hy
   obtain ⟨i,_,hi⟩:=Y9.mp mo
   exact ⟨(td.rng i y hi).1,(td.rng i y hi).2,okc.nn y mo,gb y mo⟩
  have nq:ks.length < 64:=by have h1:=j4.length_eq; have h2:=K8 d.ns d.ns.length; lia
  refine ⟨_,Y,_,Y,c,ks,g,Y,sk _ _ hc,nq,w5,λH5 r5 s5 a5 l5=>?_⟩;refine ⟨(by show 3<=sizeLine; decide),λqr kf=>?_⟩;have s6:=Same.new (o:=.lst [V.str (Str.ofString "pour"),V.str x,V.str r5]) kf;refine ⟨qr,[.inl (Str.ofString "pour"),.inl x,.inl r5],rfl,Zc,(by show 3<=900; decide),λy hy=>?_,?_,λH7 s7=>?_⟩
  ·rcases Ar hy with rfl | hy
   ·exact True.intro
   ·rcases Ar hy with rfl | hy
    ·exact True.intro
    ·rw [Af hy]; exact True.intro
  ·show ((Str.ofString "pour").length + (x.length + (r5.length + 0))) + 3<=1048576
   have:(Str.ofString "pour").length=4:=by decide
   lia
  have vg:=s5.trans (s6.trans s7);have qq:=sk.trans vg;have mm:=qq _ _ C.ins;generalize Txt.join (Str.ofString " ") _=rr;refine ⟨_,Y,sc,_,jt,_,.ref te,Y,mm,T.ag,T.ao,Y,_,Y,sc,_,jt,_,.ref th,Y,mm,T.ag,T.am,Y,_,Y,_,Y,sc,_,jt,_,.ref wo,Y,mm,T.ag,T.aD,Y,?_⟩;intro kd jz n6 om hne';refine ⟨kd,jz,_,_,_,_,Y,Zc,Y,?_⟩;rw [Xq];have s8:Same H7 (upd (upd H7 jz (.own kd)) kd (.ins t.ac jz (Xb (.ref te) (.ref th) (.ref pk) (.ref wo)))):=Same.add (Same.new om) n6;have c8:(upd (upd H7 jz (.own kd)) kd (.ins t.ac jz (Xb (.ref te) (.ref th) (.ref pk) (.ref wo)))) kd=some (.ins t.ac jz (Xb (.ref te) (.ref th) (.ref pk) (.ref wo))):=Zc;generalize upd (upd H7 jz (.own kd)) kd (.ins t.ac jz (Xb (.ref te) (.ref th) (.ref pk) (.ref wo)))=H8 at s8 c8 ⊢;have pj:=qq.trans s8;have vf:=vg.trans s8;have hql:=B.stk.len;have C8:=C0.same (Uh (B.low.trans pj) B.np B.nst B.nun);have nw:∀ {HX:Hp} {b:Addr} {u:HO},Same H HX->HX b=none->H8 b=some u->Rs H8 p st un b=some u:=λ{HX b u} sx hb e=>Rs.at e (Yy sx B.ins hb) (Yy sx B.sta hb) (Yy sx B.und hb);have S8:Sc t.aa t.ac (Rs H8 p st un) kd ⟨d.M,d.ns,d.L,d.Q ++ [(x,g)],d.ks,d.g⟩:=⟨jz,te,th,pk,wo,ad,_,nw qq n6 c8,C8.thr,C8.wrd,nw wm pe (vf _ _ h4),λy hy=>(by
   rcases mem_append.mp hy with z | z
   ·try dsimp only
    rw [if_neg (λe=>vn (mem_map.mpr ⟨y,z,e⟩))]
    exact C8.cnt y z
   ·rw [Af z]
    try dsimp only
    rw [if_pos rfl]
    exact ⟨ks,nw lg zk (vf _ _ w4),j4⟩),C8.ten,C8.wor⟩
  refine ⟨p,dx,be,sc,st,un,kd,rr,qs.reverse.map V.ref,Y,pj _ _ B.ins,pj _ _ B.sta,by rw [Ab,length_reverse]; lia,λq lu H9 hq l7 o9 p9 wf q9 u9=>?_⟩;obtain ⟨kl,z1,z2⟩:=B.entered pj S8 hq l7 o9 p9 wf q9 u9;exact k H9 kl z1 z2
def Wk:FnScope ["self","name","now","threads","pools"] ["self","name"] (Zh G0):=Am
def O1 (T:Txt w K mg t):FnOk P w K mg base (CXr P w) 3 t.cr t.cA ["self","name"] (Zd7 t.aa t.ac t.ae):=by
 refine T.aF.F.aR Wk (a:)
 ·obtain ⟨p,x,H0,d,S,U,rfl,⟨dx,be,sc,st,un,qs,us,B⟩,hS,hL,hQ,nd,ndq,hx,hxz,qx,k⟩:=h
  obtain ⟨jt,te,th,po,wo,ad,ap,C0⟩:=B.cur;have C:=C0.same B.low;have hu:=Y4 hr;refine ⟨_,(Zd (Zp (i:=2) Wk.nd Y (Or.inl Y) (Zq (pv 0) Y))
   (Zd (Z2 (PW.pt (Km (Wl (Xx hu (pv 1) (Zq (pv 2) rfl)) (D:)) (Up (Wl (Xx hu (pv 1) (Zq (pv 2) rfl)) (D:))))) Yg Zx)
   (Zd (Vl (i:=3) (j:=4) rfl Wk.nd rfl rfl (d:) rfl rfl (Za (pcT (V2 T) hr T.bj (Za (Zq (pv 2) rfl) (s:))) (Za (pcT (V2 T) hr T.bj (Za (Zq (pv 2) rfl) (s:))) Zb)) (by rfl))
   (Zg (Z3 (Yk (pv 0) T.af T.aH.m (Qq T) (hr.mono (d:)) T.aH.b .nil Yf (Za (pcT (Ua T) hr T.bS (Za (Yn (Za Zr (s:))) Zb)) (Za (Vb T.dM (W4 T) (hr.mono (d:)) rfl T.dF T.aU.b .nil Yf (Za (Zq (pv 2) rfl) (Za (pv 3) (Za (pv 4) (Za (Zq (pv 2) rfl) Zb))))) Zb)))))))),?_⟩
  refine Zn λjx ji=>?_;refine ⟨_,Y,p,_,dx,_,.ref sc,Y,B.ins,T.af,T.ah,Y,?_⟩;refine ji _ _ ?_
  try dsimp only [Zj]
  refine Zz (λσ H'=>σ=[some (.ref p),some (.str x),some (.ref sc),none,none]/\H=H') (λnx jy=>?_) ?_
  ·have g:=Ud (x:=x) C.thr
   by_cases xv:x∈nmL d.L
   ·rw [if_pos xv] at g
    exact ⟨_,Y,_,Y,sc,_,jt,_,.ref th,Y,C.ins,T.ag,T.am,Y,th,_,Y,g,_,Y,iteF (iteF (jy _ _ ⟨Y,Y⟩))⟩
   ·rw [if_neg xv] at g
    have gq:=Ur (x:=x) C.poo;rw [if_pos (qx.resolve_left xv)] at gq;exact ⟨_,Y,_,Y,sc,_,jt,_,.ref th,Y,C.ins,T.ag,T.am,Y,th,_,Y,g,_,Y,iteT ⟨_,Y,_,Y,sc,_,jt,_,.ref po,Y,C.ins,T.ag,T.aq,Y,po,_,Y,gq,_,Y,iteF (jy _ _ ⟨Y,Y⟩)⟩⟩
  rintro σ HX ⟨rfl,rfl⟩;refine ⟨_,Y,sc,_,jt,_,.ref th,Y,C.ins,T.ag,T.am,Y,_,Y,th,x,thV d.L ad,Y,C.thr,by unfold thV; rw [Ab]; lia,by rw [Zb8]; exact nd,λpi H1 s1 uz h1=>?_⟩;refine ⟨_,Y,sc,_,jt,_,.ref po,Y,s1 _ _ C.ins,T.ag,T.aq,Y,_,Y,po,x,poV d.Q ap,Y,s1 _ _ C.poo,by unfold poV; rw [Ab]; lia,by rw [Zcm]; exact ndq,λpk H4 s4 pe h4=>?_⟩;have sk:=s1.trans s4;have qv:=sk _ _ B.ins;refine ⟨_,_,Y,_,Y,p,dx,_,Y,qv,Y,?_⟩;refine ⟨_,Y,(by show 2<=sizeLine; decide),λqr kf=>?_⟩;have s6:=Same.new (o:=.lst [V.str (Str.ofString "lift"),V.str x]) kf;refine ⟨qr,[.inl (Str.ofString "lift"),.inl x],rfl,Zc,(by show 2<=900; decide),λy hy=>?_,?_,λH7 s7=>?_⟩
  ·rcases Ar hy with rfl | hy
   ·exact True.intro
   ·rw [Af hy]; exact True.intro
  ·show ((Str.ofString "lift").length + (x.length + 0)) + 2<=1048576
   have:(Str.ofString "lift").length=4:=by decide
   lia
  have vg:=s6.trans s7;have qq:=sk.trans vg;have mm:=qq _ _ C.ins;generalize Txt.join (Str.ofString " ") _=rr;refine ⟨_,Y,sc,_,jt,_,.ref te,Y,mm,T.ag,T.ao,Y,_,Y,_,Y,_,Y,sc,_,jt,_,.ref wo,Y,mm,T.ag,T.aD,Y,?_⟩;intro kd jz n6 om hne';refine ⟨kd,jz,_,_,_,_,Y,Zc,Y,?_⟩;rw [Xq];have s8:Same H7 (upd (upd H7 jz (.own kd)) kd (.ins t.ac jz (Xb (.ref te) (.ref pi) (.ref pk) (.ref wo)))):=Same.add (Same.new om) n6;have c8:(upd (upd H7 jz (.own kd)) kd (.ins t.ac jz (Xb (.ref te) (.ref pi) (.ref pk) (.ref wo)))) kd=some (.ins t.ac jz (Xb (.ref te) (.ref pi) (.ref pk) (.ref wo))):=Zc;generalize upd (upd H7 jz (.own kd)) kd (.ins t.ac jz (Xb (.ref te) (.ref pi) (.ref pk) (.ref wo)))=H8 at s8 c8 ⊢;have pj:=qq.trans s8;have vf:=vg.trans s8;have hql:=B.stk.len;have C8:=C0.same (Uh (B.low.trans pj) B.np B.nst B.nun);have nw:∀ {HX:Hp} {b:Addr} {u:HO},Same H HX->HX b=none->H8 b=some u->Rs H8 p st un b=some u:=λ{HX b u} sx hb e=>Rs.at e (Yy sx B.ins hb) (Yy sx B.sta hb) (Yy sx B.und hb);rw [Zig] at h1;rw [Ziy] at h4;have S8:Sc t.aa t.ac (Rs H8 p st un) kd ⟨d.M,d.ns,d.L.filter λy=>decide (y.1≠x),d.Q.filter λy=>decide (y.1≠x),d.ks,d.g⟩:=⟨jz,te,pi,pk,wo,ad,ap,nw qq n6 c8,nw (Same.refl _) uz ((s4.trans vf) _ _ h1),λy hy=>C8.wrd y (mem_filter.mp hy).1,nw s1 pe (vf _ _ h4),λy hy=>C8.cnt y (mem_filter.mp hy).1,C8.ten,C8.wor⟩;refine ⟨p,dx,be,sc,st,un,kd,rr,qs.reverse.map V.ref,Y,pj _ _ B.ins,pj _ _ B.sta,by rw [Ab,length_reverse]; lia,λq lu H9 hq l7 o9 p9 wf q9 u9=>?_⟩;obtain ⟨kl,z1,z2⟩:=B.entered pj S8 hq l7 o9 p9 wf q9 u9;exact k H9 kl z1 z2
def Zdo (T:Txt w K mg t):FnOk P w K mg base (CXr P w) 3 t.cr t.cA ["self","name"] (Oj t.aa t.ac t.ae t.ak):=by
 refine T.aF.F.aX Wk (a:)
 ·obtain ⟨p,x,H0,d,S,U,rfl,⟨dx,be,sc,st,un,qs,us,B⟩,hx,hq,k⟩:=h
  have hu:=Y4 hr;obtain ⟨jt,te,th,po,wo,ad,ap,C⟩:=B.cur;have C:=C.same B.low;refine ⟨_,(Ys (Wd (Zp (i:=2) Wk.nd Y (Or.inl Y) (Zq (pv 0) Y)))
   (Ys (X2 (PW.pt (Km (Wl (Xx hu (pv 1) (Zq (pv 2) rfl)) (D:)) (Up (Wl (Xx hu (pv 1) (Zq (pv 2) rfl)) (D:))))) (Zw (Wm T.dU FBV rfl T.bT rfl (Za Zr Zb))) W9)
   (Zbm Yg))),?_⟩
  have g:=Ud (x:=x) C.thr;rw [if_neg hx] at g;have gq:=Ur (x:=x) C.poo;rw [if_neg hq] at gq;refine ⟨_,Y,p,_,dx,_,.ref sc,Y,B.ins,T.af,T.ah,Y,?_⟩;exact ⟨_,Y,_,Y,sc,_,jt,_,.ref th,Y,C.ins,T.ag,T.am,Y,th,_,Y,g,_,Y,iteT ⟨_,Y,_,Y,sc,_,jt,_,.ref po,Y,C.ins,T.ag,T.aq,Y,po,_,Y,gq,_,Y,iteT ⟨by decide,k⟩⟩⟩
def Vu (t:Adr):Sp:=λvs H Q E=>Gn t.aa t.ac t.ae vs H Q E\/Xs t.aa t.ac t.ae t.ak vs H Q E
def Qy (t:Adr):Sp:=λvs H Q E=>Jn t.aa t.ac t.ae vs H Q E\/Xs t.aa t.ac t.ae t.ak vs H Q E
def Ve (t:Adr):Sp:=λvs H Q E=>Zd1 t.aa t.ac t.ae vs H Q E\/Zd0 t.aa t.ac t.ae t.ak vs H Q E
def G5 (t:Adr):Sp:=λvs H Q E=>Vf t.aa t.ac t.ae vs H Q E\/Wc t.aa t.ac t.ae t.ak vs H Q E
def Qx (t:Adr):Sp:=λvs H Q E=>Vv t.aa t.ac t.ae vs H Q E\/Wc t.aa t.ac t.ae t.ak vs H Q E
def Fy (t:Adr):Sp:=λvs H Q E=>∃ (p dx:Addr) (fs:List (Str × V)) (x y:Str) (k:Int),vs=[.ref p,.int k,.str x,.str y]/\H p=some (.ins t.ae dx fs)/\(∀ m,m∈([Str.ofString "thread",Str.ofString "worth_of",Str.ofString "same",Str.ofString "pool",Str.ofString "pool_threads",Str.ofString "lift"]:List Str)->fs.lookup m=none) /\
 (k=0/\Qy t [.ref p,.str x] H (λ_ H'=>Q .non H') E\/k=1/\Vu t [.ref p,.str x] H (λ_ H'=>Q .non H') E\/k=2/\Ve t [.ref p,.str x,.str y] H (λ_ H'=>Q .non H') E\/k=3/\Ve t [.ref p,.str y,.str x] H (λ_ H'=>Q .non H') E \/
  k=4/\G5 t [.ref p,.str x] H (λ_ H'=>Q .non H') E\/k=5/\Qx t [.ref p,.str x] H (λ_ H'=>Q .non H') E\/k=6/\Oj t.aa t.ac t.ae t.ak [.ref p,.str x] H (λ_ H'=>Q .non H') E)/\True
def Jb (t:Adr):Sp:=λvs H Q _=>Fy t vs H (λ_ H'=>Q (.str (w:)) H') λcls _ H'=>cls=.ref t.ak/\Q (.str (Str.ofString "unknown")) H'
section
variable {t:Adr} {vs:List V} {H:Hp} {Q Q':VK} {E E':XK} (hQ:∀ v H',Q v H'->Q' v H') (hE:∀ c o H',E c o H'->E' c o H')
include hQ hE
def Zfp (h:Qy t vs H Q E):Qy t vs H Q' E':=by
 rcases h with ⟨p,x,H0,d,S,U,ws,e,ha,hx,k⟩ | ⟨p,x,H0,d,S,U,e,ha,hx,k⟩
 ·exact .inl ⟨p,x,H0,d,S,U,ws,e,ha,hx,λl hl=>hQ _ _ (k l hl)⟩
 ·exact .inr ⟨p,x,H0,d,S,U,e,ha,hx,hE _ _ _ k⟩
def Zm1 (h:Vu t vs H Q E):Vu t vs H Q' E':=by
 rcases h with ⟨p,x,H0,d,S,U,ws,e,ha,gd,hx,k⟩ | ⟨p,x,H0,d,S,U,e,ha,hx,k⟩
 ·exact .inl ⟨p,x,H0,d,S,U,ws,e,ha,gd,hx,λr H' s=>hQ _ _ (k r H' s)⟩
 ·exact .inr ⟨p,x,H0,d,S,U,e,ha,hx,hE _ _ _ k⟩
def Zfq (h:Ve t vs H Q E):Ve t vs H Q' E':=by
 rcases h with ⟨p,x,y,H0,d,S,U,ws,us,e,ha,gd,hx,hy,k⟩ | ⟨p,x,y,H0,d,S,U,e,ha,hx,k⟩
 ·exact .inl ⟨p,x,y,H0,d,S,U,ws,us,e,ha,gd,hx,hy,λb H' s=>hQ _ _ (k b H' s)⟩
 ·exact .inr ⟨p,x,y,H0,d,S,U,e,ha,hx,λH' s=>hE _ _ _ (k H' s)⟩
def Zm3 (h:G5 t vs H Q E):G5 t vs H Q' E':=by
 rcases h with ⟨p,x,H0,d,S,U,f,e,ha,hx,k⟩ | ⟨p,x,H0,d,S,U,e,ha,hx,k⟩
 ·exact .inl ⟨p,x,H0,d,S,U,f,e,ha,hx,λl ks hl pm=>hQ _ _ (k l ks hl pm)⟩
 ·exact .inr ⟨p,x,H0,d,S,U,e,ha,hx,hE _ _ _ k⟩
def Zm2 (h:Qx t vs H Q E):Qx t vs H Q' E':=by
 rcases h with ⟨p,x,H0,d,S,U,f,g,e,ha,td,h64,hx,nm,pc,hs,le,k⟩ | ⟨p,x,H0,d,S,U,e,ha,hx,k⟩
 ·exact .inl ⟨p,x,H0,d,S,U,f,g,e,ha,td,h64,hx,nm,pc,hs,le,λr H' s=>hQ _ _ (k r H' s)⟩
 ·exact .inr ⟨p,x,H0,d,S,U,e,ha,hx,hE _ _ _ k⟩
end
def Zpr {t:Adr} {vs:List V} {H:Hp} {Q Q':VK} {E E':XK} (hQ:∀ H',Q .non H'->Q' .non H') (hE:∀ c o H',E c o H'->E' c o H') (h:Fy t vs H Q E):Fy t vs H Q' E':=by
 obtain ⟨p,dx,fs,x,y,k,e,hp,hm,hk,_⟩:=h;refine ⟨p,dx,fs,x,y,k,e,hp,hm,?_,True.intro⟩
 rcases hk with ⟨e,h⟩ | ⟨e,h⟩ | ⟨e,h⟩ | ⟨e,h⟩ | ⟨e,h⟩ | ⟨e,h⟩ | ⟨e,h⟩
 ·exact .inl ⟨e,Zfp (λ_ H'=>hQ H') hE h⟩
 ·exact .inr (.inl ⟨e,Zm1 (λ_ H'=>hQ H') hE h⟩)
 ·exact .inr (.inr (.inl ⟨e,Zfq (λ_ H'=>hQ H') hE h⟩))
 ·exact .inr (.inr (.inr (.inl ⟨e,Zfq (λ_ H'=>hQ H') hE h⟩)))
 ·exact .inr (.inr (.inr (.inr (.inl ⟨e,Zm3 (λ_ H'=>hQ H') hE h⟩))))
 ·exact .inr (.inr (.inr (.inr (.inr (.inl ⟨e,Zm2 (λ_ H'=>hQ H') hE h⟩)))))
 ·obtain ⟨p,x,H0,d,S,U,e',ha,hx,hq,k⟩:=h
  exact .inr (.inr (.inr (.inr (.inr (.inr ⟨e,p,x,H0,d,S,U,e',ha,hx,hq,hE _ _ _ k⟩)))))
def Fj (T:Txt w K mg t):FnOk P w K mg base (CXr P w) 9 t.aK t.aL ["self","name"] (Vu t):=(Gj T).or (Gi T)
def Kv (T:Txt w K mg t):FnOk P w K mg base (CXr P w) 10 t.br t.bz ["self","one","other"] (Ve t):=(Zdn T).or (Zdm T)
def Oa (T:Txt w K mg t):FnOk P w K mg base (CXr P w) 10 t.aA t.aB ["self","name"] (Qx t):=(Uv T).or (Uu T)
def Zo6:FnScope ["_law_hall","_law_door","_law_name","_law_thing"] ["_law_hall","_law_door","_law_name","_law_thing"] (Zh Zkd):=Am
def Zpn (T:Txt w K mg t):FnOk P w K mg base (CXr P w) 11 t.iD t.iE ["_law_hall","_law_door","_law_name","_law_thing"] (Fy t):=by
 refine T.iG.F.aX Zo6 (a:)
 ·obtain ⟨p,dx,fs,x,y,k,rfl,hp,hm,hk,_⟩:=h
  refine ⟨_,(Zw (X2 (Zo Yt (pv 1) Zf (Zs _)) (Zw (Y1 (Yx (pv 0) T.af T.ai.m (Wr T) (hr.mono (d:)) T.ai.b .nil (B:)))) (Zw (X2 (Zo Yt (pv 1) Zf (Zs _)) (Zw (Y1 (Yx (pv 0) T.af T.aM.m (Fj T) (hr.mono (d:)) T.aM.b .nil (B:)))) (Zw (X2 (Zo Yt (pv 1) Zf (Zs _)) (Zw (Y1 (Yx (pv 0) T.af T.aQ.m (Kv T) (hr.mono (d:)) T.aQ.b .nil (Za (pv 2) (Za (pv 3) Zb))))) (Zw (X2 (Zo Yt (pv 1) Zf (Zs _)) (Zw (Y1 (Yx (pv 0) T.af T.aQ.m (Kv T) (hr.mono (d:)) T.aQ.b .nil (Za (pv 3) (B:))))) (Zw (X2 (Zo Yt (pv 1) Zf (Zs _)) (Zw (Y1 (Yx (pv 0) T.af T.aG.m (Zfl T) (hr.mono (d:)) T.aG.b .nil (B:)))) (Zw (X2 (Zo Yt (pv 1) Zf (Zs _)) (Zw (Y1 (Yx (pv 0) T.af T.aC.m (Oa T) (hr.mono (d:)) T.aC.b .nil (B:)))) (Zw (Y1 (Yx (pv 0) T.af T.aF.m (Zdo T) (hr.mono (d:)) T.aF.b .nil (B:)))))))))))))))),?_⟩
  rcases hk with ⟨rfl,h⟩ | ⟨rfl,h⟩ | ⟨rfl,h⟩ | ⟨rfl,h⟩ | ⟨rfl,h⟩ | ⟨rfl,h⟩ | ⟨rfl,h⟩
  ·exact ⟨_,Y,Y,_,Y,iteT ⟨_,Y,p,dx,fs,Y,hp,hm _ (d:),_,Y,h⟩⟩
  ·exact ⟨_,Y,Y,_,Y,iteF ⟨_,Y,Y,_,Y,iteT ⟨_,Y,p,dx,fs,Y,hp,hm _ (d:),_,Y,h⟩⟩⟩
  ·exact ⟨_,Y,Y,_,Y,iteF ⟨_,Y,Y,_,Y,iteF ⟨_,Y,Y,_,Y,iteT ⟨_,Y,p,dx,fs,Y,hp,hm _ (d:),_,Y,_,Y,h⟩⟩⟩⟩
  ·exact ⟨_,Y,Y,_,Y,iteF ⟨_,Y,Y,_,Y,iteF ⟨_,Y,Y,_,Y,iteF ⟨_,Y,Y,_,Y,iteT ⟨_,Y,p,dx,fs,Y,hp,hm _ (d:),_,Y,_,Y,h⟩⟩⟩⟩⟩
  ·exact ⟨_,Y,Y,_,Y,iteF ⟨_,Y,Y,_,Y,iteF ⟨_,Y,Y,_,Y,iteF ⟨_,Y,Y,_,Y,iteF ⟨_,Y,Y,_,Y,iteT ⟨_,Y,p,dx,fs,Y,hp,hm _ (d:),_,Y,h⟩⟩⟩⟩⟩⟩
  ·exact ⟨_,Y,Y,_,Y,iteF ⟨_,Y,Y,_,Y,iteF ⟨_,Y,Y,_,Y,iteF ⟨_,Y,Y,_,Y,iteF ⟨_,Y,Y,_,Y,iteF ⟨_,Y,Y,_,Y,iteT ⟨_,Y,p,dx,fs,Y,hp,hm _ (d:),_,Y,h⟩⟩⟩⟩⟩⟩⟩
  ·exact ⟨_,Y,Y,_,Y,iteF ⟨_,Y,Y,_,Y,iteF ⟨_,Y,Y,_,Y,iteF ⟨_,Y,Y,_,Y,iteF ⟨_,Y,Y,_,Y,iteF ⟨_,Y,Y,_,Y,iteF ⟨_,Y,p,dx,fs,Y,hp,hm _ (d:),_,Y,h⟩⟩⟩⟩⟩⟩⟩
def O8:FnScope ["_law_hall","_law_door","_law_name","_law_thing","_law_told_here"] ["_law_hall","_law_door","_law_name","_law_thing"] (Zh Zeo):=Am
def Jd (T:Txt w K mg t):FnOk P w K mg base (CXr P w) 12 t.gI t.gT ["_law_hall","_law_door","_law_name","_law_thing"] (Jb t):=by
 refine T.bn.F.aR O8 (a:)
 ·obtain ⟨p,dx,fs,x,y,k,rfl⟩:∃ (p dx:Addr) (fs:List (Str × V)) (x y:Str) (k:Int),vs=[.ref p,.int k,.str x,.str y]:=by obtain ⟨p,dx,fs,x,y,k,e,_⟩:=h; exact ⟨p,dx,fs,x,y,k,e⟩
  refine ⟨_,(Zd (Zp (i:=4) O8.nd Y (Or.inl Y) Zr)
   (Zd (Zhl (Zw (Y1 (pxT (Zpn T) hr T.iG (Za (pv 0) (Za (pv 1) (Za (pv 2) (Za (pv 3) Zb))))))) (Zp2 rfl T.bT (λ_=>(Zg (Zp (i:=4) O8.nd rfl (f:) Zr))) Zlc))
   (Zg (Zm (pv 4))))),?_⟩;refine Zn λjx ji=>?_;refine ji _ _ ?_
  try dsimp only [Zj]
  refine Zn λjx ji=>?_;refine ⟨_,Y,_,Y,_,Y,_,Y,?_⟩;dsimp only [tNil];show Fy t [.ref p,.int k,.str x,.str y] H _ _;refine Zpr (λH' q=>?_) (λcls o H' q=>?_) h
  ·exact ji _ _ ⟨_,Y,q⟩
  ·obtain ⟨rfl,q⟩:=q
   exact ⟨true,T.di,iteT (ji _ _ ⟨_,Y,q⟩)⟩
def U2 (t:Adr):Sp:=λvs H Q _=>∃ (p dx:Addr) (fs:List (Str × V)) (x:Str),vs=[.ref p,.str x]/\H p=some (.ins t.ae dx fs)/\fs.lookup (Str.ofString "thread")=none/\Qy t [.ref p,.str x] H (λ_ H'=>Q (.str (w:)) H') (λcls _ H'=>cls=.ref t.ak/\Q (.str (Str.ofString "unknown")) H')/\True
def Qz:FnScope ["_law_hall","_law_name","_law_told_here","e"] ["_law_hall","_law_name"] (Zh Zch):=Am
def Zi7 (T:Txt w K mg t):FnOk P w K mg base (CXr P w) 2 t.fV t.gc ["_law_hall","_law_name"] (U2 t):=by
 refine T.gr.F.aR Qz (a:)
 ·obtain ⟨p,dx,fs,x,rfl,hp,hm,h,_⟩:=h
  refine ⟨_,(Zd (Zp (i:=2) Qz.nd Y (Or.inl Y) Zr)
   (Zd (Zhl (Zw (Y1 (Yx (pv 0) T.af T.ai.m (Wr T) (hr.mono (d:)) T.ai.b .nil (s:)))) (Ztb (i:=3) rfl T.gy Qz.nd rfl rfl (λ_ _=>(Zg (Zp (i:=2) Qz.nd rfl (f:) (Vo (Qd (Zt Zgf (by rfl) T.dO PyProof.Rows.boot_isinstance (Za (pv 3) (Za (Zhr (v:=.ty "ValueError") (by rfl) T.gw Za0 rfl) Zb)))) Zr Zr)))) Zlc))
   (Zg (Zm (pv 2))))),?_⟩;refine Zn λjx ji=>?_;refine ji _ _ ?_
  try dsimp only [Zj]
  refine Zn λjx ji=>?_;refine ⟨_,Y,p,dx,fs,Y,hp,hm,_,Y,?_⟩;refine Zfp (t:=t) (λv H' q=>?_) (λcls o H' q=>?_) h
  ·exact ji _ _ ⟨_,Y,q⟩
  ·obtain ⟨rfl,q⟩:=q
   refine ⟨true,T.cI,iteT λex ob ho=>?_⟩;refine ⟨_,Y,"ValueError",rfl,(by rw [ho]; exact T.hX),true,Y,iteT ?_⟩;exact ji _ _ ⟨_,Y,q⟩
def Zl1 (d:Sd):Prop:=∀ y∈d.Q,∃ f:Nat->Int,Nm d.ns f y.2/\PC d.M f/\sF f d.ns.length<=60/\∀ p,p < d.M.length->f p<=900
noncomputable def dueT (b:Prop) [Decidable b]:V:=.str (if b then Str.ofString "" else Str.ofString "unknown")
section
variable {t:Adr} {H H0:Hp} {p:Addr} {d:Sd} {S U:List Sd} {x kept:Str} {Q:VK} {E:XK}
def Ux (ha:Z7 t.aa t.ac t.ae H H0 p d S U):∃ (dx:Addr) (fs:List (Str × V)),H p=some (.ins t.ae dx fs)/\∀ m,m∈([Str.ofString "thread",Str.ofString "worth_of",Str.ofString "same",Str.ofString "pool",Str.ofString "pool_threads",Str.ofString "lift"]:List Str)->fs.lookup m=none:=by
 obtain ⟨dx,be,sc,st,un,qs,us,B⟩:=ha;refine ⟨dx,_,B.ins,λm hm=>?_⟩;simp only [mem_cons,not_mem_nil,or_false] at hm
 rcases hm with rfl | rfl | rfl | rfl | rfl | rfl <;> rfl
def Zfn {L:List (Str × List Nat)} (h:x∈nmL L):∃ ws,(x,ws)∈L:=by
 obtain ⟨y,hy,rfl⟩:=mem_map.mp h;exact ⟨_,hy⟩
def tell {k:Nat} (hk:k < 4) (ha:Z7 t.aa t.ac t.ae H H0 p d S U) (gd:Gd5 d) (r0:kept∈nmL d.L) (K1:∀ H',Same H H'->Q (dueT (x∈nmL d.L)) H'):Jb t [.ref p,.int (k:Int),.str x,.str kept] H Q E:=by
 obtain ⟨dx,fs,hp,hm⟩:=Ux ha;obtain ⟨wk,hwk⟩:=Zfn r0;refine ⟨p,dx,fs,x,kept,k,Y,hp,hm,?_,True.intro⟩;have ok:x∈nmL d.L->∀ H',Same H H'->Q (.str (w:)) H':=λz H' s=>by have:=K1 H' s; unfold dueT at this; rwa [if_pos z] at this
 have no:x ∉ nmL d.L->∀ H',Same H H'->Q (.str (Str.ofString "unknown")) H':=λz H' s=>by have:=K1 H' s; unfold dueT at this; rwa [if_neg z] at this
 have mj:k=0\/k=1\/k=2\/k=3:=by lia
 by_cases z:x∈nmL d.L
 ·obtain ⟨ws,hx⟩:=Zfn z
  rcases mj with rfl | rfl | rfl | rfl
  ·exact .inl ⟨Y,.inl ⟨p,x,H0,d,S,U,ws,Y,ha,hx,λl hl=>ok z _ (Same.new hl)⟩⟩
  ·exact .inr (.inl ⟨Y,.inl ⟨p,x,H0,d,S,U,ws,Y,ha,gd,hx,λr H' s=>ok z _ s⟩⟩)
  ·exact .inr (.inr (.inl ⟨Y,.inl ⟨p,x,kept,H0,d,S,U,ws,wk,Y,ha,gd,hx,hwk,λr H' s=>ok z _ s⟩⟩))
  ·exact .inr (.inr (.inr (.inl ⟨Y,.inl ⟨p,kept,x,H0,d,S,U,wk,ws,Y,ha,gd,hwk,hx,λr H' s=>ok z _ s⟩⟩)))
 ·rcases mj with rfl | rfl | rfl | rfl
  ·exact .inl ⟨Y,.inr ⟨p,x,H0,d,S,U,Y,ha,z,Y,no z _ (Same.refl _)⟩⟩
  ·exact .inr (.inl ⟨Y,.inr ⟨p,x,H0,d,S,U,Y,ha,z,Y,no z _ (Same.refl _)⟩⟩)
  ·exact .inr (.inr (.inl ⟨Y,.inr ⟨p,x,kept,H0,d,S,U,Y,ha,.inl z,λH' s=>⟨Y,no z _ s⟩⟩⟩))
  ·exact .inr (.inr (.inr (.inl ⟨Y,.inr ⟨p,kept,x,H0,d,S,U,Y,ha,.inr ⟨wk,hwk,z⟩,λH' s=>⟨Y,no z _ s⟩⟩⟩)))
def Zny {k:Int} (hk:k=4\/k=5) (ha:Z7 t.aa t.ac t.ae H H0 p d S U) (td:TD d.M d.ns) (h64:d.ns.length < 64) (po:Zl1 d) {y:Str} (K1:∀ H',Same H H'->Q (dueT (x∈nmQ d.Q)) H'):Jb t [.ref p,.int k,.str x,.str y] H Q E:=by
 obtain ⟨dx,fs,hp,hm⟩:=Ux ha;refine ⟨p,dx,fs,x,y,k,Y,hp,hm,?_,True.intro⟩;have ok:x∈nmQ d.Q->∀ H',Same H H'->Q (.str (w:)) H':=λz H' s=>by have:=K1 H' s; unfold dueT at this; rwa [if_pos z] at this
 have no:x ∉ nmQ d.Q->∀ H',Same H H'->Q (.str (Str.ofString "unknown")) H':=λz H' s=>by have:=K1 H' s; unfold dueT at this; rwa [if_neg z] at this
 by_cases z:x∈nmQ d.Q
 ·obtain ⟨⟨_,g⟩,hy,rfl⟩:=mem_map.mp z
  obtain ⟨f,f1,f2,f3,f4⟩:=po _ hy
  rcases hk with rfl | rfl
  ·exact .inr (.inr (.inr (.inr (.inl ⟨Y,.inl ⟨p,_,H0,d,S,U,g,Y,ha,hy,λl ks hl pm=>ok z _ (Same.new hl)⟩⟩))))
  ·exact .inr (.inr (.inr (.inr (.inr (.inl ⟨Y,.inl ⟨p,_,H0,d,S,U,f,g,Y,ha,td,h64,hy,f1,f2,f3,f4,λr H' s=>ok z _ s⟩⟩)))))
 ·rcases hk with rfl | rfl
  ·exact .inr (.inr (.inr (.inr (.inl ⟨Y,.inr ⟨p,x,H0,d,S,U,Y,ha,z,Y,no z _ (Same.refl _)⟩⟩))))
  ·exact .inr (.inr (.inr (.inr (.inr (.inl ⟨Y,.inr ⟨p,x,H0,d,S,U,Y,ha,z,Y,no z _ (Same.refl _)⟩⟩)))))
def Zsc (ha:Z7 t.aa t.ac t.ae H H0 p d S U) (K1:∀ H',Same H H'->Q (dueT (x∈nmL d.L)) H'):U2 t [.ref p,.str x] H Q E:=by
 obtain ⟨dx,fs,hp,hm⟩:=Ux ha;refine ⟨p,dx,fs,x,Y,hp,hm _ (d:),?_,True.intro⟩;by_cases z:x∈nmL d.L
 ·obtain ⟨ws,hx⟩:=Zfn z
  have ok:∀ H',Same H H'->Q (.str (w:)) H':=λH' s=>by have:=K1 H' s; unfold dueT at this; rwa [if_pos z] at this
  exact .inl ⟨p,x,H0,d,S,U,ws,Y,ha,hx,λl hl=>ok _ (Same.new hl)⟩
 ·exact .inr ⟨p,x,H0,d,S,U,rfl,ha,z,rfl,by have:=K1 _ (Same.refl _); unfold dueT at this; rwa [if_neg z] at this⟩
end
theorem Fo (x:Str):∀ xs:List Str,inV (.str x) (xs.map V.str)=decide (x∈xs)
 | []=>rfl
 | y :: xs=>by
  have ih:=Fo x xs;unfold inV at ih ⊢;rw [map_cons,any_cons,ih];have e:eqV (.str y) (.str x)=decide (x=y):=by
   show decide _=_
   by_cases c:x=y
   ·subst c; simp
   ·rw [decide_eq_false c]; exact decide_eq_false (λz=>c z.symm)
  rw [e];by_cases c:x=y
  ·rw [decide_eq_true c,decide_eq_true (mem_cons.mpr (.inl c))]; rfl
  ·rw [decide_eq_false c,Bool.false_or]
   exact decide_eq_decide.mpr ⟨mem_cons_of_mem _,λz=>(Ar z).resolve_left c⟩
def Zcz (xs:List Str):(xs.map V.str).all Q6=true:=by
 rw [all_eq_true];intro v hv;obtain ⟨x,_,rfl⟩:=mem_map.mp hv;rfl
def Zme (t:Adr):Sp:=λvs H Q _=>∃ (p a b c:Addr) (H0:Hp) (d:Sd) (S U:List Sd) (nv we xg:List Str) (kept:Str),vs=[.ref p,.ref a,.ref b,.ref c,.str kept]/\Z7 t.aa t.ac t.ae H H0 p d S U/\Gd5 d/\Zl1 d/\kept∈nmL d.L/\H a=some (.lst (nv.map V.str))/\H b=some (.lst (we.map V.str))/\H c=some (.lst (xg.map V.str))/\(∀ x∈nv,(x∈we ↔ x∈nmL d.L)/\(x∈xg ↔ x∈nmQ d.Q))/\∀ H',Same H H'->Q (.bl true) H'
def X8:FnScope ["_law_hall","_law_names","_law_threads","_law_families","_law_kept","_law_name","_law_due","_law_door"] ["_law_hall","_law_names","_law_threads","_law_families","_law_kept"] (Zh Zci):=Am
def Q2 (T:Txt w K mg t):FnOk P w K mg base (CXr P w) 13 t.fW t.gf ["_law_hall","_law_names","_law_threads","_law_families","_law_kept"] (Zme t):=by
 refine T.bM.F.aR X8 (a:)
 ·obtain ⟨p,a,b,c,H0,d,S,U,nv,we,xg,kept,rfl,ha,gd,po,r0,h1,h2,h3,hx,k⟩:=h
  refine ⟨_,(Zd (Xj PassesOwn.never Y (Yj (pv 1)) (Zk (i:=5) X8.nd Y (Or.inl Y)) (Zd (Zp (i:=6) X8.nd Y (Or.inl Y) Zr)
   (Zd (Z2 (Zo Zco (pv 5) (pv 2) (D:)) (Zg (Zp (i:=6) X8.nd rfl (f:) Zr)) Zx)
   (Zd (Xj PassesOwn.never rfl (X7 rfl T.aO (Za Zf Zb)) (Zk (i:=7) X8.nd rfl (f:)) (Zg (Z2 (Zo Jk (pcT (Jd T) hr T.bn (Za (pv 0) (Za (pv 7) (Za (pv 5) (Za (pv 4) Zb))))) (pv 6) (Zs _)) (Zg (Zm U9)) Zx)))
   (Zd (Z2 (Zo Jk (pcT (Zi7 T) hr T.gr (Za (pv 0) (Za (pv 5) Zb))) (pv 6) (Zs _)) (Zg (Zm U9)) Zx)
   (Zd (Zp (i:=6) X8.nd rfl (f:) Zr)
   (Zd (Z2 (Zo Zco (pv 5) (pv 3) (D:)) (Zg (Zp (i:=6) X8.nd rfl (f:) Zr)) Zx)
   (Zg (Z2 (PW.pt (Q0 (Zo Jk (pcT (Jd T) hr T.bn (Za (pv 0) (Za Zf (Za (pv 5) (Za Zr Zb))))) (pv 6) (Zs _)) (Jh (Zo Jk (pcT (Jd T) hr T.bn (Za (pv 0) (Za Zf (Za (pv 5) (Za Zr Zb))))) (pv 6) (Zs _))))) (Zg (Zm U9)) Zx)))))))))
   (Zg (Zm U9))),?_⟩;show tSeq (tFor _ _ _) _ _ _ _;refine Zz (λσ HX=>Same H HX) (λnx jy=>?_) ?_
  ·refine ⟨_,Y,a,Y,⟨_,SqL.of h1⟩,?_⟩
   refine J5 (xs:=nv.map V.str) (λi σ HX=>∃ (v5 v6 v7:Option V),σ=[some (.ref p),some (.ref a),some (.ref b),some (.ref c),some (.str kept),v5,v6,v7]/\Same H HX) ⟨none,none,none,Y,Same.refl _⟩ ?_ ?_ ?_
   ·rintro i σ HX _ ⟨v5,v6,v7,rfl,sX⟩
    exact SqL.of (sX _ _ h1)
   ·rintro i y σ HX hy ⟨v5,v6,v7,rfl,sX⟩
    obtain ⟨x,zj,rfl⟩:=Z6 hy;obtain ⟨x1,x2⟩:=hx x (Au zj);dsimp only [Zj];refine Zn λjx ji=>?_;refine ji _ _ ?_
    try dsimp only [Zj]
    refine Zz (λσ H'=>σ=[some (.ref p),some (.ref a),some (.ref b),some (.ref c),some (.str kept),some (.str x),some (dueT (x∈nmL d.L)),v7]/\HX=H') (λnx jy=>?_) ?_
    ·refine ⟨_,Y,_,Y,b,_,Y,.inl (SqL.of (sX _ _ h2)),Y,Zcz _,_,Y,?_⟩
     rw [show (if false=true then !inV (.str x) (we.map V.str) else inV (.str x) (we.map V.str))=decide (x∈we) from Fo x we];refine ite2 (λz=>?_) (λz=>?_)
     ·refine jy _ _ ⟨?_,Y⟩
      unfold dueT;rw [if_pos (x1.mp (of_decide_eq_true z))];rfl
     ·refine jy _ _ ⟨?_,Y⟩
      unfold dueT;rw [if_neg (λq=>z (decide_eq_true (x1.mpr q)))];rfl
    rintro σ H3 ⟨rfl,rfl⟩;refine Zz (λσ H'=>(∃ v7,σ=[some (.ref p),some (.ref a),some (.ref b),some (.ref c),some (.str kept),some (.str x),some (dueT (x∈nmL d.L)),v7])/\Same H H') (λnx jy=>?_) ?_
    ·refine ⟨4,Y,by lia,by lia,?_⟩
     refine Ql (n:=4) (λi σ H'=>∃ v7,σ=[some (.ref p),some (.ref a),some (.ref b),some (.ref c),some (.str kept),some (.str x),some (dueT (x∈nmL d.L)),v7]/\Same H H') ⟨v7,Y,sX⟩ ?_ ?_
     ·rintro i σ H4 jw ⟨v7',rfl,s4⟩
      dsimp only [Zj];refine ⟨_,Y,_,Y,_,Y,_,Y,?_⟩;dsimp only [tNil];rw [Int.zero_add];show Jb t [.ref p,.int (i:Int),.str x,.str kept] H4 _ _;refine tell (by lia) (ha.same s4) gd r0 λH5 s5=>?_;refine ⟨_,Y,Y,false,?_,iteF ⟨_,Y,s4.trans s5⟩⟩;simp
     ·rintro σ H4 ⟨v7',rfl,s4⟩
      exact jy _ _ ⟨⟨_,Y⟩,s4⟩
    rintro σ H4 ⟨⟨v7',rfl⟩,s4⟩;refine Zn λjx ji=>?_;refine ⟨_,Y,_,Y,?_⟩;dsimp only [tNil];show U2 t [.ref p,.str x] H4 _ _;refine Zsc (ha.same s4) λH5 s5=>?_;refine ⟨_,Y,Y,false,?_,iteF ?_⟩
    ·simp
    try dsimp only [Wz]
    refine ji _ _ ?_;have s05:=s4.trans s5;refine Zn λjx ji=>?_;refine ji _ _ ?_
    try dsimp only [Zj]
    refine Zz (λσ H'=>σ=[some (.ref p),some (.ref a),some (.ref b),some (.ref c),some (.str kept),some (.str x),some (dueT (x∈nmQ d.Q)),v7']/\H5=H') (λnx jy=>?_) ?_
    ·refine ⟨_,Y,_,Y,c,_,Y,.inl (SqL.of (s05 _ _ h3)),Y,Zcz _,_,Y,?_⟩
     rw [show (if false=true then !inV (.str x) (xg.map V.str) else inV (.str x) (xg.map V.str))=decide (x∈xg) from Fo x xg];refine ite2 (λz=>?_) (λz=>?_)
     ·refine jy _ _ ⟨?_,Y⟩
      unfold dueT;rw [if_pos (x2.mp (of_decide_eq_true z))];rfl
     ·refine jy _ _ ⟨?_,Y⟩
      unfold dueT;rw [if_neg (λq=>z (decide_eq_true (x2.mpr q)))];rfl
    rintro σ H6 ⟨rfl,rfl⟩;refine ⟨_,Y,_,Y,?_⟩;dsimp only [Zih,tC,tNil];show Jb t [.ref p,.int 4,.str x,.str (w:)] H5 _ _;refine Zny (.inl Y) (ha.same s05) gd.td gd.h64 po λH6 s6=>?_;refine ⟨_,Y,Y,false,by simp,iteF ?_⟩;refine ⟨_,Y,_,Y,?_⟩;dsimp only [Zih,tC,tNil];show Jb t [.ref p,.int 5,.str x,.str (w:)] H6 _ _;refine Zny (.inr Y) (ha.same (s05.trans s6)) gd.td gd.h64 po λH7 s7=>?_;refine ⟨_,Y,Y,false,by simp,iteF ?_⟩;exact ⟨_,_,_,Y,s05.trans (s6.trans s7)⟩
   ·rintro σ HX ⟨v5,v6,v7,rfl,sX⟩
    exact jy _ _ sX
  rintro σ HX sX;exact k _ sX
def Zh7 (hP:Pl M ws) (p:Nat):crP M ws p=((kr M ws p:Nat):Int):=by
 unfold crP kr;congr 1;refine countP_congr λq hq=>?_;obtain ⟨m,e⟩:=hP.has q hq;rw [decide_eq_true_eq,decide_eq_true_eq,Vq e,e];constructor
 ·rintro (z | z)
  ·exact .inl z
  ·cases z; exact .inr Y
 ·rintro (z | z)
  ·exact .inl z
  ·rw [z]; exact .inr Y
def Zlq (M:Lw) (ws:List Nat) (p:Nat):crP M ws p<=ws.length:=Int.ofNat_le.mpr countP_le_length
def Zr9 {M:Lw} (inv:InvM M) {ws:List Nat} (hP:Pl M ws):PC M (crP M ws):=by
 rw [show crP M ws=λp=>((kr M ws p:Nat):Int) from funext (Zh7 hP)];exact hP.pc inv
def Zqb {M:Lw} (inv:InvM M) {ws:List Nat} (hP:Pl M ws) (n:Nat):sF (crP M ws) n<=2 * ws.length:=by
 rw [show crP M ws=λp=>((kr M ws p:Nat):Int) from funext (Zh7 hP)];exact Zst inv hP n
noncomputable def mq:Str:=Str.ofString "abcdefghijklmnopqrstuvwxyz"
def Zo0:mq.cps.toList.length=26:=by decide +kernel
def Zo2:∀ c∈mq.cps.toList,c < 128:=by decide +kernel
def Zo1:∀ c∈mq.cps.toList,Txt.contains mq ⟨#[c]⟩=true:=by decide +kernel
def Znu {i:Int} (h0:0<=i) (h1:i < 26):∃ c,atI mq.cps.toList i=some c/\c∈mq.cps.toList:=by
 obtain ⟨n,rfl⟩:∃ n:Nat,i=n:=⟨_,(Int.toNat_of_nonneg h0).symm⟩;have hn:n < mq.cps.toList.length:=by rw [Zo0]; lia
 exact ⟨mq.cps.toList[n],Xp (Ac hn),getElem_mem hn⟩
def Zp9 {xs:List Int} (hx:xs.length=9) {e:Int} (h0:0<=e) (h1:e < 8):cutV (xs.map V.int) (some 1) (some (2 + e))=((xs.drop 1).take (1 + e.toNat)).map V.int:=by
 obtain ⟨k,rfl⟩:∃ k:Nat,e=k:=⟨_,(Int.toNat_of_nonneg h0).symm⟩;unfold cutV;rw [Ab,hx,show (some (1:Int))=some ((1:Nat):Int) from rfl,show (2 + (k:Int))=((2 + k:Nat):Int) by lia,HT.sIx_nat,HT.sIx_nat,map_take,map_drop];congr 1;lia
def Zno {zs:List Str} (h1:1<=zs.length) (h8:zs.length<=8) (h:∀ z∈zs,∃ c∈mq.cps.toList,z=⟨#[c]⟩):Asc (Txt.join (w:) zs)/\(Txt.join (w:) zs).length<=8/\isN (Txt.join (w:) zs)=true:=by
 have jl:(Txt.join (w:) zs).length=zs.length:=PySem.W.KT.join_ones zs λz hz=>by obtain ⟨c,_,rfl⟩:=h z hz; rfl
 have jc:∀ c∈(Txt.join (w:) zs).cps.toList,c∈mq.cps.toList:=λc hc=>by
  rw [Fn] at hc;obtain ⟨l,hl,hc⟩:=mem_flatten.mp hc;obtain ⟨y,hy,rfl⟩:=mem_map.mp hl;obtain ⟨d,hd,rfl⟩:=h y hy;have:c=d:=by simpa using hc
  rw [this];exact hd
 refine ⟨λc hc=>Zo2 c (jc c hc),by lia,?_⟩;unfold isN mdL;rw [decide_eq_true (by lia:(1:Int)<=_),decide_eq_true (by lia:_<=(8:Int)),Bool.true_and,Bool.true_and,all_map,all_eq_true];exact λc hc=>Zo1 c (jc c hc)
noncomputable def one1:HO:=.lst [.str (Str.ofString "one")]
def Zds (H H':Hp):Prop:=∀ b u,u≠one1->H b=some u->H' b=some u
def Vr {α:Type} {g:α->V} (h:∀ x s,g x≠.str s) (xs:List α):HO.lst (xs.map g)≠one1:=λe=>by
 injection e with e
 cases xs with
 | nil=>cases e
 | cons x xs =>
  injection e with e
  exact h x _ e
def Zn9 (x:Nat) (s:Str):nV x≠.str s:=λz=>nomatch z
def Zs0 (x:Option Nat) (s:Str):mV x≠.str s:=by cases x <;> exact λz=>nomatch z
def Zs5 (x:Int) (s:Str):V.int x≠.str s:=λz=>nomatch z
def Zix (x:Addr) (s:Str):V.ref x≠.str s:=λz=>nomatch z
def Zy.sameX {C:Addr} {H H':Hp} {p:Addr} {M:Lw} {ns:List Int} (h:Zy C H p M ns) (s:Zds H H'):Zy C H' p M ns:=by
 obtain ⟨dx,cl,na,sp,mt,o,f,b⟩:=h;obtain ⟨ts,r1,r2,r3⟩:=b.rows;exact ⟨dx,cl,na,sp,mt,o,f,s _ _ (C:) b.ins,⟨ts,s _ _ (Vr Zix _) r1,r2,λk t e=>s _ _ (C:) (r3 k t e)⟩,s _ _ (Vr Zs5 _) b.names,s _ _ (C:) b.spots,s _ _ (Vr Zs0 _) b.mates,λx hx=>s _ _ (Vr Zn9 _) (b.at' x hx)⟩
def Sc.sameX {CT CS:Addr} {H H':Hp} {sc:Addr} {d:Sd} (h:Sc CT CS H sc d) (s:Zds H H'):Sc CT CS H' sc d:=by
 obtain ⟨jt,te,th,po,wo,ad,ap,C⟩:=h;obtain ⟨aw,w1,w2⟩:=C.wor;exact ⟨jt,te,th,po,wo,ad,ap,s _ _ (C:) C.ins,s _ _ (C:) C.thr,λy hy=>s _ _ (Vr Zn9 _) (C.wrd y hy),s _ _ (C:) C.poo,(λy hy=>by obtain ⟨ks,k1,k2⟩:=C.cnt y hy; exact ⟨ks,s _ _ (C:) k1,k2⟩),C.ten.sameX s,aw,s _ _ (C:) w1,λx hx=>s _ _ (C:) (w2 x hx)⟩
theorem Stk.sameX {CT CS:Addr} {H H':Hp} (s:Zds H H'):∀ {qs:List Addr} {ds:List Sd},Stk CT CS H qs ds->Stk CT CS H' qs ds
 | [],[],_=>True.intro
 | [],_ :: _,h=>h.elim
 | _ :: _,[],h=>h.elim
 | q :: qs,d :: ds,h=>by
  obtain ⟨⟨x,a,h1,h2⟩,h3⟩:=h;exact ⟨⟨x,a,s _ _ (C:) h1,h2.sameX s⟩,Stk.sameX s h3⟩
def Z7.put {CT CS CH:Addr} {H H0:Hp} {p l:Addr} {d:Sd} {S U:List Sd} {o:HO} (h:Z7 CT CS CH H H0 p d S U) (hl:H l=some one1):Z7 CT CS CH (upd H l o) (upd H0 l o) p d S U:=by
 obtain ⟨dx,be,sc,st,un,qs,us,B⟩:=h;have s:Zds H0 (upd H0 l o):=λb u n e=>by
  rw [Ze (λz=>?_)]
  ·exact e
  ·rw [z] at e
   rw [B.low _ _ e] at hl
   exact n (Ax hl)
 have l1:p≠l:=λz=>by have e:=B.ins; rw [z,hl] at e; cases e
 have l2:st≠l:=λz=>by have e:=B.sta; rw [z,hl] at e; exact Vr Zix _ (Ax e).symm
 have l3:un≠l:=λz=>by have e:=B.und; rw [z,hl] at e; exact Vr Zix _ (Ax e).symm
 refine ⟨dx,be,sc,st,un,qs,us,by rw [Ze l1]; exact B.ins,by rw [Ze l2]; exact B.sta,by rw [Ze l3]; exact B.und,λb u e=>?_,by rw [Ze l1]; exact B.np,by rw [Ze l2]; exact B.nst,by rw [Ze l3]; exact B.nun,B.su,B.cur.sameX s,B.stk.sameX s,B.unk.sameX s⟩;by_cases z:b=l
 ·subst z; rw [Zc] at e ⊢; exact e
 ·rw [Ze z] at e ⊢; exact B.low _ _ e
def Zim:Sp:=λvs H Q _=>∃ (m a:Addr) (M:Lw) (ws:List Nat),vs=[.ref m,.ref a]/\H m=some (.lst (M.map mV))/\M.length<=1000/\(∀ (i j:Nat),M[i]?=some (some j)->M[j]?=some (some i)/\i≠j)/\H a=some (.lst (ws.map nV))/\Pl M ws /\
 ∀ (l:Addr) (H':Hp),Same H H'->H l=none->H' l=some (.lst (rowI M.length (crP M ws)))->Q (.ref l) H'
def U5:FnScope ["_law_mates","_law_word","_law_counts","_law_p"] ["_law_mates","_law_word"] (Zh Zcf):=Am
def Zi5 (T:Txt w K mg t):FnOk P w K mg base (CXr P w) 1 t.fU t.f9 ["_law_mates","_law_word"] Zim:=by
 refine T.gn.F.aR U5 (a:)
 ·obtain ⟨m,a,M,ws,rfl,hm,hl,inv,ha,hP,k⟩:=h
  refine ⟨_,(Zd (Zp (i:=2) U5.nd Y (Or.inl Y) (Zi Zfc (Yn (Za Zf Zb)) (v:)))
   (Zd (Xj PassesOwn.never rfl (Yj (pv 1)) (Zk (i:=3) U5.nd rfl (f:)) (Zd (Zhn (pv 2) (pv 3) Zf0 Zf Zla Jo)
   (Zg (Zhn (pv 2) (Ya Z4 (pv 0) (pv 3) (A:)) Zf0 Zf Zla Jo))))
   (Zg (Zm (pv 2))))),?_⟩;refine Zn λjx ji=>?_;refine ⟨(by show 1<=sizeLine; decide),λz hz=>?_⟩;have sz:Same H (upd H z (.lst [.int 0])):=Same.new hz;refine ⟨_,Y,m,_,Y,.inl (SqL.of (sz _ _ hm)),z,_,_,Y,Y,Zc,by lia,by rw [Ab]; lia,?_,λc hc=>?_⟩
  ·show 1 * _<=_
   rw [Ab,Int.toNat_natCast,Nat.one_mul];exact U4 (by lia)
  refine ji _ _ ?_;dsimp only [Zj];have e0:(List.replicate ((((M.map mV).length:Nat):Int)).toNat [V.int 0]).flatten=rowI M.length (crP M (ws.take 0)):=by
   rw [Ab,Int.toNat_natCast,flatten_replicate_singleton]
   unfold rowI crP
   apply ext_getElem?
   intro i
   rw [Ah,getElem?_replicate]
   by_cases hi:i < M.length
   ·rw [if_pos hi,getElem?_range hi]; rfl
   ·rw [if_neg hi,Ay (by rw [length_range]; lia)]; rfl
  rw [e0];have sc1:=Same.add (o:=.lst (rowI M.length (crP M (ws.take 0)))) sz (sz.free hc);have hc0:=sz.free hc;have h1:(upd (upd H z (.lst [.int 0])) c (.lst (rowI M.length (crP M (ws.take 0))))) c=some (.lst (rowI M.length (crP M (ws.take 0)))):=Zc;generalize upd (upd H z (.lst [.int 0])) c (.lst (rowI M.length (crP M (ws.take 0))))=H1 at sc1 h1 ⊢;refine Zz (λσ H'=>σ.getD 2 none=some (.ref c)/\Same H H'/\H' c=some (.lst (rowI M.length (crP M ws)))) (λnx jy=>?_) ?_
  ·refine ⟨_,Y,a,Y,⟨_,SqL.of (sc1 _ _ ha)⟩,?_⟩
   refine J5 (xs:=ws.map nV) (λi σ H2=>∃ v,σ=[some (.ref m),some (.ref a),some (.ref c),v]/\Same H H2/\H2 c=some (.lst (rowI M.length (crP M (ws.take i))))) ⟨_,Y,sc1,h1⟩ ?_ ?_ ?_
   ·rintro i σ H2 _ ⟨v,rfl,s2,h2⟩
    exact SqL.of (s2 _ _ ha)
   ·rintro i x σ H2 hx ⟨v,rfl,s2,h2⟩
    obtain ⟨q,hq,rfl⟩:=Z6 hx;obtain ⟨mt,tw⟩:=hP.has q (Au hq);obtain ⟨hmb,j9⟩:=inv q mt tw;have hqM:q < M.length:=(Aa tw).1;have htM:mt < M.length:=(Aa hmb).1;dsimp only [Zj];refine Zn λjx ji=>?_;refine ⟨_,Y,_,Y,c,_,q,_,Y,Y,SqL.of h2,Q9 hqM,_,_,Y,Y,c,_,_,q,Y,Y,h2,(by rw [X9]; exact Vc hqM),?_⟩;refine ji _ _ ?_;rw [Zew];have s3:=Same.add (o:=.lst (rowI M.length λp=>if p=q then crP M (ws.take i) q + 1 else crP M (ws.take i) p)) s2 hc0;have h3:(upd H2 c (.lst (rowI M.length λp=>if p=q then crP M (ws.take i) q + 1 else crP M (ws.take i) p))) c=some (.lst (rowI M.length λp=>if p=q then crP M (ws.take i) q + 1 else crP M (ws.take i) p)):=Zc;generalize upd H2 c (.lst (rowI M.length λp=>if p=q then crP M (ws.take i) q + 1 else crP M (ws.take i) p))=H3 at s3 h3 ⊢;refine ⟨_,Y,_,Y,_,Y,m,_,_,_,Y,Y,SqL.of (s3 _ _ hm),We tw,c,_,mt,_,Y,Y,SqL.of h3,Q9 htM,_,_,Y,Y,c,_,_,mt,Y,Y,h3,(by rw [X9]; exact Vc htM),?_⟩;refine ⟨_,Y,Same.add s3 hc0,?_⟩;rw [Zc,Zew];congr 2;refine Ziw λp=>?_;rw [Znr hq tw j9 p,if_neg (Ne.symm j9)]
   ·rintro σ H2 ⟨v,rfl,s2,h2⟩
    rw [Ab,take_length] at h2;exact jy _ _ ⟨Y,s2,h2⟩
  ·rintro σ H2 ⟨e,s2,h2⟩
   have e2:∃ u,σ[2]?=some (some u)/\u=V.ref c:=by
    cases z:σ[2]? with
    | none=>rw [Ad,z] at e; cases e
    | some y=>rw [Ad,z] at e; cases e; exact ⟨_,Y,Y⟩
   obtain ⟨u,e3,rfl⟩:=e2;exact ⟨_,e3,k c H2 s2 hc0 h2⟩
noncomputable def Z9:Str:=Str.ofString "kept"
noncomputable def jr:Str:=Str.ofString "one"
noncomputable def Yi:Str:=Str.ofString "pool"
noncomputable def sNil:Str:=Str.ofString ""
noncomputable def Zsr:Str:=Str.ofString "One 1"
noncomputable def nv (x:Str):List Str:=[jr,Yi,x,sNil,Zsr]
def Zam {x y:Str} (h:y∈nv x) (hx:x≠Z9):y≠Z9:=by
 unfold nv at h;simp only [mem_cons,not_mem_nil,or_false] at h
 rcases h with rfl | rfl | rfl | rfl | rfl
 ·decide
 ·decide
 ·exact hx
 ·decide
 ·decide
def nd1 {α:Type} (x:α):[x].Nodup:=nodup_cons.mpr ⟨not_mem_nil,nodup_nil⟩
def Znv:Asc Z9:=by show ∀ c∈Z9.cps.toList,c < 128; decide +kernel
def Zic:Asc jr:=by show ∀ c∈jr.cps.toList,c < 128; decide +kernel
def Zgh:Asc Yi:=by show ∀ c∈Yi.cps.toList,c < 128; decide +kernel
def Zng:isN Z9=true:=by decide +kernel
def Zp0:isN jr=true:=by decide +kernel
def Znf:isN Yi=true:=by decide +kernel
def Pl.twice {M:Lw} {ws:List Nat} (h:Pl M ws):Pl M (ws ++ ws):=by
 have:=h.turn (m:=2) (b:=0) (Nat.mul_pos (d:) (length_pos_iff.mpr h.ne));rw [Fa] at this;simpa [List.replicate] using this
structure Own (H:Hp) (m r w1 nl:Addr) (M:Lw) (ns:List Int) (ws:List Nat) (x:Str):Prop where
 hm:H m=some (.lst (M.map mV))
 hr:Y6 H r ns
 h1:H w1=some (.lst (ws.map nV))
 hn:H nl=some (.lst ((nv x).map V.str))
def Own.same {H H':Hp} {m r w1 nl:Addr} {M:Lw} {ns:List Int} {ws:List Nat} {x:Str} (h:Own H m r w1 nl M ns ws x) (s:Same H H'):Own H' m r w1 nl M ns ws x:=⟨s _ _ h.hm,h.hr.same s,s _ _ h.h1,s _ _ h.hn⟩
def gd64 {M:Lw} {ns ks:List Int} {L:List (Str × List Nat)} {Q:List (Str × (Int->Int))} (td:TD M ns) (h64:ns.length < 64) (sw:SwK M ns ks) (h:∀ y∈L,Pl M y.2/\y.2.length<=100):Gd5 ⟨M,ns,L,Q,ks,λ_=>(1,1)⟩:=⟨td,h64,h,sw,λ_ _=>rfl⟩
def Zf3 {α:Type} {x:Str}:∀ {L:List (Str × α)},(∀ y∈L,y.1≠x)->L.filter (λy=>decide (y.1≠x))=L:=λh=>filter_eq_self.mpr λy hy=>decide_eq_true (h y hy)
def Ww:FnScope ["_law_script","_law_mates","_law_rows_here","_law_hall","_law_word","_law_nums","_law_small","_law_drawn","_law_names","_law_threads"] ["_law_script"] (Zh Zn3):=Am
def ok_law (T:Txt w K mg t):FnOk P w K mg base (CXr P w) 14 t.iS t.iF ["_law_script"] (sp_law K):=by
  refine T.iU.F.aR Ww (a:)
  · obtain ⟨a,sc,rfl,hS,hl,k⟩:=h
    have hu:=Y4 hr;have kk:∀ (b:Bool) H',b=true->Q (.bl b) H':=λb H' e=>by rw [e]; exact k H'
    refine ⟨_,(Zd (Qe (pcT (Zkv T) hr T.gX (Za (pv 0) Zb)) (Ji Y (Z0 (Zk (i:=1) Ww.nd Y (Or.inl Y)) (Z0 (Zk (i:=2) Ww.nd Y (Or.inl Y)) Xg))))
      (Zd (Zp (i:=3) Ww.nd rfl (f:) (Vb T.iQ (Zfm T) (hr.mono (d:)) rfl T.iN T.eQ.b .nil Yf (Za (Yz Xf (by rfl) T.bF PySem.Pv.boot_list (B:)) Zb)))
      (Zd (Zp (i:=4) Ww.nd rfl (f:) (pcT (Zgz T) hr T.fI (Za (pv 0) (Za Zf (s:)))))
      (Zd (Z2 (PW.pt (Q0 (Zo Yt (Zt Zu (by rfl) T.au PySem.boot_len (Za (pv 4) Zb)) Zf (Zs _)) (Jh (Zo Q1 (Zt Zu (by rfl) T.au PySem.boot_len (Za (pv 4) Zb)) Zf (Zs _))))) (Zg (Zm (Wg Yt (pcT (Jd T) hr T.bn (Za (pv 3) (Za Zf (Za Zr (Za Zr Zb))))) Zr (Zs _)))) Zx)
      (Zd (Zp (i:=5) Ww.nd rfl (f:) (pcT (Vp T) hr T.bA (Za (pcT (Qf T) hr T.bL (Za (pv 0) (Za Zf Zb))) (Za Zf Zb))))
      (Zd (Zp (i:=6) Ww.nd rfl (Or.inr rfl) Zr)
      (Zd (Zp (i:=7) Ww.nd rfl (f:) (Xw PySem.F.plainAttrs_str PySem.F.slot_str_join PySem.F.type_str_join K7 Zr (Za (Yp (ts:=["_law_num"]) (fv:=[("_law_small",6)]) (b:) rfl (Yj (Vm Ue (pv 5) (Jv Zf) (Jv (Zi Yr Zf (Zi Yh (Ya Z4 (pv 5) Zf (A:)) Zf))))) (λ_ _ _ _=>(Zk (i:=0) (show List.Nodup (["_law_num","_law_small"]:List Str) from by decide +kernel) rfl (f:) (Or.inr rfl))) (λ_ _ _ _=>Yd) (λ_ _ _=>rfl) (λ_ _ _ _ _ _=>Yo (Ya Zrz (pv 1) (Zi Yh (pv 0) Zf) (A:)))) Zb)))
      (Zd (Zp (i:=8) Ww.nd rfl (f:) (Yn (Za Zr (Za Zr (Za (pv 7) (Za Zr (Za Zr Zb)))))))
      (Zd (Z3 (Yk (pv 3) T.af T.aP.m (Ub T) (hr.mono (d:)) T.aP.b .nil Yf (Za Zr (Za (Yz Xf (by rfl) T.bF PySem.Pv.boot_list (Za (pv 4) Zb)) Zb))))
      (Zd (Z2 (PW.pt (Q0 (Zo Yt (pv 7) Zr (Zs _)) (Jh (Wx (W8 (pcT (Q2 T) hr T.bM (Za (pv 3) (Za (pv 8) (Za (Yn Zb) (Za (Yn Zb) (Za Zr Zb)))))) (λ_=>rfl)))))) (Zg (Zm (Wg Yt (pv 7) Zr (Zs _)))) Zx)
      (Zd (Z3 (Yk (pv 3) T.af T.cG.m (Zfk T) (hr.mono (d:)) T.cG.b .nil Yf (Za Zr (Za (pcT (Zi6 T) hr T.gm (Za (pv 2) (Za (pcT (Zi5 T) hr T.gn (Za (pv 1) (Za (pv 4) Zb))) Zb))) Zb))))
      (Zd (Z2 (PW.pt (Q0 (Zo Yt (pv 7) Zr (Zs _)) (Jh (Wx (W8 (pcT (Q2 T) hr T.bM (Za (pv 3) (Za (pv 8) (Za (Yn Zb) (Za (Yn (Za Zr Zb)) (Za Zr Zb)))))) (λ_=>rfl)))))) (Zg (Zm (Wg Yt (pv 7) Zr (Zs _)))) Zx)
      (Zd (Z3 (Yk (pv 3) T.af T.aP.m (Ub T) (hr.mono (d:)) T.aP.b .nil Yf (Za Zr (Za (Yz Xf (by rfl) T.bF PySem.Pv.boot_list (Za (pv 4) Zb)) Zb))))
      (Zd (Zp (i:=9) Ww.nd rfl (f:) (Yn (Za Zr Zb)))
      (Zd (Z2 (Zo Jk (pv 7) Zr (Zs _)) (Zd (Z3 (Yk (pv 3) T.af T.aP.m (Ub T) (hr.mono (d:)) T.aP.b .nil Yf (Za (pv 7) (Za (Zi Zfe (pv 4) (pv 4)) Zb))))
      (Zg (Z3 (Xw PySem.F.plainAttrs_list PySem.F.slot_list_append PySem.F.type_list_append Y3 (pv 9) (Za (pv 7) Zb))))) Zx)
      (Zd (Z2 (Wx (W8 (pcT (Q2 T) hr T.bM (Za (pv 3) (Za (pv 8) (Za (pv 9) (Za (Yn (Za Zr Zb)) (Za Zr Zb)))))) (λ_=>rfl))) (Zg (Zm U9)) Zx)
      (Zd (Z3 (Yk (pv 3) T.af T.aF.m (O1 T) (hr.mono (d:)) T.aF.b .nil Yf (Za Zr Zb)))
      (Zd (Z3 (Yk (pv 3) T.af T.aF.m (O1 T) (hr.mono (d:)) T.aF.b .nil Yf (Za Zr Zb)))
      (Zd (Z2 (PW.pt (Q0 (Zo Jk (pcT (Jd T) hr T.bn (Za (pv 3) (Za Zf (Za Zr (Za Zr Zb))))) Zr (Zs _)) (Jh (Zo Jk (pcT (Jd T) hr T.bn (Za (pv 3) (Za Zf (Za Zr (Za Zr Zb))))) Zr (Zs _))))) (Zg (Zm U9)) Zx)
      (Zg (Zm (pcT (Q2 T) hr T.bM (Za (pv 3) (Za (pv 8) (Za (Yp (ts:=["_law_name"]) (fv:=[]) (k:) rfl (Yj (pv 9)) (λ_ _ _ _=>(Zk (i:=0) (show List.Nodup (["_law_name"]:List Str) from by decide +kernel) rfl (f:) (Or.inr rfl))) (λ_ _ _ _=>(Uq (Zo Jk (pv 0) Zr (Zs _)))) (λ_ _ _=>rfl) (λ_ _ _ _ _ _=>Yo (pv 0))) (Za (Yn Zb) (Za Zr Zb))))))))))))))))))))))))))),?_⟩;refine Zn λjx ji=>?_;refine ⟨_,Y,a,sc,Y,hS,hl,λp m r M ns H1 y3 hp hm mv td h42 pq qt=>?_⟩;refine ⟨p,_,Y,SqT.of hp,Y,_,_,Y,_,_,Y,Y,?_⟩;refine ji _ _ ?_;obtain ⟨ts,g1,g2,g3⟩:=id mv;have h64:ns.length < 64:=by rw [td.len]; lia
    refine Zn λjx ji=>?_;refine ⟨_,Y,r,_,Y,.inl (SqL.of g1),λl km=>?_⟩;intro x dx hx hdx j9;obtain ⟨rl2,s2⟩:=Zl7 (C:=t.ae) g1 g2 g3 km hx hdx;have mr:=(Same.new (o:=.lst (ts.map V.ref)) km).trans s2;refine ⟨x,l,dx,M,ns,Y,Zc,rl2,td,h64,λH3 lf hn=>⟨Y,?_⟩⟩;obtain ⟨be,ye,st,un,jt,th,po,wo,ks,hn,n1,n2,su⟩:=hn;obtain ⟨H0,wl,ha⟩:=HallNew.hall td hn su (λb u hb e=>lf b u hb (mr b u e)) (Wi hx).2 (mr.free n1) (mr.free n2);have sw:=hn.sw;refine ji _ _ ?_
    try dsimp only [Zj]
    have hS0:=wl.seq (y3.seq hS);have rf:=wl _ _ hm;have u5:=mv.same wl;clear lf rl2 s2 mr g1 g2 g3 mv hm qt pq hp y3 hx hdx j9 km hS hn n1 n2 su wl;refine Zn λjx ji=>?_;refine ⟨_,Y,_,Y,a,m,sc,3,M,Y,ha.low.seq hS0,hl,by decide,by decide,ha.low _ _ rf,h42,⟨_,td.n.choose_spec.2.2⟩,td.inv,λw1 ws H4 s4 hw1 h4 l1 p1=>?_⟩;refine ji _ _ ?_
    try dsimp only [Zj]
    obtain ⟨H1',z1,ha,nw⟩:=ha.more s4;have h1:=nw w1 _ h4 (.inl hw1);have hS0:=z1.seq hS0;have rf:=z1 _ _ rf;have u5:=u5.same z1;clear nw z1 h4 hw1 s4;refine Zz (λσ H'=>σ=[some (.ref a),some (.ref m),some (.ref r),some (.ref x),some (.ref w1),none,none,none,none,none]/\H'=H4/\Pl M ws/\ws.length<=24) (λnx jy=>?_) ?_
    · refine ⟨_,Y,w1,_,Y,.inl (SqL.of (ha.low _ _ h1)),Y,_,Y,?_⟩
      refine (λR=>ite2 (λz=>iteT R) (λz=>⟨_,Y,w1,_,Y,.inl (SqL.of (ha.low _ _ h1)),_,_,Y,Y,_,Y,ite2 (λz'=>R) (λz'=>?_)⟩)) ?_
      · obtain ⟨dx,fs,hp,hm⟩:=Ux ha
        refine ⟨_,Y,x,dx,fs,Str.ofString "a",sNil,0,rfl,hp,hm,.inl ⟨rfl,.inr ⟨x,Str.ofString "a",_,_,_,_,rfl,ha,not_mem_nil,rfl,?_⟩⟩,True.intro⟩;exact ⟨Y,kk _ _ (by simp)⟩
      · refine jy _ _ ⟨Y,Y,p1.resolve_left λe=>?_,?_⟩
        · subst e; exact z Y
        · have z':=of_decide_eq_false (Bool.eq_false_iff.mpr z')
          rw [Ab] at z';lia
    rintro σ H6 ⟨rfl,rfl,hP,h24⟩;clear p1 l1;refine Zn λjx ji=>?_;refine ⟨_,Y,a,sc,4,Y,ha.low.seq hS0,hl,by decide,by decide,_,9,Y,by decide,λnm xs H5 s5 hnm h5 uf hxs=>?_⟩;refine ji _ _ ?_
    try dsimp only [Zj]
    have ha:=ha.same s5;clear s5 hnm hS0 hl;refine Zn λjx ji=>?_;refine ji _ _ ?_
    try dsimp only [Zj]
    have y0e:xs[0]?=some (xs[0]'(by lia)):=Ac (by lia);have a0:atI (xs.map V.int) ((0:Nat):Int)=some (V.int (xs[0]'(by lia))):=We y0e;generalize (xs[0]'(by lia))=y0 at y0e a0;refine Zz (λσ H'=>∃ dr:Str,σ=[some (.ref a),some (.ref m),some (.ref r),some (.ref x),some (.ref w1),some (.ref nm),some (.str mq),some (.str dr),none,none]/\Same H5 H'/\Asc dr/\dr.length<=8/\isN dr=true) (λnx jy=>?_) ?_
    · refine ⟨Y,_,Y,_,Y,_,Y,nm,_,_,_,Y,Y,SqL.of h5,a0,_,_,Y,Y,(by show (0:Int) < 8; decide),?_⟩
      have ec:=Zp9 uf (e:=y0 % 8) (by lia) (by lia);have hyl:((xs.drop 1).take (1 + (y0 % 8).toNat)).length=1 + (y0 % 8).toNat:=by rw [Ai,length_drop]; lia
      have hym:∀ y∈(xs.drop 1).take (1 + (y0 % 8).toNat),0<=y/\y < 1009:=λy hy=>hxs y (mem_of_mem_drop (mem_of_mem_take hy));generalize (xs.drop 1).take (1 + (y0 % 8).toNat)=ys at ec hyl hym;refine ⟨_,_,Y,Y,_,Y,nm,_,Y,SqL.of h5,λl2 kf=>?_⟩;have h3:(upd H5 l2 (.lst (cutV (xs.map V.int) (some 1) (some (2 + y0 % 8))))) l2=some (.lst (ys.map V.int)):=by rw [Zc,ec]
      have s3:Same H5 (upd H5 l2 (.lst (cutV (xs.map V.int) (some 1) (some (2 + y0 % 8))))):=Same.new kf;refine ⟨l2,Y,⟨_,SqL.of h3⟩,λD hD=>?_⟩;refine Yl (xs:=ys.map V.int) (λi σ H6=>∃ (v:Option V) (zs:List Str),σ=[v,some (.str mq)]/\Same (upd H5 l2 (.lst (cutV (xs.map V.int) (some 1) (some (2 + y0 % 8))))) H6/\H6 D=some (.lst (zs.map V.str))/\zs.length=i/\∀ z∈zs,∃ c∈mq.cps.toList,z=⟨#[c]⟩) ⟨none,[],rfl,Same.new hD,Zc,rfl,λz hz=>by cases hz⟩ ?_ ?_ ?_
      · rintro i σ H6 _ ⟨v,zs,rfl,s6,_⟩
        exact SqL.of (s6 _ _ h3)
      · rintro i y σ H6 hy ⟨v,zs,rfl,s6,h6,zl,hz⟩
        rw [Ah] at hy;obtain ⟨y,mo,rfl⟩:=Option.map_eq_some_iff.mp hy;have vp:i < ys.length:=(Aa mo).1;obtain ⟨ch,t7,my⟩:=Znu (i:=y % 26) (by lia) (by lia);dsimp only [Zj,tYes];rw [if_pos rfl];refine ⟨_,Y,_,Y,_,_,Y,Y,(by show (0:Int) < 26; decide),mq,y % 26,ch,rfl,rfl,(by show 26<=sizeLine; decide),t7,?_⟩;refine ⟨_,h6,by rw [Ab]; exact Zv (by lia),_,zs ++ [⟨#[ch]⟩],Y,Same.add s6 hD,by rw [Zc,Aj]; rfl,by rw [Ae,zl]; rfl,λz wp=>?_⟩
        rcases mem_append.mp wp with q | q
        · exact hz z q
        · rw [Af q]; exact ⟨ch,my,Y⟩
      · rintro σ H6 ⟨v,zs,rfl,s6,h6,zl,hz⟩
        rw [Ab] at zl;have sm:=Za3 (B:=1) (l:=zs) λz wp=>by obtain ⟨c,_,rfl⟩:=hz z wp; exact An _
        refine ⟨_,D,zs,Y,Y,SqL.of h6,by decide,by lia,?_⟩;obtain ⟨d1,d2,d3⟩:=Zno (by lia) (by lia) hz;exact jy _ _ ⟨_,Y,s3.trans s6,d1,d2,d3⟩
    rintro σ H7 ⟨dr,rfl,s7,ax,x8,xn⟩;have ha:=ha.same s7;clear s7 h5 uf hxs y0e a0 y0;refine Zn λjx ji=>?_;refine ⟨_,Y,(by show 5<=sizeLine; decide),λnl hnl=>?_⟩;refine ji _ _ ?_
    try dsimp only [Zj]
    obtain ⟨kl,z1,ha,nw⟩:=ha.more (Same.new (o:=.lst ((nv dr).map V.str)) hnl);have W:Own kl m r w1 nl M ns ws dr:=⟨z1 _ _ rf,u5.same z1,z1 _ _ h1,nw nl _ Zc (.inl hnl)⟩;clear z1 nw h1 rf u5;refine Zn λjx ji=>?_;obtain ⟨dx,be,ye,yz,un,qs,ua,B⟩:=id ha;refine ⟨_,Y,x,dx,_,Y,B.ins,Y,_,Y,w1,_,Y,.inl (SqL.of (ha.low _ _ W.h1)),λc hc=>?_⟩;have t1:=Same.new (o:=.lst (ws.map nV)) hc;refine ⟨x,c,Z9,_,_,_,_,ws,Y,ha.same t1,td,Nat.le_trans (Nat.le_of_lt h64) (d:),le_of_ble_eq_true Y,le_of_ble_eq_true Y,Znv,(d:),Zng,not_mem_nil,not_mem_nil,Zc,by lia,hP,λHX kl z1 z2=>?_⟩;refine ji _ _ ?_
    try dsimp only [Zj]
    replace ha:Z7 t.aa t.ac t.ae HX kl x ⟨M,ns,[(Z9,ws)],[],ks,λ_=>(1,1)⟩ [⟨M,ns,[],[],ks,λ_=>(1,1)⟩] []:=z2;replace W:=W.same z1;clear t1 hc z2 B;clear z1;refine Zz (λσ H'=>σ=[some (.ref a),some (.ref m),some (.ref r),some (.ref x),some (.ref w1),some (.ref nm),some (.str mq),some (.str dr),some (.ref nl),none]/\Same HX H'/\dr≠Z9) (λnx jy=>?_) ?_
    · refine ⟨_,Y,Y,_,Y,ite2 (λz=>iteT ⟨_,Y,Y,kk _ _ z⟩) (λz=>?_)⟩
      have nk:dr≠Z9:=λe=>z (decide_eq_true (by rw [e]; rfl));refine ⟨_,Y,_,Y,Az _,λb hb=>⟨Az _,λc hc=>?_⟩⟩;have s1:=(Same.new (o:=.lst []) hb).trans (Same.new (o:=.lst []) hc);refine ⟨x,nl,b,c,_,_,_,_,nv dr,[],[],Z9,Y,ha.same s1,gd64 td h64 sw ?_,λy hy=>absurd hy not_mem_nil,mem_singleton.mpr Y,s1 _ _ (ha.low _ _ W.hn),Same.new hc _ _ Zc,Zc,λy hy=>⟨⟨λe=>absurd e not_mem_nil,λe=>absurd (Af e) (Zam hy nk)⟩,Iff.rfl⟩,λH' s'=>?_⟩
      · intro y hy
        rw [Af hy];exact ⟨hP,by show ws.length<=100; lia⟩
      · refine ⟨_,Y,iteF ?_⟩
        exact jy _ _ ⟨Y,s1.trans s',nk⟩
    rintro σ H8 ⟨rfl,s8,nk⟩;have ha:=ha.same s8;clear s8;refine Zn λjx ji=>?_;obtain ⟨dx,be,ye,yz,un,qs,ua,B⟩:=id ha;refine ⟨_,Y,x,dx,_,Y,B.ins,Y,_,Y,_,Y,_,Y,m,w1,M,ws,Y,ha.low _ _ W.hm,by lia,td.inv,ha.low _ _ W.h1,hP,λc1 H9 s9 t7 h9=>?_⟩;have ha9:=ha.same s9;refine ⟨r,c1,ns,crP M ws,Y,W.hr.same ha9.low,by lia,by rw [td.len]; exact h9,λc2 g H10 wl my h10 hg=>?_⟩;have ha10:=ha9.same wl;have pc:=Zr9 td.inv hP;have nm0:Nm ns (crP M ws) g:=Nm.of td pc hg;have gb:∀ y∈keys ns ns.length,g y < 1000000000000000000000000000000000000000000000000000000000000:=λy hy=>by
      obtain ⟨q,_,e⟩:=hg y hy
      have:=Zlq M ws q
      lia
    refine ⟨x,c2,Yi,_,_,_,_,g,Y,ha10,td,h64,le_of_ble_eq_true Y,le_of_ble_eq_true Y,Zgh,(d:),Znf,(by show Yi ∉ [Z9]; decide),not_mem_nil,⟨_,h10,.refl _⟩,Zn7 pc nm0 td,gb,λHX kl z1 z2=>?_⟩;refine ji _ _ ?_
    try dsimp only [Zj]
    clear ha ha9 ha10;have ha:Z7 t.aa t.ac t.ae HX kl x ⟨M,ns,[(Z9,ws)],[(Yi,g)],ks,λ_=>(1,1)⟩ [⟨M,ns,[(Z9,ws)],[],ks,λ_=>(1,1)⟩,⟨M,ns,[],[],ks,λ_=>(1,1)⟩] []:=z2;replace W:=W.same z1;have hsF:sF (crP M ws) ns.length<=60:=by have:=Zqb td.inv hP ns.length; lia
    have h9:∀ p,p < M.length->crP M ws p<=900:=λp _=>by have:=Zlq M ws p; lia
    have po:∀ y∈[(Yi,g)],∃ f:Nat->Int,Nm ns f y.2/\PC M f/\sF f ns.length<=60/\∀ p,p < M.length->f p<=900:=λy hy=>by
      rw [Af hy];exact ⟨crP M ws,nm0,pc,hsF,h9⟩
    clear z1 z2 B s9 wl t7 my h10 hg gb nm0 pc hsF h9;refine Zz (λσ H'=>σ=[some (.ref a),some (.ref m),some (.ref r),some (.ref x),some (.ref w1),some (.ref nm),some (.str mq),some (.str dr),some (.ref nl),none]/\Same HX H'/\dr≠Yi) (λnx jy=>?_) ?_
    · refine ⟨_,Y,Y,_,Y,ite2 (λz=>iteT ⟨_,Y,Y,kk _ _ z⟩) (λz=>?_)⟩
      have np:dr≠Yi:=λe=>z (decide_eq_true (by rw [e]; rfl));refine ⟨_,Y,_,Y,Az _,λb hb=>⟨(by show 1<=sizeLine; decide),λc hc=>?_⟩⟩;have s1:=(Same.new (o:=.lst []) hb).trans (Same.new (o:=.lst [V.str Yi]) hc);refine ⟨x,nl,b,c,_,_,_,_,nv dr,[],[Yi],Z9,Y,ha.same s1,gd64 td h64 sw ?_,po,mem_singleton.mpr Y,s1 _ _ (ha.low _ _ W.hn),Same.new hc _ _ Zc,Zc,λy hy=>⟨⟨λe=>absurd e not_mem_nil,λe=>absurd (Af e) (Zam hy nk)⟩,Iff.rfl⟩,λH' s'=>?_⟩
      · intro y hy
        rw [Af hy];exact ⟨hP,by show ws.length<=100; lia⟩
      · refine ⟨_,Y,iteF ?_⟩
        exact jy _ _ ⟨Y,s1.trans s',np⟩
    rintro σ H9 ⟨rfl,s9,np⟩;replace ha:=ha.same s9;clear s9;refine Zn λjx ji=>?_;obtain ⟨dx,be,ye,yz,un,qs,ua,B⟩:=id ha;refine ⟨_,Y,x,dx,_,Y,B.ins,Y,_,Y,w1,_,Y,.inl (SqL.of (ha.low _ _ W.h1)),λc hc=>?_⟩;have t1:=Same.new (o:=.lst (ws.map nV)) hc;refine ⟨x,c,jr,_,_,_,_,ws,Y,ha.same t1,td,Nat.le_trans (Nat.le_of_lt h64) (d:),le_of_ble_eq_true Y,le_of_ble_eq_true Y,Zic,(d:),Zp0,(by show jr ∉ [Z9]; decide),(by show jr ∉ [Yi]; decide),Zc,by lia,hP,λHX kl z1 z2=>?_⟩;refine ji _ _ ?_
    try dsimp only [Zj]
    replace ha:Z7 t.aa t.ac t.ae HX kl x ⟨M,ns,[(Z9,ws),(jr,ws)],[(Yi,g)],ks,λ_=>(1,1)⟩ [⟨M,ns,[(Z9,ws)],[(Yi,g)],ks,λ_=>(1,1)⟩,⟨M,ns,[(Z9,ws)],[],ks,λ_=>(1,1)⟩,⟨M,ns,[],[],ks,λ_=>(1,1)⟩] []:=z2;replace W:=W.same z1;clear t1 hc z2 B;clear z1;refine Zn λjx ji=>?_;refine ⟨(by show 1<=sizeLine; decide),λtl htl=>?_⟩;refine ji _ _ ?_
    try dsimp only [Zj]
    obtain ⟨kl,z1,ha,nw⟩:=ha.more (Same.new (o:=one1) htl);replace W:=W.same z1;have hT:kl tl=some one1:=nw tl _ Zc (.inl htl);clear z1 nw;refine Zz (λσ H'=>σ=[some (.ref a),some (.ref m),some (.ref r),some (.ref x),some (.ref w1),some (.ref nm),some (.str mq),some (.str dr),some (.ref nl),some (.ref tl)]/\∃ (H0:Hp) (S:List Sd) (L:List (Str × List Nat)),Z7 t.aa t.ac t.ae H' H0 x ⟨M,ns,[(Z9,ws),(jr,ws)] ++ L,[(Yi,g)],ks,λ_=>(1,1)⟩ S []/\S.length<=4/\(∀ y∈L,y.1=dr/\dr≠jr/\Pl M y.2/\y.2.length<=100)/\L.length<=1/\H0 nl=some (.lst ((nv dr).map V.str))/\H0 tl=some (.lst ((jr :: nmL L).map V.str))) (λnx jy=>?_) ?_
    · refine ⟨_,Y,Y,_,Y,ite2 (λz=>?_) (λz=>?_)⟩
      · have no:dr≠jr:=λe=>by
          have z:(!decide (V.str dr=V.str jr))=true:=z;rw [e] at z;simp at z
        refine Zn λjx ji=>?_;obtain ⟨dx,be,ye,yz,un,qs,ua,B⟩:=id ha;have w0:=SqL.of (K:=K) (ha.low _ _ W.h1);refine ⟨_,Y,x,dx,_,Y,B.ins,Y,_,Y,_,Y,_,Y,w1,w1,_,_,Y,Y,ha.low _ _ W.h1,ha.low _ _ W.h1,by rw [Ab,sizeLine_eq]; lia,λc hc=>?_⟩;have t1:=Same.new (o:=.lst (ws.map nV ++ ws.map nV)) hc;refine ⟨x,c,dr,_,_,_,_,ws ++ ws,Y,ha.same t1,td,Nat.le_trans (Nat.le_of_lt h64) (d:),le_of_ble_eq_true Y,le_of_ble_eq_true Y,ax,by lia,xn,?_,?_,by rw [Zc,Aj],by rw [Ae]; lia,hP.twice,λHX kl z1 z2=>?_⟩
        · intro e
          rcases Ar e with e | e
          · exact nk e
          · exact no (Af e)
        · intro e
          exact np (Af e)
        refine ji _ _ ?_
        try dsimp only [Zj]
        have yt:=z2.low _ _ (z1 _ _ hT);refine ⟨_,Y,.inl ⟨Y,_,SqL.of yt⟩,_,Y,tl,_,_,Y,Y,yt,(by show 1 < sizeLine; decide),?_⟩;refine jy _ _ ⟨Y,_,_,[(dr,ws ++ ws)],z2.put yt,le_of_ble_eq_true Y,λy hy=>?_,An _,?_,by rw [Zc]; rfl⟩
        · rw [Af hy]
          exact ⟨Y,no,hP.twice,by rw [Ae]; lia⟩
        · rw [Ze (λe=>?_)]
          · exact z1 _ _ W.hn
          · have h1:=W.hn
            rw [e,hT] at h1;cases h1
      · refine jy _ _ ⟨Y,_,_,[],ha,le_of_ble_eq_true Y,λy hy=>absurd hy not_mem_nil,Az _,W.hn,hT⟩
    rintro σ H11 ⟨rfl,H0,S,L,ha,hS,hL,hL1,hN,hT⟩;clear W;have hLk:∀ y∈L,y.1≠Z9:=λy hy=>by rw [(hL y hy).1]; exact nk
    have hLo:∀ y∈L,y.1≠jr:=λy hy=>by rw [(hL y hy).1]; exact (hL y hy).2.1
    have hLp:∀ y∈L,y.1≠Yi:=λy hy=>by rw [(hL y hy).1]; exact np
    have pls:∀ y∈(Z9,ws) :: L,Pl M y.2/\y.2.length<=100:=λy hy=>by
      rcases Ar hy with rfl | hy
      · exact ⟨hP,by show ws.length<=100; lia⟩
      · exact (hL y hy).2.2
    have ndL:(nmL L).Nodup:=by
      cases L with
      | nil=>exact nodup_nil
      | cons y L =>
        have:L=[]:=eq_nil_of_length_eq_zero (by rw [length_cons] at hL1; lia);subst this;exact nd1 _
    have qf:∀ {z:Str},z∈nmL L->∃ y∈L,y.1=z:=λ{z} hz=>by
      obtain ⟨y,hy,e⟩:=mem_map.mp hz;exact ⟨y,hy,e⟩
    refine Zz (λσ H'=>σ=[some (.ref a),some (.ref m),some (.ref r),some (.ref x),some (.ref w1),some (.ref nm),some (.str mq),some (.str dr),some (.ref nl),some (.ref tl)]/\Same H11 H') (λnx jy=>?_) ?_
    · refine ⟨_,Y,_,Y,_,Y,(by show 1<=sizeLine; decide),λc hc=>?_⟩
      have s1:=Same.new (o:=.lst [V.str Yi]) hc;refine ⟨x,nl,tl,c,_,_,_,_,nv dr,jr :: nmL L,[Yi],Z9,Y,ha.same s1,gd64 td h64 sw ?_,po,mem_cons_self,s1 _ _ (ha.low _ _ hN),s1 _ _ (ha.low _ _ hT),Zc,λy hy=>⟨⟨λe=>mem_cons_of_mem _ e,λe=>(Ar e).resolve_left (Zam hy nk)⟩,Iff.rfl⟩,λH' s'=>?_⟩
      · intro y hy
        rcases Ar hy with rfl | hy
        · exact ⟨hP,by show ws.length<=100; lia⟩
        · rcases Ar hy with rfl | hy
          · exact ⟨hP,by show ws.length<=100; lia⟩
          · exact (hL y hy).2.2
      · refine ⟨_,Y,iteF ?_⟩
        exact jy _ _ ⟨Y,s1.trans s'⟩
    rintro σ H12 ⟨rfl,mr⟩;replace ha:=ha.same mr;clear mr;refine Zn λjx ji=>?_;obtain ⟨dx,be,ye,yz,un,qs,ua,B⟩:=id ha;refine ⟨_,Y,x,dx,_,Y,B.ins,Y,x,jr,_,_,_,_,Y,ha,by lia,by show L.length + 1 + 1<=800; lia,le_of_ble_eq_true rfl,?_,nd1 _,Zic,(d:),.inl (mem_cons_of_mem _ mem_cons_self),λHX kl z1 z2=>?_⟩
    · show (Z9 :: jr :: nmL L).Nodup
      refine nodup_cons.mpr ⟨λe=>?_,nodup_cons.mpr ⟨λe=>?_,ndL⟩⟩
      · rcases Ar e with e | e
        · revert e; decide
        · obtain ⟨y,hy,e⟩:=qf e
          exact hLk y hy e
      · obtain ⟨y,hy,e⟩:=qf e
        exact hLo y hy e
    refine ji _ _ ?_
    try dsimp only [Zj]
    have e1:([(Z9,ws),(jr,ws)] ++ L).filter (λy=>decide (y.1≠jr))=(Z9,ws) :: L:=by
      show (((Z9,ws) :: (jr,ws) :: L).filter λy=>decide (y.1≠jr))=_;rw [filter_cons,if_pos (by show decide (Z9≠jr)=true; decide),filter_cons,if_neg (by show ¬ decide (jr≠jr)=true; decide),Zf3 hLo]
    have e2:([(Yi,g)]:List (Str × (Int->Int))).filter (λy=>decide (y.1≠jr))=[(Yi,g)]:=by
      rw [filter_cons,if_pos (by show decide (Yi≠jr)=true; decide)];rfl
    clear ha B;dsimp only at z2;rw [e1,e2] at z2;obtain ⟨S2,ha,hS2⟩:∃ S2:List Sd,Z7 t.aa t.ac t.ae HX kl x ⟨M,ns,(Z9,ws) :: L,[(Yi,g)],ks,λ_=>(1,1)⟩ S2 []/\S2.length<=5:=⟨_,z2,by rw [length_cons]; lia⟩;replace hN:=z1 _ _ hN;replace hT:=z1 _ _ hT;clear z1 z2 e1 e2;refine Zn λjx ji=>?_;obtain ⟨dx,be,ye,yz,un,qs,ua,B⟩:=id ha;refine ⟨_,Y,x,dx,_,Y,B.ins,Y,x,Yi,_,_,_,_,Y,ha,by lia,by show L.length + 1<=800; lia,le_of_ble_eq_true rfl,?_,nd1 _,Zgh,(d:),.inr mem_cons_self,λHX kl z1 z2=>?_⟩
    · show (Z9 :: nmL L).Nodup
      refine nodup_cons.mpr ⟨λe=>?_,ndL⟩;obtain ⟨y,hy,e⟩:=qf e;exact hLk y hy e
    refine ji _ _ ?_
    try dsimp only [Zj]
    have e1:((Z9,ws) :: L).filter (λy=>decide (y.1≠Yi))=(Z9,ws) :: L:=by
      rw [filter_cons,if_pos (by show decide (Z9≠Yi)=true; decide),Zf3 hLp]
    have e2:([(Yi,g)]:List (Str × (Int->Int))).filter (λy=>decide (y.1≠Yi))=[]:=by
      rw [filter_cons,if_neg (by show ¬ decide (Yi≠Yi)=true; decide)];rfl
    clear ha B;dsimp only at z2;rw [e1,e2] at z2;obtain ⟨S3,ha⟩:∃ S3:List Sd,Z7 t.aa t.ac t.ae HX kl x ⟨M,ns,(Z9,ws) :: L,[],ks,λ_=>(1,1)⟩ S3 []:=⟨_,z2⟩;replace hN:=z1 _ _ hN;replace hT:=z1 _ _ hT;clear z1 z2 e1 e2;obtain ⟨dx,fs,hp,hm⟩:=Ux ha;refine Zz (λσ H'=>σ=[some (.ref a),some (.ref m),some (.ref r),some (.ref x),some (.ref w1),some (.ref nm),some (.str mq),some (.str dr),some (.ref nl),some (.ref tl)]/\HX=H') (λnx jy=>?_) ?_
    · have n1:jr ∉ nmL ((Z9,ws) :: L):=λe=>by
        rcases Ar e with e | e
        · exact absurd e (by show jr≠Z9; decide)
        · obtain ⟨y,hy,e⟩:=qf e
          exact hLo y hy e
      have n2:Yi ∉ nmL ((Z9,ws) :: L):=λe=>by
        rcases Ar e with e | e
        · exact absurd e (by show Yi≠Z9; decide)
        · obtain ⟨y,hy,e⟩:=qf e
          exact hLp y hy e
      refine ⟨_,Y,x,dx,fs,jr,sNil,6,Y,hp,hm,.inr (.inr (.inr (.inr (.inr (.inr ⟨Y,x,jr,_,_,_,_,Y,ha,n1,not_mem_nil,Y,?_⟩))))),True.intro⟩;refine ⟨Y,false,by simp,iteF ?_⟩;refine ⟨_,Y,x,dx,fs,Yi,sNil,6,Y,hp,hm,.inr (.inr (.inr (.inr (.inr (.inr ⟨Y,x,Yi,_,_,_,_,Y,ha,n2,not_mem_nil,Y,?_⟩))))),True.intro⟩;refine ⟨Y,false,by simp,iteF ?_⟩;exact jy _ _ ⟨Y,Y⟩
    rintro σ _ ⟨rfl,rfl⟩;refine ⟨_,Y,_,Y,_,Y,tl,Y,⟨_,SqL.of (ha.low _ _ hT)⟩,λD hD=>?_⟩;have hDt:D≠tl:=λe=>by rw [e,ha.low _ _ hT] at hD; cases hD
    refine Yl (xs:=(jr :: nmL L).map V.str) (λi σ H6=>∃ (v:Option V),σ=[v]/\Same HX H6/\H6 D=some (.lst ((((jr :: nmL L).take i).filter λz=>decide (z≠jr)).map V.str))) ⟨none,Y,Same.new hD,Zc⟩ ?_ ?_ ?_
    · rintro i σ H6 _ ⟨v,rfl,s6,_⟩
      exact SqL.of (s6 _ _ (ha.low _ _ hT))
    · rintro i y σ H6 hy ⟨v,rfl,s6,h6⟩
      obtain ⟨z,hz,rfl⟩:=Z6 hy;have et:(jr :: nmL L).take (i + 1)=(jr :: nmL L).take i ++ [z]:=by rw [Aw,hz]; rfl
      dsimp only [Zj];refine ⟨_,Y,Y,_,Y,?_⟩;refine ite2 (λq=>?_) (λq=>?_)
      · have c:z≠jr:=λc=>by
          have q:(!decide (V.str z=V.str jr))=true:=q;rw [c] at q;simp at q
        refine ⟨_,Y,_,h6,?_,_,Y,Same.add s6 hD,?_⟩
        · have q1:=length_filter_le (λz=>decide (z≠jr)) ((jr :: nmL L).take i)
          have q2:=length_take_le' i (jr :: nmL L);have q3:(jr :: nmL L).length<=2:=by unfold nmL; rw [length_cons,Ab]; lia
          rw [Ab,sizeLine_eq];lia
        · rw [Zc,et,filter_append,filter_cons,if_pos (decide_eq_true c),Aj]
          rfl
      · have c:z=jr:=by
          have q:¬ (!decide (V.str z=V.str jr))=true:=q;by_cases c:z=jr
          · exact c
          · exact absurd (by rw [decide_eq_false (λp=>c (by injection p))]; rfl) q
        refine ⟨_,Y,s6,?_⟩;rw [h6,et,filter_append,filter_cons,if_neg (by rw [decide_eq_true_eq]; exact λq=>q c)];simp
    · rintro σ H6 ⟨v,rfl,s6,h6⟩
      rw [Ab,take_length,filter_cons,if_neg (d:)] at h6;have ef:(nmL L).filter (λz=>decide (z≠jr))=nmL L:=filter_eq_self.mpr λz hz=>by
        obtain ⟨y,hy,rfl⟩:=qf hz
        exact decide_eq_true (hLo y hy)
      rw [ef] at h6;refine ⟨Az _,λc hc=>?_⟩;have s7:=Same.new (o:=.lst []) hc;have s8:=s6.trans s7;refine ⟨x,nl,D,c,_,_,_,_,nv dr,nmL L,[],Z9,Y,ha.same s8,gd64 td h64 sw pls,λy hy=>absurd hy not_mem_nil,mem_cons_self,s8 _ _ (ha.low _ _ hN),s7 _ _ h6,Zc,λy hy=>⟨⟨λe=>mem_cons_of_mem _ e,λe=>(Ar e).resolve_left (Zam hy nk)⟩,Iff.rfl⟩,λH' s'=>?_⟩;exact k _
end
end KT
open PySem PySem.W PyProof.Rows
namespace PySem.W.Fast
def Z:=True
def tw10906821882591920744:=Z
def tw14550951698414890659:=Z
def tw6175754218228203209:=Z
def tw9006975341872780702:=Z
def tw14098855597183468724:=Z
def tw12438526977552264538:=Z
def tw12608870648171866331:=Z
def tw13490234580419619246:=Z
def tw1020632292503149283:=Z
def tw18427479458781412075:=Z
def tw4208815540554663895:=Z
def tw493405220689476028:=Z
def tw6099494065620706067:=Z
def tw8149610183809587066:=Z
def tw18063542683827847221:=Z
def tw7575976678207366201:=Z
def tw5113909164380267570:=Z
def tw14884346489548795595:=Z
def tw10388967317299613061:=Z
def tw8487283131967180557:=Z
def tw502073556284495094:=Z
def tw13560860396364437912:=Z
def tw2147389763380076200:=Z
def tw5360444394299632141:=Z
def tw18188208880132492769:=Z
def tw5115845182580652964:=Z
def tw6901814583039746383:=Z
def tw13816821342856247732:=Z
def tw9548593245802815982:=Z
def tw13414734978678471405:=Z
def tw14667773633243795038:=Z
def tw10042404150197242959:=Z
def tw12986726480064618634:=Z
def tw15270986759738434522:=Z
def tw12835772994208113874:=Z
def tw8548267504485624977:=Z
def tw4702790333059091010:=Z
def tw16703415895303927010:=Z
def tw13474630323823518440:=Z
def tw14457030888966736607:=Z
def tw14793074403661438541:=Z
def tw14002887221324749685:=Z
def tw500002091245297096:=Z
def tw14380162027240094255:=Z
def tw6039862414572241499:=Z
def tw13903695101605401203:=Z
def tw16045616747784794941:=Z
def tw12120342914740041006:=Z
def tw12761086773233383462:=Z
def tw2152057701194155120:=Z
def tw4148278671377314623:=Z
def tw14937286183014334425:=Z
def tw17487988455248102593:=Z
def tw3563453713726276472:=Z
def tw1403858859025074234:=Z
def tw7305223139573465388:=Z
def tw15492741559854732698:=Z
def tw12628110568354351194:=Z
def tw4372484644179244398:=Z
def tw5773047234365144983:=Z
def tw18200365460274521490:=Z
def tw11950627979494132858:=Z
def tw2974048731975727001:=Z
def tw16692092351410339612:=Z
def tw4768777277561055227:=Z
def tw17188116418158325074:=Z
def tw2059331247940680077:=Z
def tw14501808071306334743:=Z
def tw15670258211576571274:=Z
def tw13921174348163853794:=Z
def tw16654483002957189129:=Z
def tw10041145029977097760:=Z
def tw2882850402995771502:=Z
def tw855822227902337508:=Z
def tw11879352843166396453:=Z
def tw2312805849945093979:=Z
def tw15526708830489774852:=Z
def tw1502633330250952570:=Z
def tw12606385926465662852:=Z
def tw6385683614606254344:=Z
def tw762837511706608445:=Z
def tw1300011228369220407:=Z
def tw9395820014620230728:=Z
def tw5725864756282017490:=Z
def tw1779489574854488469:=Z
def tw16883391217048549359:=Z
def tw7181864565199208246:=Z
def tw6769516316983709648:=Z
def tw2729195751474880117:=Z
def tw18257449321493680990:=Z
def tw11340931367068489888:=Z
def tw3397776801652057122:=Z
def tw9913644405643607444:=Z
def tw4146299447293075660:=Z
def tw1827265697988263948:=Z
def tw17775744581005926379:=Z
def tw4853705657807157792:=Z
def tw8380155958463833041:=Z
def tw15165170007198022444:=Z
def tw17196855559963357879:=Z
def tw2579788804632618418:=Z
def tw5245952974099520873:=Z
def tw2407057944493814692:=Z
def tw4457623459477791116:=Z
def tw10015220821400780432:=Z
def tw9788724957525420621:=Z
def tw8530793265203157823:=Z
def tw7393683193480149128:=Z
def tw10339579613098997568:=Z
def tw9947623894822589360:=Z
def tw2173154134070248515:=Z
def tw9701886022142685315:=Z
def tw15507612399926106208:=Z
def tw16189024997557492585:=Z
def tw11181547134403547915:=Z
def tw1115280802579919931:=Z
def tw12806368134401010101:=Z
def tw13294073237355631526:=Z
def tw16871157501969719407:=Z
def tw8735782979350827150:=Z
def tw5863000230928613351:=Z
def tw10566383720079743561:=Z
def tw12790148297775528242:=Z
def tw5569530217347472818:=Z
def tw12773456715729780862:=Z
def tw12835058130647091999:=Z
def tw12166123311999305909:=Z
def tw8981790351848690301:=Z
def tw2605093707604859250:=Z
def tw16205771287864754575:=Z
def tw12626572947736890278:=Z
def tw6704959726111337292:=Z
def tw14038713367789487294:=Z
def tw3114555926400498113:=Z
def tw3373219565505133708:=Z
def tw16941467379439122659:=Z
def tw14236012971960509183:=Z
def tw2307039259116553297:=Z
def tw7983822995402722220:=Z
def tw11863998806993750003:=Z
def tw8991498313586527437:=Z
def tw16850150125339897097:=Z
def tw1465918625179385709:=Z
def tw14389079474509260860:=Z
def tw686111536561936105:=Z
def tw7928866989900633889:=Z
def tw936806482716071702:=Z
def tw11790837701585774197:=Z
def tw15869574553780872786:=Z
def tw2283467913216897993:=Z
def tw17959906605832412048:=Z
def tw13846803971810314830:=Z
def tw6006331200083613128:=Z
def tw5496664627781915338:=Z
def tw10846552475667047550:=Z
def tw15955735969793676849:=Z
def tw936057863315713207:=Z
def tw8778318749292569465:=Z
def tw12317901888487098122:=Z
def tw13966082580019098260:=Z
def tw10906584754957235202:=Z
def tw8274975581114448981:=Z
def tw13906778974925239304:=Z
def tw8006309115436084778:=Z
def tw9302380731294239283:=Z
def tw1830751020096185029:=Z
def tw13968693403813449788:=Z
def tw9919522066961707071:=Z
def tw173910070438625884:=Z
def tw1704312176471979577:=Z
def tw10545874869835996489:=Z
def tw9742727014053077745:=Z
def tw16663887543187381258:=Z
def tw13511149820897914941:=Z
def tw7935421190878632315:=Z
def tw15561063564395814380:=Z
def tw14021937712331585202:=Z
def tw1530282101179085208:=Z
def tw1224591696211718800:=Z
def tw9297896142946358355:=Z
def tw2108167263181502775:=Z
def tw8017844592949238274:=Z
def tw9265464105679923140:=Z
def tw2239545508839729385:=Z
def tw4585441312940058282:=Z
def tw13445812527040308095:=Z
def tw15199234195883687475:=Z
def tw3916231360223461818:=Z
def tw17383817116312512420:=Z
def tw14429537226654684058:=Z
def tw2755994462604813755:=Z
def tw4673559091952653191:=Z
def tw14387810605675813036:=Z
def tw2302341727505305544:=Z
def tw6310278749433646732:=Z
def tw15928127380002567039:=Z
def tw12912196029933548954:=Z
def tw1733602751488123678:=Z
def tw5738164738577821608:=Z
def tw10324805364052870619:=Z
def tw4400219096414817562:=Z
def tw15616269499637477295:=Z
def tw4913452759053625397:=Z
def tw5049056352210748078:=Z
def tw14051734078275858573:=Z
def tw14084967016492238584:=Z
def tw5867594770915703643:=Z
def tw1010535027055680162:=Z
def tw2870349802155500923:=Z
def tw6662805717744022736:=Z
def tw566462994366968869:=Z
def tw9878347164193539522:=Z
def tw17450225261443030188:=Z
def tw10981646154233296560:=Z
def tw14780326840250979007:=Z
def tw15675862606485582762:=Z
def tw11380188864747849629:=Z
def tw3623623924489377891:=Z
def tw11915605853006467582:=Z
def tw14292404346760728757:=Z
def tw12071303861575025016:=Z
def tw7597796723149007420:=Z
def tw11174585428280442580:=Z
def tw6190589314789421377:=Z
def tw15339309186679715820:=Z
def tw10767680293003863469:=Z
def tw2130625937258363127:=Z
def tw10563351525662758065:=Z
def tw1474898167585527423:=Z
def tw9168338730882590556:=Z
def tw792127171482998749:=Z
def tw12006813984706341462:=Z
def tw10282009578861325674:=Z
def tw11956352375023625325:=Z
def tw4279627526001406267:=Z
def tw13812695168089117611:=Z
def tw14959528247625152792:=Z
def tw10774617521798583458:=Z
def tw6085385552504335740:=Z
def tw9902195003945273385:=Z
def tw1023790984207910684:=Z
def tw17509894732069543673:=Z
def tw16543796280210010551:=Z
def tw10198034859146208596:=Z
def tw17544828490520143961:=Z
def tw3365158977306868176:=Z
def tw18344110586329928981:=Z
def tw9915049724722053439:=Z
def tw11462186189978961436:=Z
def tw10215605018175440939:=Z
def tw3048041523804153890:=Z
def tw11157157097057728004:=Z
def tw2041667011069587928:=Z
def tw3141604520519972675:=Z
def tw4101876654445138697:=Z
def tw1880004429129987946:=Z
def tw4748004315254660868:=Z
def tw5623122783076033459:=Z
def tw6257233859231042503:=Z
def tw1501334656582925297:=Z
def tw10507069053358824080:=Z
def tw12770488053635397984:=Z
def tw15048835650236104781:=Z
def tw12164533261766209629:=Z
def tw15678524431898076106:=Z
def tw18202528034438779381:=Z
def tw8220856751161179472:=Z
def tw8961875586122131745:=Z
def tw17161382435286732988:=Z
def tw14094272964658198811:=Z
def tw13837281155848213255:=Z
def tw5961281590818511647:=Z
def tw17078943845268935249:=Z
def tw16640536200649414052:=Z
def tw6511919145083831083:=Z
def tw1057373739838355427:=Z
def tw16846070497195780403:=Z
def tw15408976289320323756:=Z
def tw15943931210076195499:=Z
def tw15847117749770941021:=Z
def tw15582174410727052355:=Z
def tw5823286084098282798:=Z
def tw18117899637463665036:=Z
def tw6103665092883236413:=Z
def tw4630444518906226756:=Z
def tw12727994672045964750:=Z
def tw4684512675609523497:=Z
def tw7559512516604975203:=Z
def tw16502651320827497065:=Z
def tw10398159052023266156:=Z
def tw13801166181768266348:=Z
def tw5408460285998725206:=Z
def tw1648769099218406948:=Z
def tw10820066878575869919:=Z
def tw11806893568646286177:=Z
def tw6304348330615761027:=Z
def tw13572963588044937509:=Z
def tw138961043866769571:=Z
def tw8807931638500445181:=Z
def tw5006183257333727221:=Z
def tw16821079245384474658:=Z
def tw10609996445622524703:=Z
def tw11863260079003902078:=Z
def tw8062804095759155121:=Z
def tw5080944581229860018:=Z
def tw17615957116998955272:=Z
def tw16935748064059920305:=Z
def tw11860556740424390371:=Z
def tw6691781137442879279:=Z
def tw5852420058196386591:=Z
def tw3580939090801337503:=Z
def tw14832375392330257685:=Z
def tw14302468151695960787:=Z
def tw11546996159554126702:=Z
def tw5416162791417943033:=Z
def tw3859404180234123371:=Z
def tw9650587542326986494:=Z
def tw17697878515356604266:=Z
def tw12750090040891892371:=Z
def tw13484158158320249941:=Z
def tw12848075547927178379:=Z
def tw1800778999641620269:=Z
def tw2808302736093049294:=Z
def tw2205637532407753140:=Z
def tw9209266750535946245:=Z
def tw7250133746529494852:=Z
def tw12011919961291575520:=Z
def tw2477006721978097843:=Z
def tw7607049999424122028:=Z
def tw9754462576696128964:=Z
def tw2364493597614390141:=Z
def tw4794825733993972125:=Z
def tw7644136820387226438:=Z
def tw6077084686098242303:=Z
def tw5342661833770532957:=Z
def tw4502813462846465823:=Z
def tw4466164310504747589:=Z
def tw355534293951219482:=Z
def tw3107886346642162104:=Z
def tw2988046312829617698:=Z
def tw2637605839490561565:=Z
def tw2181057062979438732:=Z
def tw18259111485626503469:=Z
def tw17416856744109346923:=Z
def tw16698720325780417557:=Z
def tw14013635804364125587:=Z
def tw13061560033462634523:=Z
def tw11549387315109676855:=Z
def tw3882569410157660295:=Z
def tw11535925824587329480:=Z
def tw12541489339415552141:=Z
def tw14196100929359755568:=Z
def tw5378024879775238978:=Z
def tw1859862774990288328:=Z
def tw4889952327684274310:=Z
def tw284905347122190420:=Z
def tw11653324818620600749:=Z
def tw385779729510699951:=Z
def tw1429263313391972926:=Z
def tw10796794261041329523:=Z
def tw915944849758349229:=Z
def tw8804398154968831539:=Z
def tw2474461606277851561:=Z
def tw17439256394290789202:=Z
def tw8940339221426186076:=Z
def tw17341872741735548650:=Z
def tw13581942461223071218:=Z
def tw11612494676494178073:=Z
def tw2090070054779714644:=Z
def tw12638575226426617694:=Z
def tw5588161988376475001:=Z
def tw14728856193461961034:=Z
def tw13194894273985375888:=Z
def tw8644040067881406268:=Z
def tw6019765720029737578:=Z
def tw1687365181009230714:=Z
def tw15020578599830201310:=Z
def tw1719821731742346224:=Z
def tw11139827857088612891:=Z
def tw16619228757526500777:=Z
def tw6365171694129944483:=Z
def tw6758571177974713900:=Z
def tw8345787304692129980:=Z
def tw6864961654930001936:=Z
def tw3932716280862823278:=Z
def tw16154218193329534955:=Z
def tw16391875697231950752:=Z
def tw4596275800438294704:=Z
def tw14415258176247350022:=Z
def tw2823062053958127396:=Z
def tw12867493384728375864:=Z
def tw18276857849690637891:=Z
def tw17617260023420926888:=Z
def tw7710642461372726302:=Z
def tw11000738728875490581:=Z
def tw8502039346036001406:=Z
def tw16110894933853202917:=Z
def tw14822744453490337478:=Z
def tw14307288462701829362:=Z
def tw13638652216449819963:=Z
def tw13339424480526212698:=Z
def tw15716408599165293811:=Z
def tw6245546688914516819:=Z
def tw17395634740247439619:=Z
def tw789547154173637693:=Z
def tw5034044552908401331:=Z
def tw15668413928148006047:=Z
def tw8205061399086326677:=Z
def tw8838976318531486255:=Z
def tw2261610746919159656:=Z
def tw7210372420077267017:=Z
def tw15119335959992322675:=Z
def tw9873413043992140314:=Z
def tw8777990415030282340:=Z
def tw2979727716172411896:=Z
def tw17676708632268748023:=Z
def tw12837162951070850933:=Z
def tw12380256316394171388:=Z
def tw8240427296032501648:=Z
def tw17761823966903563714:=Z
def tw12785406242546731251:=Z
def tw2570780033135727495:=Z
def tw7517378140065916992:=Z
def tw16884454934400334669:=Z
def tw9146864691625789679:=Z
def tw8458507903816092724:=Z
def tw4106174173094078645:=Z
def tw9711816976499777683:=Z
def tw1692268258836674323:=Z
def tw16205327858197990844:=Z
def tw9564729392742322899:=Z
def tw8513138614476255216:=Z
def tw5175849752279307541:=Z
def tw15365315455200003707:=Z
def tw15113686391745587222:=Z
def tw12613560695079290819:=Z
def tw11056712845004905011:=Z
def tw9339588738352957599:=Z
def tw4732569248145192134:=Z
def tw14688334498884952212:=Z
def tw10716833803910173086:=Z
def tw10533289142251226280:=Z
def tw1854975003284245733:=Z
def tw11651370181426350533:=Z
def tw4929301052264505857:=Z
def tw15412724461863502360:=Z
def tw12753119112606858671:=Z
def tw5607309816745822723:=Z
def tw2130136342396811760:=Z
def tw13873854474864617533:=Z
def tw4678245875154384225:=Z
def tw3882342196094186270:=Z
def tw16841011023659303287:=Z
def tw15959517887598909009:=Z
def tw1431614175059929159:=Z
def tw5110866095453120813:=Z
def tw6147116941485439062:=Z
def tw12534296023844997136:=Z
def tw748543533008176662:=Z
def tw3624460155858628915:=Z
def tw13585308298281046808:=Z
def tw2131925453385056023:=Z
def tw16748258425055609284:=Z
def tw12231503400976455530:=Z
def tw9638517702426590352:=Z
def tw6524823963662571571:=Z
def tw2999938005272120208:=Z
def tw1627316446234592165:=Z
def tw877230111997863015:=Z
def tw17827277172750947130:=Z
def tw7800401360875219146:=Z
def tw6246461130051942922:=Z
def tw3745177509691198264:=Z
def tw16674559697011146356:=Z
def tw8104684578840662962:=Z
def tw1583780257736206688:=Z
def tw14349833305455718340:=Z
def tw10598418268301373378:=Z
def tw9552355866135941026:=Z
def tw7854900988806552316:=Z
def tw7474966696513252762:=Z
def tw2846183182257805635:=Z
def tw1987119412722552654:=Z
def tw12891976011521101881:=Z
def tw10515259720061731777:=Z
def tw5830660642603843490:=Z
def tw5440603770200595922:=Z
def tw5349593696962269420:=Z
def tw4936321038803667332:=Z
def tw13128405914702093820:=Z
def tw2380752575647172359:=Z
def tw4106635212578873538:=Z
def tw17799629227254980686:=Z
def tw1743764994063926229:=Z
def tw11636914410992441691:=Z
def tw14172123631584772397:=Z
def tw16878715833324975157:=Z
def tw13427695119720530587:=Z
def tw13015183184352812325:=Z
def tw16991820285955943837:=Z
end PySem.W.Fast
set_option maxRecDepth 100000 in
set_option maxHeartbeats 0 in
theorem PySem.Challenge.cw_tentloops_k64_hall_strangers_holds : PySem.Challenge.rw_tentloops_k64_hall_strangers.Holds := by
 w_on; o_law; k_head; (case hw=>w_witness2)
 k_fill
 refine L2.walk_r (l:=PySem.Challenge.rw_tentloops_k64_hall_strangers) (k:=14) (spl:=KT.sp_law) rfl rfl ⟨rfl,by decide,by decide⟩ (fun w h Y=>PySem.W.kIn_of Y) (fun K H a ns hl hS=>KT.sp_law_start hl hS) ?F
 case F =>
  intro w mg fa h KX G hmg
  have T:∃ t,KT.Txt w (L2.KOf KX) mg t:=by
   dsimp only [L2.KOf]
   refine' ⟨⟨_,_,_,_,_,_,_,_,_,_,_,_,_,_,_,_,_,_,_,_,_,_,_,_,_,_,_,_,_,_,_,_,_,_,_,_,_,_,_,_,_,_,_,_,_,_,_,_,_,_,_,_,_,_,_,_,_,_,_,_,_,_,_,_,_,_,_,_,_,_,_,_,_,_,_,_,_,_,_,_,_,_,_,_,_,_,_,_,_,_,_,_,_,_,_,_,_,_,_,_,_,_,_,_,_,_,_,_,_,_,_,_,_,_,_,_,_,_,_,_,_,_,_,_,_,_,_,_,_,_,_,_,_,_,_,_,_,_,_,_,_,_,_,_,_,_,_,_,_,_,_,_,_,_,_,_,_,_,_,_,_,_,_,_,_,_,_,_,_,_,_,_,_,_,_,_⟩,⟨mg_of KX G ?_,⟨?_,?_,?_,?_⟩,?_,?_,?_,?_,mg_of KX G ?_,⟨?_,?_,?_,?_⟩,?_,?_,?_,?_,mg_of KX G ?_,⟨?_,?_,?_,?_⟩,?_,?_,?_,?_,KT.FT.of KX G (KT.ba1 (fun _ _ _ _ _ _ _ _=>rfl) rfl) ?_ ?_ ?_ ?_,KT.FT.of KX G (KT.ba1 (fun _ _ _ _ _ _ _ _=>rfl) rfl) ?_ ?_ ?_ ?_,KT.FT.of KX G (KT.ba1 (fun _ _ _ _ _ _ _ _=>rfl) rfl) ?_ ?_ ?_ ?_,KT.FT.of KX G (KT.ba1 (fun _ _ _ _ _ _ _ _=>rfl) rfl) ?_ ?_ ?_ ?_,KT.FT.of KX G (KT.ba2 (fun _ _ _ _ _ _ _ _ _=>rfl) rfl) ?_ ?_ ?_ ?_,KT.FM.of (KT.ba2 (fun _ _ _ _ _ _ _ _ _=>rfl) rfl) ?_ ?_ ?_ ?_ ?_,KT.FM.of (KT.ba1 (fun _ _ _ _ _ _ _ _=>rfl) rfl) ?_ ?_ ?_ ?_ ?_,KT.FM.of (KT.ba1 (fun _ _ _ _ _ _ _ _=>rfl) rfl) ?_ ?_ ?_ ?_ ?_,KT.FM.of (KT.ba1 (fun _ _ _ _ _ _ _ _=>rfl) rfl) ?_ ?_ ?_ ?_ ?_,KT.FM.of (KT.ba2 (fun _ _ _ _ _ _ _ _ _=>rfl) rfl) ?_ ?_ ?_ ?_ ?_,KT.FM.of (KT.ba2 (fun _ _ _ _ _ _ _ _ _=>rfl) rfl) ?_ ?_ ?_ ?_ ?_,KT.FM.of (KT.ba2 (fun _ _ _ _ _ _ _ _ _=>rfl) rfl) ?_ ?_ ?_ ?_ ?_,KT.FM.of (KT.ba2 (fun _ _ _ _ _ _ _ _ _=>rfl) rfl) ?_ ?_ ?_ ?_ ?_,KT.FM.of (KT.ba2 (fun _ _ _ _ _ _ _ _ _=>rfl) rfl) ?_ ?_ ?_ ?_ ?_,KT.FM.of (KT.ba2 (fun _ _ _ _ _ _ _ _ _=>rfl) rfl) ?_ ?_ ?_ ?_ ?_,KT.FT.of KX G (KT.ba2 (fun _ _ _ _ _ _ _ _ _=>rfl) rfl) ?_ ?_ ?_ ?_,KT.FT.of KX G (KT.ba3 (fun _ _ _ _ _ _ _ _ _ _=>rfl) rfl) ?_ ?_ ?_ ?_,KT.FT.of KX G (KT.ba2 (fun _ _ _ _ _ _ _ _ _=>rfl) rfl) ?_ ?_ ?_ ?_,KT.FT.of KX G (KT.ba2 (fun _ _ _ _ _ _ _ _ _=>rfl) rfl) ?_ ?_ ?_ ?_,KT.FT.of KX G (KT.ba2 (fun _ _ _ _ _ _ _ _ _=>rfl) rfl) ?_ ?_ ?_ ?_,KT.FT.of KX G (KT.ba2 (fun _ _ _ _ _ _ _ _ _=>rfl) rfl) ?_ ?_ ?_ ?_,KT.FT.of KX G (KT.ba1 (fun _ _ _ _ _ _ _ _=>rfl) rfl) ?_ ?_ ?_ ?_,KT.FT.of KX G (KT.ba2 (fun _ _ _ _ _ _ _ _ _=>rfl) rfl) ?_ ?_ ?_ ?_,KT.FT.of KX G (KT.ba3 (fun _ _ _ _ _ _ _ _ _ _=>rfl) rfl) ?_ ?_ ?_ ?_,KT.FT.of KX G (KT.ba3 (fun _ _ _ _ _ _ _ _ _ _=>rfl) rfl) ?_ ?_ ?_ ?_,KT.FT.of KX G (KT.ba2 (fun _ _ _ _ _ _ _ _ _=>rfl) rfl) ?_ ?_ ?_ ?_,KT.FT.of KX G (KT.ba2 (fun _ _ _ _ _ _ _ _ _=>rfl) rfl) ?_ ?_ ?_ ?_,KT.FT.of KX G (KT.ba2 (fun _ _ _ _ _ _ _ _ _=>rfl) rfl) ?_ ?_ ?_ ?_,KT.FT.of KX G (KT.ba2 (fun _ _ _ _ _ _ _ _ _=>rfl) rfl) ?_ ?_ ?_ ?_,KT.FT.of KX G (KT.ba3 (fun _ _ _ _ _ _ _ _ _ _=>rfl) rfl) ?_ ?_ ?_ ?_,KT.FT.of KX G (KT.ba2 (fun _ _ _ _ _ _ _ _ _=>rfl) rfl) ?_ ?_ ?_ ?_,KT.FT.of KX G (KT.ba3 (fun _ _ _ _ _ _ _ _ _ _=>rfl) rfl) ?_ ?_ ?_ ?_,KT.FT.of KX G (KT.ba2 (fun _ _ _ _ _ _ _ _ _=>rfl) rfl) ?_ ?_ ?_ ?_,KT.FT.of KX G (KT.ba2 (fun _ _ _ _ _ _ _ _ _=>rfl) rfl) ?_ ?_ ?_ ?_,KT.FT.of KX G (KT.ba2 (fun _ _ _ _ _ _ _ _ _=>rfl) rfl) ?_ ?_ ?_ ?_,KT.FT.of KX G (KT.ba2 (fun _ _ _ _ _ _ _ _ _=>rfl) rfl) ?_ ?_ ?_ ?_,KT.FT.of KX G (KT.ba1 (fun _ _ _ _ _ _ _ _=>rfl) rfl) ?_ ?_ ?_ ?_,KT.FT.of KX G (KT.ba1 (fun _ _ _ _ _ _ _ _=>rfl) rfl) ?_ ?_ ?_ ?_,KT.FT.of KX G (KT.ba2 (fun _ _ _ _ _ _ _ _ _=>rfl) rfl) ?_ ?_ ?_ ?_,KT.FT.of KX G (KT.ba2 (fun _ _ _ _ _ _ _ _ _=>rfl) rfl) ?_ ?_ ?_ ?_,KT.FT.of KX G (KT.ba2 (fun _ _ _ _ _ _ _ _ _=>rfl) rfl) ?_ ?_ ?_ ?_,KT.FT.of KX G (KT.ba3 (fun _ _ _ _ _ _ _ _ _ _=>rfl) rfl) ?_ ?_ ?_ ?_,KT.FT.of KX G (KT.ba2 (fun _ _ _ _ _ _ _ _ _=>rfl) rfl) ?_ ?_ ?_ ?_,KT.FT.of KX G (KT.ba1 (fun _ _ _ _ _ _ _ _=>rfl) rfl) ?_ ?_ ?_ ?_,KT.FT.of KX G (KT.ba1 (fun _ _ _ _ _ _ _ _=>rfl) rfl) ?_ ?_ ?_ ?_,KT.FT.of KX G (KT.ba1 (fun _ _ _ _ _ _ _ _=>rfl) rfl) ?_ ?_ ?_ ?_,KT.FT.of KX G (KT.ba1 (fun _ _ _ _ _ _ _ _=>rfl) rfl) ?_ ?_ ?_ ?_,KT.FM.of (KT.ba5 (fun _ _ _ _ _ _ _ _ _ _ _ _=>rfl) rfl) ?_ ?_ ?_ ?_ ?_,KT.FT.of KX G (KT.ba3 (fun _ _ _ _ _ _ _ _ _ _=>rfl) rfl) ?_ ?_ ?_ ?_,KT.FT.of KX G (KT.ba2 (fun _ _ _ _ _ _ _ _ _=>rfl) rfl) ?_ ?_ ?_ ?_,KT.FT.of KX G (KT.ba2 (fun _ _ _ _ _ _ _ _ _=>rfl) rfl) ?_ ?_ ?_ ?_,KT.FT.of KX G (KT.ba1 (fun _ _ _ _ _ _ _ _=>rfl) rfl) ?_ ?_ ?_ ?_,KT.FT.of KX G (KT.ba1 (fun _ _ _ _ _ _ _ _=>rfl) rfl) ?_ ?_ ?_ ?_,KT.FM.of (KT.ba2 (fun _ _ _ _ _ _ _ _ _=>rfl) rfl) ?_ ?_ ?_ ?_ ?_,KT.FM.of (KT.ba3 (fun _ _ _ _ _ _ _ _ _ _=>rfl) rfl) ?_ ?_ ?_ ?_ ?_,KT.FM.of (KT.ba3 (fun _ _ _ _ _ _ _ _ _ _=>rfl) rfl) ?_ ?_ ?_ ?_ ?_,KT.FM.of (KT.ba3 (fun _ _ _ _ _ _ _ _ _ _=>rfl) rfl) ?_ ?_ ?_ ?_ ?_,KT.FM.of (KT.ba2 (fun _ _ _ _ _ _ _ _ _=>rfl) rfl) ?_ ?_ ?_ ?_ ?_,KT.FM.of (KT.ba2 (fun _ _ _ _ _ _ _ _ _=>rfl) rfl) ?_ ?_ ?_ ?_ ?_,KT.FM.of (KT.ba2 (fun _ _ _ _ _ _ _ _ _=>rfl) rfl) ?_ ?_ ?_ ?_ ?_,KT.FM.of (KT.ba2 (fun _ _ _ _ _ _ _ _ _=>rfl) rfl) ?_ ?_ ?_ ?_ ?_,KT.FM.of (KT.ba2 (fun _ _ _ _ _ _ _ _ _=>rfl) rfl) ?_ ?_ ?_ ?_ ?_,KT.FM.of (KT.ba3 (fun _ _ _ _ _ _ _ _ _ _=>rfl) rfl) ?_ ?_ ?_ ?_ ?_,KT.FT.of KX G (KT.ba2 (fun _ _ _ _ _ _ _ _ _=>rfl) rfl) ?_ ?_ ?_ ?_,KT.FT.of KX G (KT.ba2 (fun _ _ _ _ _ _ _ _ _=>rfl) rfl) ?_ ?_ ?_ ?_,KT.FT.of KX G (KT.ba3 (fun _ _ _ _ _ _ _ _ _ _=>rfl) rfl) ?_ ?_ ?_ ?_,KT.FT.of KX G (KT.ba3 (fun _ _ _ _ _ _ _ _ _ _=>rfl) rfl) ?_ ?_ ?_ ?_,KT.FT.of KX G (KT.ba1 (fun _ _ _ _ _ _ _ _=>rfl) rfl) ?_ ?_ ?_ ?_,KT.FT.of KX G (KT.ba2 (fun _ _ _ _ _ _ _ _ _=>rfl) rfl) ?_ ?_ ?_ ?_,KT.FT.of KX G (KT.ba3 (fun _ _ _ _ _ _ _ _ _ _=>rfl) rfl) ?_ ?_ ?_ ?_,KT.FT.of KX G (KT.ba2 (fun _ _ _ _ _ _ _ _ _=>rfl) rfl) ?_ ?_ ?_ ?_,KT.FT.of KX G (KT.ba2 (fun _ _ _ _ _ _ _ _ _=>rfl) rfl) ?_ ?_ ?_ ?_,KT.FT.of KX G (KT.ba4 (fun _ _ _ _ _ _ _ _ _ _ _=>rfl) rfl) ?_ ?_ ?_ ?_,KT.FT.of KX G (KT.ba4 (fun _ _ _ _ _ _ _ _ _ _ _=>rfl) rfl) ?_ ?_ ?_ ?_,KT.FT.of KX G (KT.ba2 (fun _ _ _ _ _ _ _ _ _=>rfl) rfl) ?_ ?_ ?_ ?_,KT.FT.of KX G (KT.ba5 (fun _ _ _ _ _ _ _ _ _ _ _ _=>rfl) rfl) ?_ ?_ ?_ ?_,KT.FT.of KX G (KT.ba1 (fun _ _ _ _ _ _ _ _=>rfl) rfl) ?_ ?_ ?_ ?_,⟨?_,?_,?_,?_⟩,⟨?_,?_,?_,?_⟩,⟨?_,?_,?_,?_⟩,mg_of KX G ?_,mg_of KX G ?_,mg_of KX G ?_,mg_of KX G ?_,mg_of KX G ?_,mg_of KX G ?_,mg_of KX G ?_,mg_of KX G ?_,mg_of KX G ?_,L2.kdict_mk2 ?_ ?_ ?_ (by decide) ?_,fun s u=>.of_eq rfl,mg_none_of KX G ?_,mg_none_of KX G ?_,mg_none_of KX G ?_,mg_none_of KX G ?_,mg_none_of KX G ?_,mg_none_of KX G ?_,mg_none_of KX G ?_,mg_none_of KX G ?_,mg_none_of KX G ?_,mg_none_of KX G ?_,mg_none_of KX G ?_,mg_none_of KX G ?_,mg_none_of KX G ?_,mg_none_of KX G ?_,mg_none_of KX G ?_,mg_none_of KX G ?_,mg_none_of KX G ?_,mg_none_of KX G ?_,mg_of KX G ?_,⟨?_⟩,mg_of KX G ?_,⟨?_⟩,mg_of KX G ?_,⟨?_⟩,mg_of KX G ?_,⟨?_⟩,mg_of KX G ?_,⟨?_⟩,mg_of KX G ?_,⟨?_⟩,mg_of KX G ?_,⟨?_⟩,mg_of KX G ?_,⟨?_⟩,mg_of KX G ?_,⟨?_⟩,mg_of KX G ?_,?_,?_,?_⟩⟩
   any_goals first | k_is | k_exc | rfl | kernel_rfl
  obtain ⟨t,T⟩:=T
  have e0:=hmg.symm.trans T.iU.g
  cases e0
  refine' ⟨_,?b,fun base kb nb=>KT.ok_law T⟩
  exact T.bl
#print axioms PySem.Challenge.cw_tentloops_k64_hall_strangers_holds
