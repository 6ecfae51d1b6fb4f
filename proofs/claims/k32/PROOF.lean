import PyProof.Rows.All
import Wide.All
import OpenK.AllK
import Wide.FinOn
import Lean
import PyProof.EqAt
import PyProof.EqKinds
import PyProof.TupleCall
import PySem.Challenge.RW_tentloops_k32_traced_threads
set_option Elab.async false
set_option linter.all false
set_option maxRecDepth 100000
universe u v
theorem Aa{α:Type u}{i:Nat}{a:α}{l:List α}:l[i]?=some a->∃ h:i<l.length,l[i]=a:=List.getElem?_eq_some_iff.mp
theorem Ab{α:Type u}{β:Type v}{as:List α}(f:α->β):(as.map f).length=as.length:=List.length_map f
theorem Ac{α:Type u}{l:List α}{i:Nat}(h:i<l.length):l[i]?=some l[i]:=List.getElem?_eq_getElem h
theorem Ad{α:Type u}{l:List α}{i:Nat}{a:α}:l.getD i a=l[i]?.getD a:=List.getD_eq_getElem?_getD
theorem Ae{α:Type u}{as bs:List α}:(as++bs).length=as.length+bs.length:=List.length_append
theorem Af{α:Type u}{a b:α}:a∈[b]->a=b:=List.mem_singleton.mp
theorem Ag{n m k:Nat}:n<m->m<=k->n<k:=Nat.lt_of_lt_of_le
theorem Ah{α:Type u}{β:Type v}{f:α->β}{l:List α}{i:Nat}:(l.map f)[i]?=(l[i]?).map f:=List.getElem?_map
theorem Ai{α:Type u}{i:Nat}{l:List α}:(l.take i).length=min i l.length:=List.length_take
theorem Aj{α:Type u}{β:Type v}{f:α->β}{l₁ l₂:List α}:(l₁++l₂).map f=l₁.map f++l₂.map f:=List.map_append
theorem Ak{h:PySem.Heap}{a:PySem.Addr}{o':PySem.Obj}(o:PySem.Obj)(e:h.get? a=some o'):(h.push o).get? a=some o':=PySem.Heap.get?_push_of_some o e
theorem Al{α β:Type}{M:PySem.Model}{A:PySem.Around}{E:PySem.Value->PySem.Shared->Prop}{s:PySem.Shared}{m:PySem.Sem α}{f:α->PySem.Sem β}{Q:β->PySem.Shared->Prop}(h:PySem.wpAny M A m (λa s'=>PySem.wpAny M A (f a) Q E s') E s):PySem.wpAny M A (m>>=f) Q E s:=PySem.wpAny_bind h
set_option maxHeartbeats 4000000
namespace L2
open PySem PySem.Spec PyProof.Rows
noncomputable abbrev Key:=Sum Int Str
noncomputable def Ud:Key->Value->Bool
 | .inl k,v=>Value.isInt k v
 | .inr x,v=>Value.isStrOf x v
noncomputable def keyH (w:World):Key->Int
 | .inl k=>hashInt k
 | .inr x=>hashStr w x
theorem Yq:∀ {k:Key} {v:Value},Ud k v=true->(∃ i t,k=Sum.inl i/\v=Value.int i t)\/(∃ x t,k=Sum.inr x/\v=Value.str x t)
 | .inl i,v,h=>by
  obtain ⟨t,e⟩:=Value.isInt_shape (k:=i) (v:=v) h
  exact .inl ⟨i,t,rfl,e⟩
 | .inr x,v,h=>by
  obtain ⟨t,e⟩:=Value.isStrOf_shape (x:=x) (v:=v) h
  exact .inr ⟨x,t,rfl,e⟩
theorem Zgh (i:Int) (t:Tok):Ud (.inl i) (.int i t)=true:=by simp [Ud,Value.isInt]
theorem Zgg (x:Str) (t:Tok):Ud (.inr x) (.str x t)=true:=by simp [Ud,Value.isStrOf]
theorem Zlv (a b:Int):decide ((Sum.inl a:Key)=Sum.inl b)=(a == b):=by
 by_cases e:a=b
 ·subst e; simp
 ·have h:¬ (Sum.inl a:Key)=Sum.inl b:=λq=>e (Sum.inl.inj q)
  rw [decide_eq_false h]
  exact (beq_eq_false_iff_ne.mpr e).symm
theorem Zls (a b:Str):decide ((Sum.inr a:Key)=Sum.inr b)=decide (a=b):=by
 by_cases e:a=b
 ·subst e; simp
 ·have h:¬ (Sum.inr a:Key)=Sum.inr b:=λq=>e (Sum.inr.inj q)
  rw [decide_eq_false h,decide_eq_false e]
theorem Zlu (a:Int) (b:Str):decide ((Sum.inl a:Key)=Sum.inr b)=false:=decide_eq_false (λq=>nomatch q)
theorem Zlt (a:Str) (b:Int):decide ((Sum.inr a:Key)=Sum.inl b)=false:=decide_eq_false (λq=>nomatch q)
noncomputable def Z3 (prog:Program) (w:World):PySem.KeyKind prog w Key where
 is:=Ud
 hash:=keyH w
 inj:=λv a b ha hb=>by
  rcases Yq ha with ⟨i,t,rfl,rfl⟩ | ⟨x,t,rfl,rfl⟩
  ·rcases Yq hb with ⟨j,u,rfl,e⟩ | ⟨y,u,rfl,e⟩
   ·injection e with e1 _; rw [e1]
   ·exact nomatch e
  ·rcases Yq hb with ⟨j,u,rfl,e⟩ | ⟨y,u,rfl,e⟩
   ·exact nomatch e
   ·injection e with e1 _; rw [e1]
 byValue:=λk v h=>by
  rcases Yq h with ⟨i,t,rfl,rfl⟩ | ⟨x,t,rfl,rfl⟩ <;> rfl
 pyHash:=λhv h=>by
  rcases Yq hv with ⟨i,t,rfl,rfl⟩ | ⟨x,t,rfl,rfl⟩
  ·exact wpAny_pyHash_int h
  ·exact wpAny_pyHash_str h
 eqBool:=λhu hv h=>by
  rcases Yq hu with ⟨i,t,rfl,rfl⟩ | ⟨x,t,rfl,rfl⟩
  ·rcases Yq hv with ⟨j,u,rfl,rfl⟩ | ⟨y,u,rfl,rfl⟩
   ·rw [Zlv] at h; exact wpAny_eqBool_int h
   ·rw [Zlu] at h; exact SeqAt.EqAt.int_str i t y u _ _ _ _ h
  ·rcases Yq hv with ⟨j,u,rfl,rfl⟩ | ⟨y,u,rfl,rfl⟩
   ·rw [Zlt] at h; exact SeqAt.EqAt.str_int x t j u _ _ _ _ h
   ·rw [Zls] at h; exact wpAny_eqBool_str h
 «strs»:=λk x t v h=>by
  rcases Yq h with ⟨i,u,rfl,e⟩ | ⟨y,u,rfl,e⟩
  ·exact nomatch e
  ·injection e with e1 _
   subst e1
   cases v <;> rfl
theorem Zcf (prog:Program) (w:World) (i:Int) (t:Tok):(Z3 prog w).is (.inl i) (.int i t)=true:=Zgh i t
theorem Zce (prog:Program) (w:World) (x:Str) (t:Tok):(Z3 prog w).is (.inr x) (.str x t)=true:=Zgg x t
inductive V where
 | non | bl (b:Bool) | int (i:Int) | str (x:Str) | byt (b:Array UInt8) | flt (b:UInt64) | ref (a:Addr) | ty (n:String)
 deriving DecidableEq
set_option genInjectivity false
set_option genSizeOf false
noncomputable def RelV:V->Value->Prop
 | .non,u=>u=Value.none
 | .bl b,u=>u=Value.bool b
 | .int i,u=>∃ t,u=Value.int i t
 | .str x,u=>∃ t,u=Value.str x t
 | .byt b,u=>∃ t,u=Value.bytes b t
 | .flt b,u=>∃ t,u=Value.float b t
 | .ref a,u=>u=Value.ref a
 | .ty n,u=>u=Value.type n
noncomputable abbrev Vals:List V->List Value->Prop:=Paired RelV
theorem Vals.length {xs:List V} {us:List Value} (r:Vals xs us):xs.length=us.length:=Paired.length r
theorem Vals.get:∀ {xs:List V} {us:List Value} {i:Nat} {x:V},Vals xs us->xs[i]?=some x->∃ u,us[i]?=some u/\RelV x u
 | _,_,_,_,.nil,e=>by simp at e
 | _,_,0,_,.cons r _,e=>by simp at e; subst e; exact ⟨_,rfl,r⟩
 | _,_,i + 1,x,.cons _ t,e=>by
  obtain ⟨u,h1,h2⟩:=Vals.get (i:=i) (x:=x) t (by simpa using e)
  exact ⟨u,by simpa using h1,h2⟩
theorem Vals.set {x:V} {u:Value} (r:RelV x u):∀ {xs:List V} {us:List Value} (i:Nat),Vals xs us->Vals (xs.set i x) (us.set i u)
 | _,_,_,.nil=>.nil
 | _,_,0,.cons _ t=>.cons r t
 | _,_,i + 1,.cons q t=>.cons q (Vals.set r i t)
theorem Vals.append:∀ {xs ys:List V} {us ws:List Value},Vals xs us->Vals ys ws->Vals (xs ++ ys) (us ++ ws)
 | _,_,_,_,.nil,s=>s
 | _,_,_,_,.cons r t,s=>.cons r (Vals.append t s)
theorem Vals.take:∀ {xs:List V} {us:List Value} (n:Nat),Vals xs us->Vals (xs.take n) (us.take n)
 | _,_,0,_=>.nil
 | _,_,_ + 1,.nil=>.nil
 | _,_,n + 1,.cons r t=>.cons r (Vals.take n t)
theorem Vals.drop:∀ {xs:List V} {us:List Value} (n:Nat),Vals xs us->Vals (xs.drop n) (us.drop n)
 | _,_,0,r=>r
 | _,_,_ + 1,.nil=>.nil
 | _,_,n + 1,.cons _ t=>Vals.drop n t
noncomputable def RelO:Option V->Option Value->Prop
 | some v,some u=>RelV v u
 | none,none=>True
 | _,_=>False
noncomputable def KV {κ:Type}:List (κ × V)->List (κ × Value)->Prop:=Paired λ(p:κ × V) (q:κ × Value)=>p.1=q.1/\RelV p.2 q.2
noncomputable def kV:Key->V
 | .inl i=>.int i
 | .inr x=>.str x
inductive HO where
 /-- a list -/
 | lst (xs:List V)
 /-- a tuple (never changes) -/
 | tup (xs:List V)
 /-- a dict whose keys are ints and texts; one whose keys are tuples of ints and texts (the empty one is both) -/
 | dK (kvs:List (Key × V)) | dT (kvs:List (List Key × V))
 /-- a set of ints: its members,its size -/
 | set (S:Int->Bool) (n:Nat)
 /-- an instance of the class at C,its dict at dx,its attributes -/
 | ins (C dx:Addr) (fs:List (Str × V))
 /-- the dict of the instance at x -/
 | own (x:Addr)
 /-- the dict of an exception -/
 | xd (fs:List (Str × V))
 /-- a bound method,f of x -/
 | met (f x:Addr)
 /-- a range object lo,lo + 1,.. below hi -/
 | rng (lo hi:Int)
 /-- a thing that is known to the object (the script; a dict while a loop walks it): read,never written while it is so -/
 | frz (o:Obj) (u:HO)
 /-- a code object's table -/
 | tbl (ps:Array Value)
 /-- any other thing,by what is true of its one object (a def of one's own: SetO a S n:=HO.ext λh=>..) -/
 | ext (φ:Heap->Prop)
noncomputable abbrev Hp:=Addr->Option HO
noncomputable def upd (H:Hp) (a:Addr) (o:HO):Hp:=λb=>if b=a then some o else H b
theorem Zc {H:Hp} {a:Addr} {o:HO}:upd H a o a=some o:=by unfold upd; rw [if_pos rfl]
theorem Ze {H:Hp} {a b:Addr} {o:HO} (h:b≠a):upd H a o b=H b:=by unfold upd; rw [if_neg h]
theorem Zmq {H:Hp} {a b:Addr} {o u:HO} (h:H a=some o) (h':H b=some u) (d:o≠u):a≠b:=by
 intro e; subst e; rw [h] at h'; exact d (Option.some.inj h')
theorem Zm {H:Hp} {a b:Addr} {o:HO} (h:H a=some o) (h':H b=none):a≠b:=by
 intro e; subst e; rw [h] at h'; cases h'
section
variable (P:Program) (w:World)
noncomputable def Zy (H:Hp) (h:Heap) (a:Addr):HO->Prop
 | .lst xs=>xs.length<=sizeLine/\∃ (its:List Value) (n:Nat),Vals xs its/\h.get? a=some { cls:=.type "list",data:=.seq its.toArray n }
 | .tup xs=>xs.length<=sizeLine/\∃ its:List Value,Vals xs its/\IsTup h a its.toArray
 | .dK kvs=>kvs.length<=sizeLine/\(a == sysModules)=false/\∃ vs,KV kvs vs/\h.DictOf (Z3 P w) a vs
 | .dT kvs=>kvs.length<=sizeLine/\(a == sysModules)=false/\∃ xs:List (List Key × Addr × Value),
   Paired (λ(p:List Key × V) (q:List Key × Addr × Value)=>p.1=q.1/\H q.2.1=some (.tup (p.1.map kV))/\RelV p.2 q.2.2) kvs xs /\
   ∃ o es ep,h.get? a=some o/\o.ExactDict/\o.data=.dict es ep/\es.toList=xs.map (entryOfKey (tupleKind (Z3 P w)))/\(xs.map (·.1)).Nodup
 | .set S n=>h.SetOf (intKind P w) a S n
 | .ins C dx fs=>H dx=some (.own a)/\fs.length<=1000/\dx≠a/\h.get? a=some (PySem.W.instObj C dx) /\
   ∃ mA,h.Ns1 dx mA/\(∀ f,RelO (fs.lookup f) (mA f))/\PySem.Within mA (fs.map (·.1))
 | .own _=>∃ o,h.get? a=some o
 | .xd fs=>∃ mA,h.Ns1 a mA/\∀ f,RelO (fs.lookup f) (mA f)
 | .rng lo hi=>∃ t u v,h.get? a=some { cls:=.type "range",data:=.fields #[.int lo t,.int hi u,.int 1 v] }
 | .frz o u=>h.get? a=some o/\Zy H h a u
 | .tbl ps=>h.get? a=some { cls:=.none,data:=.fields ps }
 | .met f x=>h.get? a=some (PySem.W.methodObj (.ref f) (.ref x))
 | .ext φ=>φ h/\(∃ o,h.get? a=some o)/\∀ h1 h2:Heap,φ h1->(∀ o,h1.get? a=some o->h2.get? a=some o)->φ h2
noncomputable def HOk (H:Hp) (h:Heap):Prop:=∀ a o,H a=some o->Zy P w H h a o
end
section
variable {P:Program} {w:World} {H H':Hp} {h h':Heap} {a:Addr} {o:HO}
theorem Zy.lt (x:Zy P w H h a o):a < h.objs.size:=by
 cases o with
 | lst xs=>obtain ⟨_,_,_,_,e⟩:=x; exact Heap.lt_size e
 | tup xs=>obtain ⟨_,_,_,p⟩:=x; exact p.lt
 | dK kvs=>obtain ⟨_,_,_,_,o,_,_,e,_⟩:=x; exact Heap.lt_size e
 | dT kvs=>obtain ⟨_,_,_,_,o,_,_,e,_⟩:=x; exact Heap.lt_size e
 | set S n=>obtain ⟨o,_,_,_,e,_⟩:=x; exact Heap.lt_size e
 | ins C dx fs=>obtain ⟨_,_,_,e,_⟩:=x; exact Heap.lt_size e
 | own y=>obtain ⟨_,e⟩:=x; exact Heap.lt_size e
 | xd fs=>obtain ⟨_,⟨_,_,_,e,_⟩,_⟩:=x; exact Heap.lt_size e
 | rng lo hi=>obtain ⟨_,_,_,e⟩:=x; exact Heap.lt_size e
 | frz ob u=>obtain ⟨e,_⟩:=x; exact Heap.lt_size e
 | tbl ps=>exact Heap.lt_size (show h.get? a=some _ from x)
 | met f y=>exact Heap.lt_size (show h.get? a=some _ from x)
 | ext φ=>obtain ⟨_,⟨_,e⟩,_⟩:=x; exact Heap.lt_size e
theorem Paired.mapP {α β:Type} {F G:α->β->Prop}:∀ {l₁:List α} {l₂:List β},Paired F l₁ l₂->(∀ a b,F a b->G a b)->Paired G l₁ l₂
 | _,_,.nil,_=>.nil
 | _,_,.cons r t,f=>.cons (f _ _ r) (Paired.mapP t f)
theorem Zy.stay (x:Zy P w H h a o) (k:∀ b u,(b=a\/H b=some (.own a))->h.get? b=some u->h'.get? b=some u)
  (ho:∀ b,H b=some (.own a)->H' b=some (.own a)) (ht:∀ b xs,H b=some (.tup xs)->H' b=some (.tup xs)):Zy P w H' h' a o:=by
 induction o with
 | lst xs=>obtain ⟨z,its,n,r,e⟩:=x; exact ⟨z,its,n,r,k _ _ (.inl rfl) e⟩
 | tup xs=>obtain ⟨z,its,r,ob,e,c⟩:=x; exact ⟨z,its,r,ob,k _ _ (.inl rfl) e,c⟩
 | dK kvs=>obtain ⟨z,y,vs,r,ob,es,ep,e,c⟩:=x; exact ⟨z,y,vs,r,ob,es,ep,k _ _ (.inl rfl) e,c⟩
 | dT kvs =>
  obtain ⟨z,y,xs,r,ob,es,ep,e,c⟩:=x
  exact ⟨z,y,xs,Paired.mapP r λp q z=>⟨z.1,ht _ _ z.2.1,z.2.2⟩,ob,es,ep,k _ _ (.inl rfl) e,c⟩
 | set S n=>obtain ⟨ob,es,ep,t,e,c⟩:=x; exact ⟨ob,es,ep,t,k _ _ (.inl rfl) e,c⟩
 | ins C dx fs =>
  obtain ⟨d,z,ne,e,mA,⟨od,es,ep,e2,c⟩,r⟩:=x
  exact ⟨ho _ d,z,ne,k _ _ (.inl rfl) e,mA,⟨od,es,ep,k _ _ (.inr d) e2,c⟩,r⟩
 | own y=>obtain ⟨ob,e⟩:=x; exact ⟨ob,k _ _ (.inl rfl) e⟩
 | xd fs=>obtain ⟨mA,⟨od,es,ep,e,c⟩,r⟩:=x; exact ⟨mA,⟨od,es,ep,k _ _ (.inl rfl) e,c⟩,r⟩
 | rng lo hi=>obtain ⟨t,u,v,e⟩:=x; exact ⟨t,u,v,k _ _ (.inl rfl) e⟩
 | frz ob u ih=>obtain ⟨e,q⟩:=x; exact ⟨k _ _ (.inl rfl) e,ih q⟩
 | tbl ps =>
  have e:h.get? a=some { cls:=.none,data:=.fields ps }:=x
  show h'.get? a=some { cls:=.none,data:=.fields ps }
  exact k a _ (.inl rfl) e
 | met f y =>
  have e:h.get? a=some (PySem.W.methodObj (.ref f) (.ref y)):=x
  show h'.get? a=some (PySem.W.methodObj (.ref f) (.ref y))
  exact k a _ (.inl rfl) e
 | ext φ=>obtain ⟨p,⟨o,e⟩,st⟩:=x; exact ⟨st _ _ p λo q=>k _ _ (.inl rfl) q,⟨o,k _ _ (.inl rfl) e⟩,st⟩
theorem HOk.lt (x:HOk P w H h) (e:H a=some o):a < h.objs.size:=(x a o e).lt
theorem HOk.fresh (x:HOk P w H h) (e:h.objs.size<=a):H a=none:=by
 cases q:H a with
 | none=>rfl
 | some u=>exact absurd (Ag (x.lt q) e) (Nat.lt_irrefl _)
theorem HOk.kept (x:HOk P w H h) (k:∀ b u,h.get? b=some u->h'.get? b=some u):HOk P w H h':=λa o e =>
 (x a o e).stay (λb u _ q=>k b u q) (λ_ q=>q) λ_ _ q=>q
theorem HOk.laid (x:HOk P w H h) (k:∀ b u,h.get? b=some u->h'.get? b=some u) (hp:h.objs.size<=a) (new:Zy P w (upd H a o) h' a o):HOk P w (upd H a o) h':=λb u e=>by
 have hn:=x.fresh hp
 by_cases hb:b=a
 ·subst hb; rw [Zc] at e; cases e; exact new
 ·rw [Ze hb] at e
  exact (x b u e).stay (λc v _ q=>k c v q) (λc q=>by rw [Ze (Zm q hn)]; exact q) λc xs q=>by rw [Ze (Zm q hn)]; exact q
end
noncomputable def Rd (H:Hp) (a:Addr) (u:HO):Prop:=H a=some u\/∃ o,H a=some (.frz o u)
theorem Rd.ok {P:Program} {w:World} {H:Hp} {h:Heap} {a:Addr} {u:HO} (r:Rd H a u) (x:HOk P w H h):Zy P w H h a u:=by
 rcases r with r | ⟨o,r⟩
 ·exact x a u r
 ·obtain ⟨_,q⟩:=x a _ r
  exact q
noncomputable def Mut:Option HO->Prop
 | some (.lst _)=>True
 | some (.dK _)=>True
 | some (.dT _)=>True
 | some (.set _ _)=>True
 | some (.ins _ _ _)=>True
 | some (.ext _)=>True
 | _=>False
section
variable {P:Program} {w:World} {H:Hp} {h h':Heap} {x e:Addr} {o':HO}
theorem HOk.write (ok:HOk P w H h) (mu:Mut (H x)) (he:e=x\/H e=some (.own x)) (k:∀ b u,b≠e->h.get? b=some u->h'.get? b=some u) (heo:∃ u,h'.get? e=some u)
  (new:Zy P w (upd H x o') h' x o'):HOk P w (upd H x o') h':=λb u q=>by
 have nown:∀ c y,H c=some (.own y)->c≠x:=λc y r z=>by subst z; rw [r] at mu; exact mu
 have ntup:∀ c xs,H c=some (.tup xs)->c≠x:=λc xs r z=>by subst z; rw [r] at mu; exact mu
 by_cases hb:b=x
 ·subst hb; rw [Zc] at q; cases q; exact new
 ·rw [Ze hb] at q
  by_cases hbe:b=e
  ·have q':H b=some (.own x):=by
    rcases he with z | z
    ·exact absurd (hbe.trans z) hb
    ·rw [hbe]; exact z
   rw [q] at q'; cases q'
   obtain ⟨v,hv⟩:=heo
   exact ⟨v,by rw [hbe]; exact hv⟩
  ·refine (ok b u q).stay (λc v hc r=>k c v ?_ r) (λc r=>by rw [Ze (nown c b r)]; exact r) λc xs r=>by rw [Ze (ntup c xs r)]; exact r
   rcases hc with rfl | hc
   ·exact hbe
   ·rintro rfl
    rcases he with z | z
    ·exact nown c b hc z
    ·rw [hc] at z; cases z; exact hb rfl
end
structure Un (fs ex:List Addr) (H H':Hp) (h h':Heap):Prop where
 keep:∀ b o,h.get? b=some o->H b=none->b ∉ fs->b ∉ ex->h'.get? b=some o
 slot:∀ b o,h.get? b=some o->H b=none->b∈fs->b ∉ ex->∃ sl,h'.get? b=some { o with slots:=sl }
 free:∀ b o,h.get? b=some o->H b=none->b ∉ ex->H' b=none
 there:∀ b o,h.get? b=some o->b ∉ ex->∃ o',h'.get? b=some o'
 tups:∀ b xs,H b=some (.tup xs)->H' b=some (.tup xs)
 frzs:∀ b o u,H b=some (.frz o u)->H' b=some (.frz o u)
 tbls:∀ b ps,H b=some (.tbl ps)->∃ more,H' b=some (.tbl (ps ++ more))
section
variable {fs fs' ex ex':List Addr} {H H1 H2:Hp} {h h1 h2 h':Heap} {a x e:Addr} {o:HO}
theorem Un.any (u:Un fs ex H H1 h h1) {b:Addr} {ob:Obj} (q:h.get? b=some ob) (n:H b=none) (hx:b ∉ ex):∃ sl,h1.get? b=some { ob with slots:=sl }:=by
 by_cases hb:b∈fs
 ·exact u.slot b ob q n hb hx
 ·exact ⟨ob.slots,u.keep b ob q n hb hx⟩
theorem Un.kept (k:∀ b u,h.get? b=some u->h'.get? b=some u):Un fs ex H H h h' :=
 ⟨λb ob q _ _ _=>k b ob q,λb ob q _ _ _=>⟨ob.slots,k b ob q⟩,λ_ _ _ n _=>n,λb ob q _=>⟨ob,k b ob q⟩,λ_ _ q=>q,λ_ _ _ q=>q,λ_ ps q=>⟨#[],by rw [q]; simp⟩⟩
theorem Un.refl:Un fs ex H H h h:=Un.kept λ_ _ q=>q
theorem Un.laid (k:∀ b u,h.get? b=some u->h'.get? b=some u) (hp:h.objs.size<=a) (hn:H a=none):Un fs ex H (upd H a o) h h' where
 keep:=λb u q _ _ _=>k b u q
 slot:=λb u q _ _ _=>⟨u.slots,k b u q⟩
 free:=λb u q n _=>by rw [Ze (Nat.ne_of_lt (Ag (Heap.lt_size q) hp))]; exact n
 there:=λb u q _=>⟨u,k b u q⟩
 tups:=λb xs q=>by rw [Ze (Zm q hn)]; exact q
 frzs:=λb u xs q=>by rw [Ze (Zm q hn)]; exact q
 tbls:=λb ps q=>⟨#[],by rw [Ze (Zm q hn),q]; simp⟩
theorem Un.write (mu:Mut (H x)) (he:e=x\/H e=some (.own x)) (k:∀ b u,b≠e->h.get? b=some u->h'.get? b=some u) (heo:∃ u,h'.get? e=some u):Un fs ex H (upd H x o) h h':=by
 have hx:∀ b,H b=none->b≠x:=λb n z=>by subst z; rw [n] at mu; exact mu
 have hb:∀ b,H b=none->b≠e:=λb n z=>by
  subst z
  rcases he with r | r
  ·exact hx b n r
  ·rw [n] at r; cases r
 have hm:∀ b u,H b=some u->¬ Mut (some u)->b≠x:=λb u q nm z=>by subst z; rw [q] at mu; exact nm mu
 refine ⟨λb u q n _ _=>k b u (hb b n) q,λb u q n _ _=>⟨u.slots,k b u (hb b n) q⟩,λb u q n _=>by rw [Ze (hx b n)]; exact n,λb u q _=>?_,
  λb xs q=>by rw [Ze (hm b _ q λz=>z)]; exact q,λb u xs q=>by rw [Ze (hm b _ q λz=>z)]; exact q,λb ps q=>⟨#[],by rw [Ze (hm b _ q λz=>z),q]; simp⟩⟩
 by_cases hbe:b=e
 ·subst hbe; exact heo
 ·exact ⟨u,k b u hbe q⟩
end
noncomputable def trk (h:Heap) (H:Hp):List Addr:=(List.range h.objs.size).filter λa=>(H a).isSome
noncomputable def hidT (h:Heap) (H:Hp):Heap:=PySem.W.hideAll h (trk h H)
theorem Zgk (h:Heap) (H:Hp):(hidT h H).objs.size=h.objs.size:=PySem.W.hideAll_size _ _
theorem Zh9 {h:Heap} {H:Hp} {b:Addr} {o:Obj} (e:h.get? b=some o) (n:H b=none):(hidT h H).get? b=some o :=
 PySem.W.hideAll_get _ e λhm=>by
  have q:(H b).isSome=true:=(List.mem_filter.mp hm).2
  rw [n] at q; simp at q
theorem Zj1 {h:Heap} {H:Hp} {b:Addr} {o:Obj} (e:(hidT h H).get? b=some o):h.get? b=some o/\H b=none:=by
 have e':h.get? b=some o:=PySem.W.of_hideAll (trk h H) e
 refine ⟨e',?_⟩
 cases q:H b with
 | none=>rfl
 | some x =>
  have hm:b∈trk h H:=List.mem_filter.mpr ⟨List.mem_range.mpr (Heap.lt_size e'),by simp [q]⟩
  have z:(hidT h H).get? b=none:=PySem.W.hideAll_none (trk h H) hm
  rw [z] at e; cases e
noncomputable def Zkn (g h:Heap) (L:Addr):List (Addr × Obj):=(List.range h.objs.size).filterMap λa=>if a=L\/(g.get? a).isSome=true then none else (h.get? a).map λo=>(a,o)
noncomputable def rest (g h:Heap) (L d:Addr):List (Addr × Obj):=(Zkn g h L).filter λp=>decide (p.1≠d)
structure Mod (K:PySem.W.Frag) (mg:Str->Option Value) (base:Heap):Prop where
 kin:K.In base
 glob:base.Ns mainGlobals mg
 blt:∃ mb,base.Ns builtinsNs mb/\∀ x:Str,x≠"__name__"->mb x=bootBuiltins x
 nolimit:base.NoLimit
structure Cx where
 prog:Program
 w:World
 K:PySem.W.Frag
 mg:Str->Option Value
 base:Heap
 A:Around
 N:List Str
 s₀:Shared
 H₀:Hp
 env:Env
 outer:List Env
 stack:List Env
 ex:List Addr
 fn:Str->Bool
 calm:Bool
 pn:List (Addr × Obj)
 xe:Value->Shared->Prop
noncomputable def frs (l:List Env):List Addr:=l.filterMap (·.frame)
noncomputable abbrev Cx.fs (X:Cx):List Addr:=frs X.outer
noncomputable def Vis (sc:Scope) (x:Str):Prop:=sc.names.lookup x=some .local\/sc.names.lookup x=some .cell\/sc.names.lookup x=some .free
noncomputable def Loc (sc:Scope) (x:Str):Prop:=sc.names.lookup x=some .local\/sc.names.lookup x=some .cell
noncomputable def Look (env:Env) (h:Heap) (m:Str->Option Value) (x:Str) (u:Value):Prop :=
 (env.kindOf x=some .local/\m x=some u)\/((env.kindOf x=some .cell\/env.kindOf x=some .free)/\∃ c,env.cells.lookup x=some c/\h.IsCell c (some u))
structure Cx.Ok (X:Cx):Prop where
 mod:Mod X.K X.mg X.base
 kind:X.env.scope.kind=.function
 glob:X.env.globals=mainGlobals
 blt:X.env.builtins=builtinsNs
 above:X.s₀.heap.objs.size<=X.env.locals
 inj:∀ x y c,X.env.cells.lookup x=some c->X.env.cells.lookup y=some c->x=y
 has:∀ x,(X.env.kindOf x=some .cell\/X.env.kindOf x=some .free)->∃ c,X.env.cells.lookup x=some c
 cab:∀ x c,X.fn x=true->X.env.cells.lookup x=some c->X.s₀.heap.objs.size<=c
 hd:X.calm=true->X.A.handled=none
 frames:X.A.frames=some X.stack
 stk:X.stack=X.outer\/(X.stack=X.env :: X.outer/\X.env.frame=some X.env.locals)
 exf:∀ b∈X.ex,b≠X.env.locals/\∀ x c,X.env.cells.lookup x=some c->c≠b
 bs:∀ b o,X.base.get? b=some o->X.s₀.heap.get? b=some o/\X.H₀ b=none
 bsz:X.base.objs.size<=X.s₀.heap.objs.size
 noex:∀ b o,X.base.get? b=some o->b ∉ X.ex
 exfs:∀ b∈X.ex,b ∉ X.fs
 funs:X.s₀.heap.FunFrames X.base X.outer
 frf:∀ b∈X.fs,X.H₀ b=none
structure Inv (X:Cx) (pins:List (Addr × Obj)) (σ:List (Option V)) (H:Hp) (s:Shared):Prop where
 ok:X.Ok
 os:s.os=X.s₀.os
 bare:AllBare s.gens
 base:Un X.fs X.ex X.H₀ H X.s₀.heap s.heap
 loc:∃ m,s.heap.Ns X.env.locals m/\∀ (i:Nat) (x:Str) (v:V),X.N[i]?=some x->σ[i]?=some (some v)->Vis X.env.scope x->∃ u,RelV v u/\Look X.env s.heap m x u
 cell:∀ x c,X.env.cells.lookup x=some c->∃ v,s.heap.IsCell c v
 free:H X.env.locals=none
 freeC:∀ x c,X.env.cells.lookup x=some c->H c=none
 pin:∀ p∈X.pn ++ pins,s.heap.get? p.1=some p.2/\H p.1=none/\p.1≠X.env.locals/\p.1 ∉ X.fs/\∀ v,p.2.data≠.cell v
 hok:HOk X.prog X.w H s.heap
 len:σ.length=X.N.length
section
variable {X:Cx} {pins:List (Addr × Obj)} {σ:List (Option V)} {H H':Hp} {s:Shared} {h':Heap}
theorem Cx.Ok.nofr (ok:X.Ok) {b:Addr} {o:Obj} (e:X.base.get? b=some o):b ∉ X.fs:=λhb=>by
 have:=(ok.funs.mem hb).1
 rw [e] at this; cases this
theorem Inv.bs (I:Inv X pins σ H s):∀ b o,X.base.get? b=some o->s.heap.get? b=some o/\H b=none:=λb o e =>
 ⟨I.base.keep b o (I.ok.bs b o e).1 (I.ok.bs b o e).2 (I.ok.nofr e) (I.ok.noex b o e),I.base.free b o (I.ok.bs b o e).1 (I.ok.bs b o e).2 (I.ok.noex b o e)⟩
theorem Inv.bk (I:Inv X pins σ H s):∀ b o,X.base.get? b=some o->s.heap.get? b=some o:=λb o e=>(I.bs b o e).1
theorem Inv.mod (I:Inv X pins σ H s):Mod X.K X.mg X.base:=I.ok.mod
theorem Inv.kIn (I:Inv X pins σ H s):X.K.In s.heap:=I.ok.mod.kin.keeps I.bk
theorem Inv.lt (I:Inv X pins σ H s):X.env.locals < s.heap.objs.size:=let ⟨_,hn,_⟩:=I.loc; hn.lt
theorem Inv.sz (I:Inv X pins σ H s):X.s₀.heap.objs.size<=s.heap.objs.size:=Nat.le_trans I.ok.above (Nat.le_of_lt I.lt)
theorem Inv.nofs (I:Inv X pins σ H s) {a:Addr} (h:s.heap.objs.size<=a):a ∉ X.fs:=λhb=>by
 obtain ⟨_,o,ho,_⟩:=I.ok.funs.mem hb
 exact absurd (Ag (Heap.lt_size ho) (Nat.le_trans I.sz h)) (Nat.lt_irrefl _)
theorem Inv.cne (I:Inv X pins σ H s):∀ x c,X.env.cells.lookup x=some c->c≠X.env.locals:=λx c e z=>by
 obtain ⟨v,o,ho,hd⟩:=I.cell x c e
 obtain ⟨m,⟨o',es,ep,ho',hd',_⟩,_⟩:=I.loc
 rw [z,ho'] at ho; cases ho; rw [hd'] at hd; cases hd
theorem Inv.funs (I:Inv X pins σ H s):s.heap.FunFrames X.base X.outer:=by
 have all:∀ (l:List Env),(∀ b∈frs l,b∈X.fs)->X.s₀.heap.FunFrames X.base l->s.heap.FunFrames X.base l:=by
  intro l
  induction l with
  | nil=>intro _ _; trivial
  | cons env r ih =>
   intro hs hl
   obtain ⟨hk,⟨L,o,hf,hn,ho,hd⟩,hr⟩:=hl
   have hL:L∈X.fs:=hs L (by unfold frs; rw [List.filterMap_cons,hf]; exact List.mem_cons_self)
   obtain ⟨sl,e⟩:=I.base.slot L o ho (I.ok.frf L hL) hL λz=>I.ok.exfs L z hL
   exact ⟨hk,⟨L,_,hf,hn,e,hd⟩,ih (λb hb=>hs b (by unfold frs; rw [List.filterMap_cons,hf]; exact List.mem_cons_of_mem _ hb)) hr⟩
 exact all X.outer (λ_ hb=>hb) I.ok.funs
theorem Inv.stack (I:Inv X pins σ H s):s.heap.FunFrames X.base X.stack:=by
 rcases I.ok.stk with e | ⟨e,hf⟩
 ·rw [e]; exact I.funs
 ·rw [e]
  obtain ⟨m,hn,_⟩:=I.loc
  refine .cons (by rw [I.ok.kind]; decide) hf hn ?_ I.funs
  exact Heap.get?_none_of_le (Nat.le_trans I.ok.bsz I.ok.above)
theorem Inv.stkSub (I:Inv X pins σ H s):∀ b∈frs X.stack,b∈X.env.locals :: X.fs:=λb hb=>by
 rcases I.ok.stk with e | ⟨e,hf⟩
 ·rw [e] at hb; exact List.mem_cons_of_mem _ hb
 ·rw [e] at hb
  unfold frs at hb
  rw [List.filterMap_cons,hf] at hb
  exact hb
theorem Inv.stkFree (I:Inv X pins σ H s):∀ b∈frs X.stack,H b=none:=λb hb=>by
 rcases List.mem_cons.mp (I.stkSub b hb) with e | hb
 ·rw [e]; exact I.free
 ·obtain ⟨_,o,ho,_⟩:=I.ok.funs.mem hb
  exact I.base.free b o ho (I.ok.frf b hb) λz=>I.ok.exfs b z hb
theorem Inv.step {g':Array GenState} {t':Nat} {d':Drawn} {ch:List Addr} (I:Inv X pins σ H s)
  (hch:∀ b∈ch,(b∈X.ex\/X.s₀.heap.objs.size<=b)/\b≠X.env.locals/\(∀ x c,X.env.cells.lookup x=some c->c≠b)/\∀ p∈X.pn ++ pins,p.1≠b)
  (keep:∀ b o,b≠X.env.locals->b ∉ X.fs->b ∉ ch->s.heap.get? b=some o->H b=none->h'.get? b=some o)
  (slot:∀ b o,b≠X.env.locals->b∈X.fs->b ∉ ch->s.heap.get? b=some o->H b=none->∃ sl,h'.get? b=some { o with slots:=sl }) (free:∀ b o,b ∉ ch->s.heap.get? b=some o->H b=none->H' b=none)
  (there:∀ b o,b ∉ ch->s.heap.get? b=some o->∃ o',h'.get? b=some o')
  (tups:∀ b xs,H b=some (.tup xs)->H' b=some (.tup xs)) (frzs:∀ b o u,H b=some (.frz o u)->H' b=some (.frz o u)) (tbls:∀ b ps,H b=some (.tbl ps)->∃ more,H' b=some (.tbl (ps ++ more)))
  (ns:∀ m,s.heap.Ns X.env.locals m->h'.Ns X.env.locals m) (hok:HOk X.prog X.w H' h') (hg:AllBare g') :
  Inv X pins σ H' { s with heap:=h',gens:=g',drawn:=d',toks:=t' }:=by
 have neL:∀ b o,X.s₀.heap.get? b=some o->b≠X.env.locals:=λb o e=>Nat.ne_of_lt (Ag (Heap.lt_size e) I.ok.above)
 have neC:∀ b o,X.s₀.heap.get? b=some o->b ∉ X.ex->b ∉ ch:=λb o e hx hb=>by
  rcases (hch b hb).1 with z | z
  ·exact hx z
  ·exact absurd (Ag (Heap.lt_size e) z) (Nat.lt_irrefl _)
 have cellK:∀ x c,X.env.cells.lookup x=some c->∀ v,s.heap.IsCell c v->h'.IsCell c v:=λx c e v ⟨o,ho,hd⟩=>by
  have nch:c ∉ ch:=λz=>(hch c z).2.2.1 x c e rfl
  by_cases hc:c∈X.fs
  ·obtain ⟨sl,q⟩:=slot c o (I.cne x c e) hc nch ho (I.freeC x c e)
   exact ⟨_,q,hd⟩
  ·exact ⟨o,keep c o (I.cne x c e) hc nch ho (I.freeC x c e),hd⟩
 refine ⟨I.ok,I.os,hg,⟨λb o e n hb hx=>?_,λb o e n hb hx=>?_,λb o e n hx=>?_,λb o e hx=>?_,λb xs e=>tups b xs (I.base.tups b xs e),λb o xs e=>frzs b o xs (I.base.frzs b o xs e),λb ps e=>?_⟩,?_,λx c e=>?_,?_,λx c e=>?_,λp hp=>?_,hok,I.len⟩
 ·exact keep b o (neL b o e) hb (neC b o e hx) (I.base.keep b o e n hb hx) (I.base.free b o e n hx)
 ·obtain ⟨sl,e1⟩:=I.base.slot b o e n hb hx
  obtain ⟨sl',e2⟩:=slot b _ (neL b o e) hb (neC b o e hx) e1 (I.base.free b o e n hx)
  exact ⟨sl',e2⟩
 ·obtain ⟨o',e1⟩:=I.base.there b o e hx
  exact free b o' (neC b o e hx) e1 (I.base.free b o e n hx)
 ·obtain ⟨o',e1⟩:=I.base.there b o e hx
  exact there b o' (neC b o e hx) e1
 ·obtain ⟨m1,e1⟩:=I.base.tbls b ps e
  obtain ⟨m2,e2⟩:=tbls b _ e1
  exact ⟨m1 ++ m2,by rw [e2,Array.append_assoc]⟩
 ·obtain ⟨m,hn,hl⟩:=I.loc
  refine ⟨m,ns m hn,λi x v e1 e2 e3=>?_⟩
  obtain ⟨u,r,l⟩:=hl i x v e1 e2 e3
  refine ⟨u,r,?_⟩
  rcases l with l | ⟨k,c,e,z⟩
  ·exact .inl l
  ·exact .inr ⟨k,c,e,cellK x c e _ z⟩
 ·obtain ⟨v,z⟩:=I.cell x c e
  exact ⟨v,cellK x c e v z⟩
 ·obtain ⟨m,⟨o,_,_,ho,_⟩,_⟩:=I.loc
  exact free _ o (λz=>(hch _ z).2.1 rfl) ho I.free
 ·obtain ⟨v,o,ho,hd⟩:=I.cell x c e
  exact free c o (λz=>(hch c z).2.2.1 x c e rfl) ho (I.freeC x c e)
 ·obtain ⟨e,n,ne,nf,d⟩:=I.pin p hp
  have nch:p.1 ∉ ch:=λz=>(hch p.1 z).2.2.2 p hp rfl
  exact ⟨keep p.1 p.2 ne nf nch e n,free p.1 p.2 nch e n,ne,nf,d⟩
theorem Inv.un {t':Nat} (I:Inv X pins σ H s) (u:Un X.fs [] H H' s.heap h') (hok:HOk X.prog X.w H' h'):Inv X pins σ H' { s with heap:=h',toks:=t' }:=by
 obtain ⟨m,⟨o,es,ep,ho,r⟩,_⟩:=id I.loc
 obtain ⟨sl,hL⟩:=u.any ho I.free (by simp)
 exact I.step (g':=s.gens) (d':=s.drawn) (ch:=[]) (λ_ z=>nomatch z) (λb o _ hb _ e n=>u.keep b o e n hb (by simp)) (λb o _ hb _ e n=>u.slot b o e n hb (by simp)) (λb o _ e n=>u.free b o e n (by simp)) (λb o _ e=>u.there b o e (by simp)) u.tups u.frzs u.tbls (λm' hm=>by
  obtain ⟨o',es',ep',ho',r'⟩:=hm
  rw [ho] at ho'; cases ho'
  exact ⟨_,es',ep',hL,r'⟩) hok I.bare
theorem Inv.call {g':Array GenState} {t':Nat} {d':Drawn} {ch:List Addr} (I:Inv X pins σ H s) (u:Un (frs X.stack) ch H H' s.heap h') (hok:HOk X.prog X.w H' h') (hg:AllBare g')
  (hch:∀ b∈ch,(b∈X.ex\/X.s₀.heap.objs.size<=b)/\b≠X.env.locals/\(∀ x c,X.env.cells.lookup x=some c->c≠b)/\∀ p∈X.pn ++ pins,p.1≠b) :
  Inv X pins σ H' { s with heap:=h',gens:=g',drawn:=d',toks:=t' }:=by
 obtain ⟨m,⟨o,es,ep,ho,r⟩,_⟩:=id I.loc
 obtain ⟨sl,hL⟩:=u.any ho I.free λz=>(hch _ z).2.1 rfl
 exact I.step (ch:=ch) hch (λb o hL hb hc e n=>u.keep b o e n (λz=>(List.mem_cons.mp (I.stkSub b z)).elim hL hb) hc) (λb o _ _ hc e n=>u.any e n hc) (λb o hc e n=>u.free b o e n hc) (λb o hc e=>u.there b o e hc) u.tups u.frzs u.tbls (λm' hm=>by
  obtain ⟨o',es',ep',ho',r'⟩:=hm
  rw [ho] at ho'; cases ho'
  exact ⟨_,es',ep',hL,r'⟩) hok hg
theorem Inv.turned {t':Nat} {it:Addr} (I:Inv X pins σ H s) (k:∀ b o,b≠it->s.heap.get? b=some o->h'.get? b=some o) (hn:H it=none) (hL:it≠X.env.locals)
  (h1:it∈X.ex\/X.s₀.heap.objs.size<=it) (h2:∀ x c,X.env.cells.lookup x=some c->c≠it) (h3:∀ p∈X.pn ++ pins,p.1≠it):Inv X pins σ H { s with heap:=h',toks:=t' }:=by
 have nit:∀ b u,H b=some u->b≠it:=λb u e z=>by rw [z,hn] at e; cases e
 refine I.step (g':=s.gens) (d':=s.drawn) (ch:=[it]) (λb hb=>?_) (λb o _ _ hc e _=>k b o (λz=>hc (by simp [z])) e) (λb o _ _ hc e _=>⟨o.slots,k b o (λz=>hc (by simp [z])) e⟩) (λ_ _ _ _ n=>n)
  (λb o hc e=>⟨o,k b o (λz=>hc (by simp [z])) e⟩) (λ_ _ e=>e) (λ_ _ _ e=>e) (λb ps e=>⟨#[],by rw [e]; simp⟩) (λm hm=>?_) (λb u e=>?_) I.bare
 ·have e:b=it:=by simpa using hb
  subst e
  exact ⟨h1,hL,h2,h3⟩
 ·obtain ⟨o,es,ep,ho,r⟩:=hm
  exact ⟨o,es,ep,k _ o (Ne.symm hL) ho,r⟩
 ·refine (I.hok b u e).stay (λc v hc q=>k c v ?_ q) (λ_ q=>q) λ_ _ q=>q
  rcases hc with z | z
  ·rw [z]; exact nit b u e
  ·exact nit c _ z
theorem Inv.tok (I:Inv X pins σ H s) (t:Nat):Inv X pins σ H { s with toks:=t }:=I.un (h':=s.heap) (t':=t) Un.refl I.hok
theorem Inv.kept {t':Nat} (I:Inv X pins σ H s) (k:∀ b u,s.heap.get? b=some u->h'.get? b=some u):Inv X pins σ H { s with heap:=h',toks:=t' }:=I.un (Un.kept k) (I.hok.kept k)
theorem Inv.laid {a:Addr} {o:HO} {t':Nat} (I:Inv X pins σ H s) (k:∀ b u,s.heap.get? b=some u->h'.get? b=some u) (hp:s.heap.objs.size<=a) (new:Zy X.prog X.w (upd H a o) h' a o) :
  Inv X pins σ (upd H a o) { s with heap:=h',toks:=t' }:=I.un (Un.laid k hp (I.hok.fresh hp)) (I.hok.laid k hp new)
theorem Inv.write {x e:Addr} {o:HO} {t':Nat} (I:Inv X pins σ H s) (mu:Mut (H x)) (he:e=x\/H e=some (.own x)) (k:∀ b u,b≠e->s.heap.get? b=some u->h'.get? b=some u) (heo:∃ u,h'.get? e=some u)
  (new:Zy X.prog X.w (upd H x o) h' x o):Inv X pins σ (upd H x o) { s with heap:=h',toks:=t' }:=I.un (Un.write mu he k heo) (I.hok.write mu he k heo new)
theorem Inv.pins_of {pins':List (Addr × Obj)} (I:Inv X pins σ H s) (h:∀ p∈pins',s.heap.get? p.1=some p.2/\H p.1=none/\p.1≠X.env.locals/\p.1 ∉ X.fs/\∀ v,p.2.data≠.cell v):Inv X pins' σ H s :=
 ⟨I.ok,I.os,I.bare,I.base,I.loc,I.cell,I.free,I.freeC,λp hp=>(List.mem_append.mp hp).elim (λz=>I.pin p (List.mem_append_left _ z)) (h p),I.hok,I.len⟩
theorem Za7 {N:List Str} (hN:N.Nodup) {i j:Nat} {x:Str} (a:N[i]?=some x) (b:N[j]?=some x):i=j:=by
 obtain ⟨h1,e1⟩:=Aa a
 obtain ⟨h2,e2⟩:=Aa b
 exact (List.getElem_inj hN).mp (e1.trans e2.symm)
theorem Gf {M:Model} {A:Around} {E:Value->Shared->Prop} {i:Nat} {x:Str} {v:V} {u:Value} {Q:Unit->Shared->Prop} (I:Inv X pins σ H s) (hN:X.N.Nodup) (hi:X.N[i]?=some x) (hx:Loc X.env.scope x) (r:RelV v u)
  (h:∀ s',Inv X pins (σ.set i (some v)) H s'->(∃ a,Heap.SameBut a s.heap s'.heap/\(a=X.env.locals\/X.env.cells.lookup x=some a))->Q () s') (hf:X.fn x=true\/X.env.scope.names.lookup x=some .local:=by first | exact .inl rfl | exact .inr rfl | assumption):wpAny M A (storeName X.env x u) Q E s:=by
 obtain ⟨m,hn,hl⟩:=id I.loc
 have hcls:(X.env.scope.kind == .class || (X.env.scope.kind == .module && X.env.locals != X.env.globals))=false:=by rw [I.ok.kind]; rfl
 have hiσ:i < σ.length:=by rw [I.len]; exact (Aa hi).1
 have cne:=I.cne
 have tracked:∀ {a:Addr} {h':Heap},(∃ o,s.heap.get? a=some o/\H a=none)->Heap.SameBut a s.heap h'->HOk X.prog X.w H h':=λ{a h'} ha hs b ob e=>by
  obtain ⟨_,_,hfree⟩:=ha
  refine (I.hok b ob e).stay (λc w' hc q=>(hs.2 c ?_).trans q) (λ_ q=>q) λ_ _ q=>q
  rintro rfl
  rcases hc with rfl | hc
  ·rw [hfree] at e; cases e
  ·rw [hfree] at hc; cases hc
 rcases hx with hk | hk
 ·refine wpAny_storeName_local hk hn (λh' hn' hs=>?_) hcls
  obtain ⟨oL,_,_,hoL,_⟩:=id hn
  refine h _ ⟨I.ok,I.os,I.bare,⟨λb o e n hb hx=>?_,λb o e n hb hx=>?_,I.base.free,λb o e hx=>?_,I.base.tups,I.base.frzs,I.base.tbls⟩,⟨_,hn',λj y v' e1 e2 e3=>?_⟩,λy c e=>?_,I.free,I.freeC,λp hp=>?_,tracked ⟨oL,hoL,I.free⟩ hs,by simpa using I.len⟩ ⟨_,hs,.inl rfl⟩
  ·exact (hs.2 b (Nat.ne_of_lt (Ag (Heap.lt_size e) I.ok.above))).trans (I.base.keep b o e n hb hx)
  ·obtain ⟨sl,e1⟩:=I.base.slot b o e n hb hx
   exact ⟨sl,(hs.2 b (Nat.ne_of_lt (Ag (Heap.lt_size e) I.ok.above))).trans e1⟩
  ·obtain ⟨o',e1⟩:=I.base.there b o e hx
   exact ⟨o',(hs.2 b (Nat.ne_of_lt (Ag (Heap.lt_size e) I.ok.above))).trans e1⟩
  ·by_cases hj:j=i
   ·subst hj
    rw [hi] at e1; cases e1
    rw [List.getElem?_set_self hiσ] at e2
    cases e2
    exact ⟨u,r,.inl ⟨hk,by simp⟩⟩
   ·rw [List.getElem?_set_ne (Ne.symm hj)] at e2
    obtain ⟨u',r',q⟩:=hl j y v' e1 e2 e3
    refine ⟨u',r',?_⟩
    rcases q with ⟨k,e⟩ | ⟨k,c,e,z⟩
    ·refine .inl ⟨k,?_⟩
     have:y≠x:=λe=>hj (Za7 hN e1 (e ▸ hi))
     simp [this,e]
    ·exact .inr ⟨k,c,e,z.sameBut hs (cne y c e)⟩
  ·obtain ⟨w',z⟩:=I.cell y c e
   exact ⟨w',z.sameBut hs (cne y c e)⟩
  ·obtain ⟨e,n,ne,nf,d⟩:=I.pin p hp
   exact ⟨(hs.2 p.1 ne).trans e,n,ne,nf,d⟩
 ·have hfn:X.fn x=true:=by
   rcases hf with z | z
   ·exact z
   ·rw [z] at hk; cases hk
  obtain ⟨c,hc⟩:=I.ok.has x (.inl hk)
  obtain ⟨w',z⟩:=I.cell x c hc
  refine wpAny_storeName_cell I.ok.kind hk hc z (λh' hc' hs=>?_)
  obtain ⟨oc,hoc,hocd⟩:=id z
  refine h { s with heap:=h' } ⟨I.ok,I.os,I.bare,⟨λb o e n hb hx=>?_,λb o e n hb hx=>?_,I.base.free,λb o e hx=>?_,I.base.tups,I.base.frzs,I.base.tbls⟩,⟨m,hn.sameBut hs (Ne.symm (cne x c hc)),λj y v' e1 e2 e3=>?_⟩,λy c' e=>?_,I.free,I.freeC,λp hp=>?_,tracked ⟨oc,hoc,I.freeC x c hc⟩ hs,by simpa using I.len⟩ ⟨c,hs,.inr hc⟩
  ·exact (hs.2 b (Nat.ne_of_lt (Ag (Heap.lt_size e) (I.ok.cab x c hfn hc)))).trans (I.base.keep b o e n hb hx)
  ·obtain ⟨sl,e1⟩:=I.base.slot b o e n hb hx
   exact ⟨sl,(hs.2 b (Nat.ne_of_lt (Ag (Heap.lt_size e) (I.ok.cab x c hfn hc)))).trans e1⟩
  ·obtain ⟨o',e1⟩:=I.base.there b o e hx
   exact ⟨o',(hs.2 b (Nat.ne_of_lt (Ag (Heap.lt_size e) (I.ok.cab x c hfn hc)))).trans e1⟩
  ·by_cases hj:j=i
   ·subst hj
    rw [hi] at e1; cases e1
    rw [List.getElem?_set_self hiσ] at e2
    cases e2
    exact ⟨u,r,.inr ⟨.inl hk,c,hc,hc'⟩⟩
   ·rw [List.getElem?_set_ne (Ne.symm hj)] at e2
    obtain ⟨u',r',q⟩:=hl j y v' e1 e2 e3
    refine ⟨u',r',?_⟩
    rcases q with q | ⟨k,c',e,z'⟩
    ·exact .inl q
    ·refine .inr ⟨k,c',e,z'.sameBut hs ?_⟩
     rintro rfl
     exact hj (Za7 hN e1 (I.ok.inj _ _ _ e hc ▸ hi))
  ·by_cases hcc:c'=c
   ·subst hcc; exact ⟨_,hc'⟩
   ·obtain ⟨w2,z2⟩:=I.cell y c' e
    exact ⟨w2,z2.sameBut hs hcc⟩
  ·obtain ⟨e,n,ne,nf,d⟩:=I.pin p hp
   refine ⟨(hs.2 p.1 ?_).trans e,n,ne,nf,d⟩
   intro q
   rw [q,hoc] at e
   have q':oc=p.2:=Option.some.inj e
   exact d w' (by rw [<- q']; exact hocd)
theorem Qa {M:Model} {A:Around} {E:Value->Shared->Prop} {i:Nat} {x:Str} {v:V} {u:Value} {Q:Unit->Shared->Prop} (I:Inv X pins σ H s) (hN:X.N.Nodup) (hi:X.N[i]?=some x) (hx:Loc X.env.scope x) (r:RelV v u)
  (h:∀ s',Inv X pins (σ.set i (some v)) H s'->Q () s') (hf:X.fn x=true\/X.env.scope.names.lookup x=some .local:=by first | exact .inl rfl | exact .inr rfl | assumption):wpAny M A (storeName X.env x u) Q E s :=
 Gf I hN hi hx r (λs' I' _=>h s' I') hf
theorem Inv.call' {s':Shared} {ch:List Addr} (I:Inv X pins σ H s) (ho:s'.os=s.os) (u:Un (frs X.stack) ch H H' s.heap s'.heap) (hok:HOk X.prog X.w H' s'.heap) (hg:AllBare s'.gens)
  (hch:∀ b∈ch,(b∈X.ex\/X.s₀.heap.objs.size<=b)/\b≠X.env.locals/\(∀ x c,X.env.cells.lookup x=some c->c≠b)/\∀ p∈X.pn ++ pins,p.1≠b):Inv X pins σ H' s':=by
 obtain ⟨h',g',d',t',o'⟩:=s'
 have e:o'=s.os:=ho
 subst e
 exact I.call (g':=g') (t':=t') (d':=d') u hok hg hch
end
noncomputable abbrev XK:=Value->Option Addr->Hp->Prop
noncomputable abbrev St:=List (Option V)
noncomputable abbrev VK:=V->Hp->Prop
noncomputable abbrev TE:=St->Hp->VK->Prop
noncomputable abbrev TT:=St->Hp->(Bool->Hp->Prop)->Prop
noncomputable abbrev TA:=St->Hp->(List V->Hp->Prop)->Prop
structure Ends where
 nx:St->Hp->Prop
 rt:VK
 bk:St->Hp->Prop:=λ_ _=>False
 ct:St->Hp->Prop:=λ_ _=>False
noncomputable abbrev TS:=Ends->St->Hp->Prop
noncomputable def EP (X:Cx) (pins:List (Addr × Obj)) (σ:St) (Q:VK) (u:Value) (s':Shared):Prop:=∃ v H',Inv X pins σ H' s'/\RelV v u/\Q v H'
noncomputable def TP (X:Cx) (pins:List (Addr × Obj)) (σ:St) (Q:Bool->Hp->Prop) (b:Bool) (s':Shared):Prop:=∃ H',Inv X pins σ H' s'/\Q b H'
noncomputable def AP (X:Cx) (pins:List (Addr × Obj)) (σ:St) (Q:List V->Hp->Prop) (us:List Value) (s':Shared):Prop:=∃ vs H',Inv X pins σ H' s'/\Vals vs us/\Q vs H'
noncomputable def SP (X:Cx) (pins:List (Addr × Obj)) (D:Ends) (f:Flow) (s':Shared):Prop :=
 match f with
 | .next=>∃ σ' H',Inv X pins σ' H' s'/\D.nx σ' H'
 | .brk=>∃ σ' H',Inv X pins σ' H' s'/\D.bk σ' H'
 | .cont=>∃ σ' H',Inv X pins σ' H' s'/\D.ct σ' H'
 | .ret u=>∃ v σ' H',Inv X pins σ' H' s'/\RelV v u/\D.rt v H'
noncomputable def PE (X:Cx) (e:Expr) (t:TE):Prop :=
 ∀ (pins:List (Addr × Obj)) (s:Shared) (σ:St) (H:Hp) (Q:VK),Inv X pins σ H s->t σ H Q->wpAny (model X.prog X.w) X.A (eval e X.env) (EP X pins σ Q) X.xe s
noncomputable def PT (X:Cx) (e:Expr) (t:TT):Prop :=
 ∀ (pins:List (Addr × Obj)) (s:Shared) (σ:St) (H:Hp) (Q:Bool->Hp->Prop),Inv X pins σ H s->t σ H Q->wpAny (model X.prog X.w) X.A (isTrue e X.env (eval e X.env)) (TP X pins σ Q) X.xe s
noncomputable def PW (X:Cx) (e:Expr) (t:TT):Prop :=
 ∀ (whole:Sem Value) (pins:List (Addr × Obj)) (s:Shared) (σ:St) (H:Hp) (Q:Bool->Hp->Prop),Inv X pins σ H s->t σ H Q->wpAny (model X.prog X.w) X.A (isTrue e X.env whole) (TP X pins σ Q) X.xe s
theorem PW.pt {X:Cx} {e:Expr} {t:TT} (h:PW X e t):PT X e t:=h _
noncomputable def PA (X:Cx) (es:List Expr) (t:TA):Prop :=
 ∀ (pos:Pos) (pins:List (Addr × Obj)) (s:Shared) (σ:St) (H:Hp) (Q:List V->Hp->Prop),Inv X pins σ H s->t σ H Q->wpAny (model X.prog X.w) X.A (spliced (backTo pos (starEach es X.env))) (AP X pins σ Q) X.xe s
noncomputable def PS (X:Cx) (st:Stmt) (t:TS):Prop :=
 ∀ (pins:List (Addr × Obj)) (s:Shared) (σ:St) (H:Hp) (D:Ends),Inv X pins σ H s->t D σ H->wpAny (model X.prog X.w) X.A (exec st X.env) (SP X pins D) X.xe s
noncomputable def PSs (X:Cx) (st:List Stmt) (t:TS):Prop :=
 ∀ (pins:List (Addr × Obj)) (s:Shared) (σ:St) (H:Hp) (D:Ends),Inv X pins σ H s->t D σ H->wpAny (model X.prog X.w) X.A (execs st X.env) (SP X pins D) X.xe s
theorem thn {α:Type} {t:Sem α} {Q Q':α->Shared->Prop} {M:Model} {A:Around} {E:Value->Shared->Prop} {s:Shared} (h:wpAny M A t Q E s) (hQ:∀ a s,Q a s->Q' a s):wpAny M A t Q' E s:=wpAny_mono h hQ λ_ _ x=>x
section
variable {X:Cx}
noncomputable def tVar (i:Nat):TE:=λσ H Q=>∃ v,σ[i]?=some (some v)/\Q v H
noncomputable def tC (v:V):TE:=λ_ H Q=>Q v H
theorem Zlg {i:Nat} {x:Str} {pos:Pos} (hN:X.N[i]?=some x) (hv:Vis X.env.scope x) (hd:(x == ("__debug__":Str))=false:=by decide) (hcd:(x == ("__classdict__":Str))=false:=by decide):PE X (.Name x pos) (tVar i):=by
 intro pins s σ H Q I h
 obtain ⟨v,e,h⟩:=h
 obtain ⟨m,hn,hl⟩:=I.loc
 obtain ⟨u,r,l⟩:=hl i x v hN e hv
 have fin:EP X pins σ Q u s:=⟨v,H,I,r,h⟩
 rcases l with ⟨hk,hm⟩ | ⟨hk,c,hc,hcell⟩
 ·exact wpAny_Name (wpAny_loadName_local I.ok.kind hk hn hm fin) hd
 ·rcases hk with hk | hk
  ·exact wpAny_Name (wpAny_loadName_cell I.ok.kind hk hc hcell fin) hd
  ·exact wpAny_Name (wpAny_loadName_free I.ok.kind hk hc hcell fin hcd) hd
theorem Zf {i j pos}:PE X (.Constant (.int i) j pos) (tC (.int i)):=λ_ _ _ H _ I h=>wpAny_Constant_int ⟨.int i,H,I.tok _,⟨_,rfl⟩,h⟩
theorem Wf {b j pos}:PE X (.Constant (.bool b) j pos) (tC (.bl b)):=λ_ _ _ H _ I h=>Constant_bool ⟨.bl b,H,I,rfl,h⟩
theorem Jv {j pos}:PE X (.Constant .none j pos) (tC .non):=λ_ _ _ H _ I h=>Constant_none ⟨.non,H,I,rfl,h⟩
theorem Qd {x j pos}:PE X (.Constant (.str x) j pos) (tC (.str x)):=λ_ _ _ H _ I h=>Calls.Constant_str ⟨.str x,H,I.tok _,⟨_,rfl⟩,h⟩
noncomputable def Gl (X:Cx) (x:Str):Prop:=X.env.kindOf x=some .globalImplicit
theorem Qv {E:Value->Shared->Prop} {pins:List (Addr × Obj)} {s:Shared} {σ:St} {H:Hp} {x:Str} {u:Value} {pos:Pos} {Q:Value->Shared->Prop} (I:Inv X pins σ H s) (hg:Gl X x) (hm:X.mg x=some u) (h:Q u s)
  (hd:(x == ("__debug__":Str))=false:=by decide):wpAny (model X.prog X.w) X.A (eval (.Name x pos) X.env) Q E s :=
 Calls.Name_function_global I.ok.kind hg (Calls.loadGlobal_global (by rw [I.ok.glob]; exact I.mod.glob.keeps I.bk) hm h) hd
theorem Xe {E:Value->Shared->Prop} {pins:List (Addr × Obj)} {s:Shared} {σ:St} {H:Hp} {x:Str} {u:Value} {pos:Pos} {Q:Value->Shared->Prop} (I:Inv X pins σ H s) (hg:Gl X x) (hm:X.mg x=none) (hv:bootBuiltins x=some u) (h:Q u s)
  (hn:x≠"__name__":=by decide) (hd:(x == ("__debug__":Str))=false:=by decide):wpAny (model X.prog X.w) X.A (eval (.Name x pos) X.env) Q E s:=by
 obtain ⟨mb,h1,h2⟩:=I.mod.blt
 exact Calls.Name_function_global I.ok.kind hg (Calls.loadGlobal_builtin (by rw [I.ok.glob]; exact I.mod.glob.keeps I.bk) hm (by rw [I.ok.blt]; exact h1.keeps I.bk) ((h2 x hn).trans hv) h) hd
theorem Zc2 {x:Str} {v:V} {u:Value} {pos:Pos} (hg:Gl X x) (hm:X.mg x=some u) (r:RelV v u) (hd:(x == ("__debug__":Str))=false:=by decide):PE X (.Name x pos) (tC v) :=
 λ_ _ _ H _ I h=>Qv I hg hm ⟨v,H,I,r,h⟩ hd
theorem V9 {x:Str} {v:V} {u:Value} {pos:Pos} (hg:Gl X x) (hm:X.mg x=none) (hv:bootBuiltins x=some u) (r:RelV v u) (hn:x≠"__name__":=by decide) (hd:(x == ("__debug__":Str))=false:=by decide):PE X (.Name x pos) (tC v) :=
 λ_ _ _ H _ I h=>Xe I hg hm hv ⟨v,H,I,r,h⟩ hn hd
variable {a b:Expr} {ta tb:TE} {pos:Pos}
noncomputable def PC (X:Cx) (op:CmpOp) (a b:Expr) (t:TE):Prop :=
 ∀ (pins:List (Addr × Obj)) (s:Shared) (σ:St) (H:Hp) (Q:VK),Inv X pins σ H s->t σ H Q ->
  wpAny (model X.prog X.w) X.A (eval a X.env) (λv s₁=>wpAny (model X.prog X.w) X.A (eval b X.env) (λu s₂=>wpAny (model X.prog X.w) X.A (compareOp op v u) (EP X pins σ Q) X.xe s₂) X.xe s₁) X.xe s
noncomputable def tB (t:TE):TT:=λσ H Q=>t σ H λx H1=>∃ c,x=.bl c/\Q c H1
theorem Zfr {op:CmpOp} {t:TE} (h:PC X op a b t) (h1:behindInMarks op b=false:=by first | exact nobehind _ (by decide) (by decide) | rfl):PT X (.Compare a [op] [b] pos) (tB t):=by
 intro pins s σ H Q I hw
 refine wpAny_isTrue_Compare1 (thn (h pins s σ H _ I hw) λv s1 h1=>thn h1 λu s2 h2=>thn h2 λc s3 zz0=>?_) h1
 obtain ⟨x,H1,I1,r1,q1⟩:=zz0
 obtain ⟨d,rfl,q⟩:=q1
 cases r1
 exact wpAny_truthy_bool ⟨H1,I1,q⟩
theorem X5 {e:Expr} {t:TE} (h:PE X e t) (he:∀ whole,isTrue e X.env whole=(do let v <- whole; standAt e.pos; holding [v] (truthy v)):=by intro _; rfl):PT X e (tB t):=by
 intro pins s σ H Q I hw
 refine isTrue_plain (thn (h pins s σ H _ I hw) λv s1 zz1=>?_) (he _)
 obtain ⟨x,H1,I1,r1,q1⟩:=zz1
 obtain ⟨d,rfl,q⟩:=q1
 cases r1
 exact wpAny_truthy_bool ⟨H1,I1,q⟩
variable {tA tB':TT} {rest:List Expr}
noncomputable def tAnd (t u:TT):TT:=λσ H Q=>t σ H λc H1=>if c=true then u σ H1 Q else Q false H1
noncomputable def tOr (t u:TT):TT:=λσ H Q=>t σ H λc H1=>if c=true then Q true H1 else u σ H1 Q
noncomputable def tNot (t:TT):TT:=λσ H Q=>t σ H λc H1=>Q (!c) H1
theorem V7 (ha:PT X a tA):PW X (.BoolOp .And [a] pos) tA:=by
 intro wh pins s σ H Q I h
 refine isTrue_and (thn (ha pins s σ H Q I h) λc s1 e=>?_)
 cases c with
 | true=>exact isTrue_and_nil e
 | false=>exact e
theorem Qc (ha:PT X a tA):PW X (.BoolOp .Or [a] pos) tA:=by
 intro wh pins s σ H Q I h
 refine isTrue_or (thn (ha pins s σ H Q I h) λc s1 e=>?_)
 cases c with
 | false=>exact isTrue_or_nil e
 | true=>exact e
theorem Oz (ha:PT X a tA) (hb:PW X (.BoolOp .And (b :: rest) pos) tB'):PW X (.BoolOp .And (a :: b :: rest) pos) (tAnd tA tB'):=by
 intro wh pins s σ H Q I h
 refine isTrue_and (thn (ha pins s σ H _ I h) λc s1 zz9=>?_)
 obtain ⟨H1,I1,q1⟩:=zz9
 cases c with
 | true=>exact hb wh pins s1 σ H1 Q I1 q1
 | false=>exact ⟨H1,I1,q1⟩
theorem Q5 (ha:PT X a tA) (hb:PW X (.BoolOp .Or (b :: rest) pos) tB'):PW X (.BoolOp .Or (a :: b :: rest) pos) (tOr tA tB'):=by
 intro wh pins s σ H Q I h
 refine isTrue_or (thn (ha pins s σ H _ I h) λc s1 zz9=>?_)
 obtain ⟨H1,I1,q1⟩:=zz9
 cases c with
 | true=>exact ⟨H1,I1,q1⟩
 | false=>exact hb wh pins s1 σ H1 Q I1 q1
theorem X6 (ha:PT X a tA):PT X (.UnaryOp .Not a pos) (tNot tA):=by
 intro pins s σ H Q I h
 exact isTrue_not (ha pins s σ H (λc H1=>Q (!c) H1) I h)
noncomputable def Zmi (ta tb:TE):TE:=λσ H Q=>ta σ H λx H1=>∃ c,x=.bl c/\if c=true then tb σ H1 Q else Q (.bl false) H1
noncomputable def Zme (ta:TE):TE:=λσ H Q=>ta σ H λx H1=>∃ c,x=.bl c/\Q (.bl (!c)) H1
theorem Zaw {op} {t:TE} (h:PE X a t):PE X (.BoolOp op [a] pos) t:=λpins s σ H Q I hw=>BoolOp_one (h pins s σ H Q I hw)
theorem Zaz (ha:PE X a ta) (hb:PE X (.BoolOp .And (b :: rest) pos) tb):PE X (.BoolOp .And (a :: b :: rest) pos) (Zmi ta tb):=by
 intro pins s σ H Q I h
 refine BoolOp_and (thn (ha pins s σ H _ I h) λv s1 zz9=>?_)
 obtain ⟨x,H1,I1,r1,q1⟩:=zz9
 obtain ⟨c,rfl,q1⟩:=q1
 cases r1
 refine wpAny_truthy_bool ?_
 cases c with
 | true=>exact hb pins s1 σ H1 Q I1 q1
 | false=>exact ⟨.bl false,H1,I1,rfl,q1⟩
theorem Zlh (ha:PE X a ta):PE X (.UnaryOp .Not a pos) (Zme ta):=by
 intro pins s σ H Q I h
 refine UnaryOp_ (thn (ha pins s σ H _ I h) λv s1 zz9=>?_)
 obtain ⟨x,H1,I1,r1,q1⟩:=zz9
 obtain ⟨c,rfl,q1⟩:=q1
 cases r1
 exact not_of (wpAny_truthy_bool ⟨.bl (!c),H1,I1,rfl,q1⟩)
noncomputable def tIf (t:TT) (ta tb:TE):TE:=λσ H Q=>t σ H λc H1=>if c=true then ta σ H1 Q else tb σ H1 Q
theorem Zax {c:Expr} (hc:PT X c tA) (ha:PE X a ta) (hb:PE X b tb):PE X (.IfExp c a b pos) (tIf tA ta tb):=by
 intro pins s σ H Q I h
 refine wpAny_IfExp (thn (hc pins s σ H _ I h) λd s1 zz9=>?_)
 obtain ⟨H1,I1,q1⟩:=zz9
 cases d with
 | true=>exact ha pins s1 σ H1 Q I1 q1
 | false=>exact hb pins s1 σ H1 Q I1 q1
end
noncomputable def SqL (K:PySem.W.Frag) (H:Hp) (a:Addr) (xs:List V):Prop :=
 Rd H a (.lst xs) \/
  ∃ (o:Obj) (its:Array Value) (n:Nat),K.lookup a=some o/\o.cls=.type "list"/\o.dict=none/\o.data=.seq its n/\its.size<=sizeLine/\Vals xs its.toList
noncomputable def SqT (K:PySem.W.Frag) (H:Hp) (a:Addr) (xs:List V):Prop :=
 Rd H a (.tup xs) \/
  ∃ (o:Obj) (its:Array Value) (n:Nat),K.lookup a=some o/\o.cls=.type "tuple"/\o.data=.seq its n/\its.size<=sizeLine/\Vals xs its.toList
noncomputable def absV:Value->Option V
 | .none=>some .non
 | .bool b=>some (.bl b)
 | .int i _=>some (.int i)
 | .str x _=>some (.str x)
 | .bytes b _=>some (.byt b)
 | .float b _=>some (.flt b)
 | .ref a=>some (.ref a)
 | .type n=>some (.ty n)
 | _=>none
theorem RelV.abs {x:V} {u:Value} (r:RelV x u):absV u=some x:=by
 cases x with
 | non=>cases r; rfl
 | bl _=>cases r; rfl
 | int _=>obtain ⟨t,rfl⟩:=r; rfl
 | str _=>obtain ⟨t,rfl⟩:=r; rfl
 | byt _=>obtain ⟨t,rfl⟩:=r; rfl
 | flt _=>obtain ⟨t,rfl⟩:=r; rfl
 | ref _=>cases r; rfl
 | ty _=>cases r; rfl
theorem RelV.inj {x y:V} {u:Value} (r:RelV x u) (q:RelV y u):x=y:=Option.some.inj (r.abs.symm.trans q.abs)
theorem Vals.inj:∀ {xs ys:List V} {us:List Value},Vals xs us->Vals ys us->xs=ys
 | _,_,_,.nil,.nil=>rfl
 | _,_,_,.cons r t,.cons r' t'=>by rw [r.inj r',Vals.inj t t']
section
variable {X:Cx} {pins:List (Addr × Obj)} {σ:St} {H:Hp} {s:Shared} {a:Addr} {xs ys:List V}
theorem SqL.of {K:PySem.W.Frag} (h:H a=some (.lst xs)):SqL K H a xs:=.inl (.inl h)
theorem SqT.of {K:PySem.W.Frag} (h:H a=some (.tup xs)):SqT K H a xs:=.inl (.inl h)
theorem Inv.list (I:Inv X pins σ H s) (h:SqL X.K H a xs):∃ its:List Value,Vals xs its/\PlainL s.heap a its.toArray/\xs.length<=sizeLine:=by
 rcases h with h | ⟨o,its,n,hk,hc,hd,hs,hz,r⟩
 ·obtain ⟨z,its,n,r,e⟩:=h.ok I.hok
  exact ⟨its,r,⟨_,n,e,rfl,rfl,rfl⟩,z⟩
 ·refine ⟨its.toList,r,⟨o,n,I.kIn a o hk,hc,hd,by simpa using hs⟩,?_⟩
  have e:=r.length
  simp only [Array.length_toList] at e
  lia
theorem Inv.tuple (I:Inv X pins σ H s) (h:SqT X.K H a xs):∃ its:List Value,Vals xs its/\IsTup s.heap a its.toArray/\xs.length<=sizeLine:=by
 rcases h with h | ⟨o,its,n,hk,hc,hs,hz,r⟩
 ·obtain ⟨z,its,r,p⟩:=h.ok I.hok
  exact ⟨its,r,p,z⟩
 ·refine ⟨its.toList,r,⟨o,I.kIn a o hk,hc,n,by simpa using hs⟩,?_⟩
  have e:=r.length
  simp only [Array.length_toList] at e
  lia
theorem Inv.list_inj (I:Inv X pins σ H s) (h:SqL X.K H a xs) (h':SqL X.K H a ys):xs=ys:=by
 obtain ⟨its,r,⟨o,n,e,_,_,d⟩,_⟩:=I.list h
 obtain ⟨its',r',⟨o',n',e',_,_,d'⟩,_⟩:=I.list h'
 rw [e] at e'; cases e'
 rw [d] at d'
 injection d' with d1 _
 have:its=its':=by simpa using congrArg Array.toList d1
 subst this
 exact r.inj r'
theorem Inv.tuple_inj (I:Inv X pins σ H s) (h:SqT X.K H a xs) (h':SqT X.K H a ys):xs=ys:=by
 obtain ⟨its,r,⟨o,e,_,n,d⟩,_⟩:=I.tuple h
 obtain ⟨its',r',⟨o',e',_,n',d'⟩,_⟩:=I.tuple h'
 rw [e] at e'; cases e'
 rw [d] at d'
 injection d' with d1 _
 have:its=its':=by simpa using congrArg Array.toList d1
 subst this
 exact r.inj r'
end
noncomputable abbrev Cx.wish (X:Cx) (E:Value->Shared->Prop):Cx:={ X with xe:=E }
noncomputable abbrev Cx.nox (X:Cx):Cx:=X.wish λ_ _=>False
theorem Cx.Ok.wish {X:Cx} (ok:X.Ok) (E:Value->Shared->Prop):(X.wish E).Ok :=
 ⟨ok.mod,ok.kind,ok.glob,ok.blt,ok.above,ok.inj,ok.has,ok.cab,ok.hd,ok.frames,ok.stk,ok.exf,ok.bs,ok.bsz,ok.noex,ok.exfs,ok.funs,ok.frf⟩
theorem Cx.Ok.unwish {X:Cx} {E:Value->Shared->Prop} (ok:(X.wish E).Ok):X.Ok :=
 ⟨ok.mod,ok.kind,ok.glob,ok.blt,ok.above,ok.inj,ok.has,ok.cab,ok.hd,ok.frames,ok.stk,ok.exf,ok.bs,ok.bsz,ok.noex,ok.exfs,ok.funs,ok.frf⟩
section
variable {X:Cx} {pins:List (Addr × Obj)} {σ:St} {H:Hp} {s:Shared} {E:Value->Shared->Prop}
theorem Inv.wish (I:Inv X pins σ H s) (E:Value->Shared->Prop):Inv (X.wish E) pins σ H s:=⟨I.ok.wish E,I.os,I.bare,I.base,I.loc,I.cell,I.free,I.freeC,I.pin,I.hok,I.len⟩
theorem Inv.unwish (I:Inv (X.wish E) pins σ H s):Inv X pins σ H s:=⟨I.ok.unwish,I.os,I.bare,I.base,I.loc,I.cell,I.free,I.freeC,I.pin,I.hok,I.len⟩
theorem SP.unwish {D:Ends} {f:Flow} {s':Shared} (h:SP (X.wish E) pins D f s'):SP X pins D f s':=by
 cases f with
 | next=>obtain ⟨σ',H',I,q⟩:=h; exact ⟨σ',H',I.unwish,q⟩
 | brk=>obtain ⟨σ',H',I,q⟩:=h; exact ⟨σ',H',I.unwish,q⟩
 | cont=>obtain ⟨σ',H',I,q⟩:=h; exact ⟨σ',H',I.unwish,q⟩
 | ret u=>obtain ⟨v,σ',H',I,r,q⟩:=h; exact ⟨v,σ',H',I.unwish,r,q⟩
theorem PSs.nox {st:List Stmt} {t:TS} (h:PSs X.nox st t):PSs X st t:=λpins s σ H D I hw =>
 wpAny_mono (h pins s σ H D (I.wish _) hw) (λ_ _ q=>q.unwish) λ_ _ z=>False.elim z
end
section
variable {X:Cx} {st:Stmt} {rest:List Stmt} {t u:TS} {e:Expr} {te:TE} {pos:Pos}
noncomputable def Xx:TS:=λD σ H=>D.nx σ H
noncomputable def tSeq (t u:TS):TS:=λD σ H=>t { D with nx:=u D } σ H
theorem Zv:PSs X [] Xx:=λ_ _ σ H _ I h=>wpAny_execs_nil ⟨σ,H,I,h⟩
theorem Zd (h1:PS X st t) (h2:PSs X rest u):PSs X (st :: rest) (tSeq t u):=by
 intro pins s σ H D I h
 refine wpAny_execs_cons (thn (h1 pins s σ H { D with nx:=u D } I h) λf s1 q=>?_)
 cases f with
 | next =>
  obtain ⟨σ',H',I',q⟩:=q
  exact h2 pins s1 σ' H' D I' q
 | ret v=>exact q
 | brk=>exact q
 | cont=>exact q
theorem Zg (h1:PS X st t):PSs X [st] t:=by
 intro pins s σ H D I h
 refine wpAny_execs_cons (thn (h1 pins s σ H D I h) λf s1 q=>?_)
 cases f with
 | next=>exact wpAny_execs_nil q
 | ret v=>exact q
 | brk=>exact q
 | cont=>exact q
noncomputable def Zk3:TS:=λD σ H=>D.bk σ H
theorem Zho:PS X (.Break pos) Zk3:=λ_ _ σ H _ I h=>wpAny_Break ⟨σ,H,I,h⟩
theorem Inv.quiet {pins:List (Addr × Obj)} {σ:St} {H:Hp} {s:Shared} (I:Inv X pins σ H s):interactive X.env=false:=by simp [interactive,I.ok.kind]
noncomputable def Zio (te:TE):TS:=λD σ H=>te σ H λ_ H1=>D.nx σ H1
theorem Yg (he:PE X e te) (hs:swapsWith e none pos.line X.env=pure false:=by rfl):PS X (.Expr e pos) (Zio te):=by
 intro pins s σ H D I h
 refine wpAny_Expr_any (thn (he pins s σ H _ I h) λv s1 zz2=>?_) I.quiet hs
 obtain ⟨x,H1,I1,r1,q1⟩:=zz2
 exact ⟨σ,H1,I1,q1⟩
noncomputable def tRet (te:TE):TS:=λD σ H=>te σ H D.rt
theorem Zr (he:PE X e te):PS X (.Return (some e) pos) (tRet te):=by
 intro pins s σ H D I h
 refine wpAny_Return_some (thn (he pins s σ H _ I h) λv s1 zz3=>?_)
 obtain ⟨x,H1,I1,r1,q1⟩:=zz3
 exact ⟨x,σ,H1,I1,r1,q1⟩
noncomputable def tIfS (c:TT) (t u:TS):TS:=λD σ H=>c σ H λb H1=>if b=true then t D σ H1 else u D σ H1
theorem Z4 {c:Expr} {a b:List Stmt} {tc:TT} (hc:PT X c tc) (ha:PSs X a t) (hb:PSs X b u):PS X (.If c a b pos) (tIfS tc t u):=by
 intro pins s σ H D I h
 refine wpAny_If (thn (hc pins s σ H _ I h) λd s1 zz9=>?_)
 obtain ⟨H1,I1,q1⟩:=zz9
 cases d with
 | true=>exact ha pins s1 σ H1 D I1 q1
 | false=>exact hb pins s1 σ H1 D I1 q1
noncomputable def Zkw:TS:=λ_ _ _=>False
theorem Xd {sts:List Stmt}:PSs X sts Zkw:=λ_ _ _ _ _ _ h=>h.elim
end
noncomputable abbrev TG:=V->St->Hp->(St->Hp->Prop)->Prop
noncomputable abbrev TGs:=List V->St->Hp->(St->Hp->Prop)->Prop
noncomputable def PG (X:Cx) (target:Expr) (t:TG):Prop :=
 ∀ (pins:List (Addr × Obj)) (s:Shared) (σ:St) (H:Hp) (v:V) (u:Value) (Q:St->Hp->Prop),Inv X pins σ H s->RelV v u->t v σ H Q ->
  wpAny (model X.prog X.w) X.A (assign target X.env u) (λ_ s'=>∃ σ' H',Inv X pins σ' H' s'/\Q σ' H') X.xe s
noncomputable def PGs (X:Cx) (ts:List Expr) (t:TGs):Prop :=
 ∀ (pins:List (Addr × Obj)) (s:Shared) (σ:St) (H:Hp) (vs:List V) (us:List Value) (Q:St->Hp->Prop),Inv X pins σ H s->Vals vs us->t vs σ H Q ->
  wpAny (model X.prog X.w) X.A (assignInOrder ((assignEach ts X.env).map (·.2)) us) (λ_ s'=>∃ σ' H',Inv X pins σ' H' s'/\Q σ' H') X.xe s
noncomputable abbrev TSet:=V->V->V->Hp->(Hp->Prop)->Prop
noncomputable def PSet (X:Cx) (t:TSet):Prop :=
 ∀ (pins:List (Addr × Obj)) (s:Shared) (σ:St) (H:Hp) (o i v:V) (ov iv u:Value) (Q:Hp->Prop),Inv X pins σ H s->RelV o ov->RelV i iv->RelV v u->t o i v H Q ->
  wpAny (model X.prog X.w) X.A (setItem ov iv u) (λ_ s'=>∃ H',Inv X pins σ H' s'/\Q H') X.xe s
section
variable {X:Cx} {pos:Pos}
noncomputable def Zl (i:Nat):TG:=λv σ H Q=>Q (σ.set i (some v)) H
theorem Zq {i:Nat} {x:Str} (hN:X.N.Nodup) (hi:X.N[i]?=some x) (hx:Loc X.env.scope x) (hf:X.fn x=true\/X.env.scope.names.lookup x=some .local:=by first | exact .inl rfl | exact .inr rfl | assumption):PG X (.Name x pos) (Zl i):=by
 intro pins s σ H v u Q I r h
 exact wpAny_assign_Name (Qa I hN hi hx r (λs' I'=>⟨_,H,I',h⟩) hf)
noncomputable def gNil:TGs:=λvs σ H Q=>vs=[]/\Q σ H
noncomputable def Zmy (t:TG) (u:TGs):TGs:=λvs σ H Q=>∃ v r,vs=v :: r/\t v σ H λσ' H'=>u r σ' H' Q
theorem Je:PGs X [] gNil:=by
 intro pins s σ H vs us Q I r h
 obtain ⟨e,h⟩:=h
 subst e
 cases r
 exact assignInOrder_nil ⟨σ,H,I,h⟩
theorem Yj {e:Expr} {es:List Expr} {t:TG} {u:TGs} (h1:PG X e t) (h2:PGs X es u)
  (hs:(assignEach (e :: es) X.env).map (·.2)=assign e X.env :: (assignEach es X.env).map (·.2):=by rfl):PGs X (e :: es) (Zmy t u):=by
 intro pins s σ H vs us Q I r h
 obtain ⟨v,vr,e1,h⟩:=h
 subst e1
 cases r with
 | cons r rr =>
  rw [hs]
  refine assignInOrder_cons (thn (h1 pins s σ H _ _ _ I r h) λ_ s1 zz9=>?_)
  obtain ⟨σ1,H1,I1,q1⟩:=zz9
  exact h2 pins s1 σ1 H1 _ _ Q I1 rr q1
noncomputable def gTup (K:PySem.W.Frag) (n:Nat) (t:TGs):TG:=λv σ H Q=>∃ a xs,v=.ref a/\SqT K H a xs/\xs.length=n/\t xs σ H Q
theorem Qt {es:List Expr} {k:Nat} {t:TGs} {n:Nat} (hc:X.calm=true) (h:PGs X es t)
  (hn:(assignEach es X.env).length=n:=by rfl) (hst:(assignEach es X.env).findIdx? (·.1)=none:=by rfl):PG X (.Tuple es k pos) (gTup X.K n t):=by
 intro pins s σ H v u Q I r hw
 obtain ⟨a,xs,e1,hq,hl,hw⟩:=hw
 subst e1
 cases r
 obtain ⟨its,rv,ht,hz⟩:=I.tuple hq
 refine assign_Tuple_tuple (I.ok.hd hc) ht (by simp [hn,<- hl,rv.length]) hst λh' hx=>?_
 have I1:Inv X pins σ H { s with heap:=h' }:=I.kept (t':=s.toks) λb o e=>hx b o (Nat.ne_of_lt (Heap.lt_size e)) e
 exact h pins _ σ H xs _ Q I1 (by simpa using rv) hw
noncomputable def gSub (to ti:TE) (t:TSet):TG:=λv σ H Q=>to σ H λo H1=>ti σ H1 λi H2=>t o i v H2 λH3=>Q σ H3
theorem Ju {o i:Expr} {to ti:TE} {t:TSet} (ho:PE X o to) (hi:PE X i ti) (hs:PSet X t)
  (ha:∀ v,assign (.Subscript o i pos) X.env v=(do
   let ov <- holding [v] (eval o X.env)
   let iv <- holding [v,ov] (eval i X.env)
   standAt pos
   holding [v,ov,iv] (setItem ov iv v)
   release [v,ov,iv] []):=by intro _; rfl):PG X (.Subscript o i pos) (gSub to ti t):=by
 intro pins s σ H v u Q I r h
 rw [ha]
 refine Al (wpAny_holding (thn (ho pins s σ H _ I h) λov s1 zz9=>?_))
 obtain ⟨x,H1,I1,r1,q1⟩:=zz9
 refine Al (wpAny_holding (thn (hi pins s1 σ H1 _ I1 q1) λiv s2 zz9=>?_))
 obtain ⟨y,H2,I2,r2,q2⟩:=zz9
 refine Al (wpAny_standAt (Al (wpAny_holding (thn (hs pins s2 σ H2 x y v ov iv u _ I2 r1 r2 r q2) λ_ s3 zz9=>?_))))
 obtain ⟨H3,I3,q3⟩:=zz9
 exact wpAny_release ⟨σ,H3,I3,q3⟩
noncomputable def tAsg (te:TE) (g:TG):TS:=λD σ H=>te σ H λx H1=>g x σ H1 D.nx
theorem X7 {tg e:Expr} {te:TE} {g:TG} (he:PE X e te) (hg:PG X tg g) (hs:swapsWithSole [tg] e pos.line X.env=pure false:=by rfl) (hw:swappedStores [tg] e X.env=pure none:=by rfl)
  (h1:(assignEach [tg] X.env).map (·.2)=[assign tg X.env]:=by rfl):PS X (.Assign [tg] e pos) (tAsg te g):=by
 intro pins s σ H D I h
 refine wpAny_Assign_stores (thn (he pins s σ H _ I h) λv s1 zz4=>?_) hs hw
 obtain ⟨x,H1,I1,r1,q1⟩:=zz4
 rw [h1]
 exact thn (hg pins s1 σ H1 x v _ I1 r1 q1) λ_ s2 q=>q
theorem Zo {i:Nat} {x:Str} {e:Expr} {te:TE} {pos':Pos} (hN:X.N.Nodup) (hi:X.N[i]?=some x) (hx:Loc X.env.scope x) (he:PE X e te) (hs:swapsWith e (some (.Name x pos')) pos.line X.env=pure false:=by rfl) (hf:X.fn x=true\/X.env.scope.names.lookup x=some .local:=by first | exact .inl rfl | exact .inr rfl | assumption) :
  PS X (.Assign [.Name x pos'] e pos) (tAsg te (Zl i)):=by
 intro pins s σ H D I h
 refine wpAny_Assign_Name (thn (he pins s σ H _ I h) λv s1 zz5=>?_) hs
 obtain ⟨y,H1,I1,r1,q1⟩:=zz5
 exact Qa I1 hN hi hx r1 (λs2 I2=>⟨_,H1,I2,q1⟩) hf
noncomputable def tPar (i j:Nat) (ta:TA):TS:=λD σ H=>ta σ H λvs H1=>∃ v w,vs=[v,w]/\D.nx ((σ.set i (some v)).set j (some w)) H1
theorem Zlc {i j:Nat} {x y:Str} {a b:Expr} {ta:TA} {px py pt:Pos} {kt k2 pt2} (hc:X.calm=true) (hN:X.N.Nodup) (hi:X.N[i]?=some x) (hj:X.N[j]?=some y) (hij:i≠j)
  (hx:X.env.scope.names.lookup x=some .local) (hy:X.env.scope.names.lookup y=some .local) (ha:PA X [a,b] ta)
  (hw:swappedStores [.Tuple [.Name x px,.Name y py] kt pt] (.Tuple [a,b] k2 pt2) X.env=pure (some [x,y]))
  (hs:swapsWithSole [.Tuple [.Name x px,.Name y py] kt pt] (.Tuple [a,b] k2 pt2) pos.line X.env=pure false:=by rfl) :
  PS X (.Assign [.Tuple [.Name x px,.Name y py] kt pt] (.Tuple [a,b] k2 pt2) pos) (tPar i j ta):=by
 intro pins s σ H D I h
 rw [exec_Assign_arm]
 refine Al (wpAny_standAt ?_)
 rw [hs]
 refine Al (wpAny_pure ?_)
 rw [if_neg (by decide)]
 refine Al (Tuple_ (thn (ha _ pins s σ H _ I h) λus s1 zz9=>?_))
 obtain ⟨vs,H1,I1,r1,q1⟩:=zz9
 obtain ⟨v,w,e1,q1⟩:=q1
 subst e1
 obtain ⟨u1,u2,rfl,rv,rw'⟩:∃ u1 u2,us=[u1,u2]/\RelV v u1/\RelV w u2:=by
  cases r1 with
  | cons p q =>
   cases q with
   | cons p' q' =>
    cases q'
    exact ⟨_,_,rfl,p,p'⟩
 refine wpAny_newObj_type ?_ (by show 2<=sizeLine; decide)
 have I2:Inv X pins σ H1 { s1 with heap:=s1.heap.push { cls:=.type "tuple",data:=.seq [u1,u2].toArray } }:=I1.kept (t':=s1.toks) λb o e=>Ak _ e
 rw [hw]
 refine Al (wpAny_pure ?_)
 show wpAny (model X.prog X.w) X.A (do rule "assign.swapped-stores"; let items <- unpackItems (.ref s1.heap.objs.size) 2 none; assignInOrder [λv=>bindName X.env y v,λv=>bindName X.env x v] items.reverse; pure Flow.next) _ _ _
 refine Al (wpAny_rule (Al (unpackItems_tuple (items:=#[u1,u2]) (I.ok.hd hc) (IsTup.new s1.heap _) λh' hx'=>?_)))
 have I3:=I2.kept (h':=h') (t':=s1.toks) λb o e=>hx' b o (Nat.ne_of_lt (Heap.lt_size e)) e
 show wpAny _ _ (assignInOrder [λv=>bindName X.env y v,λv=>bindName X.env x v] [u2,u1] >>= λ_=>pure Flow.next) _ _ _
 refine Al (assignInOrder_cons (wpAny_bindName (Qa I3 hN hj (.inl hy) rw' (λs2 I4=>?_) (.inr hy))))
 refine assignInOrder_cons (wpAny_bindName (Qa I4 hN hi (.inl hx) rv (λs3 I5=>assignInOrder_nil (wpAny_pure ?_)) (.inr hx)))
 rw [List.set_comm _ _ (Ne.symm hij)] at I5
 exact ⟨_,H1,I5,q1⟩
end
section
variable {X:Cx} {pos:Pos}
noncomputable def J9 (c:TT) (tb:TS):TS:=λD σ H=>∃ W:Nat->St->Hp->Prop,(∃ m,W m σ H)/\∀ m σ H,W m σ H ->
 c σ H λb H1=>if b=true then ∃ N:St->Hp->Prop,(∀ σ' H',N σ' H'->∃ m',m' < m/\W m' σ' H')/\tb { D with nx:=N,ct:=N,bk:=D.nx } σ H1 else D.nx σ H1
theorem Jc {c:Expr} {body:List Stmt} {tc:TT} {tb:TS} (hp:PassesOwn (model X.prog X.w) X.A X.env X.xe) (hc:PT X c tc) (hb:PSs X body tb):PS X (.While c body [] pos) (J9 tc tb):=by
 intro pins s σ H D I h
 obtain ⟨W,⟨m0,w0⟩,turn⟩:=h
 refine wpAny_While (codeAny_whileLoop (λn s'=>∃ σ' H',Inv X pins σ' H' s'/\W n σ' H') ?_ m0 ⟨σ,H,I,w0⟩)
 rintro n s1 ⟨σ1,H1,I1,w1⟩
 refine wpAny_passesOwn hp (thn (hc pins s1 σ1 H1 _ I1 (turn n σ1 H1 w1)) λb s2 zz9=>?_)
 obtain ⟨H2,I2,q2⟩:=zz9
 cases b with
 | true =>
  obtain ⟨N,hN,q2⟩:=q2
  rw [if_pos rfl]
  refine wpAny_passesOwn hp (thn (hb pins s2 σ1 H2 _ I2 q2) λf s3 q3=>?_)
  cases f with
  | next =>
   obtain ⟨σ3,H3,I3,n3⟩:=q3
   obtain ⟨m',hm,w3⟩:=hN σ3 H3 n3
   exact ⟨m',hm,σ3,H3,I3,w3⟩
  | cont =>
   obtain ⟨σ3,H3,I3,n3⟩:=q3
   obtain ⟨m',hm,w3⟩:=hN σ3 H3 n3
   exact ⟨m',hm,σ3,H3,I3,w3⟩
  | brk=>exact q3
  | ret v=>exact q3
 | false =>
  rw [if_neg Bool.false_ne_true]
  exact wpAny_execs_nil ⟨σ1,H2,I2,q2⟩
end
structure It where
 go:Nat->Hp->Prop
 yld:Nat->Hp->V->Hp->Prop
 stop:Nat->Hp->Prop
noncomputable def FpOk (X:Cx) (pins:List (Addr × Obj)) (H:Hp) (b:Addr):Prop :=
 H b=none/\b≠X.env.locals/\b ∉ X.fs/\(b∈X.ex\/X.s₀.heap.objs.size<=b)/\(∀ x c,X.env.cells.lookup x=some c->c≠b)/\∀ p∈X.pn ++ pins,p.1≠b
theorem Inv.fpOk {X:Cx} {pins:List (Addr × Obj)} {σ:St} {H H':Hp} {s:Shared} {b:Addr} (I:Inv X pins σ H s) (hb:s.heap.objs.size<=b) (hn:H' b=none):FpOk X pins H' b:=by
 refine ⟨hn,Nat.ne_of_gt (Ag I.lt hb),I.nofs hb,.inr (Nat.le_trans I.sz hb),λx c e z=>?_,λp hp z=>?_⟩
 ·obtain ⟨v,q⟩:=I.cell x c e
  exact absurd (Ag q.lt (by rw [z]; exact hb)) (Nat.lt_irrefl _)
 ·exact absurd (Ag (Heap.lt_size (I.pin p hp).1) (by rw [z]; exact hb)) (Nat.lt_irrefl _)
structure Turn (P:Program) (w:World) (K:PySem.W.Frag) (tg:Expr) (J:It) (fp:List Addr) (it:Addr) (tn:Nat->Heap->Prop):Prop where
 mem:it∈fp
 obj:∀ i h,tn i h->∀ b∈fp,∃ o,h.get? b=some o/\∀ v,o.data≠.cell v
 keep:∀ i h h',tn i h->(∀ b∈fp,∀ o,h.get? b=some o->h'.get? b=some o)->tn i h'
 item:∀ (X:Cx),X.prog=P->X.w=w->X.K=K->X.calm=true->∀ (i:Nat) (pins:List (Addr × Obj)) (s:Shared) (σ:St) (H:Hp) (E:Value->Shared->Prop),Inv X pins σ H s->(∀ b∈fp,FpOk X pins H b)->tn i s.heap->J.go i H ->
  wpAny (model P w) X.A (pyNext (.ref it)) (λr s1=>∃ u,r=some u /\
   wpAny (model P w) X.A (letOwnedTupleGo tg (.ref it) u) (λ_ s2=>∃ x H',Inv X pins σ H' s2/\RelV x u/\J.yld i H x H'/\tn (i + 1) s2.heap/\∀ b∈fp,H' b=none) E s1) E s
 done:∀ (X:Cx),X.prog=P->X.w=w->X.K=K->X.calm=true->∀ (i:Nat) (pins:List (Addr × Obj)) (s:Shared) (σ:St) (H:Hp) (E:Value->Shared->Prop),Inv X pins σ H s->(∀ b∈fp,FpOk X pins H b)->tn i s.heap->J.stop i H ->
  wpAny (model P w) X.A (pyNext (.ref it)) (λr s1=>r=none/\Inv X pins σ H s1) E s
 self:∀ (A:Around) (i:Nat) (s:Shared) (Q:Value->Shared->Prop) (E:Value->Shared->Prop),tn i s.heap->Q (.ref it) s->wpAny (model P w) A (pyIter (.ref it)) Q E s
noncomputable abbrev TI:=St->Hp->(It->Hp->Prop)->Prop
noncomputable def PIE (X:Cx) (pins:List (Addr × Obj)) (σ:St) (tg:Expr) (R:It->Hp->Prop) (itv:Value) (s2:Shared):Prop :=
 ∃ (it:Addr) (fp:List Addr) (tn:Nat->Heap->Prop) (J:It) (H':Hp),itv=.ref it/\Inv X pins σ H' s2/\Turn X.prog X.w X.K tg J fp it tn/\tn 0 s2.heap/\(∀ b∈fp,FpOk X pins H' b)/\R J H'
noncomputable def PI (X:Cx) (tg iter:Expr) (wi:TI):Prop :=
 ∀ (pins:List (Addr × Obj)) (s:Shared) (σ:St) (H:Hp) (R:It->Hp->Prop),Inv X pins σ H s->wi σ H R ->
  wpAny (model X.prog X.w) X.A (eval iter X.env) (λv s1=>wpAny (model X.prog X.w) X.A (pyIter v) (PIE X pins σ tg R) X.xe s1) X.xe s
theorem Uh {M:Model} {A:Around} {E:Value->Shared->Prop} {s:Shared} {tg:Expr} {it:Addr} {u:Value} {o:Obj} {n:String} {vs:Array Value} {Q:Unit->Shared->Prop} (ho:s.heap.get? it=some o) (hc:o.cls=.type n) (hd:o.data=.fields vs)
    (hn:["enumerate","zip","dict_itemiterator","dict_reverseitemiterator","odict_iterator","itertools.zip_longest","itertools.pairwise"].contains n=false) (hQ:Q () s):wpAny M A (letOwnedTupleGo tg (.ref it) u) Q E s:=by
  unfold letOwnedTupleGo
  cases tg <;> first
    | exact wpAny_pure hQ
    | (cases u <;> first
        | exact wpAny_pure hQ
        | (refine Al (wpAny_load ho ?_)
           rw [hc,hd]
           show wpAny M A (if (["enumerate","zip","dict_itemiterator","dict_reverseitemiterator","odict_iterator","itertools.zip_longest","itertools.pairwise"].contains n && vs[0]? == some (rawInt _))=true then _ else _) Q E s
           rw [if_neg (by intro h; rw [hn,Bool.false_and] at h; cases h)]
           exact wpAny_pure hQ))
noncomputable def Itl (K:PySem.W.Frag) (a:Addr):It :=
 ⟨λi H=>∃ xs x,SqL K H a xs/\xs[i]?=some x,λi H x H'=>H'=H/\∀ xs,SqL K H a xs->xs[i]?=some x,λi H=>∃ xs,SqL K H a xs/\xs.length<=i⟩
noncomputable def Itt (K:PySem.W.Frag) (a:Addr):It :=
 ⟨λi H=>∃ xs x,SqT K H a xs/\xs[i]?=some x,λi H x H'=>H'=H/\∀ xs,SqT K H a xs->xs[i]?=some x,λi H=>∃ xs,SqT K H a xs/\xs.length<=i⟩
noncomputable def Itr (lo:Int) (n:Nat):It:=⟨λi _=>i < n,λi H x H'=>H'=H/\x=.int (lo + i),λi _=>n<=i⟩
theorem Ze4 {P:Program} {w:World} {K:PySem.W.Frag} {tg:Expr} (a it:Addr):Turn P w K tg (Itl K a) [it] it (λi h=>h.IsListIter it a i) where
 mem:=by simp
 obj:=λi h st b hb=>by
  have e:b=it:=by simpa using hb
  subst e
  obtain ⟨o,e,c,d⟩:=st
  exact ⟨o,e,λv z=>by rw [d] at z; cases z⟩
 keep:=λi h h' st k=>st.at λo e=>k it (by simp) o e
 item:=by
  intro X hP hw hK hc i pins s σ H E I hf st hg
  subst hP hw hK
  obtain ⟨xs,x,hq,hx⟩:=hg
  obtain ⟨its,rv,p,hz⟩:=I.list hq
  obtain ⟨u,hu,ru⟩:=rv.get hx
  obtain ⟨f0,f1,f2,f3,f4,f5⟩:=hf it (by simp)
  refine wpAny_pyNext_list_item st p.isList (x:=u) (by simpa using hu) λh' st' sb=>?_
  have I1:Inv X pins σ H { s with heap:=h' }:=I.turned (t':=s.toks) (λb o hb e=>(sb.2 b hb).trans e) f0 f1 f3 f4 f5
  obtain ⟨o,e,c,d⟩:=id st'
  exact ⟨u,rfl,Uh (s:={ s with heap:=h' }) e c d (by decide) ⟨x,H,I1,ru,⟨rfl,λys hy=>by rw [I.list_inj hy hq]; exact hx⟩,st',λb hb=>(hf b hb).1⟩⟩
 done:=by
  intro X hP hw hK hc i pins s σ H E I hf st hg
  subst hP hw hK
  obtain ⟨xs,hq,hx⟩:=hg
  obtain ⟨its,rv,p,hz⟩:=I.list hq
  obtain ⟨f0,f1,f2,f3,f4,f5⟩:=hf it (by simp)
  have hl:=rv.length
  exact wpAny_pyNext_list_end (I.ok.hd hc) st p.isList (by simp; lia) λh' eb=>⟨rfl,I.turned (t':=s.toks) (λb o hb e=>eb b o hb e) f0 f1 f3 f4 f5⟩
 self:=λ_ _ _ _ _ st h=>wpAny_pyIter_listiter st h
theorem Zds {P:Program} {w:World} {K:PySem.W.Frag} {tg:Expr} (a it:Addr):Turn P w K tg (Itt K a) [it] it (λi h=>h.IsTupleIter it a i) where
 mem:=by simp
 obj:=λi h st b hb=>by
  have e:b=it:=by simpa using hb
  subst e
  obtain ⟨o,e,c,d⟩:=st
  exact ⟨o,e,λv z=>by rw [d] at z; cases z⟩
 keep:=λi h h' st k=>st.at λo e=>k it (by simp) o e
 item:=by
  intro X hP hw hK hc i pins s σ H E I hf st hg
  subst hP hw hK
  obtain ⟨xs,x,hq,hx⟩:=hg
  obtain ⟨its,rv,p,hz⟩:=I.tuple hq
  obtain ⟨u,hu,ru⟩:=rv.get hx
  obtain ⟨f0,f1,f2,f3,f4,f5⟩:=hf it (by simp)
  refine wpAny_pyNext_tuple_item st (show s.heap.IsTuple a its.toArray from p) (x:=u) (by simpa using hu) λh' st' sb=>?_
  have I1:Inv X pins σ H { s with heap:=h' }:=I.turned (t':=s.toks) (λb o hb e=>(sb.2 b hb).trans e) f0 f1 f3 f4 f5
  obtain ⟨o,e,c,d⟩:=id st'
  exact ⟨u,rfl,Uh (s:={ s with heap:=h' }) e c d (by decide) ⟨x,H,I1,ru,⟨rfl,λys hy=>by rw [I.tuple_inj hy hq]; exact hx⟩,st',λb hb=>(hf b hb).1⟩⟩
 done:=by
  intro X hP hw hK hc i pins s σ H E I hf st hg
  subst hP hw hK
  obtain ⟨xs,hq,hx⟩:=hg
  obtain ⟨its,rv,p,hz⟩:=I.tuple hq
  obtain ⟨f0,f1,f2,f3,f4,f5⟩:=hf it (by simp)
  have hl:=rv.length
  exact wpAny_pyNext_tuple_end (I.ok.hd hc) st (show s.heap.IsTuple a its.toArray from p) (by simp; lia) λh' eb=>⟨rfl,I.turned (t':=s.toks) (λb o hb e=>eb b o hb e) f0 f1 f3 f4 f5⟩
 self:=λ_ _ _ _ _ st h=>wpAny_pyIter_tupleiter st h
theorem Zdt {P:Program} {w:World} {K:PySem.W.Frag} {tg:Expr} (it:Addr) (lo:Int) (n:Nat):Turn P w K tg (Itr lo n) [it] it (λi h=>IsRangeIter h it (lo + (i:Nat) * 1) ((n:Int) - (i:Nat)) 1) where
 mem:=by simp
 obj:=λi h st b hb=>by
  have e:b=it:=by simpa using hb
  subst e
  exact ⟨_,st,λv z=>by
   have z':Data.fields _=Data.cell v:=z
   cases z'⟩
 keep:=λi h h' st k=>k it (by simp) _ st
 item:=by
  intro X hP hw hK hc i pins s σ H E I hf st hg
  subst hP hw hK
  obtain ⟨f0,f1,f2,f3,f4,f5⟩:=hf it (by simp)
  have W:=Walks.range (prog:=X.prog) (w:=X.w) (I.ok.hd hc) it lo 1 n
  refine W.item i s _ _ hg st λv h' tk hv st' kk=>?_
  obtain ⟨t,rfl⟩:=hv
  have I1:Inv X pins σ H { s with heap:=h',toks:=tk }:=I.turned (λb o hb e=>kk b o (by simpa using hb) e) f0 f1 f3 f4 f5
  refine ⟨_,rfl,Uh (s:={ s with heap:=h',toks:=tk }) (n:="range_iterator") st' rfl rfl (by decide) ⟨.int (lo + i),H,I1,⟨t,?_⟩,⟨rfl,rfl⟩,st',λb hb=>(hf b hb).1⟩⟩
  rw [Int.mul_one]
 done:=by
  intro X hP hw hK hc i pins s σ H E I hf st hg
  subst hP hw hK
  obtain ⟨f0,f1,f2,f3,f4,f5⟩:=hf it (by simp)
  exact wpAny_pyNext_range_end (I.ok.hd hc) st (by have:n<=i:=hg; lia) λh' eb=>⟨rfl,I.turned (t':=s.toks) (λb o hb e=>eb b o hb e) f0 f1 f3 f4 f5⟩
 self:=λ_ _ _ _ _ st h=>wpAny_pyIter_rangeiter st h
section
variable {X:Cx} {tg:Expr}
noncomputable def Zmw (K:PySem.W.Frag) (tl:TE):TI:=λσ H R=>tl σ H λx H1=>∃ a,x=.ref a/\(∃ xs,SqL K H1 a xs)/\R (Itl K a) H1
noncomputable def iTup (K:PySem.W.Frag) (tl:TE):TI:=λσ H R=>tl σ H λx H1=>∃ a,x=.ref a/\(∃ xs,SqT K H1 a xs)/\R (Itt K a) H1
theorem Yu {l:Expr} {tl:TE} (hl:PE X l tl):PI X tg l (Zmw X.K tl):=by
 intro pins s σ H R I h
 refine thn (hl pins s σ H _ I h) λv s1 zz9=>?_
 obtain ⟨x,H1,I1,r1,q1⟩:=zz9
 obtain ⟨a,e,⟨xs,hq⟩,q⟩:=q1
 subst e
 cases r1
 obtain ⟨its,rv,p,hz⟩:=I1.list hq
 refine wpAny_pyIter_list p.isList ?_
 refine ⟨s1.heap.objs.size,[s1.heap.objs.size],_,_,H1,rfl,I1.kept (t':=s1.toks) λb o e=>Ak _ e,Ze4 a _,⟨_,Heap.get?_push_size _ rfl,rfl,rfl⟩,λb hb=>?_,q⟩
 have e:b=s1.heap.objs.size:=by simpa using hb
 subst e
 exact I1.fpOk (Nat.le_refl _) (I1.hok.fresh (Nat.le_refl _))
theorem Zlf {l:Expr} {tl:TE} (hl:PE X l tl):PI X tg l (iTup X.K tl):=by
 intro pins s σ H R I h
 refine thn (hl pins s σ H _ I h) λv s1 zz9=>?_
 obtain ⟨x,H1,I1,r1,q1⟩:=zz9
 obtain ⟨a,e,⟨xs,hq⟩,q⟩:=q1
 subst e
 cases r1
 obtain ⟨its,rv,p,hz⟩:=I1.tuple hq
 refine wpAny_pyIter_tuple (show s1.heap.IsTuple a its.toArray from p) ?_
 refine ⟨s1.heap.objs.size,[s1.heap.objs.size],_,_,H1,rfl,I1.kept (t':=s1.toks) λb o e=>Ak _ e,Zds a _,⟨_,Heap.get?_push_size _ rfl,rfl,rfl⟩,λb hb=>?_,q⟩
 have e:b=s1.heap.objs.size:=by simpa using hb
 subst e
 exact I1.fpOk (Nat.le_refl _) (I1.hok.fresh (Nat.le_refl _))
theorem Zao {pins:List (Addr × Obj)} {σ:St} {H:Hp} {s:Shared} {R:It->Hp->Prop} {E:Value->Shared->Prop} {lo hi:Int} {t u v:Tok} {tk:Nat} (I:Inv X pins σ H s) (h1:-(2 ^ 62)<=lo) (h2:lo < 2 ^ 62) (h3:-(2 ^ 62)<=hi) (h4:hi < 2 ^ 62)
  (q:R (Itr lo (hi - lo).toNat) H):wpAny (model X.prog X.w) X.A (pyIter (.ref s.heap.objs.size)) (PIE X pins σ tg R) E { s with heap:=s.heap.push { cls:=.type "range",data:=.fields #[.int lo t,.int hi u,.int 1 v] },toks:=tk }:=by
 refine wpAny_pyIter_range (IsRange.new ..) (small_one h1 h2 h3 h4) ?_
 have I1:Inv X pins σ H { s with heap:=s.heap.push { cls:=.type "range",data:=.fields #[.int lo t,.int hi u,.int 1 v] },toks:=tk }:=I.kept λb o e=>Ak _ e
 refine ⟨(s.heap.push { cls:=.type "range",data:=.fields #[.int lo t,.int hi u,.int 1 v] }).objs.size,[(s.heap.push { cls:=.type "range",data:=.fields #[.int lo t,.int hi u,.int 1 v] }).objs.size],_,_,H,rfl,
  I1.kept (t':=tk) λb o e=>Ak _ e,Zdt _ lo (hi - lo).toNat,?_,λb hb=>?_,q⟩
 ·have e1:lo + ((0:Nat):Int) * 1=lo:=by simp
  have e2:(((hi - lo).toNat:Nat):Int) - ((0:Nat):Int)=Builtin.Range.rangeSize lo hi 1:=by rw [rangeSize_one]; split <;> lia
  show IsRangeIter _ _ (lo + ((0:Nat):Int) * 1) ((((hi - lo).toNat:Nat):Int) - ((0:Nat):Int)) 1
  rw [e1,e2]
  exact Heap.get?_push_size _ rfl
 ·have e:b=(s.heap.push { cls:=.type "range",data:=.fields #[.int lo t,.int hi u,.int 1 v] }).objs.size:=by simpa using hb
  subst e
  exact I1.fpOk (Nat.le_refl _) (I1.hok.fresh (Nat.le_refl _))
noncomputable def Zmu (ta:TA):TI:=λσ H R=>ta σ H λvs H1=>∃ j:Int,vs=[.int j]/\-(2 ^ 62)<=j/\j < 2 ^ 62/\R (Itr 0 j.toNat) H1
noncomputable def Zmt (ta:TA):TI:=λσ H R=>ta σ H λvs H1=>∃ i j:Int,vs=[.int i,.int j]/\(-(2 ^ 62)<=i/\i < 2 ^ 62/\-(2 ^ 62)<=j/\j < 2 ^ 62)/\R (Itr i (j - i).toNat) H1
theorem Yb {a:Expr} {ta:TA} {p pos:Pos} (hg:Gl X "range") (hm:X.mg "range"=none) (ha:PA X [a] ta) (hs:starEach [a] X.env=[(false,eval a X.env)]:=by rfl):PI X tg (.Call (.Name "range" p) [a] [] pos) (Zmu ta):=by
 intro pins s σ H R I h
 refine Call_ (Xe I hg hm boot_range (PyProof.Rows.callWith_type1 (thn (ha pos pins s σ H _ I h) λus s1 zz6=>?_) hs rfl))
 obtain ⟨vs,H1,I1,r1,q1⟩:=zz6
 obtain ⟨j,e,q1,q2,q⟩:=q1
 subst e
 cases r1 with
 | cons r rr =>
  cases rr
  obtain ⟨t,rfl⟩:=r
  exact call_range_1 (Zao I1 (by lia) (by lia) q1 q2 (by simpa using q))
theorem Zfx {a b:Expr} {ta:TA} {p pos:Pos} (hg:Gl X "range") (hm:X.mg "range"=none) (ha:PA X [a,b] ta) (hs:starEach [a,b] X.env=[(false,eval a X.env),(false,eval b X.env)]:=by rfl) (hs2:starEach [b] X.env=[(false,eval b X.env)]:=by rfl) :
  PI X tg (.Call (.Name "range" p) [a,b] [] pos) (Zmt ta):=by
 intro pins s σ H R I h
 refine Call_ (Xe I hg hm boot_range (PyProof.Rows.callWith_type1 (thn (ha pos pins s σ H _ I h) λus s1 ⟨vs,H1,I1,r1,q1⟩=>?_) (by rw [hs,hs2]) (by rw [hs2]; rfl)))
 obtain ⟨i,j,e,⟨q1,q2,q3,q4⟩,q⟩:=q1
 subst e
 cases r1 with
 | cons r rr =>
  cases rr with
  | cons r' rr =>
   cases rr
   obtain ⟨t,rfl⟩:=r
   obtain ⟨t',rfl⟩:=r'
   exact call_range_2 (Zao I1 q1 q2 q3 q4 q)
noncomputable def tFor (wi:TI) (g:TG) (tb:TS):TS:=λD σ H=>wi σ H λJ H1=>∃ W:Nat->Nat->St->Hp->Prop,(∃ m,W 0 m σ H1)/\∀ i m σ H,W i m σ H ->
 (J.stop i H/\D.nx σ H)\/(J.go i H/\∃ N:St->Hp->Prop,(∀ σ' H',N σ' H'->∃ m',m' < m/\W (i + 1) m' σ' H')/\∀ x H',J.yld i H x H'->g x σ H' λσ2 H2=>tb { D with nx:=N,ct:=N,bk:=D.nx } σ2 H2)
noncomputable def Vu (fp:List Addr) (h:Heap):List (Addr × Obj):=fp.filterMap λb=>(h.get? b).map λo=>(b,o)
theorem J3 {fp:List Addr} {h:Heap} {b:Addr} {o:Obj} (hb:b∈fp) (e:h.get? b=some o):(b,o)∈Vu fp h:=List.mem_filterMap.mpr ⟨b,hb,by rw [e]; rfl⟩
theorem Zf6 {fp:List Addr} {h:Heap} {p:Addr × Obj} (hp:p∈Vu fp h):p.1∈fp/\h.get? p.1=some p.2:=by
 obtain ⟨b,hb,e⟩:=List.mem_filterMap.mp hp
 cases q:h.get? b with
 | none=>rw [q] at e; cases e
 | some o =>
  rw [q] at e
  have e':(b,o)=p:=Option.some.inj e
  subst e'
  exact ⟨hb,q⟩
theorem Inv.pinned {pins:List (Addr × Obj)} {σ:St} {H:Hp} {s:Shared} {fp:List Addr} (I:Inv X pins σ H s) (hf:∀ b∈fp,FpOk X pins H b) (ho:∀ b∈fp,∃ o,s.heap.get? b=some o/\∀ v,o.data≠.cell v):Inv X (pins ++ Vu fp s.heap) σ H s :=
 I.pins_of λp hp=>(List.mem_append.mp hp).elim (λz=>I.pin p (List.mem_append_right _ z)) λz=>by
  obtain ⟨hb,e⟩:=Zf6 z
  obtain ⟨f0,f1,f2,_⟩:=hf p.1 hb
  obtain ⟨o,e',d⟩:=ho p.1 hb
  rw [e] at e'; cases e'
  exact ⟨e,f0,f1,f2,d⟩
theorem Inv.unpinned {pins pl:List (Addr × Obj)} {σ:St} {H:Hp} {s:Shared} (I:Inv X (pins ++ pl) σ H s):Inv X pins σ H s:=I.pins_of λp hp=>I.pin p (List.mem_append_right _ (List.mem_append_left _ hp))
theorem Ys {iter:Expr} {body:List Stmt} {wi:TI} {g:TG} {tb:TS} {pos:Pos} (hp:PassesOwn (model X.prog X.w) X.A X.env X.xe) (hc:X.calm=true) (hi:PI X tg iter wi) (hg:PG X tg g) (hb:PSs X body tb)
  (hs:∀ x,foldedSetIterable iter X.env x=pure x:=by intro _; rfl):PS X (.For tg iter body [] pos) (tFor wi g tb):=by
 intro pins s σ H D I h
 refine wpAny_For (thn (hi pins s σ H _ I h) λv s1 h1=>thn h1 λitv s2 h2=>?_) hs
 obtain ⟨it,fp,tn,J,H2,e,I2,T,st2,f2,W,⟨m0,w0⟩,turn⟩:=h2
 subst e
 have stat:∀ {H':Hp},(∀ b∈fp,H' b=none)->∀ b∈fp,FpOk X pins H' b:=λhn b hb=>⟨hn b hb,(f2 b hb).2⟩
 refine codeAny_forLoop_any (λn s'=>∃ i σ' H',Inv X pins σ' H' s'/\tn i s'.heap/\(∀ b∈fp,H' b=none)/\W i n σ' H') ?_ m0 ⟨0,σ,H2,I2,st2,λb hb=>(f2 b hb).1,w0⟩
 rintro n s3 ⟨i,σ3,H3,I3,st3,fr3,w3⟩
 rcases turn i n σ3 H3 w3 with ⟨stop,qn⟩ | ⟨go,N,hN,step⟩
 ·refine wpAny_passesOwn hp (thn (T.done X rfl rfl rfl hc i pins s3 σ3 H3 X.xe I3 (stat fr3) st3 stop) λr s4 ⟨hr,I4⟩=>?_)
  subst hr
  exact wpAny_execs_nil ⟨σ3,H3,I4,qn⟩
 ·refine wpAny_passesOwn hp (thn (T.item X rfl rfl rfl hc i pins s3 σ3 H3 X.xe I3 (stat fr3) st3 go) λr s4 ⟨u,hr,h4⟩=>?_)
  subst hr
  refine wpAny_passesOwn hp (thn h4 λ_ s5 zz9=>?_)
  obtain ⟨x,H5,I5,r5,y5,st5,fr5⟩:=zz9
  have I5':=I5.pinned (stat fr5) (T.obj _ _ st5)
  refine wpAny_passesOwn hp (thn (hg _ s5 σ3 H5 x u _ I5' r5 (step x H5 y5)) λ_ s6 zz9=>?_)
  obtain ⟨σ6,H6,I6,q6⟩:=zz9
  refine wpAny_passesOwn hp (thn (hb _ s6 σ6 H6 _ I6 q6) λf s7 q7=>?_)
  have again:∀ {σ7:St} {H7:Hp},Inv X (pins ++ Vu fp s5.heap) σ7 H7 s7->N σ7 H7->∃ m,m < n/\∃ i σ' H',Inv X pins σ' H' s7/\tn i s7.heap/\(∀ b∈fp,H' b=none)/\W i m σ' H':=λ{σ7 H7} I7 n7=>by
   obtain ⟨m',hm,w7⟩:=hN σ7 H7 n7
   refine ⟨m',hm,i + 1,σ7,H7,I7.unpinned,T.keep _ _ _ st5 λb hb o e=>(I7.pin (b,o) (List.mem_append_right _ (List.mem_append_right _ (J3 hb e)))).1,λb hb=>?_,w7⟩
   obtain ⟨o,e,d⟩:=T.obj _ _ st5 b hb
   exact (I7.pin (b,o) (List.mem_append_right _ (List.mem_append_right _ (J3 hb e)))).2.1
  cases f with
  | next=>obtain ⟨σ7,H7,I7,n7⟩:=q7; exact again I7 n7
  | cont=>obtain ⟨σ7,H7,I7,n7⟩:=q7; exact again I7 n7
  | brk=>obtain ⟨σ7,H7,I7,q7⟩:=q7; exact ⟨σ7,H7,I7.unpinned,q7⟩
  | ret v=>obtain ⟨x7,σ7,H7,I7,r7,q7⟩:=q7; exact ⟨x7,σ7,H7,I7.unpinned,r7,q7⟩
end
theorem U9 {K:PySem.W.Frag} {a:Addr} {xs:List V} {g:TG} {tb:TS} {D:Ends} {σ:St} {H:Hp} (Pv:Nat->St->Hp->Prop) (h0:Pv 0 σ H) (hl:∀ i σ H,i<=xs.length->Pv i σ H->SqL K H a xs)
  (hs:∀ i x σ H,xs[i]?=some x->Pv i σ H->g x σ H λσ2 H2=>tb { D with nx:=Pv (i + 1),ct:=Pv (i + 1),bk:=D.nx } σ2 H2) (hd:∀ σ H,Pv xs.length σ H->D.nx σ H) :
  ∃ W:Nat->Nat->St->Hp->Prop,(∃ m,W 0 m σ H)/\∀ i m σ H,W i m σ H ->
   ((Itl K a).stop i H/\D.nx σ H)\/((Itl K a).go i H/\∃ N:St->Hp->Prop,(∀ σ' H',N σ' H'->∃ m',m' < m/\W (i + 1) m' σ' H')/\∀ x H',(Itl K a).yld i H x H'->g x σ H' λσ2 H2=>tb { D with nx:=N,ct:=N,bk:=D.nx } σ2 H2):=by
 refine ⟨λi m σ H=>m=xs.length - i/\i<=xs.length/\Pv i σ H,⟨xs.length,by simp,Nat.zero_le _,h0⟩,?_⟩
 rintro i m σ H ⟨rfl,hi,p⟩
 have q:=hl i σ H hi p
 by_cases hlt:i < xs.length
 ·refine .inr ⟨⟨xs,xs[i],q,by simp [hlt]⟩,Pv (i + 1),λσ' H' p'=>⟨xs.length - (i + 1),by lia,rfl,hlt,p'⟩,λx H' y=>?_⟩
  obtain ⟨e,y⟩:=y
  subst e
  exact hs i x σ _ (y xs q) p
 ·have e:i=xs.length:=by lia
  subst e
  exact .inl ⟨⟨xs,q,Nat.le_refl _⟩,hd σ H p⟩
theorem Y2 {lo:Int} {n:Nat} {g:TG} {tb:TS} {D:Ends} {σ:St} {H:Hp} (Pv:Nat->St->Hp->Prop) (h0:Pv 0 σ H)
  (hs:∀ i σ H,i < n->Pv i σ H->g (.int (lo + i)) σ H λσ2 H2=>tb { D with nx:=Pv (i + 1),ct:=Pv (i + 1),bk:=D.nx } σ2 H2) (hd:∀ σ H,Pv n σ H->D.nx σ H) :
  ∃ W:Nat->Nat->St->Hp->Prop,(∃ m,W 0 m σ H)/\∀ i m σ H,W i m σ H ->
   ((Itr lo n).stop i H/\D.nx σ H)\/((Itr lo n).go i H/\∃ N:St->Hp->Prop,(∀ σ' H',N σ' H'->∃ m',m' < m/\W (i + 1) m' σ' H')/\∀ x H',(Itr lo n).yld i H x H'->g x σ H' λσ2 H2=>tb { D with nx:=N,ct:=N,bk:=D.nx } σ2 H2):=by
 refine ⟨λi m σ H=>m=n - i/\i<=n/\Pv i σ H,⟨n,by simp,Nat.zero_le _,h0⟩,?_⟩
 rintro i m σ H ⟨rfl,hi,p⟩
 by_cases hlt:i < n
 ·refine .inr ⟨hlt,Pv (i + 1),λσ' H' p'=>⟨n - (i + 1),by lia,rfl,hlt,p'⟩,λx H' y=>?_⟩
  obtain ⟨e,y⟩:=y
  subst e y
  exact hs i σ _ hlt p
 ·have e:i=n:=by lia
  subst e
  exact .inl ⟨Nat.le_refl _,hd σ H p⟩
noncomputable abbrev R2:=V->V->Hp->VK->Prop
noncomputable def OpR (X:Cx) (f:Value->Value->Sem Value) (r:R2):Prop :=
 ∀ (pins:List (Addr × Obj)) (s:Shared) (σ:St) (H:Hp) (x y:V) (v u:Value) (Q:VK),Inv X pins σ H s->RelV x v->RelV y u->r x y H Q ->
  wpAny (model X.prog X.w) X.A (f v u) (EP X pins σ Q) X.xe s
noncomputable def UnR (X:Cx) (f:Value->Sem Value) (r:V->Hp->VK->Prop):Prop :=
 ∀ (pins:List (Addr × Obj)) (s:Shared) (σ:St) (H:Hp) (x:V) (v:Value) (Q:VK),Inv X pins σ H s->RelV x v->r x H Q ->
  wpAny (model X.prog X.w) X.A (f v) (EP X pins σ Q) X.xe s
noncomputable def Y1 (X:Cx) (f:Value) (r:List V->Hp->VK->Prop):Prop :=
 ∀ (pins:List (Addr × Obj)) (s:Shared) (σ:St) (H:Hp) (xs:List V) (us:List Value) (Q:VK),Inv X pins σ H s->Vals xs us->r xs H Q ->
  wpAny (model X.prog X.w) X.A (call f us) (EP X pins σ Q) X.xe s
noncomputable def TruR (X:Cx) (r:V->Hp->(Bool->Hp->Prop)->Prop):Prop :=
 ∀ (pins:List (Addr × Obj)) (s:Shared) (σ:St) (H:Hp) (x:V) (v:Value) (Q:Bool->Hp->Prop),Inv X pins σ H s->RelV x v->r x H Q ->
  wpAny (model X.prog X.w) X.A (truthy v) (TP X pins σ Q) X.xe s
noncomputable def tOp (r:R2) (ta tb:TE):TE:=λσ H Q=>ta σ H λx H1=>tb σ H1 λy H2=>r x y H2 Q
noncomputable def tUn (r:V->Hp->VK->Prop) (ta:TE):TE:=λσ H Q=>ta σ H λx H1=>r x H1 Q
noncomputable def rI (C:Int->Int->Prop) (g:Int->Int->V):R2:=λx y H Q=>∃ i j,x=.int i/\y=.int j/\C i j/\Q (g i j) H
noncomputable def rI0 (g:Int->Int->V):R2:=λx y H Q=>∃ i j,x=.int i/\y=.int j/\Q (g i j) H
noncomputable def rU (g:Int->V):V->Hp->VK->Prop:=λx H Q=>∃ i,x=.int i/\Q (g i) H
section
variable {X:Cx} {a b c:Expr} {ta tb tc:TE} {pos:Pos}
theorem binT (ha:PE X a ta) (hb:PE X b tb) {pins:List (Addr × Obj)} {s:Shared} {σ:St} {H:Hp} {R:V->V->Hp->Prop} (I:Inv X pins σ H s)
  (h:ta σ H λx H1=>tb σ H1 λy H2=>R x y H2) {Q:Value->Shared->Prop} {f:Value->Value->Sem Value}
  (hf:∀ v u s2 x y H2,Inv X pins σ H2 s2->RelV x v->RelV y u->R x y H2->wpAny (model X.prog X.w) X.A (f v u) Q X.xe s2) :
  wpAny (model X.prog X.w) X.A (eval a X.env) (λv s₁=>wpAny (model X.prog X.w) X.A (eval b X.env) (λu s₂=>wpAny (model X.prog X.w) X.A (f v u) Q X.xe s₂) X.xe s₁) X.xe s:=by
 refine thn (ha pins s σ H _ I h) λv s1 zz9=>?_
 obtain ⟨x,H1,I1,r1,q1⟩:=zz9
 refine thn (hb pins s1 σ H1 _ I1 q1) λu s2 zz9=>?_
 obtain ⟨y,H2,I2,r2,q2⟩:=zz9
 exact hf v u s2 x y H2 I2 r1 r2 q2
theorem Zh {op:Operator} {r:R2} (ho:OpR X (binaryOp op) r) (ha:PE X a ta) (hb:PE X b tb):PE X (.BinOp a op b pos) (tOp r ta tb):=by
 intro pins s σ H Q I h
 exact wpAny_BinOp (binT ha hb I h λv u s2 x y H2 I2 rx ry q=>ho pins s2 σ H2 x y v u Q I2 rx ry q)
theorem Zmm {op:UnaryOp} {r:V->Hp->VK->Prop} (ho:UnR X (unaryOp op) r) (ha:PE X a ta):PE X (.UnaryOp op a pos) (tUn r ta):=by
 intro pins s σ H Q I h
 refine UnaryOp_ (thn (ha pins s σ H _ I h) λv s1 zz7=>?_)
 obtain ⟨x,H1,I1,r1,q1⟩:=zz7
 exact ho pins s1 σ H1 x v Q I1 r1 q1
theorem opI {f:Value->Value->Sem Value} {C:Int->Int->Prop} {g:Int->Int->Int}
  (rule:∀ (i j:Int) (t u:Tok) (s:Shared) (Q:Value->Shared->Prop) (E:Value->Shared->Prop),C i j->Q (.int (g i j) s.toks) { s with toks:=s.toks + 1 }->wpAny (model X.prog X.w) X.A (f (.int i t) (.int j u)) Q E s) :
  OpR X f (rI C λi j=>.int (g i j)):=by
 intro pins s σ H x y v u Q I rx ry h
 obtain ⟨i,j,rfl,rfl,hc,q⟩:=h
 obtain ⟨t,rfl⟩:=rx
 obtain ⟨t',rfl⟩:=ry
 exact rule i j t t' s _ _ hc ⟨.int (g i j),H,I.tok _,⟨_,rfl⟩,q⟩
theorem opI0 {f:Value->Value->Sem Value} {g:Int->Int->Int}
  (rule:∀ (i j:Int) (t u:Tok) (s:Shared) (Q:Value->Shared->Prop) (E:Value->Shared->Prop),Q (.int (g i j) s.toks) { s with toks:=s.toks + 1 }->wpAny (model X.prog X.w) X.A (f (.int i t) (.int j u)) Q E s) :
  OpR X f (rI0 λi j=>.int (g i j)):=by
 intro pins s σ H x y v u Q I rx ry h
 obtain ⟨i,j,rfl,rfl,q⟩:=h
 obtain ⟨t,rfl⟩:=rx
 obtain ⟨t',rfl⟩:=ry
 exact rule i j t t' s _ _ ⟨.int (g i j),H,I.tok _,⟨_,rfl⟩,q⟩
theorem opB0 {f:Value->Value->Sem Value} {g:Int->Int->Bool}
  (rule:∀ (i j:Int) (t u:Tok) (s:Shared) (Q:Value->Shared->Prop) (E:Value->Shared->Prop),Q (.bool (g i j)) s->wpAny (model X.prog X.w) X.A (f (.int i t) (.int j u)) Q E s) :
  OpR X f (rI0 λi j=>.bl (g i j)):=by
 intro pins s σ H x y v u Q I rx ry h
 obtain ⟨i,j,rfl,rfl,q⟩:=h
 obtain ⟨t,rfl⟩:=rx
 obtain ⟨t',rfl⟩:=ry
 exact rule i j t t' s _ _ ⟨.bl (g i j),H,I,rfl,q⟩
noncomputable def CDiv (i j:Int):Prop:=0 < j/\j < 1073741824
noncomputable def CPow (i j:Int):Prop:=0<=j/\j<=1000000/\i.natAbs < 2 ^ 64
noncomputable def CMul (i j:Int):Prop:=(-(2 ^ 64) < i/\i < 2 ^ 64)\/(-(2 ^ 64) < j/\j < 2 ^ 64)
theorem CMul.ok {i j:Int} (h:CMul i j):IntMulOk i j:=by
 rcases h with ⟨h1,h2⟩ | ⟨h1,h2⟩
 ·exact .of_left (intBits_le_64 h1 h2)
 ·exact .of_right (intBits_le_64 h1 h2)
theorem Zz:OpR X (binaryOp .Add) (rI0 λi j=>.int (i + j)):=opI0 λ_ _ _ _ _ _ _ q=>add_int q
theorem Ye:OpR X (binaryOp .Sub) (rI0 λi j=>.int (i - j)):=opI0 λ_ _ _ _ _ _ _ q=>sub_int q
theorem Xt:OpR X (binaryOp .Mult) (rI CMul λi j=>.int (i * j)):=opI λ_ _ _ _ _ _ _ hc q=>mul_int q hc.ok
theorem Yv:OpR X (binaryOp .FloorDiv) (rI CDiv λi j=>.int (i / j)):=opI λi j _ _ _ _ _ hc q=>by
 have h1:(0:Int) < j:=hc.1
 have h2:j < 1073741824:=hc.2
 exact floordiv_int (by lia) (by rw [Int.fdiv_eq_ediv_of_nonneg i (by lia)]; exact q) (.inl (PyProof.noPylong_small (by lia)))
theorem Zx:OpR X (binaryOp .Mod) (rI (λ_ j=>0 < j) λi j=>.int (i % j)):=opI λi j _ _ _ _ _ hc q=>by
 have h1:(0:Int) < j:=hc
 exact mod_int' (by lia) (by rw [Int.fmod_eq_emod_of_nonneg i (by lia)]; exact q)
theorem Zlj:OpR X (binaryOp .Pow) (rI CPow λi j=>.int (i ^ j.toNat)):=opI λ_ _ _ _ _ _ _ hc q=>pow_int_small hc.1 hc.2.1 hc.2.2 q
theorem unI {f:Value->Sem Value} {g:Int->Int}
  (rule:∀ (i:Int) (t:Tok) (s:Shared) (Q:Value->Shared->Prop) (E:Value->Shared->Prop),Q (.int (g i) s.toks) { s with toks:=s.toks + 1 }->wpAny (model X.prog X.w) X.A (f (.int i t)) Q E s) :
  UnR X f (rU λi=>.int (g i)):=by
 intro pins s σ H x v Q I rx h
 obtain ⟨i,rfl,q⟩:=h
 obtain ⟨t,rfl⟩:=rx
 exact rule i t s _ _ ⟨.int (g i),H,I.tok _,⟨_,rfl⟩,q⟩
theorem Zkq:UnR X (unaryOp .USub) (rU λi=>.int (-i)):=unI λ_ _ _ _ _ q=>neg_int q
end
noncomputable def scal:V->V->Bool
 | .non,.non=>true | .non,.int _=>true | .int _,.non=>true | .non,.bl _=>true | .bl _,.non=>true | .non,.str _=>true | .str _,.non=>true
 | .int _,.int _=>true | .bl _,.bl _=>true | .str _,.str _=>true | .byt _,.byt _=>true
 | .int _,.str _=>true | .str _,.int _=>true | .bl _,.str _=>true | .str _,.bl _=>true
 | _,_=>false
noncomputable def rEq:R2:=λx y H Q=>scal x y=true/\Q (.bl (decide (x=y))) H
noncomputable def rNe:R2:=λx y H Q=>scal x y=true/\Q (.bl (!decide (x=y))) H
theorem Zdm {i j:Int}:decide (V.int i=V.int j)=(i == j):=by
 rw [Bool.eq_iff_iff]
 simp
theorem Zgu {i j:Bool}:decide (V.bl i=V.bl j)=(i == j):=by
 rw [Bool.eq_iff_iff]
 simp
theorem Zdl {i j:Str}:decide (V.str i=V.str j)=(i == j):=by
 rw [Bool.eq_iff_iff]
 simp
theorem Zdn {i j:Array UInt8}:decide (V.byt i=V.byt j)=(i.toList == j.toList):=by
 rw [Bool.eq_iff_iff]
 cases i
 cases j
 simp
section
variable {X:Cx} {a b c:Expr} {ta tb tc:TE} {pos:Pos}
theorem Z0 {pins:List (Addr × Obj)} {σ:St} {H:Hp} {s:Shared} {Q:VK} {k k':Bool} (I:Inv X pins σ H s) (q:Q (.bl k) H) (e:k=k'):EP X pins σ Q (.bool k') s:=by
 subst e
 exact ⟨.bl k,H,I,rfl,q⟩
theorem Xq:OpR X (compareOp .Eq) rEq:=by
 intro pins s σ H x y v u Q I rx ry h
 obtain ⟨hs,q⟩:=h
 cases x with
 | non =>
  cases rx
  cases y with
  | non=>cases ry; exact PySem.EqNone.eq_none_none (Z0 I q (by simp))
  | bl j=>cases ry; exact PySem.EqNone.eq_none_bool (Z0 I q (by simp))
  | int j=>obtain ⟨t',rfl⟩:=ry; exact PySem.EqNone.eq_none_int (Z0 I q (by simp))
  | str j=>obtain ⟨t',rfl⟩:=ry; exact PySem.EqNone.eq_none_str (Z0 I q (by simp))
  | _=>exact absurd (show false=true from hs) Bool.false_ne_true
 | bl i =>
  cases rx
  cases y with
  | non=>cases ry; exact PySem.EqNone.eq_bool_none (Z0 I q (by simp))
  | bl j=>cases ry; exact eq_bool (Z0 I q Zgu)
  | str j=>obtain ⟨t',rfl⟩:=ry; exact PySem.EqMixed.eq_bool_str (Z0 I q (by simp))
  | _=>exact absurd (show false=true from hs) Bool.false_ne_true
 | int i =>
  obtain ⟨t,rfl⟩:=rx
  cases y with
  | non=>cases ry; exact PySem.EqNone.eq_int_none (Z0 I q (by simp))
  | int j=>obtain ⟨t',rfl⟩:=ry; exact eq_int (Z0 I q Zdm)
  | str j=>obtain ⟨t',rfl⟩:=ry; exact PySem.EqMixed.eq_int_str (Z0 I q (by simp))
  | _=>exact absurd (show false=true from hs) Bool.false_ne_true
 | str i =>
  obtain ⟨t,rfl⟩:=rx
  cases y with
  | non=>cases ry; exact PySem.EqNone.eq_str_none (Z0 I q (by simp))
  | bl j=>cases ry; exact PySem.EqMixed.eq_str_bool (Z0 I q (by simp))
  | int j=>obtain ⟨t',rfl⟩:=ry; exact PySem.EqMixed.eq_str_int (Z0 I q (by simp))
  | str j=>obtain ⟨t',rfl⟩:=ry; exact eq_str (Z0 I q Zdl)
  | _=>exact absurd (show false=true from hs) Bool.false_ne_true
 | byt i =>
  obtain ⟨t,rfl⟩:=rx
  cases y with
  | byt j=>obtain ⟨t',rfl⟩:=ry; exact PySem.W.eq_bytes (Z0 I q Zdn)
  | _=>exact absurd (show false=true from hs) Bool.false_ne_true
 | _=>cases y <;> exact absurd (show false=true from hs) Bool.false_ne_true
theorem Fo:OpR X (compareOp .NotEq) rNe:=by
 intro pins s σ H x y v u Q I rx ry h
 obtain ⟨hs,q⟩:=h
 cases x with
 | non =>
  cases rx
  cases y with
  | non=>cases ry; exact PySem.EqNone.ne_none_none (Z0 I q (by simp))
  | bl j=>cases ry; exact PySem.EqNone.ne_none_bool (Z0 I q (by simp))
  | int j=>obtain ⟨t',rfl⟩:=ry; exact PySem.EqNone.ne_none_int (Z0 I q (by simp))
  | str j=>obtain ⟨t',rfl⟩:=ry; exact PySem.EqNone.ne_none_str (Z0 I q (by simp))
  | _=>exact absurd (show false=true from hs) Bool.false_ne_true
 | bl i =>
  cases rx
  cases y with
  | non=>cases ry; exact PySem.EqNone.ne_bool_none (Z0 I q (by simp))
  | bl j=>cases ry; exact ne_bool (Z0 I q (congrArg not Zgu))
  | str j=>obtain ⟨t',rfl⟩:=ry; exact PySem.EqMixed.ne_bool_str (Z0 I q (by simp))
  | _=>exact absurd (show false=true from hs) Bool.false_ne_true
 | int i =>
  obtain ⟨t,rfl⟩:=rx
  cases y with
  | non=>cases ry; exact PySem.EqNone.ne_int_none (Z0 I q (by simp))
  | int j=>obtain ⟨t',rfl⟩:=ry; exact ne_int (Z0 I q (congrArg not Zdm))
  | str j=>obtain ⟨t',rfl⟩:=ry; exact PySem.EqMixed.ne_int_str (Z0 I q (by simp))
  | _=>exact absurd (show false=true from hs) Bool.false_ne_true
 | str i =>
  obtain ⟨t,rfl⟩:=rx
  cases y with
  | non=>cases ry; exact PySem.EqNone.ne_str_none (Z0 I q (by simp))
  | bl j=>cases ry; exact PySem.EqMixed.ne_str_bool (Z0 I q (by simp))
  | int j=>obtain ⟨t',rfl⟩:=ry; exact PySem.EqMixed.ne_str_int (Z0 I q (by simp))
  | str j=>obtain ⟨t',rfl⟩:=ry; exact ne_str (Z0 I q (congrArg not Zdl))
  | _=>exact absurd (show false=true from hs) Bool.false_ne_true
 | byt i =>
  obtain ⟨t,rfl⟩:=rx
  cases y with
  | byt j=>obtain ⟨t',rfl⟩:=ry; exact PySem.W.ne_bytes (Z0 I q (congrArg not Zdn))
  | _=>exact absurd (show false=true from hs) Bool.false_ne_true
 | _=>cases y <;> exact absurd (show false=true from hs) Bool.false_ne_true
theorem Jo:OpR X (compareOp .Lt) (rI0 λi j=>.bl (decide (i < j))):=opB0 λ_ _ _ _ _ _ _ q=>lt_int q
theorem Zmn:OpR X (compareOp .LtE) (rI0 λi j=>.bl (decide (i<=j))):=opB0 λ_ _ _ _ _ _ _ q=>le_int q
theorem Jp:OpR X (compareOp .Gt) (rI0 λi j=>.bl (decide (j < i))):=opB0 λ_ _ _ _ _ _ _ q=>gt_int q
theorem Zmo:OpR X (compareOp .GtE) (rI0 λi j=>.bl (decide (j<=i))):=opB0 λ_ _ _ _ _ _ _ q=>ge_int q
theorem J8:OpR X (compareOp .IsNot) (λx y H Q=>y=.non/\Q (.bl (!decide (x=.non))) H):=by
 intro pins s σ H x y v u Q I rx ry h
 obtain ⟨rfl,q⟩:=h
 cases ry
 refine isnot_none_gen (Z0 I q ?_)
 cases x <;> first
  | (cases rx; rfl)
  | (obtain ⟨t,rfl⟩:=rx; rfl)
theorem Zu (b:Expr) {op:CmpOp} (h:op≠.In:=by decide) (h2:op≠.NotIn:=by decide):behindInMarks op b=false:=by
 have e1:(op == CmpOp.In)=false:=by cases op <;> first | rfl | exact absurd rfl h
 have e2:(op == CmpOp.NotIn)=false:=by cases op <;> first | rfl | exact absurd rfl h2
 cases b <;> simp [behindInMarks,e1,e2]
theorem Qu {op:CmpOp} {r:R2} (ho:OpR X (compareOp op) r) (ha:PE X a ta) (hb:PE X b tb) (hm:behindInMarks op b=false):PE X (.Compare a [op] [b] pos) (tOp r ta tb):=by
 intro pins s σ H Q I h
 exact wpAny_Compare1 (binT ha hb I h λv u s2 x y H2 I2 rx ry q=>ho pins s2 σ H2 x y v u Q I2 rx ry q) hm
noncomputable def Zl9 (t:TE):TT:=λσ H Q=>t σ H λx H'=>∃ k,x=.bl k/\Q k H'
theorem Zt {op:CmpOp} {r:R2} (ho:OpR X (compareOp op) r) (ha:PE X a ta) (hb:PE X b tb) (hm:behindInMarks op b=false):PT X (.Compare a [op] [b] pos) (Zl9 (tOp r ta tb)):=by
 intro pins s σ H Q I h
 refine wpAny_isTrue_Compare1 (thn (ha pins s σ H _ I h) λv s1 ⟨x,H1,I1,r1,q1⟩=>thn (hb pins s1 σ H1 _ I1 q1) λu s2 ⟨y,H2,I2,r2,q2⟩ =>
  thn (ho pins s2 σ H2 x y v u _ I2 r1 r2 q2) λc s3 ⟨z,H3,I3,r3,k,e,q3⟩=>?_) hm
 subst e
 cases r3
 exact wpAny_truthy_bool ⟨H3,I3,q3⟩
noncomputable def Zk2 (r r':R2) (ta tb tc:TE):TE:=λσ H Q=>ta σ H λx H1=>tb σ H1 λy H2=>r x y H2 λz H3=>∃ k,z=.bl k /\
 (if k=true then tc σ H3 λw' H4=>r' y w' H4 Q else Q (.bl false) H3)
theorem Zhu {op op':CmpOp} {r r':R2} (ho:OpR X (compareOp op) r) (ho':OpR X (compareOp op') r') (ha:PE X a ta) (hb:PE X b tb) (hc:PE X c tc)
  (hm:lastMarks [op,op'] [b,c]=false:=by with_unfolding_all rfl):PE X (.Compare a [op,op'] [b,c] pos) (Zk2 r r' ta tb tc):=by
 intro pins s σ H Q I h
 refine Compare_chain (thn (ha pins s σ H _ I h) λv s1 ⟨x,H1,I1,r1,q1⟩=>chain_link (thn (hb pins s1 σ H1 _ I1 q1) λu s2 ⟨y,H2,I2,r2,q2⟩ =>
  thn (ho pins s2 σ H2 x y v u _ I2 r1 r2 q2) λd s3 ⟨z,H3,I3,r3,k,e,q3⟩=>?_)) hm
 subst e
 cases r3
 refine wpAny_truthy_bool ?_
 cases k with
 | false=>exact ite_ff ⟨.bl false,H3,I3,rfl,q3⟩
 | true=>exact ite_tt (chain_last (thn (hc pins s3 σ H3 _ I3 q3) λw' s4 ⟨z',H4,I4,r4,q4⟩=>ho' pins s4 σ H4 y z' u w' Q I4 r2 r4 q4))
noncomputable def TruV (K:PySem.W.Frag) (x:V) (H:Hp) (k:Bool):Prop :=
 match x with
 | .non=>k=false
 | .bl b=>k=b
 | .int i=>k=(i != 0)
 | .str y=>y.length<=sizeLine/\k=((y.length:Int) != 0)
 | .byt y=>y.size<=sizeLine/\k=((y.size:Int) != 0)
 | .ref p=>(∃ xs,SqL K H p xs/\k=!xs.isEmpty)\/(∃ xs,SqT K H p xs/\k=!xs.isEmpty)\/∃ kvs,H p=some (.dK kvs)/\k=!kvs.isEmpty
 | _=>False
theorem Zen {κ:Type} {kvs:List (κ × V)} {vs:List (κ × Value)} (r:KV kvs vs):(!vs.isEmpty)=!kvs.isEmpty:=by
 cases r <;> rfl
theorem Ke {xs:List V} {its:List Value} (r:Vals xs its):(!its.toArray.isEmpty)=!xs.isEmpty:=by
 cases r <;> simp
theorem Vx:(sizeLine:Nat) < 2 ^ 63:=by rw [sizeLine_eq]; decide
theorem Zkt:TruR X (λx H Q=>∃ k,TruV X.K x H k/\Q k H):=by
 intro pins s σ H x v Q I rx h
 obtain ⟨k,e,q⟩:=h
 have hl:=Vx
 have hs:sizeLine=16777216:=sizeLine_eq
 cases x with
 | non =>
  cases rx
  have e':k=false:=e
  subst e'
  exact truthy_none ⟨H,I,q⟩
 | bl b =>
  cases rx
  have e':k=b:=e
  subst e'
  exact wpAny_truthy_bool ⟨H,I,q⟩
 | int i =>
  obtain ⟨t,rfl⟩:=rx
  have e':k=(i != 0):=e
  subst e'
  exact PySem.P.truthy_int ⟨H,I,q⟩
 | str y =>
  obtain ⟨t,rfl⟩:=rx
  obtain ⟨hy,e'⟩:y.length<=sizeLine/\k=((y.length:Int) != 0):=e
  subst e'
  exact PySem.P.truthy_str (by lia) ⟨H,I.tok _,q⟩
 | byt y =>
  obtain ⟨t,rfl⟩:=rx
  obtain ⟨hy,e'⟩:y.size<=sizeLine/\k=((y.size:Int) != 0):=e
  subst e'
  exact PySem.W.truthy_bytes (by lia) ⟨H,I.tok _,q⟩
 | ref p =>
  cases rx
  have e':(∃ xs,SqL X.K H p xs/\k=!xs.isEmpty)\/(∃ xs,SqT X.K H p xs/\k=!xs.isEmpty)\/∃ kvs,H p=some (.dK kvs)/\k=!kvs.isEmpty:=e
  rcases e' with ⟨xs,hx,e'⟩ | ⟨xs,hx,e'⟩ | ⟨kvs,hx,e'⟩
  ·subst e'
   obtain ⟨its,r,pl,hz⟩:=I.list hx
   have hlen:=r.length
   exact wpAny_truthy_list pl.isList (by simp only [List.size_toArray]; lia) ⟨H,I.tok _,by rw [Ke r]; exact q⟩
  ·subst e'
   obtain ⟨its,r,pl,hz⟩:=I.tuple hx
   have hlen:=r.length
   exact truthy_tuple pl (by simp only [List.size_toArray]; lia) ⟨H,I.tok _,by rw [Ke r]; exact q⟩
  ·subst e'
   obtain ⟨hz,hS,vs,r,m⟩:kvs.length<=sizeLine/\(p == sysModules)=false/\∃ vs,KV kvs vs/\s.heap.DictOf (Z3 X.prog X.w) p vs:=I.hok p _ hx
   have hlen:kvs.length=vs.length:=Paired.length r
   exact wpAny_truthy_dict hS m (by lia) ⟨H,I.tok _,by rw [Zen r]; exact q⟩
 | _=>exact (show False from e).elim
theorem U0 (ha:PE X a ta) (he:∀ whole,isTrue a X.env whole=(do let v <- whole; standAt a.pos; holding [v] (truthy v))) :
  PT X a (λσ H Q=>ta σ H λx H'=>∃ k,TruV X.K x H' k/\Q k H'):=by
 intro pins s σ H Q I h
 refine isTrue_plain (thn (ha pins s σ H _ I h) λv s1 zz8=>?_) (he _)
 obtain ⟨x,H1,I1,r1,q1⟩:=zz8
 exact Zkt pins s1 σ H1 x v Q I1 r1 q1
theorem Xw {x:V} {us:List Value} (r:Vals [x] us):∃ u,us=[u]/\RelV x u:=by
 cases r with
 | cons r1 r2=>cases r2; exact ⟨_,rfl,r1⟩
theorem Zl7 {x y:V} {us:List Value} (r:Vals [x,y] us):∃ u w',us=[u,w']/\RelV x u/\RelV y w':=by
 cases r with
 | cons r1 r2 =>
  cases r2 with
  | cons r3 r4=>cases r4; exact ⟨_,_,rfl,r1,r3⟩
end
structure ObjM (h:Heap) (x dx C:Addr) (mA:Str->Option Value):Prop where
 obj:h.get? x=some (PySem.W.instObj C dx)
 ns:h.Ns1 dx mA
 ne:dx≠x
theorem Zgc {h:Heap} {dx:Addr} {mA:Str->Option Value} (n:h.Ns1 dx mA):∃ od,h.get? dx=some od/\∀ name,PySem.W.lookIn name od=some (mA name):=by
 obtain ⟨o,es,ep,ho,hd,hk,_,hm⟩:=n
 refine ⟨o,ho,λname=>?_⟩
 have e:=hm name
 unfold nsFind findBy at e
 rw [<- Array.find?_toList] at e
 unfold PySem.W.lookIn
 rw [hd]
 dsimp only
 split
 ·rename_i y q
  rw [q] at e
  exact congrArg some e
 ·rename_i q
  rw [q] at e
  have a:es.toList.any (·.refKey)=false:=by
   rw [List.any_eq_false]
   intro y hy
   obtain ⟨z,t,hkey⟩:=hk y (Array.mem_toList_iff.mp hy)
   simp [DictEntry.refKey,hkey]
  have a':¬ es.toList.any (·.refKey)=true:=by rw [a]; exact Bool.false_ne_true
  rw [if_neg a']
  exact congrArg some e
theorem ObjM.look {h:Heap} {x dx C:Addr} {mA:Str->Option Value} (I:ObjM h x dx C mA):∃ od,PySem.W.InstAt h x (PySem.W.instObj C dx) C (some od)/\∀ name,PySem.W.lookIn name od=some (mA name) :=
 let ⟨od,ho,hl⟩:=Zgc I.ns
 ⟨od,⟨I.obj,rfl,rfl,ho⟩,hl⟩
section
variable {prog:Program} {w:World} {A:Around} {E:Value->Shared->Prop} {s:Shared} {K:PySem.W.Frag} {x dx C f:Addr} {mA:Str->Option Value} {name:Str} {v:Value}
theorem Zkb {expr:Bool} {Q:Value->Shared->Prop} (X:K.In s.heap) (I:ObjM s.heap x dx C mA) (hg:PySem.W.plainGet K C name=true) (hh:PySem.W.hasDictIn K C=true)
  (ha:PySem.W.findIn K (.ref C) name=some none) (hv:mA name=some v) (hv':PySem.W.handedIn v=true) (h:Q v { s with toks:=s.toks + 1 }) :
  wpAny (model prog w) A (getAttr (.ref x) name expr) Q E s:=by
 obtain ⟨od,J,hl⟩:=I.look
 exact PySem.W.get_value X J (PySem.W.plainGet_of hg).1 (PySem.W.findObj_own hh ha rfl (by rw [hl,hv])) hv' h
theorem Zia {pl:Sem Bool} {Q:Value × List Value->Shared->Prop} (X:K.In s.heap) (I:ObjM s.heap x dx C mA) (hg:PySem.W.plainGet K C name=true)
  (hf:PySem.W.findIn K (.ref C) name=some (some (.ref f))) (ht:PySem.W.isFn K (.ref f)=true) (hv:mA name=none) (h:Q (.ref f,[.ref x]) s) :
  wpAny (model prog w) A (getMethod (.ref x) name pl) Q E s:=by
 obtain ⟨od,J,hl⟩:=I.look
 exact PySem.W.method_fn X J (PySem.W.plainGet_of hg).1 (PySem.W.plainGet_of hg).2 hf (beq_iff_eq.mp ht) (by show (PySem.W.lookIn name od).map (·.isSome)=some false; rw [hl,hv]; rfl) h
theorem Zjl {ns:List Str} {Q:Unit->Shared->Prop} (X:K.In s.heap) (I:ObjM s.heap x dx C mA)
  (hs:PySem.W.findIn K (.ref C) "__setattr__"=some (some (.builtin "object.__setattr__"))) (hp:PySem.W.plainOver K C=true) (ht:PySem.W.takerIn K C name=some none) (hh:PySem.W.hasDictIn K C=true)
  (hw:PySem.Within mA ns) (hsz:ns.length<=sizeLine)
  (h:∀ h',ObjM h' x dx C (λy=>if y=name then some v else mA y)->Heap.SameBut dx s.heap h'->Q () { s with heap:=h',toks:=s.toks + 2 }) :
  wpAny (model prog w) A (setAttr (.ref x) name v) Q E s:=by
 obtain ⟨od,J,hl⟩:=I.look
 refine PySem.W.set_plain X J hs (PySem.W.osa_open (s:={ s with toks:=s.toks + 1 }) (r:=none) X J hp ht λb=>?_)
 obtain ⟨cd,hc,hd'⟩:=PySem.W.any_some hh
 have hx:s.heap.get? x=some ⟨.ref C,some dx,.plain,#[]⟩:=I.obj
 refine Al (wpAny_pure (Al (Al (wpAny_loadPart hx (Al (PySem.W.Looks.here (s:={ s with toks:=s.toks + 1 }) (PySem.W.looks_clsIn X hc) ?_))))))
 rw [hd']
 refine wpAny_pure (a:=some dx) (Al (wpAny_pure (Al ?_)))
 refine wpAny_nsSet1 (s:={ s with toks:=s.toks + 1 }) I.ns λh' hn2 hs2=>?_
 obtain ⟨oD,esD,epD,hoD,hdD,hcD⟩:=hn2.count (PySem.Within.cons name v hw)
 refine Al (wpAny_lookBehind hoD (by rw [hdD]; exact pastItsLine_dict (Nat.le_trans hcD (by rw [List.length_cons]; lia))) ?_)
 exact wpAny_pure (h _ ⟨(hs2.2 _ (Ne.symm I.ne)).trans I.obj,hn2,I.ne⟩ hs2)
theorem Zh2 {R:Result->Shared->Prop} {vs:List Value} {kw:List (Str × Value)} (X:K.In s.heap) (hm:PySem.W.makesIn K C=true)
  (hi:PySem.W.findIn K (.ref C) "__init__"=some (some (.ref f))) (hf:PySem.W.typeIn K (.ref f)=some (.type "function"))
  (h:codeAny (model prog w) (A.under (.builtin "type.__call__" ⟨.ref C :: vs,kw⟩)) (.call (.ref f) ⟨.ref (s.heap.objs.size + 1) :: vs,kw⟩) (PySem.W.InitBack (s.heap.objs.size + 1) R)
   { s with heap:=(s.heap.push PySem.W.emptyDict).push (PySem.W.instObj C s.heap.objs.size) }) :
  codeAny (model prog w) A (.call (.ref C) ⟨vs,kw⟩) R s:=by
 obtain ⟨hh,g,d,t,os⟩:=s
 exact PySem.W.make_core (PySem.W.makes_of X hm) (PySem.W.looks_findIn X hi) (λself=>PySem.W.bind_fn X self hf) (.inl rfl) h
end
noncomputable def putF (f:Str) (v:V):List (Str × V)->List (Str × V)
 | []=>[(f,v)]
 | (g,x) :: r=>if g=f then (g,v) :: r else (g,x) :: putF f v r
theorem Zw (f g:Str) (v:V):∀ fs:List (Str × V),(putF f v fs).lookup g=if g=f then some v else fs.lookup g
 | []=>by
  show List.lookup g [(f,v)]=_
  by_cases h:g=f
  ·have hb:(g == f)=true:=beq_iff_eq.mpr h
   simp only [List.lookup,hb,if_pos h]
  ·have hb:(g == f)=false:=beq_eq_false_iff_ne.mpr h
   simp only [List.lookup,hb,if_neg h]
 | (k,x) :: r=>by
  have ih:=Zw f g v r
  rw [show putF f v ((k,x) :: r)=(if k=f then (k,v) :: r else (k,x) :: putF f v r) from rfl]
  by_cases hk:k=f
  ·rw [if_pos hk]
   by_cases h:g=k
   ·have hb:(g == k)=true:=beq_iff_eq.mpr h
    simp only [List.lookup,hb,if_pos (h.trans hk)]
   ·have hb:(g == k)=false:=beq_eq_false_iff_ne.mpr h
    simp only [List.lookup,hb,if_neg (λe:g=f=>h (e.trans hk.symm))]
  ·rw [if_neg hk]
   by_cases h:g=k
   ·have hb:(g == k)=true:=beq_iff_eq.mpr h
    simp only [List.lookup,hb,if_neg (λe:g=f=>hk (h.symm.trans e))]
   ·have hb:(g == k)=false:=beq_eq_false_iff_ne.mpr h
    simp only [List.lookup,hb]
    exact ih
theorem Vz (f:Str) (v:V):∀ fs:List (Str × V),f∈(putF f v fs).map (·.1)/\∀ g,g∈fs.map (·.1)->g∈(putF f v fs).map (·.1)
 | []=>⟨by simp [putF],λg h=>by simp at h⟩
 | (k,x) :: r=>by
  obtain ⟨i1,i2⟩:=Vz f v r
  rw [show putF f v ((k,x) :: r)=(if k=f then (k,v) :: r else (k,x) :: putF f v r) from rfl]
  by_cases hk:k=f
  ·rw [if_pos hk]
   subst hk
   exact ⟨by simp,λg h=>by simpa using h⟩
  ·rw [if_neg hk]
   refine ⟨?_,λg h=>?_⟩
   ·rw [List.map_cons]
    exact List.mem_cons_of_mem _ i1
   ·rw [List.map_cons] at h ⊢
    rcases List.mem_cons.mp h with e | e
    ·exact List.mem_cons.mpr (.inl e)
    ·exact List.mem_cons_of_mem _ (i2 g e)
theorem Uv (f:Str) (v:V):∀ fs:List (Str × V),(putF f v fs).length<=fs.length + 1
 | []=>by simp [putF]
 | (k,x) :: r=>by
  have ih:=Uv f v r
  rw [show putF f v ((k,x) :: r)=(if k=f then (k,v) :: r else (k,x) :: putF f v r) from rfl]
  by_cases hk:k=f
  ·rw [if_pos hk,List.length_cons,List.length_cons]; lia
  ·rw [if_neg hk,List.length_cons,List.length_cons]; lia
theorem RelO.some_of {v:V} {o:Option Value} (r:RelO (some v) o):∃ u,o=some u/\RelV v u:=by
 cases o with
 | none=>exact (show False from r).elim
 | some u=>exact ⟨u,rfl,r⟩
theorem RelO.none_of {o:Option Value} (r:RelO none o):o=none:=by
 cases o with
 | none=>rfl
 | some u=>exact (show False from r).elim
theorem Zgl {v:V} {u:Value} (r:RelV v u):PySem.W.handedIn u=true:=by
 cases v with
 | non=>cases (show u=Value.none from r); rfl
 | bl b=>cases (show u=Value.bool b from r); rfl
 | int i=>obtain ⟨t,e⟩:=(show ∃ t,u=Value.int i t from r); cases e; rfl
 | str x=>obtain ⟨t,e⟩:=(show ∃ t,u=Value.str x t from r); cases e; rfl
 | byt b=>obtain ⟨t,e⟩:=(show ∃ t,u=Value.bytes b t from r); cases e; rfl
 | flt b=>obtain ⟨t,e⟩:=(show ∃ t,u=Value.float b t from r); cases e; rfl
 | ref a=>cases (show u=Value.ref a from r); rfl
 | ty n=>cases (show u=Value.type n from r); rfl
section
variable {P:Program} {w:World} {H H':Hp} {h h':Heap} {a C dx:Addr} {fs fs':List (Str × V)}
theorem Uf (hok:HOk P w H h) (e:H a=some (.ins C dx fs)):∃ mA,ObjM h a dx C mA/\(∀ f,RelO (fs.lookup f) (mA f))/\PySem.Within mA (fs.map (·.1))/\fs.length<=1000/\H dx=some (.own a):=by
 obtain ⟨d,z,ne,ob,mA,n,r,q⟩:=(show Zy P w H h a (.ins C dx fs) from hok a _ e)
 exact ⟨mA,⟨ob,n,ne⟩,r,q,z,d⟩
end
structure Cls (K:PySem.W.Frag) (C:Addr):Prop where
 pg:PySem.W.plainGet K C Str.empty=true
 hd:PySem.W.hasDictIn K C=true
 po:PySem.W.plainOver K C=true
 sa:PySem.W.findIn K (.ref C) "__setattr__"=some (some (.builtin "object.__setattr__"))
theorem Cls.get {K:PySem.W.Frag} {C:Addr} (c:Cls K C) (f:Str):PySem.W.plainGet K C f=true:=c.pg
noncomputable def Wo (K:PySem.W.Frag) (C:Addr) (f:Str):Prop:=PySem.W.findIn K (.ref C) f=some none
theorem Wo.taker {K:PySem.W.Frag} {C:Addr} {f:Str} (n:Wo K C f):PySem.W.takerIn K C f=some none:=by
 unfold PySem.W.takerIn
 rw [show PySem.W.findIn K (.ref C) f=some none from n]
 rfl
structure Meth (K:PySem.W.Frag) (C:Addr) (m:Str) (f:Addr):Prop where
 at_:PySem.W.findIn K (.ref C) m=some (some (.ref f))
 fn:PySem.W.isFn K (.ref f)=true
 kp:PySem.W.keepIn K (.ref f)=true
section
variable {X:Cx} {pins:List (Addr × Obj)} {σ:St} {H:Hp} {s:Shared} {a C dx:Addr} {fs:List (Str × V)} {f:Str} {v:V} {A:Around} {E:Value->Shared->Prop}
theorem Zep {b:Bool} {Q:Value->Shared->Prop} (I:Inv X pins σ H s) (e:H a=some (.ins C dx fs)) (c:Cls X.K C) (n:Wo X.K C f) (l:fs.lookup f=some v)
  (h:∀ u s',Inv X pins σ H s'->RelV v u->Q u s'):wpAny (model X.prog X.w) A (getAttr (.ref a) f b) Q E s:=by
 obtain ⟨mA,O,r,_,_,_⟩:=Uf I.hok e
 obtain ⟨u,hu,ru⟩:=RelO.some_of (v:=v) (o:=mA f) (by rw [<- l]; exact r f)
 exact Zkb I.kIn O (c.get f) c.hd n hu (Zgl ru) (h u _ (I.tok _) ru)
theorem Q7 {m:Str} {g:Addr} {pl:Sem Bool} {Q:Value × List Value->Shared->Prop} (I:Inv X pins σ H s) (e:H a=some (.ins C dx fs)) (c:Cls X.K C) (k:Meth X.K C m g) (l:fs.lookup m=none)
  (h:Q (.ref g,[.ref a]) s):wpAny (model X.prog X.w) A (getMethod (.ref a) m pl) Q E s:=by
 obtain ⟨mA,O,r,_,_,_⟩:=Uf I.hok e
 have hn:mA m=none:=RelO.none_of (by rw [<- l]; exact r m)
 exact Zia I.kIn O (c.get m) k.at_ k.fn hn h
theorem Zd2 {y:V} {u:Value} {Q:Unit->Shared->Prop} (I:Inv X pins σ H s) (e:H a=some (.ins C dx fs)) (c:Cls X.K C) (n:Wo X.K C f) (hl:fs.length < 1000) (ry:RelV y u)
  (h:∀ s',Inv X pins σ (upd H a (.ins C dx (putF f y fs))) s'->Q () s'):wpAny (model X.prog X.w) A (setAttr (.ref a) f u) Q E s:=by
 obtain ⟨mA,O,r,wi,_,ho⟩:=Uf I.hok e
 have hz:(fs.map (·.1)).length<=sizeLine:=by rw [Ab,sizeLine_eq]; lia
 refine Zjl I.kIn O c.sa c.po n.taker c.hd wi hz λh' O' sb=>h _ ?_
 have hd:∃ o,h'.get? dx=some o:=let ⟨o,_,_,e',_⟩:=O'.ns; ⟨o,e'⟩
 refine I.write (x:=a) (e:=dx) (by rw [e]; exact True.intro) (.inr ho) (λb q hb z=>(sb.2 b hb).trans z) hd ?_
 refine ⟨by rw [Ze O.ne]; exact ho,?_,O.ne,O'.obj,_,O'.ns,λg=>?_,λg hg=>?_⟩
 ·have:=Uv f y fs; lia
 ·show RelO ((putF f y fs).lookup g) (if g=f then some u else mA g)
  rw [Zw]
  by_cases q:g=f
  ·rw [if_pos q,if_pos q]; exact ry
  ·rw [if_neg q,if_neg q]; exact r g
 ·by_cases q:g=f
  ·rw [q]; exact (Vz f y fs).1
  ·refine (Vz f y fs).2 g (wi g λz=>hg ?_)
   show (if g=f then some u else mA g)=none
   rw [if_neg q]; exact z
theorem Inv.made (I:Inv X pins σ H s):Inv X pins σ (upd (upd H s.heap.objs.size (.own (s.heap.objs.size + 1))) (s.heap.objs.size + 1) (.ins C s.heap.objs.size []))
  { s with heap:=(s.heap.push PySem.W.emptyDict).push (PySem.W.instObj C s.heap.objs.size) }:=by
 have e1:(s.heap.push PySem.W.emptyDict).get? s.heap.objs.size=some PySem.W.emptyDict:=Heap.get?_push_size s.heap rfl
 have e2:((s.heap.push PySem.W.emptyDict).push (PySem.W.instObj C s.heap.objs.size)).get? (s.heap.objs.size + 1)=some (PySem.W.instObj C s.heap.objs.size):=by
  have:=Heap.get?_push_size (s.heap.push PySem.W.emptyDict) (o:=PySem.W.instObj C s.heap.objs.size) rfl
  rwa [Heap.size_push] at this
 have e3:(s.heap.push PySem.W.emptyDict).Ns s.heap.objs.size (λ_=>none):=⟨PySem.W.emptyDict,#[],_,e1,rfl,(λe he=>absurd he (by simp)),λ_=>rfl⟩
 have I1:=I.laid (a:=s.heap.objs.size) (o:=.own (s.heap.objs.size + 1)) (h':=s.heap.push PySem.W.emptyDict) (t':=s.toks) (λb u q=>Ak _ q) (Nat.le_refl _) ⟨_,e1⟩
 refine I1.laid (a:=s.heap.objs.size + 1) (o:=.ins C s.heap.objs.size []) (t':=s.toks) (λb u q=>Ak _ q) (Nat.le_of_eq (Heap.size_push _ _)) ?_
 have ne:s.heap.objs.size≠s.heap.objs.size + 1:=Nat.ne_of_lt (Nat.lt_succ_self _)
 refine ⟨by rw [Ze ne,Zc],Nat.zero_le _,ne,e2,λ_=>none,(Heap.Ns1.of_empty e3).at λo q=>Ak _ q,λ_=>True.intro,λy hy=>absurd rfl hy⟩
theorem Zkm {prog:Program} {w:World} {env:Env} {e:Expr} {f:Str} {pos:Pos} {s:Shared} {Q:Value->Shared->Prop} (hb:attributeBase e f env (eval e env)=eval e env)
  (h:wpAny (model prog w) A (eval e env) (λo s₁=>wpAny (model prog w) A (getAttr o f true) Q E s₁) E s):wpAny (model prog w) A (eval (.Attribute e f pos) env) Q E s :=
 Attribute_any_ h (by rw [arm_eval_Attribute,hb])
end
noncomputable def tFld (K:PySem.W.Frag) (ta:TE) (f:Str):TE:=λσ H Q=>ta σ H λx H1=>∃ a C dx fs v,x=.ref a/\H1 a=some (.ins C dx fs)/\Cls K C/\Wo K C f/\fs.lookup f=some v/\Q v H1
noncomputable def sFld (K:PySem.W.Frag) (ta tv:TE) (f:Str):TS:=λD σ H=>tv σ H λy H1=>ta σ H1 λx H2=>∃ a C dx fs,x=.ref a/\H2 a=some (.ins C dx fs)/\Cls K C/\Wo K C f/\fs.length < 1000 /\
 D.nx σ (upd H2 a (.ins C dx (putF f y fs)))
section
variable {X:Cx} {o e value:Expr} {f:Str} {pos pos' tpos:Pos} {ta tv:TE}
theorem Xs (he:PE X e ta) (hb:attributeBase e f X.env (eval e X.env)=eval e X.env):PE X (.Attribute e f pos) (tFld X.K ta f):=by
 intro pins s σ H Q I h
 refine Zkm hb (thn (he pins s σ H _ I h) λu s1 zz9=>?_)
 obtain ⟨x,H1,I1,rx,a,C,dx,fs,v,ex,ea,c,n,l,q⟩:=zz9
 subst ex
 obtain rfl:u=Value.ref a:=rx
 exact Zep I1 ea c n l λu' s2 I2 ru=>⟨v,H1,I2,ru,q⟩
theorem O0 (ha:PE X o ta) (hv:PE X value tv) (hs:swapsWith value (some (.Attribute o f pos')) pos.line X.env=pure false):PS X (.Assign [.Attribute o f pos'] value pos) (sFld X.K ta tv f):=by
 intro pins s σ H D I h
 refine plainObj_wpAny_Assign_Attribute (thn (hv pins s σ H _ I h) λu s1 zz9=>?_) hs
 obtain ⟨y,H1,I1,ry,q⟩:=zz9
 refine thn (ha pins s1 σ H1 _ I1 q) λov s2 zz10=>?_
 obtain ⟨x,H2,I2,rx,a,C,dx,fs,ex,ea,c,n,l,q2⟩:=zz10
 subst ex
 obtain rfl:ov=Value.ref a:=rx
 exact Zd2 I2 ea c n l ry λs3 I3=>⟨σ,_,I3,q2⟩
end
section
variable {X:Cx} {pins:List (Addr × Obj)} {σ:St} {H:Hp} {s:Shared} {A:Around} {E:Value->Shared->Prop} {Q:Value->Shared->Prop} {c:Value} {b:Bool}
inductive TyOf (K:PySem.W.Frag) (H:Hp):V->Value->Prop where
 | non:TyOf K H .non (.type "NoneType")
 | bl (x:Bool):TyOf K H (.bl x) (.type "bool")
 | int (i:Int):TyOf K H (.int i) (.type "int")
 | str (x:Str):TyOf K H (.str x) (.type "str")
 | flt (x:UInt64):TyOf K H (.flt x) (.type "float")
 | lst {a:Addr} {xs:List V} (e:H a=some (.lst xs)):TyOf K H (.ref a) (.type "list")
 | frz {a:Addr} {o:Obj} {xs:List V} (e:H a=some (.frz o (.lst xs))):TyOf K H (.ref a) (.type "list")
 | tup {a:Addr} {xs:List V} (e:H a=some (.tup xs)):TyOf K H (.ref a) (.type "tuple")
 | dK {a:Addr} {kvs:List (Key × V)} (e:H a=some (.dK kvs)):TyOf K H (.ref a) (.type "dict")
 | dT {a:Addr} {kvs:List (List Key × V)} (e:H a=some (.dT kvs)):TyOf K H (.ref a) (.type "dict")
 | ins {a C dx:Addr} {fs:List (Str × V)} (e:H a=some (.ins C dx fs)) (cl:Cls K C) (ha:PySem.W.findIn K (.ref C) "__class__"=some (some (.builtin "object.__class__")))
   (hn:PySem.W.specialIn K (.builtin "object.__class__") "__get__"=some (some (.builtin "getset_descriptor.__get__"))) (htk:PySem.W.takesIn K (.builtin "object.__class__")=some true)
   (hm:PySem.W.mroIn K C (.type "object")=some true):TyOf K H (.ref a) (.ref C)
theorem Zgi {x:V} {u t:Value} (I:Inv X pins σ H s) (rx:RelV x u) (ty:TyOf X.K H x t) (e:PySem.W.kitOne X.K t c=some b) (h:∀ tk,Q (.bool b) { s with toks:=tk }) :
  wpAny (model X.prog X.w) A (call (.builtin "isinstance") [u,c]) Q E s:=by
 cases ty with
 | non=>cases (show u=Value.none from rx); exact PySem.W.kia_one PySem.W.kitx_none I.kIn True.intro e (λz=>nomatch z) h
 | bl y=>cases (show u=Value.bool y from rx); exact PySem.W.kia_one PySem.W.kitx_bool I.kIn True.intro e (λz=>nomatch z) h
 | int i=>obtain ⟨t,q⟩:=(show ∃ t,u=Value.int i t from rx); cases q; exact PySem.W.kia_one PySem.W.kitx_int I.kIn True.intro e (λz=>nomatch z) h
 | str y=>obtain ⟨t,q⟩:=(show ∃ t,u=Value.str y t from rx); cases q; exact PySem.W.kia_one PySem.W.kitx_str I.kIn True.intro e (λz=>nomatch z) h
 | flt y=>obtain ⟨t,q⟩:=(show ∃ t,u=Value.float y t from rx); cases q; exact PySem.W.kia_one PySem.W.kitx_float I.kIn True.intro e (λz=>nomatch z) h
 | @lst a xs ea =>
  cases (show u=Value.ref a from rx)
  obtain ⟨_,_,n,_,h1⟩:=(show Zy X.prog X.w H s.heap a (.lst xs) from I.hok a _ ea)
  exact PySem.W.kia_one PySem.W.kitx_list I.kIn ⟨_,h1,rfl⟩ e (λz=>nomatch z) h
 | @frz a ob xs ea =>
  cases (show u=Value.ref a from rx)
  obtain ⟨_,_,_,n,_,h1⟩:=(show Zy X.prog X.w H s.heap a (.frz ob (.lst xs)) from I.hok a _ ea)
  exact PySem.W.kia_one PySem.W.kitx_list I.kIn ⟨_,h1,rfl⟩ e (λz=>nomatch z) h
 | @tup a xs ea =>
  cases (show u=Value.ref a from rx)
  obtain ⟨_,_,_,p⟩:=(show Zy X.prog X.w H s.heap a (.tup xs) from I.hok a _ ea)
  obtain ⟨o,h1,h2,_⟩:=p
  exact PySem.W.kia_one PySem.W.kitx_tuple I.kIn ⟨o,h1,h2⟩ e (λz=>nomatch z) h
 | @dK a kvs ea =>
  cases (show u=Value.ref a from rx)
  obtain ⟨_,_,vs,_,p⟩:=(show Zy X.prog X.w H s.heap a (.dK kvs) from I.hok a _ ea)
  obtain ⟨o,es,ep,h1,h2,_⟩:=p
  exact PySem.W.kia_one PySem.W.kitx_dict I.kIn ⟨o,h1,h2.1⟩ e (λz=>nomatch z) h
 | @dT a kvs ea =>
  cases (show u=Value.ref a from rx)
  obtain ⟨_,_,xs,_,o,es,ep,h1,h2,_⟩:=(show Zy X.prog X.w H s.heap a (.dT kvs) from I.hok a _ ea)
  exact PySem.W.kia_one PySem.W.kitx_dict I.kIn ⟨o,h1,h2.1⟩ e (λz=>nomatch z) h
 | @ins a C dx fs ea cl ha hn htk hm =>
  cases (show u=Value.ref a from rx)
  obtain ⟨mA,O,_⟩:=Uf I.hok ea
  obtain ⟨od,J,_⟩:=O.look
  exact PySem.W.kia_one (PySem.W.kitx_own (cl.get _) cl.hd ha hn htk hm) I.kIn J e (λz=>nomatch z) h
end
structure Room (k:Nat) (A:Around):Prop where
 hd:A.handled=none
 dp:A.depth + 3 * k + 5 < recursionLimit
 un:A.units + 16 * k + 200 < cLine
theorem Room.mono {j k:Nat} {A:Around} (r:Room k A) (h:j<=k):Room j A:=⟨r.hd,by have:=r.dp; lia,by have:=r.un; lia⟩
theorem Room.deeper {k:Nat} {A:Around} (r:Room (k + 1) A) (env:Env):Room k (A.deeper env) :=
 ⟨r.hd,by have:=r.dp; show A.depth + 1 + 3 * k + 5 < _; lia,by have:=r.un; show A.units + 3 + 16 * k + 200 < _; lia⟩
theorem Zej {A:Around} {C:Addr} {us:List Value} {kw:List (Str × Value)}:(A.under (.builtin "type.__call__" ⟨.ref C :: us,kw⟩)).depth=A.depth + 1:=by
 first | rfl | simp [Around.under,Code.weight,Code.isCreation,Code.isGuard,Code.isCaller,Code.frames,Code.isFrame,guardIds]
theorem Zei {A:Around} {C:Addr} {us:List Value} {kw:List (Str × Value)}:(A.under (.builtin "type.__call__" ⟨.ref C :: us,kw⟩)).units=A.units + 1:=by
 first | rfl | simp [Around.under,Code.cUnits,Code.frames,Code.isFrame]
theorem Room.make {k:Nat} {A:Around} (r:Room (k + 1) A) (C:Addr) (us:List Value) (kw:List (Str × Value)):Room k (A.under (.builtin "type.__call__" ⟨.ref C :: us,kw⟩)) :=
 ⟨r.hd,by have:=r.dp; rw [Zej]; lia,by have:=r.un; rw [Zei]; lia⟩
theorem Room.depth {k:Nat} {A:Around} (r:Room k A):A.depth < recursionLimit:=by have:=r.dp; lia
theorem Room.units {k:Nat} {A:Around} (r:Room k A):A.units + 64 < cLine:=by have:=r.un; lia
noncomputable def tNil:TA:=λ_ H Q=>Q [] H
noncomputable def Zmh (ta:TE) (tr:TA):TA:=λσ H Q=>ta σ H λx H1=>tr σ H1 λxs H2=>Q (x :: xs) H2
section
variable {X:Cx} {e:Expr} {es:List Expr} {te:TE} {t:TA} {pos:Pos}
theorem Zb:PA X [] tNil:=λ_ _ _ _ H Q I h=>Calls.spliced_nil ⟨[],H,I,.nil,h⟩
theorem Za (ha:PE X e te) (hr:PA X es t) (hs:starEach (e :: es) X.env=(false,eval e X.env) :: starEach es X.env:=by rfl):PA X (e :: es) (Zmh te t):=by
 intro pos pins s σ H Q I h
 rw [hs]
 show wpAny _ _ (spliced ((false,eval e X.env) :: backTo pos (starEach es X.env))) _ _ s
 refine Calls.spliced_cons (thn (ha pins s σ H _ I h) λu s1 zz9=>?_)
 obtain ⟨x,H1,I1,r1,q1⟩:=zz9
 refine thn (hr pos pins s1 σ H1 _ I1 q1) λus s2 zz11=>?_
 obtain ⟨xs,H2,I2,r2,q2⟩:=zz11
 exact ⟨x :: xs,H2,I2,.cons r1 r2,q2⟩
noncomputable def tTup (t:TA):TE:=λσ H Q=>t σ H λxs H1=>xs.length<=sizeLine/\∀ p,H1 p=none->Q (.ref p) (upd H1 p (.tup xs))
noncomputable def tLst (t:TA):TE:=λσ H Q=>t σ H λxs H1=>xs.length<=sizeLine/\∀ p,H1 p=none->Q (.ref p) (upd H1 p (.lst xs))
theorem Xj {x1} (h:PA X es t):PE X (.Tuple es x1 pos) (tTup t):=by
 intro pins s σ H Q I hq
 refine wpAny_Tuple_spliced (thn (h pos pins s σ H _ I hq) λus s1 zz7=>?_)
 obtain ⟨xs,H1,I1,r,z,q⟩:=zz7
 refine ⟨by rw [<- r.length]; exact z,?_⟩
 have hf:H1 s1.heap.objs.size=none:=I1.hok.fresh (Nat.le_refl _)
 refine ⟨.ref s1.heap.objs.size,upd H1 s1.heap.objs.size (.tup xs),I1.laid (t':=s1.toks) (λb u e=>Ak _ e) (Nat.le_refl _) ?_,rfl,q _ hf⟩
 exact ⟨z,us,r,⟨_,Heap.get?_push_size _ rfl,rfl,_,rfl⟩⟩
theorem Y5 (h:PA X es t):PE X (.List es pos) (tLst t):=by
 intro pins s σ H Q I hq
 refine wpAny_List_spliced (thn (h pos pins s σ H _ I hq) λus s1 zz7=>?_)
 obtain ⟨xs,H1,I1,r,z,q⟩:=zz7
 refine ⟨by rw [<- r.length]; exact z,?_⟩
 have hf:H1 s1.heap.objs.size=none:=I1.hok.fresh (Nat.le_refl _)
 refine ⟨.ref s1.heap.objs.size,upd H1 s1.heap.objs.size (.lst xs),I1.laid (t':=s1.toks) (λb u e=>Ak _ e) (Nat.le_refl _) ?_,rfl,q _ hf⟩
 exact ⟨z,us,0,r,Heap.get?_push_size _ rfl⟩
end
noncomputable abbrev Sp:=List V->Hp->VK->XK->Prop
noncomputable abbrev CXT:=List Env->Hp->Shared->XK->Value->Shared->Prop
structure Env0 (P:Program) (w:World) (K:PySem.W.Frag) (mg:Str->Option Value) (base:Heap) (A:Around) (outer:List Env) (s:Shared) (H:Hp):Prop where
 frames:A.frames=some outer
 mod:Mod K mg base
 bs:∀ b o,base.get? b=some o->s.heap.get? b=some o/\H b=none
 bsz:base.objs.size<=s.heap.objs.size
 funs:s.heap.FunFrames base outer
 frf:∀ b∈frs outer,H b=none
 hok:HOk P w H s.heap
 bare:AllBare s.gens
noncomputable def CE (outer:List Env) (P:Program) (w:World) (H:Hp) (s:Shared) (Q:VK) (u:Value) (s':Shared):Prop :=
 ∃ v H',s'.os=s.os/\AllBare s'.gens/\Un (frs outer) [] H H' s.heap s'.heap/\HOk P w H' s'.heap/\RelV v u/\Q v H'
noncomputable def CR (CX:CXT) (outer:List Env) (P:Program) (w:World) (H:Hp) (s:Shared) (Q:VK) (E:XK) (r:Result) (s':Shared):Prop :=
 match r with
 | .ok (.ret u)=>CE outer P w H s Q u s'
 | .ok _=>False
 | .error e=>CX outer H s E e s'
structure FnOk (P:Program) (w:World) (K:PySem.W.Frag) (mg:Str->Option Value) (base:Heap) (CX:CXT) (k:Nat) (f:Addr) (fd:FuncData) (ps:List Str) (sp:Sp):Prop where
 len:∀ vs H Q E,sp vs H Q E->vs.length=ps.length
 run:∀ (A:Around) (outer:List Env) (s:Shared) (H:Hp) (args:Args) (us:List Value) (vs:List V) (Q:VK) (E:XK),Room k A->Env0 P w K mg base A outer s H->BindsTo s fd args (ps.zip us)->Vals vs us->sp vs H Q E ->
  codeAny (model P w) A (.call (.ref f) args) (CR CX outer P w H s Q E) s
theorem Env0.make {P:Program} {w:World} {K:PySem.W.Frag} {mg:Str->Option Value} {base:Heap} {A:Around} {outer:List Env} {s:Shared} {H:Hp} (e:Env0 P w K mg base A outer s H) (C:Addr) (us:List Value) (kw:List (Str × Value)) :
  Env0 P w K mg base (A.under (.builtin "type.__call__" ⟨.ref C :: us,kw⟩)) outer s H:=⟨by first | exact e.frames | (simpa [Around.under,Code.envs,Code.isFrame,pushEnvs] using e.frames),e.mod,e.bs,e.bsz,e.funs,e.frf,e.hok,e.bare⟩
section
variable {X:Cx} {pins:List (Addr × Obj)} {σ:St} {H:Hp} {s s':Shared}
theorem Inv.env0 (I:Inv X pins σ H s):Env0 X.prog X.w X.K X.mg X.base X.A X.stack s H :=
 ⟨I.ok.frames,I.ok.mod,I.bs,Nat.le_trans I.ok.bsz I.sz,I.stack,I.stkFree,I.hok,I.bare⟩
theorem Inv.after {Q:VK} {u:Value} (I:Inv X pins σ H s) (h:CE X.stack X.prog X.w H s Q u s'):EP X pins σ Q u s':=by
 obtain ⟨v,H',os,bare,un,hok,r,q⟩:=h
 obtain ⟨hh,g,d,t,os'⟩:=s'
 obtain rfl:os'=s.os:=os
 exact ⟨v,H',I.call (h':=hh) (g':=g) (d':=d) (t':=t) (ch:=[]) un hok bare (λb z=>absurd z (by simp)),r,q⟩
end
noncomputable def Zip (sp:Sp) (dvs:List V) (E:XK) (t:TA):TE:=λσ H Q=>t σ H λvs H1=>sp (vs ++ dvs) H1 Q E
noncomputable def Zim (C:Addr) (m:Str) (sp:Sp) (dvs:List V) (E:XK) (ta:TE) (t:TA):TE:=λσ H Q=>ta σ H λx H1=>∃ a dx fs,x=.ref a/\H1 a=some (.ins C dx fs)/\fs.lookup m=none /\
 t σ H1 λvs H2=>sp (x :: (vs ++ dvs)) H2 Q E
noncomputable def Zmf (C:Addr) (sp:Sp) (dvs:List V) (E:XK) (t:TA):TE:=λσ H Q=>t σ H λvs H1=>∀ x dx,H1 x=none->H1 dx=none->dx≠x ->
 sp (.ref x :: (vs ++ dvs)) (upd (upd H1 dx (.own x)) x (.ins C dx [])) (λv H2=>v=.non/\Q (.ref x) H2) E
noncomputable def X0 (K:PySem.W.Frag) (fd:FuncData) (ps:List Str) (ds:List Value):Prop :=
 ∀ (s:Shared) (us:List Value),K.In s.heap->(us ++ ds).length=ps.length->BindsTo s fd ⟨us,[]⟩ (ps.zip (us ++ ds))
theorem X0.all {K:PySem.W.Frag} {fd:FuncData} {ps:List Str} (h:∀ us:List Value,us.length=ps.length->bindArgs fd ⟨us,[]⟩=pure (ps.zip us)):X0 K fd ps []:=λs us _ hl=>by
 rw [List.append_nil] at hl ⊢
 exact .of_eq (h us hl)
noncomputable def Qf (CX:CXT) (X:Cx) (E:XK):Prop:=∀ (pins:List (Addr × Obj)) (σ:St) (H:Hp) (s:Shared) (e:Value) (s':Shared),Inv X pins σ H s->CX X.stack H s E e s'->X.xe e s'
section
variable {X:Cx} {CX:CXT} {k:Nat} {f C:Addr} {fd:FuncData} {ps:List Str} {sp:Sp} {dvs:List V} {ds:List Value} {E:XK} {x m:Str} {p pos apos:Pos} {e o:Expr} {es:List Expr} {ta:TE} {t:TA}
theorem Zal {pins:List (Addr × Obj)} {σ:St} {H:Hp} {s:Shared} {Q:VK} {us:List Value} {vs:List V} (F:FnOk X.prog X.w X.K X.mg X.base CX k f fd ps sp) (hr:Room k X.A) (hb:X0 X.K fd ps ds) (hd:Vals dvs ds) (hx:Qf CX X E)
  (I:Inv X pins σ H s) (r:Vals vs us) (h:sp (vs ++ dvs) H Q E):wpAny (model X.prog X.w) X.A (call (.ref f) us) (EP X pins σ Q) X.xe s:=by
 have r2:Vals (vs ++ dvs) (us ++ ds):=r.append hd
 have hl:(us ++ ds).length=ps.length:=by rw [<- r2.length]; exact F.len _ _ _ _ h
 refine wpAny_call (codeAny_mono (F.run X.A X.stack s H ⟨us,[]⟩ (us ++ ds) (vs ++ dvs) Q E hr I.env0 (hb s us I.kIn hl) r2 h) λr s' hq=>?_)
 cases r with
 | error e=>exact hx pins σ H s e s' I hq
 | ok fl =>
  cases fl with
  | ret u=>exact I.after hq
  | next=>exact False.elim hq
  | brk=>exact False.elim hq
  | cont=>exact False.elim hq
theorem Zjz (F:FnOk X.prog X.w X.K X.mg X.base CX k f fd ps sp) (hr:Room k X.A) (hg:Gl X x) (hm:X.mg x=some (.ref f)) (hk:PySem.W.keepIn X.K (.ref f)=true) (hb:X0 X.K fd ps ds) (hd:Vals dvs ds) (hx:Qf CX X E)
  (ha:PA X (e :: es) t) (hdb:(x == ("__debug__":Str))=false:=by decide) (he:starEach (e :: es) X.env=(false,eval e X.env) :: starEach es X.env:=by rfl) (hpl:(backTo pos (starEach es X.env)).any (·.1)=false:=by rfl) :
  PE X (.Call (.Name x p) (e :: es) [] pos) (Zip sp dvs E t):=by
 intro pins s σ H Q I h
 refine wpAny_Call_Name_kw (Qv I hg hm ?_ hdb)
 refine PySem.W.callWith_K (h₀:=X.base) I.ok.mod.kin hk (thn (ha pos pins s σ H _ I h) λus s1 zz12=>?_) he hpl
 obtain ⟨vs,H1,I1,r,q⟩:=zz12
 refine ⟨I1.kIn,?_⟩
 exact Zal F hr hb hd hx I1 r q
theorem Ww {pl:Sem Bool} (he:PE X o ta) (c:Cls X.K C) (hm:Meth X.K C m f) (F:FnOk X.prog X.w X.K X.mg X.base CX k f fd ps sp) (hr:Room k X.A) (hb:X0 X.K fd ps ds) (hd:Vals dvs ds) (hx:Qf CX X E) (ha:PA X (e :: es) t)
  (hst:starEach (e :: es) X.env=(false,eval e X.env) :: starEach es X.env:=by rfl) (hpl:(backTo pos (starEach es X.env)).any (·.1)=false:=by rfl)
  (ht:eval (.Call (.Attribute o m apos) (e :: es) [] pos) X.env=(do
   let ov <- eval o X.env
   standAt apos.atName
   let (f,first) <- holding [ov] (getMethod ov m pl)
   callWith pos f first (backTo pos (starEach (e :: es) X.env)) (backToKw pos (keywordEach [] X.env))):=by rfl) :
  PE X (.Call (.Attribute o m apos) (e :: es) [] pos) (Zim C m sp dvs E ta t):=by
 intro pins s σ H Q I h
 refine PySem.W.methodCall_KW (pl:=pl) (thn (he pins s σ H _ I h) λu s1 zz13=>?_) ht
 obtain ⟨x,H1,I1,rx,a,dx,fs,ex,ea,l,q⟩:=zz13
 subst ex
 obtain rfl:u=Value.ref a:=rx
 refine Q7 I1 ea c hm l ?_
 refine PySem.W.callWith_K (first:=[.ref a]) (h₀:=X.base) I.ok.mod.kin hm.kp (thn (ha pos pins s1 σ H1 _ I1 q) λus s2 zz14=>?_) hst hpl
 obtain ⟨vs,H2,I2,r,q2⟩:=zz14
 refine ⟨I2.kIn,?_⟩
 exact Zal (us:=.ref a :: us) (vs:=.ref a :: vs) F hr hb hd hx I2 (.cons rfl r) q2
theorem Q6 {pl:Sem Bool} (he:PE X o ta) (c:Cls X.K C) (hm:Meth X.K C m f) (F:FnOk X.prog X.w X.K X.mg X.base CX k f fd ps sp) (hr:Room k X.A) (hb:X0 X.K fd ps ds) (hd:Vals dvs ds) (hx:Qf CX X E)
  (ht:eval (.Call (.Attribute o m apos) [] [] pos) X.env=(do
   let ov <- eval o X.env
   standAt apos.atName
   let (f,first) <- holding [ov] (getMethod ov m pl)
   callWith pos f first (backTo pos (starEach [] X.env)) (backToKw pos (keywordEach [] X.env))):=by rfl) :
  PE X (.Call (.Attribute o m apos) [] [] pos) (Zim C m sp dvs E ta tNil):=by
 intro pins s σ H Q I h
 refine PySem.W.methodCall_KW (pl:=pl) (thn (he pins s σ H _ I h) λu s1 zz15=>?_) ht
 obtain ⟨x,H1,I1,rx,a,dx,fs,ex,ea,l,q⟩:=zz15
 subst ex
 obtain rfl:u=Value.ref a:=rx
 refine Q7 I1 ea c hm l ?_
 exact PySem.W.callWith_K0 (first:=[.ref a]) I1.kIn hm.kp (Zal (us:=[.ref a]) (vs:=[.ref a]) F hr hb hd hx I1 (.cons rfl .nil) q)
structure Mk (K:PySem.W.Frag) (C f:Addr):Prop where
 makes:PySem.W.makesIn K C=true
 init:PySem.W.findIn K (.ref C) "__init__"=some (some (.ref f))
 fn:PySem.W.isFn K (.ref f)=true
 kp:PySem.W.keepIn K (.ref C)=true
theorem Zhk {pins:List (Addr × Obj)} {σ:St} {H:Hp} {s:Shared} {Q:VK} {us:List Value} {vs:List V} (M:Mk X.K C f) (F:FnOk X.prog X.w X.K X.mg X.base CX k f fd ps sp) (hr:Room (k + 1) X.A) (hb:X0 X.K fd ps ds) (hd:Vals dvs ds)
  (hx:Qf CX X E) (I:Inv X pins σ H s) (r:Vals vs us)
  (h:∀ x dx,H x=none->H dx=none->dx≠x->sp (.ref x :: (vs ++ dvs)) (upd (upd H dx (.own x)) x (.ins C dx [])) (λv H2=>v=.non/\Q (.ref x) H2) E) :
  wpAny (model X.prog X.w) X.A (call (.ref C) us) (EP X pins σ Q) X.xe s:=by
 have hq:=h (s.heap.objs.size + 1) s.heap.objs.size (I.hok.fresh (Nat.le_succ _)) (I.hok.fresh (Nat.le_refl _)) (Nat.ne_of_lt (Nat.lt_succ_self _))
 have I2:=Inv.made (C:=C) I
 have r2:Vals (V.ref (s.heap.objs.size + 1) :: (vs ++ dvs)) (Value.ref (s.heap.objs.size + 1) :: (us ++ ds)):=.cons rfl (r.append hd)
 have hl:(Value.ref (s.heap.objs.size + 1) :: us ++ ds).length=ps.length:=by
  have e:=r2.length
  rw [F.len _ _ _ _ hq] at e
  exact e.symm
 refine wpAny_call (Zh2 (f:=f) I.kIn M.makes M.init (beq_iff_eq.mp M.fn) (codeAny_mono (F.run _ X.stack _ _ ⟨Value.ref (s.heap.objs.size + 1) :: us,[]⟩ (Value.ref (s.heap.objs.size + 1) :: (us ++ ds)) _ _ E (hr.make C us [])
  (I2.env0.make C us []) (hb _ (Value.ref (s.heap.objs.size + 1) :: us) I2.kIn hl) r2 hq) λr s' hq'=>?_))
 cases r with
 | error e=>exact hx pins σ _ _ e s' I2 hq'
 | ok fl =>
  cases fl with
  | ret u =>
   obtain ⟨v,H',I3,rv,ev,q3⟩:=I2.after hq'
   subst ev
   exact ⟨rv,⟨V.ref (s.heap.objs.size + 1),H',I3,rfl,q3⟩⟩
  | next=>exact False.elim hq'
  | brk=>exact False.elim hq'
  | cont=>exact False.elim hq'
theorem Zjy (M:Mk X.K C f) (F:FnOk X.prog X.w X.K X.mg X.base CX k f fd ps sp) (hr:Room (k + 1) X.A) (hg:Gl X x) (hm:X.mg x=some (.ref C)) (hb:X0 X.K fd ps ds) (hd:Vals dvs ds) (hx:Qf CX X E)
  (ha:PA X (e :: es) t) (hdb:(x == ("__debug__":Str))=false:=by decide) (he:starEach (e :: es) X.env=(false,eval e X.env) :: starEach es X.env:=by rfl) (hpl:(backTo pos (starEach es X.env)).any (·.1)=false:=by rfl) :
  PE X (.Call (.Name x p) (e :: es) [] pos) (Zmf C sp dvs E t):=by
 intro pins s σ H Q I h
 refine wpAny_Call_Name_kw (Qv I hg hm ?_ hdb)
 refine PySem.W.callWith_K (h₀:=X.base) I.ok.mod.kin M.kp (thn (ha pos pins s σ H _ I h) λus s1 zz16=>?_) he hpl
 obtain ⟨vs,H1,I1,r,q⟩:=zz16
 refine ⟨I1.kIn,?_⟩
 exact Zhk M F hr hb hd hx I1 r q
end
structure FnScope (N P:List Str) (sc:Scope):Prop where
 kind:sc.kind=.function
 co:sc.isCoroutine=false
 gen:sc.isGenerator=false
 nd:N.Nodup
 pre:N.take P.length=P
 par:∀ x∈P,sc.names.lookup x=some .local\/sc.names.lookup x=some .cell
 nofree:∀ y∈sc.names,y.2≠.free
theorem G6 {kindOf:Str->Option NameKind} {x:Str}:∀ {binds:List (Str × Value)} {m:Str->Option Value},(∀ v,(x,v) ∉ binds)->bindL kindOf binds m x=m x
 | [],_,_=>rfl
 | (n,v) :: r,m,h=>by
  unfold bindL
  rw [G6 λw hw=>h w (List.mem_cons_of_mem _ hw)]
  split
  ·have:x≠n:=by rintro rfl; exact h v List.mem_cons_self
   simp [this]
  ·rfl
theorem G8 {kindOf:Str->Option NameKind} {x:Str}:∀ {binds:List (Str × Value)} {m:Str->Option Value},(∀ v,(x,v) ∉ binds)->bindC kindOf binds m x=m x
 | [],_,_=>rfl
 | (n,v) :: r,m,h=>by
  unfold bindC
  rw [G8 λw hw=>h w (List.mem_cons_of_mem _ hw)]
  split
  ·rfl
  ·have:x≠n:=by rintro rfl; exact h v List.mem_cons_self
   simp [this]
theorem G7 {kindOf:Str->Option NameKind} {x:Str} {v:Value}:∀ {P:List Str} {vs:List Value} {i:Nat} {m:Str->Option Value},P.Nodup->P[i]?=some x->vs[i]?=some v->kindOf x=some .local ->
  bindL kindOf (P.zip vs) m x=some v
 | [],_,_,_,_,h,_,_=>by simp at h
 | _ :: _,[],_,_,_,_,h,_=>by simp at h
 | p :: P,w :: vs,0,m,nd,h1,h2,hk=>by
  simp at h1 h2; subst h1; subst h2
  show bindL kindOf ((p,w) :: P.zip vs) m p=_
  unfold bindL
  rw [G6 λv hv=>(List.nodup_cons.mp nd).1 (List.of_mem_zip hv).1,if_pos hk]
  simp
 | p :: P,w :: vs,i + 1,m,nd,h1,h2,hk=>by
  show bindL kindOf ((p,w) :: P.zip vs) m x=_
  unfold bindL
  exact G7 (i:=i) (List.nodup_cons.mp nd).2 (by simpa using h1) (by simpa using h2) hk
theorem G9 {kindOf:Str->Option NameKind} {x:Str} {v:Value}:∀ {P:List Str} {vs:List Value} {i:Nat} {m:Str->Option Value},P.Nodup->P[i]?=some x->vs[i]?=some v->kindOf x≠some .local ->
  bindC kindOf (P.zip vs) m x=some v
 | [],_,_,_,_,h,_,_=>by simp at h
 | _ :: _,[],_,_,_,_,h,_=>by simp at h
 | p :: P,w :: vs,0,m,nd,h1,h2,hk=>by
  simp at h1 h2; subst h1; subst h2
  show bindC kindOf ((p,w) :: P.zip vs) m p=_
  unfold bindC
  rw [G8 λv hv=>(List.nodup_cons.mp nd).1 (List.of_mem_zip hv).1,if_neg hk]
  simp
 | p :: P,w :: vs,i + 1,m,nd,h1,h2,hk=>by
  show bindC kindOf ((p,w) :: P.zip vs) m x=_
  unfold bindC
  exact G9 (i:=i) (List.nodup_cons.mp nd).2 (by simpa using h1) (by simpa using h2) hk
noncomputable def start (N:List Str) (vs:List V):St:=vs.map some ++ List.replicate (N.length - vs.length) none
noncomputable def cxOf (CX:CXT) (P:Program) (w:World) (K:PySem.W.Frag) (mg:Str->Option Value) (base:Heap) (N:List Str) (qual:Str) (scope:Scope) (f:Addr) (cd:Value) (A:Around) (outer:List Env) (s:Shared) (H:Hp) (E:XK):Cx where
 prog:=P
 w:=w
 K:=K
 mg:=mg
 base:=base
 A:=A.deeper (envOfC qual scope s.heap.objs.size f cd)
 N:=N
 s₀:=s
 H₀:=H
 env:=envOfC qual scope s.heap.objs.size f cd
 outer:=outer
 stack:=envOfC qual scope s.heap.objs.size f cd :: outer
 ex:=[]
 calm:=true
 fn:=λ_=>true
 pn:=[]
 xe:=λe s'=>wpAny (model P w) (A.deeper (envOfC qual scope s.heap.objs.size f cd)) (leaving (envOfC qual scope s.heap.objs.size f cd) e) (λ_ s''=>CX outer H s E e s'') (λe' s''=>CX outer H s E e' s'') s'
theorem Zbt {sc:Scope} {n:Nat} {x:Str} (h:sc.names.lookup x=some .cell):∃ c,(cellsFrom n sc.names []).lookup x=some c:=by
 have q:=PySem.W.cellsFrom_some sc.names n [] (.inl h)
 exact Option.isSome_iff_exists.mp q
theorem Zgj {CX:CXT} {P:Program} {w:World} {K:PySem.W.Frag} {mg:Str->Option Value} {base:Heap} {N ps:List Str} {qual:Str} {scope:Scope} {f:Addr} {cd:Value} {A:Around} {outer:List Env} {s s1:Shared} {H:Hp} {E:XK} {us:List Value} {vs:List V}
  (S:FnScope N ps scope) (hd:A.handled=none) (e0:Env0 P w K mg base A outer s H) (hl:vs.length=ps.length) (r:Vals vs us)
  (x:InCallC s s.heap.objs.size (bindL (envOfC qual scope s.heap.objs.size f cd).kindOf (ps.zip us) λ_=>none) (cellsFrom (s.heap.objs.size + 1) scope.names []) (bindC (envOfC qual scope s.heap.objs.size f cd).kindOf (ps.zip us) λ_=>none) s1) :
  Inv (cxOf CX P w K mg base N qual scope f cd A outer s H E) [] (start N vs) H s1:=by
 have hpl:ps.length<=N.length:=by have:=congrArg List.length S.pre; rw [Ai] at this; lia
 obtain ⟨h1,tk,rfl,hk⟩:=x.done
 have noA:∀ b:Addr,b ∉ (cxOf CX P w K mg base N qual scope f cd A outer s H E).ex:=λb z=>absurd (show b∈([]:List Addr) from z) (by simp)
 refine ⟨⟨e0.mod,S.kind,rfl,rfl,Nat.le_refl _,λy z c h1 h2=>?_,λy hy=>?_,λy c _ h=>?_,λ_=>hd,Around.frames_deeper e0.frames,.inr ⟨rfl,rfl⟩,λb z=>absurd z (noA b),e0.bs,e0.bsz,λb _ _=>noA b,λb z=>absurd z (noA b),e0.funs,e0.frf⟩,
  rfl,e0.bare,Un.kept hk,⟨_,x.toInCall.ns,λi y v h1 h2 h3=>?_⟩,λy c h=>⟨_,x.cell y c h⟩,e0.hok.fresh (Nat.le_refl _),λy c h=>?_,λp hp=>absurd (show p∈([]:List (Addr × Obj)) from hp) (by simp),e0.hok.kept hk,?_⟩
 ·exact name_of_addr x.apart (PySem.mem_of_lookup h1) (PySem.mem_of_lookup h2)
 ·have hy:scope.names.lookup y=some .cell\/scope.names.lookup y=some .free:=hy
  rcases hy with hy | hy
  ·exact Zbt hy
  ·exact absurd rfl (S.nofree _ (PySem.mem_of_lookup hy))
 ·exact Nat.le_of_lt (x.above y c (PySem.mem_of_lookup h))
 ·have hi:i < vs.length:=by
   unfold start at h2
   by_cases hi:i < vs.length
   ·exact hi
   ·rw [List.getElem?_append_right (by simpa using hi)] at h2
    rw [List.getElem?_replicate] at h2
    split at h2 <;> cases h2
  have ha:vs[i]?=some v:=by
   unfold start at h2
   rw [List.getElem?_append_left (by simpa using hi),Ah] at h2
   cases e:vs[i]? with
   | none=>rw [e] at h2; cases h2
   | some a=>rw [e] at h2; cases h2; rfl
  obtain ⟨u,hu,rv⟩:=r.get ha
  have hp:ps[i]?=some y:=by
   rw [<- S.pre,List.getElem?_take_of_lt (by lia)]; exact h1
  have ndP:ps.Nodup:=by rw [<- S.pre]; exact S.nd.sublist (List.take_sublist _ _)
  refine ⟨u,rv,?_⟩
  rcases S.par y (List.mem_of_getElem? hp) with k | k
  ·exact .inl ⟨k,G7 ndP hp hu k⟩
  ·obtain ⟨c,e⟩:=Zbt (n:=s.heap.objs.size + 1) k
   refine .inr ⟨.inl k,c,e,?_⟩
   have q:=x.cell y c e
   rw [G9 ndP hp hu (by show scope.names.lookup y≠_; rw [k]; decide)] at q
   exact q
 ·exact e0.hok.fresh (Nat.le_of_lt (x.above y c (PySem.mem_of_lookup h)))
 ·unfold start
  show _=N.length
  rw [Ae,Ab,List.length_replicate]
  lia
theorem Zi0 {CX:CXT} {P:Program} {w:World} {K:PySem.W.Frag} {mg:Str->Option Value} {base:Heap} {k:Nat} {f:Addr} {name qual:Str} {params:Arguments} {body:List Stmt} {scope:Scope} {dV kV doc pm cdv ct oc:Value} {an od:Option Addr}
  {osl:Array (Option Value)} {N ps:List Str} {sp:Sp} (lk:K.lookup f=some ⟨oc,od,.func (PySem.W.fnOf name qual params body scope dV kV doc pm an cdv ct),osl⟩) (hcd:PySem.W.codeIn K cdv qual=true) (S:FnScope N ps scope)
  (len:∀ vs H Q E,sp vs H Q E->vs.length=ps.length)
  (hbody:∀ (A:Around) (outer:List Env) (s:Shared) (H:Hp) (vs:List V) (Q:VK) (E:XK),Room k (A.deeper (envOfC qual scope s.heap.objs.size f cdv))->sp vs H Q E ->
   ∃ t,PSs (cxOf CX P w K mg base N qual scope f cdv A outer s H E) body t/\t { nx:=λ_ H'=>Q .non H',rt:=Q } (start N vs) H) :
  FnOk P w K mg base CX (k + 1) f (PySem.W.fnOf name qual params body scope dV kV doc pm an cdv ct) ps sp:=by
 refine ⟨len,λA outer s H args us vs Q E hr e0 hb r hsp=>?_⟩
 have hl:=len _ _ _ _ hsp
 have KX:K.In s.heap:=e0.mod.kin.keeps λb o e=>(e0.bs b o e).1
 have lim:s.heap.NoLimit:=e0.mod.nolimit.keeps λb o e=>(e0.bs b o e).1
 have hkind:∀ y∈ps.zip us,scope.names.lookup y.1=some .local\/(scope.names.lookup y.1=some .cell/\((cellsFrom (s.heap.objs.size + 1) scope.names []).lookup y.1).isSome=true):=λ⟨n,v⟩ hy=>by
  rcases S.par n (List.of_mem_zip hy).1 with q | q
  ·exact .inl q
  ·exact .inr ⟨q,PySem.W.cellsFrom_some _ _ _ (.inl q)⟩
 refine codeAny_call_function hr.depth (KX _ _ lk) rfl S.co S.gen rfl (PySem.W.codeRec_of KX hcd) (hb _ _ _ _ ?_)
 refine wpAny_newFunctionEnv_cells S.kind hkind λenv he s1 x=>?_
 subst he
 refine ⟨lim.keeps x.toInCall.keep,codeAny_func ?_⟩
 obtain ⟨t,ht,hq⟩:=hbody A outer s H vs Q E (hr.deeper _) hsp
 have I:Inv (cxOf CX P w K mg base N qual scope f cdv A outer s H E) [] (start N vs) H s1:=Zgj S hr.hd e0 hl r x
 refine wpAny_mono (ht [] s1 (start N vs) H _ I hq) (λfl s' hs=>?_) λe s' hs=>hs
 have fin:∀ {σ':St} {H':Hp} {v:V} {u:Value},Inv (cxOf CX P w K mg base N qual scope f cdv A outer s H E) [] σ' H' s'->RelV v u->Q v H'->CE outer P w H s Q u s' :=
  λ{σ' H' v u} J rv q=>⟨v,H',J.os,J.bare,J.base,J.hok,rv,q⟩
 cases fl with
 | ret u =>
  obtain ⟨v,σ',H',J,rv,q⟩:=hs
  exact fin J rv q
 | next =>
  obtain ⟨σ',H',J,q⟩:=hs
  exact fin (v:=V.non) (u:=Value.none) J rfl q
 | brk =>
  obtain ⟨_,_,_,q⟩:=hs
  exact False.elim q
 | cont =>
  obtain ⟨_,_,_,q⟩:=hs
  exact False.elim q
section
variable {X:Cx} {x:Str} {p pos:Pos} {e:Expr} {es:List Expr} {t:TA} {id T:String} {r:List V->Hp->VK->Prop}
noncomputable def tCB (r:List V->Hp->VK->Prop) (t:TA):TE:=λσ H Q=>t σ H λvs H1=>r vs H1 Q
theorem Zk (hc:Y1 X (.builtin id) r) (hg:Gl X x) (hm:X.mg x=none) (hv:bootBuiltins x=some (.builtin id)) (ha:PA X (e :: es) t) (hn:x≠"__name__":=by decide) (hdb:(x == ("__debug__":Str))=false:=by decide)
  (he:starEach (e :: es) X.env=(false,eval e X.env) :: starEach es X.env:=by rfl) (hpl:(backTo pos (starEach es X.env)).any (·.1)=false:=by rfl):PE X (.Call (.Name x p) (e :: es) [] pos) (tCB r t):=by
 intro pins s σ H Q I h
 refine wpAny_Call_Name_kw (Xe I hg hm hv ?_ hn hdb)
 refine PyProof.Rows.callWith_builtin1 (thn (ha pos pins s σ H _ I h) λus s1 zz17=>?_) he hpl
 obtain ⟨vs,H1,I1,r1,q1⟩:=zz17
 exact hc pins s1 σ H1 vs us Q I1 r1 q1
theorem Wx (hc:Y1 X (.type T) r) (hg:Gl X x) (hm:X.mg x=none) (hv:bootBuiltins x=some (.type T)) (ha:PA X (e :: es) t) (hn:x≠"__name__":=by decide) (hdb:(x == ("__debug__":Str))=false:=by decide)
  (he:starEach (e :: es) X.env=(false,eval e X.env) :: starEach es X.env:=by rfl) (hpl:(backTo pos (starEach es X.env)).any (·.1)=false:=by rfl):PE X (.Call (.Name x p) (e :: es) [] pos) (tCB r t):=by
 intro pins s σ H Q I h
 refine wpAny_Call_Name_kw (Xe I hg hm hv ?_ hn hdb)
 refine PyProof.Rows.callWith_type1 (thn (ha pos pins s σ H _ I h) λus s1 zz18=>?_) he hpl
 obtain ⟨vs,H1,I1,r1,q1⟩:=zz18
 exact hc pins s1 σ H1 vs us Q I1 r1 q1
theorem Zd9 (hc:Y1 X (.type T) r) (hg:Gl X x) (hm:X.mg x=none) (hv:bootBuiltins x=some (.type T)) (hn:x≠"__name__":=by decide) (hdb:(x == ("__debug__":Str))=false:=by decide) :
  PE X (.Call (.Name x p) [] [] pos) (tCB r tNil):=by
 intro pins s σ H Q I h
 refine wpAny_Call_Name_kw (Xe I hg hm hv ?_ hn hdb)
 exact PyProof.Rows.callWith_type0 (hc pins s σ H [] [] Q I .nil h)
end
end L2
namespace HT
open PySem PyProof.Rows
noncomputable def lexLt:List Int->List Int->Bool
 | [],[]=>false
 | [],_ :: _=>true
 | _ :: _,[]=>false
 | x :: xs,y :: ys=>if x=y then lexLt xs ys else decide (x < y)
theorem J4 (x y:Int) (xs ys:List Int):lexLt (x :: xs) (y :: ys)=if x=y then lexLt xs ys else decide (x < y):=rfl
theorem Vg:lexLt [] []=false:=rfl
theorem Ji (y:Int) (ys:List Int):lexLt [] (y :: ys)=true:=rfl
theorem Wh (x:Int) (xs:List Int):lexLt (x :: xs) []=false:=rfl
theorem Zig (A:Around) (s:Shared) (a:Int) (t:Tok) (c:Int) (u:Tok):∃ e,SeqAt.EqAt A s (.int a t) (.int c u) e/\(e=true ↔ a=c) :=
 ⟨(a == c),SeqAt.EqAt.int_int a t c u,by simp⟩
theorem Zhm (A:Around) (s:Shared) (a:Int) (t:Tok) (c:Int) (u:Tok) (prog:Program) (w:World) (E:Value->Shared->Prop) (Q:Value->Shared->Prop) (h:Q (.bool (decide (a < c))) s) :
  wpAny (model prog w) A (richCompare .Lt (.int a t) (.int c u)) Q E s :=
 (PyProof.Rows.lt_int h:wpAny (model prog w) A (compareOp .Lt (.int a t) (.int c u)) Q E s)
section
variable {prog:Program} {w:World} {A:Around} {E:Value->Shared->Prop} {s:Shared}
noncomputable def sIx (n d:Nat):Option Int->Nat
 | none=>d
 | some v=>if v < 0 then (v + (n:Int)).toNat else min v.toNat n
theorem sIx_none (n d:Nat):sIx n d none=d:=rfl
theorem sIx_nat (n d k:Nat):sIx n d (some (k:Int))=min k n:=by
 show (if (k:Int) < 0 then ((k:Int) + (n:Int)).toNat else min (k:Int).toNat n)=min k n
 rw [if_neg (by lia),Int.toNat_natCast]
end
end HT
namespace L2
open PySem PySem.Spec PyProof.Rows
noncomputable abbrev TO:=St->Hp->(Option Int->Hp->Prop)->Prop
noncomputable def PO (X:Cx) (e:Option Expr) (t:TO):Prop :=
 ∀ (pins:List (Addr × Obj)) (s:Shared) (σ:St) (H:Hp) (Q:Option Int->Hp->Prop),Inv X pins σ H s->t σ H Q ->
  wpAny (model X.prog X.w) X.A (evalPart e X.env) (λu s'=>∃ o H',Inv X pins σ H' s'/\IsPart u o/\Q o H') X.xe s
noncomputable def Zi8:TO:=λ_ H Q=>Q none H
noncomputable def Zmd (t:TE):TO:=λσ H Q=>t σ H λx H1=>∃ i,x=.int i/\Q (some i) H1
theorem J5 {ns:List Int}:∀ {us:List Value},Vals (ns.map V.int) us->IntsAre us ns:=by
 induction ns with
 | nil=>intro us r; rw [List.map_nil] at r; cases r; exact .nil
 | cons n ns ih =>
  intro us r
  rw [List.map_cons] at r
  cases r with
  | cons r1 r2 =>
   obtain ⟨t,e⟩:=r1
   subst e
   exact .cons n t (ih r2)
section
variable {X:Cx} {e:Expr} {te:TE} {lo hi:Option Expr} {tl th:TO} {pos p2:Pos}
theorem Jd:PO X none Zi8:=by
 intro pins s σ H Q I h
 rw [evalPart_none]
 exact wpAny_pure ⟨none,H,I,.none,h⟩
theorem We (h:PE X e te):PO X (some e) (Zmd te):=by
 intro pins s σ H Q I hw
 rw [evalPart_some]
 refine thn (h pins s σ H _ I hw) λu s1 zz9=>?_
 obtain ⟨x,H1,I1,r1,q1⟩:=zz9
 obtain ⟨i,rfl,q⟩:=q1
 obtain ⟨t,rfl⟩:=r1
 exact ⟨some i,H1,I1,.int i t,q⟩
noncomputable def SlR (X:Cx) (r:V->Option Int->Option Int->Hp->VK->Prop):Prop :=
 ∀ (pins:List (Addr × Obj)) (s:Shared) (σ:St) (H:Hp) (x:V) (v vl vu:Value) (lo hi:Option Int) (sl:Addr) (Q:VK),Inv X pins σ H s->RelV x v->s.heap.IsSliceOf sl vl vu .none->IsPart vl lo->IsPart vu hi->r x lo hi H Q ->
  ∃ T id,typeLookup (.type T) "__getitem__"=pure (some (.builtin id))/\s.TypeIs v T/\wpAny (model X.prog X.w) X.A (getItem v (.ref sl)) (EP X pins σ Q) X.xe s
noncomputable def tSl (r:V->Option Int->Option Int->Hp->VK->Prop) (te:TE) (tl th:TO):TE:=λσ H Q=>te σ H λx H1=>tl σ H1 λl H2=>th σ H2 λu H3=>r x l u H3 Q
theorem X8 {r:V->Option Int->Option Int->Hp->VK->Prop} (hr:SlR X r) (he:PE X e te) (hl:PO X lo tl) (hu:PO X hi th):PE X (.Subscript e (.Slice lo hi none p2) pos) (tSl r te tl th):=by
 intro pins s σ H Q I h
 refine Subscript_ (thn (he pins s σ H _ I h) λv s1 zz9=>?_)
 obtain ⟨x,H1,I1,r1,q1⟩:=zz9
 refine wpAny_Slice (thn (hl pins s1 σ H1 _ I1 q1) λvl s2 zz19=>?_)
 obtain ⟨l,H2,I2,pl,q2⟩:=zz19
 refine thn (hu pins s2 σ H2 _ I2 q2) λvu s3 zz9=>?_
 obtain ⟨u,H3,I3,pu,q3⟩:=zz9
 rw [evalPart_none]
 refine wpAny_pure ?_
 have I4:Inv X pins σ H3 { s3 with heap:=s3.heap.push { cls:=.type "slice",data:=.fields #[vl,vu,.none] } }:=I3.kept (t':=s3.toks) λb ob q=>Ak _ q
 obtain ⟨T,id,hT,ht,hg⟩:=hr pins { s3 with heap:=s3.heap.push { cls:=.type "slice",data:=.fields #[vl,vu,.none] } } σ H3 x v vl vu l u s3.heap.objs.size Q I4 r1 (Heap.IsSliceOf.new ..) pl pu q3
 show wpAny (model X.prog X.w) X.A (subscriptTail e (.Slice lo hi none p2) v (.ref s3.heap.objs.size)) (EP X pins σ Q) X.xe { s3 with heap:=s3.heap.push { cls:=.type "slice",data:=.fields #[vl,vu,.none] } }
 exact tail_any (ops:=[.ref s3.heap.objs.size,v]) ht hT hg (by with_unfolding_all rfl)
noncomputable def cutV (xs:List V) (lo hi:Option Int):List V:=(xs.drop (HT.sIx xs.length 0 lo)).take (HT.sIx xs.length xs.length hi - HT.sIx xs.length 0 lo)
theorem Zck (xs:List V) (lo hi:Option Int):(cutV xs lo hi).length<=xs.length:=by
 unfold cutV
 rw [Ai,List.length_drop]
 lia
end
noncomputable def ixN (n:Nat) (i:Int):Option Nat:=if 0<=i then (if i < n then some i.toNat else none) else if -(n:Int)<=i then some (i + n).toNat else none
noncomputable def atI {α:Type} (xs:List α) (i:Int):Option α:=(ixN xs.length i).bind λj=>xs[j]?
theorem Zda {n:Nat} {i:Int} {j:Nat} (h:ixN n i=some j):seqIndex? i n=some j/\j < n/\-(n:Int)<=i/\i < n:=by
 unfold ixN at h
 by_cases h0:0<=i
 ·rw [if_pos h0] at h
  by_cases h1:i < n
  ·rw [if_pos h1] at h
   have e:i.toNat=j:=Option.some.inj h
   exact ⟨by rw [seqIndex_of h0 h1,e],by lia,by lia,h1⟩
  ·rw [if_neg h1] at h; cases h
 ·rw [if_neg h0] at h
  by_cases h1:-(n:Int)<=i
  ·rw [if_pos h1] at h
   have e:(i + n).toNat=j:=Option.some.inj h
   exact ⟨by rw [seqIndex_neg (by lia) h1,e],by lia,h1,by lia⟩
  ·rw [if_neg h1] at h; cases h
theorem Zdq {α:Type} {xs:List α} {i:Int} {v:α} (h:atI xs i=some v):∃ j,seqIndex? i xs.length=some j/\xs[j]?=some v/\j < xs.length/\-(xs.length:Int)<=i/\i < xs.length:=by
 unfold atI at h
 cases e:ixN xs.length i with
 | none=>rw [e] at h; cases h
 | some j =>
  rw [e] at h
  obtain ⟨h1,h2,h3,h4⟩:=Zda e
  exact ⟨j,h1,h,h2,h3,h4⟩
theorem Yo {α:Type} {xs:List α} {j:Nat} {v:α} (h:xs[j]?=some v):atI xs (j:Int)=some v:=by
 have hj:j < xs.length:=(Aa h).1
 have e:ixN xs.length (j:Int)=some j:=by
  unfold ixN
  rw [if_pos (by lia),if_pos (by lia)]; simp
 unfold atI; rw [e]; exact h
noncomputable def Zko (b:Expr):Prop:=∀ o i,subscripted b false o i=operate [o,i] (getItem o i)
noncomputable def IxR (X:Cx) (r:R2):Prop :=
 ∀ (value slice:Expr) (pins:List (Addr × Obj)) (s:Shared) (σ:St) (H:Hp) (x y:V) (v u:Value) (Q:VK),Inv X pins σ H s->RelV x v->RelV y u->r x y H Q ->
  subscripted slice false v u=operate [v,u] (getItem v u)->wpAny (model X.prog X.w) X.A (subscriptTail value slice v u) (EP X pins σ Q) X.xe s
noncomputable def MtR (X:Cx) (id:String) (r:V->List V->Hp->VK->Prop):Prop :=
 ∀ (pins:List (Addr × Obj)) (s:Shared) (σ:St) (H:Hp) (x:V) (xs:List V) (v:Value) (us:List Value) (Q:VK),Inv X pins σ H s->RelV x v->Vals xs us->r x xs H Q ->
  wpAny (model X.prog X.w) X.A (call (.builtin id) (v :: us)) (EP X pins σ Q) X.xe s
section
variable {X:Cx} {a b:Expr} {ta tb:TE} {pos:Pos}
theorem Zs {r:R2} (hr:IxR X r) (ha:PE X a ta) (hb:PE X b tb) (hs:Zko b):PE X (.Subscript a b pos) (tOp r ta tb):=by
 intro pins s σ H Q I h
 exact Subscript_ (binT ha hb I h λv u s2 x y H2 I2 rx ry q=>hr a b pins s2 σ H2 x y v u Q I2 rx ry q (hs _ _))
noncomputable def rIxL (K:PySem.W.Frag):R2:=λx y H Q=>∃ p xs i v,x=.ref p/\y=.int i/\SqL K H p xs/\atI xs i=some v/\Q v H
noncomputable def rIxT (K:PySem.W.Frag):R2:=λx y H Q=>∃ p xs i v,x=.ref p/\y=.int i/\SqT K H p xs/\atI xs i=some v/\Q v H
theorem Zp:IxR X (rIxL X.K):=by
 intro value slice pins s σ H x y v u Q I rx ry h hs
 obtain ⟨p,xs,i,z,rfl,rfl,hq,he,q⟩:=h
 cases rx
 obtain ⟨t,rfl⟩:=ry
 obtain ⟨its,r,pl,hz⟩:=I.list hq
 obtain ⟨j,h1,h2,h3,h4,h5⟩:=Zdq he
 obtain ⟨w,ew,rw'⟩:=r.get h2
 have hl:=r.length
 have hn:=Vx
 have fin:EP X pins σ Q w s:=⟨z,H,I,rw',q⟩
 by_cases h0:0<=i
 ·have hj:i.toNat=j:=by
   rw [seqIndex_of h0 h5] at h1
   exact Option.some.inj h1
  exact item_listR pl.isList h0 (by lia) (by rw [hj]; simpa using ew) fin hs
 ·have hj:(i + (its.toArray.size:Int)).toNat=j:=by
   rw [seqIndex_neg (by lia) h4] at h1
   rw [List.size_toArray,<- hl]
   exact Option.some.inj h1
  exact subscriptTail_builtinR (x:=w) pl.isList.typeIs slot_list_getitem.lookup
   (wpAny_getItem_list_neg (Q:=λr s'=>r=w/\EP X pins σ Q r s') pl.isList (by lia) (by rw [List.size_toArray] <;> lia) (by lia) (by rw [hj]; simpa using ew) ⟨rfl,fin⟩) hs
theorem V0:IxR X (rIxT X.K):=by
 intro value slice pins s σ H x y v u Q I rx ry h hs
 obtain ⟨p,xs,i,z,rfl,rfl,hq,he,q⟩:=h
 cases rx
 obtain ⟨t,rfl⟩:=ry
 obtain ⟨its,r,pl,hz⟩:=I.tuple hq
 obtain ⟨j,h1,h2,h3,h4,h5⟩:=Zdq he
 obtain ⟨w,ew,rw'⟩:=r.get h2
 have hl:=r.length
 have hn:=Vx
 have fin:EP X pins σ Q w s:=⟨z,H,I,rw',q⟩
 exact subscriptTail_builtinR (x:=w) pl.typeIs slot_tuple_getitem.lookup
  (getItem_tuple (j:=j) (Q:=λr s'=>r=w/\EP X pins σ Q r s') pl (by lia) (by lia) (by rw [List.size_toArray,<- hl]; exact h1) (by simpa using ew) ⟨rfl,fin⟩) hs
theorem Zeh (its:List Value) (n j:Nat) (u:Value):Obj.mapSeq (·.setIfInBounds j u) { cls:=.type "list",data:=.seq its.toArray n }={ cls:=.type "list",data:=.seq (its.set j u).toArray n }:=by
 simp [Obj.mapSeq]
theorem Inv.lst {pins:List (Addr × Obj)} {σ:St} {H:Hp} {s:Shared} {p:Addr} {xs:List V} (I:Inv X pins σ H s) (h:H p=some (.lst xs)) :
  ∃ (its:List Value) (n:Nat),Vals xs its/\s.heap.get? p=some { cls:=.type "list",data:=.seq its.toArray n }/\xs.length<=sizeLine:=by
 obtain ⟨z,its,n,r,e⟩:=I.hok p _ h
 exact ⟨its,n,r,e,z⟩
theorem Inv.lstUpd {pins:List (Addr × Obj)} {σ:St} {H:Hp} {s:Shared} {p:Addr} {xs ys:List V} {its its':List Value} {n n':Nat} {f:Obj->Obj} (I:Inv X pins σ H s) (h:H p=some (.lst xs))
  (ho:s.heap.get? p=some { cls:=.type "list",data:=.seq its.toArray n }) (hf:f { cls:=.type "list",data:=.seq its.toArray n }={ cls:=.type "list",data:=.seq its'.toArray n' }) (r:Vals ys its') (hz:ys.length<=sizeLine) (t:Nat) :
  Inv X pins σ (upd H p (.lst ys)) { s with heap:=s.heap.update p f,toks:=t }:=by
 have e:(s.heap.update p f).get? p=some { cls:=.type "list",data:=.seq its'.toArray n' }:=by
  rw [Heap.get?_update_self f ho (by rw [hf] <;> rfl),hf]
 refine I.write (x:=p) (e:=p) (by rw [h]; trivial) (.inl rfl) (λb u hb q=>(Heap.get?_update_other _ _ (Ne.symm hb)).trans q) ⟨_,e⟩ ?_
 exact ⟨hz,its',n',r,e⟩
noncomputable def Zml:V->V->V->Hp->(Hp->Prop)->Prop:=λo i v H Q=>∃ p xs k j,o=.ref p/\i=.int k/\H p=some (.lst xs)/\ixN xs.length k=some j/\Q (upd H p (.lst (xs.set j v)))
theorem X2:PSet X Zml:=by
 intro pins s σ H o i v ov iv u Q I ro ri rv h
 obtain ⟨p,xs,k,j,rfl,rfl,hp,hj,q⟩:=h
 cases ro
 obtain ⟨t,rfl⟩:=ri
 obtain ⟨its,n,r,ho,hz⟩:=I.lst hp
 obtain ⟨h1,h2,h3,h4⟩:=Zda hj
 have hl:=r.length
 have hn:=Vx
 have I':Inv X pins σ (upd H p (.lst (xs.set j v))) { s with heap:=s.heap.update p (Obj.mapSeq (·.setIfInBounds j u)) } :=
  I.lstUpd hp ho (Zeh its n j u) (r.set rv j) (by rw [List.length_set]; exact hz) s.toks
 by_cases h0:0<=k
 ·have hk:k.toNat=j:=by
   rw [seqIndex_of h0 h4] at h1
   exact Option.some.inj h1
  exact PySem.W.ki_setAt ho h0 (by lia) (by rw [List.size_toArray,<- hl]; exact h4) (by rw [hk]; exact ⟨_,I',q⟩)
 ·have hk:(k + (its.toArray.size:Int)).toNat=j:=by
   rw [seqIndex_neg (by lia) h3] at h1
   rw [List.size_toArray,<- hl]
   exact Option.some.inj h1
  exact PySem.W.ki_setBack ho (by lia) (by rw [List.size_toArray,<- hl]; exact h3) (by lia) (by rw [hk]; exact ⟨_,I',q⟩)
theorem F1 (lo hi:Option Int) (n:Nat):(sliceBounds lo hi none n).1=((HT.sIx n 0 lo:Nat):Int)/\(sliceBounds lo hi none n).2.1=((HT.sIx n n hi:Nat):Int)/\(sliceBounds lo hi none n).2.2=1:=by
 refine ⟨?_,?_,rfl⟩
 ·cases lo with
  | none=>simp [sliceBounds,HT.sIx]
  | some i =>
   simp only [sliceBounds,HT.sIx,Option.getD_none,show (1:Int) > 0 by decide,if_true]
   by_cases h:i < 0
   ·simp only [h,if_true] <;> lia
   ·simp only [h,if_false] <;> lia
 ·cases hi with
  | none=>simp [sliceBounds,HT.sIx]
  | some i =>
   simp only [sliceBounds,HT.sIx,Option.getD_none,show (1:Int) > 0 by decide,if_true]
   by_cases h:i < 0
   ·simp only [h,if_true] <;> lia
   ·simp only [h,if_false] <;> lia
theorem Fh (its:List Value) (lo hi:Option Int):slicePick its.toArray lo hi none=((its.drop (HT.sIx its.length 0 lo)).take (HT.sIx its.length its.length hi - HT.sIx its.length 0 lo)).toArray:=by
 obtain ⟨h1,h2,h3⟩:=F1 lo hi its.toArray.size
 unfold slicePick
 rw [h1,h2,h3]
 simp only [sliceRange_one,pick_run,List.size_toArray] <;> rfl
noncomputable def rSlL (K:PySem.W.Frag):V->Option Int->Option Int->Hp->VK->Prop:=λx lo hi H Q=>∃ a xs,x=.ref a/\SqL K H a xs/\∀ p,H p=none->Q (.ref p) (upd H p (.lst (cutV xs lo hi)))
theorem Qm:SlR X (rSlL X.K):=by
 intro pins s σ H x v vl vu lo hi sl Q I rx hs pl pu h
 obtain ⟨a,xs,rfl,hx,q⟩:=h
 cases rx
 obtain ⟨its,r,ht,hz⟩:=I.list hx
 have hlen:=r.length
 refine ⟨"list",_,slot_list_getitem.lookup,ht.isList.typeIs,?_⟩
 refine wpAny_getItem_list_slice ht.isList hs pl pu .none (by simp) ?_ (by rw [List.size_toArray] <;> lia)
 rw [Fh,<- hlen]
 refine ⟨.ref s.heap.objs.size,_,I.laid (t':=s.toks) (o:=.lst (cutV xs lo hi)) (λb ob q=>Ak _ q) (Nat.le_refl _) ?_,rfl,q _ (I.hok.fresh (Nat.le_refl _))⟩
 exact ⟨Nat.le_trans (Zck xs lo hi) hz,_,0,(r.drop (HT.sIx xs.length 0 lo)).take (HT.sIx xs.length xs.length hi - HT.sIx xs.length 0 lo),Heap.get?_push_size _ rfl⟩
theorem Zj:Y1 X (.builtin "len") (λxs H Q=>∃ p ys,xs=[.ref p]/\(SqL X.K H p ys\/SqT X.K H p ys)/\Q (.int ys.length) H):=by
 intro pins s σ H xs us Q I r h
 obtain ⟨p,ys,rfl,hq,q⟩:=h
 obtain ⟨u,rfl,rx⟩:=Xw r
 cases rx
 have hn:=Vx
 rcases hq with hq | hq
 ·obtain ⟨its,r',pl,hz⟩:=I.list hq
  have hlen:=r'.length
  exact Calls.call_len_list pl.isList (by simp only [List.size_toArray] <;> lia) ⟨.int ys.length,H,I.tok _,⟨s.toks + 1,by rw [List.size_toArray,hlen]⟩,q⟩
 ·obtain ⟨its,r',pl,hz⟩:=I.tuple hq
  have hlen:=r'.length
  exact len_tuple pl (by simp only [List.size_toArray] <;> lia) ⟨.int ys.length,H,I.tok _,⟨s.toks + 1,by rw [List.size_toArray,hlen]⟩,q⟩
theorem Wb:Y1 X (.type "list") (λxs H Q=>∃ p ys,xs=[.ref p]/\(SqL X.K H p ys\/SqT X.K H p ys)/\∀ l,H l=none->Q (.ref l) (upd H l (.lst ys))):=by
 intro pins s σ H xs us Q I r h
 obtain ⟨p,ys,rfl,hq,q⟩:=h
 obtain ⟨u,rfl,rx⟩:=Xw r
 cases rx
 have fin:∀ (its:List Value),Vals ys its->ys.length<=sizeLine->∀ (h':Heap) (c':Nat),(∀ b o',s.heap.get? b=some o'->h'.get? b=some o') ->
   h'.get? s.heap.objs.size=some { cls:=.type "list",dict:=none,data:=.seq its.toArray c',slots:=#[] }->EP X pins σ Q (.ref s.heap.objs.size) { s with heap:=h' }:=λits r' hz h' c' kp e =>
  ⟨.ref s.heap.objs.size,_,I.laid (t':=s.toks) kp (Nat.le_refl _) (show Zy X.prog X.w _ h' _ (.lst ys) from ⟨hz,its,c',r',e⟩),rfl,q _ (I.hok.fresh (Nat.le_refl _))⟩
 rcases hq with hq | hq
 ·obtain ⟨its,r',pl,hz⟩:=I.list hq
  have hlen:=r'.length
  obtain ⟨o,ho,hc,n,hd⟩:=pl.isList
  exact call_list_seq p (.inl rfl) ho hc hd (λh' c' kp e=>fin its r' hz h' c' kp e) (by simp only [List.size_toArray] <;> lia)
 ·obtain ⟨its,r',pl,hz⟩:=I.tuple hq
  have hlen:=r'.length
  obtain ⟨o,ho,hc,n,hd⟩:=pl
  exact call_list_seq p (.inr rfl) ho hc hd (λh' c' kp e=>fin its r' hz h' c' kp e) (by simp only [List.size_toArray] <;> lia)
theorem Fm:Y1 X (.type "tuple") (λxs H Q=>∃ p ys,xs=[.ref p]/\((SqL X.K H p ys/\∀ l,H l=none->Q (.ref l) (upd H l (.tup ys)))\/(SqT X.K H p ys/\Q (.ref p) H))):=by
 intro pins s σ H xs us Q I r h
 obtain ⟨p,ys,rfl,h⟩:=h
 obtain ⟨u,rfl,rx⟩:=Xw r
 cases rx
 rcases h with ⟨hq,q⟩ | ⟨hq,q⟩
 ·obtain ⟨its,r',pl,hz⟩:=I.list hq
  have hlen:=r'.length
  refine call_tuple_list pl.isList (λh' kp=>?_) (by simp only [List.size_toArray] <;> lia)
  have I1:Inv X pins σ H { s with heap:=h' }:=I.kept (t':=s.toks) kp
  have I2:Inv X pins σ (upd H h'.objs.size (.tup ys)) { s with heap:=h'.push { cls:=.type "tuple",data:=.seq its.toArray } } :=
   I1.laid (t':=s.toks) (λb o e=>Ak _ e) (Nat.le_refl _) (show Zy X.prog X.w _ _ _ (.tup ys) from ⟨hz,its,r',IsTup.new _ _⟩)
  exact ⟨.ref h'.objs.size,_,I2,rfl,q _ (I1.hok.fresh (Nat.le_refl _))⟩
 ·obtain ⟨its,r',pl,hz⟩:=I.tuple hq
  exact call_tuple_same pl ⟨.ref p,H,I,rfl,q⟩
noncomputable def tyV (K:PySem.W.Frag) (T:String) (x:V) (H:Hp):Prop:=match x with
 | .str _=>T="str"
 | .int _=>T="int"
 | .ref p=>(T="list"/\∃ xs,SqL K H p xs)\/(T="tuple"/\∃ o,K.lookup p=some o/\o.cls=.type "tuple"/\o.dict=none) \/
   (T="dict"/\((∃ kvs,H p=some (.dK kvs))\/∃ kvs,H p=some (.dT kvs)))\/(T="set"/\∃ S n,H p=some (.set S n))
 | _=>False
theorem Zkr {pins:List (Addr × Obj)} {σ:St} {H:Hp} {s:Shared} {T:String} {x:V} {v:Value} (I:Inv X pins σ H s) (r:RelV x v) (ty:tyV X.K T x H) :
  s.TypeIs v T/\∀ a,v=.ref a->∃ ob,s.heap.get? a=some ob/\ob.dict=none:=by
 cases x with
 | str z =>
  obtain ⟨t,rfl⟩:=r
  cases (show T="str" from ty)
  exact ⟨typeIs_str s z t,λ_ e=>nomatch e⟩
 | int i =>
  obtain ⟨t,rfl⟩:=r
  cases (show T="int" from ty)
  exact ⟨typeIs_int s i t,λ_ e=>nomatch e⟩
 | ref p =>
  cases r
  rcases ty with ⟨rfl,xs,hq⟩ | ⟨rfl,o,hk,hc,hd⟩ | ⟨rfl,hk⟩ | ⟨rfl,S,n,hk⟩
  ·obtain ⟨its,_,pl,_⟩:=I.list hq
   refine ⟨pl.isList.typeIs,λa e=>?_⟩
   cases e
   obtain ⟨o,n,e,c,hd,_⟩:=pl
   exact ⟨o,e,hd⟩
  ·refine ⟨⟨o,I.kIn p o hk,hc⟩,λa e=>?_⟩
   cases e
   exact ⟨o,I.kIn _ o hk,hd⟩
  ·have z:∃ o,s.heap.get? p=some o/\o.ExactDict:=by
    rcases hk with ⟨kvs,hk⟩ | ⟨kvs,hk⟩
    ·obtain ⟨_,_,_,_,o,_,_,e,ex,_⟩:=I.hok p _ hk
     exact ⟨o,e,ex⟩
    ·obtain ⟨_,_,_,_,o,_,_,e,ex,_⟩:=I.hok p _ hk
     exact ⟨o,e,ex⟩
   obtain ⟨o,e,ex⟩:=z
   refine ⟨⟨o,e,ex.1⟩,λa e2=>?_⟩
   cases e2
   exact ⟨o,e,ex.2.1⟩
  ·obtain ⟨o,_,_,_,e,ex,_⟩:=I.hok p _ hk
   refine ⟨⟨o,e,ex.1⟩,λa e2=>?_⟩
   cases e2
   exact ⟨o,e,ex.2.1⟩
 | _=>exact False.elim ty
noncomputable def tBM (K:PySem.W.Frag) (T:String) (r:V->List V->Hp->VK->Prop) (to:TE) (t:TA):TE:=λσ H Q=>to σ H λx H1=>tyV K T x H1/\t σ H1 λxs H2=>r x xs H2 Q
variable {o e:Expr} {es:List Expr} {to:TE} {t:TA} {name:Str} {apos cpos:Pos} {T id:String} {r:V->List V->Hp->VK->Prop}
theorem Xy (pa:PlainAttrs T) (slot:Slot T name id) (hty:typeOf (.builtin id)=pure (.type "method_descriptor")) (hm:MtR X id r) (ho:PE X o to) (ha:PA X (e :: es) t)
  (hbase:attributeBase o name X.env (eval o X.env)=eval o X.env:=by rfl)
  (hfew:((backTo cpos (starEach (e :: es) X.env)).all (λx=>!x.1) && (backToKw cpos (keywordEach [] X.env)).all (λx=>x.1.isSome)
   && decide ((e :: es).length + ([]:List Keyword).length + (if ([]:List Keyword).isEmpty then 0 else 1) < 30))=true:=by rfl)
  (hline:(apos.endLine == cpos.line)=true:=by rfl) (hs:starEach (e :: es) X.env=(false,eval e X.env) :: starEach es X.env:=by rfl) (hplain:(backTo cpos (starEach es X.env)).any (·.1)=false:=by rfl) :
  PE X (.Call (.Attribute o name apos) (e :: es) [] cpos) (tBM X.K T r to t):=by
 intro pins s σ H Q I h
 refine wpAny_Call_method_late hbase hfew hline rfl (thn (ho pins s σ H _ I h) λv s1 zz9=>?_)
 obtain ⟨x,H1,I1,r1,ty,q1⟩:=zz9
 obtain ⟨h1,h2⟩:=Zkr I1 r1 ty
 refine ⟨T,id,pa,slot,hty,h1,h2,?_⟩
 have hA:=ha cpos pins s1 σ H1 _ I1 q1
 rw [hs] at hA ⊢
 refine Calls.callWith_builtin (by show (false || (backTo cpos (starEach es X.env)).any (·.1))=false; rw [hplain] <;> rfl) (Calls.evalArgs_plain ?_)
 refine thn hA λus s2 zz20=>?_
 obtain ⟨vs,H2,I2,r2,q2⟩:=zz20
 exact hm pins s2 σ H2 x vs v us Q I2 r1 r2 q2
end
noncomputable def MtM (X:Cx) (id:String) (r:V->List V->Hp->VK->Prop):Prop :=
 ∀ (pins:List (Addr × Obj)) (s:Shared) (σ:St) (H:Hp) (x:V) (xs:List V) (v:Value) (us:List Value) (Q:VK),Inv X pins σ H s->RelV x v->Vals xs us->r x xs H Q ->
  wpAny (model X.prog X.w) X.A (call (.builtin id) (v :: us)) (EP X pins σ Q) X.xe s
theorem Vals.one {x:V} {us:List Value} (h:Vals [x] us):∃ u,us=[u]/\RelV x u:=by
  cases h with
  | cons r t=>cases t; exact ⟨_,rfl,r⟩
theorem Vals.two {x y:V} {us:List Value} (h:Vals [x,y] us):∃ u v,us=[u,v]/\RelV x u/\RelV y v:=by
  cases h with
  | cons r t =>
    obtain ⟨v,rfl,q⟩:=Vals.one t
    exact ⟨_,v,rfl,r,q⟩
theorem Vals.eraseIdx:∀ {xs:List V} {us:List Value} (i:Nat),Vals xs us->Vals (xs.eraseIdx i) (us.eraseIdx i)
 | _,_,_,.nil=>.nil
 | _,_,0,.cons _ t=>t
 | _,_,i + 1,.cons r t=>.cons r (Vals.eraseIdx i t)
theorem Vals.rep {xs:List V} {us:List Value} (h:Vals xs us):∀ k:Nat,Vals (List.replicate k xs).flatten (List.replicate k us).flatten
 | 0=>.nil
 | k + 1=>by
  rw [List.replicate_succ,List.replicate_succ,List.flatten_cons,List.flatten_cons]
  exact Vals.append h (Vals.rep h k)
theorem Gx {α:Type}:∀ (l:List α) (i:Nat),(l.eraseIdx i).length<=l.length
 | [],_=>Nat.le_refl _
 | _ :: _,0=>Nat.le_succ _
 | _ :: r,i + 1=>Nat.succ_le_succ (Gx r i)
theorem G0 (its:List Value):∀ (k:Nat) (acc:List Value),
  List.foldl (λx1 x2=>x1 ++ x2) acc.toArray (List.replicate k its.toArray)=(acc ++ (List.replicate k its).flatten).toArray
 | 0,acc=>by simp
 | k + 1,acc=>by
  have e:acc.toArray ++ its.toArray=(acc ++ its).toArray:=by simp
  have e2:(acc ++ its) ++ (List.replicate k its).flatten=acc ++ (List.replicate (k + 1) its).flatten:=by
   rw [List.replicate_succ,List.flatten_cons,List.append_assoc]
  rw [<- e2,<- G0 its k (acc ++ its),<- e,List.replicate_succ,List.foldl_cons]
section
variable {X:Cx} {pins:List (Addr × Obj)} {σ:St} {H:Hp} {s:Shared} {l b:Addr} {xs ys zs:List V}
theorem Inv.lset {its its':List Value} {n:Nat} {f:Array Value->Array Value} {t':Nat} (I:Inv X pins σ H s) (hH:H l=some (.lst xs))
  (e:s.heap.get? l=some { cls:=.type "list",data:=.seq its.toArray n }) (hf:f its.toArray=its'.toArray) (hv:Vals ys its') (hz:ys.length<=sizeLine) :
  Inv X pins σ (upd H l (.lst ys)) { s with heap:=s.heap.update l (Obj.mapSeq f),toks:=t' }:=by
 have q:=PySem.IsL.update e f
 rw [hf] at q
 refine I.write (x:=l) (e:=l) (by rw [hH]; exact trivial) (.inl rfl) (λb' u hb hu=>(Heap.get?_update_other s.heap (Obj.mapSeq f) (Ne.symm hb)).trans hu) ⟨_,q⟩ ?_
 exact ⟨hz,its',_,hv,q⟩
theorem Inv.lnew {its:List Value} {t':Nat} (I:Inv X pins σ H s) (hv:Vals ys its) (hz:ys.length<=sizeLine) :
  Inv X pins σ (upd H s.heap.objs.size (.lst ys)) { s with heap:=s.heap.push { cls:=.type "list",data:=.seq its.toArray },toks:=t' } :=
 I.laid (λ_ _ q=>Ak _ q) (Nat.le_refl _) ⟨hz,its,0,hv,Heap.get?_push_size _ rfl⟩
theorem Inv.fresh (I:Inv X pins σ H s):H s.heap.objs.size=none:=I.hok.fresh (Nat.le_refl _)
theorem Inv.lstM (I:Inv X pins σ H s) (hH:H l=some (.lst xs)):xs.length<=sizeLine/\∃ (its:List Value) (n:Nat),Vals xs its/\xs.length=its.length/\s.heap.get? l=some { cls:=.type "list",data:=.seq its.toArray n }:=by
 obtain ⟨z,its,n,r,e⟩:=I.hok l _ hH
 exact ⟨z,its,n,r,r.length,e⟩
theorem Zh0 {n:Nat} (h:n<=sizeLine):Builtin.List.listTooLong n=false:=by
 unfold Builtin.List.listTooLong
 exact decide_eq_false (by lia)
end
section
variable {X:Cx}
noncomputable def Zjr:V->List V->Hp->VK->Prop:=λx vs H Q=>∃ l xs y,x=.ref l/\vs=[y]/\H l=some (.lst xs)/\xs.length < sizeLine/\Q .non (upd H l (.lst (xs ++ [y])))
theorem Yh:MtM X "list.append" Zjr:=by
 intro pins s σ H x vs v us Q I rx rv h
 obtain ⟨l,xs,y,rfl,rfl,hH,hz,q⟩:=h
 cases rx
 obtain ⟨u,rfl,ru⟩:=rv.one
 obtain ⟨z,its,n,r,hl,e⟩:=I.lstM hH
 refine call_meets F.slot_list_append ⟨_,e,rfl⟩ F.entry_list_append (F.args_list_append_2 _ _) (PySem.list_append l its.toArray n u (by rw [List.size_toArray]; lia)) ⟨e,?_⟩
 refine ⟨.non,_,I.lset (its':=its ++ [u]) hH e (by simp) (r.append (.cons ru .nil)) ?_,rfl,q⟩
 rw [Ae,List.length_singleton]
 lia
noncomputable def Zlb:V->List V->Hp->VK->Prop:=λx vs H Q=>∃ l xs i k y,x=.ref l/\vs=[.int i]/\H l=some (.lst xs)/\-(2 ^ 63)<=i/\i < 2 ^ 63/\seqIndex? i xs.length=some k/\xs[k]?=some y/\Q y (upd H l (.lst (xs.eraseIdx k)))
theorem Za8:MtM X "list.pop" Zlb:=by
 intro pins s σ H x vs v us Q I rx rv h
 obtain ⟨l,xs,i,k,y,rfl,rfl,hH,h1,h2,hk,hy,q⟩:=h
 cases rx
 obtain ⟨u,rfl,ru⟩:=rv.one
 obtain ⟨t,rfl⟩:=ru
 obtain ⟨z,its,n,r,hl,e⟩:=I.lstM hH
 obtain ⟨w,hw,rw'⟩:=r.get hy
 refine call_meets F.slot_list_pop ⟨_,e,rfl⟩ F.entry_list_pop (F.args_list_pop_2 _ _)
  (MeetsSeq.list_pop_at l its.toArray n i t k w (fitsIndex_both h1 h2) (by rw [List.size_toArray,<- hl]; exact hk) (by rw [<- Array.getElem?_toList]; exact hw) (by rw [List.size_toArray]; lia)) ⟨e,?_⟩
 refine ⟨y,_,I.lset (its':=its.eraseIdx k) hH e ?_ (r.eraseIdx k) ?_,rw',q⟩
 ·show its.toArray.eraseIdxIfInBounds k=(its.eraseIdx k).toArray
  rw [List.eraseIdxIfInBounds_toArray]
 ·have:=Gx xs k
  lia
noncomputable def rCat:R2:=λx y H Q=>∃ l b xs zs,x=.ref l/\y=.ref b/\H l=some (.lst xs)/\H b=some (.lst zs)/\xs.length + zs.length<=sizeLine/\∀ p,H p=none->Q (.ref p) (upd H p (.lst (xs ++ zs)))
theorem O2:OpR X (binaryOp .Add) rCat:=by
 intro pins s σ H x y v u Q I rx ry h
 obtain ⟨l,b,xs,zs,rfl,rfl,hH,hB,hz,q⟩:=h
 cases rx
 cases ry
 obtain ⟨z,its,n,r,hl,e⟩:=I.lstM hH
 obtain ⟨z2,its2,n2,r2,hl2,e2⟩:=I.lstM hB
 refine PySem.P.add_list e e2 ?_ (by rw [List.size_toArray,List.size_toArray]; lia)
 have ea:its.toArray ++ its2.toArray=(its ++ its2).toArray:=by simp
 rw [ea]
 exact ⟨.ref _,_,I.lnew (t':=s.toks) (r.append r2) (by rw [Ae]; lia),rfl,q _ I.fresh⟩
noncomputable def rRep:R2:=λx y H Q=>∃ l k xs,x=.ref l/\y=.int k/\H l=some (.lst xs)/\-(2 ^ 63)<=k/\k < 2 ^ 63/\xs.length * k.toNat<=sizeLine /\
 ∀ p,H p=none->Q (.ref p) (upd H p (.lst (List.replicate k.toNat xs).flatten))
theorem Zj7 {α:Type} (xs:List α) (k:Nat):(List.replicate k xs).flatten.length=k * xs.length:=by
 induction k with
 | zero=>simp
 | succ k ih=>rw [List.replicate_succ,List.flatten_cons,Ae,ih,Nat.succ_mul,Nat.add_comm]
theorem Za0:OpR X (binaryOp .Mult) rRep:=by
 intro pins s σ H x y v u Q I rx ry h
 obtain ⟨l,k,xs,rfl,rfl,hH,h1,h2,hz,q⟩:=h
 cases rx
 obtain ⟨t,rfl⟩:=ry
 obtain ⟨z,its,n,r,hl,e⟩:=I.lstM hH
 have hlen:its.toArray.size * k.toNat<=sizeLine:=by rw [List.size_toArray,<- hl]; exact hz
 have hcap:¬ its.toArray.size * k.toNat > (2 ^ 63 - 1) / 8:=by
  have:(sizeLine:Nat)<=(2 ^ 63 - 1) / 8:=by decide
  lia
 have hfit:¬ (!Builtin.List.listFitsIndex k)=true:=by
  rw [fitsIndex_both h1 h2]
  exact Bool.false_ne_true
 have hlong:¬ Builtin.List.listTooLong (its.toArray.size * k.toNat)=true:=by
  rw [Zh0 hlen]
  exact Bool.false_ne_true
 have hnew:List.foldl (λx1 x2=>x1 ++ x2) #[] (List.replicate (if its.toArray.isEmpty=true then 0 else k.toNat) its.toArray)=(List.replicate k.toNat its).flatten.toArray:=by
  have f0:∀ m:Nat,List.foldl (λx1 x2=>x1 ++ x2) #[] (List.replicate m its.toArray)=(List.replicate m its).flatten.toArray:=λm=>by
   have:=G0 its m []
   rw [List.nil_append] at this
   exact this
  rw [f0]
  cases its with
  | nil=>simp
  | cons a r'=>rw [if_neg (by simp)]
 refine wpAny_binaryOp_repeat_ref (T:="list") (U:="int") (by decide) ⟨_,e,rfl⟩ (λs'=>typeIs_int s' k t) noFill_list_mul F.fills_int_mul F.slot_int_rmul repeat_list F.slot_int_index.lookup
  (call_meets F.slot_int_rmul (typeIs_int s k t) F.entry_int_rmul (F.args_int_rmul_2 _ _) (int___rmul___int_list k t l its.toArray n)
   ⟨e,rfl,⟨_,e,rfl⟩,call_meets F.slot_list_mul ⟨_,e,rfl⟩ F.entry_list_mul (F.args_list_mul_2 _ _) (AutoListH.list___mul___list_int_3 l its.toArray n k t hfit hcap hlong) ⟨e,?_⟩⟩)
 rw [hnew]
 exact ⟨.ref _,_,I.lnew (t':=s.toks) (r.rep k.toNat) (by rw [Zj7,Nat.mul_comm]; exact hz),rfl,q _ I.fresh⟩
end
section
variable {κ:Type} [DecidableEq κ]
noncomputable def valV (kvs:List (κ × V)) (k:κ):Option V:=(kvs.find? λkv=>decide (kv.1=k)).map (·.2)
noncomputable def putK (kvs:List (κ × V)) (k:κ) (v:V):List (κ × V) :=
 if (kvs.any λkv=>decide (kv.1=k))=true then kvs.map (λkv=>if kv.1=k then (kv.1,v) else kv) else kvs ++ [(k,v)]
theorem Ux {p:κ × V} {r:List (κ × V)} {k:κ} (e:p.1=k):valV (p :: r) k=some p.2:=by simp [valV,List.find?_cons,e]
theorem Uy {p:κ × V} {r:List (κ × V)} {k:κ} (e:¬ p.1=k):valV (p :: r) k=valV r k:=by simp [valV,List.find?_cons,e]
theorem Uz (k:κ):∀ kvs:List (κ × V),(kvs.any λkv=>decide (kv.1=k))=(valV kvs k).isSome
 | []=>rfl
 | p :: r=>by
  rw [List.any_cons]
  by_cases e:p.1=k
  ·simp only [Ux e,decide_eq_true e,Bool.true_or,Option.isSome_some]
  ·rw [Uy e,decide_eq_false e,Bool.false_or]; exact Uz k r
theorem Ql (kvs:List (κ × V)) (k:κ) (v:V):(putK kvs k v).length<=kvs.length + 1:=by
 unfold putK
 split
 ·rw [Ab]; lia
 ·rw [Ae,List.length_cons,List.length_nil]; lia
theorem RelO.isSome_eq {o:Option V} {u:Option Value} (r:RelO o u):o.isSome=u.isSome:=by
 cases o with
 | none=>cases u with
  | none=>rfl
  | some _=>exact (show False from r).elim
 | some _=>cases u with
  | none=>exact (show False from r).elim
  | some _=>rfl
theorem KV.val {kvs:List (κ × V)} {vs:List (κ × Value)} (r:KV kvs vs) (k:κ):RelO (valV kvs k) (valueAt vs k):=by
 unfold KV at r
 induction r with
 | nil=>exact True.intro
 | @cons p q ps qs h t ih =>
  obtain ⟨h1,h2⟩:=h
  by_cases e:p.1=k
  ·have e':q.1=k:=h1.symm.trans e
   have b:valueAt (q :: qs) k=some q.2:=by simp [valueAt,List.find?_cons,e']
   rw [Ux e,b]; exact h2
  ·have e':¬ q.1=k:=λz=>e (h1.trans z)
   have b:valueAt (q :: qs) k=valueAt qs k:=by simp [valueAt,List.find?_cons,e']
   rw [Uy e,b]; exact ih
theorem KV.any {kvs:List (κ × V)} {vs:List (κ × Value)} (r:KV kvs vs) (k:κ):(kvs.any λkv=>decide (kv.1=k))=vs.any λkv=>decide (kv.1=k):=by
 unfold KV at r
 induction r with
 | nil=>rfl
 | cons h t ih=>rw [List.any_cons,List.any_cons,ih,h.1]
theorem KV.repl {kvs:List (κ × V)} {vs:List (κ × Value)} (r:KV kvs vs) (k:κ) {y:V} {u:Value} (ry:RelV y u) :
  KV (kvs.map λkv=>if kv.1=k then (kv.1,y) else kv) (vs.map λkv=>if kv.1=k then (kv.1,u) else kv):=by
 unfold KV at r ⊢
 induction r with
 | nil=>exact .nil
 | @cons p q ps qs h t ih =>
  rw [List.map_cons,List.map_cons]
  refine .cons ?_ ih
  obtain ⟨h1,h2⟩:=h
  by_cases e:p.1=k
  ·rw [if_pos e,if_pos (h1.symm.trans e)]; exact ⟨h1,ry⟩
  ·rw [if_neg e,if_neg (λz=>e (h1.trans z))]; exact ⟨h1,h2⟩
theorem KV.put {kvs:List (κ × V)} {vs:List (κ × Value)} (r:KV kvs vs) (k:κ) {y:V} {u:Value} (ry:RelV y u):KV (putK kvs k y) (stored vs k u):=by
 unfold putK stored
 rw [r.any k]
 by_cases e:(vs.any λkv=>decide (kv.1=k))=true
 ·rw [if_pos e,if_pos e]; exact r.repl k ry
 ·rw [if_neg e,if_neg e]; exact Paired.snoc r ⟨rfl,ry⟩
theorem KV.length {kvs:List (κ × V)} {vs:List (κ × Value)} (r:KV kvs vs):kvs.length=vs.length:=Paired.length r
end
theorem Kb {P:Program} {w:World} {k:Key} {u:Value} (r:RelV (kV k) u):(Z3 P w).is k u=true:=by
 cases k with
 | inl i=>obtain ⟨t,e⟩:=(show ∃ t,u=Value.int i t from r); subst e; exact Zcf P w i t
 | inr x=>obtain ⟨t,e⟩:=(show ∃ t,u=Value.str x t from r); subst e; exact Zce P w x t
theorem Gz {P:Program} {w:World}:∀ {ks:List Key} {us:List Value},Vals (ks.map kV) us->ItemsAre (Z3 P w) ks us
 | [],_,r=>by rw [List.map_nil] at r; cases r; exact .nil
 | k :: ks,_,r=>by
  rw [List.map_cons] at r
  cases r with
  | cons h t=>exact .cons (Kb h) (Gz t)
noncomputable abbrev KT (H:Hp):List (List Key × V)->List (List Key × Addr × Value)->Prop:=Paired λp q=>p.1=q.1/\H q.2.1=some (.tup (p.1.map kV))/\RelV p.2 q.2.2
theorem KT.val {H:Hp} {kvs:List (List Key × V)} {xs:List (List Key × Addr × Value)} (r:KT H kvs xs) (k:List Key):RelO (valV kvs k) ((atKey xs k).map (·.2)):=by
 induction r with
 | nil=>exact True.intro
 | @cons p q ps qs h t ih =>
  obtain ⟨h1,_,h2⟩:=h
  by_cases e:p.1=k
  ·have e':q.1=k:=h1.symm.trans e
   have b:atKey (q :: qs) k=some q.2:=by simp [atKey,List.find?_cons,e']
   rw [Ux e,b]; exact h2
  ·have e':¬ q.1=k:=λz=>e (h1.trans z)
   have b:atKey (q :: qs) k=atKey qs k:=by simp [atKey,List.find?_cons,e']
   rw [Uy e,b]; exact ih
theorem KT.repl {H:Hp} {kvs:List (List Key × V)} {xs:List (List Key × Addr × Value)} (r:KT H kvs xs) (k:List Key) {y:V} {u:Value} (ry:RelV y u) :
  KT H (kvs.map λkv=>if kv.1=k then (kv.1,y) else kv) (xs.map (putAt k u)):=by
 induction r with
 | nil=>exact .nil
 | @cons p q ps qs h t ih =>
  rw [List.map_cons,List.map_cons]
  refine .cons ?_ ih
  obtain ⟨h1,h2,h3⟩:=h
  unfold putAt
  by_cases e:p.1=k
  ·rw [if_pos e,if_pos (h1.symm.trans e)]; exact ⟨h1,h2,ry⟩
  ·rw [if_neg e,if_neg (λz=>e (h1.trans z))]; exact ⟨h1,h2,h3⟩
theorem KT.put {H:Hp} {kvs:List (List Key × V)} {xs:List (List Key × Addr × Value)} (r:KT H kvs xs) (k:List Key) {b:Addr} {y:V} {u:Value} (hb:H b=some (.tup (k.map kV))) (ry:RelV y u) :
  KT H (putK kvs k y) (storedH xs k b u):=by
 have e:(kvs.any λkv=>decide (kv.1=k))=(atKey xs k).isSome:=by
  rw [Uz,(r.val k).isSome_eq,Option.isSome_map]
 unfold putK storedH
 rw [e]
 by_cases q:(atKey xs k).isSome=true
 ·rw [if_pos q,if_pos q]; exact r.repl k ry
 ·rw [if_neg q,if_neg q]; exact Paired.snoc r ⟨rfl,hb,ry⟩
theorem KT.keeps {H H':Hp} {kvs:List (List Key × V)} {xs:List (List Key × Addr × Value)} (r:KT H kvs xs) (ht:∀ b ys,H b=some (.tup ys)->H' b=some (.tup ys)):KT H' kvs xs :=
 Paired.mapP r λ_ _ z=>⟨z.1,ht _ _ z.2.1,z.2.2⟩
section
variable {P:Program} {w:World} {H:Hp} {h:Heap} {a:Addr}
theorem Zis {u:HO} (ok:HOk P w H h) (e:Rd H a u):Zy P w H h a u:=e.ok ok
theorem J6 {kvs:List (Key × V)} (ok:HOk P w H h) (e:Rd H a (.dK kvs)):kvs.length<=sizeLine/\(a == sysModules)=false/\∃ vs,KV kvs vs/\h.DictOf (Z3 P w) a vs :=
 show Zy P w H h a (.dK kvs) from Zis ok e
theorem Zi1 {kvs:List (Key × V)} (ok:HOk P w H h) (e:H a=some (.dK kvs)):kvs.length<=sizeLine/\(a == sysModules)=false/\∃ vs,KV kvs vs/\h.DictOf (Z3 P w) a vs:=J6 ok (.inl e)
theorem O9 {ks:List Key} (ok:HOk P w H h) (e:H a=some (.tup (ks.map kV))):(tupleKind (Z3 P w)).is h ks a:=by
 obtain ⟨_,its,r,o,h1,h2,n,h3⟩:=(show Zy P w H h a (.tup (ks.map kV)) from ok a _ e)
 exact ⟨o,its.toArray,n,h1,h2,h3,by simpa using Gz r⟩
theorem Kj {kvs:List (List Key × V)} (ok:HOk P w H h) (e:Rd H a (.dT kvs)):kvs.length<=sizeLine/\(a == sysModules)=false /\
  ∃ xs,KT H kvs xs/\h.DictOfH (tupleKind (Z3 P w)) a xs:=by
 obtain ⟨z,y,xs,r,o,es,ep,h1,h2,h3,h4,h5⟩:=(show Zy P w H h a (.dT kvs) from Zis ok e)
 refine ⟨z,y,xs,r,o,es,ep,h1,h2,h3,h4,λx hx=>?_,h5⟩
 have all:∀ {l:List (List Key × V)} {m:List (List Key × Addr × Value)},KT H l m->∀ x∈m,(tupleKind (Z3 P w)).is h x.1 x.2.1:=by
  intro l m q
  induction q with
  | nil=>intro x hx; exact nomatch hx
  | @cons p q ps qs hq t ih =>
   intro x hx
   rcases List.mem_cons.mp hx with e | hx
   ·subst e
    exact O9 ok (by rw [<- hq.1]; exact hq.2.1)
   ·exact ih x hx
 exact all r x hx
theorem Zm0 {kvs:List (List Key × V)} (ok:HOk P w H h) (e:H a=some (.dT kvs)):kvs.length<=sizeLine/\(a == sysModules)=false /\
  ∃ xs,KT H kvs xs/\h.DictOfH (tupleKind (Z3 P w)) a xs:=Kj ok (.inl e)
end
noncomputable def DGet (H:Hp) (a:Addr) (y:V) (r:Option V):Prop :=
 (∃ kvs k,Rd H a (.dK kvs)/\y=kV k/\r=valV kvs k)\/∃ kvs k b,Rd H a (.dT kvs)/\y=.ref b/\H b=some (.tup (k.map kV))/\r=valV kvs k
noncomputable def DPut (H:Hp) (a:Addr) (y v:V) (H':Hp):Prop :=
 (∃ kvs k,H a=some (.dK kvs)/\y=kV k/\kvs.length < sizeLine/\H'=upd H a (.dK (putK kvs k v))) \/
 ∃ kvs k b,H a=some (.dT kvs)/\y=.ref b/\H b=some (.tup (k.map kV))/\kvs.length < sizeLine/\H'=upd H a (.dT (putK kvs k v))
theorem DGet.t {H:Hp} {a b:Addr} {kvs:List (List Key × V)} {k:List Key} (e:H a=some (.dT kvs)) (eb:H b=some (.tup (k.map kV))):DGet H a (.ref b) (valV kvs k):=.inr ⟨kvs,k,b,.inl e,rfl,eb,rfl⟩
theorem DPut.k {H:Hp} {a:Addr} {kvs:List (Key × V)} {k:Key} {v:V} (e:H a=some (.dK kvs)) (hl:kvs.length < sizeLine):DPut H a (kV k) v (upd H a (.dK (putK kvs k v))):=.inl ⟨kvs,k,e,rfl,hl,rfl⟩
theorem DPut.t {H:Hp} {a b:Addr} {kvs:List (List Key × V)} {k:List Key} {v:V} (e:H a=some (.dT kvs)) (eb:H b=some (.tup (k.map kV))) (hl:kvs.length < sizeLine) :
  DPut H a (.ref b) v (upd H a (.dT (putK kvs k v))):=.inr ⟨kvs,k,b,e,rfl,eb,hl,rfl⟩
section
variable {X:Cx} {pins:List (Addr × Obj)} {σ:St} {H:Hp} {s:Shared} {a:Addr} {y v:V} {u r:Value} {o:Option V} {A:Around} {E:Value->Shared->Prop}
theorem Inv.big (I:Inv X pins σ H s):sysModules < s.heap.objs.size:=by
 have h:mainGlobals < s.heap.objs.size:=(I.mod.glob.keeps I.bk).lt
 exact Nat.lt_trans (by decide) h
theorem Zgw {Q:Value->Shared->Prop} (hu:A.units + 1 < cLine) (I:Inv X pins σ H s) (g:DGet H a y (some v)) (ry:RelV y u) (h:∀ w' s',Inv X pins σ H s'->RelV v w'->Q w' s') :
  wpAny (model X.prog X.w) A (getItem (.ref a) u) Q E s:=by
 rcases g with ⟨kvs,k,e,ey,l⟩ | ⟨kvs,k,b,e,ey,eb,l⟩
 ·subst ey
  obtain ⟨z,hd,vs,rel,dd⟩:=J6 I.hok e
  obtain ⟨w',hw,rw'⟩:=RelO.some_of (v:=v) (o:=valueAt vs k) (by rw [l]; exact rel.val k)
  exact wpAny_getItem_of (Kb ry) dd.mapOf hw (h w' _ (I.tok _) rw')
 ·subst ey
  cases (show u=Value.ref b from ry)
  obtain ⟨z,hd,xs,rel,dd⟩:=Kj I.hok e
  obtain ⟨w',hw,rw'⟩:=RelO.some_of (v:=v) (o:=(atKey xs k).map (·.2)) (by rw [l]; exact rel.val k)
  obtain ⟨p,hp,hp2⟩:=Option.map_eq_some_iff.mp hw
  refine wpAny_getItem_heap (tupleKind_room_in1 hu) (O9 I.hok eb) dd hp ?_
  rw [hp2]
  exact h w' _ (I.tok _) rw'
theorem Zke {Q:Value->Shared->Prop} (hu:A.units + 1 < cLine) (I:Inv X pins σ H s) (g:DGet H a y o) (ry:RelV y u) (h:∀ s',Inv X pins σ H s'->Q (.bool (!o.isSome)) s') :
  wpAny (model X.prog X.w) A (compareOp .NotIn u (.ref a)) Q E s:=by
 rcases g with ⟨kvs,k,e,ey,l⟩ | ⟨kvs,k,b,e,ey,eb,l⟩
 ·subst ey
  obtain ⟨z,hd,vs,rel,dd⟩:=J6 I.hok e
  refine wpAny_notIn_of (Kb ry) hd dd.mapOf ?_
  rw [<- (rel.val k).isSome_eq,<- l]
  exact h _ (I.tok _)
 ·subst ey
  cases (show u=Value.ref b from ry)
  obtain ⟨z,hd,xs,rel,dd⟩:=Kj I.hok e
  refine wpAny_notIn_heap (tupleKind_room_in1 hu) (O9 I.hok eb) hd dd ?_
  have q:=(rel.val k).isSome_eq
  rw [Option.isSome_map] at q
  rw [<- q,<- l]
  exact h _ (I.tok _)
theorem Gb {h':Heap} {t':Nat} {ob:HO} (I:Inv X pins σ H s) (mu:Mut (H a)) (hs:Heap.SameBut a s.heap h') (he:∃ q,h'.get? a=some q) (new:Zy X.prog X.w (upd H a ob) h' a ob) :
  Inv X pins σ (upd H a ob) { s with heap:=h',toks:=t' } :=
 I.write (x:=a) (e:=a) mu (.inl rfl) (λb q hb z=>(hs.2 b hb).trans z) he new
theorem V2 {P:Program} {w:World} {H':Hp} {h':Heap} {kvs:List (Key × V)} {vs:List (Key × Value)} (z:kvs.length<=sizeLine) (hd:(a == sysModules)=false) (rel:KV kvs vs) (dd:h'.DictOf (Z3 P w) a vs) :
  Zy P w H' h' a (.dK kvs):=⟨z,hd,vs,rel,dd⟩
theorem Zgv {H':Hp} {Q:Unit->Shared->Prop} (hu:A.units + 1 < cLine) (I:Inv X pins σ H s) (g:DPut H a y v H') (ry:RelV y u) (rv:RelV v r) (h:∀ s',Inv X pins σ H' s'->Q () s') :
  wpAny (model X.prog X.w) A (setItem (.ref a) u r) Q E s:=by
 rcases g with ⟨kvs,k,e,ey,l,eH⟩ | ⟨kvs,k,b,e,ey,eb,l,eH⟩
 ·subst ey eH
  obtain ⟨z,hd,vs,rel,dd⟩:=Zi1 I.hok e
  have hz:vs.length<=sizeLine:=by rw [<- rel.length]; exact z
  have hl:(putK kvs k v).length<=sizeLine:=by have:=Ql kvs k v; lia
  refine wpAny_setItem_pairs (hsz:=hz) (Kb ry) dd λh' dd' hs=>h _ ?_
  have he:∃ q,h'.get? a=some q:=let ⟨q,_,_,hq,_⟩:=dd'; ⟨q,hq⟩
  exact Gb I (by rw [e]; exact True.intro) hs he (V2 hl hd (rel.put k rv) dd')
 ·subst ey eH
  cases (show u=Value.ref b from ry)
  obtain ⟨z,hd,xs,rel,dd⟩:=Zm0 I.hok e
  have hz:xs.length<=sizeLine:=by rw [<- Paired.length rel]; exact z
  have hl:(putK kvs k v).length<=sizeLine:=by have:=Ql kvs k v; lia
  refine wpAny_setItem_heap (hsz:=hz) (tupleKind_room_in1 hu) (O9 I.hok eb) dd λh' dd' hs=>h _ ?_
  obtain ⟨q,es,ep,hq,h2,h3,h4,_,h5⟩:=dd'
  refine Gb I (by rw [e]; exact True.intro) hs ⟨q,hq⟩ ⟨hl,hd,_,(rel.put k eb rv).keeps λc ys ec=>?_,q,es,ep,hq,h2,h3,h4,h5⟩
  rw [Ze (Zmq ec e (λz=>nomatch z))]
  exact ec
end
noncomputable def NoSl (i:Expr):Prop:=∀ ov iv,subscripted i false ov iv=operate [ov,iv] (getItem ov iv)
theorem Zjb {prog:Program} {w:World} {A:Around} {E:Value->Shared->Prop} {s:Shared} {env:Env} {value slice:Expr} {pos:Pos} {T id:String} {Q:Value->Shared->Prop}
  (hl:typeLookup (.type T) "__getitem__"=pure (some (.builtin id))) (hs:NoSl slice)
  (h:wpAny (model prog w) A (eval value env) (λo s₁=>wpAny (model prog w) A (eval slice env) (λi s₂=>s₂.TypeIs o T/\wpAny (model prog w) A (getItem o i) Q E s₂) E s₁) E s) :
  wpAny (model prog w) A (eval (.Subscript value slice pos) env) Q E s:=by
 refine Subscript_ (wpAny_mono h (λo s₁ h₁=>wpAny_mono h₁ (λi s₂ h₂=>?_) λ_ _ x=>x) λ_ _ x=>x)
 obtain ⟨hT,h₂⟩:=h₂
 unfold subscriptTail
 refine Al ?_
 rw [getitemInPython_of_ne hT.not_modules]
 refine Al (wpAny_specialOf hT hl ?_)
 have fin:wpAny (model prog w) A (subscripted slice false o i) (λr s₃=>wpAny (model prog w) A (letTemporaryGo value o r >>= λ_=>pure r) Q E s₃) E s₂:=by
  rw [hs o i]
  exact wpAny_operating (wpAny_mono h₂ (λr s₃ h₃=>Al (wpAny_letTemporaryGo (wpAny_pure h₃))) λ_ _ x=>x)
 first
  | exact wpAny_pure (Al fin)
  | exact Al (wpAny_pure (Al fin))
  | exact Al fin
theorem Zcj {X:Cx} {pins:List (Addr × Obj)} {σ:St} {H:Hp} {s:Shared} {a:Addr} {y:V} {o:Option V} (I:Inv X pins σ H s) (g:DGet H a y o):s.TypeIs (.ref a) "dict":=by
 rcases g with ⟨kvs,k,e,_,_⟩ | ⟨kvs,k,b,e,_,_,_⟩
 ·obtain ⟨_,_,vs,_,dd⟩:=J6 I.hok e
  exact dd.typeIs
 ·obtain ⟨_,_,xs,_,dd⟩:=Kj I.hok e
  exact dd.typeIs
noncomputable def Zmg (td ty:TE):TE:=λσ H Q=>td σ H λx H1=>ty σ H1 λy H2=>∃ a v,x=.ref a/\DGet H2 a y (some v)/\Q v H2
noncomputable def Zja (ty td:TE):TE:=λσ H Q=>ty σ H λy H1=>td σ H1 λx H2=>∃ a o,x=.ref a/\DGet H2 a y o/\Q (.bl (!o.isSome)) H2
noncomputable def Zmj (td ty tv:TE):TS:=λD σ H=>tv σ H λv H1=>td σ H1 λx H2=>ty σ H2 λy H3=>∃ a H4,x=.ref a/\DPut H3 a y v H4/\D.nx σ H4
section
variable {X:Cx} {o i e value:Expr} {pos pos' tpos:Pos} {td ty tv:TE}
theorem V8 (hu:X.A.units + 1 < cLine) (ho:PE X o td) (hi:PE X i ty) (hs:NoSl i):PE X (.Subscript o i pos) (Zmg td ty):=by
 intro pins s σ H Q I h
 refine Zjb PySem.F.slot_dict_getitem.lookup hs (thn (ho pins s σ H _ I h) λu s1 zz21=>?_)
 obtain ⟨x,H1,I1,rx,q1⟩:=zz21
 refine thn (hi pins s1 σ H1 _ I1 q1) λiv s2 zz9=>?_
 obtain ⟨y,H2,I2,ry,a,v,ex,g,q2⟩:=zz9
 subst ex
 obtain rfl:u=Value.ref a:=rx
 exact ⟨Zcj I2 g,Zgw hu I2 g ry λw' s3 I3 rw'=>⟨v,H2,I3,rw',q2⟩⟩
theorem Gq (hu:X.A.units + 1 < cLine) (hi:PE X i ty) (ho:PE X o td):PC X .NotIn i o (Zja ty td):=by
 intro pins s σ H Q I h
 refine thn (hi pins s σ H _ I h) λiv s1 zz22=>?_
 obtain ⟨y,H1,I1,ry,q1⟩:=zz22
 refine thn (ho pins s1 σ H1 _ I1 q1) λu s2 zz9=>?_
 obtain ⟨x,H2,I2,rx,a,ov,ex,g,q2⟩:=zz9
 subst ex
 obtain rfl:u=Value.ref a:=rx
 exact Zke hu I2 g ry λs3 I3=>⟨.bl (!ov.isSome),H2,I3,rfl,q2⟩
theorem Kz (hu:X.A.units + 1 < cLine) (ho:PE X o td) (hi:PE X i ty) (hv:PE X value tv) (hs:swapsWith value (some (.Subscript o i pos')) pos.line X.env=pure false) :
  PS X (.Assign [.Subscript o i pos'] value pos) (Zmj td ty tv):=by
 intro pins s σ H D I h
 refine wpAny_Assign_Subscript (thn (hv pins s σ H _ I h) λr s1 zz23=>?_) hs
 obtain ⟨v,H1,I1,rv,q1⟩:=zz23
 refine thn (ho pins s1 σ H1 _ I1 q1) λu s2 zz24=>?_
 obtain ⟨x,H2,I2,rx,q2⟩:=zz24
 refine thn (hi pins s2 σ H2 _ I2 q2) λiv s3 zz25=>?_
 obtain ⟨y,H3,I3,ry,a,H4,ex,g,q3⟩:=zz25
 subst ex
 obtain rfl:u=Value.ref a:=rx
 exact Zgv hu I3 g ry rv λs4 I4=>⟨σ,H4,I4,q3⟩
end
theorem Zii {P:Program} {w:World} {H:Hp} (h:Heap) (hb:sysModules < h.objs.size):Zy P w H (h.push { cls:=.type "dict",data:=.dict #[] }) h.objs.size (.dK []) :=
 ⟨Nat.zero_le _,beq_eq_false_iff_ne.mpr (Ne.symm (Nat.ne_of_lt hb)),[],.nil,Heap.DictOf.new h⟩
theorem Zih {P:Program} {w:World} {H:Hp} (h:Heap) (hb:sysModules < h.objs.size):Zy P w H (h.push { cls:=.type "dict",data:=.dict #[] }) h.objs.size (.dT []) :=
 ⟨Nat.zero_le _,beq_eq_false_iff_ne.mpr (Ne.symm (Nat.ne_of_lt hb)),[],.nil,_,#[],0,Heap.get?_push_size _ rfl,⟨rfl,rfl,rfl⟩,rfl,rfl,List.nodup_nil⟩
noncomputable def Zk1:TE:=λ_ H Q=>∀ p,H p=none->Q (.ref p) (upd H p (.dK []))
noncomputable def Zk0:TE:=λ_ H Q=>∀ p,H p=none->Q (.ref p) (upd H p (.dT []))
section
variable {X:Cx} {pos:Pos}
theorem Zay:PE X (.Dict [] [] pos) Zk1:=λpins s σ H Q I h =>
 wpAny_Dict_empty ⟨.ref s.heap.objs.size,_,I.laid (a:=s.heap.objs.size) (o:=.dK []) (t':=s.toks) (λ_ _ q=>Ak _ q) (Nat.le_refl _) (Zii s.heap I.big),rfl,h _ (I.hok.fresh (Nat.le_refl _))⟩
theorem Zht:PE X (.Dict [] [] pos) Zk0:=λpins s σ H Q I h =>
 wpAny_Dict_empty ⟨.ref s.heap.objs.size,_,I.laid (a:=s.heap.objs.size) (o:=.dT []) (t':=s.toks) (λ_ _ q=>Ak _ q) (Nat.le_refl _) (Zih s.heap I.big),rfl,h _ (I.hok.fresh (Nat.le_refl _))⟩
end
structure M2 (X:Cx) (o:Expr) (m:Str) (apos:Pos) (e f:Expr) (cpos:Pos):Prop where
 base:attributeBase o m X.env (eval o X.env)=eval o X.env
 few:((backTo cpos (starEach [e,f] X.env)).all (λx=>!x.1) && (backToKw cpos (keywordEach [] X.env)).all (λx=>x.1.isSome)
  && decide (([e,f]:List Expr).length + ([]:List Keyword).length + (if ([]:List Keyword).isEmpty then 0 else 1) < 30))=true
 line:(apos.endLine == cpos.line)=true
 trees:backTo cpos (starEach [e,f] X.env)=[(false,eval e X.env),(false,eval f X.env)]
noncomputable def IsD (H:Hp) (a:Addr):Prop:=(∃ kvs,Rd H a (.dK kvs))\/∃ kvs,Rd H a (.dT kvs)
theorem Kf {X:Cx} {pins:List (Addr × Obj)} {σ:St} {H:Hp} {s:Shared} {a:Addr} (I:Inv X pins σ H s) (d:IsD H a) :
  s.TypeIs (.ref a) "dict"/\(∀ b,Value.ref a=.ref b->∃ ob,s.heap.get? b=some ob/\ob.dict=none)/\(a == sysModules)=false:=by
 rcases d with ⟨kvs,e⟩ | ⟨kvs,e⟩
 ·obtain ⟨_,hd,vs,_,dd⟩:=J6 I.hok e
  refine ⟨dd.typeIs,λb q=>?_,hd⟩
  cases q
  obtain ⟨ob,_,_,h1,h2,_⟩:=dd
  exact ⟨ob,h1,h2.2.1⟩
 ·obtain ⟨_,hd,xs,_,dd⟩:=Kj I.hok e
  refine ⟨dd.typeIs,λb q=>?_,hd⟩
  cases q
  obtain ⟨ob,_,_,h1,h2,_⟩:=dd
  exact ⟨ob,h1,h2.2.1⟩
end L2
namespace Att
open PySem PySem.W PySem.Calls PyProof.Rows
theorem Kg {P:Params} {h:Heap}:∀ (ns:List Int) (vs:List Value),WellAll P h vs (ns.map WData.int)->IntsAre vs ns:=by
 intro ns
 induction ns with
 | nil =>
  intro vs w
  rw [List.map_nil] at w
  cases w
  exact .nil
 | cons n ns ih =>
  intro vs w
  rw [List.map_cons] at w
  cases w with
  | cons a b =>
   cases a
   exact .cons _ _ (ih _ b)
theorem Zfe {l:OpenLaw} {n:Nat} (hn:l.most=some n) {P:Params} {h:Heap} {args:List WData} {vals:List Value}
  (hpre:l.row.toRowW.claim.pre args=true) (hwl:WellAll P h vals args) :
  ∃ a vs ns,vals=[Value.ref a]/\args=[WData.list (ns.map WData.int)]/\h.get? a=some { cls:=.type "list",data:=.seq vs.toArray }/\IntsAre vs ns/\ns.length<=n:=by
 have hsh:WShape.hasAll [] args [.list .int]=true:=(pre_splitW hpre).1
 have hc:l.pre.holds [] { args:=args }=true:=(pre_splitW hpre).2
 obtain ⟨d,r,rfl,h1,h2⟩:=hasAllW_cons hsh
 obtain rfl:=hasAllW_nil h2
 obtain ⟨xs,rfl,h3⟩:=hasW_list h1
 obtain ⟨ns,rfl⟩:=items_int h3
 have hlen:ns.length<=n:=by
  unfold OpenLaw.pre at hc
  have h4:(WTm.not (.lt (.lit (.int (n:Int))) (.len (.arg 0)))).holds [] { args:=[.list (ns.map .int)] }=true:=by
   have h4:=(holds_andW hc).1
   rw [hn] at h4
   exact h4
  have h5:=condW_of h4 (w_not (w_lt w_lit (w_len_list (w_arg rfl))))
  rw [Ab] at h5
  refine Nat.le_of_not_lt λq=>?_
  have q':(n:Int) < ((ns.length:Nat):Int):=by lia
  first
   | (rw [decide_eq_true q'] at h5; exact absurd h5 (by decide))
   | (simp at h5; lia)
 cases hwl with
 | cons w1 w2 =>
  cases w2
  cases w1 with
  | list ho hall=>exact ⟨_,_,ns,rfl,rfl,ho,Kg ns _ hall,hlen⟩
theorem Zft (l:OpenLaw) (args:List WData):l.row.toRowW.claim.post args (.bool true) args=true :=
 postW_of (r:=l.row.toRowW) (X:=(true == true))
  (show WShape.has [] (.bool true) .bool=true by first | rfl | decide | simp [WShape.has,WShape.arms,WShape.armsAll])
  (show (WTm.eq .res (.lit (.bool true))).value [] { args:=args,res:=some (.bool true),after:=args }=some (.bool (true == true)) from w_eq_bool (w_res rfl) w_lit) rfl
theorem attach_call {l:OpenLaw} {n:Nat} {q:Program} {loose:List Str} {XP:(Str->Option Value)->Heap->Prop} {YP:World->Heap->Prop} {d:DefRec}
  (hn:l.most=some n) (hdf:d.params.defaults=[])
  (call:∀ (w:World) (s₀ s₁:Shared) (mg mb:Str->Option Value) (fa:Addr) (o:Obj) (pm cd doc:Value) (a:Addr) (vs:List Value) (ns:List Int),
   Ground q loose [] XP w s₀ mg mb s₁.heap->YP w s₁.heap ->
   s₁.heap.get? fa=some o->o.data=.func (docDef d.name d.params d.body d.scope pm cd doc)->s₁.heap.CodeRec cd d.name->mg d.name=some (.ref fa) ->
   s₁.heap.get? a=some { cls:=.type "list",data:=.seq vs.toArray }->IntsAre vs ns->ns.length<=n->s₁.gens=#[] ->
   codeAny (model l.prog w) callerA (.call (.ref fa) ⟨[.ref a],[]⟩) (λr s'=>r=.ok (.ret (.bool true))/\OldK s₁.heap s'.heap/\s'.os=s₁.os/\AllBare s'.gens) s₁) :
  WalkO q loose XP YP l.row.toRowW d [] (λf vs=>PySem.call f vs):=by
 intro w s₀ s₁ mg mb G Y fa o pm cd doc dV kV ho hd hcd hD hmg hg args vals as hpre hlay hrd hwl hlo
 obtain rfl:dV=.none:=Dflts.none hD hdf
 obtain rfl:kV=.none:=Dflts.noKw hD
 obtain ⟨a,vs,ns,rfl,rfl,hobj,hints,hlen⟩:=Zfe hn hpre hwl
 refine enter_call (codeAny_mono (call w s₀ s₁ mg mb fa o pm cd doc a vs ns G Y ho (fd_plain hd) hcd hmg hobj hints hlen hg) λr s' hq=>?_)
 obtain ⟨rfl,h2,h3,h4⟩:=hq
 exact ⟨.inl ⟨.bool true,.bool true,[],rfl,λ_=>rfl,.bool true,Zft l _,λ_=>⟨List.Pairwise.nil,λ_ hm=>(nomatch hm)⟩⟩,h2,h3,h4⟩
end Att
namespace L2
open PySem PySem.Spec PyProof.Rows
theorem Ge:∀ {vs:List Value} {ns:List Int},IntsAre vs ns->Vals (ns.map V.int) vs
 | _,_,.nil=>.nil
 | _,_,.cons n t h=>.cons ⟨t,rfl⟩ (Ge h)
noncomputable def Only (H:Hp):Prop:=∀ b,H b=none\/∃ o xs,H b=some (.frz o (.lst xs))
theorem Zh7 {P:Program} {w:World} {K:PySem.W.Frag} {mg mb:Str->Option Value} {CX:CXT} {k:Nat} {fa a:Addr} {fd:FuncData} {x:Str} {sp:Sp} {s₁:Shared} {vs:List Value} {ns:List Int}
  (KX:K.In s₁.heap) (hns:s₁.heap.Ns mainGlobals mg) (hb:s₁.heap.Ns builtinsNs mb) (hbb:∀ x:Str,x≠"__name__"->mb x=bootBuiltins x) (hlim:s₁.heap.NoLimit) (hg:s₁.gens=#[])
  (ha:s₁.heap.get? a=some { cls:=.type "list",data:=.seq vs.toArray }) (hi:IntsAre vs ns) (hl:ns.length<=sizeLine) (hr:Room k callerA)
  (F:∀ base:Heap,K.In base->base.Ns mainGlobals mg->FnOk P w K mg base CX k fa fd [x] sp) (hbind:∀ (s:Shared) (u:Value),BindsTo s fd ⟨[u],[]⟩ [(x,u)])
  (hsp:∀ H:Hp,Only H->SqL K H a (ns.map V.int)->sp [.ref a] H (λv _=>v=.bl true) λ_ _ _=>False)
  (hCX:∀ H e s',CX [] H s₁ (λ_ _ _=>False) e s'->False) :
  codeAny (model P w) callerA (.call (.ref fa) ⟨[.ref a],[]⟩) (λr s'=>r=.ok (.ret (.bool true))/\OldK s₁.heap s'.heap/\s'.os=s₁.os/\AllBare s'.gens) s₁:=by
 have rv:=Ge hi
 have lenV:=hi.length
 have core:∀ H:Hp,Only H->SqL K H a (ns.map V.int)->HOk P w H s₁.heap->(∀ b,H b≠none->b=a)->(H a≠none->K.lookup a=none) ->
   codeAny (model P w) callerA (.call (.ref fa) ⟨[.ref a],[]⟩) (λr s'=>r=.ok (.ret (.bool true))/\OldK s₁.heap s'.heap/\s'.os=s₁.os/\AllBare s'.gens) s₁:=by
  intro H hO hS hok hA hK
  have base_of:∀ {b:Addr} {o:Obj},s₁.heap.get? b=some o->H b=none->(hidT s₁.heap H).get? b=some o:=λe n=>Zh9 e n
  have noA:∀ {b:Addr} {o:Obj} {es:Array DictEntry} {ep:Nat},s₁.heap.get? b=some o->o.data=.dict es ep->H b=none:=λ{b o es ep} e d=>by
   cases q:H b with
   | none=>rfl
   | some u =>
    have e':b=a:=hA b (by rw [q]; simp)
    subst e'
    rw [ha] at e; cases e
    have d':Data.seq vs.toArray _=Data.dict es ep:=d
    cases d'
  have nsK:∀ {b:Addr} {m:Str->Option Value},s₁.heap.Ns b m->(hidT s₁.heap H).Ns b m:=λ{b m} ⟨o,es,ep,e,d,r⟩=>⟨o,es,ep,base_of e (noA e d),d,r⟩
  have hKb:K.In (hidT s₁.heap H):=λb o e=>base_of (KX b o e) (by
   cases q:H b with
   | none=>rfl
   | some u =>
    have e':b=a:=hA b (by rw [q]; simp)
    subst e'
    rw [hK (by rw [q]; simp)] at e; cases e)
  have hM:Mod K mg (hidT s₁.heap H):=⟨hKb,nsK hns,⟨mb,nsK hb,hbb⟩,let ⟨mc,h1,h2⟩:=hlim; ⟨mc,nsK h1,h2⟩⟩
  have e0:Env0 P w K mg (hidT s₁.heap H) callerA [] s₁ H:=⟨rfl,hM,λb o e=>Zj1 e,Nat.le_of_eq (Zgk _ _),trivial,λb hb=>absurd (show b∈([]:List Addr) from hb) (by simp),hok,.of_eq hg⟩
  refine codeAny_mono ((F _ hKb (nsK hns)).run callerA [] s₁ H ⟨[.ref a],[]⟩ [.ref a] [.ref a] _ _ hr e0 (hbind s₁ (.ref a)) (.cons rfl .nil) (hsp H hO hS)) λr s' h=>?_
  cases r with
  | error e=>exact (hCX H e s' h).elim
  | ok fl =>
   cases fl with
   | next=>exact False.elim h
   | brk=>exact False.elim h
   | cont=>exact False.elim h
   | ret u =>
    obtain ⟨v,H',os,bare,un,hok',r',q⟩:=h
    have q':v=.bl true:=q
    subst q'
    obtain rfl:u=Value.bool true:=r'
    refine ⟨rfl,OldK.of_keep λb o e=>?_,os,bare⟩
    cases q:H b with
    | none=>exact un.keep b o e q (by intro z; exact absurd (show b∈([]:List Addr) from z) (by simp)) (by simp)
    | some u =>
     rcases hO b with z | ⟨ob,xs,z⟩
     ·rw [q] at z; cases z
     ·have z2:=un.frzs b ob _ z
      obtain ⟨e1,_⟩:=hok b _ z
      obtain ⟨e2,_⟩:=hok' b _ z2
      rw [e] at e1; cases e1
      exact e2
 cases hk:K.lookup a with
 | some o =>
  have e:=KX a o hk
  rw [ha] at e
  cases e
  refine core (λ_=>none) (λ_=>.inl rfl) (.inr ⟨_,vs.toArray,_,hk,rfl,rfl,rfl,by rw [List.size_toArray,lenV]; exact hl,by simpa using rv⟩) (λb u z=>by have z':(none:Option HO)=some u:=z; cases z') (λb z=>absurd rfl z) λz=>absurd rfl z
 | none =>
  refine core (λb=>if b=a then some (.frz { cls:=.type "list",data:=.seq vs.toArray } (.lst (ns.map V.int))) else none) (λb=>?_) (.inl (.inr ⟨{ cls:=.type "list",data:=.seq vs.toArray },if_pos rfl⟩)) (λb u z=>?_) (λb z=>?_) λ_=>hk
  ·by_cases hb:b=a
   ·exact .inr ⟨_,_,if_pos hb⟩
   ·exact .inl (if_neg hb)
  ·by_cases hb:b=a
   ·have z':=(if_pos hb).symm.trans z
    cases z'
    subst hb
    exact ⟨ha,by rw [Ab]; exact hl,vs,_,rv,ha⟩
   ·have z':=(if_neg hb).symm.trans z
    cases z'
  ·by_cases hb:b=a
   ·exact hb
   ·exact absurd (if_neg hb) z
noncomputable abbrev KOf {K:PySem.W.Frag} {h:Heap} (_:K.In h):PySem.W.Frag:=K
theorem Zi5 {l:PySem.W.OpenLaw} {n k:Nat} {q:Program} {loose:List Str} {XP:(Str->Option Value)->Heap->Prop} {YP:World->Heap->Prop} {d:DefRec} {K:Params->PySem.W.Frag} {CX:World->CXT} {sp:World->Sp} {x:Str}
  (hn:l.most=some n) (hn2:n<=sizeLine) (hdf:d.params.defaults=[]) (hr:Room k callerA)
  (hY:∀ (w:World) (h:Heap),YP w h->(K w.params).In h)
  (F:∀ (w:World) (mg:Str->Option Value) (fa:Addr) (h:Heap),(K w.params).In h->h.Ns mainGlobals mg->mg d.name=some (.ref fa) ->
   ∃ fd:FuncData,(∀ (s:Shared) (u:Value),BindsTo s fd ⟨[u],[]⟩ [(x,u)]) /\
    ∀ base:Heap,(K w.params).In base->base.Ns mainGlobals mg->FnOk l.prog w (K w.params) mg base (CX w) k fa fd [x] (sp w))
  (hsp:∀ (w:World) (H:Hp) (a:Addr) (ns:List Int),ns.length<=n->Only H->SqL (K w.params) H a (ns.map V.int)->sp w [.ref a] H (λv _=>v=.bl true) λ_ _ _=>False)
  (hCX:∀ (w:World) (H:Hp) (s:Shared) (e:Value) (s':Shared),CX w [] H s (λ_ _ _=>False) e s'->False) :
  PySem.W.WalkO q loose XP YP l.row.toRowW d [] (λf vs=>PySem.call f vs):=by
 refine Att.attach_call hn hdf λw s₀ s₁ mg mb fa o pm cd doc a vs ns G Y ho hd hcd hmg hobj hints hlen hg=>?_
 have KX:=hY w _ Y
 obtain ⟨fd,hb,hF⟩:=F w mg fa _ KX G.T.g hmg
 exact Zh7 KX G.T.g G.T.b G.T.builtins G.T.nolimit hg hobj hints (Nat.le_trans hlen hn2) hr hF hb (λH hO hS=>hsp w H a ns hlen hO hS) λH e s'=>hCX w H s₁ e s'
noncomputable def Xv (s:Stmt) (j:Nat):Stmt:=match s with
 | .ClassDef _ _ _ body _ _ _ _ _ _ _=>body.getD j (.Pass ⟨0,0,0,0⟩)
 | _=>.Pass ⟨0,0,0,0⟩
noncomputable def Y9 (s:Stmt):Arguments:=match s with
 | .FunctionDef _ a _ _ _ _ _ _ _ _=>a
 | _=>{ posonlyargs:=[],args:=[],vararg:=none,kwonlyargs:=[],kw_defaults:=[],kwarg:=none,defaults:=[] }
noncomputable def Yk (s:Stmt):List Stmt:=match s with
 | .FunctionDef _ _ b _ _ _ _ _ _ _=>b
 | _=>[]
noncomputable def Zi (s:Stmt):Scope:=match s with
 | .FunctionDef _ _ _ _ _ _ sc _ _ _=>sc
 | _=>{ kind:=.function,names:=[],isGenerator:=false,isCoroutine:=false }
noncomputable abbrev E0:XK:=λ_ _ _=>False
structure Fun (K:PySem.W.Frag) (x qual:Str) (st:Stmt) (f:Addr) (fd:FuncData):Prop where
 ex:∃ (oc:Value) (od:Option Addr) (kV doc pm:Value) (an:Option Addr) (cdv ct:Value) (osl:Array (Option Value)),
  fd=PySem.W.fnOf x qual (Y9 st) (Yk st) (Zi st) .none kV doc pm an cdv ct/\K.lookup f=some ⟨oc,od,.func fd,osl⟩/\PySem.W.codeIn K cdv qual=true
 kp:PySem.W.keepIn K (.ref f)=true
section
variable {P:Program} {w:World} {K:PySem.W.Frag} {mg:Str->Option Value} {base:Heap}
theorem Fun.binds {x qual:Str} {st:Stmt} {f:Addr} {fd:FuncData} {ps:List Str} (F:Fun K x qual st f fd)
  (h:∀ (kV doc pm:Value) (an:Option Addr) (cdv ct:Value) (us:List Value),us.length=ps.length->bindArgs (PySem.W.fnOf x qual (Y9 st) (Yk st) (Zi st) .none kV doc pm an cdv ct) ⟨us,[]⟩=pure (ps.zip us)):X0 K fd ps []:=by
 obtain ⟨oc,od,kV,doc,pm,an,cdv,ct,osl,rfl,lk,hcd⟩:=F.ex
 exact .all (h kV doc pm an cdv ct)
theorem Kh {x qual:Str} {st:Stmt} {f:Addr} {oc:Value} {od an:Option Addr} {osl:Array (Option Value)} {kV doc pm cdv ct:Value} (l:K.lookup f=some ⟨oc,od,.func (PySem.W.fnOf x qual (Y9 st) (Yk st) (Zi st) .none kV doc pm an cdv ct),osl⟩)
  (c:PySem.W.codeIn K cdv qual=true) (k:PySem.W.keepIn K (.ref f)=true):Fun K x qual st f (PySem.W.fnOf x qual (Y9 st) (Yk st) (Zi st) .none kV doc pm an cdv ct):=⟨⟨oc,od,kV,doc,pm,an,cdv,ct,osl,rfl,l,c⟩,k⟩
end
theorem Ug {A:Around} {k:Nat} (hr:Room k A):A.units + 1 < cLine:=Nat.lt_of_le_of_lt (Nat.add_le_add_left (by decide:1<=64) _) hr.units
theorem Z1 {n:Nat} (h:n<=1000):n < sizeLine:=Nat.lt_of_le_of_lt h (by decide)
section
variable {X:Cx}
theorem pv (i:Nat) {x:Str} {pos:Pos} (hN:X.N[i]?=some x:=by rfl) (hv:Vis X.env.scope x:=by first | exact Or.inl rfl | exact Or.inr (Or.inl rfl) | exact Or.inr (Or.inr rfl)) (hd:(x == ("__debug__":Str))=false:=by decide)
  (hcd:(x == ("__classdict__":Str))=false:=by decide):PE X (.Name x pos) (tVar i):=Zlg hN hv hd hcd
end
theorem iteF {A B:Prop} (h:B):if false=true then A else B:=by
 rw [if_neg Bool.false_ne_true]
 exact h
theorem iteT {A B:Prop} (h:A):if true=true then A else B:=by
 rw [if_pos rfl]
 exact h
theorem ite2 {c A B:Prop} [Decidable c] (h1:c->A) (h2:¬ c->B):if c then A else B:=by
 by_cases h:c
 ·rw [if_pos h]
  exact h1 h
 ·rw [if_neg h]
  exact h2 h
noncomputable def Same (H H':Hp):Prop:=∀ b o,H b=some o->H' b=some o
theorem Same.refl (H:Hp):Same H H:=λ_ _ h=>h
theorem Same.trans {H H1 H2:Hp} (a:Same H H1) (b:Same H1 H2):Same H H2:=λc o h=>b c o (a c o h)
theorem Same.free {H H':Hp} (e:Same H H') {l:Addr} (h:H' l=Option.none):H l=Option.none:=by
 cases q:H l with
 | none=>rfl
 | some o =>
  rw [e l o q] at h
  cases h
theorem Same.seq {K:PySem.W.Frag} {H H':Hp} {a:Addr} {xs:List V} (e:Same H H') (h:SqL K H a xs):SqL K H' a xs:=by
 rcases h with (h | ⟨o,h⟩) | h
 ·exact .inl (.inl (e _ _ h))
 ·exact .inl (.inr ⟨o,e _ _ h⟩)
 ·exact .inr h
noncomputable def Yi (env:Env):List (Str × NameKind)->List (Str × Addr)->List (Str × Addr)
 | [],acc=>acc
 | (n,k) :: r,acc=>if (k == NameKind.free)=true then (match env.cells.lookup n with
  | some c=>Yi env r ((n,c) :: acc)
  | none=>Yi env r acc) else Yi env r acc
theorem Wr {env:Env}:∀ (ns:List (Str × NameKind)) (acc:List (Str × Addr)),(∀ x c,acc.lookup x=some c->env.cells.lookup x=some c) ->
  ∀ x c,(Yi env ns acc).lookup x=some c->env.cells.lookup x=some c
 | [],acc,h=>h
 | (n,k) :: r,acc,h=>by
  unfold Yi
  split
  ·cases e:env.cells.lookup n with
   | none=>exact Wr r acc h
   | some c =>
    refine Wr r _ λx d hx=>?_
    rw [List.lookup_cons] at hx
    cases hb:x == n with
    | true =>
     rw [hb] at hx
     cases hx
     rw [beq_iff_eq.mp hb]
     exact e
    | false =>
     rw [hb] at hx
     exact h x d hx
  ·exact Wr r acc h
theorem Ws {env:Env}:∀ (ns:List (Str × NameKind)) (acc:List (Str × Addr)) (x:Str),(∃ c,acc.lookup x=some c)->∃ c,(Yi env ns acc).lookup x=some c
 | [],acc,x,h=>h
 | (n,k) :: r,acc,x,h=>by
  unfold Yi
  split
  ·cases e:env.cells.lookup n with
   | none=>exact Ws r acc x h
   | some c =>
    refine Ws r _ x ?_
    rw [List.lookup_cons]
    cases hb:x == n with
    | true=>exact ⟨c,rfl⟩
    | false=>exact h
  ·exact Ws r acc x h
theorem Jr {env:Env}:∀ (ns:List (Str × NameKind)) (acc:List (Str × Addr)) (x:Str),(x,NameKind.free)∈ns->(∃ c,env.cells.lookup x=some c)->∃ c,(Yi env ns acc).lookup x=some c
 | [],acc,x,h,_=>by cases h
 | (n,k) :: r,acc,x,h,hc=>by
  rcases List.mem_cons.mp h with e | h
  ·cases e
   obtain ⟨c,hc⟩:=hc
   unfold Yi
   rw [if_pos (show (NameKind.free == NameKind.free)=true by decide),hc]
   exact Ws r _ n ⟨c,by rw [List.lookup_cons,beq_self_eq_true]⟩
  ·unfold Yi
   split
   ·cases e:env.cells.lookup n with
    | none=>exact Jr r acc x h hc
    | some c=>exact Jr r _ x h hc
   ·exact Jr r acc x h hc
theorem Q8 {env:Env} (f:Str × NameKind->List (Str × Addr)->Sem (ForInStep (List (Str × Addr))))
  (hf:∀ name kind cs,f (name,kind) cs=if (kind == NameKind.free)=true then (do let a <- cellOf env name; pure (.yield ((name,a) :: cs))) else pure (.yield cs)) :
  ∀ (ns:List (Str × NameKind)) (acc:List (Str × Addr)),(∀ y∈ns,y.2=.free->∃ c,env.cells.lookup y.1=some c)->forIn ns acc f=pure (Yi env ns acc)
 | [],acc,_=>by rw [List.forIn_nil]; rfl
 | (n,k) :: r,acc,h=>by
  rw [List.forIn_cons,hf]
  unfold Yi
  have hr:∀ y∈r,y.2=.free->∃ c,env.cells.lookup y.1=some c:=λy hy=>h y (List.mem_cons_of_mem _ hy)
  split
  ·rename_i hk
   obtain ⟨c,hc⟩:=h (n,k) List.mem_cons_self (by simpa using hk)
   have hc':env.cells.lookup n=some c:=hc
   have e:cellOf env n=pure c:=by unfold cellOf; rw [hc']
   rw [e,hc']
   exact Q8 f hf r ((n,c) :: acc) hr
  ·exact Q8 f hf r acc hr
theorem Uw {env:Env} {scope:Scope} (h:∀ y∈scope.names,y.2=.free->∃ c,env.cells.lookup y.1=some c):closureFor scope env=pure (Yi env scope.names []):=by
 unfold closureFor
 dsimp only
 rw [Q8 (env:=env) _ (λname kind cs=>by split <;> rfl) scope.names [] h]
 rfl
theorem Ja (env:Env):∀ (names:List (Str × NameKind)) (x:Str),
  (names.map λ(n,k)=>if (k == NameKind.free && env.scope.kind == .function && env.kindOf n == some .cell) then (n,NameKind.cell) else (n,k)).lookup x =
   (names.lookup x).map λk=>if (k == NameKind.free && env.scope.kind == .function && env.kindOf x == some .cell)=true then NameKind.cell else k
 | [],_=>rfl
 | (n,k) :: r,x=>by
  have ih:=Ja env r x
  have e:(if (k == NameKind.free && env.scope.kind == .function && env.kindOf n == some .cell)=true then (n,NameKind.cell) else (n,k))=(n,if (k == NameKind.free && env.scope.kind == .function && env.kindOf n == some .cell)=true then NameKind.cell else k):=by split <;> rfl
  show List.lookup x ((if (k == NameKind.free && env.scope.kind == .function && env.kindOf n == some .cell)=true then (n,NameKind.cell) else (n,k)) :: _)=_
  rw [e,List.lookup_cons,List.lookup_cons]
  cases hx:x == n with
  | true =>
   have e2:x=n:=beq_iff_eq.mp hx
   subst e2
   rfl
  | false=>exact ih
theorem Vs {env:Env} {names:List (Str × NameKind)} {x:Str} {k:NameKind} (hc:∀ y∈names,y.2≠.cell)
  (h:(names.map λ(n,k)=>if (k == NameKind.free && env.scope.kind == .function && env.kindOf n == some .cell) then (n,NameKind.cell) else (n,k)).lookup x=some k) (hk:k=.cell\/k=.free):names.lookup x=some .free:=by
 rw [Ja] at h
 cases e:names.lookup x with
 | none=>rw [e] at h; cases h
 | some k' =>
  rw [e] at h
  have hk':k'≠.cell:=hc _ (PySem.mem_of_lookup e)
  have h':(if (k' == NameKind.free && env.scope.kind == .function && env.kindOf x == some .cell)=true then NameKind.cell else k')=k:=Option.some.inj h
  split at h'
  ·rename_i q
   simp only [Bool.and_eq_true,beq_iff_eq] at q
   rw [q.1.1]
  ·subst h'
   rcases hk with z | z
   ·exact absurd z hk'
   ·rw [z]
theorem Oy {env:Env} {names:List (Str × NameKind)} {x:Str} (h:names.lookup x=some .free) :
  (names.map λ(n,k)=>if (k == NameKind.free && env.scope.kind == .function && env.kindOf n == some .cell) then (n,NameKind.cell) else (n,k)).lookup x≠some .local:=by
 rw [Ja,h]
 intro z
 have z':(if (NameKind.free == NameKind.free && env.scope.kind == .function && env.kindOf x == some .cell)=true then NameKind.cell else NameKind.free)=.local:=Option.some.inj z
 split at z' <;> cases z'
noncomputable def Yy (X:Cx) (N':List Str) (scope:Scope) (C:Addr) (s₀:Shared) (H₀:Hp) (ex:List Addr):Cx :=
 { X with N:=N',s₀:=s₀,H₀:=H₀,env:=compEnvC scope (Yi X.env scope.names []) C X.env,outer:=X.stack,ex:=ex,fn:=λ_=>false,pn:=[],xe:=λ_ _=>False }
noncomputable def FvOk (X:Cx) (scope:Scope):List (Str × Nat)->Prop
 | []=>True
 | (x,j) :: r=>(X.N[j]?=some x/\scope.names.lookup x=some .free/\(X.env.kindOf x=some .cell\/X.env.kindOf x=some .free))/\FvOk X scope r
theorem FvOk.mem {X:Cx} {scope:Scope}:∀ {l:List (Str × Nat)},FvOk X scope l->∀ y∈l,X.N[y.2]?=some y.1/\scope.names.lookup y.1=some .free/\(X.env.kindOf y.1=some .cell\/X.env.kindOf y.1=some .free)
 | [],_,_,h=>by cases h
 | (x,j) :: r,h,y,hy=>by
  rcases List.mem_cons.mp hy with e | hy
  ·cases e; exact h.1
  ·exact FvOk.mem h.2 y hy
noncomputable def blkN (ts:List Str) (fv:List (Str × Nat)):List Str:=ts ++ fv.map (·.1)
noncomputable def blkS (ts:List Str) (fv:List (Str × Nat)) (σ:St):St:=ts.map (λ_=>none) ++ fv.map λy=>(σ[y.2]?).join
structure BlkOk (X:Cx) (scope:Scope) (fv:List (Str × Nat)):Prop where
 kind:scope.kind=.function
 nocell:∀ y∈scope.names,y.2≠.cell
 names:∀ y∈scope.names,y.2=.local->scope.names.lookup y.1=some .local
 free:∀ y∈scope.names,y.2=.free->X.env.kindOf y.1=some .cell\/X.env.kindOf y.1=some .free
 fvs:FvOk X scope fv
section
variable {X:Cx} {pins:List (Addr × Obj)} {σ:St} {H:Hp} {s:Shared} {scope:Scope} {ts:List Str} {fv:List (Str × Nat)}
theorem Zg2 {h':Heap} {fp:List Addr} {tk:Nat} (B:BlkOk X scope fv) (I:Inv X pins σ H s) (hf:∀ b∈fp,FpOk X pins H b) (ho:∀ b∈fp,∃ o,s.heap.get? b=some o)
  (hn:h'.Ns s.heap.objs.size (λ_=>none)) (hk:∀ b o,s.heap.get? b=some o->h'.get? b=some o) :
  Inv (Yy X (blkN ts fv) scope s.heap.objs.size s H fp) [] (blkS ts fv σ) H { s with heap:=h',toks:=tk }:=by
 have has:∀ y∈scope.names,y.2=.free->∃ c,X.env.cells.lookup y.1=some c:=λy hy e=>I.ok.has y.1 (B.free y hy e)
 have snd:∀ x c,(Yi X.env scope.names []).lookup x=some c->X.env.cells.lookup x=some c:=Wr _ _ (λx c h=>by simp at h)
 have fr:∀ x,(scope.names.lookup x=some .free)->∃ c,(Yi X.env scope.names []).lookup x=some c:=λx hx =>
  Jr _ _ x (PySem.mem_of_lookup hx) (has _ (PySem.mem_of_lookup hx) rfl)
 have nfs:∀ b∈fp,b ∉ frs X.stack:=λb hb z=>by
  obtain ⟨_,h1,h2,_⟩:=hf b hb
  rcases List.mem_cons.mp (I.stkSub b z) with e | e
  ·exact h1 e
  ·exact h2 e
 have lt:∀ b∈fp,b < s.heap.objs.size:=λb hb=>let ⟨o,e⟩:=ho b hb; Heap.lt_size e
 refine ⟨⟨I.ok.mod,?_,I.ok.glob,I.ok.blt,Nat.le_refl _,λx y c h1 h2=>I.ok.inj x y c (snd x c h1) (snd y c h2),λx hx=>?_,λ_ _ h=>absurd (show false=true from h) Bool.false_ne_true,I.ok.hd,I.ok.frames,.inl rfl,λb hb=>⟨Nat.ne_of_lt (lt b hb),λx c e=>(hf b hb).2.2.2.2.1 x c (snd x c e)⟩,I.bs,Nat.le_trans I.ok.bsz I.sz,λb o e hb=>?_,nfs,I.stack,I.stkFree⟩,
  rfl,I.bare,Un.kept hk,⟨_,hn,λi x v h1 h2 h3=>?_⟩,λx c e=>?_,I.fresh,λx c e=>I.freeC x c (snd x c e),λp hp=>?_,I.hok.kept hk,?_⟩
 ·exact B.kind
 ·refine fr x ?_
  have hx':(relabel scope X.env).names.lookup x=some .cell\/(relabel scope X.env).names.lookup x=some .free:=hx
  rcases hx' with e | e
  ·exact Vs B.nocell e (.inl rfl)
  ·exact Vs B.nocell e (.inr rfl)
 ·rcases (hf b hb).2.2.2.1 with z | z
  ·exact I.ok.noex b o e z
  ·exact absurd (Ag (Heap.lt_size e) (Nat.le_trans I.ok.bsz z)) (Nat.lt_irrefl _)
 ·have h1:(ts ++ fv.map (·.1))[i]?=some x:=h1
  have h2:(ts.map (λ_=>(none:Option V)) ++ fv.map λy=>(σ[y.2]?).join)[i]?=some (some v):=h2
  by_cases hi:i < ts.length
  ·rw [List.getElem?_append_left (by simpa using hi),Ah] at h2
   cases e:ts[i]? with
   | none=>rw [e] at h2; cases h2
   | some z=>rw [e] at h2; cases h2
  ·rw [List.getElem?_append_right (by simpa using hi),Ab,Ah] at h2
   rw [List.getElem?_append_right (by simpa using hi),Ah] at h1
   cases e:fv[i - ts.length]? with
   | none=>rw [e] at h2; cases h2
   | some y =>
    rw [e] at h1 h2
    have e1:y.1=x:=by simpa using h1
    have e2:(σ[y.2]?).join=some v:=by simpa using h2
    obtain ⟨f1,f2,f3⟩:=B.fvs.mem y (List.mem_of_getElem? e)
    have e3:σ[y.2]?=some (some v):=by
     cases q:σ[y.2]? with
     | none=>rw [q] at e2; cases e2
     | some z=>rw [q] at e2; exact congrArg some e2
    obtain ⟨m,hm,hl⟩:=I.loc
    obtain ⟨u,r,l⟩:=hl y.2 y.1 v f1 e3 (by rcases f3 with z | z; exact .inr (.inl z); exact .inr (.inr z))
    rw [e1] at f2 f3 l
    refine ⟨u,r,?_⟩
    obtain ⟨c,hc⟩:=fr x f2
    have hc':=snd x c hc
    rcases l with ⟨l1,_⟩ | ⟨_,c2,l2,l3⟩
    ·rcases f3 with z | z
     ·rw [l1] at z; cases z
     ·rw [l1] at z; cases z
    ·rw [hc'] at l2
     cases l2
     have hv:Vis (relabel scope X.env) x:=h3
     rcases hv with z | z | z
     ·exfalso
      exact Oy f2 z
     ·exact .inr ⟨.inl z,c,hc,l3.keeps hk⟩
     ·exact .inr ⟨.inr z,c,hc,l3.keeps hk⟩
 ·obtain ⟨v,z⟩:=I.cell x c (snd x c e)
  exact ⟨v,z.keeps hk⟩
 ·exact absurd (show p∈([]:List (Addr × Obj)) from hp) (by simp)
 ·show (ts.map (λ_=>(none:Option V)) ++ fv.map λy=>(σ[y.2]?).join).length=(ts ++ fv.map (·.1)).length
  simp
theorem Inv.apart {C:Addr} {h':Heap} (I:Inv X pins σ H s) (hs:Heap.SameBut C s.heap h') (hC:H C=none) (h0:X.s₀.heap.objs.size<=C) (hL:C≠X.env.locals) (hc:∀ x c,X.env.cells.lookup x=some c->c≠C) (hp:∀ p∈X.pn ++ pins,p.1≠C) :
  Inv X pins σ H { s with heap:=h' } :=
 I.turned (t':=s.toks) (it:=C) (λb o hb e=>(hs.2 b hb).trans e) hC hL (.inr h0) hc hp
theorem Zkj {s':Shared} {H':Hp} {σ':St} {C:Addr} {N':List Str} {fp:List Addr} (I:Inv X pins σ H s) (hf:∀ b∈fp,FpOk X pins H b) (hC:s.heap.objs.size<=C)
  (J:Inv (Yy X N' scope C s H fp) [] σ' H' s'):Inv X pins σ H' s'/\H' C=none/\X.s₀.heap.objs.size<=C/\C≠X.env.locals/\(∀ x c,X.env.cells.lookup x=some c->c≠C)/\(∀ p∈X.pn ++ pins,p.1≠C):=by
 refine ⟨I.call' J.os J.base J.hok J.bare λb hb=>?_,J.free,Nat.le_trans I.sz hC,Nat.ne_of_gt (Ag I.lt hC),λx c e z=>?_,λp hp z=>?_⟩
 ·obtain ⟨_,h1,_,h3,h4,h5⟩:=hf b hb
  exact ⟨h3,h1,h4,h5⟩
 ·obtain ⟨v,q⟩:=I.cell x c e
  exact absurd (Ag q.lt (by rw [z]; exact hC)) (Nat.lt_irrefl _)
 ·exact absurd (Ag (Heap.lt_size (I.pin p hp).1) (by rw [z]; exact hC)) (Nat.lt_irrefl _)
end
noncomputable abbrev TB:=St->Hp->(St->Hp->Prop)->Prop
noncomputable def PTs (X:Cx) (ifs:List Expr) (t:TT):Prop :=
 ∀ (pins:List (Addr × Obj)) (s:Shared) (σ:St) (H:Hp) (Q:Bool->Hp->Prop),Inv X pins σ H s->t σ H Q ->
  wpAny (model X.prog X.w) X.A (forIn ifs true λc r=>if r=true then do let ok <- isTrue c X.env (eval c X.env); pure (ForInStep.yield ok) else pure (ForInStep.yield r)) (TP X pins σ Q) X.xe s
noncomputable def tYes:TT:=λ_ H Q=>Q true H
theorem Yc {X:Cx}:PTs X [] tYes:=λpins s σ H Q I h=>wpAny_tests_nil ⟨H,I,h⟩
theorem Ky {X:Cx} {c:Expr} {t:TT} (h:PT X c t):PTs X [c] t:=λpins s σ H Q I hq=>wpAny_tests_one (h pins s σ H Q I hq)
noncomputable def PB (X:Cx) (kont:Sem Fin) (c:Code) (t:TB):Prop :=
 ∀ (pins:List (Addr × Obj)) (s:Shared) (σ:St) (H:Hp) (N:St->Hp->Prop),Inv X pins σ H s->t σ H N ->
  wpAny (model X.prog X.w) X.A kont (λfin s'=>fin=.again c/\∃ σ' H',Inv X pins σ' H' s'/\N σ' H') X.xe s
noncomputable def Wt (J:It) (g:TG) (tt:TT) (tb:TB) (R:St->Hp->Prop) (σ:St) (H:Hp):Prop :=
 ∃ W:Nat->Nat->St->Hp->Prop,(∃ m,W 0 m σ H)/\∀ i m σ H,W i m σ H ->
  (J.stop i H/\R σ H)\/(J.go i H/\∃ N:St->Hp->Prop,(∀ σ' H',N σ' H'->∃ m',m' < m/\W (i + 1) m' σ' H') /\
   ∀ x H',J.yld i H x H'->g x σ H' λσ2 H2=>tt σ2 H2 λb H3=>if b=true then tb σ2 H3 N else N σ2 H3)
section
variable {X:Cx}
theorem G2 {e tg:Expr} {d:Nat} {acc:Value} {ifs:List Expr} {kont:Sem Fin} {J:It} {fp:List Addr} {it:Addr} {tn:Nat->Heap->Prop} {g:TG} {tt:TT} {tb:TB} {p:Pos} {pins:List (Addr × Obj)} {s:Shared} {σ:St} {H:Hp} {R:St->Hp->Prop}
  {RR:Result->Shared->Prop} (hxe:X.xe=λ_ _=>False)
  (hcq:Code.quiet (.compLoop e d (.ref it) acc X.env)=true) (hden:(model X.prog X.w).den (.compLoop e d (.ref it) acc X.env)=(compTurn e d (.ref it) acc X.env).onRaise (λx=>do noteFrame x X.env; theTreesLotGoes x))
  (hund:X.A.under (.compLoop e d (.ref it) acc X.env)=X.A)
  (heq:compTurn e d (.ref it) acc X.env=(standAt p >>= λ_=>pyNext (.ref it) >>= λr=>match r with
   | none=>pure (.done .next)
   | some v=>letOwnedTupleGo tg (.ref it) v >>= λ_=>assign tg X.env v >>= λ_ =>
    (forIn ifs true λc r=>if r=true then do let ok <- isTrue c X.env (eval c X.env); pure (ForInStep.yield ok) else pure (ForInStep.yield r)) >>= λok =>
     if ok=true then kont else again (.compLoop e d (.ref it) acc X.env)))
  (T:Turn X.prog X.w X.K tg J fp it tn) (hc:X.calm=true) (hg:PG X tg g) (ht:PTs X ifs tt) (hb:PB X kont (.compLoop e d (.ref it) acc X.env) tb)
  (hf:∀ b∈fp,FpOk X pins H b) (I:Inv X pins σ H s) (st:tn 0 s.heap) (h:Wt J g tt tb R σ H)
  (hR:∀ s' σ' H',Inv X pins σ' H' s'->R σ' H'->RR (.ok .next) s') :
  codeAny (model X.prog X.w) X.A (.compLoop e d (.ref it) acc X.env) RR s:=by
 obtain ⟨W,⟨m0,w0⟩,turn⟩:=h
 have stat:∀ {H':Hp},(∀ b∈fp,H' b=none)->∀ b∈fp,FpOk X pins H' b:=λhn b hb=>⟨hn b hb,(hf b hb).2⟩
 refine codeAny_loop hcq (λn s'=>∃ i σ' H',Inv X pins σ' H' s'/\tn i s'.heap/\(∀ b∈fp,H' b=none)/\W i n σ' H') ?_ m0 ⟨0,σ,H,I,st,λb hb=>(hf b hb).1,w0⟩
 rintro n s3 ⟨i,σ3,H3,I3,st3,fr3,w3⟩
 rw [hden,hund]
 refine wpAny_noted (wpAny_mono (E:=λ_ _=>False) ?_ (λ_ _ q=>q) λ_ _ z=>z.elim)
 rw [heq]
 have hxe':∀ {α:Type} {t:Sem α} {Q:α->Shared->Prop} {s:Shared},wpAny (model X.prog X.w) X.A t Q X.xe s->wpAny (model X.prog X.w) X.A t Q (λ_ _=>False) s:=λh=>by rw [hxe] at h; exact h
 refine Al (wpAny_standAt (Al ?_))
 rcases turn i n σ3 H3 w3 with ⟨stop,qn⟩ | ⟨go,N,hN,step⟩
 ·refine thn (T.done X rfl rfl rfl hc i pins s3 σ3 H3 _ I3 (stat fr3) st3 stop) λr s4 ⟨hr,I4⟩=>?_
  subst hr
  exact wpAny_pure (hR s4 σ3 H3 I4 qn)
 ·refine thn (T.item X rfl rfl rfl hc i pins s3 σ3 H3 _ I3 (stat fr3) st3 go) λr s4 ⟨u,hr,h4⟩=>?_
  subst hr
  refine Al (thn h4 λ_ s5 zz9=>?_)
  obtain ⟨x,H5,I5,r5,y5,st5,fr5⟩:=zz9
  have I5':=I5.pinned (stat fr5) (T.obj _ _ st5)
  refine Al (hxe' (thn (hg _ s5 σ3 H5 x u _ I5' r5 (step x H5 y5)) λ_ s6 zz9=>?_))
  obtain ⟨σ6,H6,I6,q6⟩:=zz9
  refine Al (hxe ▸ thn (ht _ s6 σ6 H6 _ I6 q6) λok s7 zz9=>?_)
  obtain ⟨H7,I7,q7⟩:=zz9
  have back:∀ {σ7:St} {H7:Hp} {s7:Shared},Inv X (pins ++ Vu fp s5.heap) σ7 H7 s7->N σ7 H7->∃ m,m < n/\∃ i σ' H',Inv X pins σ' H' s7/\tn i s7.heap/\(∀ b∈fp,H' b=none)/\W i m σ' H':=λ{σ7 H7 s7} I7 n7=>by
   obtain ⟨m',hm,w7⟩:=hN σ7 H7 n7
   refine ⟨m',hm,i + 1,σ7,H7,I7.unpinned,T.keep _ _ _ st5 λb hb o e=>(I7.pin (b,o) (List.mem_append_right _ (List.mem_append_right _ (J3 hb e)))).1,λb hb=>?_,w7⟩
   obtain ⟨o,e,d⟩:=T.obj _ _ st5 b hb
   exact (I7.pin (b,o) (List.mem_append_right _ (List.mem_append_right _ (J3 hb e)))).2.1
  cases ok with
  | false=>exact hxe ▸ wpAny_pure ⟨rfl,back I7 q7⟩
  | true =>
   refine thn (hb _ s7 σ6 H7 N I7 q7) λfin s8 zz9=>?_
   obtain ⟨hfin,σ8,H8,I8,q8⟩:=zz9
   subst hfin
   exact ⟨rfl,back I8 q8⟩
end
noncomputable def Zin (te:TE) (D:Addr):TB:=λσ H N=>te σ H λv H1=>∃ xs,H1 D=some (.lst xs)/\xs.length < sizeLine/\N σ (upd H1 D (.lst (xs ++ [v])))
section
variable {X:Cx}
theorem Yd {elt:Expr} {te:TE} {D:Addr} {c:Code} (he:PE X elt te) :
  PB X ((eval elt X.env >>= λx=>call (.builtin "list.append") [.ref D,x] >>= λ_=>pure ()) >>= λ_=>again c) c (Zin te D):=by
 intro pins s σ H N I h
 refine Al (Al (thn (he pins s σ H _ I h) λu s1 zz9=>?_))
 obtain ⟨v,H1,I1,r1,q1⟩:=zz9
 obtain ⟨xs,hD,hl,q⟩:=q1
 refine Al (thn (Yh pins s1 σ H1 (.ref D) [v] (.ref D) [u] (λ_ H2=>N σ H2) I1 rfl (.cons r1 .nil) ⟨D,xs,v,rfl,rfl,hD,hl,q⟩) λ_ s2 zz9=>?_)
 obtain ⟨_,H2,I2,_,q2⟩:=zz9
 exact wpAny_pure (wpAny_pure ⟨rfl,σ,H2,I2,q2⟩)
noncomputable def tGen (wi:TI) (g:TG) (tt:TT) (tb:TB):TB:=λσ H N=>wi σ H λJ H1=>Wt J g tt tb N σ H1
theorem Zes {prog:Program} {w:World} {A:Around} {R:Result->Shared->Prop} {s:Shared} {elt:Expr} {t0 i0:Expr} {f0:List Expr} {t1 i1:Expr} {f1:List Expr} {scope:Scope} {pos:Pos} {it acc:Value} {env:Env}
  (h0:codeAny (model prog w) A (.compLoop (.ListComp elt [⟨t0,i0,f0,0⟩,⟨t1,i1,f1,0⟩] scope pos) 1 it acc env) R s)
  (h:wpAny (model prog w) A (pyIter it) (λit' s'=>codeAny (model prog w) A (.compLoop (.ListComp elt [⟨t0,i0,f0,0⟩,⟨t1,i1,f1,0⟩] scope pos) 1 it' acc env) R s')
   (notedBy (model prog w) A env λx s'=>R (.error x) s') s) :
  codeAny (model prog w) A (.compStart (.ListComp elt [⟨t0,i0,f0,0⟩,⟨t1,i1,f1,0⟩] scope pos) 1 it acc env) R s:=by
 refine codeAny_of_tree ?_
 show wpAny _ _ ((compStart (.ListComp elt [⟨t0,i0,f0,0⟩,⟨t1,i1,f1,0⟩] scope pos) 1 it acc env).onRaise (λx=>do noteFrame x env; standAt theWindowsPlace)) _ _ s
 refine wpAny_notedAt ?_
 unfold compStart
 show wpAny _ _ (ask >>= _) _ _ s
 refine Al (wpAny_askSetting (wpAny_ite ?_))
 split
 ·first
   | exact Al (wpAny_pure (wpAny_pure (And.intro rfl h0)))
   | exact wpAny_pure (And.intro rfl h0)
 ·first
   | exact Al (wpAny_rule (Al (wpAny_standAt (Al (wpAny_mono h (λit' s' h'=>wpAny_pure (And.intro rfl h')) λ_ _ x=>x)))))
   | (refine Al (wpAny_rule ?_); show wpAny _ _ (standAt i1.pos >>= _) _ _ s; exact Al (wpAny_standAt (Al (wpAny_mono h (λit' s' h'=>wpAny_pure (And.intro rfl h')) λ_ _ x=>x))))
theorem Zfz {elt t0 i0 t1 i1:Expr} {f0 f1:List Expr} {scope:Scope} {pos:Pos} {D:Addr} {c:Code} {wi:TI} {g:TG} {tt:TT} {te:TE} (hxe:X.xe=λ_ _=>False) (hc:X.calm=true)
  (hi:PI X t1 i1 wi) (hg:PG X t1 g) (ht:PTs X f1 tt) (he:PE X elt te) (hs:∀ x,foldedSetIterable i1 X.env x=pure x:=by intro _; rfl) :
  PB X (eval i1 X.env >>= λx=>standAt i1.pos >>= λ_=>foldedSetIterable i1 X.env x >>= λx=>holding [x] (pyIter x) >>= λit =>
   runOwn (.compStart (.ListComp elt [⟨t0,i0,f0,0⟩,⟨t1,i1,f1,0⟩] scope pos) 1 it (.ref D) X.env) X.env >>= λ_=>again c) c (tGen wi g tt (Zin te D)):=by
 intro pins s σ H N I h
 refine Al (thn (hi pins s σ H _ I h) λv s1 h1=>Al (wpAny_standAt ?_))
 rw [hs]
 refine Al (wpAny_pure (Al (wpAny_holding (thn h1 λitv s2 h2=>?_))))
 obtain ⟨it,fp,tn,J,H2,e,I2,T,st2,f2,L⟩:=h2
 subst e
 have loop:∀ (A:Around),A=X.A->codeAny (model X.prog X.w) A (.compLoop (.ListComp elt [⟨t0,i0,f0,0⟩,⟨t1,i1,f1,0⟩] scope pos) 1 (.ref it) (.ref D) X.env)
   (λr s'=>match r with | .ok f=>wpAny (model X.prog X.w) X.A (again c) (λfin s'=>fin=.again c/\∃ σ' H',Inv X pins σ' H' s'/\N σ' H') X.xe s' | .error e=>cameBackBy (model X.prog X.w) X.A X.env X.xe e s') s2:=by
  rintro A rfl
  exact G2 (tg:=t1) (ifs:=f1) (R:=N) hxe rfl rfl rfl rfl T hc hg ht (Yd (c:=.compLoop (.ListComp elt [⟨t0,i0,f0,0⟩,⟨t1,i1,f1,0⟩] scope pos) 1 (.ref it) (.ref D) X.env) he) f2 I2 st2 L λs' σ' H' I' q=>wpAny_pure ⟨rfl,σ',H',I',q⟩
 refine Al (wpAny_runOwn (h:=none) ?_)
 exact Zes (loop _ rfl) (T.self _ _ _ _ _ st2 (loop _ rfl))
end
noncomputable def Zdv (ts:List Str) (fv:List (Str × Nat)) (wi:TI) (g:TG) (tt:TT) (tb:Addr->TB):TE:=λσ H Q=>wi σ H λJ H1=>∀ D,H1 D=none ->
 Wt J g tt (tb D) (λ_ H'=>Q (.ref D) H') (blkS ts fv σ) (upd H1 D (.lst []))
section
variable {X:Cx} {ts:List Str} {fv:List (Str × Nat)} {scope:Scope} {elt t0 i0:Expr} {f0:List Expr} {rest:List Comprehension} {pos:Pos} {wi:TI} {g:TG} {tt:TT} {tb:Addr->TB} {kont:Env->Addr->Addr->Sem Fin}
theorem G3 (B:BlkOk X scope fv) (hc:X.calm=true) (hi:PI X t0 i0 wi)
  (hg:∀ C s₀ H₀ ex,PG (Yy X (blkN ts fv) scope C s₀ H₀ ex) t0 g) (ht:∀ C s₀ H₀ ex,PTs (Yy X (blkN ts fv) scope C s₀ H₀ ex) f0 tt)
  (heq:∀ (env:Env) (it D:Addr),compTurn (.ListComp elt (⟨t0,i0,f0,0⟩ :: rest) scope pos) 0 (.ref it) (.ref D) env=(standAt i0.pos >>= λ_=>pyNext (.ref it) >>= λr=>match r with
   | none=>pure (.done .next)
   | some v=>letOwnedTupleGo t0 (.ref it) v >>= λ_=>assign t0 env v >>= λ_ =>
    (forIn f0 true λc r=>if r=true then do let ok <- isTrue c env (eval c env); pure (ForInStep.yield ok) else pure (ForInStep.yield r)) >>= λok =>
     if ok=true then kont env it D else again (.compLoop (.ListComp elt (⟨t0,i0,f0,0⟩ :: rest) scope pos) 0 (.ref it) (.ref D) env)))
  (hb:∀ C s₀ H₀ ex it D,PB (Yy X (blkN ts fv) scope C s₀ H₀ ex) (kont (Yy X (blkN ts fv) scope C s₀ H₀ ex).env it D) (.compLoop (.ListComp elt (⟨t0,i0,f0,0⟩ :: rest) scope pos) 0 (.ref it) (.ref D) (Yy X (blkN ts fv) scope C s₀ H₀ ex).env) (tb D))
  {pins:List (Addr × Obj)} {s:Shared} {σ:St} {H:Hp} {Q:VK} {RR:Value->Addr->Result->Shared->Prop} (I:Inv X pins σ H s) (h:Zdv ts fv wi g tt tb σ H Q)
  (hRR:∀ D C s' H',Inv X pins σ H' s'->H' C=none->X.s₀.heap.objs.size<=C->C≠X.env.locals->(∀ x c,X.env.cells.lookup x=some c->c≠C)->(∀ p∈X.pn ++ pins,p.1≠C)->(∃ m,s'.heap.Ns C m)->Q (.ref D) H'->RR (.ref D) C (.ok .next) s') :
  wpAny (model X.prog X.w) X.A (eval i0 X.env) (λx s₁=>wpAny (model X.prog X.w) X.A (pyIter x) (λit s₂=>wpAny (model X.prog X.w) X.A (newList []) (λacc s₃ =>
   wpAny (model X.prog X.w) X.A (newFunctionEnv scope X.env.globals (Yi X.env scope.names []) [] X.env.qual none .none (some X.env)) (λcenv s₄ =>
    codeAny (model X.prog X.w) X.A (.compStart (.ListComp elt (⟨t0,i0,f0,0⟩ :: rest) scope pos) 0 it acc { cenv with scope:=relabel scope X.env }) (RR acc cenv.locals) s₄) X.xe s₃) X.xe s₂) X.xe s₁) X.xe s:=by
 refine thn (hi pins s σ H _ I h) λv s1 h1=>thn h1 λitv s2 h2=>?_
 obtain ⟨it,fp,tn,J,H2,e,I2,T,st2,f2,L⟩:=h2
 subst e
 have L:=L s2.heap.objs.size I2.fresh
 refine wpAny_newObj_type ?_
 have I3:Inv X pins σ (upd H2 s2.heap.objs.size (.lst [])) { s2 with heap:=s2.heap.push { cls:=.type "list",data:=.seq ([]:List Value).toArray },toks:=s2.toks }:=I2.lnew (its:=[]) (t':=s2.toks) .nil (Nat.zero_le _)
 have ho2:∀ b∈fp,∃ o,s2.heap.get? b=some o/\∀ v,o.data≠.cell v:=T.obj _ _ st2
 have f3:∀ b∈fp,FpOk X pins (upd H2 s2.heap.objs.size (.lst [])) b:=λb hb=>by
  obtain ⟨o,ho,_⟩:=ho2 b hb
  refine ⟨?_,(f2 b hb).2⟩
  rw [Ze (Nat.ne_of_lt (Heap.lt_size ho))]
  exact (f2 b hb).1
 have st3:tn 0 (s2.heap.push { cls:=.type "list",data:=.seq ([]:List Value).toArray }):=T.keep _ _ _ st2 λb _ o e=>Ak _ e
 have ho3:∀ b∈fp,∃ o,(s2.heap.push { cls:=.type "list",data:=.seq ([]:List Value).toArray }).get? b=some o:=λb hb=>let ⟨o,e,_⟩:=ho2 b hb; ⟨o,Ak _ e⟩
 generalize hs3:({ s2 with heap:=s2.heap.push { cls:=.type "list",data:=.seq ([]:List Value).toArray },toks:=s2.toks }:Shared)=s3 at I3
 have eh:s2.heap.push { cls:=.type "list",data:=.seq ([]:List Value).toArray }=s3.heap:=by rw [<- hs3]
 rw [eh] at st3 ho3
 refine wpAny_newFunctionEnv B.nocell (by intro y hy; simp at hy) (λh₁ hns hsb=>?_) B.kind
 have hk:∀ b o,s3.heap.get? b=some o->h₁.get? b=some o:=λb o e=>hsb.extBut b o (Nat.ne_of_lt (Heap.lt_size e)) (Ak _ e)
 have I4:=Zg2 (ts:=ts) (tk:=s3.toks + ([]:List (Str × Value)).length) B I3 f3 ho3 hns hk
 have f4:∀ b∈fp,FpOk (Yy X (blkN ts fv) scope s3.heap.objs.size s3 (upd H2 s2.heap.objs.size (.lst [])) fp) [] (upd H2 s2.heap.objs.size (.lst [])) b:=λb hb=>by
  obtain ⟨f0,f1,f2',f3',f4',f5'⟩:=f3 b hb
  obtain ⟨o,eo⟩:=ho3 b hb
  exact ⟨f0,Nat.ne_of_lt (Heap.lt_size eo),I4.ok.exfs b hb,.inl hb,(I4.ok.exf b hb).2,λp hp=>absurd (show p∈([]:List (Addr × Obj)) from hp) (by simp)⟩
 have st4:tn 0 h₁:=T.keep _ _ _ st3 λb _ o e=>hk b o e
 have loop:codeAny (model X.prog X.w) X.A (.compLoop (.ListComp elt (⟨t0,i0,f0,0⟩ :: rest) scope pos) 0 (.ref it) (.ref s2.heap.objs.size) (Yy X (blkN ts fv) scope s3.heap.objs.size s3 (upd H2 s2.heap.objs.size (.lst [])) fp).env)
   (RR (.ref s2.heap.objs.size) s3.heap.objs.size) { s3 with heap:=h₁,toks:=s3.toks + ([]:List (Str × Value)).length }:=by
  refine G2 (X:=Yy X (blkN ts fv) scope s3.heap.objs.size s3 (upd H2 s2.heap.objs.size (.lst [])) fp) (tg:=t0) (ifs:=f0) (R:=λ_ H'=>Q (.ref s2.heap.objs.size) H') rfl rfl rfl rfl (heq _ it s2.heap.objs.size) T hc (hg _ _ _ _) (ht _ _ _ _) (hb _ _ _ _ it s2.heap.objs.size) f4 I4 st4 L λs' σ' H' J' q=>?_
  obtain ⟨e1,e2,e3,e4,e5,e6⟩:=Zkj I3 f3 (Nat.le_refl _) J'
  obtain ⟨m,hm,_⟩:=J'.loc
  exact hRR _ _ s' H' e1 e2 e3 e4 e5 e6 ⟨m,hm⟩ q
 exact codeAny_compStart_list loop (T.self _ _ _ _ _ st4 loop)
theorem Yf (B:BlkOk X scope fv) (hc:X.calm=true) (hi:PI X t0 i0 wi)
  (hg:∀ C s₀ H₀ ex,PG (Yy X (blkN ts fv) scope C s₀ H₀ ex) t0 g) (ht:∀ C s₀ H₀ ex,PTs (Yy X (blkN ts fv) scope C s₀ H₀ ex) f0 tt)
  (heq:∀ (env:Env) (it D:Addr),compTurn (.ListComp elt (⟨t0,i0,f0,0⟩ :: rest) scope pos) 0 (.ref it) (.ref D) env=(standAt i0.pos >>= λ_=>pyNext (.ref it) >>= λr=>match r with
   | none=>pure (.done .next)
   | some v=>letOwnedTupleGo t0 (.ref it) v >>= λ_=>assign t0 env v >>= λ_ =>
    (forIn f0 true λc r=>if r=true then do let ok <- isTrue c env (eval c env); pure (ForInStep.yield ok) else pure (ForInStep.yield r)) >>= λok =>
     if ok=true then kont env it D else again (.compLoop (.ListComp elt (⟨t0,i0,f0,0⟩ :: rest) scope pos) 0 (.ref it) (.ref D) env)))
  (hb:∀ C s₀ H₀ ex it D,PB (Yy X (blkN ts fv) scope C s₀ H₀ ex) (kont (Yy X (blkN ts fv) scope C s₀ H₀ ex).env it D) (.compLoop (.ListComp elt (⟨t0,i0,f0,0⟩ :: rest) scope pos) 0 (.ref it) (.ref D) (Yy X (blkN ts fv) scope C s₀ H₀ ex).env) (tb D))
  (hs:∀ x,foldedSetIterable i0 X.env x=pure x:=by intro _; rfl) :
  PE X (.ListComp elt (⟨t0,i0,f0,0⟩ :: rest) scope pos) (Zdv ts fv wi g tt tb):=by
 intro pins s σ H Q I h
 rw [eval_ListComp]
 refine wpAny_comprehension_free (use:=none) rfl hs (Uw λy hy e=>I.ok.has y.1 (B.free y hy e)) B.kind B.names ?_
 refine G3 (RR:=λacc C=>compPost (model X.prog X.w) X.A X.xe none (EP X pins σ Q) acc C) B hc hi hg ht heq hb I h λD C s' H' I' e2 e3 e4 e5 e6 hm q=>?_
 obtain ⟨m,hm⟩:=hm
 exact ⟨m,hm,λh' hs'=>⟨.ref D,H',I'.apart hs' e2 e3 e4 e5 e6,rfl,q⟩⟩
theorem Wl {i:Nat} {y:Str} {py spos:Pos} (B:BlkOk X scope fv) (hc:X.calm=true) (hN:X.N.Nodup) (hiy:X.N[i]?=some y) (hyl:X.env.scope.names.lookup y=some .local)
  (hsw:swapsWith (.ListComp elt (⟨t0,i0,f0,0⟩ :: rest) scope pos) (some (.Name y py)) spos.line X.env=pure true) (hi:PI X t0 i0 wi)
  (hg:∀ C s₀ H₀ ex,PG (Yy X (blkN ts fv) scope C s₀ H₀ ex) t0 g) (ht:∀ C s₀ H₀ ex,PTs (Yy X (blkN ts fv) scope C s₀ H₀ ex) f0 tt)
  (heq:∀ (env:Env) (it D:Addr),compTurn (.ListComp elt (⟨t0,i0,f0,0⟩ :: rest) scope pos) 0 (.ref it) (.ref D) env=(standAt i0.pos >>= λ_=>pyNext (.ref it) >>= λr=>match r with
   | none=>pure (.done .next)
   | some v=>letOwnedTupleGo t0 (.ref it) v >>= λ_=>assign t0 env v >>= λ_ =>
    (forIn f0 true λc r=>if r=true then do let ok <- isTrue c env (eval c env); pure (ForInStep.yield ok) else pure (ForInStep.yield r)) >>= λok =>
     if ok=true then kont env it D else again (.compLoop (.ListComp elt (⟨t0,i0,f0,0⟩ :: rest) scope pos) 0 (.ref it) (.ref D) env)))
  (hb:∀ C s₀ H₀ ex it D,PB (Yy X (blkN ts fv) scope C s₀ H₀ ex) (kont (Yy X (blkN ts fv) scope C s₀ H₀ ex).env it D) (.compLoop (.ListComp elt (⟨t0,i0,f0,0⟩ :: rest) scope pos) 0 (.ref it) (.ref D) (Yy X (blkN ts fv) scope C s₀ H₀ ex).env) (tb D))
  (hs:∀ x,foldedSetIterable i0 X.env x=pure x:=by intro _; rfl) :
  PS X (.Assign [.Name y py] (.ListComp elt (⟨t0,i0,f0,0⟩ :: rest) scope pos) spos) (tAsg (Zdv ts fv wi g tt tb) (Zl i)):=by
 intro pins s σ H D0 I h
 rw [exec_Assign_Name_used _ _ _ _ hsw]
 refine Al (wpAny_standAt (Al ?_))
 show wpAny _ X.A (do let _ <- comprehension (.ListComp elt (⟨t0,i0,f0,0⟩ :: rest) scope pos) scope X.env _ (newList []) false (eval i0 X.env) (some (assign (.Name y py) X.env))) _ _ s
 refine Al (wpAny_mono (wpAny_comprehension_free (use:=some (assign (.Name y py) X.env)) (Q:=λ_ s'=>SP X pins D0 .next s') rfl hs (Uw λy hy e=>I.ok.has y.1 (B.free y hy e)) B.kind B.names ?_) (λ_ s' hq=>wpAny_pure (wpAny_pure hq)) λ_ _ e=>e)
 refine G3 (Q:=λx H1=>Zl i x σ H1 D0.nx) (RR:=λacc C=>compPost (model X.prog X.w) X.A X.xe (some (assign (.Name y py) X.env)) (λ_ s'=>SP X pins D0 .next s') acc C) B hc hi hg ht heq hb I h λD C s' H' I' e2 e3 e4 e5 e6 hm q=>?_
 obtain ⟨m,hm⟩:=hm
 show wpAny _ X.A (assign (.Name y py) X.env (.ref D)) _ _ _
 refine wpAny_assign_Name (Gf I' hN hiy (.inl hyl) (show RelV (.ref D) (.ref D) from rfl) (λs'' I'' hch=>?_) (.inr hyl))
 obtain ⟨a,hsb,ha⟩:=hch
 have haC:C≠a:=by
  rcases ha with e | e
  ·rw [e]; exact e4
  ·exact λz=>e5 y a e z.symm
 exact ⟨m,hm.sameBut hsb haC,λh' hs'=>⟨_,H',I''.apart hs' e2 e3 e4 e5 e6,q⟩⟩
end
noncomputable def FlyT (e T:Addr) (cls a0:Value) (h:Heap):Prop :=
 ∃ oe vs oT ts,h.get? e=some oe/\(oe.cls=cls/\vs[0]?=some a0)/\oe.data=.fields vs/\vs[1]?=some (.ref T)/\T≠e/\h.get? T=some oT/\oT.data=.fields ts/\ts[3]?=some .none
noncomputable def CXr (P:Program) (w:World):CXT:=λouter H s E ev s' =>
 ∃ (e T:Addr) (cls a0:Value) (H':Hp),ev=.ref e/\s'.os=s.os/\AllBare s'.gens/\Un (frs outer) [] H H' s.heap s'.heap/\HOk P w H' s'.heap /\
  s.heap.get? e=none/\s.heap.get? T=none/\H' e=none/\H' T=none/\FlyT e T cls a0 s'.heap/\E cls none H'
theorem Xz {X:Cx}:Qf (CXr X.prog X.w) X E0:=λ_ _ _ _ _ _ _ h=>by
 obtain ⟨_,_,_,_,_,_,_,_,_,_,_,_,_,_,_,z⟩:=h
 exact z.elim
theorem Zkf {P:Program} {w:World} {H:Hp} {s:Shared} {e:Value} {s':Shared} (h:CXr P w [] H s (λ_ _ _=>False) e s'):False:=by
 obtain ⟨_,_,_,_,_,_,_,_,_,_,_,_,_,_,_,z⟩:=h
 exact z
section
variable {P:Program} {w:World} {K:PySem.W.Frag} {mg:Str->Option Value} {base:Heap}
theorem Fun.okR {x qual:Str} {st:Stmt} {f:Addr} {fd:FuncData} {N ps:List Str} {k:Nat} {sp:Sp} (F:Fun K x qual st f fd) (S:FnScope N ps (Zi st)) (len:∀ vs H Q E,sp vs H Q E->vs.length=ps.length)
  (hbody:∀ (cdv:Value) (A:Around) (outer:List Env) (s:Shared) (H:Hp) (vs:List V) (Q:VK) (E:XK),Room k (A.deeper (envOfC qual (Zi st) s.heap.objs.size f cdv))->sp vs H Q E ->
   ∃ t,PSs (cxOf (CXr P w) P w K mg base N qual (Zi st) f cdv A outer s H E).nox (Yk st) t/\t { nx:=λ_ H'=>Q .non H',rt:=Q } (start N vs) H):FnOk P w K mg base (CXr P w) (k + 1) f fd ps sp:=by
 obtain ⟨oc,od,kV,doc,pm,an,cdv,ct,osl,rfl,lk,hcd⟩:=F.ex
 refine Zi0 lk hcd S len λA outer s H vs Q E hr hsp=>?_
 obtain ⟨t,h,q⟩:=hbody cdv A outer s H vs Q E hr hsp
 exact ⟨t,h.nox,q⟩
end
section
variable {X:Cx}
theorem Js:Y1 X (.builtin "isinstance") (λxs H Q=>∃ x T t b,xs=[x,.ty T]/\TyOf X.K H x t/\PySem.W.kitOne X.K t (.type T)=some b/\Q (.bl b) H):=by
 intro pins s σ H xs us Q I r h
 obtain ⟨x,T,t,b,rfl,hty,hk,q⟩:=h
 obtain ⟨u,v,rfl,ru,rv⟩:=r.two
 obtain rfl:v=Value.type T:=rv
 exact Zgi I ru hty hk λtk=>⟨.bl b,H,I.tok _,rfl,q⟩
theorem U7 {K:PySem.W.Frag} {T:String}:PySem.W.kitOne K (.type T) (.type T)=some true:=by
 unfold PySem.W.kitOne
 rw [if_pos (by simp)]
theorem Ya {X:Cx} {scope:Scope} (h:scope.names.all (λy=>y.2 != .free || X.env.kindOf y.1 == some .cell || X.env.kindOf y.1 == some .free)=true) :
  ∀ y∈scope.names,y.2=.free->X.env.kindOf y.1=some .cell\/X.env.kindOf y.1=some .free:=λy hy e=>by
 have:=List.all_eq_true.mp h y hy
 simp [e] at this
 exact this
end
theorem walk_r {l:PySem.W.OpenLaw} {k:Nat} {q:Program} {loose:List Str} {XP:(Str->Option Value)->Heap->Prop} {YP:World->Heap->Prop} {d:DefRec} {K:Params->PySem.W.Frag} {spl:PySem.W.Frag->Sp}
  (hn:l.most=some 63) (hdf:d.params.defaults=[]) (hr:Room k callerA) (hY:∀ (w:World) (h:Heap),YP w h->(K w.params).In h)
  (hsp:∀ (K:PySem.W.Frag) (H:Hp) (a:Addr) (ns:List Int),ns.length<=63->SqL K H a (ns.map V.int)->spl K [.ref a] H (λv _=>v=.bl true) λ_ _ _=>False)
  (F:∀ (w:World) (mg:Str->Option Value) (fa:Addr) (h:Heap),(K w.params).In h->h.Ns mainGlobals mg->mg d.name=some (.ref fa) ->
   ∃ fd:FuncData,(∀ (s:Shared) (u:Value),BindsTo s fd ⟨[u],[]⟩ [("_law_script",u)]) /\
    ∀ base:Heap,(K w.params).In base->base.Ns mainGlobals mg->FnOk l.prog w (K w.params) mg base (CXr l.prog w) k fa fd ["_law_script"] (spl (K w.params))) :
  PySem.W.WalkO q loose XP YP l.row.toRowW d [] (λf vs=>PySem.call f vs) :=
 Zi5 (n:=63) (k:=k) (x:="_law_script") (CX:=λw=>CXr l.prog w) (sp:=λw=>spl (K w.params)) hn (by decide) hdf hr hY F (λw H a ns hl _ hS=>hsp _ H a ns hl hS) (λw H s e s' h=>Zkf h)
noncomputable def ExT (e:Addr) (T:Option Addr) (cls a0:Value) (h:Heap):Prop:=match T with
 | some T=>FlyT e T cls a0 h
 | none=>∃ oe vs,h.get? e=some oe/\(oe.cls=cls/\vs[0]?=some a0)/\oe.data=.fields vs/\vs[1]?=some .none
structure FxOk (X:Cx) (pins:List (Addr × Obj)) (H:Hp) (b:Addr):Prop where
 nt:H b=none
 nl:b≠X.env.locals
 nf:b ∉ X.fs
 n0:X.s₀.heap.get? b=none
 nc:∀ x c,X.env.cells.lookup x=some c->c≠b
 np:∀ p∈X.pn ++ pins,p.1≠b
noncomputable def XS (fr:Bool) (X:Cx) (pins:List (Addr × Obj)) (R:Value->St->Hp->Prop) (ev:Value) (s':Shared):Prop :=
 ∃ (e:Addr) (T:Option Addr) (cls a0:Value) (σ':St) (H':Hp),ev=.ref e/\Inv X pins σ' H' s'/\ExT e T cls a0 s'.heap/\FxOk X pins H' e/\(∀ t,T=some t->FxOk X pins H' t)/\(T=none->fr=true)/\R cls σ' H'
noncomputable abbrev TSX:=Ends->(Value->St->Hp->Prop)->St->Hp->Prop
noncomputable abbrev TEX:=St->Hp->VK->XK->Prop
noncomputable def PSX (fr:Bool) (X:Cx) (st:Stmt) (t:TSX):Prop :=
 ∀ (pins:List (Addr × Obj)) (s:Shared) (σ:St) (H:Hp) (D:Ends) (R:Value->St->Hp->Prop),Inv X pins σ H s->t D R σ H->wpAny (model X.prog X.w) X.A (exec st X.env) (SP X pins D) (XS fr X pins R) s
noncomputable def PSsX (fr:Bool) (X:Cx) (st:List Stmt) (t:TSX):Prop :=
 ∀ (pins:List (Addr × Obj)) (s:Shared) (σ:St) (H:Hp) (D:Ends) (R:Value->St->Hp->Prop),Inv X pins σ H s->t D R σ H->wpAny (model X.prog X.w) X.A (execs st X.env) (SP X pins D) (XS fr X pins R) s
noncomputable def PEX (fr:Bool) (X:Cx) (e:Expr) (t:TEX):Prop :=
 ∀ (pins:List (Addr × Obj)) (s:Shared) (σ:St) (H:Hp) (Q:VK) (E:XK),Inv X pins σ H s->t σ H Q E->wpAny (model X.prog X.w) X.A (eval e X.env) (EP X pins σ Q) (XS fr X pins λcls σ' H'=>σ'=σ/\E cls none H') s
section
variable {X:Cx} {fr:Bool}
theorem Jt {st:Stmt} {t:TS} (h:PS X st t) (hx:X.xe=(λ_ _=>False):=by rfl):PSX fr X st (λD _ σ H=>t D σ H):=λpins s σ H D R I q=>by
 have:=h pins s σ H D I q
 rw [hx] at this
 exact wpAny_mono this (λ_ _ z=>z) λ_ _ z=>z.elim
noncomputable def Zmc (t u:TSX):TSX:=λD R σ H=>t { D with nx:=u D R } R σ H
theorem Xo {st:Stmt} {rest:List Stmt} {t u:TSX} (h1:PSX fr X st t) (h2:PSsX fr X rest u):PSsX fr X (st :: rest) (Zmc t u):=by
 intro pins s σ H D R I h
 refine wpAny_execs_cons (thn (h1 pins s σ H { D with nx:=u D R } R I h) λf s1 q=>?_)
 cases f with
 | next =>
  obtain ⟨σ',H',I',q⟩:=q
  exact h2 pins s1 σ' H' D R I' q
 | ret v=>exact q
 | brk=>exact q
 | cont=>exact q
theorem Y4 {st:Stmt} {t:TSX} (h1:PSX fr X st t):PSsX fr X [st] t:=by
 intro pins s σ H D R I h
 refine wpAny_execs_cons (thn (h1 pins s σ H D R I h) λf s1 q=>?_)
 cases f with
 | next=>exact wpAny_execs_nil q
 | ret v=>exact q
 | brk=>exact q
 | cont=>exact q
theorem U2:PSsX fr X [] (λD _ σ H=>D.nx σ H):=λ_ _ σ H _ _ I h=>wpAny_execs_nil ⟨σ,H,I,h⟩
noncomputable def tIfX (c:TT) (t u:TSX):TSX:=λD R σ H=>c σ H λb H1=>if b=true then t D R σ H1 else u D R σ H1
theorem Zar {c:Expr} {a b:List Stmt} {tc:TT} {t u:TSX} {pos:Pos} (hc:PT X c tc) (ha:PSsX fr X a t) (hb:PSsX fr X b u) (hx:X.xe=(λ_ _=>False):=by rfl):PSX fr X (.If c a b pos) (tIfX tc t u):=by
 intro pins s σ H D R I h
 have h0:=hc pins s σ H _ I h
 rw [hx] at h0
 refine wpAny_If (wpAny_mono h0 (λd s1 zz26=>?_) λ_ _ z=>z.elim)
 obtain ⟨H1,I1,q1⟩:=zz26
 cases d with
 | true=>exact ha pins s1 σ H1 D R I1 q1
 | false=>exact hb pins s1 σ H1 D R I1 q1
noncomputable def Zky (te:TEX):TSX:=λD R σ H=>te σ H (λ_ H1=>D.nx σ H1) λcls _ H1=>R cls σ H1
theorem U1 {e:Expr} {te:TEX} {pos:Pos} (he:PEX fr X e te) (hs:swapsWith e none pos.line X.env=pure false:=by rfl):PSX fr X (.Expr e pos) (Zky te):=by
 intro pins s σ H D R I h
 refine wpAny_Expr_any (wpAny_mono (he pins s σ H _ _ I h) (λv s1 ⟨x,H1,I1,r1,q1⟩=>⟨σ,H1,I1,q1⟩) ?_) I.quiet hs
 rintro ev s1 ⟨e,T,cls,a0,σ',H',h1,h2,h3,h4,h5,h7,rfl,h6⟩
 exact ⟨e,T,cls,a0,σ',H',h1,h2,h3,h4,h5,h7,h6⟩
noncomputable def Zmb (i:Nat) (te:TEX):TSX:=λD R σ H=>te σ H (λx H1=>D.nx (σ.set i (some x)) H1) λcls _ H1=>R cls σ H1
theorem Zcy {i:Nat} {x:Str} {e:Expr} {te:TEX} {pos pos':Pos} (hN:X.N.Nodup) (hi:X.N[i]?=some x) (hx:Loc X.env.scope x) (he:PEX fr X e te) (hs:swapsWith e (some (.Name x pos')) pos.line X.env=pure false:=by rfl)
  (hf:X.fn x=true\/X.env.scope.names.lookup x=some .local:=by first | exact .inl rfl | exact .inr rfl | assumption):PSX fr X (.Assign [.Name x pos'] e pos) (Zmb i te):=by
 intro pins s σ H D R I h
 refine wpAny_Assign_Name (wpAny_mono (he pins s σ H _ _ I h) (λv s1 ⟨y,H1,I1,r1,q1⟩=>?_) ?_) hs
 ·exact Qa I1 hN hi hx r1 (λs2 I2=>⟨_,H1,I2,q1⟩) hf
 ·rintro ev s1 ⟨e,T,cls,a0,σ',H',h1,h2,h3,h4,h5,h7,rfl,h6⟩
  exact ⟨e,T,cls,a0,σ',H',h1,h2,h3,h4,h5,h7,h6⟩
theorem Inv.cxr {pins:List (Addr × Obj)} {σ:St} {H:Hp} {s s':Shared} {E:XK} {ev:Value} (I:Inv X pins σ H s) (hex:X.ex=[]) (h:CXr X.prog X.w X.stack H s E ev s'):XS fr X pins (λcls σ' H'=>σ'=σ/\E cls none H') ev s':=by
 obtain ⟨e,T,cls,a0,H',rfl,os,bare,un,hok,ne,nT,he,hT,fl,q⟩:=h
 have I':Inv X pins σ H' s':=I.call' os un hok bare λb hb=>absurd hb (by simp)
 have fx:∀ b,s.heap.get? b=none->H' b=none->FxOk X pins H' b:=λb hb hn=>by
  refine ⟨hn,λz=>?_,λz=>?_,?_,λx c e z=>?_,λp hp z=>?_⟩
  ·obtain ⟨m,⟨o,_,_,ho,_⟩,_⟩:=I.loc
   rw [z,ho] at hb; cases hb
  ·obtain ⟨_,o,ho,_⟩:=I.funs.mem z
   rw [ho] at hb; cases hb
  ·cases q:X.s₀.heap.get? b with
   | none=>rfl
   | some o =>
    obtain ⟨o',e'⟩:=I.base.there b o q (by rw [hex]; simp)
    rw [hb] at e'; cases e'
  ·obtain ⟨v,o,ho,_⟩:=I.cell x c e
   rw [z,hb] at ho; cases ho
  ·have:=(I.pin p hp).1
   rw [z,hb] at this; cases this
 exact ⟨e,some T,cls,a0,σ,H',rfl,I',fl,fx e ne he,λt ht=>by cases ht; exact fx T nT hT,(λz=>nomatch z),rfl,q⟩
variable {k:Nat} {f C:Addr} {fd:FuncData} {ps:List Str} {sp:Sp} {dvs:List V} {ds:List Value} {x m:Str} {p pos apos:Pos} {e o:Expr} {es:List Expr} {ta:TE} {t:TA}
theorem Zcv {pins:List (Addr × Obj)} {σ:St} {H:Hp} {s:Shared} {Q:VK} {E:XK} {us:List Value} {vs:List V} (F:FnOk X.prog X.w X.K X.mg X.base (CXr X.prog X.w) k f fd ps sp) (hr:Room k X.A) (hb:X0 X.K fd ps ds) (hd:Vals dvs ds) (hex:X.ex=[])
  (I:Inv X pins σ H s) (r:Vals vs us) (h:sp (vs ++ dvs) H Q E):wpAny (model X.prog X.w) X.A (call (.ref f) us) (EP X pins σ Q) (XS fr X pins λcls σ' H'=>σ'=σ/\E cls none H') s:=by
 have r2:Vals (vs ++ dvs) (us ++ ds):=r.append hd
 have hl:(us ++ ds).length=ps.length:=by rw [<- r2.length]; exact F.len _ _ _ _ h
 refine wpAny_call (codeAny_mono (F.run X.A X.stack s H ⟨us,[]⟩ (us ++ ds) (vs ++ dvs) Q E hr I.env0 (hb s us I.kIn hl) r2 h) λr s' hq=>?_)
 cases r with
 | error e=>exact I.cxr hex hq
 | ok fl =>
  cases fl with
  | ret u=>exact I.after hq
  | next=>exact False.elim hq
  | brk=>exact False.elim hq
  | cont=>exact False.elim hq
noncomputable def Ze6 (sp:Sp) (dvs:List V) (t:TA):TEX:=λσ H Q E=>t σ H λvs H1=>sp (vs ++ dvs) H1 Q E
theorem Zhr (F:FnOk X.prog X.w X.K X.mg X.base (CXr X.prog X.w) k f fd ps sp) (hr:Room k X.A) (hg:Gl X x) (hm:X.mg x=some (.ref f)) (hk:PySem.W.keepIn X.K (.ref f)=true) (hb:X0 X.K fd ps ds) (hd:Vals dvs ds)
  (ha:PA X (e :: es) t) (hex:X.ex=[]:=by rfl) (hx:X.xe=(λ_ _=>False):=by rfl) (hdb:(x == ("__debug__":Str))=false:=by decide) (he:starEach (e :: es) X.env=(false,eval e X.env) :: starEach es X.env:=by rfl) (hpl:(backTo pos (starEach es X.env)).any (·.1)=false:=by rfl) :
  PEX fr X (.Call (.Name x p) (e :: es) [] pos) (Ze6 sp dvs t):=by
 intro pins s σ H Q E I h
 have h0:=ha pos pins s σ H _ I h
 rw [hx] at h0
 refine wpAny_Call_Name_kw (Qv I hg hm ?_ hdb)
 refine PySem.W.callWith_K (h₀:=X.base) I.ok.mod.kin hk (wpAny_mono h0 (λus s1 zz27=>?_) λ_ _ z=>z.elim) he hpl
 obtain ⟨vs,H1,I1,r,q⟩:=zz27
 refine ⟨I1.kIn,?_⟩
 exact Zcv F hr hb hd hex I1 r q
noncomputable def Zkx (C:Addr) (m:Str) (sp:Sp) (dvs:List V) (ta:TE) (t:TA):TEX:=λσ H Q E=>ta σ H λx H1=>∃ a dx fs,x=.ref a/\H1 a=some (.ins C dx fs)/\fs.lookup m=none /\
 t σ H1 λvs H2=>sp (x :: (vs ++ dvs)) H2 Q E
theorem U4 {pl:Sem Bool} (he:PE X o ta) (c:Cls X.K C) (hm:Meth X.K C m f) (F:FnOk X.prog X.w X.K X.mg X.base (CXr X.prog X.w) k f fd ps sp) (hr:Room k X.A) (hb:X0 X.K fd ps ds) (hd:Vals dvs ds) (ha:PA X (e :: es) t)
  (hex:X.ex=[]:=by rfl) (hx:X.xe=(λ_ _=>False):=by rfl) (hst:starEach (e :: es) X.env=(false,eval e X.env) :: starEach es X.env:=by rfl) (hpl:(backTo pos (starEach es X.env)).any (·.1)=false:=by rfl)
  (ht:eval (.Call (.Attribute o m apos) (e :: es) [] pos) X.env=(do
   let ov <- eval o X.env
   standAt apos.atName
   let (f,first) <- holding [ov] (getMethod ov m pl)
   callWith pos f first (backTo pos (starEach (e :: es) X.env)) (backToKw pos (keywordEach [] X.env))):=by rfl) :
  PEX fr X (.Call (.Attribute o m apos) (e :: es) [] pos) (Zkx C m sp dvs ta t):=by
 intro pins s σ H Q E I h
 have h0:=he pins s σ H _ I h
 rw [hx] at h0
 refine PySem.W.methodCall_KW (pl:=pl) (wpAny_mono h0 (λu s1 zz28=>?_) λ_ _ z=>z.elim) ht
 obtain ⟨x,H1,I1,rx,a,dx,fs,ex,ea,l,q⟩:=zz28
 subst ex
 obtain rfl:u=Value.ref a:=rx
 refine Q7 I1 ea c hm l ?_
 have h1:=ha pos pins s1 σ H1 _ I1 q
 rw [hx] at h1
 refine PySem.W.callWith_K (first:=[.ref a]) (h₀:=X.base) I.ok.mod.kin hm.kp (wpAny_mono h1 (λus s2 zz29=>?_) λ_ _ z=>z.elim) hst hpl
 obtain ⟨vs,H2,I2,r,q2⟩:=zz29
 refine ⟨I2.kIn,?_⟩
 exact Zcv (us:=.ref a :: us) (vs:=.ref a :: vs) F hr hb hd hex I2 (.cons rfl r) q2
end
theorem Zy.there {P:Program} {w:World} {H:Hp} {h:Heap} {a:Addr}:∀ {o:HO},Zy P w H h a o->∃ ob,h.get? a=some ob
 | .lst _,x=>by obtain ⟨_,_,_,_,e⟩:=x; exact ⟨_,e⟩
 | .tup _,x=>by obtain ⟨_,_,_,ob,e,_⟩:=x; exact ⟨_,e⟩
 | .dK _,x=>by obtain ⟨_,_,_,_,o,_,_,e,_⟩:=x; exact ⟨_,e⟩
 | .dT _,x=>by obtain ⟨_,_,_,_,o,_,_,e,_⟩:=x; exact ⟨_,e⟩
 | .set _ _,x=>by obtain ⟨o,_,_,_,e,_⟩:=x; exact ⟨_,e⟩
 | .ins _ _ _,x=>by obtain ⟨_,_,_,e,_⟩:=x; exact ⟨_,e⟩
 | .own _,x=>by obtain ⟨_,e⟩:=x; exact ⟨_,e⟩
 | .xd _,x=>by obtain ⟨_,⟨_,_,_,e,_⟩,_⟩:=x; exact ⟨_,e⟩
 | .rng _ _,x=>by obtain ⟨_,_,_,e⟩:=x; exact ⟨_,e⟩
 | .frz _ _,x=>by obtain ⟨e,_⟩:=x; exact ⟨_,e⟩
 | .tbl _,x=>⟨_,(show h.get? a=some _ from x)⟩
 | .met _ _,x=>⟨_,(show h.get? a=some _ from x)⟩
 | .ext _,x=>by obtain ⟨_,⟨_,e⟩,_⟩:=x; exact ⟨_,e⟩
section
variable {X:Cx} {pins:List (Addr × Obj)} {σ:St} {H:Hp} {s:Shared}
theorem Inv.untr (I:Inv X pins σ H s) {b:Addr} (hb:s.heap.get? b=none):H b=none:=by
 cases q:H b with
 | none=>rfl
 | some o =>
  obtain ⟨ob,e⟩:=(I.hok b o q).there
  rw [hb] at e; cases e
theorem Inv.fxOk (I:Inv X pins σ H s) (hex:X.ex=[]) {b:Addr} (hb:s.heap.get? b=none):FxOk X pins H b:=by
 refine ⟨I.untr hb,λz=>?_,λz=>?_,?_,λx c e z=>?_,λp hp z=>?_⟩
 ·obtain ⟨m,⟨o,_,_,ho,_⟩,_⟩:=I.loc
  rw [z,ho] at hb; cases hb
 ·obtain ⟨_,o,ho,_⟩:=I.funs.mem z
  rw [ho] at hb; cases hb
 ·cases q:X.s₀.heap.get? b with
  | none=>rfl
  | some o =>
   obtain ⟨o',e'⟩:=I.base.there b o q (by rw [hex]; simp)
   rw [hb] at e'; cases e'
 ·obtain ⟨v,o,ho,_⟩:=I.cell x c e
  rw [z,hb] at ho; cases ho
 ·have:=(I.pin p hp).1
  rw [z,hb] at this; cases this
end
structure ExcK (K:PySem.W.Frag) (C:Addr) (bmB:List Value) (newId:String):Prop where
 q:PySem.W.excIn K C bmB newId=true
theorem Zkd {K:PySem.W.Frag} {h:Heap} {C:Addr} {bmB:List Value} {newId:String} (X:K.In h) (q:PySem.W.excIn K C bmB newId=true) :
  ∃ bm N nm q bs hdct sn sub ab col dd k0 k1 k2 k3 k5 mN,h.get? C=some (excClassObj nm q C N bs bm hdct sn sub ab col dd k0 k1 k2 k3 k5 newId)/\h.Ns N mN/\mN "__init__"=none/\OwnTail h bmB bm:=by
 unfold PySem.W.excIn at q
 split at q
 ·rename_i dd cd sl ho
  split at q
  ·rename_i C' bm k0 k1 k2 k3 n k5 hm hs
   simp only [Bool.and_eq_true,beq_iff_eq,Bool.not_eq_true'] at q
   obtain ⟨⟨⟨⟨⟨rfl,rfl⟩,hdel⟩,ht⟩,hok⟩,hni⟩:=q
   obtain ⟨nm,bs,mro,ns,qn,hd,sn,sub,ab,col,del⟩:=cd
   dsimp only at hm hdel hok hni
   subst hm hdel
   have hsl:sl=#[k0,k1,k2,k3,some (.builtin n),k5]:=by
    obtain ⟨l⟩:=sl
    simp only at hs
    rw [hs]
   subst hsl
   exact ⟨bm,ns,nm,qn,bs,hd,sn,sub,ab,col,dd,k0,k1,k2,k3,k5,_,X _ _ ho,.of_isNs (PySem.W.isNs_of_in X hok),PySem.W.nsMap_none_of_in X hok hni,PySem.W.tail_of_in X ht⟩
  ·cases q
 ·cases q
section
variable {X:Cx}
noncomputable def Zkv (C:Addr) (t:TA):TSX:=λ_ R σ H=>t σ H λvs H1=>vs.length<=1000/\R (.ref C) σ H1
theorem Vt {C:Addr} {bmB:List Value} {B newId initId:String} {x:Str} {np cpos pos:Pos} {e:Expr} {es:List Expr} {t:TA} (K:ExcK X.K C bmB newId) (FB:ExcBaseFacts B newId initId bmB) (hg:Gl X x) (hm:X.mg x=some (.ref C)) (hc:X.calm=true) (ha:PA X (e :: es) t)
  (hex:X.ex=[]:=by rfl) (hx:X.xe=(λ_ _=>False):=by rfl) (hdb:(x == ("__debug__":Str))=false:=by decide) (he:starEach (e :: es) X.env=(false,eval e X.env) :: starEach es X.env:=by rfl) (hpl:(backTo cpos (starEach es X.env)).any (·.1)=false:=by rfl) :
  PSX true X (.Raise (some (.Call (.Name x np) (e :: es) [] cpos)) none pos) (Zkv C t):=by
 intro pins s σ H D R I h
 obtain ⟨tl,N,nm,q,bs,hdct,sn,sub,ab,col,dd,k0,k1,k2,k3,k5,mN,hC,hN,hni,T⟩:=Zkd I.ok.mod.kin K.q
 refine wpAny_Raise_call_subT (C:=C) (nm:=nm) (q:=q) (N:=N) (bs:=bs) (bm:=tl) (hdct:=hdct) (sn:=sn) (sub:=sub) (ab:=ab) (col:=col) (dd:=dd) (k0:=k0) (k1:=k1) (k2:=k2) (k3:=k3) (k5:=k5)
  FB (mN:=mN) (T.hasType FB.hasBase) (I.ok.hd hc) (by rw [he]; show (false || (backTo cpos (starEach es X.env)).any (·.1))=false; rw [hpl]; rfl) hni (Qv I hg hm ⟨rfl,?_⟩ hdb)
 have h0:=ha cpos pins s σ H _ I h
 rw [hx] at h0
 rw [he] at h0 ⊢
 refine Calls.evalArgs_plain (wpAny_mono h0 (λus s₂ zz30=>?_) λ_ _ z=>z.elim)
 obtain ⟨vs,H1,I1,r1,hl,q1⟩:=zz30
 have kb:=I1.bk
 refine ⟨rfl,?_,kb _ _ hC,hN.keeps kb,T.keeps kb,λh' ea hm'=>?_⟩
 ·rw [<- r1.length]
  exact Nat.le_of_lt (Z1 hl)
 obtain ⟨tt,h1,h2,h3⟩:=hm'.there
 have I2:Inv X pins σ H1 { s₂ with heap:=h' }:=I1.kept (t':=s₂.toks) hm'.keeps
 have fx:=I1.fxOk hex hm'.new
 exact ⟨ea,none,.ref C,.ref tt,σ,H1,rfl,I2,⟨_,_,h1,⟨rfl,rfl⟩,rfl,rfl⟩,⟨fx.nt,fx.nl,fx.nf,fx.n0,fx.nc,fx.np⟩,(λt z=>nomatch z),(λ_=>rfl),q1⟩
theorem Un.leave {fs:List Addr} {H₀ H:Hp} {h₀ h h':Heap} (u:Un fs [] H₀ H h₀ h) (hk:∀ b o,h₀.get? b=some o->b ∉ fs->h.get? b=some o->h'.get? b=some o)
  (hs:∀ b o,b∈fs->h.get? b=some o->∃ sl,h'.get? b=some { o with slots:=sl }) (ht:∀ b o,h₀.get? b=some o->∀ o',h.get? b=some o'->∃ o'',h'.get? b=some o''):Un fs [] H₀ H h₀ h' where
 keep:=λb o e n hb hx=>hk b o e hb (u.keep b o e n hb hx)
 slot:=λb o e n hb hx=>by
  obtain ⟨sl,e1⟩:=u.slot b o e n hb hx
  obtain ⟨sl',e2⟩:=hs b _ hb e1
  exact ⟨sl',e2⟩
 free:=u.free
 there:=λb o e hx=>by
  obtain ⟨o',e1⟩:=u.there b o e hx
  exact ht b o e o' e1
 tups:=u.tups
 frzs:=u.frzs
 tbls:=u.tbls
theorem Ga {X:Cx} {pins:List (Addr × Obj)} {σ:St} {H:Hp} {s:Shared} (I:Inv X pins σ H s) (as:List Addr) (hs:∀ b∈frs X.stack,b∈as):s.heap.FunFrames (PySem.W.hideAll s.heap as) X.stack:=by
 have all:∀ (l:List Env),(∀ b∈frs l,b∈as)->s.heap.FunFrames X.base l->s.heap.FunFrames (PySem.W.hideAll s.heap as) l:=by
  intro l
  induction l with
  | nil=>intro _ _; trivial
  | cons env r ih =>
   intro hs hl
   obtain ⟨hk,⟨L,o,hf,hn,ho,hd⟩,hr⟩:=hl
   have hL:L∈as:=hs L (by unfold frs; rw [List.filterMap_cons,hf]; exact List.mem_cons_self)
   exact ⟨hk,⟨L,o,hf,PySem.W.hideAll_none as hL,ho,hd⟩,ih (λb hb=>hs b (by unfold frs; rw [List.filterMap_cons,hf]; exact List.mem_cons_of_mem _ hb)) hr⟩
 exact all X.stack hs I.stack
theorem Inv.fnd {X:Cx} {pins:List (Addr × Obj)} {σ:St} {H:Hp} {s:Shared} (I:Inv X pins σ H s) {b:Addr} (hb:b∈frs X.stack) {o:Obj} (e:s.heap.get? b=some o):∀ vs,o.data≠.fields vs:=by
 obtain ⟨_,o',e',d⟩:=I.stack.mem hb
 rw [e] at e'; cases e'
 exact d
end
theorem FxOk.none {X:Cx} {pins:List (Addr × Obj)} {H:Hp} {b:Addr} (h:FxOk X pins H b):FxOk X [] H b:=⟨h.nt,h.nl,h.nf,h.n0,h.nc,λp hp=>h.np p (by rw [List.append_nil] at hp; exact List.mem_append_left _ hp)⟩
section
variable {P:Program} {w:World} {K:PySem.W.Frag} {mg:Str->Option Value} {base:Heap}
theorem Zh5 {N:List Str} {qual:Str} {scope:Scope} {f:Addr} {cd:Value} {A:Around} {outer:List Env} {s s':Shared} {H:Hp} {E:XK} {ev:Value}
  {fr:Bool} (h:XS fr (cxOf (CXr P w) P w K mg base N qual scope f cd A outer s H E).nox [] (λcls _ H'=>E cls none H') ev s'):(cxOf (CXr P w) P w K mg base N qual scope f cd A outer s H E).xe ev s':=by
 obtain ⟨e,T,cls,a0,σ',H',rfl,I,hx,fe,fT,_,q⟩:=h
 show wpAny (model P w) (A.deeper (envOfC qual scope s.heap.objs.size f cd)) (leaving (envOfC qual scope s.heap.objs.size f cd) (.ref e)) (λ_ s''=>CXr P w outer H s E (.ref e) s'') (λe' s''=>CXr P w outer H s E e' s'') s'
 have hst:(cxOf (CXr P w) P w K mg base N qual scope f cd A outer s H E).nox.stack=envOfC qual scope s.heap.objs.size f cd :: outer:=rfl
 have hfr:(A.deeper (envOfC qual scope s.heap.objs.size f cd)).frames=some (envOfC qual scope s.heap.objs.size f cd :: outer):=I.ok.frames
 have n0:∀ b,b∈e :: T.toList->s.heap.get? b=none:=λb hb=>by
  rcases List.mem_cons.mp hb with z | z
  ·rw [z]; exact fe.n0
  ·cases T with
   | none=>simp at z
   | some t =>
    have:b=t:=by simpa using z
    rw [this]; exact (fT t rfl).n0
 have nt:∀ b,b∈e :: T.toList->H' b=none:=λb hb=>by
  rcases List.mem_cons.mp hb with z | z
  ·rw [z]; exact fe.nt
  ·cases T with
   | none=>simp at z
   | some t =>
    have:b=t:=by simpa using z
    rw [this]; exact (fT t rfl).nt
 have hB:∀ b o,b ∉ e :: T.toList->b ∉ frs (envOfC qual scope s.heap.objs.size f cd :: outer)->s'.heap.get? b=some o->(PySem.W.hideAll s'.heap ((e :: T.toList) ++ frs (envOfC qual scope s.heap.objs.size f cd :: outer))).get? b=some o:=λb o h1 h2 e1 =>
  PySem.W.hideAll_get _ e1 λz=>(List.mem_append.mp z).elim h1 h2
 have hl:s'.heap.FunFrames (PySem.W.hideAll s'.heap ((e :: T.toList) ++ frs (envOfC qual scope s.heap.objs.size f cd :: outer))) (envOfC qual scope s.heap.objs.size f cd :: outer):=Ga I _ λb hb=>List.mem_append_right _ hb
 have hkb:(PySem.W.hideAll s'.heap ((e :: T.toList) ++ frs (envOfC qual scope s.heap.objs.size f cd :: outer))).StaysIn s'.heap:=λb o e1=>PySem.W.of_hideAll _ e1
 have hen:(PySem.W.hideAll s'.heap ((e :: T.toList) ++ frs (envOfC qual scope s.heap.objs.size f cd :: outer))).get? e=none:=PySem.W.hideAll_none _ (List.mem_append_left _ List.mem_cons_self)
 have fin:∀ h',Heap.LeftW (PySem.W.hideAll s'.heap ((e :: T.toList) ++ frs (envOfC qual scope s.heap.objs.size f cd :: outer))) (envOfC qual scope s.heap.objs.size f cd :: outer) e cls a0 s'.heap h'->CXr P w outer H s E (.ref e) { s' with heap:=h' }:=λh' ⟨k1,k2,k3,k4⟩=>by
  obtain ⟨oe,vs,T',oT,ts,x1,x2,x3,x4,x5,x6,x7,x8,x9⟩:=k3
  have notfr:∀ b o,b∈frs (envOfC qual scope s.heap.objs.size f cd :: outer)->s'.heap.get? b=some o->∃ sl,h'.get? b=some { o with slots:=sl }:=λb o hb e1=>k4 b o e1 (I.fnd hb e1)
  have kept:∀ b o,b ∉ e :: T.toList->b ∉ frs (envOfC qual scope s.heap.objs.size f cd :: outer)->s'.heap.get? b=some o->h'.get? b=some o:=λb o h1 h2 e1=>k1 b o (hB b o h1 h2 e1)
  have nL:∀ b o,s.heap.get? b=some o->b ∉ frs outer->b ∉ frs (envOfC qual scope s.heap.objs.size f cd :: outer):=λb o e1 h2 z=>by
   have z':b∈s.heap.objs.size :: frs outer:=z
   rcases List.mem_cons.mp z' with z1 | z1
   ·rw [z1] at e1; exact absurd (Heap.lt_size e1) (Nat.lt_irrefl _)
   ·exact h2 z1
  have nE:∀ b o,s.heap.get? b=some o->b ∉ e :: T.toList:=λb o e1 z=>by rw [n0 b z] at e1; cases e1
  have trk:∀ b u,H' b=some u->∀ o,s'.heap.get? b=some o->h'.get? b=some o:=λb u hu o e1=>by
   refine kept b o (λz=>by rw [nt b z] at hu; cases hu) (λz=>?_) e1
   rw [I.stkFree b z] at hu; cases hu
  have hT':s.heap.get? T'=none/\H' T'=none:=by
   by_cases hz:s'.heap.get? T'=none
   ·refine ⟨?_,I.untr hz⟩
    cases q':s.heap.get? T' with
    | none=>rfl
    | some o =>
     obtain ⟨o',e'⟩:=I.base.there T' o q' (by simp [cxOf])
     rw [hz] at e'; cases e'
   ·obtain ⟨o,ho⟩:=Option.ne_none_iff_exists'.mp hz
    by_cases h1:T'∈e :: T.toList
    ·exact ⟨n0 T' h1,nt T' h1⟩
    ·by_cases h2:T'∈frs (envOfC qual scope s.heap.objs.size f cd :: outer)
     ·exfalso
      obtain ⟨sl,e'⟩:=notfr T' o h2 ho
      rw [x7] at e'
      cases e'
      exact I.fnd h2 ho ts x8
     ·rw [hB T' o h1 h2 ho] at x5; cases x5
  refine ⟨e,T',cls,a0,H',rfl,I.os,I.bare,?_,λb u hu=>?_,fe.n0,hT'.1,fe.nt,hT'.2,⟨oe,vs,oT,ts,x1,x2,x3,x4,x6,x7,x8,x9⟩,q⟩
  ·refine Un.leave I.base (λb o e1 h1 e2=>kept b o (nE b o e1) (nL b o e1 h1) e2) (λb o hb e1=>notfr b o (List.mem_cons_of_mem _ hb) e1) λb o e1 o' e2=>?_
   by_cases h2:b∈frs outer
   ·obtain ⟨sl,e'⟩:=notfr b o' (List.mem_cons_of_mem _ h2) e2
    exact ⟨_,e'⟩
   ·exact ⟨o',kept b o' (nE b o e1) (nL b o e1 h2) e2⟩
  ·refine (I.hok b u hu).stay (λc v hc e1=>?_) (λ_ z=>z) λ_ _ z=>z
   rcases hc with z | z
   ·exact trk c u (by rw [z]; exact hu) v e1
   ·exact trk c _ z v e1
 cases T with
 | none =>
  obtain ⟨oe,vs,x1,x2,x3,x4⟩:=hx
  obtain ⟨x21,x22⟩:=x2
  subst x21
  exact wpAny_leaving_firstW hfr hl rfl x1 hkb hen x3 x4 x22 fin
 | some t =>
  obtain ⟨oe,vs,oT,ts,x1,x2,x3,x4,x5,x6,x7,x8⟩:=hx
  exact wpAny_leaving_nextW hfr hl rfl ⟨oe,vs,t,oT,ts,x1,x2,x3,x4,PySem.W.hideAll_none _ (List.mem_append_left _ (by simp)),x5,x6,x7,x8⟩ hkb hen fin
theorem Fun.okX {x qual:Str} {st:Stmt} {f:Addr} {fd:FuncData} {N ps:List Str} {k:Nat} {sp:Sp} (F:Fun K x qual st f fd) (S:FnScope N ps (Zi st)) (len:∀ vs H Q E,sp vs H Q E->vs.length=ps.length)
  (hbody:∀ (cdv:Value) (A:Around) (outer:List Env) (s:Shared) (H:Hp) (vs:List V) (Q:VK) (E:XK),Room k (A.deeper (envOfC qual (Zi st) s.heap.objs.size f cdv))->sp vs H Q E ->
   ∃ t,PSsX true (cxOf (CXr P w) P w K mg base N qual (Zi st) f cdv A outer s H E).nox (Yk st) t/\t { nx:=λ_ H'=>Q .non H',rt:=Q } (λcls _ H'=>E cls none H') (start N vs) H):FnOk P w K mg base (CXr P w) (k + 1) f fd ps sp:=by
 obtain ⟨oc,od,kV,doc,pm,an,cdv,ct,osl,rfl,lk,hcd⟩:=F.ex
 refine Zi0 lk hcd S len λA outer s H vs Q E hr hsp=>?_
 obtain ⟨t,h,q⟩:=hbody cdv A outer s H vs Q E hr hsp
 refine ⟨λD σ H'=>t D (λcls _ H''=>E cls none H'') σ H',λpins s' σ' H' D I hD=>?_,q⟩
 refine wpAny_mono (h pins s' σ' H' D _ (I.wish _) hD) (λ_ _ z=>z.unwish) λev s'' z=>Zh5 (fr:=true) ?_
 obtain ⟨e,T,cls,a0,σ2,H2,h1,h2,h3,h4,h5,h7,h6⟩:=z
 exact ⟨e,T,cls,a0,σ2,H2,h1,h2.pins_of (λp hp=>absurd hp (by simp)),h3,h4.none,λt ht=>(h5 t ht).none,h7,h6⟩
end
section
variable {X:Cx} {pins:List (Addr × Obj)} {σ:St} {H:Hp} {s:Shared} {A:Around} {E:Value->Shared->Prop} {a:Addr}
theorem Zl3 {kvs:List (Key × V)} {k:Key} {d:V} {u r:Value} {Q:Value->Shared->Prop} (I:Inv X pins σ H s) (e:H a=some (.dK kvs)) (hl:kvs.length < sizeLine) (ry:RelV (kV k) u) (rd:RelV d r)
  (h1:∀ v w' s',valV kvs k=some v->Inv X pins σ H s'->RelV v w'->Q w' s') (h2:valV kvs k=none->∀ s',Inv X pins σ (upd H a (.dK (putK kvs k d))) s'->Q r s') :
  wpAny (model X.prog X.w) A (call (.builtin "dict.setdefault") [.ref a,u,r]) Q E s:=by
 obtain ⟨z,hd,vs,rel,dd⟩:=Zi1 I.hok e
 have hz:vs.length<=sizeLine:=by rw [<- rel.length]; exact z
 refine call_meetsIn PySem.F.slot_dict_setdefault dd.typeIs PySem.F.entry_dict_setdefault (PySem.F.args_dict_setdefault_3 _ _ _) (kt_meets_setdefault (Z3 X.prog X.w) a (Kb ry) hd r) ⟨vs,dd,hz,λv hv=>?_,λhv h' dd' hs=>?_⟩
 ·have rel':=rel.val k
  rw [hv] at rel'
  cases q:valV kvs k with
  | none=>rw [q] at rel'; exact rel'.elim
  | some y=>rw [q] at rel'; exact h1 y v _ q (I.tok _) rel'
 ·have rel':=rel.val k
  rw [hv] at rel'
  cases q:valV kvs k with
  | some y=>rw [q] at rel'; exact rel'.elim
  | none =>
   have he:∃ q,h'.get? a=some q:=let ⟨q,_,_,hq,_⟩:=dd'; ⟨q,hq⟩
   have hl2:(putK kvs k d).length<=sizeLine:=by have:=Ql kvs k d; lia
   exact h2 q _ (Gb I (by rw [e]; exact True.intro) hs he (V2 hl2 hd (rel.put k rd) dd'))
end
noncomputable def Zkz (td ty tx:TE):TE:=λσ H Q=>td σ H λx H1=>∃ a,x=.ref a/\IsD H1 a/\ty σ H1 λy H2=>tx σ H2 λz H3=>∃ kvs k,H3 a=some (.dK kvs)/\kvs.length < sizeLine/\y=kV k /\
 (∀ v,valV kvs k=some v->Q v H3)/\(valV kvs k=none->Q z (upd H3 a (.dK (putK kvs k z))))
section
variable {X:Cx} {o e f:Expr} {apos cpos:Pos} {td ty tx:TE}
theorem Zhs (ho:PE X o td) (he:PE X e ty) (hf:PE X f tx) (m:M2 X o "setdefault" apos e f cpos):PE X (.Call (.Attribute o "setdefault" apos) [e,f] [] cpos) (Zkz td ty tx):=by
 intro pins s σ H Q I h
 refine wpAny_Call_method m.base m.few m.line PySem.F.plainAttrs_dict PySem.F.slot_dict_setdefault PySem.F.type_dict_setdefault (thn (ho pins s σ H _ I h) λu s1 zz9=>?_)
 obtain ⟨x,H1,I1,rx,a,ex,d,q1⟩:=zz9
 subst ex
 obtain rfl:u=Value.ref a:=rx
 obtain ⟨t1,t2,_⟩:=Kf I1 d
 refine ⟨t1,t2,?_⟩
 rw [m.trees]
 refine Calls.callWith_builtin rfl (Calls.evalArgs_plain (Calls.spliced_cons (thn (he pins s1 σ H1 _ I1 q1) λiv s2 ⟨y,H2,I2,ry,q2⟩ =>
  Calls.spliced_cons (thn (hf pins s2 σ H2 _ I2 q2) λfv s3 ⟨z,H3,I3,rz,kvs,k,hk,hl,ey,q3,q4⟩=>Calls.spliced_nil ?_))))
 subst ey
 exact Zl3 I3 hk hl ry rz (λv w' s' hv I' rw'=>⟨v,H3,I',rw',q3 v hv⟩) λhv s' I'=>⟨z,_,I',rz,q4 hv⟩
theorem Zbh {P:Program} {w:World} {kvs:List (Key × V)} {vs:List (Key × Value)} {ks:List Int} (rel:KV kvs vs) (hk:kvs.map (·.1)=ks.map Sum.inl) {us:List Value} (hl:us.length=vs.length)
  (hu:∀ (j:Nat) (v:Value),us[j]?=some v->∃ k x,vs[j]?=some (k,x)/\(Z3 P w).is k v=true):IntsAre us ks:=by
 have hkl:kvs.length=ks.length:=by have:=congrArg List.length hk; simpa using this
 have hvl:kvs.length=vs.length:=rel.length
 have key:∀ (j:Nat) (v:Value),us[j]?=some v->∃ i t,ks[j]?=some i/\v=Value.int i t:=λj v hv=>by
  obtain ⟨k,x,hx,hi⟩:=hu j v hv
  have e1:(vs.map (·.1))[j]?=some k:=by rw [Ah,hx]; rfl
  have e2:vs.map (·.1)=kvs.map (·.1):=by
   clear hk hl hu hkl hvl hx hi e1
   induction rel with
   | nil=>rfl
   | cons r t ih=>rw [List.map_cons,List.map_cons,ih,r.1]
  rw [e2,hk,Ah] at e1
  cases q:ks[j]? with
  | none=>rw [q] at e1; cases e1
  | some i =>
   rw [q] at e1
   have e3:Sum.inl i=k:=Option.some.inj e1
   subst e3
   obtain ⟨t,ht⟩:=Value.isInt_shape (k:=i) (v:=v) hi
   exact ⟨i,t,rfl,ht⟩
 have gen:∀ (us:List Value) (ks:List Int),us.length=ks.length->(∀ (j:Nat) (v:Value),us[j]?=some v->∃ i t,ks[j]?=some i/\v=Value.int i t)->IntsAre us ks:=by
  intro us
  induction us with
  | nil =>
   intro ks hl _
   cases ks with
   | nil=>exact .nil
   | cons _ _=>simp at hl
  | cons u r ih =>
   intro ks hl h
   cases ks with
   | nil=>simp at hl
   | cons i ks =>
    obtain ⟨i',t,e1,e2⟩:=h 0 u rfl
    have e1':i=i':=by simpa using e1
    subst e1' e2
    exact .cons i t (ih ks (by simpa using hl) λj v hv=>h (j + 1) v (by simpa using hv))
 exact gen us ks (by lia) key
theorem V3 (hc:X.calm=true):Y1 X (.builtin "sorted") (λxs H Q=>∃ (d:Addr) (kvs:List (Key × V)) (ks:List Int),xs=[.ref d]/\Rd H d (.dK kvs)/\kvs.map (·.1)=ks.map Sum.inl/\ks.length < 64 /\
  ∀ (p:Addr) (out:List Int),H p=none->out.Perm ks->out.Pairwise (·<=·)->Q (.ref p) (upd H p (.lst (out.map V.int)))):=by
 intro pins s σ H xs us Q I r h
 obtain ⟨d,kvs,ks,rfl,hd,hk,h64,q⟩:=h
 obtain ⟨u,rfl,ru⟩:=Xw r
 obtain rfl:u=Value.ref d:=ru
 obtain ⟨z,hsys,vs,rel,dd⟩:=J6 I.hok hd
 obtain ⟨ep,hat⟩:=dd.dictAt
 have hlen:vs.length=ks.length:=by have:=congrArg List.length hk; rw [Ab,Ab] at this; have:=rel.length; lia
 have hn:vs.length<=sizeLine:=by rw [sizeLine_eq]; lia
 refine Calls.call_function_entry kind_sorted plain_sorted entry_sorted (args_sorted1 _) ?_
 unfold Builtin.«sorted»
 refine Al (m:=checkCount "sorted" 1 1 _) (wpAny_pure ?_)
 refine Al (PySem.W.kdu_collect (A:=X.A.in1) (PySem.W.kdl_dict (knd:=Z3 X.prog X.w) (kvs:=vs) (ep:=ep) hsys) (I.ok.hd hc) hat hn λh' tk acc hk' hacc=>?_)
 have hl:acc.toList.length=vs.length:=by rw [Array.length_toList]; exact hacc.1
 have hI:IntsAre acc.toList ks:=Zbh (P:=X.prog) (w:=X.w) rel hk hl λj v hv=>hacc.2 j v (by rw [<- Array.getElem?_toList]; exact hv)
 refine Al (wpAny_newList ?_ (by rw [hl]; exact hn))
 have I1:Inv X pins σ H { s with heap:=h',toks:=tk }:=I.kept hk'
 have hoL:(h'.push { cls:=.type "list",data:=.seq acc.toList.toArray }).get? h'.objs.size=some (seqObj "list" acc.toList.toArray 0):=Heap.get?_push_size _ rfl
 refine Al (wpAny_holding (wpAny_call_entry slot_list_sort ⟨_,hoL,rfl⟩ entry_list_sort (list_sort_tree hoL hI (by lia) λout ns' a1 a2 a3=>⟨_,rfl,?_⟩) (args_list_sort _)))
 refine wpAny_pure ⟨_,rfl,?_⟩
 obtain ⟨e,he⟩:=sortedHeap_at (out:=out) hoL
 have kp:∀ b u,h'.get? b=some u->(sortedHeap (h'.push { cls:=.type "list",data:=.seq acc.toList.toArray }) h'.objs.size acc.toList out).get? b=some u:=λb u hb=>by
  have hlt:b < h'.objs.size:=Heap.lt_size hb
  rw [sortedHeap_old (Nat.ne_of_lt hlt) (by rw [Heap.size_push]; exact Nat.lt_succ_of_lt hlt)]
  exact Ak _ hb
 have hv:Vals (ns'.map V.int) out.toList:=by
  clear he kp
  generalize out.toList=l at a1
  clear a2 a3
  induction a1 with
  | nil=>exact .nil
  | cons i t _ ih=>exact .cons ⟨_,rfl⟩ ih
 refine ⟨.ref h'.objs.size,upd H h'.objs.size (.lst (ns'.map V.int)),I1.laid kp (Nat.le_refl _) ?_,rfl,q _ ns' I1.fresh a2 a3⟩
 refine ⟨?_,out.toList,e,hv,?_⟩
 ·rw [Ab,a2.length_eq,sizeLine_eq]; lia
 ·rw [he]
end
section
variable {X:Cx} {pins:List (Addr × Obj)} {σ:St} {H:Hp} {s:Shared} {a:Addr}
theorem Inv.freeze {u:HO} {ob:Obj} (I:Inv X pins σ H s) (e:H a=some u) (mu:Mut (some u)) (ho:s.heap.get? a=some ob):Inv X pins σ (upd H a (.frz ob u)) s:=by
 have nown:∀ c y,H c=some (.own y)->c≠a:=λc y r z=>by subst z; rw [r] at e; cases e; exact mu
 have ntup:∀ c xs,H c=some (.tup xs)->c≠a:=λc xs r z=>by subst z; rw [r] at e; cases e; exact mu
 have nfrz:∀ c o xs,H c=some (.frz o xs)->c≠a:=λc o xs r z=>by subst z; rw [r] at e; cases e; exact mu
 have ntbl:∀ c ps,H c=some (.tbl ps)->c≠a:=λc ps r z=>by subst z; rw [r] at e; cases e; exact mu
 have un:Un X.fs [] H (upd H a (.frz ob u)) s.heap s.heap:=⟨λ_ _ q _ _ _=>q,λ_ o q _ _ _=>⟨o.slots,q⟩,λb o q n _=>by rw [Ze (λz=>by rw [z,e] at n; cases n)]; exact n,λb o q _=>⟨o,q⟩,
  λb xs q=>by rw [Ze (ntup b xs q)]; exact q,λb o xs q=>by rw [Ze (nfrz b o xs q)]; exact q,λb ps q=>⟨#[],by rw [Ze (ntbl b ps q),q]; simp⟩⟩
 have hok:HOk X.prog X.w (upd H a (.frz ob u)) s.heap:=λb v q=>by
  have st:∀ c w',Zy X.prog X.w H s.heap c w'->Zy X.prog X.w (upd H a (.frz ob u)) s.heap c w':=λc w' x=>x.stay (λ_ _ _ q=>q) (λd r=>by rw [Ze (nown d c r)]; exact r) λd xs r=>by rw [Ze (ntup d xs r)]; exact r
  by_cases hb:b=a
  ·subst hb
   rw [Zc] at q
   cases q
   exact ⟨ho,st _ _ (I.hok _ _ e)⟩
  ·rw [Ze hb] at q
   exact st _ _ (I.hok b v q)
 exact I.un (h':=s.heap) (t':=s.toks) un hok
end
section
theorem KV.at {kvs:List (Key × V)} {vs:List (Key × Value)} (r:KV kvs vs):∀ {i:Nat} {k:Key} {v:V},kvs[i]?=some (k,v)->∃ u,vs[i]?=some (k,u)/\RelV v u:=by
 induction r with
 | nil=>intro i k v h; simp at h
 | cons r t ih =>
  intro i k v h
  cases i with
  | zero =>
   simp at h
   subst h
   exact ⟨_,by rw [List.getElem?_cons_zero]; exact congrArg some (Prod.ext r.1.symm rfl),r.2⟩
  | succ i =>
   obtain ⟨u,h1,h2⟩:=ih (by simpa using h)
   exact ⟨u,by simpa using h1,h2⟩
theorem Zms {P:Program} {w:World} {k:Key} {u:Value} (h:(Z3 P w).is k u=true):RelV (kV k) u:=by
 cases k with
 | inl i=>obtain ⟨t,e⟩:=Value.isInt_shape (k:=i) (v:=u) h; exact ⟨t,e⟩
 | inr x=>obtain ⟨t,e⟩:=Value.isStrOf_shape (x:=x) (v:=u) h; exact ⟨t,e⟩
theorem Jl {X:Cx} {pins:List (Addr × Obj)} {σ:St} {H:Hp} {s:Shared} {d:Addr} {o:Obj} {kvs:List (Key × V)} (I:Inv X pins σ H s) (e:H d=some (.frz o (.dK kvs))) :
  ∃ vs ep,KV kvs vs/\s.heap.DictAt (Z3 X.prog X.w) d vs ep/\s.heap.get? d=some o:=by
 obtain ⟨ho,_,_,vs,rel,dd⟩:=I.hok d _ e
 obtain ⟨ep,da⟩:=dd.dictAt
 exact ⟨vs,ep,rel,da,ho⟩
noncomputable def epOf (o:Obj):Nat:=match o.data with
 | .dict _ ep=>ep
 | _=>0
theorem Ui {P:Program} {w:World} {h:Heap} {d:Addr} {o:Obj} {vs:List (Key × Value)} {ep:Nat} (da:h.DictAt (Z3 P w) d vs ep) (ho:h.get? d=some o):ep=epOf o:=by
 obtain ⟨o',es,h1,_,h2,_⟩:=da
 rw [ho] at h1
 cases h1
 unfold epOf
 rw [h2]
theorem Ze3 {P:Program} {w:World} {K:PySem.W.Frag} {tg:Expr} (d it:Addr) (kvs:List (Key × V)) (o:Obj) :
  Turn P w K tg ⟨λi H=>i < kvs.length/\H d=some (.frz o (.dK kvs)),λi H x H'=>H'=H/\∃ k,kvs[i]?=some (k,x),λi H=>kvs.length<=i/\H d=some (.frz o (.dK kvs))⟩ [it] it (λi h=>h.IsValIter it d i kvs.length (epOf o)) where
 mem:=by simp
 obj:=λi h st b hb=>by
  have e:b=it:=by simpa using hb
  subst e
  obtain ⟨o,e,c,d⟩:=st
  exact ⟨o,e,λv z=>by rw [d] at z; cases z⟩
 keep:=λi h h' st k=>st.at λo e=>k it (by simp) o e
 item:=by
  intro X hP hw hK hc i pins s σ H E I hf st hg
  subst hP hw hK
  obtain ⟨hi,hq⟩:=hg
  obtain ⟨vs,ep,rel,da,ho⟩:=Jl I hq
  have hep:=Ui da ho
  subst hep
  obtain ⟨f0,f1,f2,f3,f4,f5⟩:=hf it (by simp)
  obtain ⟨⟨k,v⟩,hx⟩:∃ p,kvs[i]?=some p:=⟨_,Ac hi⟩
  obtain ⟨u,hu,ru⟩:=rel.at hx
  have hlen:vs.length=kvs.length:=rel.length.symm
  rw [<- hlen] at st
  refine wpAny_pyNext_values_item st da hu λh' st' sb=>?_
  have I1:Inv X pins σ H { s with heap:=h' }:=I.turned (t':=s.toks) (λb o hb e=>(sb.2 b hb).trans e) f0 f1 f3 f4 f5
  rw [hlen] at st'
  obtain ⟨oi,e,c,dd⟩:=id st'
  exact ⟨u,rfl,Uh (s:={ s with heap:=h' }) e c dd (by decide) ⟨v,H,I1,ru,⟨rfl,k,hx⟩,st',λb hb=>(hf b hb).1⟩⟩
 done:=by
  intro X hP hw hK hc i pins s σ H E I hf st hg
  subst hP hw hK
  obtain ⟨hi,hq⟩:=hg
  obtain ⟨vs,ep,rel,da,ho⟩:=Jl I hq
  have hep:=Ui da ho
  subst hep
  obtain ⟨f0,f1,f2,f3,f4,f5⟩:=hf it (by simp)
  have hlen:vs.length=kvs.length:=rel.length.symm
  rw [<- hlen] at st
  exact wpAny_pyNext_values_end (I.ok.hd hc) st da (by rw [List.getElem?_eq_none]; lia) λh' eb=>⟨rfl,I.turned (t':=s.toks) (λb o hb e=>eb b o hb e) f0 f1 f3 f4 f5⟩
 self:=λ_ _ _ _ _ st h=>wpAny_pyIter_valiter st h
end
section
variable {X:Cx} {tg:Expr} {l:Expr} {tl:TE}
noncomputable def Itv2 (d:Addr) (kvs:List (Key × V)) (o:Obj):It:=⟨λi H=>i < kvs.length/\H d=some (.frz o (.dK kvs)),λi H x H'=>H'=H/\∃ k,kvs[i]?=some (k,x),λi H=>kvs.length<=i/\H d=some (.frz o (.dK kvs))⟩
noncomputable def Ziy (J:Addr->List (Key × V)->Obj->It) (tl:TE):TI:=λσ H R=>tl σ H λx H1=>∃ a kvs,x=.ref a/\((H1 a=some (.dK kvs)/\∀ o,R (J a kvs o) (upd H1 a (.frz o (.dK kvs))))\/∃ o,H1 a=some (.frz o (.dK kvs))/\R (J a kvs o) H1)
theorem Zbm {pins:List (Addr × Obj)} {σ:St} {H:Hp} {s:Shared} {a:Addr} {kvs:List (Key × V)} {R:Obj->Hp->Prop} (I:Inv X pins σ H s)
  (h:(H a=some (.dK kvs)/\∀ o,R o (upd H a (.frz o (.dK kvs))))\/∃ o,H a=some (.frz o (.dK kvs))/\R o H):∃ o H',H' a=some (.frz o (.dK kvs))/\Inv X pins σ H' s/\R o H':=by
 rcases h with ⟨e,r⟩ | ⟨o,e,r⟩
 ·obtain ⟨ob,ho⟩:=(I.hok a _ e).there
  exact ⟨ob,_,Zc,I.freeze e True.intro ho,r ob⟩
 ·exact ⟨o,H,e,I,r⟩
structure M0 (X:Cx) (o:Expr) (m:Str) (apos cpos:Pos):Prop where
 base:attributeBase o m X.env (eval o X.env)=eval o X.env
 few:((backTo cpos (starEach [] X.env)).all (λx=>!x.1) && (backToKw cpos (keywordEach [] X.env)).all (λx=>x.1.isSome)
  && decide (([]:List Expr).length + ([]:List Keyword).length + (if ([]:List Keyword).isEmpty then 0 else 1) < 30))=true
 line:(apos.endLine == cpos.line)=true
theorem Zjv {apos cpos:Pos} (hl:PE X l tl) (m:M0 X l "values" apos cpos):PI X tg (.Call (.Attribute l "values" apos) [] [] cpos) (Ziy Itv2 tl):=by
 intro pins s σ H R I h
 refine wpAny_Call_method m.base m.few m.line PySem.F.plainAttrs_dict PySem.F.slot_dict_values PySem.F.type_dict_values (thn (hl pins s σ H _ I h) λv s1 zz9=>?_)
 obtain ⟨x,H1,I1,r1,q1⟩:=zz9
 obtain ⟨a,kvs,e,q⟩:=q1
 subst e
 cases r1
 obtain ⟨o,H2,e2,I2,q2⟩:=Zbm (R:=λo H=>R (Itv2 a kvs o) H) I1 q
 obtain ⟨vs,ep,rel,da,ho⟩:=Jl I2 e2
 have hep:=Ui da ho
 subst hep
 obtain ⟨_,_,hsys,_⟩:=I2.hok a _ e2
 have isd:IsD H2 a:=.inl ⟨kvs,.inr ⟨o,e2⟩⟩
 obtain ⟨t1,t2,_⟩:=Kf I2 isd
 refine ⟨t1,t2,?_⟩
 refine Calls.callWith_builtin rfl (PyProof.Rows.evalArgs_empty ?_)
 refine call_meetsIn PySem.F.slot_dict_values da.dictOf.typeIs PySem.F.entry_dict_values (PySem.F.args_dict_values_1 _) (meets_dict_values (Z3 X.prog X.w) a hsys) ⟨⟨vs,da.dictOf⟩,?_⟩
 have I3:Inv X pins σ H2 { s1 with heap:=s1.heap.push { cls:=.type "dict_values",data:=.fields #[.ref a] } }:=I2.kept (t':=s1.toks) λb o e=>Ak _ e
 refine wpAny_pyIter_values ⟨_,Heap.get?_push_size _ rfl,rfl,rfl⟩ (da.push _) ?_
 have hlen:vs.length=kvs.length:=rel.length.symm
 rw [hlen]
 refine ⟨(s1.heap.push { cls:=.type "dict_values",data:=.fields #[.ref a] }).objs.size,[(s1.heap.push { cls:=.type "dict_values",data:=.fields #[.ref a] }).objs.size],_,_,H2,rfl,I3.kept (t':=s1.toks) λb o e=>Ak _ e,Ze3 a _ kvs o,⟨_,Heap.get?_push_size _ rfl,rfl,rfl⟩,λb hb=>?_,q2⟩
 have e:b=(s1.heap.push { cls:=.type "dict_values",data:=.fields #[.ref a] }).objs.size:=by simpa using hb
 subst e
 exact I3.fpOk (Nat.le_refl _) (I3.hok.fresh (Nat.le_refl _))
end
section
noncomputable def Ite (K:PySem.W.Frag) (a:Addr):It :=
 ⟨λi H=>∃ xs x,SqL K H a xs/\xs[i]?=some x,λi H x H'=>∃ q y,H q=none/\x=.ref q/\(∀ xs,SqL K H a xs->xs[i]?=some y)/\H'=upd H q (.tup [.int i,y]),λi H=>∃ xs,SqL K H a xs/\xs.length<=i⟩
theorem Ze5 {P:Program} {w:World} {K:PySem.W.Frag} {elts:List Expr} {x1:Nat} {pos:Pos} (a e it:Addr) (hne:e≠it):Turn P w K (.Tuple elts x1 pos) (Ite K a) [e,it] e (λi h=>(∃ old,IsEnum h e it i old)/\h.IsListIter it a i) where
 mem:=by simp
 obj:=λi h st b hb=>by
  obtain ⟨⟨old,h1⟩,o,h2,c,d⟩:=st
  rcases List.mem_cons.mp hb with z | z
  ·subst z
   exact ⟨_,h1,λv z=>by
    have z':Data.fields _=Data.cell v:=z
    cases z'⟩
  ·have z:b=it:=by simpa using z
   subst z
   exact ⟨o,h2,λv z=>by rw [d] at z; cases z⟩
 keep:=λi h h' st k=>⟨let ⟨old,h1⟩:=st.1; ⟨old,k e (by simp) _ h1⟩,st.2.at λo q=>k it (by simp) o q⟩
 item:=by
  intro X hP hw hK hc i pins s σ H E I hf st hg
  subst hP hw hK
  obtain ⟨xs,x,hq,hx⟩:=hg
  obtain ⟨its,rv,p,hz⟩:=I.list hq
  obtain ⟨u,hu,ru⟩:=rv.get hx
  obtain ⟨f0,f1,f2,f3,f4,f5⟩:=hf e (by simp)
  obtain ⟨g0,g1,g2,g3,g4,g5⟩:=hf it (by simp)
  obtain ⟨⟨old,he⟩,hit⟩:=st
  refine wpAny_pyNext_enum_item he hit p.isList (x:=u) (by simpa using hu) hne λh' ho' hit' ht' hsz' kk=>?_
  have eo:=Heap.lt_size he
  have io:it < s.heap.objs.size:=let ⟨o,q,_⟩:=hit; Heap.lt_size q
  refine ⟨.ref s.heap.objs.size,rfl,wpAny_letOwnedTupleGo_enum ho' λh'' he'' sb=>?_⟩
  have keepb:∀ b o,b≠e->b≠it->s.heap.get? b=some o->h''.get? b=some o:=λb o h1 h2 q=>(sb.2 b h1).trans (kk b o h1 h2 q)
  have ht'':h''.get? s.heap.objs.size=some { cls:=.type "tuple",data:=.seq #[.int i s.toks,u] }:=(sb.2 _ (Nat.ne_of_gt eo)).trans ht'
  have hn:H s.heap.objs.size=none:=I.hok.fresh (Nat.le_refl _)
  have I2:Inv X pins σ (upd H s.heap.objs.size (.tup [.int i,x])) { s with heap:=h'',toks:=s.toks + 1 }:=by
   refine I.step (g':=s.gens) (d':=s.drawn) (ch:=[e,it]) (λb hb=>?_) (λb o _ _ hc q _=>keepb b o (λz=>hc (by simp [z])) (λz=>hc (by simp [z])) q) (λb o _ _ hc q _=>⟨o.slots,keepb b o (λz=>hc (by simp [z])) (λz=>hc (by simp [z])) q⟩) (λb o _ q n=>by rw [Ze (Nat.ne_of_lt (Heap.lt_size q))]; exact n)
    (λb o hc q=>⟨o,keepb b o (λz=>hc (by simp [z])) (λz=>hc (by simp [z])) q⟩) (λb ys q=>by rw [Ze (Zm q hn)]; exact q) (λb o ys q=>by rw [Ze (Zm q hn)]; exact q) (λb ps q=>⟨#[],by rw [Ze (Zm q hn),q]; simp⟩) (λm hm=>?_) (λb v q=>?_) I.bare
   ·rcases List.mem_cons.mp hb with z | z
    ·subst z; exact ⟨f3,f1,f4,f5⟩
    ·have z:b=it:=by simpa using z
     subst z; exact ⟨g3,g1,g4,g5⟩
   ·obtain ⟨o,es,ep,ho,r⟩:=hm
    exact ⟨o,es,ep,keepb _ o (Ne.symm f1) (Ne.symm g1) ho,r⟩
   ·by_cases hb:b=s.heap.objs.size
    ·subst hb
     rw [Zc] at q
     cases q
     exact ⟨by show 2<=sizeLine; decide,[.int i s.toks,u],.cons ⟨_,rfl⟩ (.cons ru .nil),⟨_,ht'',rfl,_,rfl⟩⟩
    ·rw [Ze hb] at q
     refine (I.hok b v q).stay (λc w' hc z=>keepb c w' ?_ ?_ z) (λd z=>by rw [Ze (Zm z hn)]; exact z) λd ys z=>by rw [Ze (Zm z hn)]; exact z
     ·rintro rfl
      rcases hc with z | z
      ·rw [z,q] at f0; cases f0
      ·rw [f0] at z; cases z
     ·rintro rfl
      rcases hc with z | z
      ·rw [z,q] at g0; cases g0
      ·rw [g0] at z; cases z
  refine ⟨.ref s.heap.objs.size,_,I2,rfl,⟨_,x,hn,rfl,λys hy=>by rw [I.list_inj hy hq]; exact hx,rfl⟩,⟨⟨u,he''⟩,hit'.at λo q=>(sb.2 it (Ne.symm hne)).trans q⟩,λb hb=>?_⟩
  rcases List.mem_cons.mp hb with z | z
  ·subst z; rw [Ze (Nat.ne_of_lt eo)]; exact f0
  ·have z:b=it:=by simpa using z
   subst z; rw [Ze (Nat.ne_of_lt io)]; exact g0
 done:=by
  intro X hP hw hK hc i pins s σ H E I hf st hg
  subst hP hw hK
  obtain ⟨xs,hq,hx⟩:=hg
  obtain ⟨its,rv,p,hz⟩:=I.list hq
  obtain ⟨g0,g1,g2,g3,g4,g5⟩:=hf it (by simp)
  obtain ⟨⟨old,he⟩,hit⟩:=st
  have hl:=rv.length
  exact wpAny_pyNext_enum_end (I.ok.hd hc) he hit p.isList (by simp; lia) λh' eb=>⟨rfl,I.turned (t':=s.toks) (λb o hb e=>eb b o hb e) g0 g1 g3 g4 g5⟩
 self:=λ_ _ _ _ _ st h=>by
  obtain ⟨⟨old,he⟩,_⟩:=st
  exact wpAny_pyIter_enum he h
variable {X:Cx}
noncomputable def Zmx (K:PySem.W.Frag) (ta:TA):TI:=λσ H R=>ta σ H λvs H1=>∃ a,vs=[.ref a]/\(∃ xs,SqL K H1 a xs)/\R (Ite K a) H1
theorem Zjx {elts:List Expr} {x1:Nat} {tpos p pos:Pos} {l:Expr} {ta:TA} (hg:Gl X "enumerate") (hm:X.mg "enumerate"=none) (ha:PA X [l] ta) (hs:starEach [l] X.env=[(false,eval l X.env)]:=by rfl):PI X (.Tuple elts x1 tpos) (.Call (.Name "enumerate" p) [l] [] pos) (Zmx X.K ta):=by
 intro pins s σ H R I h
 refine Call_ (Xe I hg hm boot_enumerate (PyProof.Rows.callWith_type1 (thn (ha pos pins s σ H _ I h) λus s1 zz31=>?_) hs rfl))
 obtain ⟨vs,H1,I1,r1,q1⟩:=zz31
 obtain ⟨a,e,⟨xs,hq⟩,q⟩:=q1
 subst e
 obtain ⟨u,rfl,ru⟩:=Xw r1
 cases ru
 obtain ⟨its,rv,pl,hz⟩:=I1.list hq
 refine call_enumerate_list pl.isList λh' he hit hsz hk=>wpAny_pyIter_enum he ?_
 have I2:Inv X pins σ H1 { s1 with heap:=h' }:=I1.kept (t':=s1.toks) hk
 refine ⟨s1.heap.objs.size + 1,[s1.heap.objs.size + 1,s1.heap.objs.size],_,_,H1,rfl,I2,Ze5 a _ _ (Nat.succ_ne_self _),⟨⟨.none,he⟩,hit⟩,λb hb=>?_,q⟩
 rcases List.mem_cons.mp hb with z | z
 ·subst z; exact I1.fpOk (Nat.le_succ _) (I1.hok.fresh (Nat.le_succ _))
 ·have z:b=s1.heap.objs.size:=by simpa using z
  subst z; exact I1.fpOk (Nat.le_refl _) (I1.hok.fresh (Nat.le_refl _))
theorem Zic {K:PySem.W.Frag} {a:Addr} {xs:List V} {g:TG} {tb:TS} {D:Ends} {σ:St} {H:Hp} (Pv:Nat->St->Hp->Prop) (h0:Pv 0 σ H) (hl:∀ i σ H,i<=xs.length->Pv i σ H->SqL K H a xs)
  (hs:∀ i x σ H q,xs[i]?=some x->H q=none->Pv i σ H->g (.ref q) σ (upd H q (.tup [.int i,x])) λσ2 H2=>tb { D with nx:=Pv (i + 1),ct:=Pv (i + 1),bk:=D.nx } σ2 H2) (hd:∀ σ H,Pv xs.length σ H->D.nx σ H) :
  ∃ W:Nat->Nat->St->Hp->Prop,(∃ m,W 0 m σ H)/\∀ i m σ H,W i m σ H ->
   ((Ite K a).stop i H/\D.nx σ H)\/((Ite K a).go i H/\∃ N:St->Hp->Prop,(∀ σ' H',N σ' H'->∃ m',m' < m/\W (i + 1) m' σ' H')/\∀ x H',(Ite K a).yld i H x H'->g x σ H' λσ2 H2=>tb { D with nx:=N,ct:=N,bk:=D.nx } σ2 H2):=by
 refine ⟨λi m σ H=>m=xs.length - i/\i<=xs.length/\Pv i σ H,⟨xs.length,by simp,Nat.zero_le _,h0⟩,?_⟩
 rintro i m σ H ⟨rfl,hi,p⟩
 have q:=hl i σ H hi p
 by_cases hlt:i < xs.length
 ·refine .inr ⟨⟨xs,xs[i],q,by simp [hlt]⟩,Pv (i + 1),λσ' H' p'=>⟨xs.length - (i + 1),by lia,rfl,hlt,p'⟩,λx H' y=>?_⟩
  obtain ⟨c,z,hn,e1,e2,e3⟩:=y
  subst e1 e3
  exact hs i z σ H c (e2 xs q) hn p
 ·have e:i=xs.length:=by lia
  subst e
  exact .inl ⟨⟨xs,q,Nat.le_refl _⟩,hd σ H p⟩
theorem Zib {d:Addr} {kvs:List (Key × V)} {o:Obj} {g:TG} {tb:TS} {D:Ends} {σ:St} {H:Hp} (Pv:Nat->St->Hp->Prop) (h0:Pv 0 σ H) (hl:∀ i σ H,i<=kvs.length->Pv i σ H->H d=some (.frz o (.dK kvs)))
  (hs:∀ i k x σ H,kvs[i]?=some (k,x)->Pv i σ H->g x σ H λσ2 H2=>tb { D with nx:=Pv (i + 1),ct:=Pv (i + 1),bk:=D.nx } σ2 H2) (hd:∀ σ H,Pv kvs.length σ H->D.nx σ H) :
  ∃ W:Nat->Nat->St->Hp->Prop,(∃ m,W 0 m σ H)/\∀ i m σ H,W i m σ H ->
   ((Itv2 d kvs o).stop i H/\D.nx σ H)\/((Itv2 d kvs o).go i H/\∃ N:St->Hp->Prop,(∀ σ' H',N σ' H'->∃ m',m' < m/\W (i + 1) m' σ' H')/\∀ x H',(Itv2 d kvs o).yld i H x H'->g x σ H' λσ2 H2=>tb { D with nx:=N,ct:=N,bk:=D.nx } σ2 H2):=by
 refine ⟨λi m σ H=>m=kvs.length - i/\i<=kvs.length/\Pv i σ H,⟨kvs.length,by simp,Nat.zero_le _,h0⟩,?_⟩
 rintro i m σ H ⟨rfl,hi,p⟩
 have q:=hl i σ H hi p
 by_cases hlt:i < kvs.length
 ·refine .inr ⟨⟨hlt,q⟩,Pv (i + 1),λσ' H' p'=>⟨kvs.length - (i + 1),by lia,rfl,hlt,p'⟩,λx H' y=>?_⟩
  obtain ⟨e,k,y⟩:=y
  subst e
  exact hs i k x σ _ y p
 ·have e:i=kvs.length:=by lia
  subst e
  exact .inl ⟨⟨Nat.le_refl _,q⟩,hd σ H p⟩
noncomputable def Zi9 (ta:TA):TE:=λσ H Q=>ta σ H λvs H1=>∃ n:Nat,vs=[.int n]/\n<=1000/\∀ p,H1 p=none->Q (.ref p) (upd H1 p (.lst ((List.range n).map λ(i:Nat)=>V.int i)))
theorem Vv {a:Expr} {ta:TA} {p1 p2 pos pos2:Pos} (hgl:Gl X "list") (hml:X.mg "list"=none) (hg:Gl X "range") (hm:X.mg "range"=none) (hc:X.calm=true) (ha:PA X [a] ta) (hs:starEach [a] X.env=[(false,eval a X.env)]:=by rfl)
  (hs2:starEach [.Call (.Name "range" p2) [a] [] pos2] X.env=[(false,eval (.Call (.Name "range" p2) [a] [] pos2) X.env)]:=by rfl):PE X (.Call (.Name "list" p1) [.Call (.Name "range" p2) [a] [] pos2] [] pos) (Zi9 ta):=by
 intro pins s σ H Q I h
 refine Call_ (Xe I hgl hml PySem.Pv.boot_list (PyProof.Rows.callWith_type1 ?_ hs2 rfl))
 rw [hs2]
 refine Calls.spliced_cons ?_
 refine Call_ (Xe I hg hm boot_range (PyProof.Rows.callWith_type1 (thn (ha pos2 pins s σ H _ I h) λus s1 zz32=>?_) hs rfl))
 obtain ⟨vs,H1,I1,r1,q1⟩:=zz32
 obtain ⟨n,e,hn,q⟩:=q1
 subst e
 obtain ⟨u,rfl,ru⟩:=Xw r1
 obtain ⟨t,rfl⟩:=ru
 refine call_range_1 (Calls.spliced_nil ?_)
 have hr:Builtin.Range.rangeSize 0 (n:Int) 1=n:=by rw [rangeSize_one]; split <;> lia
 refine call_list_range (I.ok.hd hc) (IsRange.new ..) (small_one (by lia) (by lia) (by lia) (by lia)) hr (by lia) λh' tk acc c' hk hS hacc=>?_
 have hk1:∀ b o,s1.heap.get? b=some o->h'.get? b=some o:=λb o e=>hk b o (Ak _ e)
 have hv:Vals ((List.range n).map λ(i:Nat)=>V.int i) acc.toList:=by
  have gen:∀ (l:List Value) (k:Nat),(∀ (j:Nat) (v:Value),l[j]?=some v->∃ t,v=.int ((k + j:Nat):Int) t)->Vals ((List.range' k l.length).map λ(i:Nat)=>V.int i) l:=by
   intro l
   induction l with
   | nil=>intro k _; exact .nil
   | cons v r ih =>
    intro k h
    obtain ⟨t,e⟩:=h 0 v rfl
    rw [List.length_cons,List.range'_succ,List.map_cons]
    refine .cons ⟨t,by rw [e]; rfl⟩ (ih (k + 1) λj w hw=>?_)
    obtain ⟨t',e'⟩:=h (j + 1) w (by simpa using hw)
    exact ⟨t',by rw [e']; congr 1; lia⟩
  have hl:acc.toList.length=n:=by rw [Array.length_toList]; exact hacc.1
  have:=gen acc.toList 0 λj v hj=>by
   obtain ⟨t,e⟩:=hacc.2 j v (by rw [<- Array.getElem?_toList]; exact hj)
   exact ⟨t,by rw [e]; congr 1; lia⟩
  rw [hl,<- List.range_eq_range'] at this
  exact this
 have hle:s1.heap.objs.size<=(s1.heap.push { cls:=.type "range",data:=.fields #[.int 0 s1.toks,.int (n:Int) t,.int 1 (s1.toks + 1)] }).objs.size:=by rw [Heap.size_push]; exact Nat.le_succ _
 refine ⟨.ref _,upd H1 _ (.lst ((List.range n).map λ(i:Nat)=>V.int i)),I1.laid hk1 (Nat.le_of_lt (by first | exact Nat.lt_of_le_of_lt hle (Heap.lt_size hS) | (rw [Heap.size_push]; exact Nat.lt_succ_self _))) ⟨?_,acc.toList,c',hv,?_⟩,rfl,q _ (I1.hok.fresh ?_)⟩
 ·rw [Ab,List.length_range,sizeLine_eq]; lia
 ·simpa using hS
 ·rw [Heap.size_push]; exact Nat.le_succ _
end
noncomputable abbrev TJ:=Str->TE
section
variable {X:Cx}
theorem Wa (K:PySem.W.Frag) (h:X.K=K:=by rfl):IxR X (rIxL K):=h ▸ Zp
theorem Gd (K:PySem.W.Frag) (h:X.K=K:=by rfl):Y1 X (.type "tuple") (λxs H Q=>∃ p ys,xs=[.ref p]/\((SqL K H p ys/\∀ l,H l=none->Q (.ref l) (upd H l (.tup ys)))\/(SqT K H p ys/\Q (.ref p) H))):=h ▸ Fm
variable {tg l e:Expr} {tl ta:TE} {f:Str} {pos:Pos}
theorem Zc0 (K:PySem.W.Frag) (hl:PE X l tl) (h:X.K=K:=by rfl):PI X tg l (iTup K tl):=h ▸ Zlf hl
end
section
noncomputable def Itm2 (d:Addr) (kvs:List (Key × V)) (o:Obj):It :=
 ⟨λi H=>i < kvs.length/\H d=some (.frz o (.dK kvs)),λi H x H'=>∃ q k v,H q=none/\x=.ref q/\kvs[i]?=some (k,v)/\H'=upd H q (.tup [kV k,v]),λi H=>kvs.length<=i/\H d=some (.frz o (.dK kvs))⟩
theorem Zdu {P:Program} {w:World} {K:PySem.W.Frag} {elts:List Expr} {x1:Nat} {pos:Pos} (d it:Addr) (kvs:List (Key × V)) (o:Obj) :
  Turn P w K (.Tuple elts x1 pos) (Itm2 d kvs o) [it] it (λi h=>∃ a b,IsItemIter h it d i kvs.length (epOf o) a b) where
 mem:=by simp
 obj:=λi h st b hb=>by
  have e:b=it:=by simpa using hb
  subst e
  obtain ⟨a,c,z⟩:=st
  exact ⟨_,z,λv y=>by
   have y':Data.fields _=Data.cell v:=y
   cases y'⟩
 keep:=λi h h' st k=>by
  obtain ⟨a,c,z⟩:=st
  exact ⟨a,c,k it (by simp) _ z⟩
 item:=by
  intro X hP hw hK hc i pins s σ H E I hf st hg
  subst hP hw hK
  obtain ⟨hi,hq⟩:=hg
  obtain ⟨vs,ep,rel,da,ho⟩:=Jl I hq
  have hep:=Ui da ho
  subst hep
  obtain ⟨f0,f1,f2,f3,f4,f5⟩:=hf it (by simp)
  obtain ⟨⟨k,v⟩,hx⟩:∃ p,kvs[i]?=some p:=⟨_,Ac hi⟩
  obtain ⟨u,hu,ru⟩:=rel.at hx
  have hlen:vs.length=kvs.length:=rel.length.symm
  obtain ⟨a0,b0,st⟩:=st
  rw [<- hlen] at st
  have itlt:=Heap.lt_size st
  refine wpAny_pyNext_items_item st da hu λkey h' hk st' ht hsz kk=>?_
  rw [hlen] at st'
  refine ⟨.ref s.heap.objs.size,rfl,wpAny_letOwnedTupleGo_items st' λh'' st'' sb=>?_⟩
  have keepb:∀ b z,b≠it->s.heap.get? b=some z->h''.get? b=some z:=λb z hb e=>(sb.2 b hb).trans (kk b z hb e)
  have ht'':h''.get? s.heap.objs.size=some { cls:=.type "tuple",data:=.seq #[key,u] }:=(sb.2 _ (Nat.ne_of_gt itlt)).trans ht
  have hn:H s.heap.objs.size=none:=I.hok.fresh (Nat.le_refl _)
  have I2:Inv X pins σ (upd H s.heap.objs.size (.tup [kV k,v])) { s with heap:=h'' }:=by
   refine I.step (g':=s.gens) (d':=s.drawn) (ch:=[it]) (λb hb=>?_) (λb o _ _ hc q _=>keepb b o (λz=>hc (by simp [z])) q) (λb o _ _ hc q _=>⟨o.slots,keepb b o (λz=>hc (by simp [z])) q⟩) (λb o _ q n=>by rw [Ze (Nat.ne_of_lt (Heap.lt_size q))]; exact n)
    (λb o hc q=>⟨o,keepb b o (λz=>hc (by simp [z])) q⟩) (λb ys q=>by rw [Ze (Zm q hn)]; exact q) (λb o ys q=>by rw [Ze (Zm q hn)]; exact q) (λb ps q=>⟨#[],by rw [Ze (Zm q hn),q]; simp⟩) (λm hm=>?_) (λb v' q=>?_) I.bare
   ·have z:b=it:=by simpa using hb
    subst z; exact ⟨f3,f1,f4,f5⟩
   ·obtain ⟨o,es,ep,ho,r⟩:=hm
    exact ⟨o,es,ep,keepb _ o (Ne.symm f1) ho,r⟩
   ·by_cases hb:b=s.heap.objs.size
    ·subst hb
     rw [Zc] at q
     cases q
     exact ⟨by show 2<=sizeLine; decide,[key,u],.cons (Zms hk) (.cons ru .nil),⟨_,ht'',rfl,_,rfl⟩⟩
    ·rw [Ze hb] at q
     refine (I.hok b v' q).stay (λc w' hc z=>keepb c w' ?_ z) (λd z=>by rw [Ze (Zm z hn)]; exact z) λd ys z=>by rw [Ze (Zm z hn)]; exact z
     rintro rfl
     rcases hc with z | z
     ·rw [z,q] at f0; cases f0
     ·rw [f0] at z; cases z
  refine ⟨.ref s.heap.objs.size,_,I2,rfl,⟨_,k,v,hn,rfl,hx,rfl⟩,⟨_,_,st''⟩,λb hb=>?_⟩
  have z:b=it:=by simpa using hb
  subst z; rw [Ze (Nat.ne_of_lt itlt)]; exact f0
 done:=by
  intro X hP hw hK hc i pins s σ H E I hf st hg
  subst hP hw hK
  obtain ⟨hi,hq⟩:=hg
  obtain ⟨vs,ep,rel,da,ho⟩:=Jl I hq
  have hep:=Ui da ho
  subst hep
  obtain ⟨f0,f1,f2,f3,f4,f5⟩:=hf it (by simp)
  have hlen:vs.length=kvs.length:=rel.length.symm
  obtain ⟨a0,b0,st⟩:=st
  rw [<- hlen] at st
  exact wpAny_pyNext_items_end (I.ok.hd hc) st da (by rw [List.getElem?_eq_none]; lia) λh' eb=>⟨rfl,I.turned (t':=s.toks) (λb o hb e=>eb b o hb e) f0 f1 f3 f4 f5⟩
 self:=λ_ _ _ _ _ st h=>by
  obtain ⟨a,b,st⟩:=st
  exact PySem.W.kcp_self st h
variable {X:Cx} {l:Expr} {tl:TE}
theorem Zhq {elts:List Expr} {x1:Nat} {tpos apos cpos:Pos} (hl:PE X l tl) (m:M0 X l "items" apos cpos):PI X (.Tuple elts x1 tpos) (.Call (.Attribute l "items" apos) [] [] cpos) (Ziy Itm2 tl):=by
 intro pins s σ H R I h
 refine wpAny_Call_method m.base m.few m.line PySem.F.plainAttrs_dict PySem.F.slot_dict_items PySem.F.type_dict_items (thn (hl pins s σ H _ I h) λv s1 zz9=>?_)
 obtain ⟨x,H1,I1,r1,q1⟩:=zz9
 obtain ⟨a,kvs,e,q⟩:=q1
 subst e
 cases r1
 obtain ⟨o,H2,e2,I2,q2⟩:=Zbm (R:=λo H=>R (Itm2 a kvs o) H) I1 q
 obtain ⟨vs,ep,rel,da,ho⟩:=Jl I2 e2
 have hep:=Ui da ho
 subst hep
 obtain ⟨_,_,hsys,_⟩:=I2.hok a _ e2
 have isd:IsD H2 a:=.inl ⟨kvs,.inr ⟨o,e2⟩⟩
 obtain ⟨t1,t2,_⟩:=Kf I2 isd
 refine ⟨t1,t2,?_⟩
 refine Calls.callWith_builtin rfl (PyProof.Rows.evalArgs_empty ?_)
 refine call_meetsIn PySem.F.slot_dict_items da.dictOf.typeIs PySem.F.entry_dict_items (PySem.F.args_dict_items_1 _) (meets_dict_items (Z3 X.prog X.w) a hsys) ⟨⟨vs,da.dictOf⟩,?_⟩
 have I3:Inv X pins σ H2 { s1 with heap:=s1.heap.push { cls:=.type "dict_items",data:=.fields #[.ref a] } }:=I2.kept (t':=s1.toks) λb o e=>Ak _ e
 refine wpAny_pyIter_items ⟨_,Heap.get?_push_size _ rfl,rfl,rfl⟩ (da.push _) ?_
 have hlen:vs.length=kvs.length:=rel.length.symm
 rw [hlen]
 refine ⟨(s1.heap.push { cls:=.type "dict_items",data:=.fields #[.ref a] }).objs.size,[(s1.heap.push { cls:=.type "dict_items",data:=.fields #[.ref a] }).objs.size],_,_,H2,rfl,I3.kept (t':=s1.toks) λb o e=>Ak _ e,Zdu a _ kvs o,⟨_,_,Heap.get?_push_size _ rfl⟩,λb hb=>?_,q2⟩
 have e:b=(s1.heap.push { cls:=.type "dict_items",data:=.fields #[.ref a] }).objs.size:=by simpa using hb
 subst e
 exact I3.fpOk (Nat.le_refl _) (I3.hok.fresh (Nat.le_refl _))
theorem Zgp {d:Addr} {kvs:List (Key × V)} {o:Obj} {g:TG} {tb:TS} {D:Ends} {σ:St} {H:Hp} (Pv:Nat->St->Hp->Prop) (h0:Pv 0 σ H) (hl:∀ i σ H,i<=kvs.length->Pv i σ H->H d=some (.frz o (.dK kvs)))
  (hs:∀ i k x σ H q,kvs[i]?=some (k,x)->H q=none->Pv i σ H->g (.ref q) σ (upd H q (.tup [kV k,x])) λσ2 H2=>tb { D with nx:=Pv (i + 1),ct:=Pv (i + 1),bk:=D.nx } σ2 H2) (hd:∀ σ H,Pv kvs.length σ H->D.nx σ H) :
  ∃ W:Nat->Nat->St->Hp->Prop,(∃ m,W 0 m σ H)/\∀ i m σ H,W i m σ H ->
   ((Itm2 d kvs o).stop i H/\D.nx σ H)\/((Itm2 d kvs o).go i H/\∃ N:St->Hp->Prop,(∀ σ' H',N σ' H'->∃ m',m' < m/\W (i + 1) m' σ' H')/\∀ x H',(Itm2 d kvs o).yld i H x H'->g x σ H' λσ2 H2=>tb { D with nx:=N,ct:=N,bk:=D.nx } σ2 H2):=by
 refine ⟨λi m σ H=>m=kvs.length - i/\i<=kvs.length/\Pv i σ H,⟨kvs.length,by simp,Nat.zero_le _,h0⟩,?_⟩
 rintro i m σ H ⟨rfl,hi,p⟩
 have q:=hl i σ H hi p
 by_cases hlt:i < kvs.length
 ·refine .inr ⟨⟨hlt,q⟩,Pv (i + 1),λσ' H' p'=>⟨kvs.length - (i + 1),by lia,rfl,hlt,p'⟩,λx H' y=>?_⟩
  obtain ⟨c,k,v,hn,e1,y,e2⟩:=y
  subst e1 e2
  exact hs i k v σ H c y hn p
 ·have e:i=kvs.length:=by lia
  subst e
  exact .inl ⟨⟨Nat.le_refl _,q⟩,hd σ H p⟩
end
section
noncomputable def Itr3 (lo st:Int) (n:Nat):It:=⟨λi _=>i < n,λi H x H'=>H'=H/\x=.int (lo + i * st),λi _=>n<=i⟩
theorem Zby {P:Program} {w:World} {K:PySem.W.Frag} {tg:Expr} (it:Addr) (lo st:Int) (n:Nat):Turn P w K tg (Itr3 lo st n) [it] it (λi h=>IsRangeIter h it (lo + (i:Nat) * st) ((n:Int) - (i:Nat)) st) where
 mem:=by simp
 obj:=λi h st b hb=>by
  have e:b=it:=by simpa using hb
  subst e
  exact ⟨_,st,λv z=>by
   have z':Data.fields _=Data.cell v:=z
   cases z'⟩
 keep:=λi h h' st k=>k it (by simp) _ st
 item:=by
  intro X hP hw hK hc i pins s σ H E I hf st' hg
  subst hP hw hK
  obtain ⟨f0,f1,f2,f3,f4,f5⟩:=hf it (by simp)
  have W:=Walks.range (prog:=X.prog) (w:=X.w) (I.ok.hd hc) it lo st n
  refine W.item i s _ _ hg st' λv h' tk hv st2 kk=>?_
  obtain ⟨t,rfl⟩:=hv
  have I1:Inv X pins σ H { s with heap:=h',toks:=tk }:=I.turned (λb o hb e=>kk b o (by simpa using hb) e) f0 f1 f3 f4 f5
  exact ⟨_,rfl,Uh (s:={ s with heap:=h',toks:=tk }) (n:="range_iterator") st2 rfl rfl (by decide) ⟨.int (lo + i * st),H,I1,⟨t,rfl⟩,⟨rfl,rfl⟩,st2,λb hb=>(hf b hb).1⟩⟩
 done:=by
  intro X hP hw hK hc i pins s σ H E I hf st' hg
  subst hP hw hK
  obtain ⟨f0,f1,f2,f3,f4,f5⟩:=hf it (by simp)
  exact wpAny_pyNext_range_end (I.ok.hd hc) st' (by have:n<=i:=hg; lia) λh' eb=>⟨rfl,I.turned (t':=s.toks) (λb o hb e=>eb b o hb e) f0 f1 f3 f4 f5⟩
 self:=λ_ _ _ _ _ st h=>wpAny_pyIter_rangeiter st h
end
theorem Q1 {X:Cx} (K:PySem.W.Frag) (h:X.K=K:=by rfl):SlR X (rSlL K):=h ▸ Qm
section
variable {X:Cx}
noncomputable def rNeL (K:PySem.W.Frag):R2:=λx y H Q=>∃ a b ns ms,x=.ref a/\y=.ref b/\SqL K H a (List.map V.int ns)/\SqL K H b (List.map V.int ms)/\Q (.bl (!decide (ns=ms))) H
theorem Zlk (hu:X.A.units + 64 < cLine):OpR X (compareOp .NotEq) (rNeL X.K):=by
 intro pins s σ H x y v u Q I rx ry h
 obtain ⟨a,b,ns,ms,rfl,rfl,ha,hb,q⟩:=h
 cases rx
 cases ry
 obtain ⟨ia,ra,pa,_⟩:=I.list ha
 obtain ⟨ib,rb,pb,_⟩:=I.list hb
 exact PySem.W.ne_intsK pa.isList (J5 ra) pb.isList (J5 rb) hu ⟨.bl _,H,I,rfl,q⟩
theorem Zg4 (bs:List Bool):((List.range bs.length).all λi=>bs.getD i true)=bs.all id:=by
 rw [Bool.eq_iff_iff,List.all_eq_true,List.all_eq_true]
 constructor
 ·intro h b hb
  obtain ⟨i,hi,rfl⟩:=List.mem_iff_getElem.mp hb
  have:=h i (List.mem_range.mpr hi)
  rw [Ad,Ac hi] at this
  exact this
 ·intro h i hi
  have hi:=List.mem_range.mp hi
  rw [Ad,Ac hi]
  exact h _ (List.getElem_mem hi)
theorem Zbu (hc:X.calm=true):Y1 X (.builtin "all") (λxs H Q=>∃ p bs,xs=[.ref p]/\SqL X.K H p (List.map V.bl bs)/\Q (.bl (bs.all id)) H):=by
 intro pins s σ H xs us Q I r h
 obtain ⟨p,bs,rfl,hq,q⟩:=h
 obtain ⟨u,rfl,ru⟩:=Xw r
 cases ru
 obtain ⟨its,rv,pl,hz⟩:=I.list hq
 have ne:p≠s.heap.objs.size:=by obtain ⟨o,ho,_⟩:=pl.isList; exact Nat.ne_of_lt (Heap.lt_size ho)
 refine call_all_walk (wpAny_pyIter_list pl.isList ⟨s.heap.objs.size,_,_,_,_,_,λi=>bs.getD i true,rfl,Walks.list (A:=X.A.in1) (show X.A.in1.handled=none from I.ok.hd hc) s.heap.objs.size p ne its.toArray,⟨⟨_,Heap.get?_push_size _ rfl,rfl,rfl⟩,pl.isList.push _⟩,?_,?_⟩)
 ·intro i v s' Q' E' hv hq'
  have hv:its[i]?=some v:=by simpa using hv
  have hlen:=rv.length
  rw [Ab] at hlen
  have hi:i < bs.length:=by have:=(Aa hv).1; lia
  obtain ⟨u,hu,ru⟩:=rv.get (show (bs.map V.bl)[i]?=some (V.bl bs[i]) by rw [Ah,Ac hi]; rfl)
  rw [hv] at hu
  cases hu
  cases ru
  have e:bs.getD i true=bs[i]:=by rw [Ad,Ac hi]; rfl
  refine wpAny_truthy_bool ?_
  have hq':Q' (bs.getD i true) s':=hq'
  rw [e] at hq'
  exact hq'
 ·intro h' tk hk
  have I1:Inv X pins σ H { s with heap:=h',toks:=tk }:=I.kept λb o e=>hk b o (λz=>absurd (Heap.lt_size e) (by rw [Af z]; exact Nat.lt_irrefl _)) (Ak _ e)
  have hlen:its.toArray.size=bs.length:=by have:=rv.length; rw [Ab] at this; simp; lia
  refine ⟨.bl (bs.all id),H,I1,?_,q⟩
  show Value.bool _=_
  rw [hlen,Zg4]
end
section
noncomputable def Ze0 (K:PySem.W.Frag) (a:Addr) (n:Nat):It :=
 ⟨λi H=>i < n/\∃ xs,SqL K H a xs/\xs.length=n,λi H x H'=>H'=H/\∀ xs,SqL K H a xs->xs[n - 1 - i]?=some x,λi H=>n<=i/\∃ xs,SqL K H a xs/\xs.length=n⟩
theorem Zha {P:Program} {w:World} {K:PySem.W.Frag} {tg:Expr} (a it:Addr) (n:Nat):Turn P w K tg (Ze0 K a n) [it] it (λi h=>i<=n/\h.IsRevIter it a ((n:Int) - 1 - i)) where
 mem:=by simp
 obj:=λi h st b hb=>by
  have e:b=it:=by simpa using hb
  subst e
  obtain ⟨_,o,e,c,d⟩:=st
  exact ⟨o,e,λv z=>by rw [d] at z; cases z⟩
 keep:=λi h h' st k=>⟨st.1,st.2.at λo e=>k it (by simp) o e⟩
 item:=by
  intro X hP hw hK hc i pins s σ H E I hf st hg
  subst hP hw hK
  obtain ⟨hi,xs,hq,hl⟩:=hg
  obtain ⟨its,rv,p,hz⟩:=I.list hq
  obtain ⟨f0,f1,f2,f3,f4,f5⟩:=hf it (by simp)
  have hlt:n - 1 - i < xs.length:=by lia
  obtain ⟨u,hu,ru⟩:=rv.get (Ac hlt)
  have e1:(n:Int) - 1 - i=((n - 1 - i:Nat):Int):=by lia
  have st2:=st.2
  rw [e1] at st2
  refine wpAny_pyNext_rev_item st2 p.isList (x:=u) (by simpa using hu) λh' st' sb=>?_
  have I1:Inv X pins σ H { s with heap:=h' }:=I.turned (t':=s.toks) (λb o hb e=>(sb.2 b hb).trans e) f0 f1 f3 f4 f5
  have e2:((n - 1 - i:Nat):Int) - 1=(n:Int) - 1 - ((i + 1:Nat):Int):=by lia
  rw [e2] at st'
  obtain ⟨o,e,c,d⟩:=id st'
  exact ⟨u,rfl,Uh (s:={ s with heap:=h' }) e c d (by decide) ⟨xs[n - 1 - i],H,I1,ru,⟨rfl,λys hy=>by rw [I.list_inj hy hq]; exact Ac hlt⟩,⟨hi,st'⟩,λb hb=>(hf b hb).1⟩⟩
 done:=by
  intro X hP hw hK hc i pins s σ H E I hf st hg
  subst hP hw hK
  obtain ⟨hi,xs,hq,hl⟩:=hg
  obtain ⟨f0,f1,f2,f3,f4,f5⟩:=hf it (by simp)
  have st2:=st.2
  rw [show (n:Int) - 1 - i=-1 by have:=st.1; lia] at st2
  exact wpAny_pyNext_rev_end (I.ok.hd hc) st2 λh' eb=>⟨rfl,I.turned (t':=s.toks) (λb o hb e=>eb b o hb e) f0 f1 f3 f4 f5⟩
 self:=λ_ _ _ _ _ st h=>wpAny_pyIter_revIter st.2 h
variable {X:Cx} {tg:Expr}
noncomputable def iRev (K:PySem.W.Frag) (ta:TA):TI:=λσ H R=>ta σ H λvs H1=>∃ a xs,vs=[.ref a]/\SqL K H1 a xs/\R (Ze0 K a xs.length) H1
theorem Zfw {l:Expr} {ta:TA} {p pos:Pos} (hg:Gl X "reversed") (hm:X.mg "reversed"=none) (ha:PA X [l] ta) (hs:starEach [l] X.env=[(false,eval l X.env)]:=by rfl):PI X tg (.Call (.Name "reversed" p) [l] [] pos) (iRev X.K ta):=by
 intro pins s σ H R I h
 refine Call_ (Xe I hg hm boot_reversed (PyProof.Rows.callWith_type1 (thn (ha pos pins s σ H _ I h) λus s1 zz33=>?_) hs rfl))
 obtain ⟨vs,H1,I1,r1,q1⟩:=zz33
 obtain ⟨a,xs,e,hq,q⟩:=q1
 subst e
 obtain ⟨u,rfl,ru⟩:=Xw r1
 cases ru
 obtain ⟨its,rv,pl,hz⟩:=I1.list hq
 refine call_reversed_list pl.isList ?_
 have I2:Inv X pins σ H1 { s1 with heap:=s1.heap.push (revObj a ((its.toArray.size:Int) - 1)) }:=I1.kept (t':=s1.toks) λb o e=>Ak _ e
 have hn:its.toArray.size=xs.length:=by have:=rv.length; simp; lia
 rw [hn] at I2 ⊢
 have st:(s1.heap.push (revObj a ((xs.length:Int) - 1))).IsRevIter s1.heap.objs.size a ((xs.length:Int) - 1 - ((0:Nat):Int)):=by
  rw [show (xs.length:Int) - 1 - ((0:Nat):Int)=(xs.length:Int) - 1 by simp]
  exact ⟨_,Heap.get?_push_size _ rfl,rfl,rfl⟩
 refine wpAny_pyIter_revIter st ?_
 refine ⟨s1.heap.objs.size,[s1.heap.objs.size],_,_,H1,rfl,I2,Zha a _ xs.length,⟨Nat.zero_le _,st⟩,λb hb=>?_,q⟩
 have e:b=s1.heap.objs.size:=by simpa using hb
 subst e
 exact I1.fpOk (Nat.le_refl _) (I1.hok.fresh (Nat.le_refl _))
theorem Zbd {K:PySem.W.Frag} {a:Addr} {xs:List V} {g:TG} {tt:TT} {tb:TB} {R:St->Hp->Prop} {σ:St} {H:Hp} (Pv:Nat->St->Hp->Prop) (h0:Pv 0 σ H) (hl:∀ i σ H,i<=xs.length->Pv i σ H->SqL K H a xs)
  (hs:∀ (i:Nat) x σ H,xs.reverse[i]?=some x->Pv i σ H->g x σ H λσ2 H2=>tt σ2 H2 λb H3=>if b=true then tb σ2 H3 (Pv (i + 1)) else Pv (i + 1) σ2 H3) (hd:∀ σ H,Pv xs.length σ H->R σ H):Wt (Ze0 K a xs.length) g tt tb R σ H:=by
 refine ⟨λi m σ H=>m=xs.length - i/\i<=xs.length/\Pv i σ H,⟨xs.length,by simp,Nat.zero_le _,h0⟩,?_⟩
 rintro i m σ H ⟨rfl,hi,p⟩
 have q:=hl i σ H hi p
 by_cases hlt:i < xs.length
 ·refine .inr ⟨⟨hlt,xs,q,rfl⟩,Pv (i + 1),λσ' H' p'=>⟨xs.length - (i + 1),by lia,rfl,hlt,p'⟩,λx H' y=>?_⟩
  obtain ⟨e,y⟩:=y
  subst e
  exact hs i x σ _ (by rw [List.getElem?_reverse hlt]; exact y xs q) p
 ·have e:i=xs.length:=by lia
  subst e
  exact .inl ⟨⟨Nat.le_refl _,xs,q,rfl⟩,hd σ H p⟩
end
section
noncomputable def Itz (K:PySem.W.Frag) (a b:Addr):It :=
  ⟨λi H=>∃ xs ys x y,SqL K H a xs/\SqL K H b ys/\xs[i]?=some x/\ys[i]?=some y,
   λi H v H'=>∃ q x y,H q=none/\v=.ref q/\(∀ xs,SqL K H a xs->xs[i]?=some x)/\(∀ ys,SqL K H b ys->ys[i]?=some y)/\H'=upd H q (.tup [x,y]),
   λi H=>∃ xs ys,SqL K H a xs/\SqL K H b ys/\(xs.length<=i\/ys.length<=i)⟩
theorem Zg8 {P:Program} {w:World} {K:PySem.W.Frag} {elts:List Expr} {x1:Nat} {pos:Pos} (a b z TI TO i1 i2:Addr) (D:ZipApart z TI TO i1 i2 a b) :
  Turn P w K (.Tuple elts x1 pos) (Itz K a b) [z,TI,TO,i1,i2] z (λi h=>IsZip h z TI TO .none/\IsPair h TI (.ref i1) (.ref i2)/\(∃ u v,IsPair h TO u v)/\h.IsListIter i1 a i/\h.IsListIter i2 b i) where
 mem:=by simp
 obj:=λi h st c hc=>by
  obtain ⟨s1,s2,⟨u,v,s3⟩,⟨o4,e4,c4,d4⟩,o5,e5,c5,d5⟩:=st
  have hc:c=z\/c=TI\/c=TO\/c=i1\/c=i2:=by simpa using hc
  rcases hc with rfl | rfl | rfl | rfl | rfl
  ·exact ⟨_,s1,λv y=>by have y':Data.fields _=Data.cell v:=y; cases y'⟩
  ·exact ⟨_,s2,λv y=>by have y':Data.seq _ _=Data.cell v:=y; cases y'⟩
  ·exact ⟨_,s3,λv y=>by have y':Data.seq _ _=Data.cell v:=y; cases y'⟩
  ·exact ⟨o4,e4,λv y=>by rw [d4] at y; cases y⟩
  ·exact ⟨o5,e5,λv y=>by rw [d5] at y; cases y⟩
 keep:=λi h h' st k=>by
  obtain ⟨s1,s2,⟨u,v,s3⟩,s4,s5⟩:=st
  exact ⟨k z (by simp) _ s1,k TI (by simp) _ s2,⟨u,v,k TO (by simp) _ s3⟩,s4.at λo e=>k i1 (by simp) o e,s5.at λo e=>k i2 (by simp) o e⟩
 item:=by
  intro X hP hw hK hc i pins s σ H E I hf st hg
  subst hP hw hK
  obtain ⟨xs,ys,x,y,hqx,hqy,hx,hy⟩:=hg
  obtain ⟨itx,rvx,px,_⟩:=I.list hqx
  obtain ⟨ity,rvy,py,_⟩:=I.list hqy
  obtain ⟨u,hu,ru⟩:=rvx.get hx
  obtain ⟨v,hv,rv⟩:=rvy.get hy
  obtain ⟨s1,s2,⟨u0,v0,s3⟩,s4,s5⟩:=st
  refine wpAny_pyNext_zip_item D s1 s2 s3 s4 s5 px.isList py.isList (x:=u) (y:=v) (by simpa using hu) (by simpa using hv) λh' a1 a2 a3 a4 a5 a6 a7=>?_
  refine ⟨.ref s.heap.objs.size,rfl,wpAny_letOwnedTupleGo_zip a1 λh'' b1 sb=>?_⟩
  have lt:∀ c∈[z,TI,TO,i1,i2],c < s.heap.objs.size:=λc hc=>by
   obtain ⟨o,e,_⟩:∃ o,s.heap.get? c=some o/\True:=by
    have hc:c=z\/c=TI\/c=TO\/c=i1\/c=i2:=by simpa using hc
    rcases hc with rfl | rfl | rfl | rfl | rfl
    ·exact ⟨_,s1,trivial⟩
    ·exact ⟨_,s2,trivial⟩
    ·exact ⟨_,s3,trivial⟩
    ·obtain ⟨o,e,_⟩:=s4; exact ⟨o,e,trivial⟩
    ·obtain ⟨o,e,_⟩:=s5; exact ⟨o,e,trivial⟩
   exact Heap.lt_size e
  have keepb:∀ c o,c≠z->c≠TO->c≠i1->c≠i2->s.heap.get? c=some o->h''.get? c=some o:=λc o n1 n2 n3 n4 e=>(sb.2 c n1).trans (a7 c o n1 n2 n3 n4 e)
  have zl:=lt z (by simp)
  have ht'':h''.get? s.heap.objs.size=some { cls:=.type "tuple",data:=.seq #[u,v] }:=(sb.2 _ (Nat.ne_of_gt zl)).trans a5
  have hn:H s.heap.objs.size=none:=I.hok.fresh (Nat.le_refl _)
  have I2:Inv X pins σ (upd H s.heap.objs.size (.tup [x,y])) { s with heap:=h'' }:=by
   have out:∀ c,c ∉ [z,TO,i1,i2]->c≠z/\c≠TO/\c≠i1/\c≠i2:=λc hc=>by simpa using hc
   refine I.step (g':=s.gens) (d':=s.drawn) (ch:=[z,TO,i1,i2]) (λc hc=>?_) (λc o _ _ hc q _=>?_) (λc o _ _ hc q _=>⟨o.slots,?_⟩) (λc o _ q n=>by rw [Ze (Nat.ne_of_lt (Heap.lt_size q))]; exact n)
    (λc o hc q=>⟨o,?_⟩) (λc zs q=>by rw [Ze (Zm q hn)]; exact q) (λc o zs q=>by rw [Ze (Zm q hn)]; exact q) (λc ps q=>⟨#[],by rw [Ze (Zm q hn),q]; simp⟩) (λm hm=>?_) (λc v' q=>?_) I.bare
   ·have hc:c=z\/c=TO\/c=i1\/c=i2:=by simpa using hc
    have hm:c∈[z,TI,TO,i1,i2]:=by rcases hc with rfl | rfl | rfl | rfl <;> simp
    obtain ⟨f0,f1,f2,f3,f4,f5⟩:=hf c hm
    exact ⟨f3,f1,f4,f5⟩
   ·obtain ⟨n1,n2,n3,n4⟩:=out c hc; exact keepb c o n1 n2 n3 n4 q
   ·obtain ⟨n1,n2,n3,n4⟩:=out c hc; exact keepb c o n1 n2 n3 n4 q
   ·obtain ⟨n1,n2,n3,n4⟩:=out c hc; exact keepb c o n1 n2 n3 n4 q
   ·obtain ⟨o,es,ep,ho,r⟩:=hm
    exact ⟨o,es,ep,keepb _ o (Ne.symm (hf z (by simp)).2.1) (Ne.symm (hf TO (by simp)).2.1) (Ne.symm (hf i1 (by simp)).2.1) (Ne.symm (hf i2 (by simp)).2.1) ho,r⟩
   ·by_cases hb:c=s.heap.objs.size
    ·subst hb
     rw [Zc] at q
     cases q
     exact ⟨by show 2<=sizeLine; decide,[u,v],.cons ru (.cons rv .nil),⟨_,ht'',rfl,_,rfl⟩⟩
    ·rw [Ze hb] at q
     refine (I.hok c v' q).stay (λe w' he y'=>keepb e w' ?_ ?_ ?_ ?_ y') (λd y'=>by rw [Ze (Zm y' hn)]; exact y') λd zs y'=>by rw [Ze (Zm y' hn)]; exact y'
     all_goals
      rintro rfl
      have hz0:H e=none:=(hf e (by simp)).1
      rcases he with y' | y'
      ·rw [y',q] at hz0; cases hz0
      ·rw [hz0] at y'; cases y'
  refine ⟨.ref s.heap.objs.size,_,I2,rfl,⟨_,x,y,hn,rfl,λxs' hy'=>by rw [I.list_inj hy' hqx]; exact hx,λys' hy'=>by rw [I.list_inj hy' hqy]; exact hy,rfl⟩,
   ⟨b1,(sb.2 TI D.TIz).trans (a7 TI _ D.TIz D.TITO D.TIi1 D.TIi2 s2),⟨u,v,(sb.2 TO D.TOz).trans a2⟩,a3.at λo e=>(sb.2 i1 D.i1z).trans e,a4.at λo e=>(sb.2 i2 D.i2z).trans e⟩,λc hc=>?_⟩
  rw [Ze (Nat.ne_of_lt (lt c hc))]
  exact (hf c hc).1
 done:=by
  intro X hP hw hK hc i pins s σ H E I hf st hg
  subst hP hw hK
  obtain ⟨xs,ys,hqx,hqy,hlen⟩:=hg
  obtain ⟨itx,rvx,px,_⟩:=I.list hqx
  obtain ⟨ity,rvy,py,_⟩:=I.list hqy
  obtain ⟨s1,s2,⟨u0,v0,s3⟩,s4,s5⟩:=st
  have l1:=rvx.length
  have l2:=rvy.length
  refine wpAny_pyNext_zip_end (I.ok.hd hc) D s1 s2 s3 s4 s5 px.isList py.isList ?_ λh' eb=>⟨rfl,?_⟩
  ·rcases hlen with z | z
   ·exact .inl (by simp; lia)
   ·exact .inr (by simp; lia)
  ·have out:∀ c,c ∉ [z,TO,i1,i2]->c≠z/\c≠TO/\c≠i1/\c≠i2:=λc hc=>by simpa using hc
   refine I.step (g':=s.gens) (d':=s.drawn) (t':=s.toks) (ch:=[z,TO,i1,i2]) (λc hc=>?_) (λc o _ _ hc q _=>?_) (λc o _ _ hc q _=>⟨o.slots,?_⟩) (λc o _ q n=>n)
    (λc o hc q=>⟨o,?_⟩) (λc zs q=>q) (λc o zs q=>q) (λc ps q=>⟨#[],by rw [q]; simp⟩) (λm hm=>?_) (λc v' q=>?_) I.bare
   ·have hc:c=z\/c=TO\/c=i1\/c=i2:=by simpa using hc
    have hm:c∈[z,TI,TO,i1,i2]:=by rcases hc with rfl | rfl | rfl | rfl <;> simp
    obtain ⟨f0,f1,f2,f3,f4,f5⟩:=hf c hm
    exact ⟨f3,f1,f4,f5⟩
   ·obtain ⟨n1,n2,n3,n4⟩:=out c hc; exact eb c o n1 n2 n3 n4 q
   ·obtain ⟨n1,n2,n3,n4⟩:=out c hc; exact eb c o n1 n2 n3 n4 q
   ·obtain ⟨n1,n2,n3,n4⟩:=out c hc; exact eb c o n1 n2 n3 n4 q
   ·obtain ⟨o,es,ep,ho,r⟩:=hm
    exact ⟨o,es,ep,eb _ o (Ne.symm (hf z (by simp)).2.1) (Ne.symm (hf TO (by simp)).2.1) (Ne.symm (hf i1 (by simp)).2.1) (Ne.symm (hf i2 (by simp)).2.1) ho,r⟩
   ·refine (I.hok c v' q).stay (λe w' he y'=>eb e w' ?_ ?_ ?_ ?_ y') (λd y'=>y') λd zs y'=>y'
    all_goals
     rintro rfl
     have hz0:H e=none:=(hf e (by simp)).1
     rcases he with y' | y'
     ·rw [y',q] at hz0; cases hz0
     ·rw [hz0] at y'; cases y'
 self:=λ_ _ _ _ _ st h=>wpAny_pyIter_zip st.1 h
theorem Ze1 {N a b:Nat} (la:a < N) (lb:b < N):ZipApart (N + 4) (N + 2) (N + 3) N (N + 1) a b:=by
 constructor <;> (intro z; first | exact absurd (show (_:Nat)=_ from z) (by lia) | lia)
variable {X:Cx}
noncomputable def iZip (K:PySem.W.Frag) (ta:TA):TI:=λσ H R=>ta σ H λvs H1=>∃ a b xs ys,vs=[.ref a,.ref b]/\SqL K H1 a xs/\SqL K H1 b ys/\R (Itz K a b) H1
theorem Zle {elts:List Expr} {x1:Nat} {tpos p pos:Pos} {l m:Expr} {ta:TA} (hg:Gl X "zip") (hm:X.mg "zip"=none) (ha:PA X [l,m] ta) (hs:starEach [l,m] X.env=[(false,eval l X.env),(false,eval m X.env)]:=by rfl) (hs2:starEach [m] X.env=[(false,eval m X.env)]:=by rfl) :
  PI X (.Tuple elts x1 tpos) (.Call (.Name "zip" p) [l,m] [] pos) (iZip X.K ta):=by
 intro pins s σ H R I h
 refine Call_ (Xe I hg hm boot_zip (PyProof.Rows.callWith_type1 (thn (ha pos pins s σ H _ I h) λus s1 ⟨vs,H1,I1,r1,q1⟩=>?_) (by rw [hs,hs2]) (by rw [hs2]; rfl)))
 obtain ⟨a,b,xs,ys,e,hqx,hqy,q⟩:=q1
 subst e
 obtain ⟨u,v,rfl,ru,rv⟩:=r1.two
 cases ru
 cases rv
 obtain ⟨itx,rvx,px,_⟩:=I1.list hqx
 obtain ⟨ity,rvy,py,_⟩:=I1.list hqy
 have la:a < s1.heap.objs.size:=by obtain ⟨o,ho,_⟩:=px.isList; exact Heap.lt_size ho
 have lb:b < s1.heap.objs.size:=by obtain ⟨o,ho,_⟩:=py.isList; exact Heap.lt_size ho
 refine call_zip_2 px.isList py.isList λh' z1 z2 z3 z4 z5 z6 z7=>wpAny_pyIter_zip z1 ?_
 have I2:Inv X pins σ H1 { s1 with heap:=h' }:=I1.kept (t':=s1.toks) z7
 generalize hN:s1.heap.objs.size=N at *
 refine ⟨N + 4,[N + 4,N + 2,N + 3,N,N + 1],_,_,H1,rfl,I2,Zg8 a b (N + 4) (N + 2) (N + 3) N (N + 1) (Ze1 la lb),⟨z1,z2,⟨_,_,z3⟩,z4,z5⟩,λc hc=>?_,q⟩
 have hc:s1.heap.objs.size<=c:=by
  have hc:c=N + 4\/c=N + 2\/c=N + 3\/c=N\/c=N + 1:=by simpa using hc
  rw [hN]
  rcases hc with rfl | rfl | rfl | rfl | rfl
  ·exact Nat.le_add_right _ _
  ·exact Nat.le_add_right _ _
  ·exact Nat.le_add_right _ _
  ·exact Nat.le_refl _
  ·exact Nat.le_add_right _ _
 exact I1.fpOk hc (I1.hok.fresh hc)
theorem Zh3 {K:PySem.W.Frag} {a b:Addr} {xs ys:List V} {g:TG} {tt:TT} {tb:TB} {R:St->Hp->Prop} {σ:St} {H:Hp} (hlen:xs.length=ys.length) (Pv:Nat->St->Hp->Prop) (h0:Pv 0 σ H) (hl:∀ i σ H,i<=xs.length->Pv i σ H->SqL K H a xs/\SqL K H b ys)
  (hs:∀ (i:Nat) x y σ H q,xs[i]?=some x->ys[i]?=some y->H q=none->Pv i σ H->g (.ref q) σ (upd H q (.tup [x,y])) λσ2 H2=>tt σ2 H2 λb H3=>if b=true then tb σ2 H3 (Pv (i + 1)) else Pv (i + 1) σ2 H3) (hd:∀ σ H,Pv xs.length σ H->R σ H):Wt (Itz K a b) g tt tb R σ H:=by
 refine ⟨λi m σ H=>m=xs.length - i/\i<=xs.length/\Pv i σ H,⟨xs.length,by simp,Nat.zero_le _,h0⟩,?_⟩
 rintro i m σ H ⟨rfl,hi,p⟩
 obtain ⟨q1,q2⟩:=hl i σ H hi p
 by_cases hlt:i < xs.length
 ·have hlt2:i < ys.length:=by lia
  refine .inr ⟨⟨xs,ys,xs[i],ys[i],q1,q2,by simp [hlt],by simp [hlt2]⟩,Pv (i + 1),λσ' H' p'=>⟨xs.length - (i + 1),by lia,rfl,hlt,p'⟩,λx H' y=>?_⟩
  obtain ⟨c,u,v,hn,e1,y1,y2,e2⟩:=y
  subst e1 e2
  exact hs i u v σ H c (y1 xs q1) (y2 ys q2) hn p
 ·have e:i=xs.length:=by lia
  subst e
  exact .inl ⟨⟨xs,ys,q1,q2,.inl (Nat.le_refl _)⟩,hd σ H p⟩
end
section
variable {prog:Program} {w:World} {A:Around} {E:Value->Shared->Prop} {s:Shared}
noncomputable abbrev upIt (a n:Int):Obj:={ cls:=.type "range_iterator",data:=.fields #[rawInt (a + (n - 1) * 1),rawInt n,rawInt (-1)] }
theorem Qx {z:Int} (h1:-(2 ^ 62)<=z) (h2:z < 2 ^ 62):Builtin.Range.rangeFitsLong z=true:=by
 unfold Builtin.Range.rangeFitsLong
 rw [Bool.and_eq_true,decide_eq_true_eq,decide_eq_true_eq]
 lia
theorem Zhl (r:Addr) (a b:Int) (t u v:Tok) (hs:(Builtin.Range.rangeFitsLong a && Builtin.Range.rangeFitsLong b && Builtin.Range.rangeFitsLong 1 && Builtin.Range.rangeFitsLong (-1) && Builtin.Range.rangeFitsLong (a - 1) && Builtin.Range.rangeFitsLong (Builtin.Range.rangeSize a b 1))=true) :
  Meets (Builtin.«range.__reversed__» ⟨[.ref r],[]⟩) (λ_ R s=>IsRange s.heap r a b 1 t u v/\R (.ok (.ret (.ref s.heap.objs.size))) { s with heap:=s.heap.push (upIt a (Builtin.Range.rangeSize a b 1)) }) :=
 .of_wp λprog w A R s h=>by
  obtain ⟨hp,g,d,tk,os⟩:=s
  obtain ⟨hl,h⟩:=h
  unfold Builtin.«range.__reversed__»
  refine Al (wpAny_of_eq (a:=Value.ref r) rfl ?_)
  refine Al (m:=Builtin.Range.rangeFields (.ref r)) ?_
  unfold Builtin.Range.rangeFields
  refine Al (wpAny_field hl rfl (x:=.int a t) rfl ?_)
  refine Al (wpAny_of_eq (a:=some a) rfl ?_)
  refine Al (wpAny_field hl rfl (x:=.int b u) rfl ?_)
  refine Al (wpAny_of_eq (a:=some b) rfl ?_)
  refine Al (wpAny_field hl rfl (x:=.int 1 v) rfl ?_)
  refine Al (wpAny_of_eq (a:=some 1) rfl ?_)
  refine wpAny_pure ?_
  dsimp only
  simp only [hs,Bool.not_true,Bool.false_eq_true,if_false,if_true]
  exact Al (wpAny_newObj_type (wpAny_pure ⟨_,rfl,h⟩))
theorem Zk7:isSubtype (.type "range_iterator") (.type "reversed")=pure false:=by
 rw [isSubtype_type]
 kernel_rfl
theorem Zjo {r:Addr} {a b:Int} {t u v:Tok} {Z:Value->Shared->Prop} (hr:IsRange s.heap r a b 1 t u v)
  (hs:(Builtin.Range.rangeFitsLong a && Builtin.Range.rangeFitsLong b && Builtin.Range.rangeFitsLong 1 && Builtin.Range.rangeFitsLong (-1) && Builtin.Range.rangeFitsLong (a - 1) && Builtin.Range.rangeFitsLong (Builtin.Range.rangeSize a b 1))=true)
  (q:Z (.ref s.heap.objs.size) { s with heap:=s.heap.push (upIt a (Builtin.Range.rangeSize a b 1)) }) :
  codeAny (model prog w) A (.call (.builtin "reversed.__new__") ⟨[.type "reversed",.ref r],[]⟩) (wants Z E) s:=by
 have hT:s.TypeIs (.ref r) "range":=⟨_,hr,rfl⟩
 refine codeAny_of_tree (show wpAny _ A.in1 (checkBuiltinCall "reversed.__new__" ⟨[.type "reversed",.ref r],[]⟩ >>= λ_=>again (.builtin "reversed.__new__" ⟨[.type "reversed",.ref r],[]⟩)) _ _ s from ?_)
 refine Al (wpAny_of_eq (PySem.F.newCall_reversed_1 (.ref r)) (wpAny_pure ⟨plainId_quiet PySem.F.plain_reversed_new _,codeAny_builtin PySem.F.entry_reversed_new ?_⟩))
 rw [Around.under_plainId PySem.F.plain_reversed_new _]
 unfold Builtin.«reversed.__new__»
 refine Al (wpAny_of_eq (newClass_reversed (.ref r)) ?_)
 refine Al (wpAny_of_eq (a:=()) (by first | rfl | kernel_rfl) (Al (wpAny_of_eq (a:=()) (by first | rfl | kernel_rfl) ?_)))
 refine Al (wpAny_specialOf hT PySem.F.slot_range_reversed.lookup (Al (wpAny_of_eq (PySem.F.slot_range_reversed.bind (.ref r)) ?_)))
 have ne:¬ ((Value.builtin "range.__reversed__" == Value.none)=true):=Bool.false_ne_true
 dsimp only
 first | rw [if_neg ne] | (show wpAny _ _ (if (Value.builtin "range.__reversed__" == Value.none)=true then _ else _) _ _ _; rw [if_neg ne])
 refine Al (wpAny_rule (Al (m:=runValue (.call (.builtin "range.__reversed__") ⟨[.ref r],[]⟩)) ?_))
 show wpAny _ _ (call (.builtin "range.__reversed__") [.ref r]) _ _ _
 refine call_meets PySem.F.slot_range_reversed hT PySem.F.entry_range_reversed (PySem.F.args_range_reversed_1 _) (Zhl r a b t u v hs) ⟨hr,?_⟩
 first | exact wpAny_pure q | exact Al (wpAny_pure (wpAny_pure q))
theorem Zjp {r:Addr} {a b:Int} {t u v:Tok} {Q:Value->Shared->Prop} (hr:IsRange s.heap r a b 1 t u v)
  (hs:(Builtin.Range.rangeFitsLong a && Builtin.Range.rangeFitsLong b && Builtin.Range.rangeFitsLong 1 && Builtin.Range.rangeFitsLong (-1) && Builtin.Range.rangeFitsLong (a - 1) && Builtin.Range.rangeFitsLong (Builtin.Range.rangeSize a b 1))=true)
  (q:Q (.ref s.heap.objs.size) { s with heap:=s.heap.push (upIt a (Builtin.Range.rangeSize a b 1)) }):wpAny (model prog w) A (call (.type "reversed") [.ref r]) Q E s:=by
 refine callType_other (U:="range_iterator") (Q₁:=λo z=>o=.ref s.heap.objs.size/\z={ s with heap:=s.heap.push (upIt a (Builtin.Range.rangeSize a b 1)) }) (by decide +kernel) PySem.F.create_reversed ⟨_,_,PySem.F.mro_reversed⟩ PySem.F.made_reversed Zk7 (PySem.F.typeCall_reversed_1 _) (Zjo hr hs ⟨rfl,rfl⟩) ?_
 rintro o z ⟨rfl,rfl⟩
 exact ⟨⟨_,Heap.get?_push_size _ rfl,rfl⟩,q⟩
end
section
variable {X:Cx} {tg:Expr}
noncomputable def Zmv (ta:TA):TI:=λσ H R=>ta σ H λvs H1=>∃ (i:Int) (n:Nat),vs=[.int i,.int (i + n)]/\0<=i/\i + n<=100000/\R (Itr3 (i + n - 1) (-1) n) H1
theorem Zjw {a b:Expr} {ta:TA} {p1 p2 pos pos2:Pos} (hgl:Gl X "reversed") (hml:X.mg "reversed"=none) (hg:Gl X "range") (hm:X.mg "range"=none) (ha:PA X [a,b] ta) (hs:starEach [a,b] X.env=[(false,eval a X.env),(false,eval b X.env)]:=by rfl) (hsb:starEach [b] X.env=[(false,eval b X.env)]:=by rfl)
  (hs2:starEach [.Call (.Name "range" p2) [a,b] [] pos2] X.env=[(false,eval (.Call (.Name "range" p2) [a,b] [] pos2) X.env)]:=by rfl):PI X tg (.Call (.Name "reversed" p1) [.Call (.Name "range" p2) [a,b] [] pos2] [] pos) (Zmv ta):=by
 intro pins s σ H R I h
 refine Call_ (Xe I hgl hml boot_reversed (PyProof.Rows.callWith_type1 ?_ hs2 rfl))
 rw [hs2]
 refine Calls.spliced_cons ?_
 refine Call_ (Xe I hg hm boot_range (PyProof.Rows.callWith_type1 (thn (ha pos2 pins s σ H _ I h) λus s1 ⟨vs,H1,I1,r1,q1⟩=>?_) (by rw [hs,hsb]) (by rw [hsb]; rfl)))
 obtain ⟨i,n,e,h0,h1,q⟩:=q1
 subst e
 obtain ⟨u,v,rfl,ru,rv⟩:=r1.two
 obtain ⟨t,rfl⟩:=ru
 obtain ⟨t',rfl⟩:=rv
 refine call_range_2 (Calls.spliced_nil ?_)
 have hr:Builtin.Range.rangeSize i (i + n) 1=n:=by rw [rangeSize_one]; split <;> lia
 have fits:(Builtin.Range.rangeFitsLong i && Builtin.Range.rangeFitsLong (i + n) && Builtin.Range.rangeFitsLong 1 && Builtin.Range.rangeFitsLong (-1) && Builtin.Range.rangeFitsLong (i - 1) && Builtin.Range.rangeFitsLong (Builtin.Range.rangeSize i (i + n) 1))=true:=by
  rw [hr,Qx (by lia) (by lia),Qx (by lia) (by lia),Qx (by decide) (by decide),Qx (by decide) (by decide),Qx (by lia) (by lia),Qx (by lia) (by lia)]
  rfl
 refine Zjp (IsRange.new ..) fits ?_
 rw [hr]
 have I2:Inv X pins σ H1 { s1 with heap:=s1.heap.push { cls:=.type "range",data:=.fields #[.int i t,.int (i + n) t',.int 1 s1.toks] },toks:=s1.toks + 1 }:=I1.kept λb o e=>Ak _ e
 have st:IsRangeIter ((s1.heap.push { cls:=.type "range",data:=.fields #[.int i t,.int (i + n) t',.int 1 s1.toks] }).push (upIt i n)) (s1.heap.push { cls:=.type "range",data:=.fields #[.int i t,.int (i + n) t',.int 1 s1.toks] }).objs.size (i + n - 1 + ((0:Nat):Int) * (-1)) ((n:Int) - ((0:Nat):Int)) (-1):=by
  have e1:i + (n:Int) - 1 + ((0:Nat):Int) * (-1)=i + ((n:Int) - 1) * 1:=by simp; lia
  have e2:(n:Int) - ((0:Nat):Int)=n:=by simp
  rw [e1,e2]
  exact Heap.get?_push_size _ rfl
 refine wpAny_pyIter_rangeiter st ?_
 refine ⟨_,[(s1.heap.push { cls:=.type "range",data:=.fields #[.int i t,.int (i + n) t',.int 1 s1.toks] }).objs.size],_,_,H1,rfl,I2.kept (t':=s1.toks + 1) λb o e=>Ak _ e,Zby _ (i + n - 1) (-1) n,st,λb hb=>?_,q⟩
 have e:b=(s1.heap.push { cls:=.type "range",data:=.fields #[.int i t,.int (i + n) t',.int 1 s1.toks] }).objs.size:=by simpa using hb
 subst e
 exact I2.fpOk (Nat.le_refl _) (I2.hok.fresh (Nat.le_refl _))
theorem Zer {lo st:Int} {n:Nat} {g:TG} {tb:TS} {D:Ends} {σ:St} {H:Hp} (Pv:Nat->St->Hp->Prop) (h0:Pv 0 σ H)
  (hs:∀ (i:Nat) σ H,i < n->Pv i σ H->g (.int (lo + i * st)) σ H λσ2 H2=>tb { D with nx:=Pv (i + 1),ct:=Pv (i + 1),bk:=D.nx } σ2 H2) (hd:∀ σ H,Pv n σ H->D.nx σ H) :
  ∃ W:Nat->Nat->St->Hp->Prop,(∃ m,W 0 m σ H)/\∀ i m σ H,W i m σ H ->
   ((Itr3 lo st n).stop i H/\D.nx σ H)\/((Itr3 lo st n).go i H/\∃ N:St->Hp->Prop,(∀ σ' H',N σ' H'->∃ m',m' < m/\W (i + 1) m' σ' H')/\∀ x H',(Itr3 lo st n).yld i H x H'->g x σ H' λσ2 H2=>tb { D with nx:=N,ct:=N,bk:=D.nx } σ2 H2):=by
 refine ⟨λi m σ H=>m=n - i/\i<=n/\Pv i σ H,⟨n,by simp,Nat.zero_le _,h0⟩,?_⟩
 rintro i m σ H ⟨rfl,hi,p⟩
 by_cases hlt:i < n
 ·refine .inr ⟨hlt,Pv (i + 1),λσ' H' p'=>⟨n - (i + 1),by lia,rfl,hlt,p'⟩,λx H' y=>?_⟩
  obtain ⟨e,y⟩:=y
  subst e y
  exact hs i σ _ hlt p
 ·have e:i=n:=by lia
  subst e
  exact .inl ⟨Nat.le_refl _,hd σ H p⟩
theorem Zc1 {pos:Pos} (K:PySem.W.Frag) {es:List Expr} {k:Nat} {t:TGs} {n:Nat} (hc:X.calm=true) (h:PGs X es t)
  (hn:(assignEach es X.env).length=n:=by rfl) (hst:(assignEach es X.env).findIdx? (·.1)=none:=by rfl) (hk:X.K=K:=by rfl):PG X (.Tuple es k pos) (gTup K n t):=hk ▸ Qt hc h hn hst
end
end L2
namespace KT
open PySem L2
noncomputable def mV:Option Nat->V
 | none=>.non
 | some j=>.int j
structure TD (M:List (Option Nat)) (ns:List Int):Prop where
 n:∃ n,1<=n/\n<=40/\M.length=3 * n
 len:ns.length=M.length
 inv:∀ (i j:Nat),M[i]?=some (some j)->M[j]?=some (some i)/\i≠j
 rng:∀ (i:Nat) x,ns[i]?=some x->0<=x/\x<=9999
 eqv:∀ (i j:Nat) x,ns[i]?=some x->ns[j]?=some x->i=j\/M[i]?=some (some j)
 eqm:∀ (i j:Nat),M[i]?=some (some j)->ns[j]?=ns[i]?
structure SewOk (N:Nat) (F:List Nat) (M:List (Option Nat)):Prop where
 len:M.length=N
 nd:F.Nodup
 free:∀ f∈F,f < N/\M[f]?=some none
 inv:∀ (i j:Nat),M[i]?=some (some j)->M[j]?=some (some i)/\i≠j
theorem SewOk.start (N:Nat):SewOk N (List.range N) (List.replicate N none):=by
 refine ⟨by simp,List.nodup_range,λf hf=>?_,λi j h=>?_⟩
 ·have h:=List.mem_range.mp hf
  exact ⟨h,by rw [List.getElem?_replicate,if_pos h]⟩
 ·rw [List.getElem?_replicate] at h
  split at h <;> cases h
theorem SewOk.skip {N:Nat} {one:Nat} {F:List Nat} {M:List (Option Nat)} (h:SewOk N (one :: F) M):SewOk N F M :=
 ⟨h.len,(List.nodup_cons.mp h.nd).2,λf hf=>h.free f (List.mem_cons_of_mem _ hf),h.inv⟩
theorem SewOk.pair {N:Nat} {one other k:Nat} {F:List Nat} {M:List (Option Nat)} (h:SewOk N (one :: F) M) (hk:F[k]?=some other):SewOk N (F.eraseIdx k) ((M.set one (some other)).set other (some one)):=by
 obtain ⟨n1,n2⟩:=List.nodup_cons.mp h.nd
 have hm:other∈F:=List.mem_of_getElem? hk
 have hne:one≠other:=λz=>n1 (z ▸ hm)
 obtain ⟨h1,f1⟩:=h.free one List.mem_cons_self
 obtain ⟨h2,f2⟩:=h.free other (List.mem_cons_of_mem _ hm)
 have l1:one < M.length:=by rw [h.len]; exact h1
 have l2:other < M.length:=by rw [h.len]; exact h2
 have g1:((M.set one (some other)).set other (some one))[one]?=some (some other):=by
  rw [List.getElem?_set_ne (Ne.symm hne),List.getElem?_set_self l1]
 have g2:((M.set one (some other)).set other (some one))[other]?=some (some one):=by
  rw [List.getElem?_set_self (by rw [List.length_set]; exact l2)]
 have g3:∀ i,i≠one->i≠other->((M.set one (some other)).set other (some one))[i]?=M[i]?:=λi a b=>by
  rw [List.getElem?_set_ne (Ne.symm b),List.getElem?_set_ne (Ne.symm a)]
 refine ⟨by rw [List.length_set,List.length_set]; exact h.len,n2.sublist (List.eraseIdx_sublist F k),λf hf=>?_,λi j e=>?_⟩
 ·obtain ⟨i,hi,hik,e⟩:=List.mem_eraseIdx_iff_getElem.mp hf
  have fm:f∈F:=e ▸ List.getElem_mem hi
  obtain ⟨a,b⟩:=h.free f (List.mem_cons_of_mem _ fm)
  have c1:f≠one:=λz=>n1 (z ▸ fm)
  have c2:f≠other:=λz=>by
   obtain ⟨hk',ek⟩:=Aa hk
   exact hik ((List.getElem_inj n2).mp (e.trans (z.trans ek.symm)))
  exact ⟨a,by rw [g3 f c1 c2]; exact b⟩
 ·by_cases c1:i=one
  ·subst c1
   rw [g1] at e
   cases e
   exact ⟨g2,hne⟩
  ·by_cases c2:i=other
   ·subst c2
    rw [g2] at e
    cases e
    exact ⟨g1,Ne.symm hne⟩
   ·rw [g3 i c1 c2] at e
    obtain ⟨a,b⟩:=h.inv i j e
    have d1:j≠one:=λz=>by rw [z,f1] at a; cases a
    have d2:j≠other:=λz=>by rw [z,f2] at a; cases a
    exact ⟨by rw [g3 j d1 d2]; exact a,b⟩
noncomputable def nm (s t:Int) (i:Nat):Int:=(s + t * i) % 10000
noncomputable def rep (M:List (Option Nat)) (i:Nat):Nat:=match M[i]? with
 | some (some j)=>if j < i then j else i
 | _=>i
noncomputable def flat (M:List (Option Nat)) (s t:Int):List Int:=(List.range M.length).map λi=>nm s t (rep M i)
noncomputable def Q0:List Int:=[1,3,7,9,37,1009,3333,9999]
theorem nm_d:∀ t∈Q0,∀ d:Fin 42,t * ((d.val:Nat):Int) % 10000=0->d.val=0:=by decide +kernel
theorem Zln {s t:Int} (ht:t∈Q0) {i j:Nat} (hi:i < 42) (hj:j < 42) (h:nm s t i=nm s t j):i=j:=by
  have key:∀ a b:Nat,b<=a->a < 42->nm s t a=nm s t b->a=b:=λa b hab ha e=>by
    have e2:=Int.emod_eq_emod_iff_emod_sub_eq_zero.mp e
    rw [Int.add_sub_add_left,<- Int.mul_sub,<- Int.natCast_sub hab] at e2
    have:=nm_d t ht ⟨a - b,Nat.lt_of_le_of_lt (Nat.sub_le _ _) ha⟩ e2
    exact Nat.le_antisymm (Nat.sub_eq_zero_iff_le.mp this) hab
  rcases Nat.le_total i j with h' | h'
  · exact (key j i h' hj h.symm).symm
  · exact key i j h' hi h
theorem Zfn {M:List (Option Nat)} {i N:Nat} (h:i < N):rep M i < N:=by
 unfold rep
 split
 ·split <;> lia
 ·exact h
theorem Vr (M:List (Option Nat)) (i:Nat):rep M i=i\/(∃ j,M[i]?=some (some j)/\j < i/\rep M i=j):=by
 cases e:M[i]? with
 | none=>exact .inl (by unfold rep; rw [e])
 | some o =>
  cases o with
  | none=>exact .inl (by unfold rep; rw [e])
  | some j =>
   by_cases h:j < i
   ·exact .inr ⟨j,rfl,h,by unfold rep; rw [e]; exact if_pos h⟩
   ·exact .inl (by unfold rep; rw [e]; exact if_neg h)
theorem Oa {M:List (Option Nat)} {s t:Int} {i:Nat} {x:Int} (h:(flat M s t)[i]?=some x):i < M.length/\x=nm s t (rep M i):=by
 unfold flat at h
 rw [Ah] at h
 by_cases hi:i < M.length
 ·rw [List.getElem?_range hi] at h
  exact ⟨hi,(Option.some.inj h).symm⟩
 ·rw [List.getElem?_eq_none (by simpa using hi)] at h
  cases h
theorem Zdj {M:List (Option Nat)} {s t:Int} {i:Nat} (hi:i < M.length):(flat M s t)[i]?=some (nm s t (rep M i)):=by
 unfold flat
 rw [Ah,List.getElem?_range hi]
 rfl
theorem Zi7 {M:List (Option Nat)} {s t:Int} {n:Nat} (h1:1<=n) (h2:n<=14) (hM:M.length=3 * n) (hinv:∀ (i j:Nat),M[i]?=some (some j)->M[j]?=some (some i)/\i≠j) (ht:t∈Q0):TD M (flat M s t) where
 n:=⟨n,h1,by lia,hM⟩
 len:=by unfold flat; simp
 inv:=hinv
 rng:=λi x h=>by
  obtain ⟨_,rfl⟩:=Oa h
  unfold nm
  lia
 eqv:=λi j x hi hj=>by
  obtain ⟨li,ei⟩:=Oa hi
  obtain ⟨lj,ej⟩:=Oa hj
  have e:rep M i=rep M j:=Zln ht (by have:=Zfn (M:=M) li; lia) (by have:=Zfn (M:=M) lj; lia) (ei.symm.trans ej)
  rcases Vr M i with a | ⟨a,ha,la,ra⟩
  ·rcases Vr M j with b | ⟨b,hb,lb,rb⟩
   ·exact .inl (a.symm.trans (e.trans b))
   ·have:b=i:=by rw [<- rb,<- e,a]
    subst this
    exact .inr (hinv j b hb).1
  ·rcases Vr M j with b | ⟨b,hb,lb,rb⟩
   ·have:a=j:=by rw [<- ra,e,b]
    subst this
    exact .inr ha
   ·have:a=b:=by rw [<- ra,e,rb]
    subst this
    have c1:=(hinv i a ha).1
    have c2:=(hinv j a hb).1
    rw [c1] at c2
    exact .inl (by cases c2; rfl)
 eqm:=λi j h=>by
  obtain ⟨h',hne⟩:=hinv i j h
  have li:i < M.length:=(Aa h).1
  have lj:j < M.length:=(Aa h').1
  rw [Zdj li,Zdj lj]
  have e:rep M j=rep M i:=by
   by_cases c:j < i
   ·have a:rep M i=j:=by unfold rep; rw [h]; exact if_pos c
    have b:rep M j=j:=by unfold rep; rw [h']; exact if_neg (by lia)
    rw [a,b]
   ·have a:rep M i=i:=by unfold rep; rw [h]; exact if_neg c
    have b:rep M j=i:=by unfold rep; rw [h']; exact if_pos (by lia)
    rw [a,b]
  rw [e]
noncomputable def pl (ns:List Int) (n:Nat) (x:Int):List Nat:=(List.range n).filter λi=>decide (ns[i]?=some x)
noncomputable def keys (ns:List Int):Nat->List Int
 | 0=>[]
 | n + 1=>match ns[n]? with
  | some x=>if x∈keys ns n then keys ns n else keys ns n ++ [x]
  | none=>keys ns n
theorem Xi {ns:List Int} {n:Nat} {x:Int} {i:Nat}:i∈pl ns n x ↔ i < n/\ns[i]?=some x:=by
 unfold pl
 rw [List.mem_filter,List.mem_range]
 simp
theorem Zhp (ns:List Int) (n:Nat) (x:Int):(pl ns n x).Nodup:=(List.nodup_range).sublist List.filter_sublist
theorem Zfv (ns:List Int) (n:Nat) (x:Int):(pl ns n x).Pairwise (· < ·):=(List.pairwise_lt_range).sublist List.filter_sublist
theorem Zcz {ns:List Int} {n:Nat} {x:Int} (h:ns[n]?=some x):pl ns (n + 1) x=pl ns n x ++ [n]:=by
 unfold pl
 rw [List.range_succ,List.filter_append]
 congr 1
 simp [h]
theorem Zat {ns:List Int} {n:Nat} {x:Int} (h:ns[n]?≠some x):pl ns (n + 1) x=pl ns n x:=by
 unfold pl
 rw [List.range_succ,List.filter_append]
 simp [h]
theorem Xp {ns:List Int} {n:Nat} {x:Int} (h:ns[n]?=some x):keys ns (n + 1)=if x∈keys ns n then keys ns n else keys ns n ++ [x]:=by
 show (match ns[n]? with | some x=>if x∈keys ns n then keys ns n else keys ns n ++ [x] | none=>keys ns n)=_
 rw [h]
theorem Y6 {ns:List Int}:∀ {n:Nat} {x:Int},x∈keys ns n ↔ ∃ i,i < n/\ns[i]?=some x
 | 0,x=>by simp [keys]
 | n + 1,x=>by
  have ih:=Y6 (ns:=ns) (n:=n) (x:=x)
  have e:x∈keys ns (n + 1) ↔ x∈keys ns n\/ns[n]?=some x:=by
   cases h:ns[n]? with
   | none =>
    have:keys ns (n + 1)=keys ns n:=by
     show (match ns[n]? with | some x=>if x∈keys ns n then keys ns n else keys ns n ++ [x] | none=>keys ns n)=_
     rw [h]
    rw [this]; simp
   | some y =>
    rw [Xp h]
    split
    ·constructor
     ·exact .inl
     ·rintro (z | z)
      ·exact z
      ·cases z; assumption
    ·rw [List.mem_append,List.mem_singleton]
     constructor
     ·rintro (z | z)
      ·exact .inl z
      ·exact .inr (by rw [z])
     ·rintro (z | z)
      ·exact .inl z
      ·exact .inr (by cases z; rfl)
  rw [e,ih]
  constructor
  ·rintro (⟨i,h1,h2⟩ | h)
   ·exact ⟨i,by lia,h2⟩
   ·exact ⟨n,by lia,h⟩
  ·rintro ⟨i,h1,h2⟩
   by_cases c:i=n
   ·subst c; exact .inr h2
   ·exact .inl ⟨i,by lia,h2⟩
theorem U8 (ns:List Int):∀ n,(keys ns n).length<=n
 | 0=>Nat.le_refl _
 | n + 1=>by
  have ih:=U8 ns n
  cases h:ns[n]? with
  | none =>
   have:keys ns (n + 1)=keys ns n:=by
    show (match ns[n]? with | some x=>if x∈keys ns n then keys ns n else keys ns n ++ [x] | none=>keys ns n)=_
    rw [h]
   rw [this]; lia
  | some y =>
   rw [Xp h]
   split
   ·lia
   ·rw [Ae,List.length_singleton]; lia
theorem Zld {ns:List Int} {n:Nat} {x:Int} (h:x ∉ keys ns n):pl ns n x=[]:=by
 cases e:pl ns n x with
 | nil=>rfl
 | cons a r =>
  have:a∈pl ns n x:=by rw [e]; exact List.mem_cons_self
  obtain ⟨h1,h2⟩:=Xi.mp this
  exact absurd (Y6.mpr ⟨a,h1,h2⟩) h
theorem Zau {M:List (Option Nat)} {ns:List Int} (td:TD M ns) (n:Nat) (x:Int):(pl ns n x).length<=2:=by
 match e:pl ns n x with
 | []=>simp
 | [_]=>simp
 | [_,_]=>simp
 | a :: b :: c :: r =>
  exfalso
  have nd:=Zhp ns n x
  rw [e] at nd
  have ha:=(Xi.mp (show a∈pl ns n x by rw [e]; simp)).2
  have hb:=(Xi.mp (show b∈pl ns n x by rw [e]; simp)).2
  have hc:=(Xi.mp (show c∈pl ns n x by rw [e]; simp)).2
  simp only [List.nodup_cons,List.mem_cons,not_or] at nd
  obtain ⟨⟨n1,n2,_⟩,⟨n3,_⟩,_⟩:=nd
  rcases td.eqv a b x ha hb with z | z
  ·exact n1 z
  ·rcases td.eqv a c x ha hc with y | y
   ·exact n2 y
   ·rw [z] at y
    cases y
    exact n3 rfl
theorem U3 {M:List (Option Nat)} {ns:List Int} (td:TD M ns) {x:Int} (hx:x∈keys ns ns.length) :
  (∃ a,pl ns ns.length x=[a]/\ns[a]?=some x/\M[a]?=some none)\/(∃ a b,a < b/\pl ns ns.length x=[a,b]/\ns[a]?=some x/\ns[b]?=some x/\M[a]?=some (some b)/\M[b]?=some (some a)):=by
 obtain ⟨i,h1,h2⟩:=Y6.mp hx
 have mi:i∈pl ns ns.length x:=Xi.mpr ⟨h1,h2⟩
 have l2:=Zau td ns.length x
 have st:=Zfv ns ns.length x
 match e:pl ns ns.length x with
 | []=>rw [e] at mi; simp at mi
 | [a] =>
  obtain ⟨ga,ha⟩:=Xi.mp (show a∈pl ns ns.length x by rw [e]; simp)
  refine .inl ⟨a,rfl,ha,?_⟩
  have la:a < M.length:=by rw [<- td.len]; exact ga
  cases q:M[a]? with
  | none=>rw [List.getElem?_eq_none_iff] at q; lia
  | some o =>
   cases o with
   | none=>rfl
   | some b =>
    exfalso
    have hb:ns[b]?=some x:=by rw [td.eqm a b q]; exact ha
    have mb:b∈pl ns ns.length x:=Xi.mpr ⟨(Aa hb).1,hb⟩
    rw [e,List.mem_singleton] at mb
    exact (td.inv a b q).2 mb.symm
 | [a,b] =>
  obtain ⟨ga,ha⟩:=Xi.mp (show a∈pl ns ns.length x by rw [e]; simp)
  obtain ⟨gb,hb⟩:=Xi.mp (show b∈pl ns ns.length x by rw [e]; simp)
  rw [e] at st
  have hab:a < b:=by simpa using st
  rcases td.eqv a b x ha hb with z | z
  ·lia
  ·exact .inr ⟨a,b,hab,rfl,ha,hb,z,(td.inv a b z).1⟩
 | a :: b :: c :: r=>rw [e] at l2; simp at l2
noncomputable def part (M:List (Option Nat)) (ns:List Int) (ks:List Int):List (Option Nat):=(List.range M.length).map λi=>match ns[i]? with
 | some x=>if x∈ks then M.getD i none else none
 | none=>none
theorem Xf (M:List (Option Nat)) (ns ks:List Int):(part M ns ks).length=M.length:=by unfold part; simp
theorem Jf {M:List (Option Nat)} {ns ks:List Int} (td:TD M ns) {i:Nat} {x:Int} (h:ns[i]?=some x):(part M ns ks)[i]?=some (if x∈ks then M.getD i none else none):=by
 have li:i < M.length:=by rw [<- td.len]; exact (Aa h).1
 unfold part
 rw [Ah,List.getElem?_range li]
 simp [h]
theorem Zhw {M:List (Option Nat)} {ns:List Int} (td:TD M ns):part M ns []=List.replicate M.length none:=by
 apply List.ext_getElem?
 intro i
 by_cases li:i < M.length
 ·obtain ⟨x,hx⟩:∃ x,ns[i]?=some x:=⟨_,Ac (by rw [td.len]; exact li)⟩
  rw [Jf td hx,List.getElem?_replicate,if_pos li]
  simp
 ·rw [List.getElem?_eq_none (by rw [Xf]; lia),List.getElem?_eq_none (by simp; lia)]
theorem Zhx {M:List (Option Nat)} {ns:List Int} (td:TD M ns):part M ns (keys ns ns.length)=M:=by
 apply List.ext_getElem?
 intro i
 by_cases li:i < M.length
 ·have ln:i < ns.length:=by rw [td.len]; exact li
  obtain ⟨x,hx⟩:∃ x,ns[i]?=some x:=⟨_,Ac ln⟩
  rw [Jf td hx,if_pos (Y6.mpr ⟨i,ln,hx⟩),Ad,Ac li]
  rfl
 ·rw [List.getElem?_eq_none (by rw [Xf]; lia),List.getElem?_eq_none (by lia)]
theorem Zhv {M:List (Option Nat)} {ns ks:List Int} (td:TD M ns) {x:Int} {a:Nat} (hp:pl ns ns.length x=[a]) (hm:M[a]?=some none):part M ns (ks ++ [x])=part M ns ks:=by
 apply List.ext_getElem?
 intro i
 by_cases li:i < M.length
 ·have ln:i < ns.length:=by rw [td.len]; exact li
  obtain ⟨y,hy⟩:∃ x,ns[i]?=some x:=⟨_,Ac ln⟩
  rw [Jf td hy,Jf td hy]
  by_cases c:y=x
  ·subst c
   have:i∈pl ns ns.length y:=Xi.mpr ⟨ln,hy⟩
   rw [hp,List.mem_singleton] at this
   subst this
   have:M.getD i none=none:=by rw [Ad,hm]; rfl
   rw [this]
   simp
  ·simp [c]
 ·rw [List.getElem?_eq_none (by rw [Xf]; lia),List.getElem?_eq_none (by rw [Xf]; lia)]
theorem Zf0 {M:List (Option Nat)} {ns ks:List Int} (td:TD M ns) {x:Int} {a b:Nat} (hp:pl ns ns.length x=[a,b]) (hab:a < b) (ha:M[a]?=some (some b)) (hb:M[b]?=some (some a)) :
  part M ns (ks ++ [x])=((part M ns ks).set a (some b)).set b (some a):=by
 have la:a < M.length:=(Aa ha).1
 have lb:b < M.length:=(Aa hb).1
 have na:=(Xi.mp (show a∈pl ns ns.length x by rw [hp]; simp)).2
 have nb:=(Xi.mp (show b∈pl ns ns.length x by rw [hp]; simp)).2
 apply List.ext_getElem?
 intro i
 by_cases li:i < M.length
 ·have ln:i < ns.length:=by rw [td.len]; exact li
  obtain ⟨y,hy⟩:∃ x,ns[i]?=some x:=⟨_,Ac ln⟩
  rw [Jf td hy]
  by_cases cb:i=b
  ·subst cb
   rw [nb] at hy; cases hy
   rw [List.getElem?_set_self (by rw [List.length_set,Xf]; exact lb),if_pos (by simp),Ad,hb]
   rfl
  ·rw [List.getElem?_set_ne (Ne.symm cb)]
   by_cases ca:i=a
   ·subst ca
    rw [na] at hy; cases hy
    rw [List.getElem?_set_self (by rw [Xf]; exact la),if_pos (by simp),Ad,ha]
    rfl
   ·rw [List.getElem?_set_ne (Ne.symm ca),Jf td hy]
    have:y≠x:=by
     rintro rfl
     have:i∈pl ns ns.length y:=Xi.mpr ⟨ln,hy⟩
     rw [hp] at this
     simp at this
     lia
    simp [this]
 ·rw [List.getElem?_eq_none (by rw [Xf]; lia),List.getElem?_eq_none (by rw [List.length_set,List.length_set,Xf]; lia)]
noncomputable def nV (i:Nat):V:=.int (i:Int)
theorem W8 {g:Int->V} {y:Int}:∀ {ks:List Int},valV (ks.map λx=>((Sum.inl x:Key),g x)) (Sum.inl y)=if y∈ks then some (g y) else none
 | []=>by simp [valV]
 | k :: r=>by
  have ih:=W8 (g:=g) (y:=y) (ks:=r)
  unfold valV at ih ⊢
  rw [List.map_cons,List.find?_cons]
  by_cases c:k=y
  ·subst c
   simp
  ·have:(decide ((Sum.inl k:Key)=Sum.inl y))=false:=by
    rw [decide_eq_false_iff_not]
    intro z
    cases z
    exact c rfl
   simp only [this]
   rw [ih]
   have:(y∈k :: r) ↔ y∈r:=by
    rw [List.mem_cons]
    exact ⟨λz=>z.elim (λw=>absurd w.symm c) id,.inr⟩
   simp only [this]
theorem Zcx {g:Int->V} {y:Int} {v:V} {ks:List Int} (h:y ∉ ks):putK (ks.map λx=>((Sum.inl x:Key),g x)) (Sum.inl y) v=(ks.map λx=>((Sum.inl x:Key),g x)) ++ [(Sum.inl y,v)]:=by
 unfold putK
 rw [if_neg]
 intro z
 rw [List.any_eq_true] at z
 obtain ⟨kv,h1,h2⟩:=z
 obtain ⟨x,hx,rfl⟩:=List.mem_map.mp h1
 have:(Sum.inl x:Key)=Sum.inl y:=of_decide_eq_true h2
 cases this
 exact h hx
theorem Zjs {g:Int->V} {y:Int} {v:V} {ks:List Int} (h:y∈ks):putK (ks.map λx=>((Sum.inl x:Key),g x)) (Sum.inl y) v=ks.map λx=>((Sum.inl x:Key),if x=y then v else g x):=by
 unfold putK
 rw [if_pos]
 ·rw [List.map_map]
  apply List.map_congr_left
  intro x hx
  show (if (Sum.inl x:Key)=Sum.inl y then ((Sum.inl x:Key),v) else (Sum.inl x,g x))=_
  by_cases c:x=y
  ·subst c; simp
  ·rw [if_neg (λz=>by cases z; exact c rfl),if_neg c]
 ·rw [List.any_eq_true]
  exact ⟨_,List.mem_map.mpr ⟨y,h,rfl⟩,by simp⟩
theorem Z9 {α:Type} {f:α->V} {l:List α} {i:Nat} {x:α} (h:l[i]?=some x):atI (l.map f) (i:Int)=some (f x):=Yo (by rw [Ah,h]; rfl)
theorem Wu {H:Hp} {p q:Addr} {o:HO} (h:upd H p o q=none):q≠p/\H q=none:=by
 by_cases c:q=p
 ·subst c; rw [Zc] at h; cases h
 ·rw [Ze c] at h; exact ⟨c,h⟩
noncomputable def after (p:Int):Int:=if p % 3=2 then p - 2 else p + 1
noncomputable def before (p:Int):Int:=if p % 3=0 then p + 2 else p - 1
noncomputable def mvI (left:Bool) (a b:Nat) (z:Int):Int :=
 if z=after a then (if left then before b else before a) else if z=before b then (if left then after b else after a) else if z=after b then (if left then before a else before b) else if z=before a then (if left then after a else after b) else z
theorem Zg5 (p:Nat):after p / 3=(p:Int) / 3/\after p≠p/\0<=after p:=by unfold after; split <;> lia
theorem Zew (p:Nat):before p / 3=(p:Int) / 3/\before p≠p/\0<=before p:=by unfold before; split <;> lia
noncomputable def mvN (left:Bool) (i j z:Nat):Nat:=(mvI left i j z).toNat
noncomputable def side (p k:Nat):Nat:=p - p % 3 + (p + k) % 3
theorem Zjk {p k n:Nat} (h:p < 3 * n):side p k < 3 * n:=by unfold side; omega
theorem F2 (p k:Nat):side p k / 3=p / 3:=by unfold side; omega
noncomputable def Xk (M:List (Option Nat)) (p:Int):Bool:=decide (0<=p/\p < M.length) && (M.getD p.toNat none).isSome
noncomputable def Wi (M:List (Option Nat)) (a p:Int):Bool:=match M.getD a.toNat none with
 | some m=>decide (p / 3=(m:Int) / 3) && !decide (p=(m:Int))
 | none=>false
noncomputable def rot {α:Type} (ws:List α) (s:Nat):List α:=ws.drop s ++ ws.take s
noncomputable def W1 (M:List (Option Nat)) (ws vs:List Int):List Bool:=(ws.zip vs).map λp=>Wi M p.1 p.2
noncomputable def Wm (M:List (Option Nat)) (ws:List Int):Bool:=!ws.isEmpty && ((ws.map (Xk M)).all id && (W1 M ws (rot ws (1 % ws.length))).all id)
theorem J7 {α:Type} (ws:List α) {s:Nat} (h:s<=ws.length):(rot ws s).length=ws.length:=by
 unfold rot
 rw [Ae,List.length_drop,Ai]
 lia
theorem Zam {α:Type} (ws:List α):rot ws 0=ws:=by unfold rot; simp
theorem Kx {α:Type} {ws:List α} {s k:Nat} (hs:s < ws.length) (hk:k < ws.length):(rot ws s)[k]?=ws[(k + s) % ws.length]?:=by
 unfold rot
 by_cases c:k < ws.length - s
 ·rw [List.getElem?_append_left (by rw [List.length_drop]; exact c),List.getElem?_drop,Nat.mod_eq_of_lt (by lia),Nat.add_comm]
 ·rw [List.getElem?_append_right (by rw [List.length_drop]; lia),List.length_drop,List.getElem?_take_of_lt (by lia)]
  have:(k + s) % ws.length=k - (ws.length - s):=by
   rw [show k + s=(k - (ws.length - s)) + ws.length by lia,Nat.add_mod_right,Nat.mod_eq_of_lt (by lia)]
  rw [this]
structure Pl (M:List (Option Nat)) (ws:List Nat):Prop where
 ne:ws≠[]
 has:∀ p∈ws,∃ m,M[p]?=some (some m)
 nxt:∀ (k:Nat) (a p:Nat),ws[k]?=some a->ws[(k + 1) % ws.length]?=some p->∀ m,M[a]?=some (some m)->p / 3=m / 3/\p≠m
noncomputable abbrev wI (ws:List Nat):List Int:=ws.map λ(x:Nat)=>(x:Int)
theorem G1 {M:List (Option Nat)} {p:Nat}:Xk M (p:Int)=true ↔ ∃ m,M[p]?=some (some m):=by
 unfold Xk
 rw [Bool.and_eq_true,decide_eq_true_eq,Int.toNat_natCast]
 constructor
 ·rintro ⟨⟨_,h1⟩,h2⟩
  have h1:p < M.length:=by lia
  rw [Ad,Ac h1] at h2
  obtain ⟨m,hm⟩:=Option.isSome_iff_exists.mp h2
  exact ⟨m,by rw [Ac h1]; exact congrArg some hm⟩
 ·rintro ⟨m,hm⟩
  have h1:p < M.length:=(Aa hm).1
  exact ⟨⟨by lia,by lia⟩,by rw [Ad,hm]; rfl⟩
theorem Ki {M:List (Option Nat)} {a p m:Nat} (h:M[a]?=some (some m)):Wi M (a:Int) (p:Int)=true ↔ p / 3=m / 3/\p≠m:=by
 unfold Wi
 rw [Int.toNat_natCast,Ad,h]
 show (decide ((p:Int) / 3=(m:Int) / 3) && !decide ((p:Int)=(m:Int)))=true ↔ _
 rw [Bool.and_eq_true,decide_eq_true_eq,Bool.not_eq_true',decide_eq_false_iff_not]
 lia
theorem Zco {M:List (Option Nat)} {ws vs:List Int} (hl:ws.length=vs.length):(W1 M ws vs).all id=true ↔ ∀ (k:Nat) (a p:Int),ws[k]?=some a->vs[k]?=some p->Wi M a p=true:=by
 unfold W1
 rw [List.all_eq_true]
 constructor
 ·intro h k a p ha hp
  refine h (Wi M a p) (List.mem_map.mpr ⟨(a,p),?_,rfl⟩)
  exact List.mem_of_getElem? (i:=k) (by rw [List.getElem?_zip_eq_some]; exact ⟨ha,hp⟩)
 ·intro h b hb
  obtain ⟨⟨a,p⟩,hm,rfl⟩:=List.mem_map.mp hb
  obtain ⟨k,hk⟩:=List.getElem?_of_mem hm
  rw [List.getElem?_zip_eq_some] at hk
  exact h k a p hk.1 hk.2
theorem Zfu {M:List (Option Nat)} {ws:List Nat}:Wm M (wI ws)=true ↔ Pl M ws:=by
 have hl:(wI ws).length=ws.length:=by simp
 unfold Wm
 rw [Bool.and_eq_true,Bool.and_eq_true,Bool.not_eq_true',hl]
 constructor
 ·rintro ⟨h0,h1,h2⟩
  have hne:ws≠[]:=by
   rintro rfl
   cases h0
  have hpos:0 < ws.length:=by cases ws with | nil=>exact absurd rfl hne | cons _ _=>simp
  have hh:∀ p∈ws,∃ m,M[p]?=some (some m):=λp hp=>by
   refine G1.mp (List.all_eq_true.mp h1 _ (List.mem_map.mpr ⟨(p:Int),List.mem_map.mpr ⟨p,hp,rfl⟩,rfl⟩))
  refine ⟨hne,hh,λk a p ha hp m hm=>?_⟩
  have hs:1 % ws.length < (wI ws).length:=by rw [hl]; exact Nat.mod_lt _ hpos
  have hk:k < (wI ws).length:=by rw [hl]; exact (Aa ha).1
  refine (Ki hm).mp ((Zco (by rw [J7 _ (Nat.le_of_lt hs)])).mp h2 k a p (by rw [Ah,ha]; rfl) ?_)
  rw [Kx hs hk,hl,show (k + 1 % ws.length) % ws.length=(k + 1) % ws.length by rw [Nat.add_mod_mod],Ah,hp]
  rfl
 ·rintro ⟨h0,h1,h2⟩
  have hpos:0 < ws.length:=by cases ws with | nil=>exact absurd rfl h0 | cons _ _=>simp
  have hs:1 % ws.length < (wI ws).length:=by rw [hl]; exact Nat.mod_lt _ hpos
  refine ⟨by cases ws with | nil=>exact absurd rfl h0 | cons _ _=>rfl,?_,?_⟩
  ·rw [List.all_eq_true]
   intro b hb
   obtain ⟨p',hp',rfl⟩:=List.mem_map.mp hb
   obtain ⟨p,hp,rfl⟩:=List.mem_map.mp hp'
   exact G1.mpr (h1 p hp)
  ·refine (Zco (by rw [J7 _ (Nat.le_of_lt hs)])).mpr λk a p ha hp=>?_
   have hk:k < (wI ws).length:=(Aa ha).1
   rw [Kx hs hk,hl,show (k + 1 % ws.length) % ws.length=(k + 1) % ws.length by rw [Nat.add_mod_mod]] at hp
   rw [Ah] at ha hp
   cases ea:ws[k]? with
   | none=>rw [ea] at ha; cases ha
   | some a' =>
    cases ep:ws[(k + 1) % ws.length]? with
    | none=>rw [ep] at hp; cases hp
    | some p' =>
     rw [ea] at ha; cases ha
     rw [ep] at hp; cases hp
     obtain ⟨m,hm⟩:=h1 a' (List.mem_of_getElem? ea)
     exact (Ki hm).mpr (h2 k a' p' ea ep m hm)
structure Ch (M:List (Option Nat)) (row:List Nat):Prop where
 has:∀ p∈row,∃ m,M[p]?=some (some m)
 nxt:∀ (k:Nat) (a p m:Nat),row[k]?=some a->row[k + 1]?=some p->M[a]?=some (some m)->p / 3=m / 3/\p≠m
theorem Ch.one {M:List (Option Nat)} {p m:Nat} (h:M[p]?=some (some m)):Ch M [p]:=by
 refine ⟨λq hq=>?_,λk a q m' _ hq=>?_⟩
 ·rw [List.mem_singleton] at hq; subst hq; exact ⟨m,h⟩
 ·simp at hq
theorem Ch.snoc {M:List (Option Nat)} {row:List Nat} {a p m:Nat} (h:Ch M row) (hl:row.getLast?=some a) (hm:M[a]?=some (some m)) (h1:p / 3=m / 3) (h2:p≠m) (hp:∃ q,M[p]?=some (some q)):Ch M (row ++ [p]):=by
 refine ⟨λq hq=>?_,λk b q m' hb hq hm'=>?_⟩
 ·rcases List.mem_append.mp hq with z | z
  ·exact h.has q z
  ·rw [List.mem_singleton] at z; subst z; exact hp
 ·by_cases c:k + 1 < row.length
  ·rw [List.getElem?_append_left c] at hq
   rw [List.getElem?_append_left (by lia)] at hb
   exact h.nxt k b q m' hb hq hm'
  ·have hk:k + 1 < (row ++ [p]).length:=(Aa hq).1
   rw [Ae,List.length_singleton] at hk
   have hk:k + 1=row.length:=by lia
   rw [List.getElem?_append_right (by lia),hk] at hq
   have:q=p:=by simpa using hq.symm
   subst this
   rw [List.getElem?_append_left (by lia)] at hb
   rw [List.getLast?_eq_getElem?,show row.length - 1=k by lia,hb] at hl
   cases hl
   rw [hm] at hm'
   cases hm'
   exact ⟨h1,h2⟩
theorem Ch.cut {M:List (Option Nat)} {row:List Nat} {s e a:Nat} (h:Ch M row) (hse:s < e) (h1:row[s]?=some a) (h2:row[e]?=some a):Pl M ((row.drop s).take (e - s)):=by
 have he:e < row.length:=(Aa h2).1
 have hl:((row.drop s).take (e - s)).length=e - s:=by rw [Ai,List.length_drop]; lia
 have gt:∀ k,k < e - s->((row.drop s).take (e - s))[k]?=row[s + k]?:=λk hk=>by rw [List.getElem?_take_of_lt hk,List.getElem?_drop]
 refine ⟨λz=>by rw [z] at hl; simp at hl; lia,λp hp=>?_,λk b p hb hp m hm=>?_⟩
 ·exact h.has p (List.mem_of_mem_drop (List.mem_of_mem_take hp))
 ·rw [hl] at hp
  have hk:k < e - s:=by have:=(Aa hb).1; rw [hl] at this; exact this
  rw [gt k hk] at hb
  by_cases c:k + 1 < e - s
  ·rw [Nat.mod_eq_of_lt c,gt _ c] at hp
   exact h.nxt (s + k) b p m hb (by rw [show s + k + 1=s + (k + 1) by lia]; exact hp) hm
  ·have hk:k + 1=e - s:=by lia
   rw [hk,Nat.mod_self,gt 0 (by lia),Nat.add_zero,h1] at hp
   cases hp
   exact h.nxt (s + k) b a m hb (by rw [show s + k + 1=e by lia]; exact h2) hm
end KT
namespace L2
open PySem PySem.Spec PyProof.Rows
end L2
namespace HL
open PySem PyProof.Rows HT
section
open PySem.SeqAt
open PySem.AutoSeq1 (wpAny_loadPart')
open PySem.MeetsSeq PySem.MeetsSeq2 PySem.MeetsSeq3
theorem Zdb {us:List Value} {ns:List Int} (h:IntsAre us ns):∀ {i:Nat},i < us.length->∃ t,us[i]?=some (.int (ns.getD i 0) t):=by
 induction h with
 | nil=>intro i hi; simp at hi
 | cons n t h ih =>
  intro i hi
  cases i with
  | zero=>exact ⟨t,rfl⟩
  | succ i=>obtain ⟨t',e⟩:=ih (i:=i) (by simpa using hi); exact ⟨t',e⟩
theorem Zj6 {a b:List Int} {i:Nat} (h:a.length<=i\/b.length<=i):lexLt (a.drop i) (b.drop i)=decide (a.length - i < b.length - i):=by
 by_cases ha:a.length<=i
 ·rw [List.drop_eq_nil_of_le ha]
  by_cases hb:b.length<=i
  ·rw [List.drop_eq_nil_of_le hb,Vg]; exact (decide_eq_false (by lia)).symm
  ·cases e:b.drop i with
   | nil=>exact absurd (List.drop_eq_nil_iff.mp e) hb
   | cons c t=>rw [Ji]; exact (decide_eq_true (by lia)).symm
 ·have hb:b.length<=i:=by lia
  rw [List.drop_eq_nil_of_le hb]
  cases e:a.drop i with
  | nil=>exact absurd (List.drop_eq_nil_iff.mp e) ha
  | cons c t=>rw [Wh]; exact (decide_eq_false (by lia)).symm
theorem Zdk {a:List Int} {i:Nat} (h:i < a.length):a.drop i=a.getD i 0 :: a.drop (i + 1):=by
 rw [List.drop_eq_getElem_cons h,Ad,Ac h]; rfl
theorem Zj3 (l b:Addr) (xs ys:Array Value) (n n2:Nat) (dd dd2:Option Addr) (sl sl2:Array (Option Value)) (ns ms:List Int) (hi:IntsAre xs.toList ns) (hj:IntsAre ys.toList ms) (k:Nat) :
  ∀ i:Nat,i<=xs.size->i<=ys.size->min xs.size ys.size - i=k->Meets (Builtin.«list.__eq__.loop» ⟨[.ref l,.ref b,rawInt i,rawInt 0],[]⟩)
   (λ_ R s=>s.heap.get? l=some { cls:=.type "list",dict:=dd,data:=.seq xs n,slots:=sl }/\s.heap.get? b=some { cls:=.type "list",dict:=dd2,data:=.seq ys n2,slots:=sl2 }/\R (.ok (.ret (.bool (lexLt (ns.drop i) (ms.drop i))))) s):=by
 have z1:xs.size=ns.length:=by rw [<- hi.length]; simp
 have z2:ys.size=ms.length:=by rw [<- hj.length]; simp
 induction k with
 | zero =>
  intro i b1 b2 hk prog w A R s h
  obtain ⟨hp,g,d,tk,os⟩:=s
  obtain ⟨hl,hb,h⟩:=h
  rw [Zj6 (by lia)] at h
  have hv:(decide (ns.length - i < ms.length - i))=decide (xs.size < ys.size):=by
   apply decide_eq_decide.mpr
   lia
  rw [hv] at h
  wp_walk using wpAny_loadPart' hl,wpAny_loadPart' hb
  by_cases c:i < xs.size
  ·have e1:xs[((i:Nat):Int).toNat]?=some xs[i]:=by simp [c]
   have e2:ys[((i:Nat):Int).toNat]?=none:=by simp; lia
   rw [e1,e2]
   wp_walk using wpAny_loadPart' hl,wpAny_loadPart' hb
   exact h
  ·have e1:xs[((i:Nat):Int).toNat]?=none:=by simp; lia
   rw [e1]
   wp_walk using wpAny_loadPart' hl,wpAny_loadPart' hb
   exact h
 | succ k ih =>
  intro i b1 b2 hk prog w A R s h
  obtain ⟨hp,g,d,tk,os⟩:=s
  obtain ⟨hl,hb,h⟩:=h
  have c1:i < xs.size:=by lia
  have c2:i < ys.size:=by lia
  obtain ⟨t1,q1⟩:=Zdb hi (i:=i) (by simpa using c1)
  obtain ⟨t2,q2⟩:=Zdb hj (i:=i) (by simpa using c2)
  have e1:xs[((i:Nat):Int).toNat]?=some (.int (ns.getD i 0) t1):=by simpa using q1
  have e2:ys[((i:Nat):Int).toNat]?=some (.int (ms.getD i 0) t2):=by simpa using q2
  have hc:((i:Int) + 1)=((i + 1:Nat):Int):=by push_cast; rfl
  rw [Zdk (a:=ns) (i:=i) (by lia),Zdk (a:=ms) (i:=i) (by lia),J4] at h
  wp_walk using wpAny_loadPart' hl,wpAny_loadPart' hb
  rw [e1,e2]
  obtain ⟨ev,he,hiff⟩:=Zig A.in1 ⟨hp,g,d,tk,os⟩ (ns.getD i 0) t1 (ms.getD i 0) t2
  refine Al (he prog w _ _ ?_)
  cases ev with
  | true =>
   rw [if_pos (hiff.mp rfl)] at h
   wp_walk
   rw [hc]
   refine ⟨plainId_quiet plain_eq_loop _,codeAny_builtin entry_eq_loop ?_⟩
   rw [Around.under_plainId plain_eq_loop _]
   exact ih (i + 1) (by lia) (by lia) (by lia) prog w A R _ ⟨hl,hb,h⟩
  | false =>
   rw [if_neg (λq=>absurd (hiff.mpr q) Bool.false_ne_true)] at h
   wp_walk using wpAny_loadPart' hl,wpAny_loadPart' hb
   rw [e1,e2]
   have hri:=Zhm A.in1 ⟨hp,g,d,tk,os⟩ (ns.getD i 0) t1 (ms.getD i 0) t2 prog w
   wp_walk using hri
   exact h
theorem list_lt (l b:Addr) (xs ys:Array Value) (n n2:Nat) (dd dd2:Option Addr) (sl sl2:Array (Option Value)) (ns ms:List Int) (hi:IntsAre xs.toList ns) (hj:IntsAre ys.toList ms) :
  Meets (Builtin.«list.__lt__» ⟨[.ref l,.ref b],[]⟩)
   (λ_ R s=>s.heap.get? l=some { cls:=.type "list",dict:=dd,data:=.seq xs n,slots:=sl }/\s.heap.get? b=some { cls:=.type "list",dict:=dd2,data:=.seq ys n2,slots:=sl2 }/\R (.ok (.ret (.bool (lexLt ns ms)))) s):=by
 intro prog w A R s h
 obtain ⟨hp,g,d,tk,os⟩:=s
 obtain ⟨hl,hb,h⟩:=h
 have f3:=AutoSeq1.sub_list_list
 wp_walk using wpAny_loadPart' hl,wpAny_loadPart' hb
 refine ⟨plainId_quiet plain_eq_loop _,codeAny_builtin entry_eq_loop ?_⟩
 rw [Around.under_plainId plain_eq_loop _]
 exact Zj3 l b xs ys n n2 dd dd2 sl sl2 ns ms hi hj _ 0 (Nat.zero_le _) (Nat.zero_le _) rfl prog w A R _ ⟨hl,hb,h⟩
end
section
variable {prog:Program} {w:World} {A:Around} {E:Value->Shared->Prop} {s:Shared}
theorem lt_lists {l b:Addr} {xs ys:Array Value} {ns ms:List Int} {Q:Value->Shared->Prop} (hl:s.heap.IsList l xs) (hb:s.heap.IsList b ys) (hi:IntsAre xs.toList ns) (hj:IntsAre ys.toList ms)
  (hu:A.units < cLine) (h:Q (.bool (lexLt ns ms)) s):wpAny (model prog w) A (richCompare .Lt (.ref l) (.ref b)) Q E s:=by
 obtain ⟨⟨cls,dd,data,sl⟩,ho,hc,n,hd⟩:=id hl
 obtain ⟨⟨cls2,dd2,data2,sl2⟩,ho2,hc2,n2,hd2⟩:=id hb
 simp only at hc hd hc2 hd2
 subst hc hd hc2 hd2
 exact richCompare_meets_room (op:=.Lt) ⟨_,ho,rfl⟩ ⟨_,ho2,rfl⟩ PySem.F.slot_list_lt PySem.F.entry_list_lt (PySem.F.args_list_lt_2 _ _) (list_lt l b xs ys n n2 dd dd2 sl sl2 ns ms hi hj)
  ⟨ho,ho2,show Value.bool (lexLt ns ms)≠Value.notImplemented/\Q (.bool (lexLt ns ms)) s from ⟨(λx=>nomatch x),h⟩⟩ hu
end
section
variable {prog:Program} {w:World} {A:Around} {R:Result->Shared->Prop} {I:Addr} {fp wr:List Addr} {n:Nat} {P:Nat->Value->Prop} {St:Nat->Heap->Prop}
theorem Ue {g:Heap} {B:Addr} {f:Obj->Obj} (b:Addr) (o:Obj) (bB:b≠B) (e:g.get? b=some o):(g.update B f).get? b=some o:=(Heap.get?_update_other _ _ (Ne.symm bB)).trans e
noncomputable def CmpIn (prog:Program) (w:World) (A:Around) (J:Heap->Prop) (P:Nat->Value->Prop) (bt:Nat->Nat->Bool):Prop :=
 ∀ i j vi vj (s:Shared) (Q:Value->Shared->Prop) (E:Value->Shared->Prop),J s.heap->P i vi->P j vj->Q (.bool (bt i j)) s->wpAny (model prog w) A (richCompare .Lt vi vj) Q E s
theorem Zlo {J:Heap->Prop} (V:Walks prog w A.in1 I fp wr n P St) (bt:Nat->Nat->Bool) (cmp:CmpIn prog w A.in1 J P bt) (B:Addr) (nB:B ∉ fp) (stay:∀ h h':Heap,J h->(∀ b o,b ∉ wr->b≠B->h.get? b=some o->h'.get? b=some o)->J h') :
  ∀ (k j:Nat) (s:Shared) (u:Value) (c:Nat),n - (j + 1)=k->j + 1<=n->St (j + 1) s.heap->J s.heap->P (argBest bt j) u->s.heap.get? B=some { cls:=.type "list",dict:=none,data:=.seq #[u,u] c,slots:=#[] } ->
  (∀ v h' tk,P (argBest bt (n - 1)) v->(∀ b o,b ∉ wr->b≠B->s.heap.get? b=some o->h'.get? b=some o)->R (.ok (.ret v)) { s with heap:=h',toks:=tk }) ->
  codeAny (model prog w) A (.builtin "min.loop" ⟨[.ref I,.none,.ref B],[]⟩) R s:=by
 have nW:B ∉ wr:=λz=>nB (V.sub _ z)
 have nm:(toString "min" ++ toString ".loop":String)="min.loop":=by decide
 intro k
 induction k with
 | zero =>
  intro j s u c ek lj st hJ pu hB out
  have last:j + 1=n:=by lia
  refine codeAny_builtin F.entry_min_loop ?_; rw [Around.under_plainId F.plain_min_loop _]
  show wpAny _ A.in1 (seqItems? (.ref B) >>= _) _ _ s
  refine Al (wpAny_seqItems hB rfl ?_); show wpAny _ A.in1 (tryCatch (pyNext (.ref I)) _ >>= _) _ _ s
  refine Al (wpAny_tryCatch (V.done s _ _ (last ▸ st) λg tk kp=>?_))
  have hB2:=kp B _ nW hB
  show wpAny _ A.in1 (updateSeq B (λ_=>#[]) >>= _) _ _ _
  refine Al (wpAny_updateSeq hB2 rfl (Al (wpAny_letGo (wpAny_pure ?_))))
  exact out u _ tk (by rw [<- last]; exact pu) λb o bw bB e=>(Heap.get?_update_other _ _ (Ne.symm bB)).trans (kp b o bw e)
 | succ k ih =>
  intro j s u c ek lj st hJ pu hB out
  have more:j + 1 < n:=by lia
  refine codeAny_builtin F.entry_min_loop ?_; rw [Around.under_plainId F.plain_min_loop _]
  show wpAny _ A.in1 (seqItems? (.ref B) >>= _) _ _ s
  refine Al (wpAny_seqItems hB rfl ?_); show wpAny _ A.in1 (tryCatch (pyNext (.ref I)) _ >>= _) _ _ s
  refine Al (wpAny_tryCatch (V.item (j + 1) s _ _ more st λv g tk pv st2 kp=>?_))
  have hB2:=kp B _ nW hB
  have hJ2:J g:=stay _ _ hJ λb o bw _ e=>kp b o bw e
  show wpAny _ A.in1 (tryCatch (holding [v,v] (richCompare .Lt v u >>= _)) _ >>= _) _ _ _
  refine Al (wpAny_tryCatch (wpAny_holding (Al (cmp (j + 1) (argBest bt j) v u _ _ _ hJ2 pv pu ?_))))
  refine Al (wpAny_holding (wpAny_truthy_bool ?_)); refine Al (wpAny_letGo (wpAny_pure ?_))
  cases less:bt (j + 1) (argBest bt j) with
  | true =>
   simp only [if_true]
   refine Al (wpAny_updateSeq hB2 rfl (Al (wpAny_letGo ?_))); rw [nm]
   refine wpAny_pure ⟨plainId_quiet F.plain_min_loop _,ih (j + 1) _ v _ (by lia) more (V.frame _ _ _ st2 λb bf o e=>Ue b o (λz=>nB (z ▸ bf)) e) (stay _ _ hJ2 λb o _ bB e=>Ue b o bB e) (by simp only [argBest,less,if_true]; exact pv) (Heap.get?_update_self _ hB2 rfl) λv' g' tk' pv' kp'=>?_⟩
   exact out v' g' tk' pv' λb o bw bB e=>kp' b o bw bB (Ue b o bB (kp b o bw e))
  | false =>
   simp only [Bool.false_eq_true,if_false]
   refine Al (wpAny_letGo ?_); rw [nm]
   refine wpAny_pure ⟨plainId_quiet F.plain_min_loop _,ih (j + 1) _ u c (by lia) more st2 hJ2 (by simp only [argBest,less,Bool.false_eq_true,if_false]; exact pu) hB2 λv' g' tk' pv' kp'=>?_⟩
   exact out v' g' tk' pv' λb o bw bB e=>kp' b o bw bB (kp b o bw e)
theorem Gv {J:Heap->Prop} (V:Walks prog w A.in1 I fp wr n P St) (bt:Nat->Nat->Bool) (cmp:CmpIn prog w A.in1 J P bt) (B:Addr) (nB:B ∉ fp) (stay:∀ h h':Heap,J h->(∀ b o,b ∉ wr->b≠B->h.get? b=some o->h'.get? b=some o)->J h') (hn:0 < n) {s:Shared} {c:Nat} (st:St 0 s.heap) (hJ:J s.heap)
  (hB:s.heap.get? B=some { cls:=.type "list",dict:=none,data:=.seq #[] c,slots:=#[] })
  (out:∀ v h' tk,P (argBest bt (n - 1)) v->(∀ b o,b ∉ wr->b≠B->s.heap.get? b=some o->h'.get? b=some o)->R (.ok (.ret v)) { s with heap:=h',toks:=tk }) :
  codeAny (model prog w) A (.builtin "min.loop" ⟨[.ref I,.none,.ref B],[]⟩) R s:=by
 have nW:B ∉ wr:=λz=>nB (V.sub _ z)
 have nm:(toString "min" ++ toString ".loop":String)="min.loop":=by decide
 refine codeAny_builtin F.entry_min_loop ?_; rw [Around.under_plainId F.plain_min_loop _]
 show wpAny _ A.in1 (seqItems? (.ref B) >>= _) _ _ s
 refine Al (wpAny_seqItems hB rfl ?_); show wpAny _ A.in1 (tryCatch (pyNext (.ref I)) _ >>= _) _ _ s
 refine Al (wpAny_tryCatch (V.item 0 s _ _ hn st λv g tk pv st2 kp=>?_))
 have hB2:=kp B _ nW hB
 have hJ2:J g:=stay _ _ hJ λb o bw _ e=>kp b o bw e
 show wpAny _ A.in1 (updateSeq B (λ_=>#[v,v]) >>= _) _ _ _
 refine Al (wpAny_updateSeq hB2 rfl ?_); rw [nm]
 refine wpAny_pure ⟨plainId_quiet F.plain_min_loop _,Zlo V bt cmp B nB stay _ 0 _ v _ rfl hn (V.frame _ _ _ st2 λb bf o e=>Ue b o (λz=>nB (z ▸ bf)) e) (stay _ _ hJ2 λb o _ bB e=>Ue b o bB e) pv (Heap.get?_update_self _ hB2 rfl) λv' g' tk' pv' kp'=>?_⟩
 exact out v' g' tk' pv' λb o bw bB e=>kp' b o bw bB (Ue b o bB (kp b o bw e))
end
section
variable {prog:Program} {w:World} {A:Around} {E:Value->Shared->Prop} {s:Shared}
theorem min_walk {x:Value} {Q:Value->Shared->Prop} (h:wpAny (model prog w) A.in1 (pyIter x) (λit s₂=>∃ I fp wr n P St bt J,it=.ref I/\Walks prog w A.in1 I fp wr n P St/\St 0 s₂.heap/\(∀ b∈fp,b < s₂.heap.objs.size)/\0 < n/\CmpIn prog w A.in1 J P bt /\
   J s₂.heap/\(∀ h h':Heap,J h->(∀ b o,b ∉ wr->b≠s₂.heap.objs.size->h.get? b=some o->h'.get? b=some o)->J h') /\
   ∀ v h' tk,P (argBest bt (n - 1)) v->(∀ b o,b ∉ wr->s₂.heap.get? b=some o->h'.get? b=some o)->Q v { s₂ with heap:=h',toks:=tk }) E s) :
  wpAny (model prog w) A (call (.builtin "min") [x]) Q E s:=by
 have nm:(toString "min" ++ toString ".loop":String)="min.loop":=by decide
 refine call_function_tree F.kind_min F.plain_min F.entry_min (F.args_min1 _) ?_
 show wpAny _ A.in1 (Builtin.Builtins.bindParams "min" ["key","default"] 0 ⟨[],[]⟩ >>= _) _ _ s
 have none2:Builtin.Builtins.bindParams "min" ["key","default"] 0 ⟨[],[]⟩=pure [none,none]:=rfl
 refine Al (wpAny_of_eq none2 ?_); refine Al (wpAny_pure ?_)
 refine Al (wpAny_mono h (λit s₂ q=>?_) λ_ _ z=>z)
 obtain ⟨I,fp,wr,n,P,St,bt,J,rfl,V,st,lo,hn,cmp,hJ,stay,out⟩:=q
 refine Al (wpAny_newObj_type ?_)
 have nB:s₂.heap.objs.size ∉ fp:=λz=>Nat.lt_irrefl _ (lo _ z)
 have hJ2:=stay _ _ hJ λb o _ _ e=>Ak { cls:=.type "list",data:=.seq #[] } e
 rw [nm]
 refine wpAny_pure ⟨plainId_quiet F.plain_min_loop _,Gv V bt cmp s₂.heap.objs.size nB stay hn (V.frame _ _ _ st λb _ o e=>Ak _ e) hJ2 (Heap.get?_push_size _ rfl) λv g tk pv kp=>?_⟩
 exact out v g tk pv λb o bw e=>kp b o bw (Nat.ne_of_lt (Heap.lt_size e)) (Ak _ e)
theorem min_pair {a b:Value} {Q:Value->Shared->Prop} (h:wpAny (model prog w) A.in1 (pyIter (.ref s.heap.objs.size)) (λit s₂=>∃ I fp wr n P St bt J,it=.ref I/\Walks prog w A.in1 I fp wr n P St/\St 0 s₂.heap/\(∀ b∈fp,b < s₂.heap.objs.size)/\0 < n/\CmpIn prog w A.in1 J P bt /\
   J s₂.heap/\(∀ h h':Heap,J h->(∀ b o,b ∉ wr->b≠s₂.heap.objs.size->h.get? b=some o->h'.get? b=some o)->J h') /\
   ∀ v h' tk,P (argBest bt (n - 1)) v->(∀ b o,b ∉ wr->s₂.heap.get? b=some o->h'.get? b=some o)->Q v { s₂ with heap:=h',toks:=tk }) E
   { s with heap:=s.heap.push { cls:=.type "tuple",data:=.seq #[a,b] } }):wpAny (model prog w) A (call (.builtin "min") [a,b]) Q E s:=by
 have nm:(toString "min" ++ toString ".loop":String)="min.loop":=by decide
 refine call_function_tree F.kind_min F.plain_min F.entry_min (F.args_min2 _ _) ?_
 show wpAny _ A.in1 (Builtin.Builtins.bindParams "min" ["key","default"] 0 ⟨[],[]⟩ >>= _) _ _ s
 have none2:Builtin.Builtins.bindParams "min" ["key","default"] 0 ⟨[],[]⟩=pure [none,none]:=rfl
 refine Al (wpAny_of_eq none2 ?_); show wpAny _ A.in1 (newTuple [a,b] >>= _) _ _ s
 refine Al (wpAny_newObj_type (Al (wpAny_mono h (λit s₂ q=>?_) λ_ _ z=>z)))
 obtain ⟨I,fp,wr,n,P,St,bt,J,rfl,V,st,lo,hn,cmp,hJ,stay,out⟩:=q
 refine Al (wpAny_newObj_type ?_)
 have nB:s₂.heap.objs.size ∉ fp:=λz=>Nat.lt_irrefl _ (lo _ z)
 have hJ2:=stay _ _ hJ λb o _ _ e=>Ak { cls:=.type "list",data:=.seq #[] } e
 rw [nm]
 refine wpAny_pure ⟨plainId_quiet F.plain_min_loop _,Gv V bt cmp s₂.heap.objs.size nB stay hn (V.frame _ _ _ st λb _ o e=>Ak _ e) hJ2 (Heap.get?_push_size _ rfl) λv g tk pv kp=>?_⟩
 exact out v g tk pv λb o bw e=>kp b o bw (Nat.ne_of_lt (Heap.lt_size e)) (Ak _ e)
end
end HL
namespace L2
open PySem PySem.Spec PyProof.Rows
section
variable {X:Cx}
noncomputable def LsAt (as:List Addr) (nss:Nat->List Int) (h:Heap):Prop:=∀ i a,as[i]?=some a->∃ its:List Value,h.IsList a its.toArray/\IntsAre its (nss i)
theorem LsAt.cmp {P:Program} {w:World} {A:Around} {as:List Addr} {nss:Nat->List Int} (hu:A.units < cLine) :
  HL.CmpIn P w A (LsAt as nss) (λi v=>∃ a,as[i]?=some a/\v=.ref a) λi j=>HT.lexLt (nss i) (nss j):=by
 rintro i j vi vj s Q E hJ ⟨a,ea,rfl⟩ ⟨b,eb,rfl⟩ q
 obtain ⟨ia,la,na⟩:=hJ i a ea
 obtain ⟨ib,lb,nb⟩:=hJ j b eb
 exact HL.lt_lists la lb (by simpa using na) (by simpa using nb) hu q
theorem LsAt.stay {as:List Addr} {nss:Nat->List Int} {h h':Heap} {no:Addr->Prop} (hJ:LsAt as nss h) (hno:∀ (i:Nat) (a:Addr),as[i]?=some a->¬ no a) (k:∀ b o,¬ no b->h.get? b=some o->h'.get? b=some o):LsAt as nss h':=by
 intro i a e
 obtain ⟨its,⟨o,ho,hc⟩,n⟩:=hJ i a e
 exact ⟨its,⟨o,k a o (hno i a e) ho,hc⟩,n⟩
theorem LsAt.of {pins:List (Addr × Obj)} {σ:St} {H:Hp} {s:Shared} {as:List Addr} {nss:Nat->List Int} (I:Inv X pins σ H s) (h:∀ i a,as[i]?=some a->SqL X.K H a ((nss i).map V.int)):LsAt as nss s.heap:=by
 intro i a e
 obtain ⟨its,r,p,_⟩:=I.list (h i a e)
 exact ⟨its,p.isList,J5 r⟩
theorem LsAt.lt {as:List Addr} {nss:Nat->List Int} {h:Heap} (hJ:LsAt as nss h) {i:Nat} {a:Addr} (e:as[i]?=some a):a < h.objs.size:=by
 obtain ⟨_,⟨o,ho,_⟩,_⟩:=hJ i a e
 exact Heap.lt_size ho
noncomputable def Zl6 (nss:Nat->List Int) (n:Nat):Nat:=argBest (λi j=>HT.lexLt (nss i) (nss j)) (n - 1)
theorem Zeu (hc:X.calm=true) (hu:X.A.units + 64 < cLine):Y1 X (.builtin "min") (λxs H Q=>∃ (p:Addr) (as:List Addr) (nss:Nat->List Int),xs=[.ref p]/\SqL X.K H p (as.map V.ref)/\(∀ i a,as[i]?=some a->SqL X.K H a ((nss i).map V.int))/\0 < as.length /\
  ∀ a,as[Zl6 nss as.length]?=some a->Q (.ref a) H):=by
 intro pins s σ H xs us Q I r h
 obtain ⟨p,as,nss,rfl,hp,hl,hn,q⟩:=h
 obtain ⟨u,rfl,ru⟩:=Xw r
 cases ru
 obtain ⟨its,rv,pl,hz⟩:=I.list hp
 have hJ:LsAt as nss s.heap:=LsAt.of I hl
 have ne:p≠s.heap.objs.size:=by obtain ⟨o,ho,_⟩:=pl.isList; exact Nat.ne_of_lt (Heap.lt_size ho)
 have hlen:its.toArray.size=as.length:=by have:=rv.length; rw [Ab] at this; simp; lia
 have hat:∀ (i:Nat) (v:Value),its.toArray[i]?=some v->∃ a,as[i]?=some a/\v=.ref a:=λi v e=>by
  have e':its[i]?=some v:=by simpa using e
  have hi:i < as.length:=by have:=(Aa e').1; rw [List.size_toArray] at hlen; lia
  obtain ⟨u,hu',ru⟩:=rv.get (i:=i) (show (as.map V.ref)[i]?=some (V.ref as[i]) by rw [Ah,Ac hi]; rfl)
  rw [e'] at hu'
  cases hu'
  cases ru
  exact ⟨as[i],Ac hi,rfl⟩
 have W:=Walks.list (prog:=X.prog) (w:=X.w) (A:=X.A.in1) (show X.A.in1.handled=none from I.ok.hd hc) s.heap.objs.size p ne its.toArray
 refine HL.min_walk (wpAny_pyIter_list pl.isList ⟨s.heap.objs.size,_,_,_,λi v=>∃ a,as[i]?=some a/\v=.ref a,_,λi j=>HT.lexLt (nss i) (nss j),LsAt as nss,rfl,
  ⟨W.sub,W.frame,λi s' Q' E' hi st hQ=>W.item i s' Q' E' hi st λv h' tk e st' k=>hQ v h' tk (hat i v e) st' k,W.done,W.self⟩,⟨⟨_,Heap.get?_push_size _ rfl,rfl,rfl⟩,pl.isList.push _⟩,?_,by rw [hlen]; exact hn,LsAt.cmp (by show X.A.units + 1 < cLine; lia),?_,?_,?_⟩)
 ·intro b hb
  show b < (s.heap.push _).objs.size
  rw [Heap.size_push]
  rcases List.mem_cons.mp hb with rfl | hb
  ·exact Nat.lt_succ_self _
  ·have:=Af hb
   subst this
   obtain ⟨o,ho,_⟩:=pl.isList
   exact Nat.lt_succ_of_lt (Heap.lt_size ho)
 ·exact hJ.stay (no:=λ_=>False) (λ_ _ _=>id) λb o _ e=>Ak _ e
 ·intro h h' j k
  refine j.stay (no:=λb=>b∈[s.heap.objs.size]\/b=(s.heap.push { cls:=.type "list_iterator",data:=.fields #[.ref p,.int 0 0] }).objs.size) (λi a e=>?_) (λb o n e=>k b o (λz=>n (.inl z)) (λz=>n (.inr z)) e)
  have l:=hJ.lt e
  rw [Heap.size_push,List.mem_singleton]
  exact λz=>z.elim (λz=>Nat.ne_of_lt l z) λz=>Nat.ne_of_lt (Nat.lt_succ_of_lt l) z
 ·rintro v h' tk ⟨a,ea,rfl⟩ hk
  have I1:Inv X pins σ H { s with heap:=h',toks:=tk }:=I.kept λb o e=>hk b o (λz=>absurd (Heap.lt_size e) (by rw [Af z]; exact Nat.lt_irrefl _)) (Ak _ e)
  rw [hlen] at ea
  exact ⟨.ref a,H,I1,rfl,q a ea⟩
theorem Kl (hc:X.calm=true) (hu:X.A.units + 64 < cLine):Y1 X (.builtin "min") (λxs H Q=>∃ (a b:Addr) (ns ms:List Int),xs=[.ref a,.ref b]/\SqL X.K H a (ns.map V.int)/\SqL X.K H b (ms.map V.int) /\
  Q (.ref (if HT.lexLt ms ns=true then b else a)) H):=by
 intro pins s σ H xs us Q I r h
 obtain ⟨a,b,ns,ms,rfl,ha,hb,q⟩:=h
 obtain ⟨u,v,rfl,ru,rv⟩:=Zl7 r
 cases ru
 cases rv
 let as:List Addr:=[a,b]
 let nss:Nat->List Int:=λi=>if i=0 then ns else ms
 have hJ:LsAt as nss s.heap:=LsAt.of I λi c e=>by
  match i,e with
  | 0,e=>cases e; exact ha
  | 1,e=>cases e; exact hb
  | n + 2,e=>cases e
 have hT:(s.heap.push { cls:=.type "tuple",data:=.seq #[.ref a,.ref b] }).IsTuple s.heap.objs.size #[.ref a,.ref b]:=⟨_,Heap.get?_push_size _ rfl,rfl,0,rfl⟩
 have hsz:(s.heap.push { cls:=.type "tuple",data:=.seq #[.ref a,.ref b] }).objs.size=s.heap.objs.size + 1:=Heap.size_push ..
 have W:=Walks.tuple (prog:=X.prog) (w:=X.w) (A:=X.A.in1) (show X.A.in1.handled=none from I.ok.hd hc) (s.heap.push { cls:=.type "tuple",data:=.seq #[.ref a,.ref b] }).objs.size s.heap.objs.size (by rw [hsz]; exact Nat.ne_of_lt (Nat.lt_succ_self _)) #[.ref a,.ref b]
 have hat:∀ (i:Nat) (v:Value),(#[Value.ref a,Value.ref b]:Array Value)[i]?=some v->∃ c,as[i]?=some c/\v=.ref c:=λi v e=>by
  match i,e with
  | 0,e=>cases e; exact ⟨a,rfl,rfl⟩
  | 1,e=>cases e; exact ⟨b,rfl,rfl⟩
  | n + 2,e=>simp at e
 refine HL.min_pair (wpAny_pyIter_tuple hT ⟨_,[_,s.heap.objs.size],[_],_,λi v=>∃ c,as[i]?=some c/\v=.ref c,_,λi j=>HT.lexLt (nss i) (nss j),LsAt as nss,rfl,
  ⟨W.sub,W.frame,λi s' Q' E' hi st hQ=>W.item i s' Q' E' hi st λv h' tk e st' k=>hQ v h' tk (hat i v e) st' k,W.done,W.self⟩,⟨⟨_,Heap.get?_push_size _ rfl,rfl,rfl⟩,hT.push _⟩,?_,Nat.succ_pos 1,LsAt.cmp (by show X.A.units + 1 < cLine; lia),?_,?_,?_⟩)
 ·intro c hc'
  show c < ((s.heap.push _).push _).objs.size
  rw [Heap.size_push,hsz]
  rcases List.mem_cons.mp hc' with rfl | hc'
  ·rw [hsz]; exact Nat.lt_succ_self _
  ·have:=Af hc'
   subst this
   exact Nat.lt_succ_of_lt (Nat.lt_succ_self _)
 ·exact hJ.stay (no:=λ_=>False) (λ_ _ _=>id) λc o _ e=>Ak _ (Ak _ e)
 ·intro h h' j k
  refine j.stay (no:=λc=>c∈[(s.heap.push { cls:=.type "tuple",data:=.seq #[.ref a,.ref b] }).objs.size]\/c=((s.heap.push { cls:=.type "tuple",data:=.seq #[.ref a,.ref b] }).push { cls:=.type "tuple_iterator",data:=.fields #[.ref s.heap.objs.size,.int 0 0] }).objs.size) (λi c e=>?_) (λc o n e=>k c o (λz=>n (.inl z)) (λz=>n (.inr z)) e)
  have l:=hJ.lt e
  rw [List.mem_singleton,Heap.size_push,Heap.size_push,Heap.size_push]
  exact λz=>z.elim (λz=>Nat.ne_of_lt (Nat.lt_succ_of_lt l) z) λz=>Nat.ne_of_lt (Nat.lt_succ_of_lt (Nat.lt_succ_of_lt l)) z
 ·rintro v h' tk ⟨c,ec,rfl⟩ hk
  have I1:Inv X pins σ H { s with heap:=h',toks:=tk }:=I.kept λd o e=>hk d o (λz=>by
   have l:=Heap.lt_size e
   rw [Af z,hsz] at l
   exact absurd l (Nat.not_lt_of_le (Nat.le_succ _))) (Ak _ (Ak _ e))
  have e1:c=if HT.lexLt ms ns=true then b else a:=by
   have ec':as[argBest (λi j=>HT.lexLt (nss i) (nss j)) 1]?=some c:=ec
   have eb:argBest (λi j=>HT.lexLt (nss i) (nss j)) 1=if HT.lexLt ms ns=true then 1 else 0:=rfl
   rw [eb] at ec'
   by_cases z:HT.lexLt ms ns=true
   ·rw [if_pos z] at ec' ⊢; cases ec'; rfl
   ·rw [if_neg z] at ec' ⊢; cases ec'; rfl
  rw [e1]
  exact ⟨.ref _,H,I1,rfl,q⟩
end
end L2
namespace HT
theorem lex_irr:∀ a:List Int,lexLt a a=false
 | []=>rfl
 | x :: a=>by rw [J4,if_pos rfl]; exact lex_irr a
theorem lex_total:∀ a b:List Int,lexLt a b=false->lexLt b a=false->a=b
 | [],[],_,_=>rfl
 | [],_ :: _,h,_=>by rw [Ji] at h; cases h
 | _ :: _,[],_,h=>by rw [Ji] at h; cases h
 | x :: a,y :: b,h1,h2=>by
  rw [J4] at h1 h2
  by_cases e:x=y
  ·subst e
   rw [if_pos rfl] at h1 h2
   rw [lex_total a b h1 h2]
  ·rw [if_neg e] at h1
   rw [if_neg (λz=>e z.symm)] at h2
   have:=of_decide_eq_false h1
   have:=of_decide_eq_false h2
   lia
theorem lex_trans:∀ a b c:List Int,lexLt a b=true->lexLt b c=true->lexLt a c=true
 | [],[],_,h,_=>by rw [Vg] at h; cases h
 | [],_ :: _,[],_,h=>by rw [Wh] at h; cases h
 | [],_ :: _,_ :: _,_,_=>rfl
 | _ :: _,[],_,h,_=>by rw [Wh] at h; cases h
 | _ :: _,_ :: _,[],_,h=>by rw [Wh] at h; cases h
 | x :: a,y :: b,z :: c,h1,h2=>by
  rw [J4] at h1 h2 ⊢
  by_cases e1:x=y
  ·subst e1
   rw [if_pos rfl] at h1
   by_cases e2:x=z
   ·subst e2
    rw [if_pos rfl] at h2 ⊢
    exact lex_trans a b c h1 h2
   ·rw [if_neg e2] at h2 ⊢; exact h2
  ·rw [if_neg e1] at h1
   have g1:=of_decide_eq_true h1
   by_cases e2:y=z
   ·subst e2
    rw [if_neg e1]; exact h1
   ·rw [if_neg e2] at h2
    have g2:=of_decide_eq_true h2
    rw [if_neg (by lia)]
    exact decide_eq_true (by lia)
theorem lex_le {a b c:List Int} (h1:lexLt b a=false) (h2:lexLt c b=false):lexLt c a=false:=by
 cases e:lexLt c a with
 | false=>rfl
 | true =>
  cases f:lexLt b c with
  | true=>rw [lex_trans b c a f e] at h1; cases h1
  | false =>
   have:=lex_total b c f h2
   subst this
   rw [e] at h1
   cases h1
theorem best_le (nss:Nat->List Int):∀ n i,i<=n->lexLt (nss i) (nss (PySem.argBest (λi j=>lexLt (nss i) (nss j)) n))=false
 | 0,i,h=>by
  have:i=0:=by lia
  subst this
  exact lex_irr _
 | n + 1,i,h=>by
  have ih:=best_le nss n
  unfold PySem.argBest
  cases e:lexLt (nss (n + 1)) (nss (PySem.argBest (λi j=>lexLt (nss i) (nss j)) n)) with
  | true =>
   rw [if_pos rfl]
   by_cases c:i=n + 1
   ·subst c; exact lex_irr _
   ·cases f:lexLt (nss i) (nss (n + 1)) with
    | false=>rfl
    | true =>
     have:=lex_trans _ _ _ f e
     rw [ih i (by lia)] at this
     cases this
  | false =>
   rw [if_neg (by decide)]
   by_cases c:i=n + 1
   ·subst c; exact e
   ·exact ih i (by lia)
noncomputable def IsLeast (S:List Int->Prop) (a:List Int):Prop:=S a/\∀ b,S b->lexLt b a=false
theorem IsLeast.eq {S T:List Int->Prop} {a b:List Int} (h1:IsLeast S a) (h2:IsLeast T b) (hST:∀ x,S x ↔ T x):a=b :=
 lex_total a b (h2.2 a ((hST a).mp h1.1)) (h1.2 b ((hST b).mpr h2.1))
end HT
namespace L2
open PySem PySem.Spec PyProof.Rows
section
variable {X:Cx} {pins:List (Addr × Obj)} {σ:St} {H:Hp} {s:Shared} {a:Addr}
theorem Inv.thaw {kvs:List (Key × V)} {ob:Obj} (I:Inv X pins σ H s) (e:H a=some (.frz ob (.dK kvs))) (h0:∀ o u,X.H₀ a≠some (.frz o u)):Inv X pins σ (upd H a (.dK kvs)) s:=by
 have nown:∀ c y,H c=some (.own y)->c≠a:=λc y r z=>by subst z; rw [r] at e; cases e
 have ntup:∀ c xs,H c=some (.tup xs)->c≠a:=λc xs r z=>by subst z; rw [r] at e; cases e
 have nnon:∀ c,H c=none->c≠a:=λc r z=>by subst z; rw [r] at e; cases e
 have hok:HOk X.prog X.w (upd H a (.dK kvs)) s.heap:=λb v q=>by
  have st:∀ c w',Zy X.prog X.w H s.heap c w'->Zy X.prog X.w (upd H a (.dK kvs)) s.heap c w':=λc w' x=>x.stay (λ_ _ _ q=>q) (λd r=>by rw [Ze (nown d c r)]; exact r) λd xs r=>by rw [Ze (ntup d xs r)]; exact r
  by_cases hb:b=a
  ·subst hb
   rw [Zc] at q
   cases q
   exact st _ _ (I.hok _ _ e).2
  ·rw [Ze hb] at q
   exact st _ _ (I.hok b v q)
 refine ⟨I.ok,I.os,I.bare,⟨I.base.keep,I.base.slot,λb o q n hx=>?_,I.base.there,λb xs q=>?_,λb o u q=>?_,λb ps q=>?_⟩,I.loc,I.cell,?_,λx c q=>?_,λp hp=>?_,hok,I.len⟩
 ·have:=I.base.free b o q n hx
  rw [Ze (nnon b this)]; exact this
 ·have:=I.base.tups b xs q
  rw [Ze (ntup b xs this)]; exact this
 ·have:=I.base.frzs b o u q
  rw [Ze (λz=>by subst z; exact h0 _ _ q)]; exact this
 ·obtain ⟨more,z⟩:=I.base.tbls b ps q
  exact ⟨more,by rw [Ze (λw=>by subst w; rw [z] at e; cases e)]; exact z⟩
 ·have:=I.free
  rw [Ze (nnon _ this)]; exact this
 ·have:=I.freeC x c q
  rw [Ze (nnon _ this)]; exact this
 ·obtain ⟨q1,q2,q3⟩:=I.pin p hp
  exact ⟨q1,by rw [Ze (nnon _ q2)]; exact q2,q3⟩
end
noncomputable def Zl8 (H0:Hp) (t:TS):TS:=λD σ H=>t { D with nx:=λσ' H'=>∃ (a:Addr) (o:Obj) (kvs:List (Key × V)),H' a=some (.frz o (.dK kvs))/\(∀ o u,H0 a≠some (.frz o u))/\D.nx σ' (upd H' a (.dK kvs)) } σ H
theorem Zju {X:Cx} {st:Stmt} {t:TS} (h:PS X st t):PS X st (Zl8 X.H₀ t):=by
 intro pins s σ H D I hw
 refine wpAny_mono (h pins s σ H _ I hw) (λf s' q=>?_) λ_ _ e=>e
 cases f with
 | next =>
  obtain ⟨σ',H',I',a,o,kvs,e,h0,q⟩:=q
  exact ⟨σ',_,I'.thaw e h0,q⟩
 | ret v=>exact q
 | brk=>exact q
 | cont=>exact q
end L2
namespace KT
open PySem L2
noncomputable def aftN (i:Nat):Nat:=if i % 3=2 then i - 2 else i + 1
noncomputable def nxC (M:List (Option Nat)) (c:Nat):Option Nat:=(M[aftN c]?).join
noncomputable abbrev InvM (M:List (Option Nat)):Prop:=∀ (i j:Nat),M[i]?=some (some j)->M[j]?=some (some i)/\i≠j
structure Fan (M:List (Option Nat)) (c:Nat) (cs:List Nat):Prop where
 head:cs[0]?=some c
 chain:∀ (i a b:Nat),cs[i]?=some a->cs[i + 1]?=some b->nxC M a=some b
 nodup:cs.Nodup
 lt:∀ a∈cs,a < M.length
structure FanEnd (M:List (Option Nat)) (c:Nat) (cs:List Nat) (cl:Bool):Prop extends Fan M c cs where
 last:∃ l,cs[cs.length - 1]?=some l/\nxC M l=if cl=true then some c else none
end KT
namespace L2
open PySem PySem.Spec PyProof.Rows
section
variable {P:Program} {w:World} {K:PySem.W.Frag} {mg:Str->Option Value} {base:Heap} {x qual:Str} {st:Stmt} {f:Addr} {fd:FuncData} {N ps:List Str} {k:Nat} {sp:Sp}
theorem Fun.aR (F:Fun K x qual st f fd) (S:FnScope N ps (Zi st))
  (hbody:∀ (cdv:Value) (A:Around) (outer:List Env) (s:Shared) (H:Hp) (vs:List V) (Q:VK) (E:XK),Room k (A.deeper (envOfC qual (Zi st) s.heap.objs.size f cdv))->sp vs H Q E ->
   ∃ t,PSs (cxOf (CXr P w) P w K mg base N qual (Zi st) f cdv A outer s H E).nox (Yk st) t/\t { nx:=λ_ H'=>Q .non H',rt:=Q } (start N vs) H)
  (len:∀ vs H Q E,sp vs H Q E->vs.length=ps.length:=by (intro vs H Q E h; (repeat obtain ⟨_,h⟩:=h); subst_vars; rfl)):FnOk P w K mg base (CXr P w) (k + 1) f fd ps sp:=F.okR S len hbody
theorem Fun.aX (F:Fun K x qual st f fd) (S:FnScope N ps (Zi st))
  (hbody:∀ (cdv:Value) (A:Around) (outer:List Env) (s:Shared) (H:Hp) (vs:List V) (Q:VK) (E:XK),Room k (A.deeper (envOfC qual (Zi st) s.heap.objs.size f cdv))->sp vs H Q E ->
   ∃ t,PSsX true (cxOf (CXr P w) P w K mg base N qual (Zi st) f cdv A outer s H E).nox (Yk st) t/\t { nx:=λ_ H'=>Q .non H',rt:=Q } (λcls _ H'=>E cls none H') (start N vs) H)
  (len:∀ vs H Q E,sp vs H Q E->vs.length=ps.length:=by (intro vs H Q E h; (repeat obtain ⟨_,h⟩:=h); subst_vars; rfl)):FnOk P w K mg base (CXr P w) (k + 1) f fd ps sp:=F.okX S len hbody
end
end L2
namespace L2
open PySem PySem.Spec PyProof.Rows PySem.SeqAt
mutual
inductive DV (K:PySem.W.Frag) (H:Hp):V->PyData->Prop
 | non:DV K H .non .none
 | bl (b:Bool):DV K H (.bl b) (.bool b)
 | int (i:Int):DV K H (.int i) (.int i)
 | str (x:Str):DV K H (.str x) (.str x)
 | lst {a:Addr} {xs:List V} {ds:List PyData}:SqL K H a xs->DVs K H xs ds->DV K H (.ref a) (.list ds)
 | tup {a:Addr} {xs:List V} {ds:List PyData}:SqT K H a xs->DVs K H xs ds->DV K H (.ref a) (.tuple ds)
inductive DVs (K:PySem.W.Frag) (H:Hp):List V->List PyData->Prop
 | nil:DVs K H [] []
 | cons {x:V} {xs:List V} {d:PyData} {ds:List PyData}:DV K H x d->DVs K H xs ds->DVs K H (x :: xs) (d :: ds)
end
section
variable {X:Cx} {pins:List (Addr × Obj)} {σ:St} {H:Hp} {s:Shared}
mutual
theorem DV.reads (I:Inv X pins σ H s):∀ {x:V} {d:PyData} {u:Value},DV X.K H x d->RelV x u->∃ as,Reads s.heap u d as
 | _,_,_,.non,r=>by cases r; exact ⟨_,.none⟩
 | _,_,_,.bl b,r=>by cases r; exact ⟨_,.bool b⟩
 | _,_,_,.int i,r=>by obtain ⟨t,rfl⟩:=r; exact ⟨_,.int i t⟩
 | _,_,_,.str x,r=>by obtain ⟨t,rfl⟩:=r; exact ⟨_,.str x t⟩
 | _,_,_,.lst h hs,r=>by
  cases r
  obtain ⟨its,rv,pl,_⟩:=I.list h
  obtain ⟨as,ra⟩:=DVs.reads I hs rv
  obtain ⟨o,ho,hc,n,hd⟩:=pl.isList
  exact ⟨_,.list ho hc hd (by simpa using ra)⟩
 | _,_,_,.tup h hs,r=>by
  cases r
  obtain ⟨its,rv,pt,_⟩:=I.tuple h
  obtain ⟨as,ra⟩:=DVs.reads I hs rv
  obtain ⟨o,ho,hc,n,hd⟩:=pt
  exact ⟨_,.tuple ho hc hd (by simpa using ra)⟩
theorem DVs.reads (I:Inv X pins σ H s):∀ {xs:List V} {ds:List PyData} {us:List Value},DVs X.K H xs ds->Vals xs us->∃ as,ReadsAll s.heap us ds as
 | _,_,_,.nil,r=>by cases r; exact ⟨_,.nil⟩
 | _,_,_,.cons h hs,r=>by
  cases r with
  | cons r1 r2 =>
   obtain ⟨as,ra⟩:=DV.reads I h r1
   obtain ⟨bs,rb⟩:=DVs.reads I hs r2
   exact ⟨_,.cons ra rb⟩
end
end
mutual
theorem O8:∀ d:PyData,d.canLay0=true->noMix d d=true
 | .none,_=>rfl
 | .bool _,_=>rfl
 | .int _,_=>rfl
 | .str _,_=>rfl
 | .list xs,h=>by simp only [PyData.canLay0] at h; simp only [noMix]; exact noMixAll_self xs h
 | .tuple xs,h=>by simp only [PyData.canLay0] at h; simp only [noMix]; exact noMixAll_self xs h
 | .dict _,h=>by simp [PyData.canLay0] at h
theorem noMixAll_self:∀ xs:List PyData,PyData.canLayAll0 xs=true->noMixAll xs xs=true
 | [],_=>by simp [noMixAll]
 | x :: xs,h=>by
  simp only [PyData.canLayAll0,Bool.and_eq_true] at h
  simp only [noMixAll,O8 x h.1,noMixAll_self xs h.2,Bool.and_self]
end
section
variable {X:Cx}
noncomputable def rNeD (K:PySem.W.Frag):R2:=λx y H Q=>∃ d e,DV K H x d/\DV K H y e/\shaped d=true/\shaped e=true/\noMix d e=true/\Q (.bl (!same d e)) H
theorem Zll (hu:X.A.units + 64 < cLine):OpR X (compareOp .NotEq) (rNeD X.K):=by
 intro pins s σ H x y v u Q I rx ry h
 obtain ⟨d,e,hx,hy,sd,se,hm,q⟩:=h
 obtain ⟨_,r1⟩:=hx.reads I rx
 obtain ⟨_,r2⟩:=hy.reads I ry
 exact ne_dataH_same r1 r2 sd se hu hm ⟨.bl _,H,I,rfl,q⟩
end
theorem DVs.ints {K:PySem.W.Frag} {H:Hp}:∀ ns:List Int,DVs K H (ns.map V.int) (ns.map PyData.int)
 | []=>.nil
 | n :: r=>.cons (.int n) (DVs.ints r)
end L2
namespace KT
open PySem L2
structure Orb (R:Nat->Nat->Prop) (p:Nat) (os:List Nat):Prop where
 head:os[0]?=some p
 chain:∀ (i a b:Nat),os[i]?=some a->os[i + 1]?=some b->R a b
 nodup:os.Nodup
structure OrbEnd (R:Nat->Nat->Prop) (p:Nat) (os:List Nat):Prop extends Orb R p os where
 last:∃ l,os[os.length - 1]?=some l/\R l p
section
variable {R:Nat->Nat->Prop}
theorem Orb.pos {p:Nat} {os:List Nat} (h:Orb R p os):0 < os.length:=(Aa h.head).1
theorem Orb.one (p:Nat):Orb R p [p]:=⟨rfl,λi a b _ h2=>by simp at h2,by simp⟩
theorem Orb.new (inj:∀ a b x,R a x->R b x->a=b) {p l f:Nat} {os:List Nat} (h:Orb R p os) (hl:os[os.length - 1]?=some l) (hf:R l f) (hc:f≠p):f ∉ os:=by
 intro hm
 obtain ⟨i,hi,e⟩:=List.mem_iff_getElem.mp hm
 have e':os[i]?=some f:=by rw [Ac hi,e]
 cases i with
 | zero=>rw [h.head] at e'; cases e'; exact hc rfl
 | succ i =>
  have hi':i < os.length:=by lia
  have ea:=Ac hi'
  have e2:=inj _ _ _ (h.chain i _ f ea e') hf
  have e3:os[i]=os[os.length - 1]:=by
   have:=(Aa hl).2
   rw [e2,this]
  have:=(List.getElem_inj h.nodup).mp e3
  lia
theorem Orb.snoc {p l f:Nat} {os:List Nat} (h:Orb R p os) (hl:os[os.length - 1]?=some l) (hf:R l f) (hn:f ∉ os):Orb R p (os ++ [f]):=by
 have hp:=h.pos
 refine ⟨by rw [List.getElem?_append_left hp]; exact h.head,λi a b ha hb=>?_,?_⟩
 ·by_cases z:i + 1 < os.length
  ·rw [List.getElem?_append_left z] at hb
   rw [List.getElem?_append_left (by lia)] at ha
   exact h.chain i a b ha hb
  ·have hi:=(Aa hb).1
   rw [Ae,List.length_singleton] at hi
   have hi:i=os.length - 1:=by lia
   subst hi
   rw [List.getElem?_append_left (by lia),hl] at ha
   cases ha
   rw [List.getElem?_append_right (by lia),show os.length - 1 + 1 - os.length=0 by lia] at hb
   cases hb
   exact hf
 ·rw [List.nodup_append]
  refine ⟨h.nodup,by simp,λa ha b hb e=>?_⟩
  rw [List.mem_singleton] at hb
  subst hb e
  exact hn ha
theorem OrbEnd.same (fn:∀ a x y,R a x->R a y->x=y) {p:Nat} {os os':List Nat} (h:OrbEnd R p os) (h':OrbEnd R p os'):os=os':=by
 have step:∀ {os os':List Nat},OrbEnd R p os->OrbEnd R p os'->∀ (i x:Nat),os[i]?=some x->os'[i]?=some x:=λ{os os'} h h' i=>by
  induction i with
  | zero=>intro x hx; rw [h.head] at hx; rw [h'.head]; exact hx
  | succ i ih =>
   intro x hx
   have hi:i < os.length:=by have:=(Aa hx).1; lia
   have ea:=Ac hi
   have eb:=ih _ ea
   have e1:=h.chain i _ x ea hx
   cases e:os'[i + 1]? with
   | some y=>rw [fn _ _ _ e1 (h'.chain i _ y eb e)]
   | none =>
    exfalso
    have l1:os'.length<=i + 1:=List.getElem?_eq_none_iff.mp e
    have l2:=(Aa eb).1
    obtain ⟨l,hl,hn⟩:=h'.last
    rw [show os'.length - 1=i by lia,eb] at hl
    cases hl
    have ex:=fn _ _ _ e1 hn
    subst ex
    have e3:os[0]'(by lia)=os[i + 1]'((Aa hx).1):=by
     have q1:=(Aa h.head).2
     have q2:=(Aa hx).2
     rw [q1,q2]
    have:=(List.getElem_inj h.nodup).mp e3
    lia
 apply List.ext_getElem?
 intro i
 cases e1:os[i]? with
 | some x=>exact (step h h' i x e1).symm
 | none =>
  cases e2:os'[i]? with
  | none=>rfl
  | some y=>rw [step h' h i y e2] at e1; cases e1
theorem OrbEnd.before (inj:∀ a b x,R a x->R b x->a=b) {p a b:Nat} {os:List Nat} (h:OrbEnd R p os) (hb:b∈os) (hab:R a b):a∈os:=by
 obtain ⟨i,hi,e⟩:=List.mem_iff_getElem.mp hb
 have e':os[i]?=some b:=by rw [Ac hi,e]
 cases i with
 | zero =>
  rw [h.head] at e'
  cases e'
  obtain ⟨l,hl,hn⟩:=h.last
  rw [inj _ _ _ hab hn]
  exact List.mem_of_getElem? hl
 | succ i =>
  have ea:=Ac (show i < os.length by lia)
  rw [inj _ _ _ hab (h.chain i _ b ea e')]
  exact List.mem_of_getElem? ea
end
noncomputable def mtN (M:List (Option Nat)) (h:Nat):Nat:=(M.getD h none).getD 0
theorem Zk9 {ws:List Nat} {j i:Nat} (hj:j < ws.length) (hi:i < ws.length):(rot ws (j + 1))[i]?=ws[(i + (j + 1)) % ws.length]?:=by
 by_cases z:j + 1 < ws.length
 ·exact Kx z hi
 ·have e:j + 1=ws.length:=by lia
  rw [e,Nat.add_mod_right,Nat.mod_eq_of_lt hi]
  unfold rot
  rw [List.drop_length,List.take_length,List.nil_append]
end KT
namespace L2
open PySem PySem.Spec PyProof.Rows PySem.SeqAt
section
variable {X:Cx}
theorem Zg3 (bs:List Bool):((List.range bs.length).any λi=>bs.getD i true)=bs.any id:=by
 rw [Bool.eq_iff_iff,List.any_eq_true,List.any_eq_true]
 constructor
 ·rintro ⟨i,hi,h⟩
  have hi:=List.mem_range.mp hi
  rw [Ad,Ac hi] at h
  exact ⟨_,List.getElem_mem hi,h⟩
 ·rintro ⟨b,hb,h⟩
  obtain ⟨i,hi,rfl⟩:=List.mem_iff_getElem.mp hb
  exact ⟨i,List.mem_range.mpr hi,by rw [Ad,Ac hi]; exact h⟩
theorem G5 (hc:X.calm=true):Y1 X (.builtin "any") (λxs H Q=>∃ p bs,xs=[.ref p]/\SqL X.K H p (List.map V.bl bs)/\Q (.bl (bs.any id)) H):=by
 intro pins s σ H xs us Q I r h
 obtain ⟨p,bs,rfl,hq,q⟩:=h
 obtain ⟨u,rfl,ru⟩:=Xw r
 cases ru
 obtain ⟨its,rv,pl,hz⟩:=I.list hq
 have ne:p≠s.heap.objs.size:=by obtain ⟨o,ho,_⟩:=pl.isList; exact Nat.ne_of_lt (Heap.lt_size ho)
 refine call_any_walk (wpAny_pyIter_list pl.isList ⟨s.heap.objs.size,_,_,_,_,_,λi=>bs.getD i true,rfl,Walks.list (A:=X.A.in1) (show X.A.in1.handled=none from I.ok.hd hc) s.heap.objs.size p ne its.toArray,⟨⟨_,Heap.get?_push_size _ rfl,rfl,rfl⟩,pl.isList.push _⟩,?_,?_⟩)
 ·intro i v s' Q' E' hv hq'
  have hv:its[i]?=some v:=by simpa using hv
  have hlen:=rv.length
  rw [Ab] at hlen
  have hi:i < bs.length:=by have:=(Aa hv).1; lia
  obtain ⟨u,hu,ru⟩:=rv.get (show (bs.map V.bl)[i]?=some (V.bl bs[i]) by rw [Ah,Ac hi]; rfl)
  rw [hv] at hu
  cases hu
  cases ru
  have e:bs.getD i true=bs[i]:=by rw [Ad,Ac hi]; rfl
  refine wpAny_truthy_bool ?_
  have hq':Q' (bs.getD i true) s':=hq'
  rw [e] at hq'
  exact hq'
 ·intro h' tk hk
  have I1:Inv X pins σ H { s with heap:=h',toks:=tk }:=I.kept λb o e=>hk b o (λz=>absurd (Heap.lt_size e) (by rw [Af z]; exact Nat.lt_irrefl _)) (Ak _ e)
  have hlen:its.toArray.size=bs.length:=by have:=rv.length; rw [Ab] at this; simp; lia
  refine ⟨.bl (bs.any id),H,I1,?_,q⟩
  show Value.bool _=_
  rw [hlen,Zg3]
theorem Ko (ns:List Int):∀ k,k<=ns.length->preSum (λi=>ns.getD i 0) k=(ns.take k).sum
 | 0,_=>by simp [preSum]
 | k + 1,h=>by
  rw [preSum,Ko ns k (by lia),List.take_add_one,Ac (by lia),List.sum_append,Ad,Ac (by lia)]
  simp
theorem Zbi {pins:List (Addr × Obj)} {σ:St} {H:Hp} {s:Shared} {ns:List Int} {its:List Value} (rv:Vals (ns.map V.int) its):∀ (i:Nat) (v:Value),its.toArray[i]?=some v->∃ t,v=.int (ns.getD i 0) t:=λi v hv=>by
 have hv:its[i]?=some v:=by simpa using hv
 have hlen:=rv.length
 rw [Ab] at hlen
 have hi:i < ns.length:=by have:=(Aa hv).1; lia
 obtain ⟨u,hu,ru⟩:=rv.get (show (ns.map V.int)[i]?=some (V.int ns[i]) by rw [Ah,Ac hi]; rfl)
 rw [hv] at hu
 cases hu
 obtain ⟨t,rfl⟩:=ru
 exact ⟨t,by rw [Ad,Ac hi]; rfl⟩
theorem Zg0 (hc:X.calm=true):Y1 X (.builtin "sum") (λxs H Q=>∃ (p:Addr) (ns:List Int),xs=[.ref p]/\SqL X.K H p (ns.map V.int)/\Q (.int ns.sum) H):=by
 intro pins s σ H xs us Q I r h
 obtain ⟨p,ns,rfl,hq,q⟩:=h
 obtain ⟨u,rfl,ru⟩:=Xw r
 cases ru
 obtain ⟨its,rv,pl,hz⟩:=I.list hq
 have lt:p < s.heap.objs.size:=by obtain ⟨o,ho,_⟩:=pl.isList; exact Heap.lt_size ho
 have hlen:its.toArray.size=ns.length:=by have:=rv.length; rw [Ab] at this; simp; lia
 refine call_sum_walkG (wpAny_pyIter_list pl.isList ⟨s.heap.objs.size,_,_,_,_,_,λi=>ns.getD i 0,rfl,Walks.list (A:=X.A.in1) (show X.A.in1.handled=none from I.ok.hd hc) s.heap.objs.size p (Nat.ne_of_lt lt) its.toArray,⟨⟨_,Heap.get?_push_size _ rfl,rfl,rfl⟩,pl.isList.push _⟩,?_,Zbi (pins:=pins) (σ:=σ) (H:=H) (s:=s) rv,?_⟩)
 ·intro b hb
  show b < (s.heap.push _).objs.size
  rw [Heap.size_push]
  rcases List.mem_cons.mp hb with rfl | hb
  ·exact Nat.lt_succ_self _
  ·rw [Af hb]; exact Nat.lt_succ_of_lt lt
 ·intro h' tk t' hk
  have I1:Inv X pins σ H { s with heap:=h',toks:=tk }:=I.kept λb o e=>hk b o (λz=>absurd (Heap.lt_size e) (by rw [Af z]; exact Nat.lt_irrefl _)) (Ak _ e)
  refine ⟨.int ns.sum,H,I1,⟨t',?_⟩,q⟩
  rw [hlen,Ko ns _ (Nat.le_refl _),List.take_length]
theorem Zg1 (hc:X.calm=true):Y1 X (.builtin "max") (λxs H Q=>∃ (p:Addr) (ns:List Int),xs=[.ref p]/\SqL X.K H p (ns.map V.int)/\0 < ns.length/\∀ m,m∈ns->(∀ a∈ns,a<=m)->Q (.int m) H):=by
 intro pins s σ H xs us Q I r h
 obtain ⟨p,ns,rfl,hq,hn,q⟩:=h
 obtain ⟨u,rfl,ru⟩:=Xw r
 cases ru
 obtain ⟨its,rv,pl,hz⟩:=I.list hq
 have lt:p < s.heap.objs.size:=by obtain ⟨o,ho,_⟩:=pl.isList; exact Heap.lt_size ho
 have hlen:its.toArray.size=ns.length:=by have:=rv.length; rw [Ab] at this; simp; lia
 have W:=Zbi (pins:=pins) (σ:=σ) (H:=H) (s:=s) rv
 refine call_max_walk (wpAny_pyIter_list pl.isList ⟨s.heap.objs.size,_,_,_,_,_,_,rfl,Walks.list (A:=X.A.in1) (show X.A.in1.handled=none from I.ok.hd hc) s.heap.objs.size p (Nat.ne_of_lt lt) its.toArray,⟨⟨_,Heap.get?_push_size _ rfl,rfl,rfl⟩,pl.isList.push _⟩,?_,by rw [hlen]; exact hn,CmpOf.ints_gt (λi=>ns.getD i 0) W,?_⟩)
 ·intro b hb
  show b < (s.heap.push _).objs.size
  rw [Heap.size_push]
  rcases List.mem_cons.mp hb with rfl | hb
  ·exact Nat.lt_succ_self _
  ·rw [Af hb]; exact Nat.lt_succ_of_lt lt
 ·intro v h' tk hP hk
  have I1:Inv X pins σ H { s with heap:=h',toks:=tk }:=I.kept λb o e=>hk b o (λz=>absurd (Heap.lt_size e) (by rw [Af z]; exact Nat.lt_irrefl _)) (Ak _ e)
  rw [hlen] at hP
  obtain ⟨a1,a2⟩:=argBest_gt (λi=>ns.getD i 0) (ns.length - 1)
  obtain ⟨t,e⟩:=W _ _ hP
  generalize argBest (λi j=>decide (ns.getD i 0 > ns.getD j 0)) (ns.length - 1)=k at a1 a2 e
  have hk':k < ns.length:=by lia
  have ek:ns.getD k 0=ns[k]:=by rw [Ad,Ac hk']; rfl
  refine ⟨.int (ns.getD k 0),H,I1,⟨t,e⟩,q _ (by rw [ek]; exact List.getElem_mem hk') λa ha=>?_⟩
  obtain ⟨j,hj,rfl⟩:=List.mem_iff_getElem.mp ha
  have:=a2 j (by lia)
  have ej:ns.getD j 0=ns[j]:=by rw [Ad,Ac hj]; rfl
  show ns[j]<=ns.getD k 0
  rw [<- ej]; exact this
theorem Zbf {pins:List (Addr × Obj)} {σ:St} {H:Hp} {s:Shared} (I:Inv X pins σ H s) (hu:X.A.units + 65 < cLine) {kb:List (Key × V)} {vb:List (Key × Value)} (rb:KV kb vb):∀ {ka:List (Key × V)} {va:List (Key × Value)},KV ka va ->
  (∀ k v,(k,v)∈ka->∃ d y,valV kb k=some y/\DV X.K H v d/\DV X.K H y d/\shaped d=true)->PySem.W.KeqHits X.A.in1 s vb va true
 | _,_,.nil,_=>.nil
 | (k,v) :: ka,(k',u) :: va,.cons r rest,h=>by
  obtain ⟨e,rv⟩:=r
  have e:k=k':=e
  subst e
  obtain ⟨d,y,hy,dv,dy,hs⟩:=h k v (by simp)
  obtain ⟨uy,huy,ry⟩:=RelO.some_of (v:=y) (o:=valueAt vb k) (by rw [<- hy]; exact rb.val k)
  obtain ⟨as,r1⟩:=dv.reads I rv
  obtain ⟨bs,r2⟩:=dy.reads I ry
  have E:=PySem.W.keq_at (A:=X.A) r1 r2 hs hs (by show X.A.in1.units + 64 < cLine; simp; lia)
  rw [<- same_eq_eqv d d (O8 d (canLay_of_shaped hs)),same_self] at E
  have:=PySem.W.KeqHits.hit huy E (Zbf I hu rb rest λk v hm=>h k v (List.mem_cons_of_mem _ hm))
  simpa using this
noncomputable def DAl (K:PySem.W.Frag) (H:Hp) (x y:V):Prop:=∃ a b ka kb,x=.ref a/\y=.ref b/\Rd H a (.dK ka)/\Rd H b (.dK kb)/\ka.length=kb.length/\∀ k v,(k,v)∈ka->∃ d y,valV kb k=some y/\DV K H v d/\DV K H y d/\shaped d=true
theorem Zj0 (hu:X.A.units + 65 < cLine):OpR X (compareOp .NotEq) (λx y H Q=>DAl X.K H x y/\Q (.bl false) H):=by
 intro pins s σ H x y v u Q I rx ry h
 obtain ⟨⟨a,b,ka,kb,rfl,rfl,ha,hb,hl,hk⟩,q⟩:=h
 cases rx
 cases ry
 obtain ⟨za,sa,va,ra,da⟩:=J6 I.hok ha
 obtain ⟨zb,sb,vb,rb,db⟩:=J6 I.hok hb
 refine PySem.W.keq_ne (r:=true) sa sb da db (by lia) (λ_=>Zbf I hu rb ra hk) ?_
 have el:va.length=vb.length:=by rw [<- ra.length,<- rb.length]; exact hl
 rw [el]
 exact ⟨.bl false,H,I,by simp; rfl,q⟩
theorem Room.units65 {k:Nat} {A:Around} (r:Room k A):A.units + 65 < cLine:=by have:=r.un; lia
theorem Kk (K:PySem.W.Frag) (hc:X.calm=true) (h:X.K=K:=by rfl):Y1 X (.builtin "sum") (λxs H Q=>∃ (p:Addr) (ns:List Int),xs=[.ref p]/\SqL K H p (ns.map V.int)/\Q (.int ns.sum) H):=h ▸ Zg0 hc
theorem Zev (K:PySem.W.Frag) (hc:X.calm=true) (h:X.K=K:=by rfl):Y1 X (.builtin "max") (λxs H Q=>∃ (p:Addr) (ns:List Int),xs=[.ref p]/\SqL K H p (ns.map V.int)/\0 < ns.length/\∀ m,m∈ns->(∀ a∈ns,a<=m)->Q (.int m) H):=h ▸ Zg1 hc
end
end L2
namespace L2
open PySem PySem.Spec PyProof.Rows
section
variable {X:Cx} {l:Expr} {tl:TE}
theorem Zge:∀ {kvs:List (Key × V)} {vs:List (Key × Value)} {ns:List Int},KV kvs vs->kvs.map (·.2)=ns.map V.int->∀ (i:Nat) (k:Key) (v:Value),vs[i]?=some (k,v)->∃ t,v=.int (ns.getD i 0) t
 | _,_,ns,.nil,_,i,k,v,h=>by simp at h
 | _,_,ns,.cons (a:=a) (b:=b) r rs,hm,i,k,v,h=>by
  cases ns with
  | nil=>cases hm
  | cons n ns =>
   rw [List.map_cons,List.map_cons] at hm
   injection hm with h1 h2
   cases i with
   | zero =>
    have h:b=(k,v):=by simpa using h
    have r2:=r.2
    rw [h1,h] at r2
    obtain ⟨t,e⟩:=r2
    exact ⟨t,e⟩
   | succ i =>
    obtain ⟨t,e⟩:=Zge rs h2 i k v (by simpa using h)
    exact ⟨t,by simpa using e⟩
noncomputable def Zma (tl:TE):TE:=λσ H Q=>tl σ H λv H1=>∃ (d:Addr) (kvs:List (Key × V)) (ns:List Int),v=.ref d/\Rd H1 d (.dK kvs)/\kvs.map (·.2)=ns.map V.int/\Q (.int ns.sum) H1
theorem Zd8 {apos cpos p pos:Pos} (hc:X.calm=true) (hl:PE X l tl) (m:M0 X l "values" apos cpos) (hg:Gl X "sum") (hm:X.mg "sum"=none):PE X (.Call (.Name "sum" p) [.Call (.Attribute l "values" apos) [] [] cpos] [] pos) (Zma tl):=by
 intro pins s σ H Q I h
 refine wpAny_Call_Name_kw (Xe I hg hm PyProof.Rows.boot_sum ?_ (by decide) (by decide))
 refine PyProof.Rows.callWith_builtin1 ?_ rfl rfl
 show wpAny _ _ (spliced ((false,eval (.Call (.Attribute l "values" apos) [] [] cpos) X.env) :: [])) _ _ s
 refine Calls.spliced_cons ?_
 refine wpAny_Call_method m.base m.few m.line PySem.F.plainAttrs_dict PySem.F.slot_dict_values PySem.F.type_dict_values (thn (hl pins s σ H _ I h) λv s1 zz9=>?_)
 obtain ⟨x,H1,I1,r1,q1⟩:=zz9
 obtain ⟨a,kvs,ns,e,hd,hns,q⟩:=q1
 subst e
 cases r1
 obtain ⟨z,hsys,vs,rel,dd⟩:=J6 I1.hok hd
 obtain ⟨ep,da⟩:=dd.dictAt
 obtain ⟨t1,t2,_⟩:=Kf I1 (.inl ⟨kvs,hd⟩)
 refine ⟨t1,t2,?_⟩
 refine Calls.callWith_builtin rfl (PyProof.Rows.evalArgs_empty ?_)
 refine call_meetsIn PySem.F.slot_dict_values da.dictOf.typeIs PySem.F.entry_dict_values (PySem.F.args_dict_values_1 _) (meets_dict_values (Z3 X.prog X.w) a hsys) ⟨⟨vs,da.dictOf⟩,?_⟩
 refine Calls.spliced_nil ?_
 have lt:a < s1.heap.objs.size:=by obtain ⟨o,es,ho,_⟩:=id da; exact Heap.lt_size ho
 have I3:Inv X pins σ H1 { s1 with heap:=s1.heap.push { cls:=.type "dict_values",data:=.fields #[.ref a] } }:=I1.kept (t':=s1.toks) λb o e=>Ak _ e
 generalize hs2:({ s1 with heap:=s1.heap.push { cls:=.type "dict_values",data:=.fields #[.ref a] } }:Shared)=s2 at I3 ⊢
 have hv2:s2.heap.IsValuesView s1.heap.objs.size a:=by rw [<- hs2]; exact ⟨_,Heap.get?_push_size _ rfl,rfl,rfl⟩
 have da2:s2.heap.DictAt (Z3 X.prog X.w) a vs ep:=by rw [<- hs2]; exact da.push _
 have lt2:a < s2.heap.objs.size:=by rw [<- hs2]; show a < (s1.heap.push _).objs.size; rw [Heap.size_push]; exact Nat.lt_succ_of_lt lt
 have hlen:vs.length=ns.length:=by have h1:=rel.length; have h2:=congrArg List.length hns; rw [Ab,Ab] at h2; lia
 refine call_sum_walkG (wpAny_pyIter_values hv2 da2 ⟨s2.heap.objs.size,_,_,_,_,_,λi=>ns.getD i 0,rfl,Walks.dictValues (knd:=Z3 X.prog X.w) (A:=X.A.in1) (show X.A.in1.handled=none from I.ok.hd hc) s2.heap.objs.size a (Nat.ne_of_lt lt2) vs ep,⟨⟨_,Heap.get?_push_size _ rfl,rfl,rfl⟩,da2.push _⟩,?_,λi v ⟨k,hv⟩=>Zge rel hns i k v hv,?_⟩)
 ·intro b hb
  show b < (s2.heap.push _).objs.size
  rw [Heap.size_push]
  rcases List.mem_cons.mp hb with rfl | hb
  ·exact Nat.lt_succ_self _
  ·rw [Af hb]; exact Nat.lt_succ_of_lt lt2
 ·intro h' tk t' hk
  have I4:Inv X pins σ H1 { s2 with heap:=h',toks:=tk }:=I3.kept λb o e=>hk b o (λz=>absurd (Heap.lt_size e) (by rw [Af z]; exact Nat.lt_irrefl _)) (Ak _ e)
  refine ⟨.int ns.sum,H1,I4,⟨t',?_⟩,q⟩
  rw [hlen,Ko ns _ (Nat.le_refl _),List.take_length]
end
end L2
namespace KT
open PySem L2
noncomputable def aN (a:Nat):Nat:=(after a).toNat
noncomputable def bN (a:Nat):Nat:=(before a).toNat
theorem Zez (a:Nat):after a=(aN a:Int):=(Int.toNat_of_nonneg (Zg5 a).2.2).symm
theorem Zex (a:Nat):before a=(bN a:Int):=(Int.toNat_of_nonneg (Zew a).2.2).symm
theorem W6 (a:Nat):aN a=if a % 3=2 then a - 2 else a + 1:=by
 have h:=Zez a
 unfold after at h
 split at h <;> split <;> lia
theorem W5 (a:Nat):bN a=if a % 3=0 then a + 2 else a - 1:=by
 have h:=Zex a
 unfold before at h
 split at h <;> split <;> lia
theorem d3_0 (q:Nat):3 * q / 3=q:=Nat.mul_div_cancel_left q (by decide)
theorem d3_1 (q:Nat):(3 * q + 1) / 3=q:=by rw [Nat.mul_add_div (by decide)]; rfl
theorem d3_2 (q:Nat):(3 * q + 2) / 3=q:=by rw [Nat.mul_add_div (by decide)]; rfl
theorem aN_0 (q:Nat):aN (3 * q)=3 * q + 1:=by rw [W6,if_neg (by rw [Nat.mul_mod_right]; decide)]
theorem aN_1 (q:Nat):aN (3 * q + 1)=3 * q + 2:=by rw [W6,if_neg (by rw [Nat.mul_add_mod]; decide)]
theorem aN_2 (q:Nat):aN (3 * q + 2)=3 * q:=by rw [W6,if_pos (by rw [Nat.mul_add_mod])]; rfl
theorem bN_0 (q:Nat):bN (3 * q)=3 * q + 2:=by rw [W5,if_pos (Nat.mul_mod_right 3 q)]
theorem bN_1 (q:Nat):bN (3 * q + 1)=3 * q:=by rw [W5,if_neg (by rw [Nat.mul_add_mod]; decide)]; rfl
theorem bN_2 (q:Nat):bN (3 * q + 2)=3 * q + 1:=by rw [W5,if_neg (by rw [Nat.mul_add_mod]; decide)]; rfl
theorem three (a:Nat):∃ q,a=3 * q\/a=3 * q + 1\/a=3 * q + 2:=⟨a / 3,by lia⟩
theorem Vl (a:Nat):aN a / 3=a / 3/\bN a / 3=a / 3/\aN (aN a)=bN a/\bN (aN a)=a/\aN (bN a)=a/\bN (bN a)=aN a/\aN a≠a/\bN a≠a/\aN a≠bN a:=by
 have n1:∀ q,q + 1≠q:=λq=>Nat.succ_ne_self q
 have n2:∀ q,q + 2≠q:=λq h=>Nat.ne_of_gt (Nat.lt_add_of_pos_right (n:=q) (k:=2) (by decide)) h
 obtain ⟨q,rfl | rfl | rfl⟩:=three a
 ·rw [aN_0,bN_0,aN_1,bN_1,aN_2,bN_2,d3_0,d3_1,d3_2]
  exact ⟨rfl,rfl,rfl,rfl,rfl,rfl,n1 _,n2 _,λh=>n1 _ h.symm⟩
 ·rw [aN_1,bN_1,aN_2,bN_2,aN_0,bN_0,d3_0,d3_1,d3_2]
  exact ⟨rfl,rfl,rfl,rfl,rfl,rfl,n1 _,λh=>n1 _ h.symm,n2 _⟩
 ·rw [aN_2,bN_2,aN_0,bN_0,aN_1,bN_1,d3_0,d3_1,d3_2]
  exact ⟨rfl,rfl,rfl,rfl,rfl,rfl,λh=>n2 _ h.symm,λh=>n1 _ h.symm,λh=>n1 _ h.symm⟩
theorem Zcl (a z:Nat) (h:z / 3=a / 3):z=a\/z=aN a\/z=bN a:=by
 have h1:=W6 a
 have h2:=W5 a
 split at h1 <;> split at h2 <;> lia
theorem F3 {a n:Nat} (h:a < 3 * n):aN a < 3 * n/\bN a < 3 * n:=by
 obtain ⟨h1,h2,_⟩:=Vl a
 exact ⟨by lia,by lia⟩
structure PC (M:List (Option Nat)) (f:Nat->Int):Prop where
 nn:∀ p,p < M.length->0<=f p
 rim:∀ p:Nat,M[p]?=some none->f p=0
 mate:∀ p q:Nat,M[p]?=some (some q)->f q=f p
 even:∀ p,p < M.length->(f p + f (aN p) + f (bN p)) % 2=0
 tri:∀ p,p < M.length->f p<=f (aN p) + f (bN p)
noncomputable def mx (x y:Int):Int:=if y > x then y else x
noncomputable def bh (f:Nat->Int) (a b:Nat):Int:=mx (f (aN a) + f (aN b)) (f (bN a) + f (bN b)) - f a
noncomputable def fx (left:Bool) (a b:Nat) (f:Nat->Int) (z:Nat):Int:=if z=a\/z=b then bh f a b else f (mvN (!left) a b z)
section
variable {M:List (Option Nat)} {ns:List Int} {f:Nat->Int} {a b:Nat} {left:Bool}
noncomputable def Nm (ns:List Int) (f:Nat->Int) (g:Int->Int):Prop:=∀ (p:Nat) (x:Int),ns[p]?=some x->g x=f p
end
structure PreC (M:List (Option Nat)) (f:Nat->Int):Prop where
 nn:∀ p,p < M.length->0<=f p
 rim:∀ p:Nat,M[p]?=some none->f p=0
 mate:∀ p q:Nat,M[p]?=some (some q)->f q=f p
 even:∀ p,p < M.length->(f p + f (aN p) + f (bN p)) % 2=0
noncomputable def sF (f:Nat->Int):Nat->Int
 | 0=>0
 | n + 1=>sF f n + f n
theorem Zd6 {f g:Nat->Int}:∀ {n:Nat},(∀ z,z < n->f z<=g z)->sF f n<=sF g n
 | 0,_=>Int.le_refl _
 | n + 1,h=>Int.add_le_add (Zd6 λz hz=>h z (by lia)) (h n (by lia))
theorem Zir {f g:Nat->Int} {p:Nat}:∀ {n:Nat},(∀ z,z < n->f z<=g z)->p < n->f p < g p->sF f n < sF g n
 | 0,_,hp,_=>absurd hp (by lia)
 | n + 1,h,hp,hl=>by
  show sF f n + f n < sF g n + g n
  by_cases c:p=n
  ·subst c
   have:=Zd6 (n:=p) λz hz=>h z (by lia)
   lia
  ·have:=Zir (n:=n) (p:=p) (λz hz=>h z (by lia)) (by lia) hl
   have:=h n (by lia)
   lia
theorem Zd5 {f:Nat->Int}:∀ {n:Nat},(∀ z,z < n->0<=f z)->0<=sF f n
 | 0,_=>Int.le_refl _
 | n + 1,h=>Int.add_nonneg (Zd5 λz hz=>h z (by lia)) (h n (by lia))
noncomputable def lw (f:Nat->Int) (p:Nat) (q:Option Nat) (v:Int):Nat->Int:=λz=>if z=p\/q=some z then v else f z
section
variable {M:List (Option Nat)} {f:Nat->Int} {p:Nat}
theorem Zj2 (v:Int):lw f p none v=λz=>if z=p then v else f z:=by
 funext z
 unfold lw
 by_cases c:z=p
 ·rw [if_pos (.inl c),if_pos c]
 ·rw [if_neg (by rintro (h | h); exact c h; cases h),if_neg c]
theorem Jh (q:Nat) (v:Int):lw f p (some q) v=λz=>if z=q then v else if z=p then v else f z:=by
 funext z
 unfold lw
 by_cases c:z=p
 ·rw [if_pos (.inl c)]
  by_cases d:z=q
  ·rw [if_pos d]
  ·rw [if_neg d,if_pos c]
 ·by_cases d:z=q
  ·rw [if_pos (.inr (by rw [d])),if_pos d]
  ·rw [if_neg (by rintro (h | h); exact c h; cases h; exact d rfl),if_neg d,if_neg c]
theorem PreC.lw (pc:PreC M f) (h3:∃ n,M.length=3 * n) (inv:InvM M) {q:Option Nat} (hq:M[p]?=some q) (hl:f (aN p) + f (bN p) < f p) :
  PreC M (lw f p q (f (aN p) + f (bN p)))/\(∀ z,lw f p q (f (aN p) + f (bN p)) z<=f z\/z ≥ M.length)/\lw f p q (f (aN p) + f (bN p)) p < f p:=by
 have hp:p < M.length:=(Aa hq).1
 obtain ⟨n,hn⟩:=h3
 obtain ⟨l1,l2⟩:=F3 (show p < 3 * n by lia)
 have n1:=pc.nn (aN p) (by lia)
 have n2:=pc.nn (bN p) (by lia)
 have ev:=pc.even p hp
 obtain ⟨y,rfl⟩:∃ y,q=some y:=by
  cases q with
  | none=>have:=pc.rim p hq; lia
  | some y=>exact ⟨y,rfl⟩
 have hy:=(inv p y hq).1
 have em:=pc.mate p y hq
 have par:∀ z,(KT.lw f p (some y) (f (aN p) + f (bN p)) z - f z) % 2=0:=λz=>by
  rw [Jh]
  dsimp only
  by_cases c:z=y
  ·rw [if_pos c,c]; lia
  ·rw [if_neg c]
   by_cases d:z=p
   ·rw [if_pos d,d]; lia
   ·rw [if_neg d]; lia
 refine ⟨⟨λz hz=>?_,λz hz=>?_,λz w hz=>?_,λz hz=>?_⟩,λz=>?_,?_⟩
 ·rw [Jh]
  dsimp only
  split
  ·lia
  ·split
   ·lia
   ·exact pc.nn z hz
 ·rw [Jh]
  dsimp only
  rw [if_neg (λe=>by rw [e,hy] at hz; cases hz),if_neg (λe=>by rw [e,hq] at hz; cases hz)]
  exact pc.rim z hz
 ·rw [Jh]
  dsimp only
  have hw:=(inv z w hz).1
  by_cases c:z=y
  ·subst c
   rw [hy] at hz
   cases hz
   rw [if_pos rfl,if_pos rfl]
   split <;> rfl
  ·rw [if_neg c]
   by_cases d:z=p
   ·subst d
    rw [hq] at hz
    cases hz
    rw [if_pos rfl,if_pos rfl]
   ·rw [if_neg d]
    have c2:w≠y:=λe=>by rw [e,hy] at hw; cases hw; exact d rfl
    have d2:w≠p:=λe=>by rw [e,hq] at hw; cases hw; exact c rfl
    rw [if_neg c2,if_neg d2]
    exact pc.mate z w hz
 ·have:=pc.even z hz
  have p1:=par z
  have p2:=par (aN z)
  have p3:=par (bN z)
  lia
 ·left
  rw [Jh]
  dsimp only
  split
  ·rename_i c; rw [c]; lia
  ·split
   ·rename_i c; rw [c]; lia
   ·exact Int.le_refl _
 ·rw [Jh]
  dsimp only
  split
  ·exact hl
  ·rw [if_pos rfl]; exact hl
theorem PreC.all (pc:PreC M f) (h:∀ p,p < M.length->f p<=f (aN p) + f (bN p)):PC M f:=⟨pc.nn,pc.rim,pc.mate,pc.even,h⟩
end
theorem Vw {M:List (Option Nat)} {q m:Nat} (h:M[q]?=some (some m)):mtN M q=m:=by unfold mtN; rw [Ad,h]; rfl
noncomputable def crN (M:List (Option Nat)) (ws:List Nat) (p:Nat):Nat:=ws.countP λq=>decide (q=p\/mtN M q=p)
theorem ind3 (z q:Nat):(if q=z then 1 else 0) + (if q=aN z then 1 else 0) + (if q=bN z then 1 else 0)=if q / 3=z / 3 then 1 else 0:=by
 obtain ⟨a1,a2,_,_,_,_,a7,a8,a9⟩:=Vl z
 by_cases c:q / 3=z / 3
 ·rw [if_pos c]
  rcases Zcl z q c with rfl | rfl | rfl
  ·rw [if_pos rfl,if_neg (Ne.symm a7),if_neg (Ne.symm a8)]
  ·rw [if_neg a7,if_pos rfl,if_neg a9]
  ·rw [if_neg a8,if_neg (Ne.symm a9),if_pos rfl]
 ·rw [if_neg c,if_neg (λe=>c (by rw [e])),if_neg (λe=>c (by rw [e]; exact a1)),if_neg (λe=>c (by rw [e]; exact a2))]
theorem Zeo {q m s:Nat} (h:q≠m):(if decide (q=s\/m=s)=true then 1 else 0)=(if q=s then 1 else 0) + if m=s then 1 else 0:=by
 by_cases c:q=s
 ·subst c
  rw [if_pos (decide_eq_true (.inl rfl)),if_pos rfl,if_neg (Ne.symm h)]
 ·by_cases d:m=s
  ·rw [if_pos (decide_eq_true (.inr d)),if_neg c,if_pos d]
  ·rw [if_neg (λe=>by rcases of_decide_eq_true e with e | e; exact c e; exact d e),if_neg c,if_neg d]
theorem Zgy {M:List (Option Nat)} (inv:InvM M) (z:Nat):∀ ws:List Nat,(∀ p∈ws,∃ m,M[p]?=some (some m)) ->
  crN M ws z + crN M ws (aN z) + crN M ws (bN z)=(ws.countP λq=>decide (q / 3=z / 3)) + ws.countP λq=>decide (mtN M q / 3=z / 3)
 | [],_=>rfl
 | q :: r,h=>by
  have ih:=Zgy inv z r λp hp=>h p (List.mem_cons_of_mem _ hp)
  obtain ⟨m,hm⟩:=h q List.mem_cons_self
  have ne:=(inv q m hm).2
  unfold crN at ih ⊢
  simp only [List.countP_cons,Vw hm]
  rw [Zeo ne,Zeo ne,Zeo ne]
  have i1:=ind3 z q
  have i2:=ind3 z m
  have e:∀ c:Prop,[Decidable c]->(if decide c=true then 1 else 0)=if c then 1 else 0:=λc _=>by by_cases h:c <;> simp [h]
  rw [e,e]
  lia
theorem Zkg {M:List (Option Nat)} (inv:InvM M) {ws:List Nat} (h:ws=[]\/Pl M ws) (z:Nat):(crN M ws z + crN M ws (aN z) + crN M ws (bN z)) % 2=0:=by
 rcases h with rfl | hP
 ·rfl
 ·rw [Zgy inv z ws hP.has]
  have hl:0 < ws.length:=List.length_pos_iff.mpr hP.ne
  have e:(ws.map λq=>mtN M q / 3)=(rot ws 1).map λq=>q / 3:=by
   apply List.ext_getElem?
   intro i
   rw [Ah,Ah]
   by_cases hi:i < ws.length
   ·obtain ⟨m,hm⟩:=hP.has ws[i] (List.getElem_mem hi)
    have hn:(i + 1) % ws.length < ws.length:=Nat.mod_lt _ hl
    have:=(hP.nxt i ws[i] ws[(i + 1) % ws.length] (Ac hi) (Ac hn) m hm).1
    rw [Zk9 (j:=0) hl hi,Ac hi,Ac hn]
    show some (mtN M ws[i] / 3)=some (ws[(i + 1) % ws.length] / 3)
    rw [Vw hm,this]
   ·rw [List.getElem?_eq_none (by lia),List.getElem?_eq_none (by rw [J7 _ (by lia)]; lia)]
    rfl
  have p:(rot ws 1).Perm ws:=by
   unfold rot
   refine List.perm_append_comm.trans ?_
   rw [List.take_append_drop]
  have c1:(ws.countP λq=>decide (mtN M q / 3=z / 3))=(ws.map λq=>mtN M q / 3).countP λx=>decide (x=z / 3):=by rw [List.countP_map]; rfl
  have c2:(ws.countP λq=>decide (q / 3=z / 3))=((rot ws 1).map λq=>q / 3).countP λx=>decide (x=z / 3):=by rw [List.countP_map,p.countP_eq]; rfl
  rw [c1,e,<- c2]
  lia
noncomputable def fam (M:List (Option Nat)) (ws:List Nat) (h:Nat->Int) (p:Nat):Int:=match (M[p]?).join with
 | some y=>2 * h (min p y) + (crN M ws p % 2:Nat)
 | none=>0
theorem Zbp {M:List (Option Nat)} (inv:InvM M) {ws:List Nat} (has:∀ p∈ws,∃ m,M[p]?=some (some m)) {p y:Nat} (h:M[p]?=some (some y)):crN M ws y=crN M ws p:=by
 unfold crN
 apply List.countP_congr
 intro q hq
 obtain ⟨m,hm⟩:=has q hq
 have hy:=(inv p y h).1
 rw [Vw hm,decide_eq_true_eq,decide_eq_true_eq]
 constructor
 ·rintro (rfl | rfl)
  ·right; rw [hy] at hm; cases hm; rfl
  ·left
   have:=(inv q m hm).1
   rw [hy] at this; cases this; rfl
 ·rintro (rfl | rfl)
  ·right; rw [h] at hm; cases hm; rfl
  ·left
   have:=(inv q m hm).1
   rw [h] at this; cases this; rfl
theorem Zkh {M:List (Option Nat)} (inv:InvM M) {ws:List Nat} (has:∀ p∈ws,∃ m,M[p]?=some (some m)) {p:Nat} (h:(M[p]?).join=none):crN M ws p=0:=by
 unfold crN
 rw [List.countP_eq_zero]
 intro q hq e
 obtain ⟨m,hm⟩:=has q hq
 rw [Vw hm] at e
 rcases of_decide_eq_true e with rfl | rfl
 ·rw [hm] at h; cases h
 ·rw [(inv q m hm).1] at h; cases h
theorem Zkc {M:List (Option Nat)} (inv:InvM M) {ws:List Nat} (hw:ws=[]\/Pl M ws) {h:Nat->Int} (hn:∀ p,0<=h p):PreC M (fam M ws h):=by
 have has:∀ p∈ws,∃ m,M[p]?=some (some m):=by
  rcases hw with rfl | hP
  ·exact λp hp=>absurd hp List.not_mem_nil
  ·exact hP.has
 have par:∀ z,(fam M ws h z - (crN M ws z:Int)) % 2=0:=λz=>by
  unfold fam
  cases e:(M[z]?).join with
  | none=>dsimp only; rw [Zkh inv has e]; rfl
  | some y=>dsimp only; lia
 refine ⟨λp _=>?_,λp hp=>?_,λp q hp=>?_,λp _=>?_⟩
 ·unfold fam
  cases (M[p]?).join with
  | none=>exact Int.le_refl _
  | some y=>dsimp only; have:=hn (min p y); lia
 ·unfold fam; rw [hp]; rfl
 ·have hq:=(inv p q hp).1
  unfold fam
  rw [hp,hq]
  show 2 * h (min q p) + (crN M ws q % 2:Nat)=2 * h (min p q) + (crN M ws p % 2:Nat)
  rw [Zbp inv has hp,Nat.min_comm]
 ·have c:=Zkg inv hw p
  have p1:=par p
  have p2:=par (aN p)
  have p3:=par (bN p)
  lia
theorem Nm.of {M:List (Option Nat)} {ns:List Int} {f:Nat->Int} {g:Int->Int} (td:TD M ns) (pc:PC M f) (h:∀ x∈keys ns ns.length,∃ p,ns[p]?=some x/\g x=f p):Nm ns f g:=by
 intro p x hp
 obtain ⟨q,hq,e⟩:=h x (Y6.mpr ⟨p,(Aa hp).1,hp⟩)
 rw [e]
 rcases td.eqv q p x hq hp with z | z
 ·rw [z]
 ·exact (pc.mate q p z).symm
theorem Nm.same {ns:List Int} {f:Nat->Int} {g g':Int->Int} (h:Nm ns f g) (h':Nm ns f g') {x:Int} (hx:x∈keys ns ns.length):g x=g' x:=by
 obtain ⟨i,_,e⟩:=Y6.mp hx
 rw [h i x e,h' i x e]
theorem Kw (f:Nat->Int):∀ n,sF f n=((List.range n).map f).sum
 | 0=>rfl
 | n + 1=>by rw [List.range_succ,Aj,List.sum_append,<- Kw f n]; simp [sF]
theorem Fv {a b:List Int} (h:a.Perm b):a.sum=b.sum:=by
 induction h with
 | nil=>rfl
 | cons x _ ih=>simp [ih]
 | swap x y l=>simp only [List.sum_cons]; lia
 | trans _ _ h1 h2=>exact h1.trans h2
theorem Zjn {f:Nat->Int} {μ ν:Nat->Nat} {n:Nat} (h1:∀ z,z < n->μ z < n) (h3:∀ z,z < n->ν z < n) (h4:∀ z,z < n->μ (ν z)=z) (h5:∀ z,z < n->ν (μ z)=z):sF (λz=>f (μ z)) n=sF f n:=by
 rw [Kw,Kw]
 have p:((List.range n).map μ).Perm (List.range n):=by
  have nd:((List.range n).map μ).Nodup:=by
   rw [List.Nodup,List.pairwise_map]
   refine List.Pairwise.imp_of_mem (λ{a b} ha hb hab e=>?_) List.nodup_range
   have:=congrArg ν e
   rw [h5 a (List.mem_range.mp ha),h5 b (List.mem_range.mp hb)] at this
   exact hab this
  rw [List.perm_ext_iff_of_nodup nd List.nodup_range]
  intro x
  constructor
  ·intro hx
   obtain ⟨z,hz,rfl⟩:=List.mem_map.mp hx
   exact List.mem_range.mpr (h1 z (List.mem_range.mp hz))
  ·intro hx
   have hx:=List.mem_range.mp hx
   exact List.mem_map.mpr ⟨ν x,List.mem_range.mpr (h3 x hx),h4 x hx⟩
 have:=Fv (p.map f)
 rw [List.map_map] at this
 exact this
theorem Zfh (f g:Nat->Int):∀ n,sF (λz=>f z + g z) n=sF f n + sF g n
 | 0=>rfl
 | n + 1=>by
  show sF (λz=>f z + g z) n + (f n + g n)=(sF f n + f n) + (sF g n + g n)
  rw [Zfh f g n]; lia
theorem Zaj {f g:Nat->Int}:∀ {n},(∀ z,z < n->f z=g z)->sF f n=sF g n
 | 0,_=>rfl
 | n + 1,h=>by
  show sF f n + f n=sF g n + g n
  rw [Zaj λz hz=>h z (by lia),h n (by lia)]
theorem Zak {f:Nat->Int} {k:Int}:∀ {n:Nat},(∀ z,z < n->f z<=k)->sF f n<=n * k
 | 0,_=>by simp [sF]
 | n + 1,h=>by
  have:=Zak (n:=n) λz hz=>h z (by lia)
  have:=h n (by lia)
  show sF f n + f n<=((n + 1:Nat):Int) * k
  rw [Int.natCast_add,Int.add_mul]
  simp
  lia
section
variable {M:List (Option Nat)} {ns:List Int} {f:Nat->Int} {g:Int->Int}
noncomputable def fst1 (M:List (Option Nat)) (f:Nat->Int) (p:Nat):Int:=match (M[p]?).join with
 | some q=>if q < p then 0 else f p
 | none=>f p
noncomputable def mu (M:List (Option Nat)) (p:Nat):Nat:=match (M[p]?).join with
 | some q=>q
 | none=>p
theorem Zbe (td:TD M ns) (nm:Nm ns f g):∀ n,n<=ns.length->((keys ns n).map g).sum=sF (fst1 M f) n
 | 0,_=>rfl
 | n + 1,h=>by
  have ih:=Zbe td nm n (by lia)
  obtain ⟨x,hx⟩:∃ x,ns[n]?=some x:=⟨_,Ac (by lia)⟩
  rw [Xp hx]
  show _=sF (fst1 M f) n + fst1 M f n
  have hl:=td.len
  by_cases c:x∈keys ns n
  ·rw [if_pos c,ih]
   obtain ⟨i,hi,e⟩:=Y6.mp c
   have:fst1 M f n=0:=by
    unfold fst1
    rcases td.eqv n i x hx e with z | z
    ·lia
    ·rw [z]; exact if_pos hi
   lia
  ·rw [if_neg c,Aj,List.sum_append,ih]
   have:fst1 M f n=g x:=by
    rw [nm n x hx]
    unfold fst1
    cases e:M[n]? with
    | none=>rfl
    | some o=>cases o with
     | none=>rfl
     | some q =>
      refine if_neg λhq=>c (Y6.mpr ⟨q,hq,?_⟩)
      rw [td.eqm n q e]; exact hx
   simp [this]
theorem Zed {p q:Nat} (h:M[p]?=some (some q)):mu M p=q:=by unfold mu; rw [h]; rfl
theorem Zgf (td:TD M ns) (nm:Nm ns f g) (pc:PC M f):2 * ((keys ns ns.length).map g).sum=sF f ns.length:=by
 rw [Zbe td nm _ (Nat.le_refl _)]
 have hl:=td.len
 have inv:=td.inv
 have e:sF f ns.length=sF (λz=>fst1 M f z + fst1 M f (mu M z)) ns.length:=Zaj λz hz=>by
  cases e:M[z]? with
  | none=>rw [List.getElem?_eq_none_iff] at e; lia
  | some o=>cases o with
   | none =>
    have h0:=pc.rim z e
    have h1:mu M z=z:=by unfold mu; rw [e]; rfl
    have h2:fst1 M f z=f z:=by unfold fst1; rw [e]; rfl
    rw [h1,h2,h0]; rfl
   | some q =>
    obtain ⟨hq,ne⟩:=inv z q e
    have h1:=Zed e
    have h2:fst1 M f z=if q < z then 0 else f z:=by unfold fst1; rw [e]; rfl
    have h3:fst1 M f q=if z < q then 0 else f q:=by unfold fst1; rw [hq]; rfl
    have h4:=pc.mate z q e
    rw [h1,h2,h3]
    by_cases c:q < z
    ·rw [if_pos c,if_neg (by lia),h4]; lia
    ·rw [if_neg c,if_pos (by lia)]; lia
 have lt:∀ z,z < ns.length->mu M z < ns.length:=by
  intro z hz
  unfold mu
  cases e:M[z]? with
  | none=>exact hz
  | some o=>cases o with
   | none=>exact hz
   | some q=>have:=(Aa (inv z q e).1).1; show q < _; lia
 have back:∀ u,u < ns.length->mu M (mu M u)=u:=λu hu=>by
  cases e:M[u]? with
  | none=>rw [List.getElem?_eq_none_iff] at e; lia
  | some o=>cases o with
   | none =>
    have h1:mu M u=u:=by unfold mu; rw [e]; rfl
    rw [h1,h1]
   | some q=>rw [Zed e,Zed (inv u q e).1]
 rw [e,Zfh,Zjn (f:=fst1 M f) (μ:=mu M) (ν:=mu M) lt lt back back]
 lia
end
section
variable {M:List (Option Nat)}
open Classical in
noncomputable def fanF (M:List (Option Nat)) (c:Nat):List Nat × Bool:=if h:∃ q:List Nat × Bool,FanEnd M c q.1 q.2 then h.choose else ([],false)
end
section
variable {M:List (Option Nat)}
noncomputable def fanL (M:List (Option Nat)) (c:Nat):List Nat:=(fanF M c).1
noncomputable def mn (l:List Nat):Nat:=l.min?.getD 0
noncomputable def key (M:List (Option Nat)) (c:Nat):Int:=(mn (fanL M c):Nat)
end
noncomputable def it (f:Nat->Nat):Nat->Nat->Nat
 | 0,x=>x
 | k + 1,x=>f (it f k x)
theorem Kd (f:Nat->Nat) (j x:Nat):∀ k,it f (k + j) x=it f k (it f j x)
 | 0=>by rw [Nat.zero_add]; rfl
 | k + 1=>by rw [Nat.add_right_comm]; show f _=f _; rw [Kd f j x k]
noncomputable def orb (D:Nat->Prop) (f:Nat->Nat) (x y:Nat):Prop:=D x/\∃ k,it f k x=y
section
variable {M:List (Option Nat)} {P:List Nat} {n:Nat}
noncomputable def mtQ (M:List (Option Nat)) (p:Nat):Nat:=(M.getD p none).getD 0
theorem Zf8 {x y:Nat} (h:M[x]?=some (some y)):mtQ M x=y:=by unfold mtQ; rw [Ad,h]; rfl
end
noncomputable def nN (f:Nat->Int) (p:Nat):Nat:=(f p).toNat
noncomputable def sgP (M:List (Option Nat)) (f:Nat->Int) (c:Nat):Nat:=1000 * mtQ M (c / 1000) + (nN f (c / 1000) - 1 - c % 1000)
noncomputable def tuP (f:Nat->Int) (c:Nat):Nat:=if ((c % 1000:Nat):Int) < (f (bN (c / 1000)) + f (c / 1000) - f (aN (c / 1000))) / 2 then 1000 * bN (c / 1000) + (nN f (bN (c / 1000)) - 1 - c % 1000) else 1000 * aN (c / 1000) + (nN f (c / 1000) - 1 - c % 1000)
noncomputable def nxP (M:List (Option Nat)) (f:Nat->Int) (c:Nat):Nat:=tuP f (sgP M f c)
noncomputable def VpP (M:List (Option Nat)) (f:Nat->Int) (c:Nat):Prop:=c / 1000 < M.length/\c % 1000 < nN f (c / 1000)
structure Fam (M:List (Option Nat)) (f:Nat->Int) (n:Nat):Prop where
 pc:PC M f
 inv:InvM M
 hn:M.length=3 * n
 le:∀ p,p < M.length->f p<=900
theorem W4 {p s:Nat} (h:s < 1000):(1000 * p + s) / 1000=p/\(1000 * p + s) % 1000=s:=by lia
section
variable {M:List (Option Nat)} {f:Nat->Int} {n:Nat}
theorem Fam.nf (h:Fam M f n) {p:Nat} (hp:p < M.length):((nN f p:Nat):Int)=f p/\nN f p<=900:=by
 have h1:=h.pc.nn p hp
 have h2:=h.le p hp
 unfold nN
 lia
theorem Fam.sg (h:Fam M f n) {c:Nat} (v:VpP M f c):∃ q,M[c / 1000]?=some (some q)/\sgP M f c=1000 * q + (nN f (c / 1000) - 1 - c % 1000)/\VpP M f (sgP M f c)/\sgP M f (sgP M f c)=c/\(sgP M f c) / 1000=q/\q≠c / 1000:=by
 obtain ⟨v1,v2⟩:=v
 obtain ⟨f1,f2⟩:=h.nf v1
 obtain ⟨o,ho⟩:∃ o,M[c / 1000]?=some o:=⟨_,Ac v1⟩
 cases o with
 | none=>have:=h.pc.rim _ ho; lia
 | some q =>
  obtain ⟨i1,i2⟩:=h.inv _ _ ho
  have hq:q < M.length:=(Aa i1).1
  have e:sgP M f c=1000 * q + (nN f (c / 1000) - 1 - c % 1000):=by unfold sgP; rw [Zf8 ho]
  have eN:nN f q=nN f (c / 1000):=by unfold nN; rw [h.pc.mate _ _ ho]
  have d:=W4 (p:=q) (s:=nN f (c / 1000) - 1 - c % 1000) (by lia)
  refine ⟨q,ho,e,?_,?_,by rw [e]; exact d.1,λz=>i2 z.symm⟩
  ·unfold VpP
   rw [e,d.1,d.2,eN]
   exact ⟨hq,by lia⟩
  ·rw [e]
   unfold sgP
   rw [d.1,d.2,Zf8 i1,eN]
   lia
theorem Fam.sg_ne (h:Fam M f n) {c:Nat} (v:VpP M f c):sgP M f c≠c:=λz=>by
 obtain ⟨q,_,_,_,_,h5,h6⟩:=h.sg v
 rw [z] at h5
 exact h6 h5.symm
theorem Fam.tu (h:Fam M f n) {c:Nat} (v:VpP M f c):VpP M f (tuP f c)/\tuP f (tuP f c)=c/\(tuP f c) / 1000 / 3=c / 1000 / 3/\(tuP f c) / 1000≠c / 1000:=by
 obtain ⟨v1,v2⟩:=v
 generalize hp:c / 1000=p at *
 generalize hs:c % 1000=e at *
 have ec:c=1000 * p + e:=by lia
 obtain ⟨d1,d2,d3,d4,d5,d6,d7,d8,d9⟩:=Vl p
 have ha:aN p < M.length:=by have:=h.hn; lia
 have hb:bN p < M.length:=by have:=h.hn; lia
 obtain ⟨f1,f2⟩:=h.nf v1
 obtain ⟨f3,f4⟩:=h.nf ha
 obtain ⟨f5,f6⟩:=h.nf hb
 have ev:=h.pc.even p v1
 have t1:=h.pc.tri p v1
 have t2:=h.pc.tri _ ha
 have t3:=h.pc.tri _ hb
 rw [d3,d4] at t2
 rw [d5,d6] at t3
 by_cases c1:(e:Int) < (f (bN p) + f p - f (aN p)) / 2
 ·have e1:tuP f c=1000 * bN p + (nN f (bN p) - 1 - e):=by unfold tuP; rw [hp,hs,if_pos c1]
  have dd:=W4 (p:=bN p) (s:=nN f (bN p) - 1 - e) (by lia)
  refine ⟨?_,?_,?_,?_⟩
  ·unfold VpP; rw [e1,dd.1,dd.2]; exact ⟨hb,by lia⟩
  ·rw [e1]
   unfold tuP
   rw [dd.1,dd.2,d5,d6,if_neg (by lia)]
   lia
  ·rw [e1,dd.1]; exact d2
  ·rw [e1,dd.1]; exact d8
 ·have e1:tuP f c=1000 * aN p + (nN f p - 1 - e):=by unfold tuP; rw [hp,hs,if_neg c1]
  have dd:=W4 (p:=aN p) (s:=nN f p - 1 - e) (by lia)
  refine ⟨?_,?_,?_,?_⟩
  ·unfold VpP; rw [e1,dd.1,dd.2]; exact ⟨ha,by lia⟩
  ·rw [e1]
   unfold tuP
   rw [dd.1,dd.2,d3,d4,if_pos (by lia)]
   lia
  ·rw [e1,dd.1]; exact d1
  ·rw [e1,dd.1]; exact d7
theorem Fam.tu_ne (h:Fam M f n) {c:Nat} (v:VpP M f c):tuP f c≠c:=λz=>(h.tu v).2.2.2 (by rw [z])
theorem Fam.nx (h:Fam M f n) {c:Nat} (v:VpP M f c):VpP M f (nxP M f c):=(h.tu (h.sg v).choose_spec.2.2.1).1
theorem Fam.sgV (h:Fam M f n) {c:Nat} (v:VpP M f c):VpP M f (sgP M f c):=(h.sg v).choose_spec.2.2.1
theorem Fam.sgsg (h:Fam M f n) {c:Nat} (v:VpP M f c):sgP M f (sgP M f c)=c:=(h.sg v).choose_spec.2.2.2.1
theorem Fam.nx_inj (h:Fam M f n) {c d:Nat} (v:VpP M f c) (v':VpP M f d) (e:nxP M f c=nxP M f d):c=d:=by
 have e1:=congrArg (tuP f) e
 unfold nxP at e1
 rw [(h.tu (h.sgV v)).2.1,(h.tu (h.sgV v')).2.1] at e1
 have e2:=congrArg (sgP M f) e1
 rwa [h.sgsg v,h.sgsg v'] at e2
theorem Fam.itV (h:Fam M f n) {c:Nat} (v:VpP M f c):∀ k,VpP M f (it (nxP M f) k c)
 | 0=>v
 | k + 1=>h.nx (h.itV v k)
theorem Fam.it_inj (h:Fam M f n):∀ (k:Nat) {c d:Nat},VpP M f c->VpP M f d->it (nxP M f) k c=it (nxP M f) k d->c=d
 | 0,_,_,_,_,e=>e
 | k + 1,_,_,v,v',e=>h.it_inj k v v' (h.nx_inj (h.itV v k) (h.itV v' k) e)
theorem Zbg (g:Nat->Nat) (x:Nat):∀ k,it g (k + 1) x=it g k (g x)
 | 0=>rfl
 | k + 1=>congrArg g (Zbg g x k)
theorem Fam.turn (h:Fam M f n) {z:Nat} (v:VpP M f z):∀ k,it (nxP M f) k (sgP M f (it (nxP M f) k z))=sgP M f z
 | 0=>rfl
 | k + 1=>by
  rw [Zbg]
  have w:=h.itV v k
  have e:nxP M f (sgP M f (it (nxP M f) (k + 1) z))=sgP M f (it (nxP M f) k z):=by
   show tuP f (sgP M f (sgP M f (nxP M f (it (nxP M f) k z))))=_
   rw [h.sgsg (h.nx w)]
   exact (h.tu (h.sgV w)).2.1
  rw [e]
  exact h.turn v k
theorem Fam.apart (h:Fam M f n) {z:Nat} (v:VpP M f z) (m:Nat):sgP M f z≠it (nxP M f) m z:=λe=>by
 obtain ⟨i,hi | hi⟩:∃ i,m=i + i\/m=i + 1 + i:=⟨m / 2,by lia⟩
 ·subst hi
  have w:=h.itV v i
  rw [Kd,<- h.turn v i] at e
  exact h.sg_ne w (h.it_inj i (h.sgV w) w e)
 ·subst hi
  have w:=h.itV v i
  have e2:it (nxP M f) (i + 1 + i) z=it (nxP M f) i (nxP M f (it (nxP M f) i z)):=by
   rw [Kd,Zbg]
  rw [e2,<- h.turn v i] at e
  have:=h.it_inj i (h.sgV w) (h.nx w) e
  exact h.tu_ne (h.sgV w) this.symm
noncomputable def RnP (M:List (Option Nat)) (f:Nat->Int) (c d:Nat):Prop:=VpP M f c/\nxP M f c=d
theorem Fam.rinj (h:Fam M f n):∀ a b x,RnP M f a x->RnP M f b x->a=b:=λa b x h1 h2=>h.nx_inj h1.1 h2.1 (h1.2.trans h2.2.symm)
theorem rfn:∀ a x y,RnP M f a x->RnP M f a y->x=y:=λa x y h1 h2=>h1.2.symm.trans h2.2
theorem Ua {c:Nat} {os:List Nat} (o:Orb (RnP M f) c os):∀ i x,os[i]?=some x->x=it (nxP M f) i c
 | 0,x,hx=>by rw [o.head] at hx; cases hx; rfl
 | i + 1,x,hx=>by
  have hi:i < os.length:=by have:=(Aa hx).1; lia
  have e:=Ac hi
  have r:=o.chain i _ x e hx
  rw [<- r.2,Ua o i _ e]
  rfl
theorem Fam.orbV (h:Fam M f n) {c:Nat} (v:VpP M f c) {os:List Nat} (o:Orb (RnP M f) c os):∀ x∈os,VpP M f x:=λx hx=>by
 obtain ⟨i,hi,e⟩:=List.mem_iff_getElem.mp hx
 rw [Ua o i x (by rw [Ac hi,e])]
 exact h.itV v i
noncomputable def ptsL (f:Nat->Int):Nat->List Nat
 | 0=>[]
 | p + 1=>ptsL f p ++ (List.range (nN f p)).map λs=>1000 * p + s
theorem Zap (hle:∀ p,nN f p<=900\/True):∀ {m c:Nat},(∀ p,p < m->nN f p<=900)->(c∈ptsL f m ↔ c / 1000 < m/\c % 1000 < nN f (c / 1000))
 | 0,c,_=>by simp [ptsL]
 | m + 1,c,hl=>by
  unfold ptsL
  rw [List.mem_append,Zap hle (λp hp=>hl p (by lia)),List.mem_map]
  have:=hl m (Nat.lt_succ_self _)
  constructor
  ·rintro (⟨h1,h2⟩ | ⟨s,hs,rfl⟩)
   ·exact ⟨by lia,h2⟩
   ·have:=List.mem_range.mp hs
    have d:=W4 (p:=m) (s:=s) (by lia)
    rw [d.1,d.2]
    exact ⟨by lia,this⟩
  ·rintro ⟨h1,h2⟩
   by_cases z:c / 1000=m
   ·exact .inr ⟨c % 1000,List.mem_range.mpr (by rw [<- z]; exact h2),by lia⟩
   ·exact .inl ⟨by lia,h2⟩
theorem Fam.pts_mem (h:Fam M f n) {c:Nat}:c∈ptsL f M.length ↔ VpP M f c:=Zap (λ_=>.inr trivial) λp hp=>(h.nf hp).2
theorem Qs (f:Nat->Int):∀ m,(∀ p,p < m->0<=f p)->((ptsL f m).length:Int)=sF f m
 | 0,_=>rfl
 | m + 1,hl=>by
  unfold ptsL
  rw [Ae,Ab,List.length_range]
  have:=Qs f m λp hp=>hl p (by lia)
  have h0:=hl m (Nat.lt_succ_self _)
  show ((_ + nN f m:Nat):Int)=sF f (m + 1)
  unfold nN sF
  lia
theorem Zf7:∀ (l k:List Nat),l.Nodup->(∀ x∈l,x∈k)->l.length<=k.length
 | [],_,_,_=>Nat.zero_le _
 | x :: l,k,nd,h=>by
  obtain ⟨n1,n2⟩:=List.nodup_cons.mp nd
  have hx:=h x List.mem_cons_self
  have:=Zf7 l (k.erase x) n2 λy hy=>(List.mem_erase_of_ne (λz=>n1 (by rw [<- z]; exact hy))).mpr (h y (List.mem_cons_of_mem _ hy))
  rw [List.length_erase_of_mem hx] at this
  have:=List.length_pos_of_mem hx
  rw [List.length_cons]
  lia
theorem Fam.few (h:Fam M f n) (hs:sF f M.length<=1200) {l:List Nat} (nd:l.Nodup) (hv:∀ c∈l,VpP M f c):l.length<=1200:=by
 have h1:=Zf7 l (ptsL f M.length) nd λc hc=>h.pts_mem.mpr (hv c hc)
 have h2:=Qs f M.length h.pc.nn
 lia
theorem Fam.orb_go (h:Fam M f n) (hs:sF f M.length<=1200):∀ (k c:Nat) (os:List Nat),VpP M f c->Orb (RnP M f) c os->1200 - os.length<=k->∃ ds,OrbEnd (RnP M f) c ds
 | k,c,os,v,o,hk=>by
  have hpos:=o.pos
  obtain ⟨l,hl⟩:∃ l,os[os.length - 1]?=some l:=⟨_,Ac (by lia)⟩
  have vl:=h.orbV v o l (List.mem_of_getElem? hl)
  have r:RnP M f l (nxP M f l):=⟨vl,rfl⟩
  by_cases e:nxP M f l=c
  ·exact ⟨os,o,l,hl,e ▸ r⟩
  ·have o2:=o.snoc hl r (o.new h.rinj hl r e)
   have:=h.few hs o2.nodup (h.orbV v o2)
   rw [Ae,List.length_singleton] at this
   cases k with
   | zero=>lia
   | succ k=>exact h.orb_go hs k c _ v o2 (by rw [Ae,List.length_singleton]; lia)
theorem Fam.orb_ex (h:Fam M f n) (hs:sF f M.length<=1200) {c:Nat} (v:VpP M f c):∃ os,OrbEnd (RnP M f) c os:=h.orb_go hs _ c [c] v (Orb.one c) (Nat.le_refl _)
open Classical in
noncomputable def orbP (M:List (Option Nat)) (f:Nat->Int) (c:Nat):List Nat:=if h:∃ os,OrbEnd (RnP M f) c os then h.choose else []
theorem Ub {c:Nat} {os:List Nat} (o:OrbEnd (RnP M f) c os):orbP M f c=os:=by
 have hx:∃ os,OrbEnd (RnP M f) c os:=⟨os,o⟩
 unfold orbP
 rw [dif_pos hx]
 exact OrbEnd.same rfn hx.choose_spec o
theorem Fam.orb (h:Fam M f n) (hs:sF f M.length<=1200) {c:Nat} (v:VpP M f c):OrbEnd (RnP M f) c (orbP M f c):=by
 obtain ⟨os,o⟩:=h.orb_ex hs v
 rw [Ub o]
 exact o
noncomputable def inS (M:List (Option Nat)) (f:Nat->Int) (D:List Nat) (c:Nat):Prop:=∃ d∈D,c∈orbP M f d\/sgP M f c∈orbP M f d
theorem Zli {c a b:Nat} {os:List Nat} (o:OrbEnd (RnP M f) c os) (ha:a∈os) (r:RnP M f a b):b∈os:=by
 obtain ⟨i,hi,e⟩:=List.mem_iff_getElem.mp ha
 have e':os[i]?=some a:=by rw [Ac hi,e]
 by_cases z:i + 1 < os.length
 ·have e2:=Ac z
  rw [rfn _ _ _ r (o.chain i a _ e' e2)]
  exact List.getElem_mem z
 ·obtain ⟨l,hl,rl⟩:=o.last
  rw [show os.length - 1=i by lia,e'] at hl
  cases hl
  rw [rfn _ _ _ r rl]
  exact List.mem_of_getElem? o.head
theorem Fam.back (h:Fam M f n) (hs:sF f M.length<=1200) {D:List Nat} (hD:∀ d∈D,VpP M f d) {c:Nat} (v:VpP M f c) (hi:inS M f D (nxP M f c)):inS M f D c:=by
 obtain ⟨d,hd,z | z⟩:=hi
 ·exact ⟨d,hd,.inl ((h.orb hs (hD d hd)).before h.rinj z ⟨v,rfl⟩)⟩
 ·refine ⟨d,hd,.inr ?_⟩
  have e:nxP M f (sgP M f (nxP M f c))=sgP M f c:=by
   have:=h.turn v 1
   exact this
  have:=Zli (h.orb hs (hD d hd)) z ⟨h.sgV (h.nx v),rfl⟩
  rwa [e] at this
noncomputable def gT (M:List (Option Nat)) (f:Nat->Int):List Nat->List Nat->List Nat
 | [],D=>D
 | c :: r,D=>gT M f r (@ite _ (inS M f D c) (Classical.propDecidable _) D (D ++ [c]))
theorem K9 (c:Nat):∀ (l D:List Nat),gT M f (l ++ [c]) D=@ite _ (inS M f (gT M f l D) c) (Classical.propDecidable _) (gT M f l D) (gT M f l D ++ [c])
 | [],D=>rfl
 | x :: l,D=>K9 c l _
theorem Zgn {l:List Nat} {c:Nat} (h:inS M f (gT M f l []) c):gT M f (l ++ [c]) []=gT M f l []:=by rw [K9,if_pos h]
theorem Ziz {l:List Nat} {c:Nat} (h:¬ inS M f (gT M f l []) c):gT M f (l ++ [c]) []=gT M f l [] ++ [c]:=by rw [K9,if_neg h]
noncomputable def wdP (M:List (Option Nat)) (f:Nat->Int) (c:Nat):List Nat:=(orbP M f c).map (· / 1000)
theorem Fam.plain (h:Fam M f n) {c:Nat} (v:VpP M f c) {os:List Nat} (o:OrbEnd (RnP M f) c os):Pl M (os.map (· / 1000)):=by
 have hp:=o.pos
 refine ⟨λz=>?_,λp hpm=>?_,λk a p ha hp' m hm=>?_⟩
 ·rw [List.map_eq_nil_iff] at z; rw [z] at hp; simp at hp
 ·obtain ⟨x,hx,rfl⟩:=List.mem_map.mp hpm
  obtain ⟨q,e,_⟩:=h.sg (h.orbV v o.toOrb x hx)
  exact ⟨q,e⟩
 ·rw [Ab,Ah] at hp'
  rw [Ah] at ha
  obtain ⟨x,ex,rfl⟩:=Option.map_eq_some_iff.mp ha
  obtain ⟨y,ey,rfl⟩:=Option.map_eq_some_iff.mp hp'
  have vx:=h.orbV v o.toOrb x (List.mem_of_getElem? ex)
  have r:RnP M f x y:=by
   have hk:=(Aa ex).1
   by_cases z:k + 1 < os.length
   ·rw [Nat.mod_eq_of_lt z] at ey
    exact o.chain k x y ex ey
   ·rw [show k + 1=os.length by lia,Nat.mod_self,o.head] at ey
    cases ey
    obtain ⟨l,hl,rl⟩:=o.last
    rw [show os.length - 1=k by lia,ex] at hl
    cases hl
    exact rl
  obtain ⟨q,e1,_,v2,_,e5,_⟩:=h.sg vx
  rw [hm] at e1
  cases e1
  obtain ⟨_,_,t3,t4⟩:=h.tu v2
  rw [e5] at t3 t4
  rw [<- r.2]
  exact ⟨t3,t4⟩
theorem Fam.other (h:Fam M f n) {c:Nat} (v:VpP M f c) {os:List Nat} (o:Orb (RnP M f) c os) {x y:Nat} (hx:x∈os) (m:Nat) (hy:y=it (nxP M f) m c) (hm:os.length<=m):sgP M f x≠y:=λe=>by
 obtain ⟨i,hi,ei⟩:=List.mem_iff_getElem.mp hx
 have ex:=Ua o i x (by rw [Ac hi,ei])
 have vx:=h.orbV v o x hx
 have:y=it (nxP M f) (m - i) x:=by rw [hy,ex,<- Kd,Nat.sub_add_cancel (by lia)]
 exact h.apart vx (m - i) (e.trans this)
end
end KT
namespace L2
open PySem PySem.SetTable
noncomputable def s5:Nat->Nat
 | 0=>0
 | n + 1=>5 * s5 n + 1
theorem Ow:∀ n,4 * s5 n + 1=5 ^ n
 | 0=>rfl
 | n + 1=>by rw [Nat.pow_succ,<- Ow n]; show 4 * (5 * s5 n + 1) + 1=_; lia
theorem Zk5 (n:Nat):s5 (2 * n)=s5 n * (5 ^ n + 1):=by
 have h1:=Ow (2 * n)
 have h2:=Ow n
 have e:5 ^ (2 * n)=5 ^ n * 5 ^ n:=by rw [Nat.two_mul,Nat.pow_add]
 have:4 * s5 (2 * n)=4 * (s5 n * (5 ^ n + 1)):=by
  have a1:4 * s5 (2 * n) + 1=5 ^ n * 5 ^ n:=by rw [h1,e]
  have a2:4 * (s5 n * (5 ^ n + 1)) + 1=5 ^ n * 5 ^ n:=by
   rw [<- h2]
   generalize s5 n=x
   rw [Nat.add_assoc (4 * x) 1 1]
   simp only [Nat.mul_add,Nat.add_mul,Nat.mul_one,Nat.one_mul]
   have:4 * x * (4 * x)=4 * (x * (4 * x)):=Nat.mul_assoc _ _ _
   lia
  lia
 lia
theorem Zfi:∀ n,s5 n % 2=n % 2
 | 0=>rfl
 | n + 1=>by have:=Zfi n; show (5 * s5 n + 1) % 2=_; lia
theorem V1:∀ n,5 ^ n % 4=1
 | 0=>rfl
 | n + 1=>by have:=V1 n; rw [Nat.pow_succ]; lia
theorem K6 {k x y:Nat} (hy:y % 2=1) (h:2 ^ k ∣ x * y):2 ^ k ∣ x:=by
 have c:Nat.Coprime (2 ^ k) y:=by
  apply Nat.Coprime.pow_left
  rw [Nat.coprime_iff_gcd_eq_one,Nat.gcd_rec,hy]
  rfl
 exact c.dvd_of_dvd_mul_right h
theorem Zfj:∀ (k n:Nat),2 ^ k ∣ s5 n->2 ^ k ∣ n
 | 0,n,_=>by rw [Nat.pow_zero]; exact Nat.one_dvd n
 | k + 1,n,h=>by
  have h2:2 ∣ s5 n:=Nat.dvd_trans ⟨2 ^ k,by rw [Nat.pow_succ,Nat.mul_comm]⟩ h
  have ho:=Zfi n
  obtain ⟨m,rfl⟩:∃ m,n=2 * m:=⟨n / 2,by lia⟩
  rw [Zk5] at h
  have f:=V1 m
  obtain ⟨q,hq⟩:∃ q,5 ^ m + 1=2 * q:=⟨(5 ^ m + 1) / 2,by lia⟩
  have hq1:q % 2=1:=by lia
  rw [hq,Nat.pow_succ,<- Nat.mul_assoc,Nat.mul_right_comm,Nat.mul_comm _ 2,Nat.mul_comm (s5 m * q) 2] at h
  have h:=Nat.dvd_of_mul_dvd_mul_left (by decide) h
  rw [Nat.pow_succ,Nat.mul_comm]
  exact Nat.mul_dvd_mul_left 2 (Zfj k m (K6 hq1 h))
noncomputable def lq (N:Nat):Nat->Nat->Nat
 | 0,x=>x
 | n + 1,x=>(lq N n x * 5 + 1) % N
theorem Zbb (N x:Nat):∀ n,lq N n x % N=(5 ^ n * x + s5 n) % N
 | 0=>by show x % N=(1 * x + 0) % N; simp
 | n + 1=>by
  have ih:=Zbb N x n
  show (lq N n x * 5 + 1) % N % N=(5 ^ (n + 1) * x + (5 * s5 n + 1)) % N
  rw [Nat.mod_mod,Nat.pow_succ,Nat.add_mod,Nat.mul_mod,ih,<- Nat.mul_mod,<- Nat.add_mod]
  congr 1
  rw [Nat.add_mul,Nat.mul_right_comm,Nat.mul_comm (s5 n) 5]
  lia
theorem Zfk (m:Nat):∀ n,s5 (n + m)=5 ^ n * s5 m + s5 n
 | 0=>by simp [s5]
 | n + 1=>by
  rw [Nat.add_right_comm]
  show 5 * s5 (n + m) + 1=5 ^ (n + 1) * s5 m + (5 * s5 n + 1)
  rw [Zfk m n,Nat.pow_succ,Nat.mul_add,<- Nat.mul_assoc,Nat.mul_comm 5 (5 ^ n)]
  lia
theorem Zlq {k x i j:Nat} (hij:i < j) (hj:j < 2 ^ k):lq (2 ^ k) i x % 2 ^ k≠lq (2 ^ k) j x % 2 ^ k:=λe=>by
 rw [Zbb,Zbb] at e
 obtain ⟨d,rfl⟩:∃ d,j=i + d:=⟨j - i,by lia⟩
 have e1:5 ^ (i + d) * x + s5 (i + d)=(5 ^ i * x + s5 i) + 5 ^ i * (s5 d * (4 * x + 1)):=by
  rw [Zfk,Nat.pow_add,<- Ow d]
  generalize 5 ^ i=u
  generalize s5 d=v
  simp only [Nat.mul_add,Nat.add_mul,Nat.mul_one,Nat.one_mul]
  have:u * (4 * v) * x=u * (v * (4 * x)):=by
   rw [Nat.mul_assoc,Nat.mul_comm 4 v,Nat.mul_assoc v 4 x]
  lia
 have dv:2 ^ k ∣ 5 ^ i * (s5 d * (4 * x + 1)):=by
  have:(5 ^ i * x + s5 i) % 2 ^ k=((5 ^ i * x + s5 i) + 5 ^ i * (s5 d * (4 * x + 1))) % 2 ^ k:=by rw [<- e1]; exact e
  have:=Nat.sub_mod_eq_zero_of_mod_eq this.symm
  rw [Nat.add_sub_cancel_left] at this
  exact Nat.dvd_of_mod_eq_zero this
 have o1:5 ^ i % 2=1:=by have:=V1 i; lia
 rw [Nat.mul_comm] at dv
 have dv:=K6 o1 dv
 have dv:=K6 (show (4 * x + 1) % 2=1 by lia) dv
 have:=Nat.le_of_dvd (by lia) (Zfj k d dv)
 lia
theorem K7:∀ (n:Nat) (l:List Nat),l.Nodup->(∀ a∈l,a < n)->l.length<=n
 | 0,l,_,h=>by
  cases l with
  | nil=>exact Nat.le_refl _
  | cons a r=>exact absurd (h a List.mem_cons_self) (Nat.not_lt_zero _)
 | n + 1,l,hd,h=>by
  have ih:=K7 n (l.erase n) (hd.erase n) λa ha=>by
   have:=(List.Nodup.mem_erase_iff hd).mp ha
   have:=h a this.2
   lia
  by_cases z:n∈l
  ·have:=List.length_erase_of_mem z
   lia
  ·rw [List.erase_of_not_mem z] at ih
   lia
theorem Zlr {k x y:Nat} (hy:y < 2 ^ k):∃ n,n < 2 ^ k/\lq (2 ^ k) n x % 2 ^ k=y:=by
 refine Classical.byContradiction λno=>?_
 have pos:0 < 2 ^ k:=Nat.two_pow_pos k
 have nd:(y :: (List.range (2 ^ k)).map λn=>lq (2 ^ k) n x % 2 ^ k).Nodup:=by
  refine List.nodup_cons.mpr ⟨λz=>?_,?_⟩
  ·obtain ⟨n,hn,e⟩:=List.mem_map.mp z
   exact no ⟨n,List.mem_range.mp hn,e⟩
  ·refine List.pairwise_map.mpr (List.Pairwise.imp_of_mem (λ{a b} ha hb h=>Zlq h (List.mem_range.mp hb)) List.pairwise_lt_range)
 have:=K7 (2 ^ k) _ nd λa ha=>by
  rcases List.mem_cons.mp ha with rfl | ha
  ·exact hy
  ·obtain ⟨n,_,rfl⟩:=List.mem_map.mp ha
   exact Nat.mod_lt _ pos
 rw [List.length_cons,Ab,List.length_range] at this
 lia
noncomputable def lp (m:Nat) (h:Int):Nat->Nat × Nat
 | 0=>(bits h % (m + 1),bits h)
 | n + 1=>leap m (lp m h n).1 (lp m h n).2
theorem Zek (m:Nat) (h:Int):∀ n,(lp m h n).1<=m
 | 0=>Nat.le_of_lt_succ (Nat.mod_lt _ (Nat.succ_pos m))
 | n + 1=>Nat.le_of_lt_succ (Nat.mod_lt _ (Nat.succ_pos m))
theorem Zkk (h:Int):bits h < 2 ^ 64:=by
 unfold bits
 have h1:=Int.emod_nonneg h (show (2 ^ 64:Int)≠0 by decide)
 have h2:=Int.emod_lt_of_pos h (show (0:Int) < 2 ^ 64 by decide)
 lia
theorem Zga (m:Nat) (h:Int):∀ n,(lp m h n).2 * 32 ^ n<=bits h
 | 0=>by show bits h * 1<=_; lia
 | n + 1=>by
  have ih:=Zga m h n
  show (lp m h n).2 / 32 * 32 ^ (n + 1)<=bits h
  have:(lp m h n).2 / 32 * 32<=(lp m h n).2:=Nat.div_mul_le_self _ _
  calc (lp m h n).2 / 32 * 32 ^ (n + 1)=((lp m h n).2 / 32 * 32) * 32 ^ n:=by rw [Nat.pow_succ,Nat.mul_assoc,Nat.mul_comm 32]
   _<=(lp m h n).2 * 32 ^ n:=Nat.mul_le_mul_right _ this
   _<=bits h:=ih
theorem Zj4 (m:Nat) (h:Int) (n:Nat):(lp m h (13 + n)).2=0:=by
 have h1:=Zga m h 13
 have h2:=Zkk h
 have h3:(lp m h 13).2=0:=by
  rcases Nat.eq_zero_or_pos (lp m h 13).2 with z | z
  ·exact z
  ·have:1 * 32 ^ 13<=(lp m h 13).2 * 32 ^ 13:=Nat.mul_le_mul_right _ z
   have e:(32:Nat) ^ 13=36893488147419103232:=by decide +kernel
   have e2:(2:Nat) ^ 64=18446744073709551616:=by decide +kernel
   lia
 induction n with
 | zero=>exact h3
 | succ n ih=>show (lp m h (13 + n)).2 / 32=0; rw [ih]
theorem Ziu (m:Nat) (h:Int):∀ n,(lp m h (13 + n)).1=lq (m + 1) n (lp m h 13).1
 | 0=>rfl
 | n + 1=>by
  show ((lp m h (13 + n)).1 * 5 + 1 + (lp m h (13 + n)).2 / 32) % (m + 1)=(lq (m + 1) n (lp m h 13).1 * 5 + 1) % (m + 1)
  rw [Zj4,Ziu m h n]
theorem Zgb {m k:Nat} (hm:m + 1=2 ^ k) (h:Int) {y:Nat} (hy:y<=m):∃ n,n<=m + 13/\(lp m h n).1=y:=by
 obtain ⟨n,h1,h2⟩:=Zlr (k:=k) (x:=(lp m h 13).1) (y:=y) (by lia)
 refine ⟨13 + n,by lia,?_⟩
 have e:=Ziu m h n
 have hl:=Zek m h (13 + n)
 rw [hm] at e
 rw [<- h2,<- e,Nat.mod_eq_of_lt (by lia)]
noncomputable def advM (m:Nat) (p:Probe):Probe :=
 if p.more > 0 then { p with j:=p.j + 1,more:=p.more - 1 } else
 { p with j:=(leap m p.i p.perturb).1,more:=runEnd m (leap m p.i p.perturb).1 - (leap m p.i p.perturb).1,i:=(leap m p.i p.perturb).1,perturb:=(leap m p.i p.perturb).2 }
theorem Zg6 (t:SetTable) (p:Probe):t.advance p=advM t.mask p:=by unfold advance advM; split <;> rfl
noncomputable def stM (m:Nat) (h:Int):Probe:={ j:=bits h % (m + 1),more:=runEnd m (bits h % (m + 1)) - bits h % (m + 1),i:=bits h % (m + 1),perturb:=bits h,dummy:=none }
noncomputable def pth (m:Nat) (h:Int):Nat->Probe
 | 0=>stM m h
 | n + 1=>advM m (pth m h n)
noncomputable def runL (m i:Nat):Nat:=runEnd m i - i
theorem Zk6 (m i:Nat):runL m i<=9:=by unfold runL runEnd; split <;> lia
theorem Zfl {m i:Nat} (h:i<=m):i + runL m i<=m:=by unfold runL runEnd; split <;> lia
noncomputable def ix (m:Nat) (h:Int):Nat->Nat
 | 0=>0
 | n + 1=>ix m h n + runL m (lp m h n).1 + 1
theorem Zix (m:Nat) (h:Int):∀ n,ix m h n<=10 * n
 | 0=>Nat.le_refl _
 | n + 1=>by have:=Zix m h n; have:=Zk6 m (lp m h n).1; show ix m h n + _ + 1<=_; lia
theorem Jb (m:Nat) (h:Int):∀ n r,r<=runL m (lp m h n).1->pth m h (ix m h n + r)={ j:=(lp m h n).1 + r,more:=runL m (lp m h n).1 - r,i:=(lp m h n).1,perturb:=(lp m h n).2,dummy:=none }
 | 0,0,_=>rfl
 | n + 1,0,_=>by
  have e:=Jb m h n (runL m (lp m h n).1) (Nat.le_refl _)
  show pth m h (ix m h n + runL m (lp m h n).1 + 1)=_
  show advM m (pth m h (ix m h n + runL m (lp m h n).1))=_
  rw [e]
  unfold advM
  rw [if_neg (by show ¬ runL m (lp m h n).1 - runL m (lp m h n).1 > 0; lia)]
  rfl
 | n,r + 1,hr=>by
  have e:=Jb m h n r (by lia)
  show advM m (pth m h (ix m h n + r))=_
  rw [e]
  unfold advM
  rw [if_pos (by show runL m (lp m h n).1 - r > 0; lia)]
  show Probe.mk _ _ _ _ _=_
  congr 1
theorem Zaq (m:Nat) (h:Int):∀ n,∃ L r,n=ix m h L + r/\r<=runL m (lp m h L).1
 | 0=>⟨0,0,rfl,Nat.zero_le _⟩
 | n + 1=>by
  obtain ⟨L,r,rfl,hr⟩:=Zaq m h n
  by_cases z:r < runL m (lp m h L).1
  ·exact ⟨L,r + 1,rfl,z⟩
  ·exact ⟨L + 1,0,by show _=ix m h L + runL m (lp m h L).1 + 1 + 0; lia,Nat.zero_le _⟩
theorem Fn (m:Nat) (h:Int) (n:Nat):(pth m h n).j<=m/\(pth m h n).dummy=none:=by
 obtain ⟨L,r,rfl,hr⟩:=Zaq m h n
 rw [Jb m h L r hr]
 exact ⟨by have:=Zfl (Zek m h L); show (lp m h L).1 + r<=m; lia,rfl⟩
theorem Fr {m k:Nat} (hm:m + 1=2 ^ k) (h:Int) {O:Nat->Prop} {y:Nat} (hy:y<=m) (ho:¬ O y):∃ N,N < 10 * turns m/\¬ O (pth m h N).j/\∀ n,n < N->O (pth m h n).j:=by
 obtain ⟨L,h1,h2⟩:=Zgb hm h hy
 have e:=Jb m h L 0 (Nat.zero_le _)
 have f:¬ O (pth m h (ix m h L)).j:=by rw [show ix m h L=ix m h L + 0 from rfl,e]; show ¬ O ((lp m h L).1 + 0); rw [h2]; exact ho
 have:∀ a,¬ O (pth m h a).j->∃ N,N<=a/\¬ O (pth m h N).j/\∀ n,n < N->O (pth m h n).j:=λa=>by
  induction a using Nat.strongRecOn with
  | ind a ih =>
   intro ha
   by_cases c:∃ b,b < a/\¬ O (pth m h b).j
   ·obtain ⟨b,b1,b2⟩:=c
    obtain ⟨N,n1,n2⟩:=ih b b1 b2
    exact ⟨N,by lia,n2⟩
   ·exact ⟨a,Nat.le_refl _,ha,λn hn=>Classical.byContradiction λz=>c ⟨n,hn,z⟩⟩
 obtain ⟨N,n1,n2⟩:=this _ f
 refine ⟨N,?_,n2⟩
 have:=Zix m h L
 unfold turns
 lia
theorem V4 {ps:List Nat} (hp:ps.Pairwise (· < ·)) (j:Nat):∀ (fuel lo hi:Nat),hi - lo<=fuel->lo<=hi->hi<=ps.length->(∀ i x,i < lo->ps[i]?=some x->x < j)->(∀ i x,hi<=i->ps[i]?=some x->j<=x) ->
  below.go ps.toArray j fuel lo hi<=ps.length/\(∀ i x,i < below.go ps.toArray j fuel lo hi->ps[i]?=some x->x < j)/\(∀ i x,below.go ps.toArray j fuel lo hi<=i->ps[i]?=some x->j<=x)
 | 0,lo,hi,hf,hl,hh,h1,h2=>by
  have:lo=hi:=by lia
  subst this
  exact ⟨hh,h1,h2⟩
 | fuel + 1,lo,hi,hf,hl,hh,h1,h2=>by
  unfold below.go
  by_cases c:lo < hi
  ·rw [if_pos c]
   have hm:(lo + hi) / 2 < ps.length:=by lia
   have eg:ps.toArray.getD ((lo + hi) / 2) j=ps[(lo + hi) / 2]:=by rw [Array.getD_eq_getD_getElem?,List.getElem?_toArray,Ac hm]; rfl
   simp only [eg]
   have mono:∀ (a b x y:Nat),a<=b->ps[a]?=some x->ps[b]?=some y->x<=y:=λa b x y hab ha hb=>by
    rcases Nat.eq_or_lt_of_le hab with z | z
    ·subst z; rw [ha] at hb; cases hb; exact Nat.le_refl _
    ·obtain ⟨a1,a2⟩:=Aa ha
     obtain ⟨b1,b2⟩:=Aa hb
     have:=List.pairwise_iff_getElem.mp hp a b a1 b1 z
     lia
   by_cases c2:ps[(lo + hi) / 2] < j
   ·rw [if_pos c2]
    refine V4 hp j fuel _ _ (by lia) (by lia) hh (λi x hi' hx=>?_) h2
    have:=mono i ((lo + hi) / 2) x _ (by lia) hx (Ac hm)
    lia
   ·rw [if_neg c2]
    refine V4 hp j fuel _ _ (by lia) (by lia) (by lia) h1 (λi x hi' hx=>?_)
    have:=mono ((lo + hi) / 2) i _ x hi' (Ac hm) hx
    lia
  ·rw [if_neg c]
   have:lo=hi:=by lia
   subst this
   exact ⟨hh,h1,h2⟩
theorem Zbv {ps:List Nat} (hp:ps.Pairwise (· < ·)) (j:Nat):below ps.toArray j<=ps.length/\(∀ i x,i < below ps.toArray j->ps[i]?=some x->x < j)/\(∀ i x,below ps.toArray j<=i->ps[i]?=some x->j<=x):=by
 unfold below
 rw [List.size_toArray]
 exact V4 hp j _ _ _ (by lia) (Nat.zero_le _) (Nat.le_refl _) (λi x h=>absurd h (Nat.not_lt_zero _)) λi x h hx=>by
  have:=(Aa hx).1
  lia
theorem Zdf (j:Nat):has #[] j=false:=by unfold has; simp
theorem Gg {t:SetTable} {ps:List Nat} (hp:ps.Pairwise (· < ·)) (e:t.place=ps.toArray) {i j:Nat} (h:ps[i]?=some j):t.slot j=.live i:=by
 obtain ⟨b1,b2,b3⟩:=Zbv hp j
 have hi:=(Aa h).1
 have hb:below ps.toArray j=i:=by
  rcases Nat.lt_trichotomy (below ps.toArray j) i with z | z | z
  ·have hx:=Ac (show below ps.toArray j < ps.length by lia)
   have:=b3 _ _ (Nat.le_refl _) hx
   obtain ⟨a1,a2⟩:=Aa h
   have:=List.pairwise_iff_getElem.mp hp _ i (by lia) a1 z
   lia
  ·exact z
  ·have:=b2 i j z h
   lia
 unfold slot
 rw [e]
 simp only [hb,List.getElem?_toArray,h,beq_self_eq_true,if_true]
theorem Zd1 {t:SetTable} {ps:List Nat} (hp:ps.Pairwise (· < ·)) (e:t.place=ps.toArray) (d:t.dummies=#[]) {j:Nat} (h:j ∉ ps):t.slot j=.empty:=by
 unfold slot
 rw [e,d,Zdf]
 have:(ps.toArray[below ps.toArray j]? == some j)=false:=by
  rw [beq_eq_false_iff_ne]
  intro z
  rw [List.getElem?_toArray] at z
  exact h (List.mem_of_getElem? z)
 simp only [this,Bool.false_eq_true,if_false]
theorem Zas {t:SetTable} {ps:List Nat} (hp:ps.Pairwise (· < ·)) (e:t.place=ps.toArray) (d:t.dummies=#[]) {hashAt:Nat->Int} {h:Int} {N:Nat} (hN:(pth t.mask h N).j ∉ ps) (hl:∀ n,n < N->(pth t.mask h n).j∈ps) :
  ∀ (fuel n:Nat),n<=N->N - n < fuel ->
   probe.go t hashAt h fuel (pth t.mask h n)=some (.empty (pth t.mask h N).j none)/\(∀ n',n<=n'->n' < N->∀ i,ps[i]?=some (pth t.mask h n').j->hashAt i≠h) \/
   ∃ n' i,n<=n'/\n' < N/\ps[i]?=some (pth t.mask h n').j/\hashAt i=h/\probe.go t hashAt h fuel (pth t.mask h n)=some (.candidate (pth t.mask h n').j i (pth t.mask h (n' + 1)))/\∀ n'',n<=n''->n'' < n'->∀ i,ps[i]?=some (pth t.mask h n'').j->hashAt i≠h
 | 0,n,_,h0=>absurd h0 (Nat.not_lt_zero _)
 | fuel + 1,n,hn,hf=>by
  unfold probe.go
  rcases Nat.eq_or_lt_of_le hn with z | z
  ·subst z
   rw [Zd1 hp e d hN]
   left
   refine ⟨?_,λn' h1 h2=>by lia⟩
   show some (Met.empty _ _)=_
   rw [(Fn t.mask h n).2]
  ·obtain ⟨i,hi⟩:=List.mem_iff_getElem?.mp (hl n z)
   rw [Gg hp e hi]
   have uq:∀ i',ps[i']?=some (pth t.mask h n).j->i'=i:=λi' hi'=>by
    obtain ⟨a1,a2⟩:=Aa hi
    obtain ⟨b1,b2⟩:=Aa hi'
    have nd:ps.Nodup:=hp.imp λh=>Nat.ne_of_lt h
    exact (List.getElem_inj nd).mp (b2.trans a2.symm)
   by_cases c:hashAt i=h
   ·right
    refine ⟨n,i,Nat.le_refl _,z,hi,c,?_,λn'' h1 h2=>by lia⟩
    show (if (hashAt i == h)=true then _ else _)=_
    rw [if_pos (by simpa using c),Zg6]
    rfl
   ·have step:(if (hashAt i == h)=true then some (Met.candidate (pth t.mask h n).j i (t.advance (pth t.mask h n))) else probe.go t hashAt h fuel (t.advance (pth t.mask h n)))=probe.go t hashAt h fuel (pth t.mask h (n + 1)):=by
     rw [if_neg (by simpa using c),Zg6]
     rfl
    have ih:=Zas hp e d (hashAt:=hashAt) hN hl fuel (n + 1) z (by lia)
    show ((if (hashAt i == h)=true then _ else _)=_/\_)\/_
    rcases ih with ⟨i1,i2⟩ | ⟨n',i',i1,i2,i3,i4,i5,i6⟩
    ·left
     refine ⟨step.trans i1,λn' h1 h2 i' hi'=>?_⟩
     rcases Nat.eq_or_lt_of_le h1 with q | q
     ·subst q; rw [uq i' hi']; exact c
     ·exact i2 n' q h2 i' hi'
    ·right
     refine ⟨n',i',by lia,i2,i3,i4,step.trans i5,λn'' h1 h2 i2' hi2'=>?_⟩
     rcases Nat.eq_or_lt_of_le h1 with q | q
     ·subst q; rw [uq i2' hi2']; exact c
     ·exact i6 n'' q h2 i2' hi2'
theorem Zdi {m:Nat} {owner:Array (Option Nat)} (hs:owner.size=m + 1) (h:Int):∀ (fuel L:Nat) (N:Nat),(∃ L' r,L<=L'/\L' < L + fuel/\r<=runL m (lp m h L').1/\N=ix m h L' + r)->owner[(pth m h N).j]?=some none->(∀ n,n < N->owner[(pth m h n).j]?≠some none) ->
  layClean.free m owner fuel (lp m h L).1 (lp m h L).2=some (pth m h N).j
 | 0,L,N,⟨L',r,h1,h2,_⟩,_,_=>by lia
 | fuel + 1,L,N,⟨L',r,h1,h2,h3,h4⟩,hN,hl=>by
  unfold layClean.free
  have hle:=Zek m h L
  have hrun:=Zfl hle
  have er:runEnd m (lp m h L).1 + 1 - (lp m h L).1=runL m (lp m h L).1 + 1:=by unfold runL runEnd; split <;> lia
  rw [er]
  have at':∀ k,k<=runL m (lp m h L).1->((owner.getD ((lp m h L).1 + k) (some 0)).isNone=true ↔ owner[(pth m h (ix m h L + k)).j]?=some none):=λk hk=>by
   rw [Jb m h L k hk]
   show _ ↔ owner[(lp m h L).1 + k]?=some none
   have hin:(lp m h L).1 + k < owner.size:=by lia
   rw [Array.getD_eq_getD_getElem?,Array.getElem?_eq_getElem hin]
   cases owner[(lp m h L).1 + k] <;> simp
  rcases Nat.eq_or_lt_of_le h1 with z | z
  ·subst z
   have hf:(List.range (runL m (lp m h L).1 + 1)).find? (λk=>(owner.getD ((lp m h L).1 + k) (some 0)).isNone)=some r:=by
    rw [List.find?_range_eq_some]
    refine ⟨(at' r h3).mpr (by rw [<- h4]; exact hN),List.mem_range.mpr (by lia),λj hj=>?_⟩
    have:=mt (at' j (by lia)).mp (hl (ix m h L + j) (by lia))
    rw [Bool.not_eq_true']
    exact Bool.eq_false_iff.mpr this
   rw [hf]
   show some _=some _
   rw [h4,Jb m h L r h3]
  ·have hf:(List.range (runL m (lp m h L).1 + 1)).find? (λk=>(owner.getD ((lp m h L).1 + k) (some 0)).isNone)=none:=by
    rw [List.find?_eq_none]
    intro k hk
    have hk:=List.mem_range.mp hk
    have mono:∀ a b,a < b->ix m h a + runL m (lp m h a).1 < ix m h b:=λa b hab=>by
     induction b with
     | zero=>lia
     | succ b ih =>
      show _ < ix m h b + runL m (lp m h b).1 + 1
      rcases Nat.lt_or_ge a b with q | q
      ·have:=ih q; lia
      ·have:a=b:=by lia
       subst this; lia
    have:=mono L L' z
    exact mt (at' k (by lia)).mp (hl (ix m h L + k) (by lia))
   rw [hf]
   exact Zdi hs h fuel (L + 1) N ⟨L',r,z,by lia,h3,h4⟩ hN hl
structure Good (m:Nat) (tab:List (Nat × Int × Value)):Prop where
 pw:(tab.map (·.1)).Pairwise (· < ·)
 le:∀ e∈tab,e.1<=m
 rch:∀ e∈tab,∃ n,(pth m e.2.1 n).j=e.1/\∀ n',n' < n->(pth m e.2.1 n').j∈tab.map (·.1)
theorem Good.nil (m:Nat):Good m []:=⟨List.Pairwise.nil,(λe h=>by cases h),(λe h=>by cases h)⟩
theorem Vh {α:Type} (l:List α) (p:Nat) (x:α):insertAt l.toArray p x=(l.take p ++ x :: l.drop p).toArray:=by
 unfold insertAt
 apply Array.ext'
 simp [List.take_of_length_le]
theorem Good.put {m:Nat} {tab:List (Nat × Int × Value)} (g:Good m tab) {h:Int} {x:Value} {N:Nat} (hN:(pth m h N).j ∉ tab.map (·.1)) (hl:∀ n,n < N->(pth m h n).j∈tab.map (·.1)) {p:Nat} (hp:p=below (tab.map (·.1)).toArray (pth m h N).j) :
  Good m (tab.take p ++ ((pth m h N).j,h,x) :: tab.drop p):=by
 obtain ⟨b1,b2,b3⟩:=Zbv g.pw (pth m h N).j
 rw [<- hp] at b1 b2 b3
 rw [Ab] at b1
 have hj:=(Fn m h N).1
 generalize ej:(pth m h N).j=j at *
 have mem:∀ y,y∈(tab.take p ++ (j,h,x) :: tab.drop p).map (·.1) ↔ y∈tab.map (·.1)\/y=j:=λy=>by
  have e:tab.map (·.1)=(tab.take p).map (·.1) ++ (tab.drop p).map (·.1):=by rw [<- Aj,List.take_append_drop]
  rw [e,Aj,List.map_cons,List.mem_append,List.mem_cons,List.mem_append]
  constructor
  ·rintro (z | z | z)
   ·exact .inl (.inl z)
   ·exact .inr z
   ·exact .inl (.inr z)
  ·rintro ((z | z) | z)
   ·exact .inl z
   ·exact .inr (.inr z)
   ·exact .inr (.inl z)
 have mem2:∀ e,e∈tab.take p ++ (j,h,x) :: tab.drop p->e∈tab\/e=(j,h,x):=λe he=>by
  rcases List.mem_append.mp he with z | z
  ·exact .inl (List.mem_of_mem_take z)
  ·rcases List.mem_cons.mp z with z | z
   ·exact .inr z
   ·exact .inl (List.mem_of_mem_drop z)
 refine ⟨?_,λe he=>?_,λe he=>?_⟩
 ·have e:(tab.take p ++ (j,h,x) :: tab.drop p).map (·.1)=(tab.map (·.1)).take p ++ j :: (tab.map (·.1)).drop p:=by rw [Aj,List.map_cons,List.map_take,List.map_drop]
  rw [e]
  have hlt:∀ y∈(tab.map (·.1)).take p,y < j:=λy hy=>by
   obtain ⟨i,hi,rfl⟩:=List.mem_iff_getElem.mp hy
   rw [Ai] at hi
   rw [List.getElem_take]
   exact b2 i _ (by lia) (Ac _)
  have hgt:∀ y∈(tab.map (·.1)).drop p,j < y:=λy hy=>by
   obtain ⟨i,hi,rfl⟩:=List.mem_iff_getElem.mp hy
   rw [List.length_drop] at hi
   rw [List.getElem_drop]
   have h1:=b3 (p + i) _ (Nat.le_add_right _ _) (Ac (by lia))
   have h2:(tab.map (·.1))[p + i]≠j:=λz=>hN (z ▸ List.getElem_mem _)
   lia
  have pw:=g.pw
  rw [<- List.take_append_drop p (tab.map (·.1)),List.pairwise_append] at pw
  rw [List.pairwise_append,List.pairwise_cons]
  refine ⟨pw.1,⟨hgt,pw.2.1⟩,λa ha b hb=>?_⟩
  rcases List.mem_cons.mp hb with z | z
  ·rw [z]; exact hlt a ha
  ·exact pw.2.2 a ha b z
 ·rcases mem2 e he with z | z
  ·exact g.le e z
  ·rw [z]; exact hj
 ·rcases mem2 e he with z | z
  ·obtain ⟨n,n1,n2⟩:=g.rch e z
   exact ⟨n,n1,λn' h'=>(mem _).mpr (.inl (n2 n' h'))⟩
  ·subst z
   exact ⟨N,ej,λn' h'=>(mem _).mpr (.inl (hl n' h'))⟩
structure LC (m:Nat) (hs:List Int) (owner:Array (Option Nat)):Prop where
 sz:owner.size=m + 1
 lt:∀ (j i:Nat),owner[j]?=some (some i)->∃ h,hs[i]?=some h/\∃ n,(pth m h n).j=j/\∀ n',n' < n->owner[(pth m h n').j]?≠some none
 un:∀ (j j' i:Nat),owner[j]?=some (some i)->owner[j']?=some (some i)->j=j'
 al:∀ i,i < hs.length->∃ j:Nat,owner[j]?=some (some i)
theorem LC.free {m:Nat} {hs:List Int} {owner:Array (Option Nat)} (c:LC m hs owner) (hl:hs.length<=m):∃ y:Nat,y<=m/\owner[y]?=some none:=by
 refine Classical.byContradiction λno=>?_
 have all:∀ j:Nat,j<=m->∃ i,owner[j]?=some (some i):=λj hj=>by
  have hin:j < owner.size:=by rw [c.sz]; lia
  cases e:owner[j]? with
  | none=>rw [Array.getElem?_eq_getElem hin] at e; cases e
  | some o =>
   cases o with
   | none=>exact absurd ⟨j,hj,e⟩ no
   | some i=>exact ⟨i,rfl⟩
 have nd:((List.range (m + 1)).map λj=>((owner[j]?).join).getD 0).Nodup:=by
  refine List.pairwise_map.mpr (List.Pairwise.imp_of_mem (λ{a b} ha hb h e=>?_) List.pairwise_lt_range)
  obtain ⟨i,hi⟩:=all a (Nat.le_of_lt_succ (List.mem_range.mp ha))
  obtain ⟨i',hi'⟩:=all b (Nat.le_of_lt_succ (List.mem_range.mp hb))
  rw [hi,hi'] at e
  have e:i=i':=e
  subst e
  have:=c.un a b i hi hi'
  lia
 have:=K7 hs.length _ nd λx hx=>by
  obtain ⟨j,hj,rfl⟩:=List.mem_map.mp hx
  obtain ⟨i,hi⟩:=all j (Nat.le_of_lt_succ (List.mem_range.mp hj))
  rw [hi]
  obtain ⟨h,h1,_⟩:=c.lt j i hi
  exact (Aa h1).1
 rw [Ab,List.length_range] at this
 lia
theorem LC.step {m k:Nat} (hm:m + 1=2 ^ k) {hs:List Int} {owner:Array (Option Nat)} (c:LC m hs owner) (hl:hs.length<=m) (h:Int):∃ j,layClean.free m owner (turns m) (bits h % (m + 1)) (bits h)=some j/\LC m (hs ++ [h]) (owner.setIfInBounds j (some hs.length)):=by
 obtain ⟨y,y1,y2⟩:=c.free hl
 obtain ⟨N,n1,n2,n3⟩:=Fr hm h (O:=λj=>owner[j]?≠some none) y1 (λz=>z y2)
 have n2:owner[(pth m h N).j]?=some none:=Classical.byContradiction n2
 have hN:∃ L' r,0<=L'/\L' < 0 + turns m/\r<=runL m (lp m h L').1/\N=ix m h L' + r:=by
  obtain ⟨L,r,e,hr⟩:=Zaq m h N
  refine ⟨L,r,Nat.zero_le _,?_,hr,e⟩
  obtain ⟨L1,l1,l2⟩:=Zgb hm h y1
  have q:N<=ix m h L1:=by
   rcases Nat.lt_or_ge (ix m h L1) N with z | z
   ·have:=n3 _ z
    have e:=Jb m h L1 0 (Nat.zero_le _)
    rw [show ix m h L1=ix m h L1 + 0 from rfl,e] at this
    have this:owner[(lp m h L1).1 + 0]?≠some none:=this
    rw [l2] at this
    exact absurd y2 this
   ·exact z
  have mono:∀ a b,a<=b->ix m h a<=ix m h b:=λa b hab=>by
   induction b with
   | zero=>rw [Nat.le_zero.mp hab]; exact Nat.le_refl _
   | succ b ih =>
    rcases Nat.eq_or_lt_of_le hab with z | z
    ·rw [z]; exact Nat.le_refl _
    ·have:=ih (by lia)
     show _<=ix m h b + _ + 1
     lia
  unfold turns
  rcases Nat.lt_or_ge L1 L with z | z
  ·have h1:=mono (L1 + 1) L z
   have h2:ix m h (L1 + 1)=ix m h L1 + runL m (lp m h L1).1 + 1:=rfl
   lia
  ·lia
 refine ⟨(pth m h N).j,Zdi c.sz h (turns m) 0 N hN n2 n3,?_⟩
 have hj:=(Fn m h N).1
 have hin:(pth m h N).j < owner.size:=by rw [c.sz]; lia
 have gs:∀ z:Nat,(owner.setIfInBounds (pth m h N).j (some hs.length))[z]?=if (pth m h N).j=z then some (some hs.length) else owner[z]?:=λz=>by
  rw [Array.getElem?_setIfInBounds]
  by_cases e:(pth m h N).j=z
  ·rw [if_pos e,if_pos e,if_pos hin]
  ·rw [if_neg e,if_neg e]
 have keep:∀ z:Nat,owner[z]?≠some none->(owner.setIfInBounds (pth m h N).j (some hs.length))[z]?≠some none:=λz hz=>by
  rw [gs]
  split
  ·exact λq=>by cases q
  ·exact hz
 refine ⟨by rw [Array.size_setIfInBounds]; exact c.sz,λj i e=>?_,λj j' i e e'=>?_,λi hi=>?_⟩
 ·rw [gs] at e
  split at e
  ·rename_i z
   cases e
   exact ⟨h,by rw [List.getElem?_append_right (Nat.le_refl _),Nat.sub_self]; rfl,N,z,λn' h'=>keep _ (n3 n' h')⟩
  ·obtain ⟨h',h1,n,h2,h3⟩:=c.lt j i e
   exact ⟨h',by rw [List.getElem?_append_left (Aa h1).1]; exact h1,n,h2,λn' q=>keep _ (h3 n' q)⟩
 ·rw [gs] at e e'
  have no:∀ z:Nat,owner[z]?≠some (some hs.length):=λz q=>by
   obtain ⟨h',h1,_⟩:=c.lt z _ q
   have:=(Aa h1).1
   lia
  split at e <;> split at e'
  ·rename_i z1 z2; exact z1.symm.trans z2
  ·cases e; exact absurd e' (no _)
  ·cases e'; exact absurd e (no _)
  ·exact c.un j j' i e e'
 ·rw [Ae,List.length_singleton] at hi
  rcases Nat.lt_or_ge i hs.length with z | z
  ·obtain ⟨j,hj'⟩:=c.al i z
   refine ⟨j,?_⟩
   rw [gs,if_neg (λq=>by rw [<- q,n2] at hj'; cases hj')]
   exact hj'
  ·refine ⟨(pth m h N).j,?_⟩
   rw [gs,if_pos rfl,show i=hs.length by lia]
theorem LC.nil (m:Nat):LC m [] (Array.replicate (m + 1) none):=by
 have e:∀ j i:Nat,(Array.replicate (m + 1) (none:Option Nat))[j]?≠some (some i):=λj i=>by
  rw [Array.getElem?_replicate]
  split <;> exact λz=>by cases z
 exact ⟨by simp,λj i z=>absurd z (e j i),λj j' i z=>absurd z (e j i),λi hi=>absurd hi (Nat.not_lt_zero _)⟩
theorem Zbq {m k:Nat} (hm:m + 1=2 ^ k):∀ (n:Nat) (hs:List Int),hs.length=n->n<=m + 1->∃ owner,(hs.foldl (init:=some (Array.replicate (m + 1) none,0)) λ(acc:Option (Array (Option Nat) × Nat)) h=>do
  let (owner,k) <- acc
  let j <- layClean.free m owner (turns m) (bits h % (m + 1)) (bits h)
  pure (owner.setIfInBounds j (some k),k + 1))=some (owner,n)/\LC m hs owner
 | 0,hs,e,_=>by
  rw [List.length_eq_zero_iff.mp e]
  exact ⟨_,rfl,LC.nil m⟩
 | n + 1,hs,e,hn=>by
  obtain ⟨qs,h,rfl⟩:∃ qs h,hs=qs ++ [h]:=⟨hs.dropLast,hs.getLast (λz=>by rw [z] at e; cases e),(List.dropLast_concat_getLast _).symm⟩
  rw [Ae,List.length_singleton] at e
  obtain ⟨ow,o1,o2⟩:=Zbq hm n qs (by lia) (by lia)
  obtain ⟨j,j1,j2⟩:=o2.step hm (by lia) h
  refine ⟨_,?_,j2⟩
  rw [List.foldl_append,o1]
  show (do let j <- layClean.free m ow (turns m) (bits h % (m + 1)) (bits h); pure (ow.setIfInBounds j (some n),n + 1))=_
  rw [j1,show qs.length=n by lia]
  rfl
theorem Zj8 {m k:Nat} (hm:m + 1=2 ^ k) {es:List (Int × Value)} (hl:es.length<=m) (finger moves:Nat) (led plain:Bool) :
  ∃ tab:List (Nat × Int × Value),Good m tab/\(tab.map (·.2)).Perm es/\∃ order:Array Nat,laid m finger moves led plain ((es.map (·.1)).toArray)=some ({ mask:=m,place:=(tab.map (·.1)).toArray,dummies:=#[],finger,led,moves,plain },order)/\order.filterMap (es.toArray[·]?)=(tab.map (·.2)).toArray:=by
 obtain ⟨ow,o1,o2⟩:=Zbq hm es.length (es.map (·.1)) (by rw [Ab]) (by lia)
 have lc:layClean m ((es.map (·.1)).toArray)=some ow:=by
  unfold layClean
  rw [List.foldl_toArray,o1]
  rfl
 have gd:∀ j:Nat,(ow.getD j none)=(ow[j]?).join:=λj=>by
  rw [Array.getD_eq_getD_getElem?]
  cases ow[j]? with
  | none=>rfl
  | some o=>rfl
 have lv:∀ (j i:Nat),(ow[j]?).join=some i ↔ ow[j]?=some (some i):=λj i=>by
  cases ow[j]? with
  | none=>simp
  | some o=>simp
 let live:=(List.range (m + 1)).filterMap λj=>(ow.getD j none).map (j,·)
 have lm:∀ q:Nat × Nat,q∈live ↔ ow[q.1]?=some (some q.2):=λ⟨j,i⟩=>by
  show (j,i)∈(List.range (m + 1)).filterMap _ ↔ _
  rw [List.mem_filterMap]
  constructor
  ·rintro ⟨j',_,e⟩
   rw [gd] at e
   obtain ⟨i',e1,e2⟩:=Option.map_eq_some_iff.mp e
   cases e2
   exact (lv _ _).mp e1
  ·intro e
   refine ⟨j,List.mem_range.mpr ?_,?_⟩
   ·have:=(Array.getElem?_eq_some_iff.mp e).1
    rw [o2.sz] at this
    exact this
   ·rw [gd,(lv j i).mpr e]; rfl
 have pw:(live.map (·.1)).Pairwise (· < ·):=by
  rw [List.pairwise_map]
  refine List.pairwise_filterMap.mpr (List.pairwise_lt_range.imp λ{a b} hab x hx y hy=>?_)
  obtain ⟨_,_,rfl⟩:=Option.map_eq_some_iff.mp hx
  obtain ⟨_,_,rfl⟩:=Option.map_eq_some_iff.mp hy
  exact hab
 have p2:(live.map (·.2)).Perm (List.range es.length):=by
  refine (List.perm_ext_iff_of_nodup ?_ List.nodup_range).mpr λi=>?_
  ·have pw':live.Pairwise λa b=>a.1 < b.1:=List.pairwise_map.mp pw
   refine List.pairwise_map.mpr (List.Pairwise.imp_of_mem (λ{a b} ha hb h e=>?_) pw')
   have h1:=(lm a).mp ha
   have h2:=(lm b).mp hb
   rw [<- e] at h2
   have:=o2.un _ _ _ h1 h2
   lia
  ·rw [List.mem_map,List.mem_range]
   constructor
   ·rintro ⟨q,hq,rfl⟩
    obtain ⟨h,h1,_⟩:=o2.lt _ _ ((lm q).mp hq)
    have:=(Aa h1).1
    rwa [Ab] at this
   ·intro hi
    obtain ⟨j,hj⟩:=o2.al i (by rw [Ab]; exact hi)
    exact ⟨(j,i),(lm (j,i)).mpr hj,rfl⟩
 have hil:∀ q∈live,q.2 < es.length:=λq hq=>List.mem_range.mp (p2.mem_iff.mp (List.mem_map.mpr ⟨q,hq,rfl⟩))
 refine ⟨live.map λq=>(q.1,es.getD q.2 (0,.none)),⟨?_,λe he=>?_,λe he=>?_⟩,?_,(live.map (·.2)).toArray,?_,?_⟩
 ·rw [List.map_map]; exact pw
 ·obtain ⟨q,hq,rfl⟩:=List.mem_map.mp he
  have:=(Array.getElem?_eq_some_iff.mp ((lm q).mp hq)).1
  rw [o2.sz] at this
  exact Nat.le_of_lt_succ this
 ·obtain ⟨q,hq,rfl⟩:=List.mem_map.mp he
  obtain ⟨h,h1,n,n1,n2⟩:=o2.lt _ _ ((lm q).mp hq)
  have eh:(es.getD q.2 (0,.none)).1=h:=by
   rw [Ah] at h1
   rw [Ad]
   obtain ⟨z,z1,z2⟩:=Option.map_eq_some_iff.mp h1
   rw [z1]; exact z2
  refine ⟨n,by show (pth m (es.getD q.2 (0,.none)).1 n).j=q.1; rw [eh]; exact n1,λn' h'=>?_⟩
  show (pth m (es.getD q.2 (0,.none)).1 n').j∈_
  rw [eh,List.map_map]
  have hne:=n2 n' h'
  have hin:(pth m h n').j < ow.size:=by rw [o2.sz]; have:=(Fn m h n').1; lia
  cases e:ow[(pth m h n').j]? with
  | none=>rw [Array.getElem?_eq_getElem hin] at e; cases e
  | some o =>
   cases o with
   | none=>exact absurd e hne
   | some i=>exact List.mem_map.mpr ⟨(_,i),(lm (_,i)).mpr e,rfl⟩
 ·rw [List.map_map]
  have:live.map ((·.2) ∘ λq:Nat × Nat=>(q.1,es.getD q.2 (0,.none)))=(live.map (·.2)).map λi=>es.getD i (0,.none):=by rw [List.map_map]; rfl
  rw [this]
  refine (p2.map _).trans (List.Perm.of_eq ?_)
  apply List.ext_getElem?
  intro i
  rw [Ah]
  by_cases hi:i < es.length
  ·rw [List.getElem?_range hi,Ac hi]
   show some (es.getD i _)=_
   rw [Ad,Ac hi]
   rfl
  ·rw [List.getElem?_eq_none (by rw [List.length_range]; lia),List.getElem?_eq_none (by lia)]
   rfl
 ·unfold laid
  rw [lc]
  show some (_,_)=_
  rw [List.map_map]
  rfl
 ·rw [List.filterMap_toArray,List.map_map]
  congr 1
  have:∀ l:List (Nat × Nat),(∀ q∈l,q.2 < es.length)->(l.map (·.2)).filterMap (es.toArray[·]?)=l.map ((·.2) ∘ λq:Nat × Nat=>(q.1,es.getD q.2 (0,.none))):=λl=>by
   induction l with
   | nil=>intro _; rfl
   | cons q l ih =>
    intro hq
    have h1:=hq q List.mem_cons_self
    rw [List.map_cons,List.filterMap_cons,List.getElem?_toArray,Ac h1,ih λz hz=>hq z (List.mem_cons_of_mem _ hz)]
    show es[q.2] :: _=es.getD q.2 _ :: _
    rw [Ad,Ac h1]
    rfl
  exact this live hil
structure STab (h:Heap) (a:Addr) (o:Obj) (ep:Nat) (t:SetTable) (tab:List (Nat × Int × Value)):Prop where
 ho:h.get? a=some o
 ex:o.ExactSet
 hd:o.data=.set (tab.map (·.2)).toArray ep t
 pl:t.place=(tab.map (·.1)).toArray
 dm:t.dummies=#[]
 gd:Good t.mask tab
 pw:∃ k,t.mask + 1=2 ^ k
 b1:t.mask<=8191
 b2:7<=t.mask
 rm:tab.length * 5 < t.mask * 3
section
variable {prog:Program} {w:World} {K:Type} [DecidableEq K] {knd:KeyKind prog w K} {A:Around} {E:Value->Shared->Prop} {s:Shared} {a:Addr}
noncomputable def TK (knd:KeyKind prog w K) (h:Heap) (e:Int × Value) (k:List K):Prop:=e.1=tupleKeyHash knd k/\∃ b,e.2=.ref b/\IsTupleKey knd h k b
theorem STab.fits {h:Heap} {o:Obj} {ep:Nat} {t:SetTable} {tab:List (Nat × Int × Value)} (x:STab h a o ep t tab):t.fits (tab.map (·.2)).toArray.size=true:=by
 have:=x.rm
 have:=x.b2
 simp only [SetTable.fits,Bool.and_eq_true,beq_iff_eq,decide_eq_true_eq,SetTable.fill,x.pl,x.dm,List.size_toArray,Ab,Array.size_empty,List.length_nil,Nat.add_zero]
 exact ⟨trivial,by lia⟩
theorem Zbr {ks:List K} {c:Addr} {n:Nat} {Q:Bool->Shared->Prop} (hk:IsTupleKey knd s.heap ks c) (h:Q false s):wpAny (model prog w) A (ofAClassStatement (n + 1) (.ref c)) Q E s:=by
 have hT:=hk.typeIs
 obtain ⟨o,items,m,ho,hc,hd,hi⟩:=hk
 unfold ofAClassStatement
 refine Al (wpAny_typeOf hT ?_)
 dsimp only
 rw [if_pos (by decide)]
 refine Al (wpAny_pure ?_)
 simp only [Bool.not_true,Bool.false_eq_true,if_false]
 refine Al (wpAny_seqItems ho hd ?_)
 refine Al ?_
 show wpAny _ _ (forIn items _ _) _ _ s
 rw [<- Array.forIn_toList]
 refine wpAny_forIn_list _ (λrest r s'=>r.1=none/\s'=s/\∀ v∈rest,carriedByValue v=true) _ ?_ ?_ _ _ ⟨rfl,rfl,hi.byValue⟩
 ·rintro v rest r s' ⟨hr,rfl,hall⟩
  have hv:=hall v List.mem_cons_self
  have e:ofAClassStatement n v=pure false:=by
   cases v with
   | ref a=>simp [carriedByValue] at hv
   | _=>cases n <;> rfl
  rw [e]
  refine Al (wpAny_pure ?_)
  simp only [Bool.false_eq_true,if_false]
  exact wpAny_pure ⟨rfl,rfl,λu hu'=>hall u (List.mem_cons_of_mem _ hu')⟩
 ·rintro ⟨r1,r2⟩ s' ⟨hr,rfl,_⟩
  simp only at hr
  subst hr
  exact wpAny_pure h
theorem Zjm {kx:List K} {c:Addr} (hx:IsTupleKey knd s.heap kx c) {stored:List Value} (hs:∀ v∈stored,∃ k b,v=.ref b/\IsTupleKey knd s.heap k b) {Q:Bool->Shared->Prop} (h:Q false s):wpAny (model prog w) A (searchCouldBeSeen (.ref c) stored) Q E s:=by
 unfold searchCouldBeSeen
 refine Al ?_
 refine wpAny_forIn_list _ (λrest r s'=>r.1=none/\s'=s/\∀ v∈rest,∃ k b,v=.ref b/\IsTupleKey knd s.heap k b) _ ?_ ?_ _ _ ⟨rfl,rfl,hs⟩
 ·rintro v rest r s' ⟨hr,rfl,hall⟩
  obtain ⟨k,b,rfl,hb⟩:=hall v List.mem_cons_self
  dsimp only
  split
  ·exact wpAny_pure ⟨rfl,rfl,λu hu=>hall u (List.mem_cons_of_mem _ hu)⟩
  ·refine Al (wpAny_eqIsQuiet_tuple hx ?_)
   simp only [Bool.not_true,Bool.false_eq_true,if_false]
   refine Al (wpAny_eqIsQuiet_tuple hb ?_)
   simp only [Bool.not_true,Bool.false_eq_true,if_false]
   refine Al (Zbr hx ?_)
   simp only [Bool.false_eq_true,if_false]
   refine Al (Zbr hb ?_)
   simp only [Bool.false_eq_true,if_false]
   exact wpAny_pure ⟨rfl,rfl,λu hu=>hall u (List.mem_cons_of_mem _ hu)⟩
 ·rintro ⟨r1,r2⟩ s' ⟨hr,rfl,_⟩
  simp only at hr
  subst hr
  exact wpAny_pure h
theorem Zku {tab:List (Nat × Int × Value)} {i j:Nat} (h:(tab.map (·.1))[i]?=some j):∃ e,tab[i]?=some e/\e.1=j/\(tab.map (·.2)).toArray[i]?=some e.2:=by
 rw [Ah] at h
 obtain ⟨e,e1,e2⟩:=Option.map_eq_some_iff.mp h
 exact ⟨e,e1,e2,by rw [List.getElem?_toArray,Ah,e1]; rfl⟩
theorem Vj {o:Obj} {ep:Nat} {t:SetTable} {tab:List (Nat × Int × Value)} {kx:List K} {c:Addr} {adding:Bool} (hu:A.units < cLine) (x:STab s.heap a o ep t tab) (hk:∀ e∈tab,∃ k,TK knd s.heap e.2 k) (hx:IsTupleKey knd s.heap kx c) {N:Nat}
  (hN:(pth t.mask (tupleKeyHash knd kx) N).j ∉ tab.map (·.1)) (hl:∀ n,n < N->(pth t.mask (tupleKeyHash knd kx) n).j∈tab.map (·.1)) (hN2:N < 10 * turns t.mask) {Q:SetFound->Shared->Prop}
  (q1:(∀ e∈tab,¬ TK knd s.heap e.2 kx)->Q (.free (pth t.mask (tupleKeyHash knd kx) N).j false) s) (q2:(∃ e∈tab,TK knd s.heap e.2 kx)->∀ i:Option Nat,(adding=false->i.isSome=true)->Q (.there i) s) :
  ∀ (fuel n:Nat) (st:Option Probe),n<=N->N - n < fuel->st.getD (t.probeStart (tupleKeyHash knd kx))=pth t.mask (tupleKeyHash knd kx) n ->
   (∀ n',n' < n->∀ e∈tab,e.1=(pth t.mask (tupleKeyHash knd kx) n').j->¬ TK knd s.heap e.2 kx)->wpAny (model prog w) A (setSearchFrom a (.ref c) (tupleKeyHash knd kx) adding fuel st) Q E s
 | 0,n,_,_,h0,_,_=>absurd h0 (Nat.not_lt_zero _)
 | fuel + 1,n,st,hn,hf,hst,hno=>by
  unfold setSearchFrom
  refine Al (wpAny_setState_of x.ho x.hd x.fits ?_)
  dsimp only
  have odd:t.gaveWay=false:=by
   obtain ⟨k,hk'⟩:=x.pw
   have:=x.b2
   unfold SetTable.gaveWay
   rw [beq_eq_false_iff_ne]
   cases k with
   | zero=>lia
   | succ k=>rw [Nat.pow_succ] at hk'; lia
  rw [odd]
  simp only [Bool.false_eq_true,if_false]
  rw [hst]
  have way:∀ e∈tab,TK knd s.heap e.2 kx->∃ n0,n<=n0/\n0 < N/\(pth t.mask (tupleKeyHash knd kx) n0).j=e.1:=λe he hte=>by
   obtain ⟨n0,r1,r2⟩:=x.gd.rch e he
   rw [hte.1] at r1 r2
   refine ⟨n0,?_,?_,r1⟩
   ·rcases Nat.lt_or_ge n0 n with z | z
    ·exact absurd hte (hno n0 z e he r1.symm)
    ·exact z
   ·rcases Nat.lt_or_ge n0 N with z | z
    ·exact z
    ·rcases Nat.eq_or_lt_of_le z with z | z
     ·subst z
      exact absurd (by rw [r1]; exact List.mem_map.mpr ⟨e,he,rfl⟩) hN
     ·exact absurd (r2 N z) hN
  have nd:(tab.map (·.1)).Nodup:=x.gd.pw.imp λh=>Nat.ne_of_lt h
  have one:∀ e∈tab,∀ e'∈tab,e.1=e'.1->e=e':=λe he e' he' z=>by
   obtain ⟨i,hi,rfl⟩:=List.mem_iff_getElem.mp he
   obtain ⟨i',hi',rfl⟩:=List.mem_iff_getElem.mp he'
   have:=(List.getElem_inj nd (h₀:=by rw [Ab]; exact hi) (h₁:=by rw [Ab]; exact hi')).mp (by rw [List.getElem_map,List.getElem_map]; exact z)
   subst this
   rfl
  have pg:=Zas x.gd.pw x.pl x.dm (hashAt:=λi=>(((tab.map (·.2)).toArray[i]?).map (·.1)).getD 0) hN hl (10 * turns t.mask) n hn (by lia)
  generalize hpr:t.probe _ (tupleKeyHash knd kx) (pth t.mask (tupleKeyHash knd kx) n)=pr
  have hpr:t.probe (λi=>(((tab.map (·.2)).toArray[i]?).map (·.1)).getD 0) (tupleKeyHash knd kx) (pth t.mask (tupleKeyHash knd kx) n)=pr:=hpr
  rcases pg with ⟨p1,p2⟩ | ⟨n',i,i1,i2,i3,i4,i5,i6⟩
  ·have e:t.probe (λi=>(((tab.map (·.2)).toArray[i]?).map (·.1)).getD 0) (tupleKeyHash knd kx) (pth t.mask (tupleKeyHash knd kx) n)=some (.empty (pth t.mask (tupleKeyHash knd kx) N).j none):=p1
   rw [hpr] at e
   subst e
   dsimp only
   refine wpAny_pure (q1 λe' he' hte=>?_)
   obtain ⟨n0,a1,a2,a3⟩:=way e' he' hte
   obtain ⟨i,hi,rfl⟩:=List.mem_iff_getElem.mp he'
   refine p2 n0 a1 a2 i (by rw [Ah,Ac hi]; exact congrArg some a3.symm) ?_
   show (((tab.map (·.2)).toArray[i]?).map (·.1)).getD 0=_
   rw [List.getElem?_toArray,Ah,Ac hi]
   exact hte.1
  ·have e:t.probe (λi=>(((tab.map (·.2)).toArray[i]?).map (·.1)).getD 0) (tupleKeyHash knd kx) (pth t.mask (tupleKeyHash knd kx) n)=some (.candidate (pth t.mask (tupleKeyHash knd kx) n').j i (pth t.mask (tupleKeyHash knd kx) (n' + 1))):=i5
   rw [hpr] at e
   subst e
   dsimp only
   obtain ⟨ent,e1,e2,e3⟩:=Zku i3
   have hem:ent∈tab:=List.mem_of_getElem? e1
   obtain ⟨ky,ky1,b,ky2,ky3⟩:=hk ent hem
   have hslot:t.slot (pth t.mask (tupleKeyHash knd kx) n').j=.live i:=Gg x.gd.pw x.pl i3
   have after:wpAny (model prog w) A (do
     let some (_,y):=(tab.map (·.2)).toArray[i]? | unsupported "internal:set-entry"
     let equal <- holding [y] (eqBool y (.ref c))
     let (es',_,t') <- setState a
     if adding && equal then return .there none
     let some same:=t'.sameMemory t.moves t.mask | unsupported "set.changed-during-lookup:is-the-new-block-at-the-old-address"
     let still <- match (if same then t'.slot (pth t.mask (tupleKeyHash knd kx) n').j else .empty) with
      | .live i'=>match es'[i']? with
       | some (_,y')=>do pure (if <- isSame y' y then some i' else none)
       | none=>pure none
      | _=>pure none
     match still with
     | none=>rule "set.search.anew"; setSearchFrom a (.ref c) (tupleKeyHash knd kx) adding fuel none
     | some i'=>if equal then return .there (some i') else setSearchFrom a (.ref c) (tupleKeyHash knd kx) adding fuel (some (pth t.mask (tupleKeyHash knd kx) (n' + 1)))) Q E s:=by
    rw [e3]
    obtain ⟨ej,eh,ev⟩:=ent
    have ky2:ev=.ref b:=ky2
    subst ky2
    dsimp only
    refine Al (wpAny_holding (wpAny_eqBool_tuple hu ky3 hx ?_))
    refine Al (wpAny_setState_of x.ho x.hd x.fits ?_)
    dsimp only
    by_cases heq:ky=kx
    ·subst heq
     have hex:∃ e∈tab,TK knd s.heap e.2 ky:=⟨_,hem,ky1,b,rfl,ky3⟩
     rw [decide_eq_true rfl]
     cases adding with
     | true=>exact wpAny_pure (q2 hex none (λz=>by cases z))
     | false =>
      simp only [Bool.false_and,Bool.false_eq_true,if_false]
      have sm:t.sameMemory t.moves t.mask=some true:=by unfold sameMemory; rw [if_pos (by simp)]
      rw [sm]
      dsimp only
      rw [if_pos rfl,hslot]
      dsimp only
      rw [e3]
      dsimp only
      refine Al (wpAny_isSame_ref_self ?_)
      refine Al (wpAny_pure ?_)
      simp only [if_true]
      exact wpAny_pure (q2 hex (some i) λ_=>rfl)
    ·rw [decide_eq_false heq]
     simp only [Bool.and_false,Bool.false_eq_true,if_false]
     have sm:t.sameMemory t.moves t.mask=some true:=by unfold sameMemory; rw [if_pos (by simp)]
     rw [sm]
     dsimp only
     rw [if_pos rfl,hslot]
     dsimp only
     rw [e3]
     dsimp only
     refine Al (wpAny_isSame_ref_self ?_)
     refine Al (wpAny_pure ?_)
     simp only [if_true]
     refine Vj hu x hk hx hN hl hN2 q1 q2 fuel (n' + 1) _ i2 (by lia) rfl λn2 h2 e' he' hj' hte=>?_
     rcases Nat.lt_or_ge n2 n with z | z
     ·exact hno n2 z e' he' hj' hte
     ·rcases Nat.lt_or_ge n2 n' with z2 | z2
      ·obtain ⟨i',hi',rfl⟩:=List.mem_iff_getElem.mp he'
       refine i6 n2 z z2 i' (by rw [Ah,Ac hi']; exact congrArg some hj') ?_
       show (((tab.map (·.2)).toArray[i']?).map (·.1)).getD 0=_
       rw [List.getElem?_toArray,Ah,Ac hi']
       exact hte.1
      ·have:n2=n':=by lia
       subst this
       have:=one _ hem e' he' (e2.trans hj'.symm)
       subst this
       obtain ⟨_,b',hb',hk'⟩:=hte
       have:b=b':=by injection hb'
       subst this
       exact heq (ky3.inj hk')
   by_cases hled:t.led=true
   ·rw [hled]
    simp only [Bool.not_true,Bool.false_eq_true,if_false]
    exact after
   ·rw [Bool.eq_false_iff.mpr hled]
    simp only [Bool.not_false,if_true]
    refine Al (Zjm hx (λv hv=>?_) ?_)
    ·obtain ⟨e',he',rfl⟩:=List.mem_map.mp hv
     have:=Array.mem_filter.mp (Array.mem_toList_iff.mp he')
     have:=Array.mem_toList_iff.mpr this.1
     obtain ⟨e2',he2',rfl⟩:=List.mem_map.mp (by simpa using this:e'∈tab.map (·.2))
     obtain ⟨k',_,b',hb',hk'⟩:=hk e2' he2'
     exact ⟨k',b',hb',hk'⟩
    ·simp only [Bool.false_eq_true,if_false]
     exact after
theorem Zcr:∀ (l k:List Nat),l.Nodup->(∀ x∈l,x∈k)->l.length<=k.length
 | [],_,_,_=>Nat.zero_le _
 | x :: l,k,nd,h=>by
  obtain ⟨n1,n2⟩:=List.nodup_cons.mp nd
  have hx:=h x List.mem_cons_self
  have:=Zcr l (k.erase x) n2 λy hy=>(List.mem_erase_of_ne (λz=>n1 (by rw [<- z]; exact hy))).mpr (h y (List.mem_cons_of_mem _ hy))
  rw [List.length_erase_of_mem hx] at this
  have:=List.length_pos_of_mem hx
  rw [List.length_cons]
  lia
theorem STab.way {h:Heap} {o:Obj} {ep:Nat} {t:SetTable} {tab:List (Nat × Int × Value)} (x:STab h a o ep t tab) (hh:Int):∃ N,N < 10 * turns t.mask/\(pth t.mask hh N).j ∉ tab.map (·.1)/\∀ n,n < N->(pth t.mask hh n).j∈tab.map (·.1):=by
 obtain ⟨k,hk⟩:=x.pw
 have:∃ y,y<=t.mask/\y ∉ tab.map (·.1):=by
  refine Classical.byContradiction λno=>?_
  have sub:∀ y∈List.range (t.mask + 1),y∈tab.map (·.1):=λy hy=>Classical.byContradiction λz=>no ⟨y,Nat.le_of_lt_succ (List.mem_range.mp hy),z⟩
  have:=Zcr _ _ List.nodup_range sub
  rw [List.length_range,Ab] at this
  have:=x.rm
  lia
 obtain ⟨y,y1,y2⟩:=this
 obtain ⟨N,n1,n2,n3⟩:=Fr hk hh (O:=λj=>j∈tab.map (·.1)) y1 y2
 exact ⟨N,n1,n2,n3⟩
theorem Zdh {t:SetTable} (h:t.mask<=8191) {N:Nat} (hN:N < 10 * turns t.mask):N - 0 < 100000:=by unfold turns at hN; lia
theorem Zc3 {c:Addr} {es:Array (Int × Value)}:byScan (.ref c) es=false:=rfl
theorem Zi6 {o:Obj} {ep:Nat} {t:SetTable} {tab:List (Nat × Int × Value)} {kx:List K} {c:Addr} (hu:A.units < cLine) (x:STab s.heap a o ep t tab) (hk:∀ e∈tab,∃ k,TK knd s.heap e.2 k) (hx:IsTupleKey knd s.heap kx c) {Q:Option Nat->Shared->Prop}
  (q1:(∀ e∈tab,¬ TK knd s.heap e.2 kx)->Q none s) (q2:(∃ e∈tab,TK knd s.heap e.2 kx)->∀ i,Q (some i) s):wpAny (model prog w) A (setFind a (.ref c) (tupleKeyHash knd kx)) Q E s:=by
 unfold setFind setFindIn
 refine Al (wpAny_setState_of x.ho x.hd x.fits ?_)
 dsimp only
 rw [Zc3]
 simp only [Bool.false_eq_true,if_false]
 obtain ⟨N,n1,n2,n3⟩:=x.way (tupleKeyHash knd kx)
 unfold setSearch
 refine Al (Vj (knd:=knd) hu x hk hx n2 n3 n1 (λh=>?_) (λh i hi=>?_) 100000 0 none (Nat.zero_le _) (Zdh x.b1 n1) rfl (λn' z=>absurd z (Nat.not_lt_zero _)))
 ·exact wpAny_pure (q1 h)
 ·cases i with
  | none=>have:=hi rfl; cases this
  | some i=>exact wpAny_pure (q2 h i)
theorem Zbx {n:Nat} (hn:n < 8192):∀ (fuel k:Nat),k<=13->3<=k->13 - k < fuel->∃ k',3<=k'/\k'<=13/\sizeAbove.go n fuel (2 ^ k)=2 ^ k'/\n < 2 ^ k'
 | 0,k,_,_,h=>absurd h (Nat.not_lt_zero _)
 | fuel + 1,k,h1,h2,h3=>by
  unfold sizeAbove.go
  by_cases c:2 ^ k<=n
  ·rw [if_pos c]
   have:k < 13:=by
    rcases Nat.lt_or_ge k 13 with z | z
    ·exact z
    ·have:k=13:=by lia
     subst this
     have:(2:Nat) ^ 13=8192:=by decide
     lia
   rw [<- Nat.pow_succ]
   exact Zbx hn fuel (k + 1) this (by lia) (by lia)
  ·rw [if_neg c]
   exact ⟨k,h2,h1,rfl,by lia⟩
theorem Zik {n:Nat} (hn:n < 8192):∃ k,3<=k/\k<=13/\sizeAbove n=2 ^ k/\n < 2 ^ k:=Zbx hn 64 3 (by decide) (by decide) (by decide)
theorem Zcm {n:Nat} {ks:List K} {c:Addr} (hv:∀ k v n,knd.is k v=true->hashByValue n v=pure true) {Q:Bool->Shared->Prop} (hk:IsTupleKey knd s.heap ks c) (h:Q true s):wpAny (model prog w) A (hashByValue (n + 1) (.ref c)) Q E s:=by
 have hT:=hk.typeIs
 obtain ⟨o,items,m,ho,hc,hd,hi⟩:=hk
 unfold hashByValue
 refine Al (wpAny_specialOf hT F.slot_tuple_hash.lookup ?_)
 dsimp only
 show wpAny _ _ (seqItems? (.ref c) >>= _) _ _ s
 refine Al (wpAny_seqItems ho hd ?_)
 refine Al ?_
 show wpAny _ _ (forIn items _ _) _ _ s
 rw [<- Array.forIn_toList]
 refine wpAny_forIn_list _ (λrest r s'=>r.1=none/\s'=s/\∃ ks,ItemsAre knd ks rest) _ ?_ ?_ _ _ ⟨rfl,rfl,ks,hi⟩
 ·rintro v rest r s' ⟨hr,rfl,ks,hall⟩
  cases hall with
  | cons h1 h2 =>
   rw [hv _ _ n h1]
   refine Al (wpAny_pure ?_)
   simp only [Bool.not_true,Bool.false_eq_true,if_false]
   exact wpAny_pure ⟨rfl,rfl,_,h2⟩
 ·rintro ⟨r1,r2⟩ s' ⟨hr,rfl,_⟩
  simp only at hr
  subst hr
  exact wpAny_pure h
theorem Zks {o:Obj} {ep:Nat} {t:SetTable} {tab:List (Nat × Int × Value)} {kx:List K} {c:Addr} (hu:A.units < cLine) (hv:∀ k v n,knd.is k v=true->hashByValue n v=pure true) (x:STab s.heap a o ep t tab) (hk:∀ e∈tab,∃ k,TK knd s.heap e.2 k) (hx:IsTupleKey knd s.heap kx c) (hroom:tab.length + 1<=2000) {Q:Bool->Shared->Prop}
  (q1:(∃ e∈tab,TK knd s.heap e.2 kx)->Q false s)
  (q2:(∀ e∈tab,¬ TK knd s.heap e.2 kx)->∀ h' o' ep' t' tab',Heap.SameBut a s.heap h'->STab h' a o' ep' t' tab'->(tab'.map (·.2)).Perm (tab.map (·.2) ++ [(tupleKeyHash knd kx,.ref c)])->Q true { s with heap:=h' }) :
  wpAny (model prog w) A (setAddHashed a (.ref c) (tupleKeyHash knd kx)) Q E s:=by
 unfold setAddHashed setAddHashedIn
 refine wpAny_holding (Al (wpAny_setState_of x.ho x.hd x.fits ?_))
 dsimp only
 rw [Zc3]
 simp only [Bool.false_eq_true,if_false]
 obtain ⟨N,n1,n2,n3⟩:=x.way (tupleKeyHash knd kx)
 unfold setSearch
 refine Al (Vj (knd:=knd) hu x hk hx n2 n3 n1 (λh=>?_) (λh i hi=>?_) 100000 0 none (Nat.zero_le _) (Zdh x.b1 n1) rfl (λn' z=>absurd z (Nat.not_lt_zero _)))
 rotate_left
 ·exact wpAny_pure (q1 h)
 have q2:=q2 h
 dsimp only
 refine Al (wpAny_setState_of x.ho x.hd x.fits ?_)
 dsimp only
 generalize hp:below (tab.map (·.1)).toArray (pth t.mask (tupleKeyHash knd kx) N).j=p
 have g':=x.gd.put (x:=.ref c) n2 n3 hp.symm
 have hput:t.put (pth t.mask (tupleKeyHash knd kx) N).j=({ t with place:=((tab.take p ++ ((pth t.mask (tupleKeyHash knd kx) N).j,tupleKeyHash knd kx,Value.ref c) :: tab.drop p).map (·.1)).toArray,dummies:=#[] },p):=by
  unfold SetTable.put
  rw [x.pl,x.dm,Zdf,hp]
  dsimp only
  rw [Vh]
  simp only [Bool.false_eq_true,if_false,Aj,List.map_cons,List.map_take,List.map_drop]
 rw [hput]
 dsimp only
 have hins:insertAt (tab.map (·.2)).toArray p (tupleKeyHash knd kx,Value.ref c)=((tab.take p ++ ((pth t.mask (tupleKeyHash knd kx) N).j,tupleKeyHash knd kx,Value.ref c) :: tab.drop p).map (·.2)).toArray:=by
  rw [Vh]
  simp only [Aj,List.map_cons,List.map_take,List.map_drop]
 rw [hins]
 have hperm:((tab.take p ++ ((pth t.mask (tupleKeyHash knd kx) N).j,tupleKeyHash knd kx,Value.ref c) :: tab.drop p).map (·.2)).Perm (tab.map (·.2) ++ [(tupleKeyHash knd kx,Value.ref c)]):=by
  rw [Aj,List.map_cons]
  refine List.perm_middle.trans ((List.perm_append_singleton _ _).symm.trans ?_ |>.trans (List.Perm.refl _))
  rw [<- Aj,List.take_append_drop]
 have hlen:(tab.take p ++ ((pth t.mask (tupleKeyHash knd kx) N).j,tupleKeyHash knd kx,Value.ref c) :: tab.drop p).length=tab.length + 1:=by
  have:=hperm.length_eq
  simp only [Ab,Ae,List.length_cons,List.length_nil] at this ⊢
  lia
 generalize tab.take p ++ ((pth t.mask (tupleKeyHash knd kx) N).j,tupleKeyHash knd kx,Value.ref c) :: tab.drop p=tab1 at g' hperm hlen
 have rest:∀ t1:SetTable,t1.mask=t.mask->t1.place=(tab1.map (·.1)).toArray->t1.dummies=#[]->wpAny (model prog w) A (do
   storeSet a (tab1.map (·.2)).toArray t1
   if (!false && t1.tooFull)=true then do
    setRelay a (grown ((tab.map (·.2)).toArray.size + 1))
    pure true
   else pure true) Q E s:=λt1 e1 e2 e3=>by
  have hz:(tab1.map (·.2)).toArray.size<=sizeLine:=by rw [List.size_toArray,Ab,hlen,sizeLine_eq]; lia
  refine Al (wpAny_storeSet_of x.ho x.hd ?_ hz)
  have ho1:(s.heap.update a (Obj.putSet (tab1.map (·.2)).toArray t1)).get? a=some { o with data:=.set (tab1.map (·.2)).toArray (ep + 1) t1 }:=by
   have:=Heap.get?_update_self (Obj.putSet (tab1.map (·.2)).toArray t1) x.ho (by rw [putSet_of _ t1 x.hd]; rfl)
   rw [putSet_of _ t1 x.hd] at this; exact this
  have sb1:=Heap.SameBut.update s.heap a (Obj.putSet (tab1.map (·.2)).toArray t1)
  have hfill:t1.fill=tab.length + 1:=by unfold SetTable.fill; rw [e2,e3,List.size_toArray,Ab,hlen]; rfl
  have xb1:=x.b1
  have xb2:=x.b2
  by_cases full:t1.tooFull=true
  ·rw [full]
   simp only [Bool.not_false,Bool.and_self,if_true]
   refine Al ?_
   unfold setRelay
   have hf1:t1.fits (tab1.map (·.2)).toArray.size=true:=by
    have:=x.rm
    simp only [SetTable.fits,Bool.and_eq_true,beq_iff_eq,decide_eq_true_eq,hfill,e1,e2,List.size_toArray,Ab]
    exact ⟨trivial,by lia⟩
   refine Al (wpAny_setState_of ho1 rfl hf1 ?_)
   dsimp only
   have hgrown:grown ((tab.map (·.2)).toArray.size + 1)=(tab.length + 1) * 4:=by
    unfold grown
    rw [List.size_toArray,Ab,if_neg (by lia)]
   rw [hgrown]
   obtain ⟨k,k1,k2,k3,k4⟩:=Zik (n:=(tab.length + 1) * 4) (by lia)
   have hk13:2 ^ k<=2 ^ 13:=Nat.pow_le_pow_right (by decide) k2
   have hk3:2 ^ 3<=2 ^ k:=Nat.pow_le_pow_right (by decide) k1
   have c13:(2:Nat) ^ 13=8192:=by decide
   have c3:(2:Nat) ^ 3=8:=by decide
   rw [if_neg (by rw [k3,sizeLine_eq]; lia)]
   obtain ⟨tab2,l1,l2,order,l3,l4⟩:=Zj8 (m:=2 ^ k - 1) (k:=k) (by lia) (es:=tab1.map (·.2)) (by rw [Ab,hlen]; lia) t1.finger (t1.movedTo (2 ^ k - 1)) t1.led t1.plain
   have hrel:t1.relaid ((tab1.map (·.2)).toArray.map (·.1)) ((tab.length + 1) * 4)=some ({ mask:=2 ^ k - 1,place:=(tab2.map (·.1)).toArray,dummies:=#[],finger:=t1.finger,led:=t1.led,moves:=t1.movedTo (2 ^ k - 1),plain:=t1.plain },order):=by
    unfold relaid
    rw [k3,List.map_toArray,l3]
   rw [hrel]
   have hl2:tab2.length=tab.length + 1:=by have:=l2.length_eq; rw [Ab,Ab,hlen] at this; exact this
   refine Al ?_
   show wpAny _ _ (if ((order.filterMap ((tab1.map (·.2)).toArray[·]?)).size != (tab1.map (·.2)).toArray.size)=true then _ else _) _ _ _
   rw [l4]
   have hsz:((tab2.map (·.2)).toArray.size != (tab1.map (·.2)).toArray.size)=false:=by
    rw [List.size_toArray,List.size_toArray,Ab,Ab,hl2,hlen]; simp
   rw [hsz]
   simp only [Bool.false_eq_true,if_false]
   refine wpAny_pure ?_
   dsimp only
   have hz2:(tab2.map (·.2)).toArray.size<=sizeLine:=by rw [List.size_toArray,Ab,hl2,sizeLine_eq]; lia
   refine wpAny_storeSet_of ho1 rfl ?_ hz2
   refine wpAny_pure (q2 _ { o with data:=.set (tab2.map (·.2)).toArray (ep + 1 + 1) { mask:=2 ^ k - 1,place:=(tab2.map (·.1)).toArray,dummies:=#[],finger:=t1.finger,led:=t1.led,moves:=t1.movedTo (2 ^ k - 1),plain:=t1.plain } } (ep + 1 + 1) { mask:=2 ^ k - 1,place:=(tab2.map (·.1)).toArray,dummies:=#[],finger:=t1.finger,led:=t1.led,moves:=t1.movedTo (2 ^ k - 1),plain:=t1.plain } tab2 (sb1.trans (Heap.SameBut.update _ a _)) ⟨?_,x.ex,rfl,rfl,rfl,l1,⟨k,by show 2 ^ k - 1 + 1=_; lia⟩,by show 2 ^ k - 1<=8191; lia,by show 7<=2 ^ k - 1; lia,by show tab2.length * 5 < (2 ^ k - 1) * 3; lia⟩ (l2.trans hperm))
   have:=Heap.get?_update_self (Obj.putSet (tab2.map (·.2)).toArray { mask:=2 ^ k - 1,place:=(tab2.map (·.1)).toArray,dummies:=#[],finger:=t1.finger,led:=t1.led,moves:=t1.movedTo (2 ^ k - 1),plain:=t1.plain }) ho1 (by rw [putSet_of _ _ rfl]; rfl)
   rw [putSet_of _ _ rfl] at this
   exact this
  ·rw [Bool.eq_false_iff.mpr full]
   simp only [Bool.not_false,Bool.and_false,Bool.false_eq_true,if_false]
   refine wpAny_pure (q2 _ _ _ t1 tab1 sb1 ⟨ho1,x.ex,rfl,e2,e3,e1 ▸ g',e1 ▸ x.pw,e1 ▸ x.b1,e1 ▸ x.b2,?_⟩ hperm)
   unfold SetTable.tooFull at full
   rw [decide_eq_true_iff,hfill] at full
   rw [hlen]
   lia
 split
 ·refine Al (Zcm hv hx ?_)
  exact rest _ rfl rfl rfl
 ·refine Al (wpAny_pure ?_)
  exact rest _ rfl rfl rfl
end
end L2
namespace L2
open PySem PySem.Spec PyProof.Rows
end L2
namespace PySem.F
end PySem.F
namespace L2
open PySem PySem.Spec PyProof.Rows
noncomputable def dd (ks:List Int):List Int:=ks.foldl step_dedup []
end L2
namespace L2
open PySem PySem.Spec PyProof.Rows PySem.W
end L2
namespace L2
open PySem PySem.Spec PyProof.Rows PySem.W PySem.SetTable
noncomputable def TSO (P:Program) (w:World) (a:Addr) (xs:List (List Int × Addr)) (h:Heap):Prop:=∃ o ep t tab,STab h a o ep t tab/\(tab.map (·.2)).Perm (xs.map λq=>(tupleKeyHash (intKind P w) q.1,Value.ref q.2))
noncomputable def Yp (P:Program) (w:World) (a:Addr) (xs:List (List Int × Addr)):HO:=.ext (TSO P w a xs)
noncomputable def Y8 (H:Hp) (xs:List (List Int × Addr)):Prop:=∀ q∈xs,H q.2=some (.tup (q.1.map V.int))
theorem Y8.same {H H':Hp} {xs:List (List Int × Addr)} (h:Y8 H xs) (s:Same H H'):Y8 H' xs:=λq hq=>s _ _ (h q hq)
theorem Y8.snoc {H:Hp} {xs:List (List Int × Addr)} {k:List Int} {b:Addr} (h:Y8 H xs) (hb:H b=some (.tup (k.map V.int))):Y8 H (xs ++ [(k,b)]):=λq hq=>by
 rcases List.mem_append.mp hq with z | z
 ·exact h q z
 ·rw [Af z]; exact hb
section
variable {X:Cx}
theorem Zcq {H:Hp} {h:Heap} {a:Addr} {xs:List (List Int × Addr)} (x:TSO X.prog X.w a xs h):Zy X.prog X.w H h a (Yp X.prog X.w a xs):=by
 refine ⟨x,?_,λh1 h2 w1 k=>?_⟩
 ·obtain ⟨o,_,_,_,tt,_⟩:=x
  exact ⟨o,tt.ho⟩
 ·obtain ⟨o,ep,t,tab,tt,pm⟩:=w1
  exact ⟨o,ep,t,tab,⟨k _ tt.ho,tt.ex,tt.hd,tt.pl,tt.dm,tt.gd,tt.pw,tt.b1,tt.b2,tt.rm⟩,pm⟩
theorem Kc:∀ {k:List Int} {its:List Value},Vals (k.map V.int) its->ItemsAre (intKind X.prog X.w) k its
 | [],its,h=>by cases h; exact .nil
 | i :: k,its,h=>by
  cases h with
  | cons r t =>
   obtain ⟨tk,rfl⟩:=r
   exact .cons (intKind_is _ _ _ _) (Kc t)
theorem Qw {pins:List (Addr × Obj)} {σ:St} {H:Hp} {s:Shared} (I:Inv X pins σ H s) {b:Addr} {k:List Int} (h:H b=some (.tup (k.map V.int))):IsTupleKey (intKind X.prog X.w) s.heap k b:=by
 obtain ⟨its,rv,⟨o,ho,hc,m,hd⟩,_⟩:=I.tuple (SqT.of h)
 exact ⟨o,_,m,ho,hc,hd,by simpa using Kc rv⟩
theorem Fu {pins:List (Addr × Obj)} {σ:St} {H:Hp} {s:Shared} (I:Inv X pins σ H s) {xs:List (List Int × Addr)} {tab:List (Nat × Int × Value)} (hk:Y8 H xs) (pm:(tab.map (·.2)).Perm (xs.map λq=>(tupleKeyHash (intKind X.prog X.w) q.1,Value.ref q.2))):∀ e∈tab,∃ k,TK (intKind X.prog X.w) s.heap e.2 k:=λe he=>by
 obtain ⟨q,hq,e2⟩:=List.mem_map.mp (pm.mem_iff.mp (List.mem_map.mpr ⟨e,he,rfl⟩))
 exact ⟨q.1,by rw [<- e2],q.2,by rw [<- e2],Qw I (hk q hq)⟩
theorem Of {pins:List (Addr × Obj)} {σ:St} {H:Hp} {s:Shared} (I:Inv X pins σ H s) {xs:List (List Int × Addr)} {tab:List (Nat × Int × Value)} (hk:Y8 H xs) (pm:(tab.map (·.2)).Perm (xs.map λq=>(tupleKeyHash (intKind X.prog X.w) q.1,Value.ref q.2))) {k:List Int}:(∃ e∈tab,TK (intKind X.prog X.w) s.heap e.2 k) ↔ k∈xs.map (·.1):=by
 constructor
 ·rintro ⟨e,he,_,b,e1,e2⟩
  obtain ⟨q,hq,e3⟩:=List.mem_map.mp (pm.mem_iff.mp (List.mem_map.mpr ⟨e,he,rfl⟩))
  have:q.2=b:=by rw [<- e3] at e1; injection e1
  have h1:=Qw I (hk q hq)
  rw [this] at h1
  exact List.mem_map.mpr ⟨q,hq,h1.inj e2⟩
 ·intro h
  obtain ⟨q,hq,rfl⟩:=List.mem_map.mp h
  obtain ⟨e,he,e2⟩:=List.mem_map.mp (pm.mem_iff.mpr (List.mem_map.mpr ⟨q,hq,rfl⟩))
  exact ⟨e,he,by rw [e2],q.2,by rw [e2],Qw I (hk q hq)⟩
theorem Zet:Y1 X (.type "set") (λxs H Q=>xs=[]/\∀ p,H p=none->Q (.ref p) (upd H p (Yp X.prog X.w p []))):=by
 intro pins s σ H xs us Q I r h
 obtain ⟨rfl,q⟩:=h
 cases r
 refine call_set_0 λled=>?_
 refine ⟨.ref s.heap.objs.size,_,I.laid (t':=s.toks) (λb o e=>Ak _ e) (Nat.le_refl _) (Zcq ?_),rfl,q _ (I.hok.fresh (Nat.le_refl _))⟩
 exact ⟨_,0,.fresh 0 0 led,[],⟨Heap.get?_push_size _ rfl,⟨rfl,rfl,rfl⟩,rfl,rfl,rfl,Good.nil _,⟨3,rfl⟩,by show 7<=8191; decide,by show 7<=7; decide,by show 0 * 5 < 7 * 3; decide⟩,List.Perm.refl _⟩
theorem STab.typeIs {s:Shared} {a:Addr} {o:Obj} {ep:Nat} {t:SetTable} {tab:List (Nat × Int × Value)} (x:STab s.heap a o ep t tab):s.TypeIs (.ref a) "set":=⟨o,x.ho,x.ex.1⟩
theorem Za1 (hu:X.A.units + 64 < cLine):OpR X (compareOp .NotIn) (λx y H Q=>∃ b k p xs,x=.ref b/\y=.ref p/\H b=some (.tup (k.map V.int))/\H p=some (Yp X.prog X.w p xs)/\Y8 H xs/\Q (.bl (!decide (k∈xs.map (·.1)))) H):=by
 intro pins s σ H x y v u Q I rx ry h
 obtain ⟨b,k,p,xs,rfl,rfl,hb,hp,hk,q⟩:=h
 cases rx
 cases ry
 obtain ⟨⟨o,ep,t,tab,tt,pm⟩,_⟩:Zy X.prog X.w H s.heap p (Yp X.prog X.w p xs):=I.hok p _ hp
 have hkey:=Qw I hb
 show wpAny _ _ (do return Value.bool (!(<- contains (.ref p) (.ref b)))) _ _ s
 refine Al ?_
 unfold contains
 try with_reducible refine wpAny_holding ?_
 refine Al (wpAny_specialOf tt.typeIs F.slot_set_contains.lookup ?_)
 show wpAny _ _ (if (some (Value.builtin "set.__contains__") == some Value.none)=true then _ else _) _ _ s
 rw [if_neg (by rw [beq_builtin_none]; exact Bool.false_ne_true)]
 refine Al (wpAny_callSpecialUnlessNone?_slot (name:=Str.ofString "__contains__") tt.typeIs F.slot_set_contains
  (wpAny_call_entry F.slot_set_contains tt.typeIs entry_set_contains ?_ (F.args_set_contains_2 _ _)))
 unfold Builtin.«frozenset.__contains__» Builtin.Frozenset.oneOther
 simp only [List.isEmpty_nil,bind_assoc]
 unfold Builtin.Frozenset.addrOf Builtin.Frozenset.withSetAsKey setContains
 refine Al (wpAny_pure ?_)
 try dsimp only
 refine Al (wpAny_pure ?_)
 try dsimp only
 refine Al (wpAny_tryCatch ?_)
 refine wpAny_holding ?_
 refine Al (wpAny_pyHash_tuple (by show X.A.units + _ < _; lia) hkey ?_)
 refine Al (Zi6 (knd:=intKind X.prog X.w) (s:={ s with toks:=s.toks + (k.length + 1) }) (by show X.A.units + _ < _; lia) tt (Fu I hk pm) hkey (λh=>?_) (λh i=>?_))
 ·refine wpAny_pure ?_
  show wpAny _ _ (ret (Value.bool _)) _ _ _
  refine wpAny_pure ⟨_,rfl,wpAny_truthy_bool (wpAny_pure ⟨.bl _,H,I.tok _,rfl,?_⟩)⟩
  have:¬ k∈xs.map (·.1):=λz=>by obtain ⟨e,he,h'⟩:=(Of I hk pm).mpr z; exact h e he h'
  rw [decide_eq_false this] at q
  exact q
 ·refine wpAny_pure ?_
  show wpAny _ _ (ret (Value.bool _)) _ _ _
  refine wpAny_pure ⟨_,rfl,wpAny_truthy_bool (wpAny_pure ⟨.bl _,H,I.tok _,rfl,?_⟩)⟩
  rw [decide_eq_true ((Of I hk pm).mp h)] at q
  exact q
theorem O1 {o e:Expr} {to:TE} {t:TA} {apos cpos:Pos} (hu:X.A.units + 64 < cLine) (ho:PE X o to) (ha:PA X [e] t)
  (hbase:attributeBase o "add" X.env (eval o X.env)=eval o X.env:=by rfl)
  (hfew:((backTo cpos (starEach [e] X.env)).all (λx=>!x.1) && (backToKw cpos (keywordEach [] X.env)).all (λx=>x.1.isSome)
   && decide ([e].length + ([]:List Keyword).length + (if ([]:List Keyword).isEmpty then 0 else 1) < 30))=true:=by rfl)
  (hline:(apos.endLine == cpos.line)=true:=by rfl) (hs:starEach [e] X.env=(false,eval e X.env) :: starEach [] X.env:=by rfl) :
  PE X (.Call (.Attribute o "add" apos) [e] [] cpos) (λσ H Q=>to σ H λx H1=>∃ p xs0,x=.ref p/\H1 p=some (Yp X.prog X.w p xs0)/\t σ H1 λvs H2=>∃ b k xs,vs=[.ref b]/\H2 b=some (.tup (k.map V.int))/\H2 p=some (Yp X.prog X.w p xs)/\Y8 H2 xs/\xs.length + 1<=2000/\(k∈xs.map (·.1)->Q .non H2)/\(k ∉ xs.map (·.1)->Q .non (upd H2 p (Yp X.prog X.w p (xs ++ [(k,b)]))))):=by
 intro pins s σ H Q I h
 refine wpAny_Call_method_late hbase hfew hline rfl (thn (ho pins s σ H _ I h) λv s1 zz9=>?_)
 obtain ⟨x,H1,I1,r1,p,xs0,ex,hp0,q1⟩:=zz9
 subst ex
 cases r1
 obtain ⟨⟨o0,ep0,t0,tab0,tt0,_⟩,_⟩:Zy X.prog X.w H1 s1.heap p (Yp X.prog X.w p xs0):=I1.hok p _ hp0
 refine ⟨"set",_,PySem.F.plainAttrs_set,PySem.F.slot_set_add,PySem.F.type_set_add,⟨o0,tt0.ho,tt0.ex.1⟩,λa z=>by cases z; exact ⟨o0,tt0.ho,tt0.ex.2.1⟩,?_⟩
 have hA:=ha cpos pins s1 σ H1 _ I1 q1
 rw [hs] at hA ⊢
 refine Calls.callWith_builtin rfl (Calls.evalArgs_plain ?_)
 refine thn hA λus s2 zz9=>?_
 obtain ⟨vs,H2,I2,r2,b,k,xs,ev,hb,hp,hk,hl,qy,qn⟩:=zz9
 subst ev
 obtain ⟨u,rfl,ru⟩:=Xw r2
 cases ru
 obtain ⟨⟨o,ep,t,tab,tt,pm⟩,_⟩:Zy X.prog X.w H2 s2.heap p (Yp X.prog X.w p xs):=I2.hok p _ hp
 have hkey:=Qw I2 hb
 have hlen:tab.length=xs.length:=by have:=pm.length_eq; rw [Ab,Ab] at this; exact this
 refine wpAny_call_entry PySem.F.slot_set_add tt.typeIs PySem.F.entry_set_add ?_ (PySem.F.args_set_add_2 _ _)
 unfold Builtin.«set.add» Builtin.Frozenset.oneOther
 simp only [List.isEmpty_nil,bind_assoc]
 unfold Builtin.Frozenset.addrOf setAdd
 refine Al (wpAny_pure ?_)
 try dsimp only
 refine Al ?_
 refine wpAny_holding ?_
 refine Al (wpAny_pyHash_tuple (by show X.A.units + _ < _; lia) hkey ?_)
 refine Zks (knd:=intKind X.prog X.w) (s:={ s2 with toks:=s2.toks + (k.length + 1) }) (by show X.A.units + _ < _; lia) (λk v n hv=>?_) tt (Fu I2 hk pm) hkey (by lia) (λh=>?_) (λh h' o' ep' t' tab' sb tt' pm'=>?_)
 ·have:v.isInt k=true:=by simpa [intKind] using hv
  cases v <;> simp [Value.isInt] at this
  cases n <;> rfl
 ·show wpAny _ _ (ret Value.none) _ _ _
  exact wpAny_pure ⟨_,rfl,.non,_,I2.tok _,rfl,qy ((Of I2 hk pm).mp h)⟩
 ·show wpAny _ _ (ret Value.none) _ _ _
  refine wpAny_pure ⟨_,rfl,?_⟩
  have hn:k ∉ xs.map (·.1):=λz=>by obtain ⟨e,he,h'⟩:=(Of I2 hk pm).mpr z; exact h e he h'
  refine ⟨.non,_,I2.write (t':=s2.toks + (k.length + 1)) (x:=p) (e:=p) (by rw [hp]; exact trivial) (.inl rfl) (λb' u hb hu=>(sb.2 b' hb).trans hu) ⟨_,tt'.ho⟩ (Zcq ⟨o',ep',t',tab',tt',?_⟩),rfl,qn hn⟩
  refine pm'.trans ?_
  rw [Aj]
  exact pm.append (List.Perm.refl _)
end
end L2
namespace L2
open PySem PyProof.Rows
noncomputable def CmpK (prog:Program) (w:World) (A:Around) (E:Value->Shared->Prop) (s:Shared) (κ:SortKind) (ok:Keyed->Prop) (key:Keyed->Nat):Prop :=
 ∀ x y,ok x->ok y->∀ (st:SortSt) (Q:Option Bool->SortSt->Prop),kindOf st=κ->Q (some (decide (key x < key y))) st->wpS (model prog w) A E s (lt' x y) Q st
structure Sg (st st':SortSt):Prop where
 kind:kindOf st'=kindOf st
 arr:arrOf st'=arrOf st
 pend:pendingOf st'=pendingOf st
 fail:failedOf st'=failedOf st
theorem Sg.refl (st:SortSt):Sg st st:=⟨rfl,rfl,rfl,rfl⟩
theorem Sg.trans {a b c:SortSt} (h:Sg a b) (g:Sg b c):Sg a c:=⟨g.kind.trans h.kind,g.arr.trans h.arr,g.pend.trans h.pend,g.fail.trans h.fail⟩
noncomputable def Yx:Bool->Keyed->Array Keyed->Nat->Nat->Nat->StateT SortSt Sem (Option Nat):=sortPriv% PySem.Builtin.gallop
noncomputable def U5:Array Keyed->Array Keyed->StateT SortSt Sem (Array Keyed):=sortPriv% PySem.Builtin.mergeLo
noncomputable def U6:Array Keyed->Array Keyed->StateT SortSt Sem (Array Keyed):=sortPriv% PySem.Builtin.mergeHi
noncomputable def Z8:Nat->StateT SortSt Sem Unit:=sortPriv% PySem.Builtin.setMinGallop
noncomputable def Wj (left:Bool) (key:Keyed) (arr:Array Keyed) (base i:Nat):StateT SortSt Sem (Option Bool):=do
 let x <- elem' arr (base + i)
 if left then lt' x key else return (<- lt' key x).map (!·)
theorem Zeq (left:Bool) (key:Keyed) (arr:Array Keyed) (base n hint:Nat):Yx left key arr base n hint=(do
 let mut lastofs:=0
 let mut ofs:=1
 let mut lo:=0
 let mut hi:=0
 let some right <- Wj left key arr base hint | return none
 if right then
  let maxofs:=n - hint
  for _ in [0:n] do
   if ofs ≥ maxofs then break
   let some more <- Wj left key arr base (hint + ofs) | return none
   if !more then break
   lastofs:=ofs
   ofs:=2 * ofs + 1
  lo:=hint + lastofs + 1
  hi:=hint + min ofs maxofs
 else
  let maxofs:=hint + 1
  for _ in [0:n] do
   if ofs ≥ maxofs then break
   let some found <- Wj left key arr base (hint - ofs) | return none
   if found then break
   lastofs:=ofs
   ofs:=2 * ofs + 1
  lo:=hint + 1 - min ofs maxofs
  hi:=hint - lastofs
 for _ in [0:n] do
  if lo ≥ hi then break
  let m:=lo + (hi - lo) / 2
  let some more <- Wj left key arr base m | return none
  if more then lo:=m + 1 else hi:=m
 return some hi):=rfl
section
variable {prog:Program} {w:World} {A:Around} {E:Value->Shared->Prop} {s:Shared} {κ:SortKind} {ok:Keyed->Prop} {key:Keyed->Nat}
theorem Zdg {left:Bool} {kx:Keyed} {arr:Array Keyed} {base n lo hi:Nat} {st:SortSt} {B:Nat->Bool} (hb:∀ i,i < n->∀ Q:Option Bool->SortSt->Prop,Q (some (B i)) st->wpS (model prog w) A E s (Wj left kx arr base i) Q st)
  (mono:∀ i j,i<=j->j < n->B j=true->B i=true) (h1:lo<=hi) (h2:hi<=n) (h3:∀ i,i < lo->B i=true) (h4:∀ i,hi<=i->i < n->B i=false) {Q:Option Nat->SortSt->Prop} (q:∀ r,r<=n->(∀ i,i < r->B i=true)->(∀ i,r<=i->i < n->B i=false)->Q (some r) st) :
  wpS (model prog w) A E s (do
   let mut lo:=lo
   let mut hi:=hi
   for _ in [0:n] do
    if lo ≥ hi then break
    let m:=lo + (hi - lo) / 2
    let some more <- Wj left kx arr base m | return none
    if more then lo:=m + 1 else hi:=m
   return some hi) Q st:=by
 dsimp only
 refine wpS_bind (wpS_mono (wpS_forRange (I:=λx c st'=>st'=st/\∃ lo hi,c=(none,lo,hi)/\lo<=hi/\hi<=n/\hi - lo<=n - x/\(∀ i,i < lo->B i=true)/\∀ i,hi<=i->i < n->B i=false) (Q:=λc st'=>st'=st/\∃ lo hi,c=(none,lo,hi)/\lo=hi/\hi<=n/\(∀ i,i < lo->B i=true)/\∀ i,hi<=i->i < n->B i=false) ?step ?fin ?init) ?post)
 case init=>exact ⟨rfl,lo,hi,rfl,h1,h2,by lia,h3,h4⟩
 case fin =>
  rintro c st' ⟨rfl,lo,hi,rfl,a1,a2,a3,a4,a5⟩
  exact ⟨rfl,lo,hi,rfl,by lia,a2,a4,a5⟩
 case step =>
  rintro x c st' _ hx ⟨rfl,lo,hi,rfl,a1,a2,a3,a4,a5⟩
  dsimp only
  by_cases hge:lo ≥ hi
  ·rw [if_pos hge]
   exact wpS_pure ⟨rfl,lo,hi,rfl,by lia,a2,a4,a5⟩
  ·rw [if_neg hge]
   refine wpS_bind (hb _ (by lia) _ ?_)
   dsimp only
   cases hB:B (lo + (hi - lo) / 2) with
   | true =>
    simp only [if_true]
    refine wpS_pure ⟨rfl,_,hi,rfl,by lia,a2,by lia,λi hi'=>mono i _ (by lia) (by lia) hB,a5⟩
   | false =>
    simp only [Bool.false_eq_true,if_false]
    refine wpS_pure ⟨rfl,lo,_,rfl,by lia,by lia,by lia,a4,λi h1 h2=>?_⟩
    cases hBi:B i with
    | false=>rfl
    | true=>rw [mono _ i h1 h2 hBi] at hB; cases hB
 case post =>
  rintro c st' ⟨rfl,lo,hi,rfl,rfl,a2,a4,a5⟩
  exact wpS_pure (q lo a2 a4 a5)
theorem Zgm {left:Bool} {kx:Keyed} {arr:Array Keyed} {base n hint:Nat} {st:SortSt} {B:Nat->Bool} (hb:∀ i,i < n->∀ Q:Option Bool->SortSt->Prop,Q (some (B i)) st->wpS (model prog w) A E s (Wj left kx arr base i) Q st)
  (mono:∀ i j,i<=j->j < n->B j=true->B i=true) (hh:hint < n) {Q:Option Nat->SortSt->Prop} (q:∀ r,r<=n->(∀ i,i < r->B i=true)->(∀ i,r<=i->i < n->B i=false)->Q (some r) st) :
  wpS (model prog w) A E s (Yx left kx arr base n hint) Q st:=by
 rw [Zeq]
 dsimp only
 refine wpS_bind (hb hint hh _ ?_)
 dsimp only
 cases hB:B hint with
 | true =>
  simp only [if_true]
  refine wpS_bind (wpS_mono (wpS_forRange (I:=λx c st'=>st'=st/\∃ la of,c=(none,la,of)/\la < of/\x + 1<=of/\hint + la < n/\B (hint + la)=true) (Q:=λc st'=>st'=st/\∃ la of,c=(none,la,of)/\la < of/\hint + la < n/\B (hint + la)=true/\(n - hint<=of\/B (hint + of)=false)) ?step ?fin ?init) ?post)
  case init=>exact ⟨rfl,0,1,rfl,by lia,by lia,by lia,hB⟩
  case fin =>
   rintro c st' ⟨rfl,la,of,rfl,a1,a2,a3,a4⟩
   exact ⟨rfl,la,of,rfl,a1,a3,a4,.inl (by lia)⟩
  case step =>
   rintro x c st' _ hx ⟨rfl,la,of,rfl,a1,a2,a3,a4⟩
   dsimp only
   by_cases hge:of ≥ n - hint
   ·rw [if_pos hge]
    exact wpS_pure ⟨rfl,la,of,rfl,a1,a3,a4,.inl hge⟩
   ·rw [if_neg hge]
    refine wpS_bind (hb _ (by lia) _ ?_)
    dsimp only
    cases hB2:B (hint + of) with
    | true =>
     simp only [Bool.not_true,Bool.false_eq_true,if_false]
     exact wpS_pure ⟨rfl,of,2 * of + 1,rfl,by lia,by lia,by lia,hB2⟩
    | false =>
     simp only [Bool.not_false,if_true]
     exact wpS_pure ⟨rfl,la,of,rfl,a1,a3,a4,.inr hB2⟩
  case post =>
   rintro c st' ⟨rfl,la,of,rfl,a1,a3,a4,a5⟩
   dsimp only
   refine Zdg hb mono (by lia) (by lia) (λi hi=>mono i (hint + la) (by lia) a3 a4) (λi h1 h2=>?_) q
   rcases a5 with z | z
   ·lia
   ·cases hBi:B i with
    | false=>rfl
    | true=>rw [mono (hint + of) i (by lia) h2 hBi] at z; cases z
 | false =>
  simp only [Bool.false_eq_true,if_false]
  refine wpS_bind (wpS_mono (wpS_forRange (I:=λx c st'=>st'=st/\∃ la of,c=(none,la,of)/\la < of/\x + 1<=of/\la<=hint/\B (hint - la)=false) (Q:=λc st'=>st'=st/\∃ la of,c=(none,la,of)/\la < of/\la<=hint/\B (hint - la)=false/\(hint + 1<=of\/B (hint - of)=true)) ?step ?fin ?init) ?post)
  case init=>exact ⟨rfl,0,1,rfl,by lia,by lia,by lia,hB⟩
  case fin =>
   rintro c st' ⟨rfl,la,of,rfl,a1,a2,a3,a4⟩
   exact ⟨rfl,la,of,rfl,a1,a3,a4,.inl (by lia)⟩
  case step =>
   rintro x c st' _ hx ⟨rfl,la,of,rfl,a1,a2,a3,a4⟩
   dsimp only
   by_cases hge:of ≥ hint + 1
   ·rw [if_pos hge]
    exact wpS_pure ⟨rfl,la,of,rfl,a1,a3,a4,.inl hge⟩
   ·rw [if_neg hge]
    refine wpS_bind (hb _ (by lia) _ ?_)
    dsimp only
    cases hB2:B (hint - of) with
    | true =>
     simp only [if_true]
     exact wpS_pure ⟨rfl,la,of,rfl,a1,a3,a4,.inr hB2⟩
    | false =>
     simp only [Bool.false_eq_true,if_false]
     exact wpS_pure ⟨rfl,of,2 * of + 1,rfl,by lia,by lia,by lia,hB2⟩
  case post =>
   rintro c st' ⟨rfl,la,of,rfl,a1,a3,a4,a5⟩
   dsimp only
   refine Zdg hb mono (by lia) (by lia) (λi hi=>?_) (λi h1 h2=>?_) q
   ·rcases a5 with z | z
    ·lia
    ·exact mono i (hint - of) (by lia) (by lia) z
   ·cases hBi:B i with
    | false=>rfl
    | true=>rw [mono (hint - la) i (by lia) h2 hBi] at a4; cases a4
end
section
variable {key:Keyed->Nat}
noncomputable abbrev UpK (key:Keyed->Nat) (l:List Keyed):Prop:=l.Pairwise λx y=>key x<=key y
structure MIk (key:Keyed->Nat) (la lb o:List Keyed) (ia ib:Nat):Prop where
 pm:o.Perm (la.take ia ++ lb.take ib)
 so:UpK key o
 ba:∀ p∈o,∀ q∈la.drop ia,key p<=key q
 bb:∀ p∈o,∀ q∈lb.drop ib,key p<=key q
theorem MIk.swap {la lb o:List Keyed} {ia ib:Nat} (h:MIk key la lb o ia ib):MIk key lb la o ib ia:=⟨h.pm.trans List.perm_append_comm,h.so,h.bb,h.ba⟩
theorem MIk.run {la lb o:List Keyed} {ia ib:Nat} (h:MIk key la lb o ia ib) (sa:UpK key la) (k:Nat) (hs:∀ p∈(la.drop ia).take k,∀ q∈lb.drop ib,key p<=key q):MIk key la lb (o ++ (la.drop ia).take k) (ia + k) ib:=by
 have sd:UpK key (la.drop ia):=sa.sublist (List.drop_sublist _ _)
 have e:(la.drop ia).drop k=la.drop (ia + k):=by rw [List.drop_drop]
 have sd2:=sd
 unfold UpK at sd2
 rw [<- List.take_append_drop k (la.drop ia),List.pairwise_append,e] at sd2
 refine ⟨?_,?_,λp hp q hq=>?_,λp hp q hq=>?_⟩
 ·rw [List.take_add]
  refine (h.pm.append_right _).trans ?_
  rw [List.append_assoc,List.append_assoc]
  exact List.Perm.append_left _ List.perm_append_comm
 ·refine List.pairwise_append.mpr ⟨h.so,sd2.1,λp hp q hq=>h.ba p hp q (List.mem_of_mem_take hq)⟩
 ·rcases List.mem_append.mp hp with z | z
  ·exact h.ba p z q (by rw [<- e] at hq; exact List.mem_of_mem_drop hq)
  ·exact sd2.2.2 p z q hq
 ·rcases List.mem_append.mp hp with z | z
  ·exact h.bb p z q hq
  ·exact hs p z q hq
theorem MIk.fin {la lb o:List Keyed} {ia ib:Nat} (h:MIk key la lb o ia ib) (sa:UpK key la) (hb:lb.length<=ib):(o ++ la.drop ia ++ lb.drop ib).Perm (la ++ lb)/\UpK key (o ++ la.drop ia ++ lb.drop ib):=by
 have pm:=h.pm
 rw [List.take_of_length_le hb] at pm
 rw [List.drop_of_length_le hb,List.append_nil]
 refine ⟨?_,List.pairwise_append.mpr ⟨h.so,sa.sublist (List.drop_sublist _ _),h.ba⟩⟩
 refine (pm.append_right _).trans ?_
 conv=>rhs; rw [<- List.take_append_drop ia la]
 rw [List.append_assoc,List.append_assoc]
 exact List.Perm.append_left _ List.perm_append_comm
theorem MIk.last {la lb o:List Keyed} {ia ib:Nat} (h:MIk key la lb o ia ib) (sa:UpK key la) (sb:UpK key lb) (ho:∀ p∈lb,∀ q∈la.drop ia,key p<=key q):(o ++ lb.drop ib ++ la.drop ia).Perm (la ++ lb)/\UpK key (o ++ lb.drop ib ++ la.drop ia):=by
 refine ⟨?_,?_⟩
 ·rw [List.append_assoc]
  refine (h.pm.append_right _).trans ?_
  conv=>rhs; rw [<- List.take_append_drop ia la,<- List.take_append_drop ib lb]
  rw [List.append_assoc,List.append_assoc]
  refine List.Perm.append_left _ ?_
  rw [<- List.append_assoc]
  refine List.perm_append_comm
 ·refine List.pairwise_append.mpr ⟨List.pairwise_append.mpr ⟨h.so,sb.sublist (List.drop_sublist _ _),h.bb⟩,sa.sublist (List.drop_sublist _ _),λp hp q hq=>?_⟩
  rcases List.mem_append.mp hp with z | z
  ·exact h.ba p z q hq
  ·exact ho p (List.mem_of_mem_drop z) q hq
theorem Zdr {l:List Keyed} (h:UpK key l) {i:Nat} {x:Keyed} (hx:l[i]?=some x):∀ q∈l.drop i,key x<=key q:=λq hq=>by
 obtain ⟨j,hj,rfl⟩:=List.mem_iff_getElem.mp hq
 rw [List.length_drop] at hj
 rw [List.getElem_drop]
 obtain ⟨a1,a2⟩:=Aa hx
 rcases Nat.eq_zero_or_pos j with z | z
 ·subst z; rw [<- a2]; exact Nat.le_refl _
 ·have:=List.pairwise_iff_getElem.mp h i (i + j) a1 (by lia) (by lia)
  rw [a2] at this
  exact this
theorem MIk.one {la lb o:List Keyed} {ia ib:Nat} (h:MIk key la lb o ia ib) (sa:UpK key la) {x:Keyed} (hx:la[ia]?=some x) (hs:∀ q∈lb.drop ib,key x<=key q):MIk key la lb (o ++ [x]) (ia + 1) ib:=by
 have e:(la.drop ia).take 1=[x]:=by
  obtain ⟨a1,a2⟩:=Aa hx
  rw [List.drop_eq_getElem_cons a1,a2]; rfl
 have:=h.run sa 1 (by rw [e]; intro p hp; rw [Af hp]; exact hs)
 rw [e] at this
 exact this
theorem Zcp {l:List Keyed} (h:UpK key l) {i j:Nat} {x y:Keyed} (hij:i<=j) (hx:l[i]?=some x) (hy:l[j]?=some y):key x<=key y:=by
 obtain ⟨b1,b2⟩:=Aa hy
 refine Zdr h hx y ?_
 rw [List.mem_iff_getElem]
 exact ⟨j - i,by rw [List.length_drop]; lia,by rw [List.getElem_drop]; simp only [show i + (j - i)=j by lia]; exact b2⟩
end
noncomputable def LoL (a b:Array Keyed) (out:Array Keyed) (ia ib:Nat):Array Keyed:=out ++ a.extract ia a.size ++ b.extract ib b.size
noncomputable def LoLa (a b:Array Keyed) (out:Array Keyed) (ia ib:Nat):Array Keyed:=out ++ b.extract ib b.size ++ a.extract ia a.size
theorem Zcg (a b:Array Keyed):U5 a b=(do
 rule "list.sort.merge-lo"
 let total:=a.size + b.size
 let mut out:Array Keyed:=#[<- elem' b 0]
 let mut ia:=0
 let mut ib:=1
 if ib == b.size then return LoL a b out ia ib
 if ia + 1 == a.size then return LoLa a b out ia ib
 let mut minGallop:=gallopOf (<- get)
 for _ in [0:total] do
  let mut acount:=0
  let mut bcount:=0
  for _ in [0:total] do
   let some bWins <- lt' (<- elem' b ib) (<- elem' a ia) | return LoL a b out ia ib
   if bWins then
    out:=out.push (<- elem' b ib); ib:=ib + 1; bcount:=bcount + 1; acount:=0
    if ib == b.size then return LoL a b out ia ib
    if bcount ≥ minGallop then break
   else
    out:=out.push (<- elem' a ia); ia:=ia + 1; acount:=acount + 1; bcount:=0
    if ia + 1 == a.size then return LoLa a b out ia ib
    if acount ≥ minGallop then break
  rule "list.sort.gallop"
  minGallop:=minGallop + 1
  for _ in [0:total] do
   if minGallop > 1 then minGallop:=minGallop - 1
   Z8 minGallop
   let some k <- Yx false (<- elem' b ib) a ia (a.size - ia) 0 | return LoL a b out ia ib
   acount:=k
   if k > 0 then
    out:=out ++ a.extract ia (ia + k); ia:=ia + k
    if ia + 1 == a.size then return LoLa a b out ia ib
    if ia == a.size then return LoL a b out ia ib
   out:=out.push (<- elem' b ib); ib:=ib + 1
   if ib == b.size then return LoL a b out ia ib
   let some k <- Yx true (<- elem' a ia) b ib (b.size - ib) 0 | return LoL a b out ia ib
   bcount:=k
   if k > 0 then
    out:=out ++ b.extract ib (ib + k); ib:=ib + k
    if ib == b.size then return LoL a b out ia ib
   out:=out.push (<- elem' a ia); ia:=ia + 1
   if ia + 1 == a.size then return LoLa a b out ia ib
   if acount < 7 && bcount < 7 then break
  minGallop:=minGallop + 1
  Z8 minGallop
 unsupported "internal:list.sort.merge-bound"):=rfl
section
variable {prog:Program} {w:World} {A:Around} {E:Value->Shared->Prop} {s:Shared} {κ:SortKind} {ok:Keyed->Prop} {key:Keyed->Nat}
theorem Z6 {arr:Array Keyed} {i:Nat} {x:Keyed} {st:SortSt} {Q:Keyed->SortSt->Prop} (h:arr[i]?=some x) (q:Q x st):wpS (model prog w) A E s (elem' arr i) Q st:=by
 rw [elem'_eq,h]
 exact wpS_pure q
theorem V5 {g:Nat} {st:SortSt} {Q:Unit->SortSt->Prop} (q:∀ st',Sg st st'->Q () st'):wpS (model prog w) A E s (Z8 g) Q st:=by
 show wpS _ _ _ _ (modify λst=>SortSt.mk' (kindOf st) (arrOf st) (pendingOf st) g (failedOf st)) _ _
 exact wpS_modify (q _ ⟨rfl,rfl,rfl,rfl⟩)
theorem galR (hc:CmpK prog w A E s κ ok key) {kx:Keyed} {arr:Array Keyed} {base n hint:Nat} {st:SortSt} (hk:kindOf st=κ) (hx:ok kx) (ho:∀ p∈arr.toList,ok p) (hn:base + n<=arr.size) (so:∀ i j x y,base<=i->i<=j->j < base + n->arr[i]?=some x->arr[j]?=some y->key x<=key y) (hh:hint < n) {Q:Option Nat->SortSt->Prop}
  (q:∀ r,r<=n->(∀ i x,i < r->arr[base + i]?=some x->key x<=key kx)->(∀ i x,r<=i->i < n->arr[base + i]?=some x->key kx < key x)->Q (some r) st):wpS (model prog w) A E s (Yx false kx arr base n hint) Q st:=by
 have at':∀ i,i < n->∃ x,arr[base + i]?=some x/\ok x:=λi hi=>⟨arr[base + i]'(by lia),Array.getElem?_eq_getElem _,ho _ (by simp)⟩
 refine Zgm (B:=λi=>!decide (key kx < ((arr[base + i]?).map key).getD 0)) (λi hi Q q=>?_) (λi j hij hj h=>?_) hh λr h1 h2 h3=>q r h1 (λi x hi hx=>?_) λi x h4 h5 hx=>?_
 ·obtain ⟨x,e,ox⟩:=at' i hi
  unfold Wj
  refine wpS_bind (Z6 e ?_)
  simp only [Bool.false_eq_true,if_false]
  refine wpS_bind (hc kx x hx ox st _ hk ?_)
  refine wpS_pure ?_
  rw [e] at q
  exact q
 ·obtain ⟨x,e,_⟩:=at' i (by lia)
  obtain ⟨y,e',_⟩:=at' j hj
  have:=so _ _ x y (Nat.le_add_right _ _) (by lia) (by lia) e e'
  rw [e'] at h
  rw [e]
  simp only [Option.map_some,Option.getD_some,Bool.not_eq_true',decide_eq_false_iff_not] at h ⊢
  lia
 ·have:=h2 i hi
  rw [hx] at this
  simp only [Option.map_some,Option.getD_some,Bool.not_eq_true',decide_eq_false_iff_not] at this
  lia
 ·have:=h3 i h4 h5
  rw [hx] at this
  simp only [Option.map_some,Option.getD_some,Bool.not_eq_false',decide_eq_true_iff] at this
  exact this
theorem galL (hc:CmpK prog w A E s κ ok key) {kx:Keyed} {arr:Array Keyed} {base n hint:Nat} {st:SortSt} (hk:kindOf st=κ) (hx:ok kx) (ho:∀ p∈arr.toList,ok p) (hn:base + n<=arr.size) (so:∀ i j x y,base<=i->i<=j->j < base + n->arr[i]?=some x->arr[j]?=some y->key x<=key y) (hh:hint < n) {Q:Option Nat->SortSt->Prop}
  (q:∀ r,r<=n->(∀ i x,i < r->arr[base + i]?=some x->key x < key kx)->(∀ i x,r<=i->i < n->arr[base + i]?=some x->key kx<=key x)->Q (some r) st):wpS (model prog w) A E s (Yx true kx arr base n hint) Q st:=by
 have at':∀ i,i < n->∃ x,arr[base + i]?=some x/\ok x:=λi hi=>⟨arr[base + i]'(by lia),Array.getElem?_eq_getElem _,ho _ (by simp)⟩
 refine Zgm (B:=λi=>decide (((arr[base + i]?).map key).getD 0 < key kx)) (λi hi Q q=>?_) (λi j hij hj h=>?_) hh λr h1 h2 h3=>q r h1 (λi x hi hx=>?_) λi x h4 h5 hx=>?_
 ·obtain ⟨x,e,ox⟩:=at' i hi
  unfold Wj
  refine wpS_bind (Z6 e ?_)
  simp only [if_true]
  refine hc x kx ox hx st _ hk ?_
  rw [e] at q
  exact q
 ·obtain ⟨x,e,_⟩:=at' i (by lia)
  obtain ⟨y,e',_⟩:=at' j hj
  have:=so _ _ x y (Nat.le_add_right _ _) (by lia) (by lia) e e'
  rw [e'] at h
  rw [e]
  simp only [Option.map_some,Option.getD_some,decide_eq_true_iff] at h ⊢
  lia
 ·have:=h2 i hi
  rw [hx] at this
  simp only [Option.map_some,Option.getD_some,decide_eq_true_iff] at this
  lia
 ·have:=h3 i h4 h5
  rw [hx] at this
  simp only [Option.map_some,Option.getD_some,decide_eq_false_iff_not] at this
  lia
end
section
variable {prog:Program} {w:World} {A:Around} {E:Value->Shared->Prop} {s:Shared} {κ:SortKind} {ok:Keyed->Prop} {key:Keyed->Nat}
theorem Zc5 (a b out:Array Keyed) (ia ib:Nat):(LoL a b out ia ib).toList=out.toList ++ a.toList.drop ia ++ b.toList.drop ib:=by unfold LoL; simp [List.take_of_length_le]
theorem Zh1 (a b out:Array Keyed) (ia ib:Nat):(LoLa a b out ia ib).toList=out.toList ++ b.toList.drop ib ++ a.toList.drop ia:=by unfold LoLa; simp [List.take_of_length_le]
noncomputable def FinM (key:Keyed->Nat) (a b r:Array Keyed):Prop:=r.toList.Perm (a.toList ++ b.toList)/\UpK key r.toList
structure MPk (ok:Keyed->Prop) (key:Keyed->Nat) (a b:Array Keyed):Prop where
 oa:∀ p∈a.toList,ok p
 ob:∀ p∈b.toList,ok p
 sa:UpK key a.toList
 sb:UpK key b.toList
 pa:0 < a.size
 pb:0 < b.size
 h1:∀ x,b[0]?=some x->∀ q∈a.toList,key x<=key q
 h2:∀ x,a[a.size - 1]?=some x->∀ p∈b.toList,key p<=key x
section
variable {a b:Array Keyed} {out:Array Keyed} {ia ib:Nat}
theorem MPk.done (h:MPk ok key a b) (m:MIk key a.toList b.toList out.toList ia ib) (e:b.size<=ib):FinM key a b (LoL a b out ia ib):=by
 unfold FinM
 rw [Zc5]
 exact m.fin h.sa (by simpa using e)
theorem MPk.done' (h:MPk ok key a b) (m:MIk key a.toList b.toList out.toList ia ib) (e:a.size<=ia):FinM key a b (LoL a b out ia ib):=by
 have g:=m.swap.fin h.sb (by simpa using e)
 have ed:a.toList.drop ia=[]:=List.drop_of_length_le (by simpa using e)
 unfold FinM
 rw [Zc5,ed,List.append_nil]
 rw [ed,List.append_nil] at g
 exact ⟨g.1.trans List.perm_append_comm,g.2⟩
theorem MPk.last (h:MPk ok key a b) (m:MIk key a.toList b.toList out.toList ia ib) (e:ia + 1=a.size):FinM key a b (LoLa a b out ia ib):=by
 unfold FinM
 rw [Zh1]
 refine m.last h.sa h.sb λp hp q hq=>?_
 have hl:ia < a.toList.length:=by simp; lia
 rw [List.drop_eq_getElem_cons hl,List.drop_of_length_le (by simp; lia)] at hq
 rw [Af hq]
 exact h.h2 _ (by rw [show a.size - 1=ia by lia,Array.getElem?_eq_getElem (by lia)]; simp) p hp
theorem Xr {xs:Array Keyed} {i:Nat} {x:Keyed} (h:xs[i]?=some x):xs.toList[i]?=some x:=by simpa using h
theorem MPk.pushA (h:MPk ok key a b) (m:MIk key a.toList b.toList out.toList ia ib) {x:Keyed} (hx:a[ia]?=some x) (hs:∀ q∈b.toList.drop ib,key x<=key q):MIk key a.toList b.toList (out.push x).toList (ia + 1) ib:=by
 rw [Array.toList_push]
 exact m.one h.sa (Xr hx) hs
theorem MPk.pushB (h:MPk ok key a b) (m:MIk key a.toList b.toList out.toList ia ib) {x:Keyed} (hx:b[ib]?=some x) (hs:∀ q∈a.toList.drop ia,key x<=key q):MIk key a.toList b.toList (out.push x).toList ia (ib + 1):=by
 rw [Array.toList_push]
 exact (m.swap.one h.sb (Xr hx) hs).swap
theorem Zbk (xs:Array Keyed) (i k:Nat):(xs.extract i (i + k)).toList=(xs.toList.drop i).take k:=by
 rw [Array.toList_extract,List.extract_eq_drop_take,Nat.add_sub_cancel_left]
theorem MPk.runA (h:MPk ok key a b) (m:MIk key a.toList b.toList out.toList ia ib) {k:Nat} {y:Keyed} (hy:b[ib]?=some y) (hs:∀ i x,i < k->a[ia + i]?=some x->key x<=key y):MIk key a.toList b.toList (out ++ a.extract ia (ia + k)).toList (ia + k) ib:=by
 rw [Array.toList_append,Zbk]
 refine m.run h.sa k λp hp q hq=>?_
 obtain ⟨i,hi,rfl⟩:=List.mem_iff_getElem.mp hp
 rw [Ai,List.length_drop] at hi
 have h1:=hs i (((a.toList.drop ia).take k)[i]'(by rw [Ai,List.length_drop]; lia)) (by lia) (by
  have e:((a.toList.drop ia).take k)[i]?=some _:=Ac (by rw [Ai,List.length_drop]; lia)
  rw [List.getElem?_take,if_pos (by lia),List.getElem?_drop] at e
  simpa using e)
 exact Nat.le_trans h1 (Zdr h.sb (Xr hy) q hq)
theorem MPk.runB (h:MPk ok key a b) (m:MIk key a.toList b.toList out.toList ia ib) {k:Nat} {y:Keyed} (hy:a[ia]?=some y) (hs:∀ i x,i < k->b[ib + i]?=some x->key x < key y):MIk key a.toList b.toList (out ++ b.extract ib (ib + k)).toList ia (ib + k):=by
 rw [Array.toList_append,Zbk]
 refine (m.swap.run h.sb k λp hp q hq=>?_).swap
 obtain ⟨i,hi,rfl⟩:=List.mem_iff_getElem.mp hp
 rw [Ai,List.length_drop] at hi
 have h1:=hs i (((b.toList.drop ib).take k)[i]'(by rw [Ai,List.length_drop]; lia)) (by lia) (by
  have e:((b.toList.drop ib).take k)[i]?=some _:=Ac (by rw [Ai,List.length_drop]; lia)
  rw [List.getElem?_take,if_pos (by lia),List.getElem?_drop] at e
  simpa using e)
 exact Nat.le_trans (Nat.le_of_lt h1) (Zdr h.sa (Xr hy) q hq)
theorem Km {xs:Array Keyed} {i:Nat} {y:Keyed} (hs:∀ j x,i<=j->xs[j]?=some x->key y<=key x):∀ q∈xs.toList.drop i,key y<=key q:=λq hq=>by
 obtain ⟨j,hj,rfl⟩:=List.mem_iff_getElem.mp hq
 rw [List.length_drop] at hj
 refine hs (i + j) _ (Nat.le_add_right _ _) ?_
 have e:(xs.toList.drop i)[j]?=some _:=Ac (by rw [List.length_drop]; exact hj)
 rw [List.getElem?_drop] at e
 simpa using e
theorem Wn {xs:Array Keyed} (h:UpK key xs.toList) {i j:Nat} {x y:Keyed} (hij:i<=j) (hx:xs[i]?=some x) (hy:xs[j]?=some y):key x<=key y:=Zcp h hij (Xr hx) (Xr hy)
end
noncomputable abbrev LoSt:=Option (Array Keyed) × Array Keyed × Nat × Nat × Nat × Nat × Nat
noncomputable def loT2 (a b out:Array Keyed) (ia ib g ac k1:Nat):StateT SortSt Sem (ForInStep LoSt):=do
 let y <- elem' a ia
 if (ia + 1 + 1 == a.size)=true then pure (ForInStep.done (some (LoLa a b (out.push y) (ia + 1) ib),out.push y,ia + 1,ib,g,ac,k1))
 else if (decide (ac < 7) && decide (k1 < 7))=true then pure (ForInStep.done (none,out.push y,ia + 1,ib,g,ac,k1))
 else pure (ForInStep.yield (none,out.push y,ia + 1,ib,g,ac,k1))
noncomputable def loT1 (a b out:Array Keyed) (ia ib g ac bc:Nat):StateT SortSt Sem (ForInStep LoSt):=do
 let y <- elem' b ib
 if (ib + 1 == b.size)=true then pure (ForInStep.done (some (LoL a b (out.push y) ia (ib + 1)),out.push y,ia,ib + 1,g,ac,bc))
 else do
  let z <- elem' a ia
  let r <- Yx true z b (ib + 1) (b.size - (ib + 1)) 0
  match r with
  | some k1 =>
   if k1 > 0 then
    if (ib + 1 + k1 == b.size)=true then pure (ForInStep.done (some (LoL a b (out.push y ++ b.extract (ib + 1) (ib + 1 + k1)) ia (ib + 1 + k1)),out.push y ++ b.extract (ib + 1) (ib + 1 + k1),ia,ib + 1 + k1,g,ac,k1))
    else loT2 a b (out.push y ++ b.extract (ib + 1) (ib + 1 + k1)) ia (ib + 1 + k1) g ac k1
   else loT2 a b (out.push y) ia (ib + 1) g ac k1
  | _=>pure (ForInStep.done (some (LoL a b (out.push y) ia (ib + 1)),out.push y,ia,ib + 1,g,ac,bc))
noncomputable def loT0 (a b out:Array Keyed) (ia ib g ac bc:Nat):StateT SortSt Sem (ForInStep LoSt):=do
 let y <- elem' b ib
 let r <- Yx false y a ia (a.size - ia) 0
 match r with
 | some k =>
  if k > 0 then
   if (ia + k + 1 == a.size)=true then pure (ForInStep.done (some (LoLa a b (out ++ a.extract ia (ia + k)) (ia + k) ib),out ++ a.extract ia (ia + k),ia + k,ib,g,k,bc))
   else if (ia + k == a.size)=true then pure (ForInStep.done (some (LoL a b (out ++ a.extract ia (ia + k)) (ia + k) ib),out ++ a.extract ia (ia + k),ia + k,ib,g,k,bc))
   else loT1 a b (out ++ a.extract ia (ia + k)) (ia + k) ib g k bc
  else loT1 a b out ia ib g k bc
 | _=>pure (ForInStep.done (some (LoL a b out ia ib),out,ia,ib,g,ac,bc))
noncomputable def LoR (key:Keyed->Nat) (a b:Array Keyed) (S:Nat) (r:ForInStep LoSt):Prop :=
 (∃ R c,r=.done (some R,c)/\FinM key a b R)\/∃ out ia ib g ac bc,(r=.done (none,out,ia,ib,g,ac,bc)\/r=.yield (none,out,ia,ib,g,ac,bc))/\MIk key a.toList b.toList out.toList ia ib/\ia + 1 < a.size/\ib < b.size/\S<=ia + ib
theorem Yz {xs:Array Keyed} {i:Nat} (hi:i < xs.size):∃ x,xs[i]?=some x/\x∈xs.toList:=⟨xs[i],Array.getElem?_eq_getElem hi,by simp⟩
theorem Zc7 {a b:Array Keyed} (h:MPk ok key a b) {out:Array Keyed} {ia ib g ac k1 S:Nat} (mi:MIk key a.toList b.toList out.toList ia ib) (z1:ia + 1 < a.size) (z2:ib < b.size) (z3:S<=ia + ib) {y:Keyed} (hy:a[ia]?=some y) (hs:∀ q∈b.toList.drop ib,key y<=key q) {st:SortSt}:wpS (model prog w) A E s (loT2 a b out ia ib g ac k1) (λr st'=>st'=st/\LoR key a b S r) st:=by
 unfold loT2
 refine wpS_bind (Z6 hy ?_)
 have m2:=h.pushA mi hy hs
 by_cases c:(ia + 1 + 1 == a.size)=true
 ·rw [if_pos c]
  exact wpS_pure ⟨rfl,.inl ⟨_,_,rfl,h.last m2 (by simpa using c)⟩⟩
 ·rw [if_neg c]
  have c:ia + 1 + 1≠a.size:=by simpa using c
  split
  ·exact wpS_pure ⟨rfl,.inr ⟨_,_,_,_,_,_,.inl rfl,m2,by lia,z2,by lia⟩⟩
  ·exact wpS_pure ⟨rfl,.inr ⟨_,_,_,_,_,_,.inr rfl,m2,by lia,z2,by lia⟩⟩
theorem Zc8 (hc:CmpK prog w A E s κ ok key) {a b:Array Keyed} (h:MPk ok key a b) {out:Array Keyed} {ia ib g ac bc S:Nat} (mi:MIk key a.toList b.toList out.toList ia ib) (z1:ia + 1 < a.size) (z2:ib < b.size) (z3:S<=ia + ib) {y:Keyed} (hy:b[ib]?=some y) (hs:∀ q∈a.toList.drop ia,key y<=key q) {st:SortSt} (hk:kindOf st=κ):wpS (model prog w) A E s (loT1 a b out ia ib g ac bc) (λr st'=>st'=st/\LoR key a b (S + 1) r) st:=by
 unfold loT1
 refine wpS_bind (Z6 hy ?_)
 have m2:=h.pushB mi hy hs
 by_cases c:(ib + 1 == b.size)=true
 ·rw [if_pos c]
  have c:ib + 1=b.size:=by simpa using c
  exact wpS_pure ⟨rfl,.inl ⟨_,_,rfl,h.done m2 (by lia)⟩⟩
 rw [if_neg c]
 have c:ib + 1≠b.size:=by simpa using c
 obtain ⟨z,ez,mz⟩:=Yz (show ia < a.size by lia)
 refine wpS_bind (Z6 ez ?_)
 refine wpS_bind (galL hc hk (h.oa z mz) h.ob (by lia) (λi j x y _ hij _ ex ey=>Wn h.sb hij ex ey) (by lia) λk1 k2 k3 k4=>?_)
 dsimp only
 have ab:∀ q∈b.toList.drop (ib + 1 + k1),key z<=key q:=Km λj x hj ex=>by
  obtain ⟨hx,_⟩:=Array.getElem?_eq_some_iff.mp ex
  exact k4 (j - (ib + 1)) x (by lia) (by lia) (by rw [show ib + 1 + (j - (ib + 1))=j by lia]; exact ex)
 by_cases ck:k1 > 0
 ·rw [if_pos ck]
  have m3:=h.runB m2 ez k3
  by_cases c2:(ib + 1 + k1 == b.size)=true
  ·rw [if_pos c2]
   have c2:ib + 1 + k1=b.size:=by simpa using c2
   exact wpS_pure ⟨rfl,.inl ⟨_,_,rfl,h.done m3 (by lia)⟩⟩
  ·rw [if_neg c2]
   have c2:ib + 1 + k1≠b.size:=by simpa using c2
   exact Zc7 h m3 z1 (by lia) (by lia) ez ab
 ·rw [if_neg ck]
  have:k1=0:=by lia
  subst this
  exact Zc7 h m2 z1 (by lia) (by lia) ez ab
theorem Zj5 (hc:CmpK prog w A E s κ ok key) {a b:Array Keyed} (h:MPk ok key a b) {out:Array Keyed} {ia ib g ac bc S:Nat} (mi:MIk key a.toList b.toList out.toList ia ib) (z1:ia + 1 < a.size) (z2:ib < b.size) (z3:S<=ia + ib) {st:SortSt} (hk:kindOf st=κ):wpS (model prog w) A E s (loT0 a b out ia ib g ac bc) (λr st'=>st'=st/\LoR key a b (S + 1) r) st:=by
 unfold loT0
 obtain ⟨y,ey,my⟩:=Yz z2
 refine wpS_bind (Z6 ey ?_)
 refine wpS_bind (galR hc hk (h.ob y my) h.oa (by lia) (λi j x y _ hij _ ex ey=>Wn h.sa hij ex ey) (by lia) λk k2 k3 k4=>?_)
 dsimp only
 have ab:∀ q∈a.toList.drop (ia + k),key y<=key q:=Km λj x hj ex=>by
  obtain ⟨hx,_⟩:=Array.getElem?_eq_some_iff.mp ex
  exact Nat.le_of_lt (k4 (j - ia) x (by lia) (by lia) (by rw [show ia + (j - ia)=j by lia]; exact ex))
 by_cases ck:k > 0
 ·rw [if_pos ck]
  have m2:=h.runA mi ey k3
  by_cases c:(ia + k + 1 == a.size)=true
  ·rw [if_pos c]
   exact wpS_pure ⟨rfl,.inl ⟨_,_,rfl,h.last m2 (by simpa using c)⟩⟩
  rw [if_neg c]
  have c:ia + k + 1≠a.size:=by simpa using c
  by_cases c2:(ia + k == a.size)=true
  ·rw [if_pos c2]
   have c2:ia + k=a.size:=by simpa using c2
   exact wpS_pure ⟨rfl,.inl ⟨_,_,rfl,h.done' m2 (by lia)⟩⟩
  ·rw [if_neg c2]
   have c2:ia + k≠a.size:=by simpa using c2
   exact Zc8 hc h m2 (by lia) z2 (by lia) ey ab hk
 ·rw [if_neg ck]
  have:k=0:=by lia
  subst this
  exact Zc8 hc h mi z1 z2 z3 ey ab hk
theorem Zee (hc:CmpK prog w A E s κ ok key) {a b:Array Keyed} (h:MPk ok key a b) {st:SortSt} (hk:kindOf st=κ) {Q:Array Keyed->SortSt->Prop} (q:∀ r st',Sg st st'->FinM key a b r->Q r st'):wpS (model prog w) A E s (U5 a b) Q st:=by
 have at':∀ {xs:Array Keyed} {i:Nat},i < xs.size->∃ x,xs[i]?=some x/\x∈xs.toList:=λ{xs i} hi=>⟨xs[i],Array.getElem?_eq_getElem hi,by simp⟩
 have pa:=h.pa
 have pb:=h.pb
 rw [Zcg]
 refine wpS_bind (wpS_lift (wpAny_rule ⟨rfl,?_⟩))
 try dsimp only
 obtain ⟨b0,e0,m0⟩:=at' pb
 refine wpS_bind (Z6 e0 ?_)
 try dsimp only
 have mi0:MIk key a.toList b.toList #[b0].toList 0 1:=by
  have z:MIk key a.toList b.toList (#[]:Array Keyed).toList 0 0:=⟨by simp,List.Pairwise.nil,(λp hp=>by simp at hp),(λp hp=>by simp at hp)⟩
  exact h.pushB z e0 (by rw [List.drop_zero]; exact h.h1 b0 e0)
 by_cases c1:(1 == b.size)=true
 ·rw [if_pos c1]
  exact wpS_pure (q _ _ (Sg.refl _) (h.done mi0 (by simp at c1; lia)))
 rw [if_neg c1]
 by_cases c2:(0 + 1 == a.size)=true
 ·rw [if_pos c2]
  exact wpS_pure (q _ _ (Sg.refl _) (h.last mi0 (by simp at c2; lia)))
 rw [if_neg c2]
 have hb1:1 < b.size:=by simp at c1; lia
 have ha1:0 + 1 < a.size:=by simp at c2; lia
 refine wpS_bind (wpS_get ?_)
 try dsimp only
 refine wpS_bind (wpS_mono (wpS_forRange (I:=λx c st'=>Sg st st'/\∃ out ia ib g,c=(none,out,ia,ib,g)/\MIk key a.toList b.toList out.toList ia ib/\ia + 1 < a.size/\ib < b.size/\1 + x<=ia + ib) (Q:=λc st'=>Sg st st'/\∃ r,c.1=some r/\FinM key a b r) ?step ?fin ?init) ?post)
 case init=>exact ⟨Sg.refl _,#[b0],0,1,_,rfl,mi0,ha1,hb1,by lia⟩
 case fin =>
  rintro c st' ⟨_,out,ia,ib,g,_,_,z1,z2,z3⟩
  lia
 case post =>
  rintro ⟨r',rest⟩ st' ⟨g,r,e,f⟩
  have e:r'=some r:=e
  subst e
  exact wpS_pure (q r st' g f)
 case step =>
  rintro x c st' _ hx ⟨g0,out,ia,ib,g,rfl,mi,z1,z2,z3⟩
  dsimp only
  have hk':kindOf st'=κ:=g0.kind.trans hk
  refine wpS_bind (wpS_mono (wpS_forRange (I:=λy c st2=>st2=st'/\∃ out2 ia2 ib2 ac bc,c=(none,out2,ia2,ib2,ac,bc)/\MIk key a.toList b.toList out2.toList ia2 ib2/\ia2 + 1 < a.size/\ib2 < b.size/\ia + ib + y<=ia2 + ib2)
   (Q:=λc st2=>st2=st'/\((∃ r c',c=(some r,c')/\FinM key a b r)\/∃ out2 ia2 ib2 ac bc,c=(none,out2,ia2,ib2,ac,bc)/\MIk key a.toList b.toList out2.toList ia2 ib2/\ia2 + 1 < a.size/\ib2 < b.size/\ia + ib + 1<=ia2 + ib2)) ?istep ?ifin ?iinit) ?ipost)
  case iinit=>exact ⟨rfl,out,ia,ib,0,0,rfl,mi,z1,z2,by lia⟩
  case ifin =>
   rintro c st2 ⟨rfl,out2,ia2,ib2,ac,bc,rfl,m2,y1,y2,y3⟩
   lia
  case istep =>
   rintro y c st2 _ hy ⟨rfl,out2,ia2,ib2,ac,bc,rfl,m2,y1,y2,y3⟩
   dsimp only
   obtain ⟨vb,eb,mb⟩:=at' y2
   obtain ⟨va,ea,ma⟩:=at' (show ia2 < a.size by lia)
   refine wpS_bind (Z6 eb ?_)
   refine wpS_bind (Z6 ea ?_)
   refine wpS_bind (hc vb va (h.ob _ mb) (h.oa _ ma) _ _ hk' ?_)
   dsimp only
   by_cases lt:key vb < key va
   ·rw [decide_eq_true lt,if_pos rfl]
    refine wpS_bind (Z6 eb ?_)
    have m3:=h.pushB m2 eb (Km λj x hj ex=>Nat.le_trans (Nat.le_of_lt lt) (Wn h.sa hj ea ex))
    by_cases c:(ib2 + 1 == b.size)=true
    ·rw [if_pos c]
     have c:ib2 + 1=b.size:=by simpa using c
     exact wpS_pure ⟨rfl,.inl ⟨_,_,rfl,h.done m3 (by lia)⟩⟩
    ·rw [if_neg c]
     have c:ib2 + 1≠b.size:=by simpa using c
     split
     ·exact wpS_pure ⟨rfl,.inr ⟨_,_,_,_,_,rfl,m3,y1,by lia,by lia⟩⟩
     ·exact wpS_pure ⟨rfl,_,_,_,_,_,rfl,m3,y1,by lia,by lia⟩
   ·rw [decide_eq_false lt,if_neg (by decide)]
    refine wpS_bind (Z6 ea ?_)
    have m3:=h.pushA m2 ea (Km λj x hj ex=>Nat.le_trans (Nat.le_of_not_lt lt) (Wn h.sb hj eb ex))
    by_cases c:(ia2 + 1 + 1 == a.size)=true
    ·rw [if_pos c]
     exact wpS_pure ⟨rfl,.inl ⟨_,_,rfl,h.last m3 (by simpa using c)⟩⟩
    ·rw [if_neg c]
     have c:ia2 + 1 + 1≠a.size:=by simpa using c
     split
     ·exact wpS_pure ⟨rfl,.inr ⟨_,_,_,_,_,rfl,m3,by lia,y2,by lia⟩⟩
     ·exact wpS_pure ⟨rfl,_,_,_,_,_,rfl,m3,by lia,y2,by lia⟩
  case ipost =>
   rintro c st2 ⟨rfl,⟨r,c',rfl,f⟩ | ⟨out2,ia2,ib2,ac,bc,rfl,m2,y1,y2,y3⟩⟩
   ·exact wpS_pure ⟨g0,r,rfl,f⟩
   dsimp only
   refine wpS_bind (wpS_lift (wpAny_rule ⟨rfl,?_⟩))
   refine wpS_bind (wpS_mono (wpS_forRange (I:=λy c st3=>Sg st st3/\∃ out3 ia3 ib3 g3 ac bc,c=(none,out3,ia3,ib3,g3,ac,bc)/\MIk key a.toList b.toList out3.toList ia3 ib3/\ia3 + 1 < a.size/\ib3 < b.size/\ia2 + ib2 + y<=ia3 + ib3)
    (Q:=λc st3=>Sg st st3/\((∃ r c',c=(some r,c')/\FinM key a b r)\/∃ out3 ia3 ib3 g3 ac bc,c=(none,out3,ia3,ib3,g3,ac,bc)/\MIk key a.toList b.toList out3.toList ia3 ib3/\ia3 + 1 < a.size/\ib3 < b.size/\ia2 + ib2<=ia3 + ib3)) ?jstep ?jfin ?jinit) ?jpost)
   case jinit=>exact ⟨g0,_,_,_,_,_,_,rfl,m2,y1,y2,by lia⟩
   case jfin =>
    rintro c st3 ⟨_,out3,ia3,ib3,g3,ac3,bc3,rfl,m3,x1,x2,x3⟩
    lia
   case jstep =>
    rintro y c st3 _ hy ⟨g1,out3,ia3,ib3,g3,ac3,bc3,rfl,m3,x1,x2,x3⟩
    have go:∀ g',wpS (model prog w) A E s (do Z8 g'; loT0 a b out3 ia3 ib3 g' ac3 bc3) (λr st4=>Sg st st4/\LoR key a b (ia3 + ib3 + 1) r) st3:=λg'=>by
     refine wpS_bind (V5 λst4 g4=>?_)
     refine wpS_mono (Zj5 hc h m3 x1 x2 (Nat.le_refl _) (g4.kind.trans (g1.kind.trans hk))) λr st5 zz9=>?_
     obtain ⟨e5,f5⟩:=zz9
     subst e5
     exact ⟨g1.trans g4,f5⟩
    show wpS _ _ _ _ (if g3 > 1 then (do Z8 (g3 - 1); loT0 a b out3 ia3 ib3 (g3 - 1) ac3 bc3) else do Z8 g3; loT0 a b out3 ia3 ib3 g3 ac3 bc3) _ st3
    split
    all_goals
     refine wpS_mono (go _) ?_
     rintro r st4 ⟨gs,⟨R,c,rfl,f⟩ | ⟨o4,i4,j4,g4,a4,b4,rfl | rfl,m4,w1,w2,w3⟩⟩
     ·exact ⟨gs,.inl ⟨R,c,rfl,f⟩⟩
     ·exact ⟨gs,.inr ⟨_,_,_,_,_,_,rfl,m4,w1,w2,by lia⟩⟩
     ·exact ⟨gs,_,_,_,_,_,_,rfl,m4,w1,w2,by lia⟩
   case jpost =>
    rintro c st3 ⟨g1,⟨r,c',rfl,f⟩ | ⟨out3,ia3,ib3,g3,ac3,bc3,rfl,m3,x1,x2,x3⟩⟩
    ·exact wpS_pure ⟨g1,r,rfl,f⟩
    dsimp only
    refine wpS_bind (V5 λst4 g4=>?_)
    exact wpS_pure ⟨g1.trans g4,_,_,_,_,rfl,m3,x1,x2,by lia⟩
end
section
variable {key:Keyed->Nat}
structure MHk (key:Keyed->Nat) (la lb o:List Keyed) (na nb:Nat):Prop where
 pm:o.Perm (la.drop na ++ lb.drop nb)
 so:o.Pairwise λx y=>key y<=key x
 ba:∀ p∈o,∀ q∈la.take na,key q<=key p
 bb:∀ p∈o,∀ q∈lb.take nb,key q<=key p
theorem MHk.swap {la lb o:List Keyed} {na nb:Nat} (h:MHk key la lb o na nb):MHk key lb la o nb na:=⟨h.pm.trans List.perm_append_comm,h.so,h.bb,h.ba⟩
theorem MHk.run {la lb o:List Keyed} {na nb:Nat} (h:MHk key la lb o na nb) (sa:UpK key la) (m:Nat) (hm:m<=na) (hs:∀ p∈(la.take na).drop m,∀ q∈lb.take nb,key q<=key p):MHk key la lb (o ++ ((la.take na).drop m).reverse) m nb:=by
 have st:UpK key (la.take na):=sa.sublist (List.take_sublist _ _)
 have e:(la.take na).take m=la.take m:=by rw [List.take_take,Nat.min_eq_left hm]
 have st2:=st
 unfold UpK at st2
 rw [<- List.take_append_drop m (la.take na),List.pairwise_append,e] at st2
 refine ⟨?_,?_,λp hp q hq=>?_,λp hp q hq=>?_⟩
 ·have ed:la.drop m=(la.take na).drop m ++ la.drop na:=by
   rw [List.drop_take,show la.drop na=(la.drop m).drop (na - m) by rw [List.drop_drop]; congr 1; lia,List.take_append_drop]
  rw [ed,List.append_assoc]
  refine (List.Perm.append h.pm (List.reverse_perm _)).trans ?_
  refine List.perm_append_comm.trans ?_
  exact List.Perm.refl _
 ·refine List.pairwise_append.mpr ⟨h.so,List.pairwise_reverse.mpr st2.2.1,λp hp q hq=>h.ba p hp q (List.mem_of_mem_drop (List.mem_reverse.mp hq))⟩
 ·rcases List.mem_append.mp hp with z | z
  ·exact h.ba p z q (by rw [<- e] at hq; exact List.mem_of_mem_take hq)
  ·exact st2.2.2 q hq p (List.mem_reverse.mp z)
 ·rcases List.mem_append.mp hp with z | z
  ·exact h.bb p z q hq
  ·exact hs p (List.mem_reverse.mp z) q hq
theorem MHk.fin {la lb o:List Keyed} {na nb:Nat} (h:MHk key la lb o na nb) (sa:UpK key la) (hb:nb=0):(la.take na ++ lb.take nb ++ o.reverse).Perm (la ++ lb)/\UpK key (la.take na ++ lb.take nb ++ o.reverse):=by
 subst hb
 have pm:=h.pm
 rw [List.drop_zero] at pm
 rw [List.take_zero,List.append_nil]
 refine ⟨?_,List.pairwise_append.mpr ⟨sa.sublist (List.take_sublist _ _),List.pairwise_reverse.mpr h.so,λp hp q hq=>h.ba q (List.mem_reverse.mp hq) p hp⟩⟩
 refine (List.Perm.append_left _ ((List.reverse_perm _).trans pm)).trans ?_
 rw [<- List.append_assoc,List.take_append_drop]
theorem MHk.first {la lb o:List Keyed} {na nb:Nat} (h:MHk key la lb o na nb) (sa:UpK key la) (sb:UpK key lb) (ho:∀ p∈lb.take nb,∀ q∈la,key p<=key q):(lb.take nb ++ la.take na ++ o.reverse).Perm (la ++ lb)/\UpK key (lb.take nb ++ la.take na ++ o.reverse):=by
 refine ⟨?_,?_⟩
 ·refine (List.Perm.append_left _ ((List.reverse_perm _).trans h.pm)).trans ?_
  rw [List.append_assoc,<- List.append_assoc (la.take na),List.take_append_drop]
  refine List.perm_append_comm.trans ?_
  rw [List.append_assoc]
  refine List.Perm.append_left _ (List.perm_append_comm.trans ?_)
  rw [List.take_append_drop]
 ·refine List.pairwise_append.mpr ⟨List.pairwise_append.mpr ⟨sb.sublist (List.take_sublist _ _),sa.sublist (List.take_sublist _ _),λp hp q hq=>ho p hp q (List.mem_of_mem_take hq)⟩,List.pairwise_reverse.mpr h.so,λp hp q hq=>?_⟩
  rcases List.mem_append.mp hp with z | z
  ·exact h.bb q (List.mem_reverse.mp hq) p z
  ·exact h.ba q (List.mem_reverse.mp hq) p z
theorem MHk.one {la lb o:List Keyed} {na nb:Nat} (h:MHk key la lb o (na + 1) nb) (sa:UpK key la) {x:Keyed} (hx:la[na]?=some x) (hs:∀ q∈lb.take nb,key q<=key x):MHk key la lb (o ++ [x]) na nb:=by
 have e:(la.take (na + 1)).drop na=[x]:=by
  obtain ⟨a1,a2⟩:=Aa hx
  rw [List.drop_take,Nat.add_sub_cancel_left,List.drop_eq_getElem_cons a1,a2]; rfl
 have:=h.run sa na (Nat.le_succ _) (by rw [e]; intro p hp; rw [Af hp]; exact hs)
 rw [e] at this
 exact this
end
noncomputable def HiL (a b:Array Keyed) (out:Array Keyed) (na nb:Nat):Array Keyed:=a.extract 0 na ++ b.extract 0 nb ++ out.reverse
noncomputable def HiLb (a b:Array Keyed) (out:Array Keyed) (na nb:Nat):Array Keyed:=b.extract 0 nb ++ a.extract 0 na ++ out.reverse
theorem Zch (a b:Array Keyed):U6 a b=(do
 rule "list.sort.merge-hi"
 let total:=a.size + b.size
 let mut na:=a.size - 1
 let mut nb:=b.size
 let mut out:Array Keyed:=#[<- elem' a na]
 if na == 0 then return HiL a b out na nb
 if nb == 1 then return HiLb a b out na nb
 let mut minGallop:=gallopOf (<- get)
 for _ in [0:total] do
  let mut acount:=0
  let mut bcount:=0
  for _ in [0:total] do
   let some aWins <- lt' (<- elem' b (nb - 1)) (<- elem' a (na - 1)) | return HiL a b out na nb
   if aWins then
    na:=na - 1; out:=out.push (<- elem' a na); acount:=acount + 1; bcount:=0
    if na == 0 then return HiL a b out na nb
    if acount ≥ minGallop then break
   else
    nb:=nb - 1; out:=out.push (<- elem' b nb); bcount:=bcount + 1; acount:=0
    if nb == 1 then return HiLb a b out na nb
    if bcount ≥ minGallop then break
  rule "list.sort.gallop"
  minGallop:=minGallop + 1
  for _ in [0:total] do
   if minGallop > 1 then minGallop:=minGallop - 1
   Z8 minGallop
   let some at_ <- Yx false (<- elem' b (nb - 1)) a 0 na (na - 1) | return HiL a b out na nb
   let k:=na - at_
   acount:=k
   if k > 0 then
    out:=out ++ (a.extract at_ na).reverse; na:=at_
    if na == 0 then return HiL a b out na nb
   nb:=nb - 1; out:=out.push (<- elem' b nb)
   if nb == 1 then return HiLb a b out na nb
   let some at_ <- Yx true (<- elem' a (na - 1)) b 0 nb (nb - 1) | return HiL a b out na nb
   let k:=nb - at_
   bcount:=k
   if k > 0 then
    out:=out ++ (b.extract at_ nb).reverse; nb:=at_
    if nb == 1 then return HiLb a b out na nb
    if nb == 0 then return HiL a b out na nb
   na:=na - 1; out:=out.push (<- elem' a na)
   if na == 0 then return HiL a b out na nb
   if acount < 7 && bcount < 7 then break
  minGallop:=minGallop + 1
  Z8 minGallop
 unsupported "internal:list.sort.merge-bound"):=rfl
section
variable {prog:Program} {w:World} {A:Around} {E:Value->Shared->Prop} {s:Shared} {κ:SortKind} {ok:Keyed->Prop} {key:Keyed->Nat}
theorem Zdc (a b out:Array Keyed) (na nb:Nat):(HiL a b out na nb).toList=a.toList.take na ++ b.toList.take nb ++ out.toList.reverse:=by unfold HiL; simp
theorem Zh8 (a b out:Array Keyed) (na nb:Nat):(HiLb a b out na nb).toList=b.toList.take nb ++ a.toList.take na ++ out.toList.reverse:=by unfold HiLb; simp
section
variable {a b:Array Keyed} {out:Array Keyed} {na nb:Nat}
theorem MPk.hdone (h:MPk ok key a b) (m:MHk key a.toList b.toList out.toList na nb) (e:nb=0):FinM key a b (HiL a b out na nb):=by
 unfold FinM
 rw [Zdc]
 exact m.fin h.sa e
theorem MPk.hdone' (h:MPk ok key a b) (m:MHk key a.toList b.toList out.toList na nb) (e:na=0):FinM key a b (HiL a b out na nb):=by
 have g:=m.swap.fin h.sb e
 unfold FinM
 rw [Zdc]
 subst e
 rw [List.take_zero,List.nil_append]
 rw [List.take_zero,List.append_nil] at g
 exact ⟨g.1.trans List.perm_append_comm,g.2⟩
theorem MPk.hfirst (h:MPk ok key a b) (m:MHk key a.toList b.toList out.toList na nb) (e:nb=1):FinM key a b (HiLb a b out na nb):=by
 subst e
 unfold FinM
 rw [Zh8]
 refine m.first h.sa h.sb λp hp q hq=>?_
 obtain ⟨x,ex,mx⟩:=Yz h.pb
 have e1:b.toList.take 1=[x]:=by
  have:=Xr ex
  cases hb:b.toList with
  | nil=>rw [hb] at this; cases this
  | cons y l=>rw [hb] at this; cases this; rfl
 rw [e1] at hp
 rw [Af hp]
 exact h.h1 x ex q hq
theorem MPk.hpushA (h:MPk ok key a b) (m:MHk key a.toList b.toList out.toList (na + 1) nb) {x:Keyed} (hx:a[na]?=some x) (hs:∀ q∈b.toList.take nb,key q<=key x):MHk key a.toList b.toList (out.push x).toList na nb:=by
 rw [Array.toList_push]
 exact m.one h.sa (Xr hx) hs
theorem MPk.hpushB (h:MPk ok key a b) (m:MHk key a.toList b.toList out.toList na (nb + 1)) {x:Keyed} (hx:b[nb]?=some x) (hs:∀ q∈a.toList.take na,key q<=key x):MHk key a.toList b.toList (out.push x).toList na nb:=by
 rw [Array.toList_push]
 exact (m.swap.one h.sb (Xr hx) hs).swap
theorem Qz {xs:Array Keyed} {i:Nat} {y:Keyed} (hs:∀ j x,j < i->xs[j]?=some x->key x<=key y):∀ q∈xs.toList.take i,key q<=key y:=λq hq=>by
 obtain ⟨j,hj,rfl⟩:=List.mem_iff_getElem.mp hq
 have e:(xs.toList.take i)[j]?=some _:=Ac hj
 rw [Ai] at hj
 rw [List.getElem?_take,if_pos (by lia)] at e
 exact hs j _ (by lia) (by simpa using e)
theorem Zan (xs:Array Keyed) (m n:Nat):((xs.extract m n).reverse).toList=((xs.toList.take n).drop m).reverse:=by
 rw [Array.toList_reverse,Array.toList_extract,List.extract_eq_drop_take,List.drop_take]
theorem MPk.hrunA (h:MPk ok key a b) (m:MHk key a.toList b.toList out.toList na nb) {k:Nat} (hk:k<=na) (hs:∀ i x,k<=i->i < na->a[i]?=some x->∀ q∈b.toList.take nb,key q<=key x):MHk key a.toList b.toList (out ++ (a.extract k na).reverse).toList k nb:=by
 rw [Array.toList_append,Zan]
 refine m.run h.sa k hk λp hp=>?_
 obtain ⟨i,hi,rfl⟩:=List.mem_iff_getElem.mp hp
 have e:((a.toList.take na).drop k)[i]?=some _:=Ac hi
 rw [List.length_drop,Ai] at hi
 rw [List.getElem?_drop,List.getElem?_take,if_pos (by lia)] at e
 exact hs (k + i) _ (by lia) (by lia) (by simpa using e)
theorem MPk.hrunB (h:MPk ok key a b) (m:MHk key a.toList b.toList out.toList na nb) {k:Nat} (hk:k<=nb) (hs:∀ i x,k<=i->i < nb->b[i]?=some x->∀ q∈a.toList.take na,key q<=key x):MHk key a.toList b.toList (out ++ (b.extract k nb).reverse).toList na k:=by
 rw [Array.toList_append,Zan]
 refine (m.swap.run h.sb k hk λp hp=>?_).swap
 obtain ⟨i,hi,rfl⟩:=List.mem_iff_getElem.mp hp
 have e:((b.toList.take nb).drop k)[i]?=some _:=Ac hi
 rw [List.length_drop,Ai] at hi
 rw [List.getElem?_drop,List.getElem?_take,if_pos (by lia)] at e
 exact hs (k + i) _ (by lia) (by lia) (by simpa using e)
end
noncomputable abbrev HiSt:=Option (Array Keyed) × Nat × Nat × Array Keyed × Nat × Nat × Nat
noncomputable def hiT2 (a b out:Array Keyed) (na nb g ac k1:Nat):StateT SortSt Sem (ForInStep HiSt):=do
 let y <- elem' a (na - 1)
 if (na - 1 == 0)=true then pure (ForInStep.done (some (HiL a b (out.push y) (na - 1) nb),na - 1,nb,out.push y,g,ac,k1))
 else if (decide (ac < 7) && decide (k1 < 7))=true then pure (ForInStep.done (none,na - 1,nb,out.push y,g,ac,k1))
 else pure (ForInStep.yield (none,na - 1,nb,out.push y,g,ac,k1))
noncomputable def hiT1 (a b out:Array Keyed) (na nb g ac bc:Nat):StateT SortSt Sem (ForInStep HiSt):=do
 let y <- elem' b (nb - 1)
 if (nb - 1 == 1)=true then pure (ForInStep.done (some (HiLb a b (out.push y) na (nb - 1)),na,nb - 1,out.push y,g,ac,bc))
 else do
  let z <- elem' a (na - 1)
  let r <- Yx true z b 0 (nb - 1) (nb - 1 - 1)
  match r with
  | some at_ =>
   if nb - 1 - at_ > 0 then
    if (at_ == 1)=true then pure (ForInStep.done (some (HiLb a b (out.push y ++ (b.extract at_ (nb - 1)).reverse) na at_),na,at_,out.push y ++ (b.extract at_ (nb - 1)).reverse,g,ac,nb - 1 - at_))
    else if (at_ == 0)=true then pure (ForInStep.done (some (HiL a b (out.push y ++ (b.extract at_ (nb - 1)).reverse) na at_),na,at_,out.push y ++ (b.extract at_ (nb - 1)).reverse,g,ac,nb - 1 - at_))
    else hiT2 a b (out.push y ++ (b.extract at_ (nb - 1)).reverse) na at_ g ac (nb - 1 - at_)
   else hiT2 a b (out.push y) na (nb - 1) g ac (nb - 1 - at_)
  | _=>pure (ForInStep.done (some (HiL a b (out.push y) na (nb - 1)),na,nb - 1,out.push y,g,ac,bc))
noncomputable def hiT0 (a b out:Array Keyed) (na nb g ac bc:Nat):StateT SortSt Sem (ForInStep HiSt):=do
 let y <- elem' b (nb - 1)
 let r <- Yx false y a 0 na (na - 1)
 match r with
 | some at_ =>
  if na - at_ > 0 then
   if (at_ == 0)=true then pure (ForInStep.done (some (HiL a b (out ++ (a.extract at_ na).reverse) at_ nb),at_,nb,out ++ (a.extract at_ na).reverse,g,na - at_,bc))
   else hiT1 a b (out ++ (a.extract at_ na).reverse) at_ nb g (na - at_) bc
  else hiT1 a b out na nb g (na - at_) bc
 | _=>pure (ForInStep.done (some (HiL a b out na nb),na,nb,out,g,ac,bc))
noncomputable def HiR (key:Keyed->Nat) (a b:Array Keyed) (S:Nat) (r:ForInStep HiSt):Prop :=
 (∃ R c,r=.done (some R,c)/\FinM key a b R)\/∃ out na nb g ac bc,(r=.done (none,na,nb,out,g,ac,bc)\/r=.yield (none,na,nb,out,g,ac,bc))/\MHk key a.toList b.toList out.toList na nb/\1<=na/\2<=nb/\na + nb<=S/\na<=a.size/\nb<=b.size
theorem Zdd {a b:Array Keyed} (h:MPk ok key a b) {out:Array Keyed} {na nb g ac k1 S:Nat} (mi:MHk key a.toList b.toList out.toList na nb) (z0:na<=a.size) (z00:nb<=b.size) (z1:1<=na) (z2:2<=nb) (z3:na + nb<=S) {y:Keyed} (hy:a[na - 1]?=some y) (hs:∀ q∈b.toList.take nb,key q<=key y) {st:SortSt}:wpS (model prog w) A E s (hiT2 a b out na nb g ac k1) (λr st'=>st'=st/\HiR key a b S r) st:=by
 unfold hiT2
 refine wpS_bind (Z6 hy ?_)
 have m2:=h.hpushA (na:=na - 1) (by rw [Nat.sub_add_cancel z1]; exact mi) hy hs
 by_cases c:(na - 1 == 0)=true
 ·rw [if_pos c]
  exact wpS_pure ⟨rfl,.inl ⟨_,_,rfl,h.hdone' m2 (by simpa using c)⟩⟩
 ·rw [if_neg c]
  have c:na - 1≠0:=by simpa using c
  split
  ·exact wpS_pure ⟨rfl,.inr ⟨_,_,_,_,_,_,.inl rfl,m2,by lia,z2,by lia,by lia,z00⟩⟩
  ·exact wpS_pure ⟨rfl,.inr ⟨_,_,_,_,_,_,.inr rfl,m2,by lia,z2,by lia,by lia,z00⟩⟩
theorem Zde (hc:CmpK prog w A E s κ ok key) {a b:Array Keyed} (h:MPk ok key a b) {out:Array Keyed} {na nb g ac bc S:Nat} (mi:MHk key a.toList b.toList out.toList na nb) (z0:na<=a.size) (z00:nb<=b.size) (z1:1<=na) (z2:2<=nb) (z3:na + nb<=S + 1) {y:Keyed} (hy:b[nb - 1]?=some y) (hs:∀ q∈a.toList.take na,key q<=key y) {st:SortSt} (hk:kindOf st=κ):wpS (model prog w) A E s (hiT1 a b out na nb g ac bc) (λr st'=>st'=st/\HiR key a b S r) st:=by
 unfold hiT1
 refine wpS_bind (Z6 hy ?_)
 have m2:=h.hpushB (nb:=nb - 1) (by rw [Nat.sub_add_cancel (by lia)]; exact mi) hy hs
 by_cases c:(nb - 1 == 1)=true
 ·rw [if_pos c]
  exact wpS_pure ⟨rfl,.inl ⟨_,_,rfl,h.hfirst m2 (by simpa using c)⟩⟩
 rw [if_neg c]
 have c:nb - 1≠1:=by simpa using c
 obtain ⟨z,ez,mz⟩:=Yz (show na - 1 < a.size by lia)
 refine wpS_bind (Z6 ez ?_)
 refine wpS_bind (galL hc hk (h.oa z mz) h.ob (by lia) (λi j x y _ hij _ ex ey=>Wn h.sb hij ex ey) (by lia) λk1 k2 k3 k4=>?_)
 dsimp only
 have bl:∀ q∈b.toList.take k1,key q<=key z:=Qz λj x hj ex=>Nat.le_of_lt (k3 j x hj (by rw [Nat.zero_add]; exact ex))
 have al:∀ q∈a.toList.take na,key q<=key z:=Qz λj x hj ex=>Wn h.sa (by lia) ex ez
 by_cases ck:nb - 1 - k1 > 0
 ·rw [if_pos ck]
  have m3:=h.hrunB m2 k2 λi x h1 h2 ex q hq=>Nat.le_trans (al q hq) (k4 i x h1 h2 (by rw [Nat.zero_add]; exact ex))
  by_cases c1:(k1 == 1)=true
  ·rw [if_pos c1]
   exact wpS_pure ⟨rfl,.inl ⟨_,_,rfl,h.hfirst m3 (by simpa using c1)⟩⟩
  rw [if_neg c1]
  have c1:k1≠1:=by simpa using c1
  by_cases c2:(k1 == 0)=true
  ·rw [if_pos c2]
   exact wpS_pure ⟨rfl,.inl ⟨_,_,rfl,h.hdone m3 (by simpa using c2)⟩⟩
  ·rw [if_neg c2]
   have c2:k1≠0:=by simpa using c2
   exact Zdd h m3 z0 (by lia) z1 (by lia) (by lia) ez bl
 ·rw [if_neg ck]
  have:k1=nb - 1:=by lia
  subst this
  exact Zdd h m2 z0 (by lia) z1 (by lia) (by lia) ez bl
theorem Zka (hc:CmpK prog w A E s κ ok key) {a b:Array Keyed} (h:MPk ok key a b) {out:Array Keyed} {na nb g ac bc S:Nat} (mi:MHk key a.toList b.toList out.toList na nb) (z0:na<=a.size) (z00:nb<=b.size) (z1:1<=na) (z2:2<=nb) (z3:na + nb<=S + 1) {st:SortSt} (hk:kindOf st=κ):wpS (model prog w) A E s (hiT0 a b out na nb g ac bc) (λr st'=>st'=st/\HiR key a b S r) st:=by
 unfold hiT0
 obtain ⟨y,ey,my⟩:=Yz (show nb - 1 < b.size by lia)
 refine wpS_bind (Z6 ey ?_)
 refine wpS_bind (galR hc hk (h.ob y my) h.oa (by lia) (λi j x y _ hij _ ex ey=>Wn h.sa hij ex ey) (by lia) λk k2 k3 k4=>?_)
 dsimp only
 have bl:∀ q∈a.toList.take k,key q<=key y:=Qz λj x hj ex=>k3 j x hj (by rw [Nat.zero_add]; exact ex)
 have yl:∀ q∈b.toList.take nb,key q<=key y:=Qz λj x hj ex=>Wn h.sb (by lia) ex ey
 by_cases ck:na - k > 0
 ·rw [if_pos ck]
  have m2:=h.hrunA mi k2 λi x h1 h2 ex q hq=>Nat.le_trans (yl q hq) (Nat.le_of_lt (k4 i x h1 h2 (by rw [Nat.zero_add]; exact ex)))
  by_cases c:(k == 0)=true
  ·rw [if_pos c]
   exact wpS_pure ⟨rfl,.inl ⟨_,_,rfl,h.hdone' m2 (by simpa using c)⟩⟩
  ·rw [if_neg c]
   have c:k≠0:=by simpa using c
   exact Zde hc h m2 (by lia) z00 (by lia) z2 (by lia) ey bl hk
 ·rw [if_neg ck]
  have:k=na:=by lia
  subst this
  exact Zde hc h mi z0 z00 z1 z2 z3 ey bl hk
end
section
variable {prog:Program} {w:World} {A:Around} {E:Value->Shared->Prop} {s:Shared} {κ:SortKind} {ok:Keyed->Prop} {key:Keyed->Nat}
theorem Zef (hc:CmpK prog w A E s κ ok key) {a b:Array Keyed} (h:MPk ok key a b) {st:SortSt} (hk:kindOf st=κ) {Q:Array Keyed->SortSt->Prop} (q:∀ r st',Sg st st'->FinM key a b r->Q r st'):wpS (model prog w) A E s (U6 a b) Q st:=by
 have pa:=h.pa
 have pb:=h.pb
 rw [Zch]
 refine wpS_bind (wpS_lift (wpAny_rule ⟨rfl,?_⟩))
 try dsimp only
 obtain ⟨a0,e0,m0⟩:=Yz (show a.size - 1 < a.size by lia)
 refine wpS_bind (Z6 e0 ?_)
 try dsimp only
 have mi0:MHk key a.toList b.toList #[a0].toList (a.size - 1) b.size:=by
  have z:MHk key a.toList b.toList (#[]:Array Keyed).toList (a.size - 1 + 1) b.size:=⟨by rw [Nat.sub_add_cancel pa]; simp,List.Pairwise.nil,(λp hp=>by simp at hp),(λp hp=>by simp at hp)⟩
  exact h.hpushA z e0 λq hq=>h.h2 a0 e0 q (List.mem_of_mem_take hq)
 by_cases c1:(a.size - 1 == 0)=true
 ·rw [if_pos c1]
  exact wpS_pure (q _ _ (Sg.refl _) (h.hdone' mi0 (by simpa using c1)))
 rw [if_neg c1]
 by_cases c2:(b.size == 1)=true
 ·rw [if_pos c2]
  exact wpS_pure (q _ _ (Sg.refl _) (h.hfirst mi0 (by simpa using c2)))
 rw [if_neg c2]
 have ha1:a.size - 1≠0:=by simpa using c1
 have hb1:b.size≠1:=by simpa using c2
 refine wpS_bind (wpS_get ?_)
 try dsimp only
 refine wpS_bind (wpS_mono (wpS_forRange (I:=λx c st'=>Sg st st'/\∃ na nb out g,c=(none,na,nb,out,g)/\MHk key a.toList b.toList out.toList na nb/\1<=na/\2<=nb/\na<=a.size/\nb<=b.size/\na + nb + 1 + x<=a.size + b.size) (Q:=λc st'=>Sg st st'/\∃ r,c.1=some r/\FinM key a b r) ?step ?fin ?init) ?post)
 case init=>exact ⟨Sg.refl _,_,_,_,_,rfl,mi0,by lia,by lia,by lia,by lia,by lia⟩
 case fin =>
  rintro c st' ⟨_,na,nb,out,g,_,_,z1,z2,z3,z4,z5⟩
  lia
 case post =>
  rintro ⟨r',rest⟩ st' ⟨g,r,e,f⟩
  have e:r'=some r:=e
  subst e
  exact wpS_pure (q r st' g f)
 case step =>
  rintro x c st' _ hx ⟨g0,na,nb,out,g,rfl,mi,z1,z2,z3,z4,z5⟩
  dsimp only
  have hk':kindOf st'=κ:=g0.kind.trans hk
  refine wpS_bind (wpS_mono (wpS_forRange (I:=λy c st2=>st2=st'/\∃ na2 nb2 out2 ac bc,c=(none,na2,nb2,out2,ac,bc)/\MHk key a.toList b.toList out2.toList na2 nb2/\1<=na2/\2<=nb2/\na2<=a.size/\nb2<=b.size/\na2 + nb2 + y<=na + nb)
   (Q:=λc st2=>st2=st'/\((∃ r c',c=(some r,c')/\FinM key a b r)\/∃ na2 nb2 out2 ac bc,c=(none,na2,nb2,out2,ac,bc)/\MHk key a.toList b.toList out2.toList na2 nb2/\1<=na2/\2<=nb2/\na2<=a.size/\nb2<=b.size/\na2 + nb2 + 1<=na + nb)) ?istep ?ifin ?iinit) ?ipost)
  case iinit=>exact ⟨rfl,na,nb,out,0,0,rfl,mi,z1,z2,z3,z4,by lia⟩
  case ifin =>
   rintro c st2 ⟨rfl,na2,nb2,out2,ac,bc,rfl,m2,y1,y2,y3,y4,y5⟩
   lia
  case istep =>
   rintro y c st2 _ hy ⟨rfl,na2,nb2,out2,ac,bc,rfl,m2,y1,y2,y3,y4,y5⟩
   dsimp only
   obtain ⟨vb,eb,mb⟩:=Yz (show nb2 - 1 < b.size by lia)
   obtain ⟨va,ea,ma⟩:=Yz (show na2 - 1 < a.size by lia)
   refine wpS_bind (Z6 eb ?_)
   refine wpS_bind (Z6 ea ?_)
   refine wpS_bind (hc vb va (h.ob _ mb) (h.oa _ ma) _ _ hk' ?_)
   dsimp only
   by_cases lt:key vb < key va
   ·rw [decide_eq_true lt,if_pos rfl]
    refine wpS_bind (Z6 ea ?_)
    have m3:=h.hpushA (na:=na2 - 1) (by rw [Nat.sub_add_cancel y1]; exact m2) ea (Qz λj x hj ex=>Nat.le_trans (Wn h.sb (by lia) ex eb) (Nat.le_of_lt lt))
    by_cases c:(na2 - 1 == 0)=true
    ·rw [if_pos c]
     exact wpS_pure ⟨rfl,.inl ⟨_,_,rfl,h.hdone' m3 (by simpa using c)⟩⟩
    ·rw [if_neg c]
     have c:na2 - 1≠0:=by simpa using c
     split
     ·exact wpS_pure ⟨rfl,.inr ⟨_,_,_,_,_,rfl,m3,by lia,y2,by lia,y4,by lia⟩⟩
     ·exact wpS_pure ⟨rfl,_,_,_,_,_,rfl,m3,by lia,y2,by lia,y4,by lia⟩
   ·rw [decide_eq_false lt,if_neg (by decide)]
    refine wpS_bind (Z6 eb ?_)
    have m3:=h.hpushB (nb:=nb2 - 1) (by rw [Nat.sub_add_cancel (by lia)]; exact m2) eb (Qz λj x hj ex=>Nat.le_trans (Wn h.sa (by lia) ex ea) (Nat.le_of_not_lt lt))
    by_cases c:(nb2 - 1 == 1)=true
    ·rw [if_pos c]
     exact wpS_pure ⟨rfl,.inl ⟨_,_,rfl,h.hfirst m3 (by simpa using c)⟩⟩
    ·rw [if_neg c]
     have c:nb2 - 1≠1:=by simpa using c
     split
     ·exact wpS_pure ⟨rfl,.inr ⟨_,_,_,_,_,rfl,m3,y1,by lia,y3,by lia,by lia⟩⟩
     ·exact wpS_pure ⟨rfl,_,_,_,_,_,rfl,m3,y1,by lia,y3,by lia,by lia⟩
  case ipost =>
   rintro c st2 ⟨rfl,⟨r,c',rfl,f⟩ | ⟨na2,nb2,out2,ac,bc,rfl,m2,y1,y2,y3,y4,y5⟩⟩
   ·exact wpS_pure ⟨g0,r,rfl,f⟩
   dsimp only
   refine wpS_bind (wpS_lift (wpAny_rule ⟨rfl,?_⟩))
   refine wpS_bind (wpS_mono (wpS_forRange (I:=λy c st3=>Sg st st3/\∃ na3 nb3 out3 g3 ac bc,c=(none,na3,nb3,out3,g3,ac,bc)/\MHk key a.toList b.toList out3.toList na3 nb3/\1<=na3/\2<=nb3/\na3 + nb3 + y<=na2 + nb2/\na3<=a.size/\nb3<=b.size)
    (Q:=λc st3=>Sg st st3/\((∃ r c',c=(some r,c')/\FinM key a b r)\/∃ na3 nb3 out3 g3 ac bc,c=(none,na3,nb3,out3,g3,ac,bc)/\MHk key a.toList b.toList out3.toList na3 nb3/\1<=na3/\2<=nb3/\na3 + nb3<=na2 + nb2/\na3<=a.size/\nb3<=b.size)) ?jstep ?jfin ?jinit) ?jpost)
   case jinit=>exact ⟨g0,_,_,_,_,_,_,rfl,m2,y1,y2,by lia,y3,y4⟩
   case jfin =>
    rintro c st3 ⟨_,na3,nb3,out3,g3,ac3,bc3,rfl,m3,x1,x2,x3,x4,x5⟩
    lia
   case jstep =>
    rintro y c st3 _ hy ⟨g1,na3,nb3,out3,g3,ac3,bc3,rfl,m3,x1,x2,x3,x4,x5⟩
    have go:∀ g',wpS (model prog w) A E s (do Z8 g'; hiT0 a b out3 na3 nb3 g' ac3 bc3) (λr st4=>Sg st st4/\HiR key a b (na3 + nb3 - 1) r) st3:=λg'=>by
     refine wpS_bind (V5 λst4 g4=>?_)
     refine wpS_mono (Zka (S:=na3 + nb3 - 1) hc h m3 x4 x5 x1 x2 (by lia) (g4.kind.trans (g1.kind.trans hk))) λr st5 zz9=>?_
     obtain ⟨e5,f5⟩:=zz9
     subst e5
     exact ⟨g1.trans g4,f5⟩
    show wpS _ _ _ _ (if g3 > 1 then (do Z8 (g3 - 1); hiT0 a b out3 na3 nb3 (g3 - 1) ac3 bc3) else do Z8 g3; hiT0 a b out3 na3 nb3 g3 ac3 bc3) _ st3
    split
    all_goals
     refine wpS_mono (go _) ?_
     rintro r st4 ⟨gs,⟨R,c,rfl,f⟩ | ⟨o4,i4,j4,g4,a4,b4,rfl | rfl,m4,w1,w2,w3,w4,w5⟩⟩
     ·exact ⟨gs,.inl ⟨R,c,rfl,f⟩⟩
     ·exact ⟨gs,.inr ⟨_,_,_,_,_,_,rfl,m4,w1,w2,by lia,w4,w5⟩⟩
     ·exact ⟨gs,_,_,_,_,_,_,rfl,m4,w1,w2,by lia,w4,w5⟩
   case jpost =>
    rintro c st3 ⟨g1,⟨r,c',rfl,f⟩ | ⟨na3,nb3,out3,g3,ac3,bc3,rfl,m3,x1,x2,x3,x4,x5⟩⟩
    ·exact wpS_pure ⟨g1,r,rfl,f⟩
    dsimp only
    refine wpS_bind (V5 λst4 g4=>?_)
    exact wpS_pure ⟨g1.trans g4,_,_,_,_,rfl,m3,x1,x2,x4,x5,by lia⟩
end
noncomputable def kn (key:Keyed->Nat) (xs:Array Keyed) (i:Nat):Nat:=((xs[i]?).map key).getD 0
theorem Ym {key:Keyed->Nat} {xs ys:Array Keyed} {i j:Nat} (h:xs[i]?=ys[j]?):kn key xs i=kn key ys j:=by unfold kn; rw [h]
theorem Yw {key:Keyed->Nat} {xs:Array Keyed} {i:Nat} {x:Keyed} (h:xs[i]?=some x):kn key xs i=key x:=by unfold kn; rw [h]; rfl
noncomputable def SRk (key:Keyed->Nat) (xs:Array Keyed) (lo hi:Nat):Prop:=∀ i j,lo<=i->i<=j->j < hi->kn key xs i<=kn key xs j
noncomputable def DRk (key:Keyed->Nat) (xs:Array Keyed) (lo hi:Nat):Prop:=∀ i j,lo<=i->i<=j->j < hi->kn key xs j<=kn key xs i
structure ChgS (lo:Nat) (st st':SortSt):Prop where
 kind:kindOf st'=kindOf st
 pend:pendingOf st'=pendingOf st
 fail:failedOf st'=failedOf st
 perm:(arrOf st').Perm (arrOf st)
 low:∀ z:Nat,z < lo->(arrOf st')[z]?=(arrOf st)[z]?
theorem ChgS.refl (lo:Nat) (st:SortSt):ChgS lo st st:=⟨rfl,rfl,rfl,Array.Perm.refl _,λ_ _=>rfl⟩
theorem ChgS.trans {lo:Nat} {a b c:SortSt} (h:ChgS lo a b) (g:ChgS lo b c):ChgS lo a c:=⟨g.kind.trans h.kind,g.pend.trans h.pend,g.fail.trans h.fail,g.perm.trans h.perm,λz hz=>(g.low z hz).trans (h.low z hz)⟩
theorem ChgS.size {lo:Nat} {a b:SortSt} (h:ChgS lo a b):(arrOf b).size=(arrOf a).size:=h.perm.size_eq
theorem ChgS.set {lo:Nat} {a b:SortSt} (h:ChgS lo a b) {xs:Array Keyed} (p:xs.Perm (arrOf b)) (hl:∀ z:Nat,z < lo->xs[z]?=(arrOf b)[z]?):ChgS lo a (setArr b xs):=h.trans ⟨rfl,rfl,rfl,p,hl⟩
theorem Za9 {xs ys:Array Keyed} (h:xs.Perm ys) {x:Keyed} (hx:x∈xs.toList):x∈ys.toList:=(Array.perm_iff_toList_perm.mp h).mem_iff.mp hx
section
variable {prog:Program} {w:World} {A:Around} {E:Value->Shared->Prop} {s:Shared} {κ:SortKind} {ok:Keyed->Prop} {key:Keyed->Nat}
theorem Zi4 (hc:CmpK prog w A E s κ ok key) {st:SortSt} {i j:Nat} (hk:kindOf st=κ) (ho:∀ p∈(arrOf st).toList,ok p) (hi:i < (arrOf st).size) (hj:j < (arrOf st).size) {Q:Option Bool->SortSt->Prop} (q:Q (some (decide (kn key (arrOf st) i < kn key (arrOf st) j))) st):wpS (model prog w) A E s (ltAt' i j) Q st:=by
 obtain ⟨x,ex,mx⟩:=Yz hi
 obtain ⟨y,ey,my⟩:=Yz hj
 rw [Yw ex,Yw ey] at q
 rw [ltAt'_eq]
 refine wpS_bind (wpS_get ?_)
 refine wpS_bind (Z6 ex ?_)
 refine wpS_bind (Z6 ey ?_)
 exact hc x y (ho x mx) (ho y my) st _ hk q
theorem Oe {st:SortSt} {i j:Nat} {Q:Unit->SortSt->Prop} (q:Q () (setArr st (mirror (arrOf st) i j ((j - i) / 2)))):wpS (model prog w) A E s (reverseSlice' i j) Q st:=by
 rw [reverseSlice'_eq]
 exact wpS_modify q
theorem Vy {xs:Array Keyed} {i j:Nat} (hj:j<=xs.size) (k:Nat):kn key (mirror xs i j ((j - i) / 2)) k=if i<=k/\k < j then kn key xs (i + j - 1 - k) else kn key xs k:=by
 have e:=getElem?_mirror_all (i:=i) hj k
 by_cases h1:i<=k/\k < j
 ·rw [if_pos h1] at e ⊢; exact Ym e
 ·rw [if_neg h1] at e ⊢; exact Ym e
theorem X9 {xs:Array Keyed} {i j:Nat} (hj:j<=xs.size) (heq:∀ k,i<=k->k < j->kn key xs k=kn key xs (j - 1)) (k:Nat):kn key (mirror xs i j ((j - i) / 2)) k=kn key xs k:=by
 rw [Vy hj]
 split
 ·rw [heq _ (by lia) (by lia),heq k (by lia) (by lia)]
 ·rfl
theorem J2 {xs:Array Keyed} {i j lo:Nat} (hj:j<=xs.size) (hl:lo<=i):∀ z:Nat,z < lo->(mirror xs i j ((j - i) / 2))[z]?=xs[z]?:=λz hz=>by
 rw [getElem?_mirror_all hj,if_neg (by lia)]
structure CRun (prog:Program) (w:World) (A:Around) (E:Value->Shared->Prop) (s:Shared) (κ:SortKind) (ok:Keyed->Prop) (key:Keyed->Nat) (st:SortSt) (lo nrem:Nat):Prop where
 hc:CmpK prog w A E s κ ok key
 hk:kindOf st=κ
 ho:∀ p∈(arrOf st).toList,ok p
 hn:lo + nrem<=(arrOf st).size
section
variable {st:SortSt} {lo nrem:Nat}
theorem CRun.lt (h:CRun prog w A E s κ ok key st lo nrem) {st':SortSt} (c:ChgS lo st st') {i j:Nat} (hi:i < lo + nrem) (hj:j < lo + nrem) {Q:Option Bool->SortSt->Prop} (q:Q (some (decide (kn key (arrOf st') i < kn key (arrOf st') j))) st'):wpS (model prog w) A E s (ltAt' i j) Q st' :=
 Zi4 h.hc (c.kind.trans h.hk) (λp hp=>h.ho p (Za9 c.perm hp)) (by rw [c.size]; have:=h.hn; lia) (by rw [c.size]; have:=h.hn; lia) q
theorem CRun.asc (h:CRun prog w A E s κ ok key st lo nrem) {st':SortSt} (c:ChgS lo st st') {a:Nat} (ha:1<=a) (han:a<=nrem) (hs:SRk key (arrOf st') lo (lo + a)) {Q:Option (Option Nat) × Nat->SortSt->Prop}
  (q:∀ n,a<=n->n<=nrem->SRk key (arrOf st') lo (lo + n)->(n=nrem\/kn key (arrOf st') (lo + n) < kn key (arrOf st') (lo + n - 1))->Q (none,n) st') :
  wpS (model prog w) A E s (forIn [a:nrem] ((none,a):Option (Option Nat) × Nat) λ_ __s=>do
   let __x <- ltAt' (lo + __s.snd) (lo + __s.snd - 1)
   match __x with
   | some smaller=>if smaller=true then pure (ForInStep.done (none,__s.snd)) else pure (ForInStep.yield (none,__s.snd + 1))
   | _=>pure (ForInStep.done (some none,__s.snd))) Q st':=by
 refine wpS_forRange (I:=λx c st2=>st2=st'/\c=(none,x)/\SRk key (arrOf st') lo (lo + x)) ?step ?fin ⟨rfl,rfl,hs⟩
 case fin =>
  rintro c st2 ⟨rfl,rfl,hs'⟩
  rw [show max a nrem=nrem by lia] at hs' ⊢
  exact q nrem han (Nat.le_refl _) hs' (.inl rfl)
 case step =>
  rintro x c2 st2 hax hxn ⟨rfl,rfl,hs'⟩
  dsimp only
  refine wpS_bind (h.lt c (by lia) (by lia) ?_)
  dsimp only
  by_cases lt:kn key (arrOf st2) (lo + x) < kn key (arrOf st2) (lo + x - 1)
  ·rw [decide_eq_true lt,if_pos rfl]
   exact wpS_pure (q x hax (by lia) hs' (.inr lt))
  ·rw [decide_eq_false lt,if_neg (by decide)]
   refine wpS_pure ⟨rfl,rfl,λi j h1 h2 h3=>?_⟩
   rcases Nat.lt_or_ge j (lo + x) with z | z
   ·exact hs' i j h1 h2 z
   ·have hj:j=lo + x:=by lia
    subst hj
    rcases Nat.lt_or_ge i (lo + x) with z2 | z2
    ·have:=hs' i (lo + x - 1) h1 (by lia) (by lia)
     lia
    ·have:i=lo + x:=by lia
     rw [this]; exact Nat.le_refl _
noncomputable def cr3 (lo n nrem:Nat):StateT SortSt Sem (Option Nat):=do
 reverseSlice' lo (lo + n)
 let __s <- forIn [n:nrem] ((none,n):Option (Option Nat) × Nat) λ_ __s=>do
   let __x <- ltAt' (lo + __s.snd) (lo + __s.snd - 1)
   match __x with
   | some smaller=>if smaller=true then pure (ForInStep.done (none,__s.snd)) else pure (ForInStep.yield (none,__s.snd + 1))
   | _=>pure (ForInStep.done (some none,__s.snd))
 match __s.fst with
 | some r=>pure r
 | none=>pure (some __s.snd)
theorem CRun.t3 (h:CRun prog w A E s κ ok key st lo nrem) {st':SortSt} (c:ChgS lo st st') {n:Nat} (h1:1<=n) (hn:n<=nrem) (hs:DRk key (arrOf st') lo (lo + n)) {Q:Option Nat->SortSt->Prop} (q:∀ m st2,ChgS lo st st2->1<=m->m<=nrem->SRk key (arrOf st2) lo (lo + m)->Q (some m) st2):wpS (model prog w) A E s (cr3 lo n nrem) Q st':=by
 unfold cr3
 have hsz:lo + n<=(arrOf st').size:=by rw [c.size]; have:=h.hn; lia
 refine wpS_bind (Oe ?_)
 have c2:ChgS lo st (setArr st' (mirror (arrOf st') lo (lo + n) ((lo + n - lo) / 2))):=c.set (mirror_perm _ _ _ _) (J2 hsz (Nat.le_refl _))
 refine wpS_bind (h.asc c2 h1 hn ?_ λm m1 m2 ms _=>wpS_pure (q m _ c2 (by lia) m2 ms))
 intro i j i1 i2 i3
 show kn key (mirror (arrOf st') lo (lo + n) ((lo + n - lo) / 2)) i<=kn key (mirror (arrOf st') lo (lo + n) ((lo + n - lo) / 2)) j
 rw [Vy hsz,Vy hsz,if_pos (by lia),if_pos (by lia)]
 exact hs _ _ (by lia) (by lia) (by lia)
noncomputable def cr2 (lo n nrem:Nat):StateT SortSt Sem (Option Nat):=do
 liftM (rule "list.sort.descending-run")
 let __s <- forIn [n + 1:nrem] ((none,n + 1,0):Option (Option Nat) × Nat × Nat) λ_ __s=>do
  let __x <- ltAt' (lo + __s.snd.fst) (lo + __s.snd.fst - 1)
  match __x with
  | some smaller =>
   if smaller=true then
    if __s.snd.snd > 0 then do
     reverseSlice' (lo + __s.snd.fst - (__s.snd.snd + 1)) (lo + __s.snd.fst)
     pure (ForInStep.yield (none,__s.snd.fst + 1,0))
    else pure (ForInStep.yield (none,__s.snd.fst + 1,0))
   else do
    let __x <- ltAt' (lo + __s.snd.fst - 1) (lo + __s.snd.fst)
    match __x with
    | some larger =>
     if larger=true then pure (ForInStep.done (none,__s.snd.fst,__s.snd.snd))
     else pure (ForInStep.yield (none,__s.snd.fst + 1,__s.snd.snd + 1))
    | _=>pure (ForInStep.done (some none,__s.snd.fst,__s.snd.snd))
  | _=>pure (ForInStep.done (some none,__s.snd.fst,__s.snd.snd))
 match __s.fst with
 | some r=>pure r
 | none =>
  if __s.snd.snd > 0 then do
   reverseSlice' (lo + __s.snd.fst - (__s.snd.snd + 1)) (lo + __s.snd.fst)
   cr3 lo __s.snd.fst nrem
  else cr3 lo __s.snd.fst nrem
theorem CRun.t2 (h:CRun prog w A E s κ ok key st lo nrem) {st':SortSt} (c:ChgS lo st st') {n:Nat} (hn:n + 1<=nrem) (hs:DRk key (arrOf st') lo (lo + (n + 1))) {Q:Option Nat->SortSt->Prop} (q:∀ m st2,ChgS lo st st2->1<=m->m<=nrem->SRk key (arrOf st2) lo (lo + m)->Q (some m) st2):wpS (model prog w) A E s (cr2 lo n nrem) Q st':=by
 unfold cr2
 refine wpS_bind (wpS_lift (wpAny_rule ⟨rfl,?_⟩))
 have hsz:=h.hn
 refine wpS_bind (wpS_mono (wpS_forRange (I:=λx c2 st2=>∃ neq,c2=(none,x,neq)/\ChgS lo st st2/\DRk key (arrOf st2) lo (lo + x)/\neq + 1<=x/\∀ i,lo + x - (neq + 1)<=i->i < lo + x->kn key (arrOf st2) i=kn key (arrOf st2) (lo + x - 1))
  (Q:=λc2 st2=>∃ x neq,c2=(none,x,neq)/\1<=x/\x<=nrem/\ChgS lo st st2/\DRk key (arrOf st2) lo (lo + x)/\neq + 1<=x/\∀ i,lo + x - (neq + 1)<=i->i < lo + x->kn key (arrOf st2) i=kn key (arrOf st2) (lo + x - 1)) ?step ?fin ?init) ?post)
 case init=>exact ⟨0,rfl,c,hs,by lia,λi h1 h2=>by congr 1; lia⟩
 case fin =>
  rintro c2 st2 ⟨neq,rfl,c',hs',hq,he⟩
  rw [show max (n + 1) nrem=nrem by lia] at hs' hq he ⊢
  exact ⟨nrem,neq,rfl,by lia,Nat.le_refl _,c',hs',hq,he⟩
 case step =>
  rintro x c2 st2 hax hxn ⟨neq,rfl,c',hs',hq,he⟩
  dsimp only
  have hz:lo + x<=(arrOf st2).size:=by rw [c'.size]; lia
  refine wpS_bind (h.lt c' (by lia) (by lia) ?_)
  dsimp only
  by_cases lt:kn key (arrOf st2) (lo + x) < kn key (arrOf st2) (lo + x - 1)
  ·rw [decide_eq_true lt,if_pos rfl]
   have step1:∀ xs:Array Keyed,(∀ k,kn key xs k=kn key (arrOf st2) k)->DRk key xs lo (lo + (x + 1)):=λxs hk i j h1 h2 h3=>by
    rw [hk,hk]
    rcases Nat.lt_or_ge j (lo + x) with z | z
    ·exact hs' i j h1 h2 z
    ·have:j=lo + x:=by lia
     subst this
     rcases Nat.lt_or_ge i (lo + x) with z2 | z2
     ·have:=hs' i (lo + x - 1) h1 (by lia) (by lia)
      lia
     ·have:i=lo + x:=by lia
      rw [this]; exact Nat.le_refl _
   by_cases hneq:neq > 0
   ·rw [if_pos hneq]
    refine wpS_bind (Oe (wpS_pure ⟨0,rfl,c'.set (mirror_perm _ _ _ _) (J2 hz (by lia)),step1 _ (X9 hz he),by lia,λi h1 h2=>by congr 1; lia⟩))
   ·rw [if_neg hneq]
    exact wpS_pure ⟨0,rfl,c',step1 _ (λ_=>rfl),by lia,λi h1 h2=>by congr 1; lia⟩
  ·rw [decide_eq_false lt,if_neg (by decide)]
   refine wpS_bind (h.lt c' (by lia) (by lia) ?_)
   dsimp only
   by_cases lt2:kn key (arrOf st2) (lo + x - 1) < kn key (arrOf st2) (lo + x)
   ·rw [decide_eq_true lt2,if_pos rfl]
    exact wpS_pure ⟨x,neq,rfl,by lia,by lia,c',hs',hq,he⟩
   ·rw [decide_eq_false lt2,if_neg (by decide)]
    have heq:kn key (arrOf st2) (lo + x)=kn key (arrOf st2) (lo + x - 1):=by lia
    refine wpS_pure ⟨neq + 1,rfl,c',λi j h1 h2 h3=>?_,by lia,λi h1 h2=>?_⟩
    ·rcases Nat.lt_or_ge j (lo + x) with z | z
     ·exact hs' i j h1 h2 z
     ·have:j=lo + x:=by lia
      subst this
      rcases Nat.lt_or_ge i (lo + x) with z2 | z2
      ·have:=hs' i (lo + x - 1) h1 (by lia) (by lia)
       lia
      ·have:i=lo + x:=by lia
       rw [this]; exact Nat.le_refl _
    ·rw [show lo + (x + 1) - 1=lo + x by lia]
     rcases Nat.lt_or_ge i (lo + x) with z2 | z2
     ·rw [heq]; exact he i (by lia) z2
     ·have:i=lo + x:=by lia
      rw [this]
 case post =>
  rintro c2 st2 ⟨x,neq,rfl,x1,x2,c',hs',hq,he⟩
  dsimp only
  have hz:lo + x<=(arrOf st2).size:=by rw [c'.size]; lia
  by_cases hneq:neq > 0
  ·rw [if_pos hneq]
   refine wpS_bind (Oe (h.t3 (c'.set (mirror_perm _ _ _ _) (J2 hz (by lia))) x1 x2 ?_ q))
   intro i j h1 h2 h3
   show kn key (mirror (arrOf st2) _ _ _) j<=kn key (mirror (arrOf st2) _ _ _) i
   rw [X9 hz he,X9 hz he]
   exact hs' i j h1 h2 h3
  ·rw [if_neg hneq]
   exact h.t3 c' x1 x2 hs' q
theorem Zi2 (lo n nrem:Nat):(do
  rule "list.sort.descending-run"
  let mut n:=n + 1
  let mut neq:=0
  for _ in [n:nrem] do
   let some smaller <- ltAt' (lo + n) (lo + n - 1) | return none
   if smaller then
    if neq > 0 then reverseSlice' (lo + n - (neq + 1)) (lo + n)
    neq:=0
   else
    let some larger <- ltAt' (lo + n - 1) (lo + n) | return none
    if larger then break
    neq:=neq + 1
   n:=n + 1
  if neq > 0 then reverseSlice' (lo + n - (neq + 1)) (lo + n)
  reverseSlice' lo (lo + n)
  for _ in [n:nrem] do
   let some smaller <- ltAt' (lo + n) (lo + n - 1) | return none
   if smaller then break
   n:=n + 1
  return some n:StateT SortSt Sem (Option Nat))=cr2 lo n nrem:=by
 unfold cr2
 refine bind_congr λ_u=>?_
 refine bind_congr λs2=>?_
 obtain ⟨r2,n2,q2⟩:=s2
 cases r2 with
 | some r2=>rfl
 | none =>
  dsimp only
  unfold cr3
  split
  ·refine bind_congr λ_v=>?_
   refine bind_congr λ_w=>?_
   refine bind_congr λs3=>?_
   obtain ⟨r3,n3⟩:=s3
   cases r3 <;> rfl
  ·refine bind_congr λ_w=>?_
   refine bind_congr λs3=>?_
   obtain ⟨r3,n3⟩:=s3
   cases r3 <;> rfl
theorem CRun.count (h:CRun prog w A E s κ ok key st lo nrem) (h1:1<=nrem) {Q:Option Nat->SortSt->Prop} (q:∀ m st2,ChgS lo st st2->1<=m->m<=nrem->SRk key (arrOf st2) lo (lo + m)->Q (some m) st2):wpS (model prog w) A E s (countRun' lo nrem) Q st:=by
 rw [countRun'_eq]
 dsimp only
 have hsz:=h.hn
 have c0:=ChgS.refl lo st
 refine wpS_bind (h.asc c0 (Nat.le_refl 1) h1 (λi j i1 i2 i3=>by have e:i=j:=(by lia); rw [e]; exact Nat.le_refl _) λn n1 n2 ns hor=>?_)
 dsimp only
 by_cases c1:(n == nrem)=true
 ·rw [if_pos c1]
  exact wpS_pure (q n st c0 n1 n2 ns)
 rw [if_neg c1]
 have c1:n≠nrem:=by simpa using c1
 have lt:=hor.resolve_left c1
 have hz:lo + n<=(arrOf st).size:=by lia
 by_cases c2:n > 1
 ·rw [if_pos c2]
  refine wpS_bind (h.lt c0 (by lia) (by lia) ?_)
  dsimp only
  by_cases lt2:kn key (arrOf st) lo < kn key (arrOf st) (lo + n - 1)
  ·rw [decide_eq_true lt2,if_pos rfl]
   exact wpS_pure (q n st c0 n1 n2 ns)
  ·rw [decide_eq_false lt2,if_neg (by decide)]
   have all:∀ k,lo<=k->k < lo + n->kn key (arrOf st) k=kn key (arrOf st) (lo + n - 1):=λk k1 k2=>by
    have:=ns lo k (Nat.le_refl _) k1 k2
    have:=ns k (lo + n - 1) k1 (by lia) (by lia)
    lia
   refine wpS_bind (Oe ?_)
   refine Eq.mpr (congrArg (λm=>wpS (model prog w) A E s m Q _) (Zi2 lo n nrem)) ?_
   refine h.t2 (c0.set (mirror_perm _ _ _ _) (J2 hz (Nat.le_refl _))) (by lia) (λi j i1 i2 i3=>?_) q
   show kn key (mirror (arrOf st) _ _ _) j<=kn key (mirror (arrOf st) _ _ _) i
   rw [X9 hz all,X9 hz all]
   rcases Nat.lt_or_ge j (lo + n) with z | z
   ·rw [all i i1 (by lia),all j (by lia) z]; exact Nat.le_refl _
   ·have:j=lo + n:=by lia
    subst this
    rcases Nat.lt_or_ge i (lo + n) with z2 | z2
    ·rw [all i i1 z2]; lia
    ·have:i=lo + n:=by lia
     rw [this]; exact Nat.le_refl _
 ·rw [if_neg c2]
  have:n=1:=by lia
  subst this
  refine Eq.mpr (congrArg (λm=>wpS (model prog w) A E s m Q _) (Zi2 lo 1 nrem)) ?_
  refine h.t2 c0 (by lia) (λi j i1 i2 i3=>?_) q
  rcases Nat.eq_or_lt_of_le i2 with z | z
  ·rw [z]; exact Nat.le_refl _
  ·have e1:i=lo + 1 - 1:=by lia
   have e2:j=lo + 1:=by lia
   rw [e1,e2]; lia
end
end
section
variable {prog:Program} {w:World} {A:Around} {E:Value->Shared->Prop} {s:Shared} {κ:SortKind} {ok:Keyed->Prop} {key:Keyed->Nat}
theorem Gy {xs:Array Keyed} {src d:Nat} (hs:src < xs.size) (hd:d<=src) (k:Nat):kn key (bubble xs src d) k=if k=src - d then kn key xs src else if src - d < k/\k<=src then kn key xs (k - 1) else kn key xs k:=by
 have e:=getElem?_bubble hs d hd k
 by_cases h1:k=src - d
 ·rw [if_pos h1] at e ⊢; exact Ym e
 ·rw [if_neg h1] at e ⊢
  by_cases h2:src - d < k/\k<=src
  ·rw [if_pos h2] at e ⊢; exact Ym e
  ·rw [if_neg h2] at e ⊢; exact Ym e
theorem CRun.bin {st:SortSt} {lo nrem:Nat} (h:CRun prog w A E s κ ok key st lo nrem) {st1:SortSt} (c1:ChgS lo st st1) {ok':Nat} (hok:ok'<=nrem) (h0:1<=nrem) (hs:SRk key (arrOf st1) lo (lo + ok')) {Q:Bool->SortSt->Prop} (q:∀ st2,ChgS lo st st2->SRk key (arrOf st2) lo (lo + nrem)->Q true st2):wpS (model prog w) A E s (binarySort' lo nrem ok') Q st1:=by
 rw [binarySort'_eq]
 have hsz:=h.hn
 refine wpS_bind (wpS_mono (wpS_forRange (I:=λk c st'=>c=(none,())/\ChgS lo st st'/\SRk key (arrOf st') lo (lo + min k nrem)) (Q:=λc st'=>c=(none,())/\ChgS lo st st'/\SRk key (arrOf st') lo (lo + nrem)) ?step ?fin ?init) ?post)
 case post =>
  rintro c st' ⟨rfl,c',hs'⟩
  exact wpS_pure (q st' c' hs')
 case init =>
  refine ⟨rfl,c1,λi j i1 i2 i3=>?_⟩
  by_cases z:j < lo + ok'
  ·exact hs i j i1 i2 z
  ·have:i=j:=by lia
   rw [this]; exact Nat.le_refl _
 case fin =>
  rintro c st' ⟨hc',c',hs'⟩
  refine ⟨hc',c',?_⟩
  rwa [show min (max (max ok' 1) nrem) nrem=nrem by lia] at hs'
 case step =>
  rintro k c st' hak hkn ⟨rfl,c',hs'⟩
  rw [show min k nrem=k by lia] at hs'
  have hz:lo + k < (arrOf st').size:=by rw [c'.size]; lia
  refine wpS_bind (wpS_mono (wpS_forRange (I:=λx c st2=>st2=st'/\∃ l r,c=(none,l,r)/\l<=r/\r<=k/\r - l<=k - x /\
    (∀ i,i < l->kn key (arrOf st') (lo + i)<=kn key (arrOf st') (lo + k))/\(∀ i,r<=i->i < k->kn key (arrOf st') (lo + k) < kn key (arrOf st') (lo + i)))
   (Q:=λc st2=>st2=st'/\∃ l r,c=(none,l,r)/\l<=k /\
    (∀ i,i < l->kn key (arrOf st') (lo + i)<=kn key (arrOf st') (lo + k))/\(∀ i,l<=i->i < k->kn key (arrOf st') (lo + k) < kn key (arrOf st') (lo + i))) ?istep ?ifin ?iinit) ?ipost)
  case iinit=>exact ⟨rfl,0,k,rfl,by lia,by lia,by lia,λi hi=>by lia,λi h1 h2=>by lia⟩
  case ifin =>
   rintro c st2 ⟨rfl,l,r,rfl,hlr,hrk,hm,hlo,hhi⟩
   have:l=r:=by lia
   subst this
   exact ⟨rfl,l,l,rfl,hrk,hlo,hhi⟩
  case istep =>
   rintro x c st2 _ hxk ⟨rfl,l,r,rfl,hlr,hrk,hm,hlo,hhi⟩
   dsimp only
   by_cases hge:l ≥ r
   ·rw [if_pos hge]
    have:l=r:=by lia
    subst this
    exact wpS_pure ⟨rfl,l,l,rfl,hrk,hlo,hhi⟩
   ·rw [if_neg hge]
    refine wpS_bind (h.lt c' (by lia) (by lia) ?_)
    dsimp only
    by_cases lt:kn key (arrOf st2) (lo + k) < kn key (arrOf st2) (lo + (l + r) / 2)
    ·rw [decide_eq_true lt,if_pos rfl]
     refine wpS_pure ⟨rfl,l,(l + r) / 2,rfl,by lia,by lia,by lia,hlo,λi h1 h2=>?_⟩
     have:=hs' (lo + (l + r) / 2) (lo + i) (by lia) (by lia) (by lia)
     lia
    ·rw [decide_eq_false lt,if_neg (by decide)]
     refine wpS_pure ⟨rfl,(l + r) / 2 + 1,r,rfl,by lia,by lia,by lia,λi h1=>?_,hhi⟩
     have:=hs' (lo + i) (lo + (l + r) / 2) (by lia) (by lia) (by lia)
     lia
  case ipost =>
   rintro c st2 ⟨rfl,l,r,rfl,hlk,hlo,hhi⟩
   show wpS _ _ _ _ (do moveDown' (lo + k) (lo + l); pure (ForInStep.yield (none,()))) _ _
   rw [moveDown'_eq]
   have ed:lo + k - (lo + k - (lo + l))=lo + l:=by lia
   refine wpS_bind (wpS_modify (wpS_pure ⟨rfl,c'.set (bubble_perm _ _ _) (λz hz'=>?_),?_⟩))
   ·rw [getElem?_bubble hz _ (by lia),ed,if_neg (by lia),if_neg (by lia)]
   ·rw [show min (k + 1) nrem=k + 1 by lia]
    intro i j i1 i2 i3
    show kn key (bubble (arrOf st2) (lo + k) (lo + k - (lo + l))) i<=kn key (bubble (arrOf st2) (lo + k) (lo + k - (lo + l))) j
    rw [Gy hz (by lia),Gy hz (by lia),ed]
    have L:∀ i,lo<=i->i < lo + l->kn key (arrOf st2) i<=kn key (arrOf st2) (lo + k):=λi a1 a2=>by have:=hlo (i - lo) (by lia); rwa [show lo + (i - lo)=i by lia] at this
    have R:∀ i,lo + l<=i->i < lo + k->kn key (arrOf st2) (lo + k) < kn key (arrOf st2) i:=λi a1 a2=>by have:=hhi (i - lo) (by lia) (by lia); rwa [show lo + (i - lo)=i by lia] at this
    repeat' split
    all_goals first
     | (exfalso; lia)
     | exact Nat.le_refl _
     | exact L _ (by lia) (by lia)
     | exact Nat.le_of_lt (R _ (by lia) (by lia))
     | exact hs' _ _ (by lia) (by lia) (by lia)
theorem Zil (sa:Nat):∀ (M:List Keyed) (k:Nat) (arr:Array Keyed),sa + k + M.length<=arr.size->((M.zipIdx k).foldl (λa (x:Keyed × Nat)=>a.setIfInBounds (sa + x.2) x.1) arr).size=arr.size/\∀ z:Nat,((M.zipIdx k).foldl (λa (x:Keyed × Nat)=>a.setIfInBounds (sa + x.2) x.1) arr)[z]?=if sa + k<=z/\z < sa + k + M.length then M[z - (sa + k)]? else arr[z]?
 | [],k,arr,_=>⟨rfl,λz=>by rw [if_neg (λz=>by have h1:=z.1; have h2:=z.2; rw [List.length_nil] at h2; lia)]; rfl⟩
 | x :: M,k,arr,h=>by
  rw [List.length_cons] at h
  rw [List.zipIdx_cons,List.foldl_cons]
  obtain ⟨i1,i2⟩:=Zil sa M (k + 1) (arr.setIfInBounds (sa + k) x) (by rw [Array.size_setIfInBounds]; lia)
  refine ⟨i1.trans Array.size_setIfInBounds,λz=>(i2 z).trans ?_⟩
  rw [Array.getElem?_setIfInBounds,List.length_cons]
  by_cases c1:sa + (k + 1)<=z/\z < sa + (k + 1) + M.length
  ·rw [if_pos c1,if_pos (by lia),show z - (sa + k)=z - (sa + (k + 1)) + 1 by lia]
   rfl
  ·rw [if_neg c1]
   by_cases c2:sa + k=z
   ·rw [if_pos c2,if_pos (by lia),if_pos (by lia),show z - (sa + k)=0 by lia]
    rfl
   ·rw [if_neg c2,if_neg (by lia)]
theorem Zci (i:Nat):mergeAt' i=(do
 let s <- get
 let (some (sa,na,power),some (sb,nb,_)):=((pendingOf s)[i]?,(pendingOf s)[i + 1]?) | unsupported "internal:list.sort.pending"
 set (setPending s (((pendingOf s).setIfInBounds i (sa,na + nb,power)).eraseIdxIfInBounds (i + 1)))
 let some k <- Yx false (<- elem' (arrOf s) sb) (arrOf s) sa na 0 | return false
 let (sa,na):=(sa + k,na - k)
 if na == 0 then return true
 let some nb <- Yx true (<- elem' (arrOf s) (sa + na - 1)) (arrOf s) sb nb (nb - 1) | return false
 if nb == 0 then return true
 let x:=(arrOf s).extract sa sb
 let y:=(arrOf s).extract sb (sb + nb)
 let merged <- if na<=nb then U5 x y else U6 x y
 modify λs=>setArr s (merged.toList.zipIdx.foldl (λa (p,j)=>a.setIfInBounds (sa + j) p) (arrOf s))
 return (failedOf (<- get)).isNone):=rfl
theorem Zg7 {x st:SortSt} {Q:PUnit->SortSt->Prop} (h:Q ⟨⟩ x):wpS (model prog w) A E s (set x:StateT SortSt Sem PUnit) Q st:=by
 unfold wpS; rw [StateT.run_set]; exact wpAny_pure ⟨rfl,h⟩
theorem Qy (xs:Array Keyed) (i j:Nat) (hj:j<=xs.size) (z:Nat):(xs.extract i j)[z]?=if z < j - i then xs[i + z]? else none:=by
 rw [Array.getElem?_extract,Nat.min_eq_left hj]
theorem Uc {xs:Array Keyed} {i j:Nat} (hj:j<=xs.size) {p:Keyed} (h:p∈(xs.extract i j).toList):∃ z,i<=z/\z < j/\xs[z]?=some p:=by
 obtain ⟨z,hz,e⟩:=List.mem_iff_getElem.mp h
 have e2:(xs.extract i j)[z]?=some p:=by rw [<- Array.getElem?_toList,Ac hz,e]
 rw [Qy xs i j hj] at e2
 split at e2
 ·rename_i c; exact ⟨i + z,by lia,by lia,e2⟩
 ·cases e2
theorem Fs {xs:Array Keyed} {i j:Nat} (hj:j<=xs.size) (h:SRk key xs i j):UpK key (xs.extract i j).toList:=by
 unfold UpK
 rw [List.pairwise_iff_getElem]
 intro a b ha hb hab
 have g:∀ z (hz:z < (xs.extract i j).toList.length),z < j - i/\xs[i + z]?=some (xs.extract i j).toList[z]:=λz hz=>by
  have e2:(xs.extract i j)[z]?=some (xs.extract i j).toList[z]:=by rw [<- Array.getElem?_toList,Ac hz]
  rw [Qy xs i j hj] at e2
  split at e2
  ·rename_i c; exact ⟨c,e2⟩
  ·cases e2
 obtain ⟨a1,a2⟩:=g a ha
 obtain ⟨b1,b2⟩:=g b hb
 have:=h (i + a) (i + b) (by lia) (by lia) (by lia)
 rwa [Yw a2,Yw b2] at this
theorem Zf9 {arr:Array Keyed} {sa s1 sb m nb:Nat} (h1:sa<=s1) (h2:s1<=sb) (h3:m<=nb) (hz:sb + nb<=arr.size) (sA:SRk key arr sa sb) (sB:SRk key arr sb (sb + nb))
  (lo:∀ i j,sa<=i->i < s1->sb<=j->j < sb + nb->kn key arr i<=kn key arr j) (hi:∀ i j,sa<=i->i < sb->sb + m<=j->j < sb + nb->kn key arr i<=kn key arr j)
  {M:List Keyed} (pm:M.Perm ((arr.extract s1 sb).toList ++ (arr.extract sb (sb + m)).toList)) (up:UpK key M) :
  (M.zipIdx.foldl (λa (x:Keyed × Nat)=>a.setIfInBounds (s1 + x.2) x.1) arr).Perm arr/\(∀ z:Nat,z < sa\/sb + nb<=z->(M.zipIdx.foldl (λa (x:Keyed × Nat)=>a.setIfInBounds (s1 + x.2) x.1) arr)[z]?=arr[z]?)/\SRk key (M.zipIdx.foldl (λa (x:Keyed × Nat)=>a.setIfInBounds (s1 + x.2) x.1) arr) sa (sb + nb):=by
 have lM:M.length=sb + m - s1:=by
  have:=pm.length_eq
  have l1:(arr.extract s1 sb).toList.length=sb - s1:=by rw [Array.length_toList,Array.size_extract]; lia
  have l2:(arr.extract sb (sb + m)).toList.length=m:=by rw [Array.length_toList,Array.size_extract]; lia
  rw [Ae,l1,l2] at this
  lia
 have tl:∀ (xs:Array Keyed) (z:Nat),xs.toList[z]?=xs[z]?:=λxs z=>Array.getElem?_toList
 obtain ⟨w1,w2⟩:=Zil s1 M 0 arr (by lia)
 generalize M.zipIdx.foldl (λa (x:Keyed × Nat)=>a.setIfInBounds (s1 + x.2) x.1) arr=arr' at w1 w2
 simp only [Nat.add_zero] at w2
 have inM:∀ i,s1<=i->i < sb + m->∃ p,M[i - s1]?=some p/\arr'[i]?=some p/\((∃ z,s1<=z/\z < sb/\arr[z]?=some p)\/∃ z,sb<=z/\z < sb + m/\arr[z]?=some p):=λi i1 i2=>by
  have hl:i - s1 < M.length:=by lia
  refine ⟨M[i - s1],Ac hl,by rw [w2,if_pos (by lia)]; exact Ac hl,?_⟩
  rcases List.mem_append.mp (pm.mem_iff.mp (List.getElem_mem hl)) with z | z
  ·exact .inl (Uc (by lia) z)
  ·exact .inr (Uc (by lia) z)
 have out:∀ i:Nat,i < s1\/sb + m<=i->arr'[i]?=arr[i]?:=λi hi=>by rw [w2,if_neg (by lia)]
 refine ⟨?_,λz hz'=>out z (by lia),λi j i1 i2 i3=>?_⟩
 ·refine Array.perm_iff_toList_perm.mpr ?_
  have e1:arr'.toList=arr.toList.take s1 ++ M ++ arr.toList.drop (sb + m):=by
   apply List.ext_getElem?
   intro z
   rw [Array.getElem?_toList,w2]
   by_cases c1:z < s1
   ·rw [if_neg (by lia),List.getElem?_append_left (by rw [Ae,Ai,Array.length_toList]; lia),List.getElem?_append_left (by rw [Ai,Array.length_toList]; lia),List.getElem?_take,if_pos c1,Array.getElem?_toList]
   ·by_cases c2:z < sb + m
    ·rw [if_pos (by lia),List.getElem?_append_left (by rw [Ae,Ai,Array.length_toList]; lia),List.getElem?_append_right (by rw [Ai,Array.length_toList]; lia)]
     congr 1
     rw [Ai,Array.length_toList]; lia
    ·rw [if_neg (by lia),List.getElem?_append_right (by rw [Ae,Ai,Array.length_toList]; lia),List.getElem?_drop,Array.getElem?_toList]
     congr 1
     rw [Ae,Ai,Array.length_toList]; lia
  have e2:arr.toList=arr.toList.take s1 ++ ((arr.extract s1 sb).toList ++ (arr.extract sb (sb + m)).toList) ++ arr.toList.drop (sb + m):=by
   apply List.ext_getElem?
   intro z
   have lx:((arr.extract s1 sb).toList ++ (arr.extract sb (sb + m)).toList).length=sb + m - s1:=by rw [<- pm.length_eq,lM]
   by_cases c1:z < s1
   ·rw [List.getElem?_append_left (by rw [Ae,Ai,Array.length_toList,lx]; lia),List.getElem?_append_left (by rw [Ai,Array.length_toList]; lia),List.getElem?_take,if_pos c1]
   ·by_cases c2:z < sb + m
    ·rw [List.getElem?_append_left (by rw [Ae,Ai,Array.length_toList,lx]; lia),List.getElem?_append_right (by rw [Ai,Array.length_toList]; lia),Ai,Array.length_toList,Nat.min_eq_left (by lia)]
     have ls:(arr.extract s1 sb).toList.length=sb - s1:=by rw [Array.length_toList,Array.size_extract]; lia
     by_cases c3:z < sb
     ·rw [List.getElem?_append_left (by lia),tl (arr.extract s1 sb),Qy _ _ _ (by lia),if_pos (by lia),tl arr]
      congr 1; lia
     ·rw [List.getElem?_append_right (by lia),ls,tl (arr.extract sb (sb + m)),Qy _ _ _ (by lia),if_pos (by lia),tl arr]
      congr 1; lia
    ·rw [List.getElem?_append_right (by rw [Ae,Ai,Array.length_toList,lx]; lia),List.getElem?_drop]
     congr 1
     rw [Ae,Ai,Array.length_toList,lx]; lia
  rw [e1]
  conv=>rhs; rw [e2]
  exact List.Perm.append_right _ (List.Perm.append_left _ pm)
 ·by_cases a1:i < s1
  ·rw [Ym (out i (.inl a1))]
   by_cases b1:j < s1
   ·rw [Ym (out j (.inl b1))]; exact sA i j i1 i2 (by lia)
   ·by_cases b2:j < sb + m
    ·obtain ⟨p,_,p2,⟨z,z1,z2,z3⟩ | ⟨z,z1,z2,z3⟩⟩:=inM j (by lia) b2
     ·rw [Yw p2,<- Yw (key:=key) z3]; exact sA i z i1 (by lia) z2
     ·rw [Yw p2,<- Yw (key:=key) z3]; exact lo i z i1 a1 z1 (by lia)
    ·rw [Ym (out j (.inr (by lia)))]; exact lo i j i1 a1 (by lia) i3
  ·by_cases a2:i < sb + m
   ·by_cases b2:j < sb + m
    ·obtain ⟨p,p1,p2,_⟩:=inM i (by lia) a2
     obtain ⟨p',p1',p2',_⟩:=inM j (by lia) b2
     rw [Yw p2,Yw p2']
     exact Zcp up (by lia) p1 p1'
    ·rw [Ym (out j (.inr (by lia)))]
     obtain ⟨p,_,p2,⟨z,z1,z2,z3⟩ | ⟨z,z1,z2,z3⟩⟩:=inM i (by lia) a2
     ·rw [Yw p2,<- Yw (key:=key) z3]; exact hi z j (by lia) z2 (by lia) i3
     ·rw [Yw p2,<- Yw (key:=key) z3]; exact sB z j z1 (by lia) i3
   ·rw [Ym (out i (.inr (by lia))),Ym (out j (.inr (by lia)))]
    exact sB i j (by lia) i2 i3
theorem Zeg (hc:CmpK prog w A E s κ ok key) {st:SortSt} {i sa na pw sb nb pb:Nat} (hk:kindOf st=κ) (ho:∀ p∈(arrOf st).toList,ok p) (hf:failedOf st=none) (hp:(pendingOf st)[i]?=some (sa,na,pw)) (hp':(pendingOf st)[i + 1]?=some (sb,nb,pb)) (e:sb=sa + na) (n1:1<=na) (n2:1<=nb) (hz:sb + nb<=(arrOf st).size) (sA:SRk key (arrOf st) sa sb) (sB:SRk key (arrOf st) sb (sb + nb)) {Q:Bool->SortSt->Prop}
  (q:∀ st',kindOf st'=kindOf st->failedOf st'=none->pendingOf st'=((pendingOf st).setIfInBounds i (sa,na + nb,pw)).eraseIdxIfInBounds (i + 1)->(arrOf st').Perm (arrOf st)->(∀ z:Nat,z < sa\/sb + nb<=z->(arrOf st')[z]?=(arrOf st)[z]?)->SRk key (arrOf st') sa (sb + nb)->Q true st'):wpS (model prog w) A E s (mergeAt' i) Q st:=by
 rw [Zci]
 refine wpS_bind (wpS_get ?_)
 rw [hp,hp']
 dsimp only
 refine wpS_bind (Zg7 ?_)
 have hk1:kindOf (setPending st (((pendingOf st).setIfInBounds i (sa,na + nb,pw)).eraseIdxIfInBounds (i + 1)))=κ:=hk
 obtain ⟨v,ev,mv⟩:=Yz (show sb < (arrOf st).size by lia)
 refine wpS_bind (Z6 ev ?_)
 have so:∀ a b,a<=b->b<=(arrOf st).size->SRk key (arrOf st) a b->∀ i j x y,a<=i->i<=j->j < b->(arrOf st)[i]?=some x->(arrOf st)[j]?=some y->key x<=key y:=λa b _ _ hs i j x y i1 i2 i3 ex ey=>by
  have:=hs i j i1 i2 i3
  rwa [Yw ex,Yw ey] at this
 refine wpS_bind (galR (hint:=0) hc (κ:=κ) hk1 (ho v mv) ho (by lia) (so sa (sa + na) (by lia) (by lia) (e ▸ sA)) (by lia) λk k2 k3 k4=>?_)
 dsimp only
 have K3:∀ i j,sa<=i->i < sa + k->sb<=j->j < sb + nb->kn key (arrOf st) i<=kn key (arrOf st) j:=λi j i1 i2 j1 j2=>by
  obtain ⟨x,ex,_⟩:=Yz (show i < (arrOf st).size by lia)
  have h1:=k3 (i - sa) x (by lia) (by rw [show sa + (i - sa)=i by lia]; exact ex)
  have h2:=sB sb j (Nat.le_refl _) j1 j2
  rw [Yw ev] at h2
  rw [Yw ex]
  lia
 by_cases c1:(na - k == 0)=true
 ·rw [if_pos c1]
  have c1:na - k=0:=by simpa using c1
  refine wpS_pure (q _ rfl hf rfl (Array.Perm.refl _) (λ_ _=>rfl) λi j i1 i2 i3=>?_)
  by_cases a1:j < sb
  ·exact sA i j i1 i2 a1
  ·by_cases a2:i < sb
   ·exact K3 i j i1 (by lia) (by lia) i3
   ·exact sB i j (by lia) i2 i3
 rw [if_neg c1]
 have c1:na - k≠0:=by simpa using c1
 obtain ⟨u,eu,mu⟩:=Yz (show sa + k + (na - k) - 1 < (arrOf st).size by lia)
 refine wpS_bind (Z6 eu ?_)
 refine wpS_bind (galL (hint:=nb - 1) hc (κ:=κ) hk1 (ho u mu) ho (by lia) (so sb (sb + nb) (by lia) (by lia) sB) (by lia) λm m2 m3 m4=>?_)
 dsimp only
 have eu':(arrOf st)[sb - 1]?=some u:=by rw [show sb - 1=sa + k + (na - k) - 1 by lia]; exact eu
 have K4:∀ i j,sa<=i->i < sb->sb + m<=j->j < sb + nb->kn key (arrOf st) i<=kn key (arrOf st) j:=λi j i1 i2 j1 j2=>by
  obtain ⟨y,ey,_⟩:=Yz (show j < (arrOf st).size by lia)
  have h1:=m4 (j - sb) y (by lia) (by lia) (by rw [show sb + (j - sb)=j by lia]; exact ey)
  have h2:=sA i (sb - 1) i1 (by lia) (by lia)
  rw [Yw eu'] at h2
  rw [Yw ey]
  lia
 by_cases c2:(m == 0)=true
 ·rw [if_pos c2]
  have c2:m=0:=by simpa using c2
  refine wpS_pure (q _ rfl hf rfl (Array.Perm.refl _) (λ_ _=>rfl) λi j i1 i2 i3=>?_)
  by_cases a1:j < sb
  ·exact sA i j i1 i2 a1
  ·by_cases a2:i < sb
   ·exact K4 i j i1 a2 (by lia) i3
   ·exact sB i j (by lia) i2 i3
 rw [if_neg c2]
 have c2:m≠0:=by simpa using c2
 have mp:MPk ok key ((arrOf st).extract (sa + k) sb) ((arrOf st).extract sb (sb + m)):=by
  have hx:∀ {p},p∈((arrOf st).extract (sa + k) sb).toList->∃ z,sa + k<=z/\z < sb/\(arrOf st)[z]?=some p:=λh=>Uc (by lia) h
  have hy:∀ {p},p∈((arrOf st).extract sb (sb + m)).toList->∃ z,sb<=z/\z < sb + m/\(arrOf st)[z]?=some p:=λh=>Uc (by lia) h
  have mem:∀ {z:Nat} {p:Keyed},(arrOf st)[z]?=some p->p∈(arrOf st).toList:=λh=>by obtain ⟨h1,rfl⟩:=Array.getElem?_eq_some_iff.mp h; simp
  refine ⟨λp hp=>?_,λp hp=>?_,Fs (by lia) λi j i1 i2 i3=>sA i j (by lia) i2 i3,Fs (by lia) λi j i1 i2 i3=>sB i j i1 i2 (by lia),?_,?_,λx ex p hp=>?_,λx ex p hp=>?_⟩
  ·obtain ⟨z,_,_,h⟩:=hx hp; exact ho p (mem h)
  ·obtain ⟨z,_,_,h⟩:=hy hp; exact ho p (mem h)
  ·rw [Array.size_extract]; lia
  ·rw [Array.size_extract]; lia
  ·rw [Qy _ _ _ (by lia),if_pos (by lia),Nat.add_zero,ev] at ex
   cases ex
   obtain ⟨z,z1,z2,z3⟩:=hx hp
   exact Nat.le_of_lt (k4 (z - sa) p (by lia) (by lia) (by rw [show sa + (z - sa)=z by lia]; exact z3))
  ·rw [Array.size_extract,Qy _ _ _ (by lia),if_pos (by lia),show sa + k + (min sb (arrOf st).size - (sa + k) - 1)=sb - 1 by lia,eu'] at ex
   cases ex
   obtain ⟨z,z1,z2,z3⟩:=hy hp
   exact Nat.le_of_lt (m3 (z - sb) p (by lia) (by rw [show sb + (z - sb)=z by lia]; exact z3))
 have tail:∀ (r:Array Keyed) (st2:SortSt),Sg (setPending st (((pendingOf st).setIfInBounds i (sa,na + nb,pw)).eraseIdxIfInBounds (i + 1))) st2->FinM key ((arrOf st).extract (sa + k) sb) ((arrOf st).extract sb (sb + m)) r->wpS (model prog w) A E s (do
   modify λs=>setArr s (r.toList.zipIdx.foldl (λa (p,j)=>a.setIfInBounds (sa + k + j) p) (arrOf s))
   return (failedOf (<- get)).isNone) Q st2:=λr st2 g f=>by
  refine wpS_bind (wpS_modify ?_)
  refine wpS_bind (wpS_get ?_)
  have ea:arrOf st2=arrOf st:=g.arr
  obtain ⟨f1,f2,f3⟩:=Zf9 (sa:=sa) (by lia) (by lia) m2 hz sA sB K3 K4 f.1 f.2
  have hff:failedOf st2=none:=g.fail.trans hf
  refine wpS_pure ?_
  show Q (failedOf st2).isNone _
  rw [hff]
  refine q _ g.kind hff g.pend ?_ ?_ ?_
  ·show (r.toList.zipIdx.foldl _ (arrOf st2)).Perm _
   rw [ea]; exact f1
  ·intro z hz'
   show (r.toList.zipIdx.foldl _ (arrOf st2))[z]?=_
   rw [ea]; exact f2 z hz'
  ·show SRk key (r.toList.zipIdx.foldl _ (arrOf st2)) _ _
   rw [ea]; exact f3
 split
 ·exact wpS_bind (Zee hc mp hk1 tail)
 ·exact wpS_bind (Zef hc mp hk1 tail)
end
noncomputable def Ch5:Nat->List (Nat × Nat)->Nat->Prop
 | a,[],b=>a=b
 | a,(x,n) :: r,b=>x=a/\1<=n/\Ch5 (a + n) r b
theorem Uj:∀ {qs:List (Nat × Nat)} {a b:Nat},Ch5 a qs b->a + qs.length<=b
 | [],a,b,h=>by have:a=b:=h; simp; lia
 | (x,n) :: r,a,b,h=>by
  obtain ⟨_,h2,h3⟩:=h
  have:=Uj h3
  rw [List.length_cons]; lia
theorem Gc:∀ {qs:List (Nat × Nat)} {a b:Nat},Ch5 a qs b->∀ q∈qs,a<=q.1/\q.1 + q.2<=b
 | [],a,b,_,q,hq=>by cases hq
 | (x,n) :: r,a,b,h,q,hq=>by
  obtain ⟨h1,h2,h3⟩:=h
  have:=Uj h3
  rcases List.mem_cons.mp hq with rfl | hq
  ·exact ⟨by show a<=x; lia,by show x + n<=b; lia⟩
  ·have:=Gc h3 q hq
   lia
theorem Zbs:∀ {qs:List (Nat × Nat)} {a b n:Nat},Ch5 a qs b->1<=n->Ch5 a (qs ++ [(b,n)]) (b + n)
 | [],a,b,n,h,hn=>by have:a=b:=h; subst this; exact ⟨rfl,hn,rfl⟩
 | (x,m) :: r,a,b,n,h,hn=>⟨h.1,h.2.1,Zbs h.2.2 hn⟩
theorem G4:∀ {qs:List (Nat × Nat)} {a b i sa na sb nb:Nat},Ch5 a qs b->qs[i]?=some (sa,na)->qs[i + 1]?=some (sb,nb)->sb=sa + na/\1<=na/\1<=nb/\a<=sa/\sb + nb<=b/\Ch5 a ((qs.set i (sa,na + nb)).eraseIdx (i + 1)) b/\∀ q∈(qs.set i (sa,na + nb)).eraseIdx (i + 1),q=(sa,na + nb)\/(q∈qs/\(q.1 + q.2<=sa\/sb + nb<=q.1))
 | [],a,b,i,sa,na,sb,nb,_,h1,_=>by simp at h1
 | (x,n) :: r,a,b,0,sa,na,sb,nb,h,h1,h2=>by
  obtain ⟨c1,c2,c3⟩:=h
  cases h1
  cases r with
  | nil=>simp at h2
  | cons q r =>
   cases h2
   obtain ⟨d1,d2,d3⟩:=c3
   have:=Uj d3
   refine ⟨by lia,c2,d2,by lia,by lia,⟨c1,by lia,?_⟩,λq hq=>?_⟩
   ·show Ch5 (a + (n + nb)) r b
    rw [<- Nat.add_assoc]; exact d3
   ·have hq:q∈(x,n + nb) :: r:=hq
    rcases List.mem_cons.mp hq with z | z
    ·exact .inl z
    ·have:=Gc d3 q z
     exact .inr ⟨List.mem_cons_of_mem _ (List.mem_cons_of_mem _ z),.inr (by lia)⟩
 | (x,n) :: r,a,b,i + 1,sa,na,sb,nb,h,h1,h2=>by
  obtain ⟨c1,c2,c3⟩:=h
  obtain ⟨e1,e2,e3,e4,e5,e6,e7⟩:=G4 c3 h1 h2
  refine ⟨e1,e2,e3,by lia,e5,⟨c1,c2,e6⟩,λq hq=>?_⟩
  have hq:q∈(x,n) :: (r.set i (sa,na + nb)).eraseIdx (i + 1):=hq
  rcases List.mem_cons.mp hq with z | z
  ·subst z
   exact .inr ⟨List.mem_cons_self,.inl (by show x + n<=sa; lia)⟩
  ·rcases e7 q z with y | ⟨y1,y2⟩
   ·exact .inl y
   ·exact .inr ⟨List.mem_cons_of_mem _ y1,y2⟩
noncomputable def pr2 (q:Nat × Nat × Nat):Nat × Nat:=(q.1,q.2.1)
structure SInv (κ:SortKind) (ok:Keyed->Prop) (key:Keyed->Nat) (a₀:Array Keyed) (st:SortSt) (qs:List (Nat × Nat)) (lo:Nat):Prop where
 kind:kindOf st=κ
 fail:failedOf st=none
 perm:(arrOf st).Perm a₀
 pend:(pendingOf st).toList.map pr2=qs
 ch:Ch5 0 qs lo
 runs:∀ q∈qs,SRk key (arrOf st) q.1 (q.1 + q.2)
 le:lo<=a₀.size
 oks:∀ p∈a₀.toList,ok p
section
variable {prog:Program} {w:World} {A:Around} {E:Value->Shared->Prop} {s:Shared} {κ:SortKind} {ok:Keyed->Prop} {key:Keyed->Nat} {a₀:Array Keyed}
theorem SInv.ok' {st:SortSt} {qs:List (Nat × Nat)} {lo:Nat} (h:SInv κ ok key a₀ st qs lo):∀ p∈(arrOf st).toList,ok p:=λp hp=>h.oks p (Za9 h.perm hp)
theorem SInv.sz {st:SortSt} {qs:List (Nat × Nat)} {lo:Nat} (h:SInv κ ok key a₀ st qs lo):(arrOf st).size=a₀.size:=h.perm.size_eq
theorem V6 {xs ys:Array Keyed} {lo hi:Nat} (h:SRk key xs lo hi) (e:∀ z:Nat,lo<=z->z < hi->ys[z]?=xs[z]?):SRk key ys lo hi:=λi j i1 i2 i3=>by
 rw [Ym (e i i1 (by lia)),Ym (e j (by lia) i3)]
 exact h i j i1 i2 i3
theorem Gw {α β:Type} (f:α->β):∀ (l:List α) (i:Nat),(l.eraseIdx i).map f=(l.map f).eraseIdx i
 | [],_=>rfl
 | _ :: _,0=>rfl
 | x :: l,i + 1=>by show f x :: (l.eraseIdx i).map f=f x :: (l.map f).eraseIdx i; rw [Gw f l i]
theorem Zfy (p:Array (Nat × Nat × Nat)) (i:Nat) (x:Nat × Nat × Nat):((p.setIfInBounds i x).eraseIdxIfInBounds (i + 1)).toList=(p.toList.set i x).eraseIdx (i + 1):=by simp
theorem SInv.merge (hc:CmpK prog w A E s κ ok key) {st:SortSt} {qs:List (Nat × Nat)} {lo i:Nat} (h:SInv κ ok key a₀ st qs lo) (hi:i + 1 < qs.length) {Q:Bool->SortSt->Prop} (q:∀ st' qs',SInv κ ok key a₀ st' qs' lo->qs'.length + 1=qs.length->(∀ z:Nat,lo<=z->(arrOf st')[z]?=(arrOf st)[z]?)->Q true st'):wpS (model prog w) A E s (mergeAt' i) Q st:=by
 have hl:(pendingOf st).size=qs.length:=by rw [<- h.pend,Ab,Array.length_toList]
 obtain ⟨⟨sa,na,pw⟩,e1⟩:∃ x,(pendingOf st)[i]?=some x:=⟨_,Array.getElem?_eq_getElem (by lia)⟩
 obtain ⟨⟨sb,nb,pb⟩,e2⟩:∃ x,(pendingOf st)[i + 1]?=some x:=⟨_,Array.getElem?_eq_getElem (by lia)⟩
 have f:∀ (j:Nat) x,(pendingOf st)[j]?=some x->qs[j]?=some (pr2 x):=λj x e=>by rw [<- h.pend,Ah,Array.getElem?_toList,e]; rfl
 have f1:qs[i]?=some (sa,na):=f _ _ e1
 have f2:qs[i + 1]?=some (sb,nb):=f _ _ e2
 obtain ⟨d1,d2,d3,d4,d5,d6,d7⟩:=G4 h.ch f1 f2
 have le:=h.le
 have sz:=h.sz
 have rA:SRk key (arrOf st) sa (sa + na):=h.runs _ (List.mem_of_getElem? f1)
 have rB:SRk key (arrOf st) sb (sb + nb):=h.runs _ (List.mem_of_getElem? f2)
 refine Zeg hc h.kind h.ok' h.fail e1 e2 d1 d2 d3 (by lia) (d1 ▸ rA) rB λst' k1 k2 k3 k4 k5 k6=>?_
 refine q st' ((qs.set i (sa,na + nb)).eraseIdx (i + 1)) ⟨k1.trans h.kind,k2,k4.trans h.perm,?_,d6,λq' hq=>?_,h.le,h.oks⟩ ?_ ?_
 ·rw [k3,Zfy,Gw,List.map_set,h.pend]
  rfl
 ·rcases d7 q' hq with z | ⟨z1,z2⟩
  ·subst z
   have:SRk key (arrOf st') sa (sa + (na + nb)):=by rw [show sa + (na + nb)=sb + nb by lia]; exact k6
   exact this
  ·exact V6 (h.runs q' z1) λz' y1 y2=>k5 z' (by lia)
 ·rw [List.length_eraseIdx,List.length_set,if_pos hi]
  lia
 ·exact λz hz=>k5 z (by lia)
theorem Zjj (hc:CmpK prog w A E s κ ok key) {st:SortSt} (hk:kindOf st=κ) (hf:failedOf st=none) (hp:pendingOf st=#[]) (ho:∀ p∈(arrOf st).toList,ok p) (h2:2<=(arrOf st).size) {Q:Unit->SortSt->Prop}
  (q:∀ st',(arrOf st').Perm (arrOf st)->failedOf st'=none->UpK key (arrOf st').toList->Q () st'):wpS (model prog w) A E s sortRuns' Q st:=by
 have S0:SInv κ ok key (arrOf st) st [] 0:=⟨hk,hf,Array.Perm.refl _,by rw [hp]; rfl,rfl,(λq hq=>by cases hq),Nat.zero_le _,ho⟩
 generalize ha:arrOf st=a₀ at *
 rw [sortRuns'_eq]
 refine wpS_bind (wpS_get ?_)
 dsimp only
 rw [ha]
 generalize minRun' a₀.size a₀.size 0=mr
 refine wpS_bind (wpS_mono (wpS_forRange (I:=λx c st'=>∃ lo qs,c=(none,lo)/\SInv κ ok key a₀ st' qs lo/\(lo=a₀.size\/x<=lo)) (Q:=λc st'=>c=(none,a₀.size)/\∃ qs,SInv κ ok key a₀ st' qs a₀.size) ?step ?fin ?init) ?post)
 case init=>exact ⟨0,[],rfl,S0,.inr (Nat.le_refl _)⟩
 case fin =>
  rintro c st' ⟨lo,qs,rfl,S,z⟩
  have:=S.le
  have:lo=a₀.size:=by lia
  subst this
  exact ⟨rfl,qs,S⟩
 case step =>
  rintro x c st' _ hx ⟨lo,qs,rfl,S,z⟩
  dsimp only
  by_cases c0:lo ≥ a₀.size
  ·rw [if_pos c0]
   have:=S.le
   have:lo=a₀.size:=by lia
   subst this
   exact wpS_pure ⟨rfl,qs,S⟩
  rw [if_neg c0]
  have sz:=S.sz
  have cr:CRun prog w A E s κ ok key st' lo (a₀.size - lo):=⟨hc,S.kind,S.ok',by lia⟩
  refine wpS_bind (cr.count (by lia) λn st1 c1 n1 n2 r1=>?_)
  dsimp only
  have after:∀ (st2:SortSt) (n:Nat),ChgS lo st' st2->1<=n->n<=a₀.size - lo->SRk key (arrOf st2) lo (lo + n)->SInv κ ok key a₀ st2 qs lo:=λst2 n c2 m1 m2 r2=>⟨c2.kind.trans S.kind,c2.fail.trans S.fail,c2.perm.trans S.perm,by rw [c2.pend]; exact S.pend,S.ch,λq hq=>V6 (S.runs q hq) λz z1 z2=>c2.low z (by have:=Gc S.ch q hq; lia),S.le,S.oks⟩
  have push:∀ (n:Nat) (st3:SortSt) (qs:List (Nat × Nat)),1<=n->n<=a₀.size - lo->SInv κ ok key a₀ st3 qs lo->SRk key (arrOf st3) lo (lo + n)->SInv κ ok key a₀ (setPending st3 ((pendingOf st3).push (lo,n,0))) (qs ++ [(lo,n)]) (lo + n):=λn st3 qs m1 m2 S3 r3=>⟨S3.kind,S3.fail,S3.perm,by
    show ((pendingOf st3).push (lo,n,0)).toList.map pr2=_
    rw [Array.toList_push,Aj,S3.pend]; rfl,Zbs S3.ch m1,λq hq=>by
    rcases List.mem_append.mp hq with z | z
    ·exact S3.runs q z
    ·rw [Af z]; exact r3,by lia,S3.oks⟩
  by_cases cm:n < mr
  ·rw [if_pos cm]
   refine wpS_bind (wpS_lift (wpAny_rule ⟨rfl,?_⟩))
   have cr2:CRun prog w A E s κ ok key st' lo (min (a₀.size - lo) mr):=⟨hc,S.kind,S.ok',by lia⟩
   refine wpS_bind (cr2.bin c1 (by lia) (by lia) r1 λst2 c2 r2=>?_)
   rw [if_neg (by decide)]
   have m1:1<=min (a₀.size - lo) mr:=by lia
   have m2:min (a₀.size - lo) mr<=a₀.size - lo:=by lia
   have S2:=after st2 _ c2 m1 m2 r2
   refine wpS_bind (wpS_get ?_)
   cases hb:(pendingOf st2).back? with
   | none=>exact wpS_bind (wpS_modify (wpS_pure ⟨_,_,rfl,push (min (a₀.size - lo) mr) st2 qs m1 m2 S2 r2,.inr (by lia)⟩))
   | some t =>
    obtain ⟨s1,n1',p1⟩:=t
    dsimp only
    refine wpS_bind (wpS_mono (wpS_forRange (I:=λx c st3=>c=(none,())/\∃ qs,SInv κ ok key a₀ st3 qs lo/\SRk key (arrOf st3) lo (lo + (min (a₀.size - lo) mr))) (Q:=λc st3=>c=(none,())/\∃ qs,SInv κ ok key a₀ st3 qs lo/\SRk key (arrOf st3) lo (lo + (min (a₀.size - lo) mr))) ?_ (λ_ _ hh=>hh) ⟨rfl,qs,S2,r2⟩) ?_)
    ·rintro y c st3 _ hy ⟨rfl,qs3,S3,r3⟩
     refine wpS_bind (wpS_get ?_)
     have hl:(pendingOf st3).size=qs3.length:=by rw [<- S3.pend,Ab,Array.length_toList]
     split
     ·rename_i older hm
      split
      ·exact wpS_pure ⟨rfl,qs3,S3,r3⟩
      ·have h1:(pendingOf st3).size > 1:=by
        rcases Nat.lt_or_ge 1 (pendingOf st3).size with z | z
        ·exact z
        ·rw [if_neg (by lia)] at hm; cases hm
       refine wpS_bind (S3.merge hc (by lia) λst4 qs4 S4 l4 k4=>?_)
       rw [if_neg (by decide)]
       exact wpS_pure ⟨rfl,qs4,S4,V6 r3 λz z1 z2=>k4 z z1⟩
     ·exact wpS_pure ⟨rfl,qs3,S3,r3⟩
    ·rintro c st3 ⟨rfl,qs3,S3,r3⟩
     dsimp only
     refine wpS_bind (wpS_modify ?_)
     refine wpS_bind (wpS_modify (wpS_pure ⟨_,_,rfl,push (min (a₀.size - lo) mr) _ qs3 m1 m2 ⟨S3.kind,S3.fail,S3.perm,?_,S3.ch,S3.runs,S3.le,S3.oks⟩ r3,.inr (by lia)⟩))
     show ((pendingOf st3).modify ((pendingOf st3).size - 1) _).toList.map pr2=_
     rw [<- S3.pend]
     apply List.ext_getElem?
     intro z
     rw [Ah,Ah,Array.getElem?_toList,Array.getElem?_toList,Array.getElem?_modify]
     split
     ·rw [Option.map_map]; rfl
     ·rfl
  ·rw [if_neg cm]
   obtain ⟨st2,e2⟩:∃ st2,st2=st1:=⟨_,rfl⟩
   subst e2
   have m1:=n1
   have m2:=n2
   have r2:=r1
   have S2:=after st2 _ c1 m1 m2 r2
   refine wpS_bind (wpS_get ?_)
   cases hb:(pendingOf st2).back? with
   | none=>exact wpS_bind (wpS_modify (wpS_pure ⟨_,_,rfl,push n st2 qs m1 m2 S2 r2,.inr (by lia)⟩))
   | some t =>
    obtain ⟨s1,n1',p1⟩:=t
    dsimp only
    refine wpS_bind (wpS_mono (wpS_forRange (I:=λx c st3=>c=(none,())/\∃ qs,SInv κ ok key a₀ st3 qs lo/\SRk key (arrOf st3) lo (lo + n)) (Q:=λc st3=>c=(none,())/\∃ qs,SInv κ ok key a₀ st3 qs lo/\SRk key (arrOf st3) lo (lo + n)) ?_ (λ_ _ hh=>hh) ⟨rfl,qs,S2,r2⟩) ?_)
    ·rintro y c st3 _ hy ⟨rfl,qs3,S3,r3⟩
     refine wpS_bind (wpS_get ?_)
     have hl:(pendingOf st3).size=qs3.length:=by rw [<- S3.pend,Ab,Array.length_toList]
     split
     ·rename_i older hm
      split
      ·exact wpS_pure ⟨rfl,qs3,S3,r3⟩
      ·have h1:(pendingOf st3).size > 1:=by
        rcases Nat.lt_or_ge 1 (pendingOf st3).size with z | z
        ·exact z
        ·rw [if_neg (by lia)] at hm; cases hm
       refine wpS_bind (S3.merge hc (by lia) λst4 qs4 S4 l4 k4=>?_)
       rw [if_neg (by decide)]
       exact wpS_pure ⟨rfl,qs4,S4,V6 r3 λz z1 z2=>k4 z z1⟩
     ·exact wpS_pure ⟨rfl,qs3,S3,r3⟩
    ·rintro c st3 ⟨rfl,qs3,S3,r3⟩
     dsimp only
     refine wpS_bind (wpS_modify ?_)
     refine wpS_bind (wpS_modify (wpS_pure ⟨_,_,rfl,push n _ qs3 m1 m2 ⟨S3.kind,S3.fail,S3.perm,?_,S3.ch,S3.runs,S3.le,S3.oks⟩ r3,.inr (by lia)⟩))
     show ((pendingOf st3).modify ((pendingOf st3).size - 1) _).toList.map pr2=_
     rw [<- S3.pend]
     apply List.ext_getElem?
     intro z
     rw [Ah,Ah,Array.getElem?_toList,Array.getElem?_toList,Array.getElem?_modify]
     split
     ·rw [Option.map_map]; rfl
     ·rfl
 case post =>
  rintro c st' ⟨rfl,qs,S⟩
  dsimp only
  refine wpS_bind (wpS_mono (wpS_forRange (I:=λx c st2=>c=(none,())/\∃ qs,SInv κ ok key a₀ st2 qs a₀.size/\(qs.length<=1\/qs.length + x<=a₀.size)) (Q:=λc st2=>c=(none,())/\∃ qs,SInv κ ok key a₀ st2 qs a₀.size/\qs.length<=1) ?step2 ?fin2 ?init2) ?post2)
  case init2=>exact ⟨rfl,qs,S,.inr (by have:=Uj S.ch; lia)⟩
  case fin2 =>
   rintro c st2 ⟨rfl,qs,S,z⟩
   exact ⟨rfl,qs,S,by lia⟩
  case step2 =>
   rintro x c st2 _ hx ⟨rfl,qs,S,z⟩
   refine wpS_bind (wpS_get ?_)
   have hl:(pendingOf st2).size=qs.length:=by rw [<- S.pend,Ab,Array.length_toList]
   try dsimp only
   by_cases c1:(pendingOf st2).size<=1
   ·rw [if_pos c1]
    exact wpS_pure ⟨rfl,qs,S,by lia⟩
   rw [if_neg c1]
   have mg:∀ i,i + 1 < qs.length->wpS (model prog w) A E s (do
     let __do_lift <- mergeAt' i
     if (!__do_lift)=true then pure (ForInStep.done (some (),())) else pure (ForInStep.yield (none,()))) (λr st3=>r=ForInStep.yield (none,())/\∃ qs',SInv κ ok key a₀ st3 qs' a₀.size/\qs'.length + 1=qs.length) st2:=λi hi=>by
    refine wpS_bind (S.merge hc hi λst3 qs' S3 l3 _=>?_)
    rw [if_neg (by decide)]
    exact wpS_pure ⟨rfl,qs',S3,l3⟩
   refine wpS_mono (mg _ ?_) ?_
   ·(repeat' split) <;> lia
   ·rintro r st3 ⟨rfl,qs',S3,l3⟩
    exact ⟨rfl,qs',S3,by lia⟩
  case post2 =>
   rintro c st2 ⟨rfl,qs,S,z⟩
   refine wpS_pure (q st2 S.perm S.fail ?_)
   have:SRk key (arrOf st2) 0 a₀.size:=by
    have hch:=S.ch
    have hr:=S.runs
    cases qs with
    | nil=>have:0=a₀.size:=hch; lia
    | cons q' r =>
     cases r with
     | nil =>
      obtain ⟨x,n⟩:=q'
      obtain ⟨e1,_,e2⟩:=hch
      have e2:0 + n=a₀.size:=e2
      have:=hr (x,n) List.mem_cons_self
      subst e1
      rw [Nat.zero_add] at e2
      subst e2
      have this:SRk key (arrOf st2) 0 (0 + a₀.size):=this
      rwa [Nat.zero_add] at this
     | cons _ _=>simp at z
   have u:=Fs (i:=0) (j:=(arrOf st2).size) (Nat.le_refl _) (by rw [S.sz]; exact this)
   rwa [Array.extract_size] at u
end
end L2
namespace L2
open PySem PySem.Spec PyProof.Rows PySem.W
theorem Zjq {ts:List Addr}:∀ {its:List Value},Vals (ts.map V.ref) its->its=ts.map Value.ref:=by
 induction ts with
 | nil=>intro its h; cases h; rfl
 | cons t r ih =>
  intro its h
  cases h with
  | cons a b =>
   obtain rfl:=(show _=Value.ref t from a)
   rw [ih b]
   rfl
noncomputable def rkL (ls:List (List Int)) (l:List Int):Nat:=(ls.filter λx=>HT.lexLt x l).length
theorem Zd7 {ls:List (List Int)} {l l':List Int} (h:HT.lexLt l' l=false):rkL ls l<=rkL ls l':=by
 unfold rkL
 induction ls with
 | nil=>exact Nat.le_refl _
 | cons x r ih =>
  have imp:HT.lexLt x l=true->HT.lexLt x l'=true:=λz=>by
   cases e:HT.lexLt x l' with
   | true=>rfl
   | false=>rw [HT.lex_le h e] at z; cases z
  rw [List.filter_cons,List.filter_cons]
  cases e1:HT.lexLt x l with
  | true=>rw [imp e1]; simp only [if_true,List.length_cons]; lia
  | false =>
   simp only [Bool.false_eq_true,if_false]
   split
   ·rw [List.length_cons]; lia
   ·exact ih
theorem Zmk {ls:List (List Int)} {l l':List Int} (hm:l∈ls) (h:HT.lexLt l l'=true):rkL ls l < rkL ls l':=by
 have hn:HT.lexLt l' l=false:=by
  cases e:HT.lexLt l' l with
  | false=>rfl
  | true=>have:=HT.lex_trans _ _ _ h e; rw [HT.lex_irr] at this; cases this
 obtain ⟨A,B,rfl⟩:=List.append_of_mem hm
 have a1:=Zd7 (ls:=A) hn
 have b1:=Zd7 (ls:=B) hn
 unfold rkL at a1 b1 ⊢
 rw [List.filter_append,List.filter_append,Ae,Ae,List.filter_cons,List.filter_cons,HT.lex_irr,h]
 simp only [Bool.false_eq_true,if_false,if_true,List.length_cons]
 lia
theorem Zfm {ls:List (List Int)} {l l':List Int} (hm:l∈ls):decide (rkL ls l < rkL ls l')=HT.lexLt l l':=by
 cases e:HT.lexLt l l' with
 | true=>exact decide_eq_true (Zmk hm e)
 | false=>have:=Zd7 (ls:=ls) e; exact decide_eq_false (by lia)
section
variable {prog:Program} {w:World} {A:Around} {E:Value->Shared->Prop} {s:Shared}
noncomputable def LsC (as:List Addr) (c:Addr->List Int) (h:Heap):Prop:=∀ a∈as,∃ its:List Value,h.IsList a its.toArray/\IntsAre its (c a)
theorem Zlm {l b:Addr} {xs ys:Array Value} {ns ms:List Int} {Q:Bool->Shared->Prop} (hl:s.heap.IsList l xs) (hb:s.heap.IsList b ys) (hi:IntsAre xs.toList ns) (hj:IntsAre ys.toList ms) (hu:A.units < cLine) (h:Q (HT.lexLt ns ms) s):wpAny (model prog w) A (oneLt' true (.ref l) (.ref b)) Q E s:=by
 obtain ⟨⟨cls,dd,data,sl⟩,ho,hc,n,hd⟩:=id hl
 obtain ⟨⟨cls2,dd2,data2,sl2⟩,ho2,hc2,n2,hd2⟩:=id hb
 simp only at hc hd hc2 hd2
 subst hc hd hc2 hd2
 rw [oneLt'_eq]
 simp only [if_true]
 refine Al (wpAny_cRoomFor hu ?_)
 refine Al (wpAny_callSpecialIfBound?_slot ⟨_,ho,rfl⟩ PySem.F.slot_list_lt (call_meets PySem.F.slot_list_lt ⟨_,ho,rfl⟩ PySem.F.entry_list_lt (PySem.F.args_list_lt_2 _ _) (_root_.HL.list_lt l b xs ys n n2 dd dd2 sl sl2 ns ms hi hj) ⟨ho,ho2,?_⟩))
 exact wpAny_truthy_bool h
theorem Zem {as:List Addr} {c:Addr->List Int} (hJ:LsC as c s.heap) (hn:0 < as.length) {Q:SortKind->Shared->Prop} (h:Q oneType' s):wpAny (model prog w) A (keyKind' (as.map Value.ref).toArray) Q E s:=by
 rw [keyKind'_eq,List.mapM_toArray]
 have ty:∀ a∈as,s.TypeIs (.ref a) "list":=λa ha=>by
  obtain ⟨its,⟨o,ho,hc,_⟩,_⟩:=hJ a ha
  exact ⟨o,ho,hc⟩
 have firsts:∀ (l:List Addr),(∀ a∈l,a∈as)->∀ {Q:List (Option Value)->Shared->Prop},Q (l.map λ_=>none) s->wpAny (model prog w) A ((l.map Value.ref).mapM firstOfTuple') Q E s:=λl=>by
  induction l with
  | nil=>intro _ Q h; exact wpAny_pure h
  | cons a l ih =>
   intro hl Q h
   rw [List.map_cons,List.mapM_cons]
   refine Al ?_
   show wpAny _ _ (do if (<- typeOf (.ref a)) != .type "tuple" then return none else return (<- Builtin.List.listItems (.ref a))[0]?) _ _ _
   refine Al (wpAny_typeOf (ty a (hl a List.mem_cons_self)) ?_)
   rw [if_pos (by decide)]
   refine wpAny_pure ?_
   exact Al (ih (λb hb=>hl b (List.mem_cons_of_mem _ hb)) (wpAny_pure h))
 have types:∀ (l:List Addr),(∀ a∈l,a∈as)->∀ {Q:List Value->Shared->Prop},Q (l.map λ_=>Value.type "list") s->wpAny (model prog w) A ((l.map Value.ref).mapM typeOf) Q E s:=λl=>by
  induction l with
  | nil=>intro _ Q h; exact wpAny_pure h
  | cons a l ih =>
   intro hl Q h
   rw [List.map_cons,List.mapM_cons]
   refine Al (wpAny_typeOf (ty a (hl a List.mem_cons_self)) ?_)
   exact Al (ih (λb hb=>hl b (List.mem_cons_of_mem _ hb)) (wpAny_pure h))
 cases as with
 | nil=>simp at hn
 | cons a0 r =>
  refine Al ?_
  refine wpAny_map ?_
  refine firsts (a0 :: r) (λa h=>h) ?_
  rw [if_neg (by simp),if_neg (by simp)]
  rw [oneTypeOnly'_eq,List.mapM_toArray]
  refine Al (Al (wpAny_map (types (a0 :: r) (λa h=>h) ?_)))
  have hall:((List.map (λ_=>Value.type "list") (a0 :: r)).toArray.all λx=>x == Value.type "list")=true:=by
   simp only [List.all_toArray,List.all_map,List.all_eq_true]
   intro _ _
   rfl
  have h0:(List.map (λ_=>Value.type "list") (a0 :: r)).toArray[0]?=some (Value.type "list"):=by simp
  rw [h0]
  simp only [hall,if_true]
  exact wpAny_pure (wpAny_pure h)
theorem LsC.stay {as:List Addr} {c:Addr->List Int} {h h':Heap} {p:Addr} (hJ:LsC as c h) (hno:∀ a∈as,a≠p) (k:∀ b o,b≠p->h.get? b=some o->h'.get? b=some o):LsC as c h':=λa ha=>by
 obtain ⟨its,⟨o,ho,hc⟩,n⟩:=hJ a ha
 exact ⟨its,⟨o,k a o (hno a ha) ho,hc⟩,n⟩
noncomputable def adrK (p:Keyed):Addr:=match p.1 with | .ref b=>b | _=>0
theorem Fq:∀ (as:List Addr),(as.map Value.ref).zip (as.map Value.ref)=as.map λb=>(Value.ref b,Value.ref b)
 | []=>rfl
 | a :: r=>by rw [List.map_cons,List.zip_cons_cons,Fq r]; rfl
theorem Zgz {as:List Addr} {c:Addr->List Int} (hu:A.units < cLine) (hJ:LsC as c s.heap):CmpK prog w A E s oneType' (λp=>∃ b∈as,p=(Value.ref b,Value.ref b)) (λp=>rkL (as.map c) (c (adrK p))):=by
 rintro x y ⟨b1,m1,rfl⟩ ⟨b2,m2,rfl⟩ st Q hk q
 have q:Q (some (decide (rkL (as.map c) (c b1) < rkL (as.map c) (c b2)))) st:=q
 rw [Zfm (List.mem_map.mpr ⟨b1,m1,rfl⟩)] at q
 obtain ⟨i1,l1,n1⟩:=hJ b1 m1
 obtain ⟨i2,l2,n2⟩:=hJ b2 m2
 rw [lt'_eq]
 refine wpS_bind (wpS_get ?_)
 rw [hk,keyLt'_oneType]
 refine wpS_bind (wpS_lift (wpAny_attempt (Zlm l1 l2 (by simpa using n1) (by simpa using n2) hu ⟨rfl,?_⟩)))
 exact wpS_pure q
theorem Fl {a:Addr} {as:List Addr} {c:Addr->List Int} {n:Nat} {P:PySem.Fin->Shared->Prop} (hu:A.units < cLine) (ho:s.heap.get? a=some (seqObj "list" (as.map Value.ref).toArray n)) (hz:as.length<=1000) (hJ:LsC as c s.heap) (hna:∀ b∈as,b≠a)
  (h:∀ bs:List Addr,bs.Perm as->bs.Pairwise (λx y=>HT.lexLt (c y) (c x)=false)->P (.done (.ret .none)) { s with heap:=sortedHeap s.heap a (as.map Value.ref) (bs.map Value.ref).toArray }) :
  wpAny (model prog w) A (Builtin.«list.sort» ⟨[.ref a],[]⟩) P E s:=by
 rw [list_sort_plain]
 have ha:a < s.heap.objs.size:=Heap.lt_size ho
 have hl:(as.map Value.ref).length=as.length:=Ab _
 refine Al (listItems_at ho rfl ?_)
 refine Al (listUpdate_at ho rfl ?_ (hsz:=by rw [List.size_toArray,hl,sizeLine_eq]; lia))
 obtain ⟨e1,ho1⟩:∃ e1,(s.heap.update a (Obj.mapSeq λ_=>#[])).get? a=some (seqObj "list" #[] e1):=⟨_,get?_update_seq ho (λ_=>#[])⟩
 refine Al (seqEpoch_at ho1 rfl ?_)
 refine Al (wpAny_newTuple ?_ (by rw [hl,sizeLine_eq]; lia))
 refine Al (wpAny_newList ?_)
 refine wpAny_holding ?_
 generalize hvs:as.map Value.ref=vs at *
 have ho6:(((s.heap.update a (Obj.mapSeq λ_=>#[])).push (seqObj "tuple" vs.toArray 0)).push (seqObj "list" #[] 0)).get? a=some (seqObj "list" #[] e1):=by
  rw [Heap.get?_push_ne _ _ _ (by rw [size_push',Heap.size_update]; exact Nat.ne_of_lt (Nat.lt_succ_of_lt ha)),Heap.get?_push_ne _ _ _ (by rw [Heap.size_update]; exact Nat.ne_of_lt ha)]
  exact ho1
 have hk6:∀ b o,b≠a->s.heap.get? b=some o->(((s.heap.update a (Obj.mapSeq λ_=>#[])).push (seqObj "tuple" vs.toArray 0)).push (seqObj "list" #[] 0)).get? b=some o:=λb o hb e =>
  Ak _ (Ak _ ((Heap.get?_update_other _ _ (Ne.symm hb)).trans e))
 have hsh:∀ out,sortedHeap s.heap a vs out=(((s.heap.update a (Obj.mapSeq λ_=>#[])).push (seqObj "tuple" vs.toArray 0)).push (seqObj "list" #[] 0)).update a (Obj.mapSeq λ_=>out):=λ_=>rfl
 show wpAny (model prog w) A _ P E { s with heap:=((s.heap.update a (Obj.mapSeq λ_=>#[])).push (seqObj "tuple" vs.toArray 0)).push (seqObj "list" #[] 0) }
 generalize ((s.heap.update a (Obj.mapSeq λ_=>#[])).push (seqObj "tuple" vs.toArray 0)).push (seqObj "list" #[] 0)=h6 at ho6 hk6 hsh ⊢
 dsimp only
 have hsz:vs.toArray.size=vs.length:=by simp
 by_cases h2:vs.toArray.size < 2
 ·rw [if_pos h2,if_pos h2]
  refine Al (wpAny_pure ?_)
  rw [StateT.run_pure]
  refine Al (wpAny_pure ?_)
  dsimp only
  refine Al (seqEpoch_at ho6 rfl ?_)
  refine Al (listUpdate_at ho6 rfl ?_ (hsz2:=by rw [Array.size_map]; show (pairsOf vs).size<=_; rw [pairsOf_size,sizeLine_eq]; lia))
  simp only [bne_self_eq_false,Bool.false_eq_true,if_false]
  have fin:=h as (List.Perm.refl _) (by
   cases as with
   | nil=>exact List.Pairwise.nil
   | cons x r =>
    cases r with
    | nil=>exact List.pairwise_singleton _ _
    | cons y r=>simp at hl; lia)
  refine wpAny_pure ?_
  have e:vs.toArray=(arrOf (SortSt.mk' general' (vs.toArray.zip vs.toArray) #[] 7 none)).map (·.2):=by
   show _=(vs.toArray.zip vs.toArray).map (·.2)
   apply Array.ext'
   simp [List.map_snd_zip]
  rw [hvs,e,hsh] at fin
  exact fin
 ·rw [if_neg h2,if_neg h2]
  have h2':2<=vs.length:=by lia
  have hJ6:=hJ.stay hna hk6
  have kd:=λQ h=>Zem (prog:=prog) (w:=w) (A:=A) (E:=E) (s:={ s with heap:=h6 }) hJ6 (by lia) (Q:=Q) h
  rw [hvs] at kd
  refine Al (kd _ ?_)
  have hz2:vs.toArray.zip vs.toArray=(as.map λb=>(Value.ref b,Value.ref b)).toArray:=by
   apply Array.ext'
   rw [Array.toList_zip,<- hvs,Fq]
  have W:=Zjj (st:=SortSt.mk' oneType' (vs.toArray.zip vs.toArray) #[] 7 none) (Zgz (prog:=prog) (w:=w) (A:=A) (E:=E) (s:={ s with heap:=h6 }) hu hJ6) rfl rfl rfl (λp hp=>by
    have hp:p∈(vs.toArray.zip vs.toArray).toList:=hp
    rw [hz2] at hp
    obtain ⟨b,hb,rfl⟩:=List.mem_map.mp hp
    exact ⟨b,hb,rfl⟩) (by show 2<=(vs.toArray.zip vs.toArray).size; rw [hz2,List.size_toArray,Ab]; lia)
   (Q:=λ_ st'=>(arrOf st').Perm (vs.toArray.zip vs.toArray)/\failedOf st'=none/\UpK (λp=>rkL (as.map c) (c (adrK p))) (arrOf st').toList) λst' a1 a2 a3=>⟨a1,a2,a3⟩
  refine Al (wpAny_mono W ?_ λ_ _ e=>e)
  rintro ⟨⟨⟩,st'⟩ s' ⟨rfl,pm,hf,up⟩
  dsimp only at pm hf up ⊢
  refine Al (seqEpoch_at ho6 rfl ?_)
  have pl:(arrOf st').toList.Perm (as.map λb=>(Value.ref b,Value.ref b)):=by
   have:=Array.perm_iff_toList_perm.mp pm
   rw [hz2] at this
   exact this
  have sh:∀ p∈(arrOf st').toList,p=(Value.ref (adrK p),Value.ref (adrK p)):=λp hp=>by
   obtain ⟨b,_,rfl⟩:=List.mem_map.mp (pl.mem_iff.mp hp)
   rfl
  have eo:(arrOf st').map (·.2)=(((arrOf st').toList.map adrK).map Value.ref).toArray:=by
   apply Array.ext'
   rw [Array.toList_map,List.map_map]
   exact List.map_congr_left λp hp=>by rw [sh p hp]; rfl
  have pb:((arrOf st').toList.map adrK).Perm as:=by
   have:=pl.map adrK
   rw [List.map_map] at this
   have e:as.map (adrK ∘ λb=>(Value.ref b,Value.ref b))=as:=by
    have:(adrK ∘ λb=>(Value.ref b,Value.ref b))=id:=rfl
    rw [this,List.map_id]
   rwa [e] at this
  refine Al (listUpdate_at ho6 rfl ?_ (hsz2:=by rw [eo,List.size_toArray,Ab,pb.length_eq,sizeLine_eq]; lia))
  rw [hf]
  simp only [bne_self_eq_false,Bool.false_eq_true,if_false]
  refine wpAny_pure ?_
  rw [eo]
  have fin:=h _ pb (List.pairwise_map.mpr (List.Pairwise.imp_of_mem (λ{x y} hx hy hxy=>?_) up))
  ·rw [hsh] at fin
   exact fin
  ·have hxy:rkL (as.map c) (c (adrK x))<=rkL (as.map c) (c (adrK y)):=hxy
   have hy':adrK y∈as:=pb.mem_iff.mp (List.mem_map.mpr ⟨y,hy,rfl⟩)
   rw [<- Zfm (ls:=as.map c) (List.mem_map.mpr ⟨_,hy',rfl⟩)]
   exact decide_eq_false (by lia)
end
section
variable {X:Cx}
theorem Vi (hu:X.A.units + 64 < cLine):Y1 X (.builtin "sorted") (λxs H Q=>∃ (p:Addr) (as:List Addr) (c:Addr->List Int),xs=[.ref p]/\SqL X.K H p (as.map V.ref)/\(∀ a∈as,SqL X.K H a ((c a).map V.int))/\as.length<=1000 /\
  ∀ (q:Addr) (bs:List Addr),H q=none->bs.Perm as->bs.Pairwise (λx y=>HT.lexLt (c y) (c x)=false)->Q (.ref q) (upd H q (.lst (bs.map V.ref)))):=by
 intro pins s σ H xs us Q I r h
 obtain ⟨p,as,c,rfl,hp,hc,hz,q⟩:=h
 obtain ⟨u,rfl,ru⟩:=Xw r
 obtain rfl:u=Value.ref p:=ru
 obtain ⟨its,rv,pl,_⟩:=I.list hp
 have hits:=Zjq rv
 subst hits
 have hl:(as.map Value.ref).length=as.length:=Ab _
 have hJ:LsC as c s.heap:=λa ha=>by
  obtain ⟨its,r,p,_⟩:=I.list (hc a ha)
  exact ⟨its,p.isList,J5 r⟩
 refine Calls.call_function_entry kind_sorted plain_sorted entry_sorted (args_sorted1 _) ?_
 unfold Builtin.«sorted»
 refine Al (m:=checkCount "sorted" 1 1 _) (wpAny_pure ?_)
 refine Al (collect_list pl.isList ?_ (by rw [hl,sizeLine_eq]; lia))
 have hk':∀ b o,s.heap.get? b=some o->((s.heap.push (seqObj "list" #[] 0)).update s.heap.objs.size (Obj.mapSeq λx=>x ++ (as.map Value.ref).toArray)).get? b=some o:=λb o e =>
  (Heap.get?_update_other _ _ (Nat.ne_of_gt (Heap.lt_size e))).trans (Ak _ e)
 generalize (s.heap.push (seqObj "list" #[] 0)).update s.heap.objs.size (Obj.mapSeq λx=>x ++ (as.map Value.ref).toArray)=h' at hk'
 refine Al (wpAny_newList ?_ (by rw [hl,sizeLine_eq]; lia))
 have I1:Inv X pins σ H { s with heap:=h' }:=I.kept (t':=s.toks) hk'
 have hoL:(h'.push { cls:=.type "list",data:=.seq (as.map Value.ref).toArray }).get? h'.objs.size=some (seqObj "list" (as.map Value.ref).toArray 0):=Heap.get?_push_size _ rfl
 have hJ1:LsC as c (h'.push { cls:=.type "list",data:=.seq (as.map Value.ref).toArray }):=λa ha=>by
  obtain ⟨its,⟨o,ho,hcl⟩,n⟩:=hJ a ha
  exact ⟨its,⟨o,Ak _ (hk' a o ho),hcl⟩,n⟩
 have hna:∀ b∈as,b≠h'.objs.size:=λb hb=>by
  obtain ⟨its,⟨o,ho,_⟩,_⟩:=hJ b hb
  exact Nat.ne_of_lt (Heap.lt_size (hk' b o ho))
 refine Al (wpAny_holding (wpAny_call_entry slot_list_sort ⟨_,hoL,rfl⟩ entry_list_sort (Fl (by show X.A.in1.in1.units < cLine; have e:X.A.in1.in1.units<=X.A.units + 64:=(by unfold Around.in1; first | (dsimp only; lia) | (simp only; lia)); lia) hoL hz hJ1 hna λbs hp1 hp2=>⟨_,rfl,?_⟩) (args_list_sort _)))
 refine wpAny_pure ⟨_,rfl,?_⟩
 obtain ⟨e,he⟩:=sortedHeap_at (out:=(bs.map Value.ref).toArray) hoL
 have kp:∀ b u,h'.get? b=some u->(sortedHeap (h'.push { cls:=.type "list",data:=.seq (as.map Value.ref).toArray }) h'.objs.size (as.map Value.ref) (bs.map Value.ref).toArray).get? b=some u:=λb u hb=>by
  have hlt:b < h'.objs.size:=Heap.lt_size hb
  rw [sortedHeap_old (Nat.ne_of_lt hlt) (by rw [Heap.size_push]; exact Nat.lt_succ_of_lt hlt)]
  exact Ak _ hb
 have hv:∀ l:List Addr,Vals (l.map V.ref) (l.map Value.ref):=λl=>by
  induction l with
  | nil=>exact .nil
  | cons b l ih=>exact .cons rfl ih
 refine ⟨.ref h'.objs.size,upd H h'.objs.size (.lst (bs.map V.ref)),I1.laid kp (Nat.le_refl _) ?_,rfl,q _ bs I1.fresh hp1 hp2⟩
 refine ⟨?_,bs.map Value.ref,e,hv bs,?_⟩
 ·rw [Ab,hp1.length_eq,sizeLine_eq]; lia
 ·exact he
end
end L2
namespace KT
open PySem L2
noncomputable def kP (c:Nat):List Int:=[((c / 1000:Nat):Int),((c % 1000:Nat):Int)]
theorem Zlw {c d:Nat} (h:kP c=kP d):c=d:=by
 unfold kP at h
 injection h with h1 h2
 injection h2 with h2 _
 lia
theorem Zc4 {α:Type} [DecidableEq α]:∀ (l k:List α),l.Nodup->(∀ x∈l,x∈k)->l.length<=k.length
 | [],_,_,_=>Nat.zero_le _
 | x :: l,k,nd,h=>by
  obtain ⟨n1,n2⟩:=List.nodup_cons.mp nd
  have hx:=h x List.mem_cons_self
  have:=Zc4 l (k.erase x) n2 λy hy=>(List.mem_erase_of_ne (λz=>n1 (by rw [<- z]; exact hy))).mpr (h y (List.mem_cons_of_mem _ hy))
  rw [List.length_erase_of_mem hx] at this
  have:=List.length_pos_of_mem hx
  rw [List.length_cons]
  lia
theorem Fw:∀ {l k:List (List Int)},l.Perm k->l.Pairwise (λx y=>HT.lexLt y x=false)->k.Pairwise (λx y=>HT.lexLt y x=false)->l=k
 | [],k,p,_,_=>p.nil_eq
 | a :: l,[],p,_,_=>by have:=p.length_eq; simp at this
 | a :: l,b :: k,p,h1,h2=>by
  obtain ⟨a1,a2⟩:=List.pairwise_cons.mp h1
  obtain ⟨b1,b2⟩:=List.pairwise_cons.mp h2
  have e:a=b:=by
   have ha:a∈b :: k:=p.mem_iff.mp List.mem_cons_self
   have hb:b∈a :: l:=p.mem_iff.mpr List.mem_cons_self
   rcases List.mem_cons.mp ha with z | z
   ·exact z
   ·rcases List.mem_cons.mp hb with y | y
    ·exact y.symm
    ·exact HT.lex_total a b (b1 a z) (a1 b y)
  subst e
  rw [Fw ((List.perm_cons a).mp p) a2 b2]
section
variable {M:List (Option Nat)} {f:Nat->Int} {n:Nat}
noncomputable def eP (M:List (Option Nat)) (f:Nat->Int) (D:List Nat):List Nat:=D.flatMap λd=>[d,sgP M f d]
structure PrD (M:List (Option Nat)) (f:Nat->Int) (D:List Nat):Prop where
 nd:(eP M f D).Nodup
 ok:∀ d∈D,VpP M f d
theorem PrD.nil:PrD M f []:=⟨by simp [eP],λd hd=>absurd hd List.not_mem_nil⟩
theorem Fam.self (h:Fam M f n) (hs:sF f M.length<=1200) {d:Nat} (v:VpP M f d):d∈orbP M f d:=List.mem_of_getElem? (h.orb hs v).head
theorem Fam.prS (h:Fam M f n) (hs:sF f M.length<=1200) {D:List Nat} {c:Nat} (hD:PrD M f D) (v:VpP M f c) (hn:¬ inS M f D c):PrD M f (D ++ [c]):=by
 refine ⟨?_,λd hd=>?_⟩
 ·unfold eP
  rw [List.flatMap_append,List.nodup_append]
  refine ⟨hD.nd,?_,λa ha b hb z=>?_⟩
  ·rw [List.flatMap_singleton]
   simp [(h.sg_ne v).symm]
  ·rw [List.flatMap_singleton] at hb
   subst z
   obtain ⟨d,hd,hm⟩:=List.mem_flatMap.mp ha
   have vd:=hD.ok d hd
   have self:=h.self hs vd
   simp only [List.mem_cons,List.not_mem_nil,or_false] at hm hb
   apply hn
   rcases hm with rfl | rfl
   ·rcases hb with rfl | e
    ·exact ⟨_,hd,.inl self⟩
    ·exact ⟨_,hd,.inr (by rw [<- e]; exact self)⟩
   ·rcases hb with e | e
    ·exact ⟨_,hd,.inr (by rw [<- e,h.sgsg vd]; exact self)⟩
    ·refine ⟨_,hd,.inl ?_⟩
     have:=congrArg (sgP M f) e
     rw [h.sgsg vd,h.sgsg v] at this
     rw [<- this]
     exact self
 ·rcases List.mem_append.mp hd with z | z
  ·exact hD.ok d z
  ·rw [Af z]; exact v
theorem Zly (D:List Nat):(eP M f D).length=2 * D.length:=by
 induction D with
 | nil=>rfl
 | cons d D ih =>
  unfold eP at ih ⊢
  rw [List.flatMap_cons,Ae,ih]
  simp only [List.length_cons,List.length_nil]
  lia
theorem Fam.prL (h:Fam M f n) (hs:sF f M.length<=1200) {D:List Nat} (hD:PrD M f D):D.length<=600:=by
 have:=h.few hs hD.nd λc hc=>by
  obtain ⟨d,hd,hm⟩:=List.mem_flatMap.mp hc
  simp only [List.mem_cons,List.not_mem_nil,or_false] at hm
  rcases hm with rfl | rfl
  ·exact hD.ok _ hd
  ·exact h.sgV (hD.ok _ hd)
 rw [Zly] at this
 lia
theorem Fam.sg_key (h:Fam M f n) {c q:Nat} (v:VpP M f c) (hq:M[c / 1000]?=some (some q)):[((q:Nat):Int),f (c / 1000) - 1 - ((c % 1000:Nat):Int)]=kP (sgP M f c):=by
 obtain ⟨q',e1,e2,v2,_,e5,_⟩:=h.sg v
 rw [hq] at e1
 cases e1
 obtain ⟨v1,v3⟩:=id v
 obtain ⟨f1,f2⟩:=h.nf v1
 have d:=W4 (p:=q) (s:=nN f (c / 1000) - 1 - c % 1000) (by lia)
 unfold kP
 rw [e2,d.1,d.2]
 congr 2
 lia
theorem Fam.tu_key (h:Fam M f n) {c:Nat} (v:VpP M f c):(if ((c % 1000:Nat):Int) < (f (bN (c / 1000)) + f (c / 1000) - f (aN (c / 1000))) / 2 then [((bN (c / 1000):Nat):Int),f (bN (c / 1000)) - 1 - ((c % 1000:Nat):Int)] else [((aN (c / 1000):Nat):Int),f (c / 1000) - 1 - ((c % 1000:Nat):Int)])=kP (tuP f c):=by
 obtain ⟨v1,v2⟩:=v
 generalize hp:c / 1000=p at *
 generalize hs:c % 1000=e at *
 obtain ⟨d1,d2,d3,d4,d5,d6,d7,d8,d9⟩:=Vl p
 have ha:aN p < M.length:=by have:=h.hn; lia
 have hb:bN p < M.length:=by have:=h.hn; lia
 obtain ⟨f1,f2⟩:=h.nf v1
 obtain ⟨f3,f4⟩:=h.nf ha
 obtain ⟨f5,f6⟩:=h.nf hb
 have ev:=h.pc.even p v1
 have t1:=h.pc.tri p v1
 by_cases c1:(e:Int) < (f (bN p) + f p - f (aN p)) / 2
 ·have e1:tuP f c=1000 * bN p + (nN f (bN p) - 1 - e):=by unfold tuP; rw [hp,hs,if_pos c1]
  have dd:=W4 (p:=bN p) (s:=nN f (bN p) - 1 - e) (by lia)
  unfold kP
  rw [if_pos c1,e1,dd.1,dd.2]
  congr 2
  lia
 ·have e1:tuP f c=1000 * aN p + (nN f p - 1 - e):=by unfold tuP; rw [hp,hs,if_neg c1]
  have dd:=W4 (p:=aN p) (s:=nN f p - 1 - e) (by lia)
  unfold kP
  rw [if_neg c1,e1,dd.1,dd.2]
  congr 2
  lia
theorem Fam.sides (h:Fam M f n) {p:Nat} (hp:p < M.length):aN p < M.length/\bN p < M.length:=by
 obtain ⟨d1,d2,_⟩:=Vl p
 have:=h.hn
 lia
noncomputable def Y7 (M:List (Option Nat)) (f:Nat->Int) (D os:List Nat) (c:Nat):Prop:=inS M f D c\/c∈os\/sgP M f c∈os
structure SeenK (M:List (Option Nat)) (f:Nat->Int) (S:Nat->Prop) (ks:List (List Int)):Prop where
 nd:ks.Nodup
 sub:∀ k∈ks,∃ c,VpP M f c/\k=kP c
 mem:∀ c,VpP M f c->(kP c∈ks ↔ S c)
theorem Fam.seen_len (h:Fam M f n) (hs:sF f M.length<=1200) {S:Nat->Prop} {ks:List (List Int)} (hk:SeenK M f S ks):ks.length<=1200:=by
 have h1:=Zc4 ks ((ptsL f M.length).map kP) hk.nd λk hm=>by
  obtain ⟨c,v,rfl⟩:=hk.sub k hm
  exact List.mem_map_of_mem (h.pts_mem.mpr v)
 have h2:=Qs f M.length h.pc.nn
 rw [Ab] at h1
 lia
theorem SeenK.cong {S S':Nat->Prop} {ks:List (List Int)} (hk:SeenK M f S ks) (e:∀ c,VpP M f c->(S c ↔ S' c)):SeenK M f S' ks:=⟨hk.nd,hk.sub,λc v=>(hk.mem c v).trans (e c v)⟩
theorem SeenK.old {S:Nat->Prop} {ks:List (List Int)} {d:Nat} (hk:SeenK M f S ks) (hm:kP d∈ks):SeenK M f (λc=>S c\/c=d) ks:=⟨hk.nd,hk.sub,λc v=>by
 rw [hk.mem c v]
 constructor
 ·exact .inl
 ·rintro (z | rfl)
  ·exact z
  ·exact (hk.mem c v).mp hm⟩
theorem SeenK.snoc {S:Nat->Prop} {ks:List (List Int)} {d:Nat} (hk:SeenK M f S ks) (vd:VpP M f d) (hm:kP d ∉ ks):SeenK M f (λc=>S c\/c=d) (ks ++ [kP d]):=by
 refine ⟨?_,λk hk'=>?_,λc v=>?_⟩
 ·rw [List.nodup_append]
  refine ⟨hk.nd,by simp,λa ha b hb z=>?_⟩
  rw [Af hb] at z
  rw [z] at ha
  exact hm ha
 ·rcases List.mem_append.mp hk' with z | z
  ·exact hk.sub k z
  ·exact ⟨d,vd,Af z⟩
 ·rw [List.mem_append,hk.mem c v,List.mem_singleton]
  constructor
  ·rintro (z | z)
   ·exact .inl z
   ·exact .inr (Zlw z)
  ·rintro (z | rfl)
   ·exact .inl z
   ·exact .inr rfl
theorem SeenK.nil:SeenK M f (λc=>Y7 M f [] [] c) []:=⟨by simp,λk hk=>absurd hk List.not_mem_nil,λc _=>by
 constructor
 ·intro z; exact absurd z List.not_mem_nil
 ·rintro (⟨d,hd,_⟩ | z | z)
  ·exact absurd hd List.not_mem_nil
  ·exact absurd z List.not_mem_nil
  ·exact absurd z List.not_mem_nil⟩
theorem Fam.seen_two (h:Fam M f n) {D os:List Nat} {d:Nat} (vd:VpP M f d) {ks:List (List Int)} (hk:SeenK M f (λc=>(Y7 M f D os c\/c=d)\/c=sgP M f d) ks):SeenK M f (Y7 M f D (os ++ [d])) ks:=hk.cong λc v=>by
 have e:sgP M f c=d ↔ c=sgP M f d:=by
  constructor
  ·intro z; rw [<- z,h.sgsg v]
  ·intro z; rw [z,h.sgsg vd]
 unfold Y7
 simp only [List.mem_append,List.mem_singleton,e]
 constructor
 ·rintro (((z | z | z) | z) | z)
  ·exact .inl z
  ·exact .inr (.inl (.inl z))
  ·exact .inr (.inr (.inl z))
  ·exact .inr (.inl (.inr z))
  ·exact .inr (.inr (.inr z))
 ·rintro (z | (z | z) | z | z)
  ·exact .inl (.inl (.inl z))
  ·exact .inl (.inl (.inr (.inl z)))
  ·exact .inl (.inr z)
  ·exact .inl (.inl (.inr (.inr z)))
  ·exact .inr z
theorem F4 {D os:List Nat} {d:Nat} {ks:List (List Int)} (o:OrbEnd (RnP M f) d os) (hk:SeenK M f (Y7 M f D os) ks):SeenK M f (Y7 M f (D ++ [d]) []) ks:=hk.cong λc v=>by
 unfold Y7 inS
 have e:=Ub o
 constructor
 ·rintro (⟨x,hx,z⟩ | z)
  ·exact .inl ⟨x,List.mem_append_left _ hx,z⟩
  ·exact .inl ⟨d,List.mem_append_right _ List.mem_cons_self,by rw [e]; exact z⟩
 ·rintro (⟨x,hx,z⟩ | z | z)
  ·rcases List.mem_append.mp hx with y | y
   ·exact .inl ⟨x,y,z⟩
   ·rw [Af y,e] at z; exact .inr z
  ·exact absurd z List.not_mem_nil
  ·exact absurd z List.not_mem_nil
theorem Zd3 {D:List Nat} {c:Nat}:Y7 M f D [] c ↔ inS M f D c:=by
 unfold Y7
 simp
theorem Fam.stops (h:Fam M f n) (hs:sF f M.length<=1200) {D os:List Nat} {c x la:Nat} (hD:PrD M f D) (v:VpP M f c) (hn:¬ inS M f D c) (o:Orb (RnP M f) c os) (hl:os[os.length - 1]?=some la) (r:RnP M f la x):Y7 M f D os x ↔ x=c:=by
 have hpos:=o.pos
 have ex:x=it (nxP M f) os.length c:=by
  have:=Ua o _ _ hl
  rw [<- r.2,this,show os.length=(os.length - 1) + 1 by lia]
  rfl
 have vx:VpP M f x:=by rw [ex]; exact h.itV v _
 constructor
 ·rintro (z | z | z)
  ·exfalso
   have go:∀ k,inS M f D (it (nxP M f) k c)->inS M f D c:=λk=>by
    induction k with
    | zero=>exact id
    | succ k ih=>intro hz; exact ih (h.back hs hD.ok (h.itV v k) hz)
   rw [ex] at z
   exact hn (go _ z)
  ·by_cases e:x=c
   ·exact e
   ·exact absurd z (o.new h.rinj hl r e)
  ·exact absurd (h.sgsg vx) (h.other v o z os.length ex (Nat.le_refl _))
 ·rintro rfl
  exact .inr (.inl (List.mem_of_getElem? o.head))
end
noncomputable def Off (a b:Addr) (H H':Hp):Prop:=∀ x o,x≠a->x≠b->H x=some o->H' x=some o
theorem Off.refl {a b:Addr} {H:Hp}:Off a b H H:=λ_ _ _ _ h=>h
theorem Off.trans {a b:Addr} {H H1 H2:Hp} (s:Off a b H H1) (s':Off a b H1 H2):Off a b H H2:=λx o h1 h2 h=>s' x o h1 h2 (s x o h1 h2 h)
theorem Off.of {a b:Addr} {H H1:Hp} (s:Same H H1):Off a b H H1:=λx o _ _ h=>s x o h
theorem Off.a {a b:Addr} {H H1:Hp} {o:HO} (s:Off a b H H1):Off a b H (upd H1 a o):=λx u h1 h2 h=>by rw [Ze h1]; exact s x u h1 h2 h
theorem Off.b {a b:Addr} {H H1:Hp} {o:HO} (s:Off a b H H1):Off a b H (upd H1 b o):=λx u h1 h2 h=>by rw [Ze h2]; exact s x u h1 h2 h
theorem Off.same {a b:Addr} {H0 H H':Hp} (s:Off a b H H') (s0:Same H0 H) (ha:H0 a=none) (hb:H0 b=none):Same H0 H':=λx u e=>s x u (λz=>by rw [z,ha] at e; cases e) (λz=>by rw [z,hb] at e; cases e) (s0 x u e)
end KT
set_option genInjectivity false
set_option genSizeOf false
namespace KT
open PySem L2
noncomputable def bmV:List Value:=[.type "ValueError",.type "Exception",.type "BaseException",.type "object"]
theorem FBV:ExcBaseFacts "ValueError" "ValueError.__new__" "ValueError.__init__" bmV:=PySem.F.excBase_ValueError
theorem map_some {α:Type} {f:α->V} {l:List α} {i:Nat} {y:V} (h:(l.map f)[i]?=some y):∃ q,l[i]?=some q/\y=f q:=by
 rw [Ah] at h
 cases e:l[i]? with
 | none=>rw [e] at h; cases h
 | some q=>rw [e] at h; cases h; exact ⟨q,rfl,rfl⟩
structure FT (K:PySem.W.Frag) (mg:Str->Option Value) (x:Str) (st:Stmt) (ps:List Str) (f:Addr) (d:FuncData):Prop where
 F:Fun K x x st f d
 b:X0 K d ps []
 g:mg x=some (.ref f)
structure FM (K:PySem.W.Frag) (C:Addr) (x q:Str) (st:Stmt) (ps:List Str) (f:Addr) (d:FuncData):Prop where
 F:Fun K x q st f d
 b:X0 K d ps []
 m:Meth K C x f
section
variable {X:Cx} {fr:Bool} {j k:Nat} {f:Addr} {fd:FuncData} {ps:List Str} {sp:Sp} {x:Str} {st:Stmt} {p pos:Pos} {e:Expr} {es:List Expr} {t:TA}
theorem pcT (F:FnOk X.prog X.w X.K X.mg X.base (CXr X.prog X.w) k f fd ps sp) (hr:Room j X.A) (q:FT X.K X.mg x st ps f fd) (ha:PA X (e :: es) t) (hk:k<=j:=by decide) (hg:Gl X x:=by rfl) (hdb:(x == ("__debug__":Str))=false:=by decide) (he:starEach (e :: es) X.env=(false,eval e X.env) :: starEach es X.env:=by rfl) (hpl:(backTo pos (starEach es X.env)).any (·.1)=false:=by rfl) :
  PE X (.Call (.Name x p) (e :: es) [] pos) (Zip sp [] E0 t):=Zjz F (hr.mono hk) hg q.g q.F.kp q.b .nil Xz ha hdb he hpl
theorem pxT (F:FnOk X.prog X.w X.K X.mg X.base (CXr X.prog X.w) k f fd ps sp) (hr:Room j X.A) (q:FT X.K X.mg x st ps f fd) (ha:PA X (e :: es) t) (hk:k<=j:=by decide) (hg:Gl X x:=by rfl) (hex:X.ex=[]:=by rfl) (hx:X.xe=(λ_ _=>False):=by rfl) (hdb:(x == ("__debug__":Str))=false:=by decide) (he:starEach (e :: es) X.env=(false,eval e X.env) :: starEach es X.env:=by rfl) (hpl:(backTo pos (starEach es X.env)).any (·.1)=false:=by rfl) :
  PEX fr X (.Call (.Name x p) (e :: es) [] pos) (Ze6 sp [] t):=Zhr F (hr.mono hk) hg q.g q.F.kp q.b .nil ha hex hx hdb he hpl
end
noncomputable def BA (q:Str) (st:Stmt) (ps:List Str):Prop:=∀ (x:Str) (kV doc pm:Value) (an:Option Addr) (cdv ct:Value) (us:List Value),us.length=ps.length->bindArgs (PySem.W.fnOf x q (Y9 st) (Yk st) (Zi st) .none kV doc pm an cdv ct) ⟨us,[]⟩=pure (ps.zip us)
theorem Zc9 {α:Type} {us:List α} (e:us.length=2):∃ a b,us=[a,b]:=by
 obtain ⟨a,us,rfl⟩:=List.exists_cons_of_length_eq_add_one e
 obtain ⟨b,rfl⟩:=List.length_eq_one_iff.mp (Nat.succ.inj e)
 exact ⟨a,b,rfl⟩
theorem Zgd {α:Type} {us:List α} (e:us.length=3):∃ a b c,us=[a,b,c]:=by
 obtain ⟨a,us,rfl⟩:=List.exists_cons_of_length_eq_add_one e
 obtain ⟨b,c,rfl⟩:=Zc9 (Nat.succ.inj e)
 exact ⟨a,b,c,rfl⟩
theorem ba1 {q:Str} {st:Stmt} {ps:List Str} (h:∀ (x:Str) (kV doc pm:Value) (an:Option Addr) (cdv ct:Value) (a:Value),bindArgs (PySem.W.fnOf x q (Y9 st) (Yk st) (Zi st) .none kV doc pm an cdv ct) ⟨[a],[]⟩=pure (ps.zip [a])) (hl:ps.length=1):BA q st ps:=λx kV doc pm an cdv ct us e=>by
 rw [hl] at e
 obtain ⟨a,rfl⟩:=List.length_eq_one_iff.mp e
 exact h x kV doc pm an cdv ct a
theorem ba2 {q:Str} {st:Stmt} {ps:List Str} (h:∀ (x:Str) (kV doc pm:Value) (an:Option Addr) (cdv ct:Value) (a b:Value),bindArgs (PySem.W.fnOf x q (Y9 st) (Yk st) (Zi st) .none kV doc pm an cdv ct) ⟨[a,b],[]⟩=pure (ps.zip [a,b])) (hl:ps.length=2):BA q st ps:=λx kV doc pm an cdv ct us e=>by
 rw [hl] at e
 obtain ⟨a,b,rfl⟩:=Zc9 e
 exact h x kV doc pm an cdv ct a b
theorem ba3 {q:Str} {st:Stmt} {ps:List Str} (h:∀ (x:Str) (kV doc pm:Value) (an:Option Addr) (cdv ct:Value) (a b c:Value),bindArgs (PySem.W.fnOf x q (Y9 st) (Yk st) (Zi st) .none kV doc pm an cdv ct) ⟨[a,b,c],[]⟩=pure (ps.zip [a,b,c])) (hl:ps.length=3):BA q st ps:=λx kV doc pm an cdv ct us e=>by
 rw [hl] at e
 obtain ⟨a,b,c,rfl⟩:=Zgd e
 exact h x kV doc pm an cdv ct a b c
section
variable {K:PySem.W.Frag} {h:Heap} {mg:Str->Option Value} {C:Addr} {x q:Str} {st:Stmt} {ps:List Str} {f:Addr} {oc:Value} {od an:Option Addr} {sl:Array (Option Value)} {kV doc pm cd ct:Value}
theorem FT.of (X:K.In h) (G:h.Ns mainGlobals mg) (B:BA x st ps) (a:PySem.W.nsIn K mainGlobals x=some (some (.ref f))) (l:K.lookup f=some ⟨oc,od,.func (PySem.W.fnOf x x (Y9 st) (Yk st) (Zi st) .none kV doc pm an cd ct),sl⟩)
  (c:PySem.W.codeIn K cd x=true) (k:PySem.W.keepIn K (.ref f)=true):FT K mg x st ps f (PySem.W.fnOf x x (Y9 st) (Yk st) (Zi st) .none kV doc pm an cd ct):=⟨Kh l c k,(Kh l c k).binds (B x),PySem.W.mg_of X G a⟩
theorem FM.of (B:BA q st ps) (a:PySem.W.findIn K (.ref C) x=some (some (.ref f))) (i:PySem.W.isFn K (.ref f)=true) (l:K.lookup f=some ⟨oc,od,.func (PySem.W.fnOf x q (Y9 st) (Yk st) (Zi st) .none kV doc pm an cd ct),sl⟩)
  (c:PySem.W.codeIn K cd q=true) (k:PySem.W.keepIn K (.ref f)=true):FM K C x q st ps f (PySem.W.fnOf x q (Y9 st) (Yk st) (Zi st) .none kV doc pm an cd ct):=⟨Kh l c k,(Kh l c k).binds (B x),⟨a,i,k⟩⟩
end
noncomputable def top (i:Nat):Stmt:=PySem.Challenge.pw_tentloops_k32_traced_threads.main.body.getD i (.Pass ⟨0,0,0,0⟩)
noncomputable abbrev Zcu:Stmt:=top 13
noncomputable abbrev Zai:Stmt:=top 14
noncomputable abbrev Ou:Stmt:=top 15
noncomputable abbrev Oo:Stmt:=top 16
noncomputable abbrev Op:Stmt:=top 17
noncomputable abbrev Uu:Stmt:=Xv (top 18) 0
noncomputable abbrev Us:Stmt:=Xv (top 18) 1
noncomputable abbrev Vq:Stmt:=Xv (top 18) 3
noncomputable abbrev J0:Stmt:=Xv (top 18) 4
noncomputable abbrev Qb:Stmt:=Xv (top 18) 5
noncomputable abbrev Jz:Stmt:=Xv (top 18) 6
noncomputable abbrev Qr:Stmt:=Xv (top 18) 7
noncomputable abbrev Ve:Stmt:=Xv (top 18) 8
noncomputable abbrev Ut:Stmt:=Xv (top 18) 9
noncomputable abbrev Qq:Stmt:=Xv (top 18) 10
noncomputable abbrev Ur:Stmt:=top 20
noncomputable abbrev Go:Stmt:=top 21
noncomputable abbrev Zcs:Stmt:=top 22
noncomputable abbrev Va:Stmt:=top 23
noncomputable abbrev Ov:Stmt:=top 24
noncomputable abbrev Zaa:Stmt:=top 25
noncomputable abbrev Vo:Stmt:=top 26
noncomputable abbrev Zct:Stmt:=top 27
noncomputable abbrev Qo:Stmt:=top 30
noncomputable abbrev Vc:Stmt:=top 31
noncomputable abbrev Vb:Stmt:=top 32
noncomputable abbrev Vd:Stmt:=top 33
noncomputable abbrev Qp:Stmt:=top 34
noncomputable abbrev Vp:Stmt:=top 35
noncomputable abbrev Zab:Stmt:=top 36
noncomputable abbrev Zah:Stmt:=top 38
noncomputable abbrev Up:Stmt:=top 39
noncomputable abbrev Zae:Stmt:=top 40
noncomputable abbrev Zaf:Stmt:=top 41
noncomputable abbrev Zad:Stmt:=top 42
noncomputable abbrev Uq:Stmt:=top 43
noncomputable abbrev Ot:Stmt:=top 44
noncomputable abbrev Zac:Stmt:=top 45
noncomputable abbrev Os:Stmt:=top 46
noncomputable abbrev Gk:Stmt:=top 47
noncomputable abbrev Gn:Stmt:=top 48
noncomputable abbrev Oq:Stmt:=top 49
noncomputable abbrev Gj:Stmt:=top 50
noncomputable abbrev Zag:Stmt:=top 51
noncomputable abbrev Gm:Stmt:=top 52
noncomputable abbrev Ziq:Stmt:=top 53
structure Adr where
 (aa dH cY cf cg ci aK bP bz aw aD ax aL aY bQ aM bR cK dJ aZ cj cZ bA dL aO bd be bg aP bC c6 c7 bS c8 c9 dc bT cn de cp cL cM cq cN df cO eF aE bD bv:Addr)
 (dM dg cu cv cw bU bV bE ay aF az aQ bi bW aS bX cP dO bj cx dh bF dP aT bn bo bp aU bG di dj bY dk dl dq bZ cy dr cz cQ cR cA cS du cT dW:FuncData)
 (b9 bK:Tok)
structure Txt (w:World) (K:PySem.W.Frag) (mg:Str->Option Value) (t:Adr):Prop where
 ee:mg "Tent"=some (.ref t.aa)
 ad:Cls K t.aa
 aB:Wo K t.aa "cloths"
 ag:Wo K t.aa "names_at"
 am:Wo K t.aa "spots"
 bH:Wo K t.aa "mates"
 cX:FT K mg "after" Zcu ["place"] t.dH t.dM
 cB:FT K mg "before" Zai ["place"] t.cY t.dg
 aq:FT K mg "cloth_of" Ou ["place"] t.cf t.cu
 cC:FT K mg "spots_of" Oo ["names_at"] t.cg t.cv
 cD:FT K mg "mates_of" Op ["spots","count"] t.ci t.cw
 b6:FM K t.aa "__init__" "Tent.__init__" Uu ["self","rows"] t.aK t.bU
 aV:FM K t.aa "rows" "Tent.rows" Us ["self"] t.bP t.bV
 aH:FM K t.aa "seams" "Tent.seams" Vq ["self"] t.bz t.bE
 ah:FM K t.aa "all_places" "Tent.all_places" J0 ["self"] t.aw t.ay
 ak:FM K t.aa "has_place" "Tent.has_place" Qb ["self","place"] t.aD t.aF
 ai:FM K t.aa "look_place" "Tent.look_place" Jz ["self","place"] t.ax t.az
 ar:FM K t.aa "seam_at" "Tent.seam_at" Qr ["self","place"] t.aL t.aQ
 aC:FM K t.aa "places" "Tent.places" Ve ["self","seam"] t.aY t.bi
 aj:FM K t.aa "mate" "Tent.mate" Ut ["self","place"] t.bQ t.bW
 au:FM K t.aa "sort_of" "Tent.sort_of" Qq ["self","seam"] t.aM t.aS
 b7:FT K mg "crossable" Ur ["tent","place"] t.bR t.bX
 cU:FT K mg "follows" Go ["tent","ahead","place"] t.cK t.cP
 dQ:FT K mg "plain" Zcs ["tent","word"] t.dJ t.dO
 bq:FT K mg "look_thread" Va ["tent","word"] t.aZ t.bj
 cE:FT K mg "backward" Ov ["tent","word"] t.cj t.cx
 cF:FT K mg "turned" Zaa ["word","by"] t.cZ t.dh
 aI:FT K mg "least_turn" Vo ["word"] t.bA t.bF
 dR:FT K mg "least" Zct ["tent","word"] t.dL t.dP
 aW:FT K mg "look_numbers" Qo ["tent","counts"] t.aO t.aT
 br:FT K mg "look_counts" Vc ["tent","counts"] t.bd t.bn
 bu:FT K mg "look_family" Vb ["tent","counts"] t.be t.bo
 ao:FT K mg "across_seam" Vd ["tent","numbers","at"] t.bg t.bp
 av:FT K mg "across_cloth" Qp ["numbers","at"] t.aP t.aU
 bI:FT K mg "gone_round" Vp ["tent","numbers","start"] t.bC t.bG
 cG:FT K mg "traced" Zab ["tent","counts"] t.c6 t.di
 aG:FT K mg "_law_cell" Zah ["_law_script","_law_at"] t.c7 t.dj
 aA:FT K mg "_law_numbers" Up ["_law_cell_here","_law_many"] t.bS t.bY
 dw:FT K mg "_law_sewn" Zae ["_law_nums","_law_many","_law_share"] t.c8 t.dk
 dz:FT K mg "_law_rows" Zaf ["_law_mates","_law_start","_law_step"] t.c9 t.dl
 dA:FT K mg "_law_tent" Zad ["_law_script"] t.dc t.dq
 b8:FT K mg "_law_lowered" Uq ["_law_mates","_law_counts"] t.bT t.bZ
 cH:FT K mg "_law_family" Ot ["_law_nums","_law_mates","_law_word"] t.cn t.cy
 dB:FT K mg "_law_walk" Zac ["_law_mates","_law_nums"] t.de t.dr
 cI:FT K mg "_law_thread" Os ["_law_script","_law_at","_law_mates"] t.cp t.cz
 bL:FT K mg "_law_named" Gk ["_law_rows_here","_law_counts"] t.cL t.cQ
 cV:FT K mg "_law_least" Gn ["_law_mates","_law_word"] t.cM t.cR
 cJ:FT K mg "_law_traced" Oq ["_law_mates","_law_counts"] t.cq t.cA
 cW:FT K mg "_law_whole" Gj ["_law_found"] t.cN t.cS
 dC:FT K mg "_law_list" Zag ["_law_found","_law_due"] t.df t.du
 bM:FT K mg "_law_lists" Gm ["_law_found","_law_due"] t.cO t.cT
 eG:FT K mg "law" Ziq ["_law_script"] t.eF t.dW
 eC:Mk K t.aa t.aK
 ce:mg "GREATEST_NAME"=some (.int 9999 t.b9)
 bO:mg "MOST_CROSSINGS"=some (.int 600 t.bK)
 bl:∀ (s:Shared) (u:Value),BindsTo s t.dW ⟨[u],[]⟩ [("_law_script",u)]
 eI:mg "all"=none
 eJ:mg "any"=none
 eK:mg "bool"=none
 dD:mg "enumerate"=none
 eO:mg "int"=none
 ap:mg "isinstance"=none
 ae:mg "len"=none
 aJ:mg "list"=none
 eQ:mg "max"=none
 dX:mg "min"=none
 af:mg "range"=none
 bx:mg "reversed"=none
 eS:mg "set"=none
 bJ:mg "sorted"=none
 dY:mg "sum"=none
 eE:mg "tuple"=none
 eU:mg "zip"=none
 dF:mg "NoPlace"=some (.ref t.aE)
 dS:ExcK K t.aE bmV "ValueError.__new__"
 dU:mg "NoSeam"=some (.ref t.bD)
 dZ:ExcK K t.bD bmV "ValueError.__new__"
 dE:mg "NoThread"=some (.ref t.bv)
 dG:ExcK K t.bv bmV "ValueError.__new__"
theorem Same.add {H H1:Hp} {p:Addr} {o:HO} (s:Same H H1) (hp:H p=none):Same H (upd H1 p o):=λb u e=>by rw [Ze (Zm e hp)]; exact s b u e
theorem Same.new {H:Hp} {p:Addr} {o:HO} (hp:H p=none):Same H (upd H p o):=Same.add (Same.refl H) hp
theorem Z7 {t u:TS} {D:Ends} {σ:St} {H:Hp} (Post:St->Hp->Prop) (ht:∀ nx:St->Hp->Prop,(∀ σ H,Post σ H->nx σ H)->t { D with nx:=nx } σ H) (hu:∀ σ H,Post σ H->u D σ H):tSeq t u D σ H:=ht (u D) hu
theorem Zn {t u:TS} {D:Ends} {σ:St} {H:Hp} (ht:∀ nx:St->Hp->Prop,(∀ σ H,u D σ H->nx σ H)->t { D with nx:=nx } σ H):tSeq t u D σ H:=ht (u D) λ_ _ h=>h
theorem Zba (xs:List Int) (y:Int):xs.map V.int ++ [V.int y]=(xs ++ [y]).map V.int:=by simp
theorem getI {ns:List Int} {n:Nat} (h:n < ns.length):(ns.map V.int)[n]?=some (V.int (ns.getD n 0)):=by
 rw [Ah,Ac h,Ad,Ac h]
 rfl
noncomputable def cell (ns:List Int) (n:Int):Int:=if n < ns.length then ns.getD n.toNat 0 else if ns.length=0 then 31 * n + 7 else ns.getD (n % ns.length).toNat 0 % 1000003 + 101 * n
noncomputable def Zji (K:PySem.W.Frag):Sp:=λvs H Q _=>∃ (a:Addr) (ns:List Int) (n:Int),vs=[.ref a,.int n]/\SqL K H a (ns.map V.int)/\ns.length<=63/\0<=n/\n < 1000000/\Q (.int (cell ns n)) H
noncomputable def Zhd:Sp:=λvs H Q _=>∃ n:Int,vs=[.int n]/\Q (.bl true) H
noncomputable def Zdw:Sp:=λvs H Q _=>∃ (c:Int) (n:Nat),vs=[.int c,.int n]/\n<=60/\∀ (p:Addr) (xs:List Int) (H':Hp),Same H H'->H p=none->H' p=some (.lst (xs.map V.int))->xs.length=n->(∀ x∈xs,0<=x/\x < 1009)->Q (.ref p) H'
section
variable {P:Program} {w:World} {K:PySem.W.Frag} {mg:Str->Option Value} {base:Heap} {t:Adr}
theorem Zd4:FnScope ["_law_found"] ["_law_found"] (Zi Gj):=⟨rfl,rfl,rfl,by decide +kernel,rfl,by decide +kernel,by decide +kernel⟩
theorem Zea (T:Txt w K mg t):FnOk P w K mg base (CXr P w) 1 t.cN t.cS ["_law_found"] Zhd:=by
 refine T.cW.F.aR Zd4 (λcdv A outer s H vs Q E hr h=>?_)
 ·obtain ⟨p,rfl,k⟩:=h
  refine ⟨_,(Zg (Zr (Zaz (Zk Js (by rfl) T.ap PyProof.Rows.boot_isinstance (Za (pv 0) (Za (V9 (v:=.ty "int") (by rfl) T.eO PySem.Pv.boot_int rfl) Zb))) (Zaw (Zlh (Zk Js (by rfl) T.ap PyProof.Rows.boot_isinstance (Za (pv 0) (Za (V9 (v:=.ty "bool") (by rfl) T.eK PySem.Pv.boot_bool rfl) Zb)))))))),?_⟩
  refine ⟨_,rfl,_,"int",_,true,rfl,TyOf.int p,U7,_,rfl,iteT ?_⟩
  refine ⟨_,rfl,_,"bool",_,false,rfl,TyOf.int p,(by rfl),_,rfl,k⟩
theorem Zff:FnScope ["_law_script","_law_at"] ["_law_script","_law_at"] (Zi Zah):=⟨rfl,rfl,rfl,by decide +kernel,rfl,by decide +kernel,by decide +kernel⟩
theorem Jw (T:Txt w K mg t):FnOk P w K mg base (CXr P w) 1 t.c7 t.dj ["_law_script","_law_at"] (Zji K):=by
 refine T.aG.F.aR Zff (λcdv A outer s H vs Q E hr h=>?_)
 ·obtain ⟨a,ns,n,rfl,hS,hl,h0,h1,k⟩:=h
  refine ⟨_,(Zd (Z4 (Zt Jo (pv 1) (Zk Zj (by rfl) T.ae PySem.boot_len (Za (pv 0) Zb)) (Zu _)) (Zg (Zr (Zs Zp (pv 0) (pv 1) (λ_ _=>rfl)))) Zv)
   (Zd (Z4 (Zt Xq (Zk Zj (by rfl) T.ae PySem.boot_len (Za (pv 0) Zb)) Zf (Zu _)) (Zg (Zr (Zh Zz (Zh Xt Zf (pv 1)) Zf))) Zv)
   (Zg (Zr (Zh Zz (Zh Zx (Zs Zp (pv 0) (Zh Zx (pv 1) (Zk Zj (by rfl) T.ae PySem.boot_len (Za (pv 0) Zb))) (λ_ _=>rfl)) Zf) (Zh Xt Zf (pv 1))))))),?_⟩
  have el:((ns.map V.int).length:Int)=ns.length:=by simp
  refine ⟨_,rfl,_,rfl,a,_,rfl,.inl hS,_,_,rfl,rfl,_,rfl,?_⟩
  rw [el]
  refine ite2 (λh=>?_) (λh=>?_)
  ·have h:n < ns.length:=by simpa using h
   have e:cell ns n=ns.getD n.toNat 0:=if_pos h
   have en:n=(n.toNat:Int):=by lia
   have ei:atI (ns.map V.int) n=some (V.int (ns.getD n.toNat 0)):=by rw [en]; exact Yo (getI (n:=n.toNat) (by lia))
   rw [e] at k
   exact ⟨_,rfl,_,rfl,a,_,_,_,rfl,rfl,hS,ei,k⟩
  ·have h:¬ n < ns.length:=by simpa using h
   have e:cell ns n=if ns.length=0 then 31 * n + 7 else ns.getD (n % ns.length).toNat 0 % 1000003 + 101 * n:=if_neg h
   refine ⟨_,rfl,a,_,rfl,.inl hS,rfl,_,rfl,?_⟩
   rw [el]
   refine ite2 (λg=>?_) (λg=>?_)
   ·have g:ns.length=0:=by simpa using g
    refine ⟨_,rfl,_,_,rfl,rfl,.inl ⟨by decide,by decide⟩,_,_,rfl,rfl,?_⟩
    rw [if_pos g] at e
    rw [e] at k; exact k
   ·have g:¬ ns.length=0:=by simpa using g
    have gp:(0:Int) < ns.length:=by lia
    rw [if_neg g] at e
    have m0:=Int.emod_nonneg n (show (ns.length:Int)≠0 by lia)
    have m1:=Int.emod_lt_of_pos n gp
    refine ⟨_,rfl,_,rfl,_,rfl,a,_,rfl,.inl hS,_,_,rfl,rfl,(by rw [el]; exact gp),a,_,_,_,rfl,rfl,hS,(?_:atI _ _=some (V.int (ns.getD (n % ns.length).toNat 0))),_,_,rfl,rfl,(by show (0:Int) < 1000003; decide),_,rfl,_,_,rfl,rfl,.inl ⟨by decide,by decide⟩,_,_,rfl,rfl,?_⟩
    ·rw [el]
     have en:n % (ns.length:Int)=((n % (ns.length:Int)).toNat:Int):=by lia
     rw [en]
     exact Yo (getI (by lia))
    ·rw [e] at k; exact k
theorem Xh:FnScope ["_law_cell_here","_law_many","_law_row","_law_rest","_law_seed"] ["_law_cell_here","_law_many"] (Zi Up):=⟨rfl,rfl,rfl,by decide +kernel,rfl,by decide +kernel,by decide +kernel⟩
theorem Qe (T:Txt w K mg t):FnOk P w K mg base (CXr P w) 1 t.bS t.bY ["_law_cell_here","_law_many"] Zdw:=by
 refine T.aA.F.aR Xh (λcdv A outer s H vs Q E hr h=>?_)
 ·obtain ⟨c,n,rfl,hn60,k⟩:=h
  refine ⟨_,(Zd (Zo (i:=2) Xh.nd rfl (Or.inl rfl) (Y5 Zb))
   (Zd (Zo (i:=3) Xh.nd rfl (Or.inl rfl) (Zh Ye (pv 0) (Zh Zlj Zf Zf)))
   (Zd (Jc PassesOwn.never (PW.pt (Oz (Zt Jp (pv 3) Zf (Zu _)) (V7 (Zt Jo (Zk Zj (by rfl) T.ae PySem.boot_len (Za (pv 2) Zb)) (pv 1) (Zu _))))) (Zd (Yg (Xy PySem.F.plainAttrs_list PySem.F.slot_list_append PySem.F.type_list_append Yh (pv 2) (Za (Zh Zx (pv 3) Zf) Zb)))
   (Zg (Zo (i:=3) Xh.nd rfl (Or.inl rfl) (Zh Yv (pv 3) Zf)))))
   (Zd (Zo (i:=4) Xh.nd rfl (Or.inl rfl) (Zh Zx (pv 0) Zf))
   (Zd (Jc PassesOwn.never (Zt Jo (Zk Zj (by rfl) T.ae PySem.boot_len (Za (pv 2) Zb)) (pv 1) (Zu _)) (Zd (Zo (i:=4) Xh.nd rfl (Or.inl rfl) (Zh Zx (Zh Zz (Zh Zz (Zh Xt (pv 4) Zf) Zf) (Zk Zj (by rfl) T.ae PySem.boot_len (Za (pv 2) Zb))) Zf))
   (Zg (Yg (Xy PySem.F.plainAttrs_list PySem.F.slot_list_append PySem.F.type_list_append Yh (pv 2) (Za (Zh Zx (Zh Yv (Zh Zx (Zh Xt (pv 4) Zf) Zf) Zf) Zf) Zb))))))
   (Zg (Zr (pv 2)))))))),?_⟩
  refine ⟨Nat.zero_le _,λr hr0=>?_⟩
  refine ⟨_,rfl,_,_,rfl,rfl,⟨by decide,by decide,by decide⟩,_,_,rfl,rfl,?_⟩
  show tSeq (J9 _ _) _ _ _ _
  refine Z7 (λσ H1=>∃ (xs:List Int) (rest:Int),σ=[some (.int c),some (.int n),some (.ref r),some (.int rest),none]/\Same H H1/\H1 r=some (.lst (xs.map V.int))/\xs.length<=n/\(∀ x∈xs,0<=x/\x < 1009)) (λnx hnx=>?_) ?_
  ·refine ⟨λm σ H1=>∃ (xs:List Int) (rest:Int),m=n - xs.length/\σ=[some (.int c),some (.int n),some (.ref r),some (.int rest),none]/\Same H H1/\H1 r=some (.lst (xs.map V.int))/\xs.length<=n/\(∀ x∈xs,0<=x/\x < 1009),
    ⟨n,[],_,rfl,rfl,Same.new hr0,Zc,Nat.zero_le _,λx hx=>absurd hx (by simp)⟩,?_⟩
   rintro m σ H1 ⟨xs,rest,rfl,rfl,sm,h1,hl,hx⟩
   have el:((xs.map V.int).length:Int)=xs.length:=by simp
   refine ⟨_,rfl,_,_,rfl,rfl,_,rfl,?_⟩
   refine ite2 (λ_=>?_) (λ_=>?_)
   ·refine ⟨_,rfl,r,_,rfl,.inl (SqL.of h1),_,rfl,_,_,rfl,rfl,_,rfl,?_⟩
    rw [el]
    refine ite2 (λg=>?_) (λ_=>?_)
    ·have g:(xs.length:Int) < n:=by simpa using g
     refine ⟨_,λσ' H' h=>h,?_⟩
     refine ⟨_,rfl,.inl ⟨rfl,_,SqL.of h1⟩,_,rfl,_,_,rfl,rfl,(by show (0:Int) < 1009; decide),r,_,_,rfl,rfl,h1,(by rw [Ab]; exact Z1 (by lia)),?_⟩
     refine ⟨_,rfl,_,_,rfl,rfl,⟨by decide,by decide⟩,?_⟩
     refine ⟨n - (xs ++ [rest % 1009]).length,?_,xs ++ [rest % 1009],_,rfl,rfl,Same.add sm hr0,?_,?_,?_⟩
     ·rw [Ae,List.length_singleton]; lia
     ·rw [Zc,<- Zba]
     ·rw [Ae,List.length_singleton]; lia
     ·intro x hm
      rcases List.mem_append.mp hm with z | z
      ·exact hx x z
      ·have:x=rest % 1009:=by simpa using z
       subst this
       lia
    ·exact hnx _ _ ⟨xs,rest,rfl,sm,h1,hl,hx⟩
   ·exact hnx _ _ ⟨xs,rest,rfl,sm,h1,hl,hx⟩
  rintro σ H1 ⟨xs,rest,rfl,sm,h1,hl,hx⟩
  refine ⟨_,rfl,_,_,rfl,rfl,(by show (0:Int) < 2147483629; decide),?_⟩
  show tSeq (J9 _ _) _ _ _ _
  refine Z7 (λσ H1=>∃ (xs:List Int) (rest seed:Int),σ=[some (.int c),some (.int n),some (.ref r),some (.int rest),some (.int seed)]/\Same H H1/\H1 r=some (.lst (xs.map V.int))/\xs.length=n/\(∀ x∈xs,0<=x/\x < 1009)) (λnx hnx=>?_) ?_
  ·refine ⟨λm σ H1=>∃ (xs:List Int) (rest seed:Int),m=n - xs.length/\σ=[some (.int c),some (.int n),some (.ref r),some (.int rest),some (.int seed)]/\Same H H1/\H1 r=some (.lst (xs.map V.int))/\xs.length<=n/\(∀ x∈xs,0<=x/\x < 1009),
    ⟨n - xs.length,xs,rest,_,rfl,rfl,sm,h1,hl,hx⟩,?_⟩
   clear h1 hl hx sm xs rest
   rintro m σ H1 ⟨xs,rest,seed,rfl,rfl,sm,h1,hl,hx⟩
   have el:((xs.map V.int).length:Int)=xs.length:=by simp
   refine ⟨_,rfl,r,_,rfl,.inl (SqL.of h1),_,rfl,_,_,rfl,rfl,_,rfl,?_⟩
   rw [el]
   refine ite2 (λg=>?_) (λg=>?_)
   ·have g:(xs.length:Int) < n:=by simpa using g
    refine ⟨_,λσ' H' h=>h,?_⟩
    refine ⟨_,rfl,_,_,rfl,rfl,.inr ⟨by decide,by decide⟩,_,_,rfl,rfl,_,rfl,r,_,rfl,.inl (SqL.of h1),_,_,rfl,rfl,_,_,rfl,rfl,(by show (0:Int) < 2147483647; decide),?_⟩
    obtain ⟨y,hy⟩:∃ y,y=(seed * 48271 + 12345 + ((xs.map V.int).length:Int)) % 2147483647 * 69621 % 2147483629 / 7 % 1009:=⟨_,rfl⟩
    refine ⟨_,rfl,.inl ⟨rfl,_,SqL.of h1⟩,_,rfl,_,_,rfl,rfl,.inr ⟨by decide,by decide⟩,_,_,rfl,rfl,(by show (0:Int) < 2147483629; decide),_,_,rfl,rfl,⟨by decide,by decide⟩,_,_,rfl,rfl,(by show (0:Int) < 1009; decide),r,_,_,rfl,rfl,h1,(by rw [Ab]; exact Z1 (by lia)),?_⟩
    refine ⟨n - (xs ++ [y]).length,?_,xs ++ [y],_,_,rfl,rfl,Same.add sm hr0,?_,?_,?_⟩
    ·rw [Ae,List.length_singleton]; lia
    ·rw [Zc,<- Zba,hy]
    ·rw [Ae,List.length_singleton]; lia
    ·intro x hm
     rcases List.mem_append.mp hm with z | z
     ·exact hx x z
     ·have:x=y:=by simpa using z
      rw [this,hy]
      exact ⟨Int.emod_nonneg _ (by decide),Int.emod_lt_of_pos _ (by decide)⟩
   ·have g:¬ (xs.length:Int) < n:=by simpa using g
    exact hnx _ _ ⟨xs,rest,seed,rfl,sm,h1,by lia,hx⟩
  rintro σ H1 ⟨xs,rest,seed,rfl,sm,h1,hl,hx⟩
  exact ⟨_,rfl,k r xs H1 sm hr0 h1 hl hx⟩
noncomputable def Zjf (K:PySem.W.Frag):Sp:=λvs H Q _=>∃ (a:Addr) (xs:List Int) (n:Nat) (sh:Int),vs=[.ref a,.int n,.int sh]/\H a=some (.lst (xs.map V.int))/\xs.length=60/\(∀ x∈xs,0<=x/\x < 1009)/\1<=n/\n<=14 /\
 ∀ (p:Addr) (M:List (Option Nat)) (H':Hp),Same H H'->H p=none->H' p=some (.lst (M.map mV))->M.length=3 * n->(∀ (i j:Nat),M[i]?=some (some j)->M[j]?=some (some i)/\i≠j)->Q (.ref p) H'
theorem map_set {α:Type} (f:α->V) (l:List α) (i:Nat) (x:α):(l.map f).set i (f x)=(l.set i x).map f:=by rw [List.map_set]
theorem Wy {n i:Nat} (h:i < n):ixN n (i:Int)=some i:=by
 unfold ixN
 simp
 lia
theorem Zgs {α β:Type} (f:α->β):∀ (l:List α) (i:Nat),(l.map f).eraseIdx i=(l.eraseIdx i).map f
 | [],_=>rfl
 | _ :: _,0=>rfl
 | a :: r,i + 1=>by rw [List.map_cons,List.eraseIdx_cons_succ,Zgs f r i,List.eraseIdx_cons_succ,List.map_cons]
theorem natV (F:List Nat) (i:Nat):(F.map λ(j:Nat)=>V.int j)[i]?=(F[i]?).map λ(j:Nat)=>V.int j:=Ah ..
theorem Xn:FnScope ["_law_nums","_law_many","_law_share","_law_mates","_law_free","_law_at","_law_one","_law_pick","_law_other"] ["_law_nums","_law_many","_law_share"] (Zi Zae):=⟨rfl,rfl,rfl,by decide +kernel,rfl,by decide +kernel,by decide +kernel⟩
theorem Zf3 (T:Txt w K mg t):FnOk P w K mg base (CXr P w) 1 t.c8 t.dk ["_law_nums","_law_many","_law_share"] (Zjf K):=by
 refine T.dw.F.aR Xn (λcdv A outer s H vs Q E hr h=>?_)
 ·obtain ⟨a,xs,n,sh,rfl,ha,hl,hx,h1,h2,k⟩:=h
  refine ⟨_,(Zd (Zo (i:=3) Xn.nd rfl (Or.inl rfl) (Zh Za0 (Y5 (Za Jv Zb)) (Zh Xt Zf (pv 1))))
   (Zd (Zo (i:=4) Xn.nd rfl (Or.inl rfl) (Vv rfl T.aJ rfl T.af rfl (Za (Zh Xt Zf (pv 1)) Zb)))
   (Zd (Zo (i:=5) Xn.nd rfl (Or.inl rfl) Zf)
   (Zd (Jc PassesOwn.never (Zt Jp (Zk Zj (by rfl) T.ae PySem.boot_len (Za (pv 4) Zb)) Zf (Zu _)) (Zd (Zo (i:=6) Xn.nd rfl (Or.inl rfl) (Xy PySem.F.plainAttrs_list PySem.F.slot_list_pop PySem.F.type_list_pop Za8 (pv 4) (Za Zf Zb)))
   (Zd (Zo (i:=7) Xn.nd rfl (Or.inl rfl) (Zs Zp (pv 0) (pv 5) (λ_ _=>rfl)))
   (Zd (Zo (i:=5) Xn.nd rfl (Or.inl rfl) (Zh Zz (pv 5) Zf))
   (Zg (Z4 (Zt Zmo (Zh Zx (pv 7) Zf) (pv 2) (Zu _)) (Zd (Zo (i:=8) Xn.nd rfl (Or.inl rfl) (Xy PySem.F.plainAttrs_list PySem.F.slot_list_pop PySem.F.type_list_pop Za8 (pv 4) (Za (Zh Zx (Zh Yv (pv 7) Zf) (Zk Zj (by rfl) T.ae PySem.boot_len (Za (pv 4) Zb))) Zb)))
   (Zd (X7 (pv 8) (Ju (pv 3) (pv 6) X2))
   (Zg (X7 (pv 6) (Ju (pv 3) (pv 8) X2))))) Zv))))))
   (Zg (Zr (pv 3))))))),?_⟩
  refine ⟨(by show 1<=sizeLine; decide),λq hq=>?_⟩
  refine ⟨_,rfl,_,_,rfl,rfl,.inl ⟨by decide,by decide⟩,q,_,_,rfl,rfl,Zc,(by lia),(by lia),?_,λm hm=>?_⟩
  ·have:(3 * (n:Int)).toNat=3 * n:=by lia
   show 1 * (3 * (n:Int)).toNat<=sizeLine
   rw [this,sizeLine_eq]; lia
  have eN:(3 * (n:Int)).toNat=3 * n:=by lia
  have eM:(List.replicate (3 * (n:Int)).toNat [V.non]).flatten=(List.replicate (3 * n) (none:Option Nat)).map mV:=by
   rw [eN,List.flatten_replicate_singleton,List.map_replicate]
   rfl
  refine ⟨_,rfl,_,_,rfl,rfl,.inl ⟨by decide,by decide⟩,3 * n,(congrArg (λz=>[V.int z]) (by lia:(3 * (n:Int))=((3 * n:Nat):Int))),by lia,λf hf=>?_⟩
  have hfm:f≠m:=λz=>by rw [z,Zc] at hf; cases hf
  have hm0:H m=none:=by
   have:m≠q:=λz=>by rw [z,Zc] at hm; cases hm
   rw [Ze this] at hm; exact hm
  have hf0:H f=none:=by
   rw [Ze hfm] at hf
   have:f≠q:=λz=>by rw [z,Zc] at hf; cases hf
   rw [Ze this] at hf; exact hf
  have sm0:Same H (upd (upd (upd H q (.lst [.non])) m (.lst (List.replicate (3 * (n:Int)).toNat [V.non]).flatten)) f (.lst ((List.range (3 * n)).map λ(i:Nat)=>V.int i))):=Same.add (Same.add (Same.new hq) hm0) hf0
  show tSeq (J9 _ _) _ _ _ _
  refine Z7 (λσ H1=>∃ (M:List (Option Nat)) (v4 v5 v6 v7 v8:Option V),σ=[some (.ref a),some (.int n),some (.int sh),some (.ref m),v4,v5,v6,v7,v8]/\Same H H1/\H1 m=some (.lst (M.map mV))/\M.length=3 * n/\∀ (i j:Nat),M[i]?=some (some j)->M[j]?=some (some i)/\i≠j) (λnx hnx=>?_) ?_
  ·refine ⟨λc σ H1=>∃ (F:List Nat) (M:List (Option Nat)) (at':Nat) (v6 v7 v8:Option V),c=F.length/\σ=[some (.ref a),some (.int n),some (.int sh),some (.ref m),some (.ref f),some (.int at'),v6,v7,v8]/\Same H H1/\H1 m=some (.lst (M.map mV))/\H1 f=some (.lst (F.map λ(i:Nat)=>V.int i))/\SewOk (3 * n) F M/\at' + F.length<=3 * n,
    ⟨_,List.range (3 * n),List.replicate (3 * n) none,0,none,none,none,rfl,rfl,sm0,?_,Zc,SewOk.start _,by simp⟩,?_⟩
   ·rw [Ze hfm.symm,Zc,eM]
   rintro c σ H1 ⟨F,M,at',v6,v7,v8,rfl,rfl,sm,g1,g2,hs,hat⟩
   refine ⟨_,rfl,f,_,rfl,.inl (SqL.of g2),_,_,rfl,rfl,_,rfl,?_⟩
   rw [Ab]
   refine ite2 (λg=>?_) (λg=>?_)
   ·have g:1 < F.length:=by have:=of_decide_eq_true g; lia
    obtain ⟨one,F',rfl⟩:∃ one F',F=one :: F':=by
     cases F with
     | nil=>simp at g
     | cons a b=>exact ⟨a,b,rfl⟩
    rw [List.length_cons] at g hat
    refine ⟨_,λσ' H' h=>h,?_⟩
    refine ⟨_,rfl,.inl ⟨rfl,_,SqL.of g2⟩,f,_,0,0,V.int one,rfl,rfl,g2,by decide,by decide,(by simp [seqIndex?]),rfl,?_⟩
    have e0:((one :: F').map λ(i:Nat)=>V.int i).eraseIdx 0=F'.map λ(i:Nat)=>V.int i:=rfl
    rw [e0]
    have g2':(upd H1 f (.lst (F'.map λ(i:Nat)=>V.int i))) f=some (.lst (F'.map λ(i:Nat)=>V.int i)):=Zc
    have g1':(upd H1 f (.lst (F'.map λ(i:Nat)=>V.int i))) m=some (.lst (M.map mV)):=by rw [Ze hfm.symm]; exact g1
    have sm':Same H (upd H1 f (.lst (F'.map λ(i:Nat)=>V.int i))):=Same.add sm hf0
    generalize upd H1 f (.lst (F'.map λ(i:Nat)=>V.int i))=H2 at g1' g2' sm' ⊢
    have hpick:at' < xs.length:=by lia
    refine ⟨_,rfl,_,rfl,a,_,_,_,rfl,rfl,SqL.of (sm' _ _ ha),Yo (getI hpick),?_⟩
    obtain ⟨p0,p1⟩:=hx _ (List.getElem_mem hpick)
    have ep:xs.getD at' 0=xs[at']:=by rw [Ad,Ac hpick]; rfl
    rw [ep]
    generalize xs[at']=pick at p0 p1 ⊢
    refine ⟨_,rfl,_,_,rfl,rfl,?_⟩
    refine ⟨_,rfl,_,_,rfl,rfl,(by show (0:Int) < 7; decide),_,rfl,_,_,rfl,rfl,_,rfl,?_⟩
    refine ite2 (λ_=>?_) (λ_=>?_)
    ·-- other=free.pop(..)
     have hF:(0:Int) < F'.length:=by lia
     have k0:=Int.emod_nonneg (pick / 7) (show (F'.length:Int)≠0 by lia)
     have k1:=Int.emod_lt_of_pos (pick / 7) hF
     obtain ⟨kk,hkk⟩:∃ kk:Nat,pick / 7 % (F'.length:Int)=kk:=⟨_,(Int.toNat_of_nonneg k0).symm⟩
     have hkl:kk < F'.length:=by lia
     refine ⟨_,rfl,.inl ⟨rfl,_,SqL.of g2'⟩,_,rfl,_,_,rfl,rfl,⟨by decide,by decide⟩,_,rfl,f,_,rfl,.inl (SqL.of g2'),_,_,rfl,rfl,(by rw [Ab]; exact hF),f,_,_,kk,V.int F'[kk],rfl,rfl,g2',?_,?_,?_,?_,?_⟩
     ·rw [Ab,hkk]; lia
     ·rw [Ab,hkk]; lia
     ·rw [Ab,hkk]; simp [seqIndex?]; lia
     ·rw [natV,Ac hkl]; rfl
     have e1:(F'.map λ(i:Nat)=>V.int i).eraseIdx kk=(F'.eraseIdx kk).map λ(i:Nat)=>V.int i:=by rw [Zgs]
     rw [e1]
     have hp:=hs.pair (Ac hkl)
     have l1:one < M.length:=by rw [hs.len]; exact (hs.free one List.mem_cons_self).1
     have l2:F'[kk] < M.length:=by rw [hs.len]; exact (hs.free _ (List.mem_cons_of_mem _ (List.getElem_mem hkl))).1
     have g1'':(upd H2 f (.lst ((F'.eraseIdx kk).map λ(i:Nat)=>V.int i))) m=some (.lst (M.map mV)):=by rw [Ze hfm.symm]; exact g1'
     refine ⟨_,rfl,_,rfl,_,rfl,m,_,_,one,rfl,rfl,g1'',(by rw [Ab]; exact Wy l1),?_⟩
     refine ⟨_,rfl,_,rfl,_,rfl,m,_,_,F'[kk],rfl,rfl,Zc,(by rw [List.length_set,Ab]; exact Wy l2),?_⟩
     refine ⟨(F'.eraseIdx kk).length,?_,F'.eraseIdx kk,(M.set one (some F'[kk])).set F'[kk] (some one),at' + 1,_,_,_,rfl,rfl,Same.add (Same.add (Same.add sm' hf0) hm0) hm0,?_,?_,hp,?_⟩
     ·rw [List.length_eraseIdx_of_lt hkl,List.length_cons]; lia
     ·rw [Zc]
      show some (HO.lst (((M.map mV).set one (mV (some F'[kk]))).set F'[kk] (mV (some one))))=_
      rw [map_set,map_set]
     ·rw [Ze hfm,Ze hfm,Zc]
     ·rw [List.length_eraseIdx_of_lt hkl]; lia
    ·exact ⟨F'.length,by rw [List.length_cons]; lia,F',M,at' + 1,_,_,_,rfl,rfl,sm',g1',g2',hs.skip,by lia⟩
   ·exact hnx _ _ ⟨M,_,_,_,_,_,rfl,sm,g1,hs.len,hs.inv⟩
  rintro σ H1 ⟨M,v4,v5,v6,v7,v8,rfl,sm,g1,hl',hi'⟩
  exact ⟨_,rfl,k m M H1 sm hm0 g1 hl' hi'⟩
theorem Wg {lo:Int} {n:Nat} {g:TG} {tt:TT} {tb:TB} {R:St->Hp->Prop} {σ:St} {H:Hp} (Pv:Nat->St->Hp->Prop) (h0:Pv 0 σ H)
  (hs:∀ (i:Nat) σ H,i < n->Pv i σ H->g (.int (lo + i)) σ H λσ2 H2=>tt σ2 H2 λb H3=>if b=true then tb σ2 H3 (Pv (i + 1)) else Pv (i + 1) σ2 H3) (hd:∀ σ H,Pv n σ H->R σ H):Wt (Itr lo n) g tt tb R σ H:=by
 refine ⟨λi m σ H=>m=n - i/\i<=n/\Pv i σ H,⟨n,by simp,Nat.zero_le _,h0⟩,?_⟩
 rintro i m σ H ⟨rfl,hi,p⟩
 by_cases hlt:i < n
 ·refine .inr ⟨hlt,Pv (i + 1),λσ' H' p'=>⟨n - (i + 1),by lia,rfl,hlt,p'⟩,λx H' y=>?_⟩
  obtain ⟨e,y⟩:=y
  subst e y
  exact hs i σ _ hlt p
 ·have e:i=n:=by lia
  subst e
  exact .inl ⟨Nat.le_refl _,hd σ H p⟩
theorem Yt {K:PySem.W.Frag} {a:Addr} {xs:List V} {g:TG} {tt:TT} {tb:TB} {R:St->Hp->Prop} {σ:St} {H:Hp} (Pv:Nat->St->Hp->Prop) (h0:Pv 0 σ H) (hl:∀ i σ H,i<=xs.length->Pv i σ H->SqL K H a xs)
  (hs:∀ (i:Nat) x σ H,xs[i]?=some x->Pv i σ H->g x σ H λσ2 H2=>tt σ2 H2 λb H3=>if b=true then tb σ2 H3 (Pv (i + 1)) else Pv (i + 1) σ2 H3) (hd:∀ σ H,Pv xs.length σ H->R σ H):Wt (Itl K a) g tt tb R σ H:=by
 refine ⟨λi m σ H=>m=xs.length - i/\i<=xs.length/\Pv i σ H,⟨xs.length,by simp,Nat.zero_le _,h0⟩,?_⟩
 rintro i m σ H ⟨rfl,hi,p⟩
 have q:=hl i σ H hi p
 by_cases hlt:i < xs.length
 ·refine .inr ⟨⟨xs,xs[i],q,by simp [hlt]⟩,Pv (i + 1),λσ' H' p'=>⟨xs.length - (i + 1),by lia,rfl,hlt,p'⟩,λx H' y=>?_⟩
  obtain ⟨e,y⟩:=y
  subst e
  exact hs i x σ _ (y xs q) p
 ·have e:i=xs.length:=by lia
  subst e
  exact .inl ⟨⟨xs,q,Nat.le_refl _⟩,hd σ H p⟩
theorem Zbc {K:PySem.W.Frag} {a:Addr} {xs:List V} {g:TG} {tt:TT} {tb:TB} {R:St->Hp->Prop} {σ:St} {H:Hp} (Pv:Nat->St->Hp->Prop) (h0:Pv 0 σ H) (hl:∀ i σ H,i<=xs.length->Pv i σ H->SqT K H a xs)
  (hs:∀ (i:Nat) x σ H,xs[i]?=some x->Pv i σ H->g x σ H λσ2 H2=>tt σ2 H2 λb H3=>if b=true then tb σ2 H3 (Pv (i + 1)) else Pv (i + 1) σ2 H3) (hd:∀ σ H,Pv xs.length σ H->R σ H):Wt (Itt K a) g tt tb R σ H:=by
 refine ⟨λi m σ H=>m=xs.length - i/\i<=xs.length/\Pv i σ H,⟨xs.length,by simp,Nat.zero_le _,h0⟩,?_⟩
 rintro i m σ H ⟨rfl,hi,p⟩
 have q:=hl i σ H hi p
 by_cases hlt:i < xs.length
 ·refine .inr ⟨⟨xs,xs[i],q,by simp [hlt]⟩,Pv (i + 1),λσ' H' p'=>⟨xs.length - (i + 1),by lia,rfl,hlt,p'⟩,λx H' y=>?_⟩
  obtain ⟨e,y⟩:=y
  subst e
  exact hs i x σ _ (y xs q) p
 ·have e:i=xs.length:=by lia
  subst e
  exact .inl ⟨⟨xs,q,Nat.le_refl _⟩,hd σ H p⟩
noncomputable def row3 (ns:List Int) (k:Nat):List V:=[.int (ns.getD (3 * k) 0),.int (ns.getD (3 * k + 1) 0),.int (ns.getD (3 * k + 2) 0)]
noncomputable def Xl (H:Hp) (r:Addr) (ns:List Int):Prop:=∃ ts:List Addr,H r=some (.lst (ts.map V.ref))/\ns.length=3 * ts.length/\∀ (k:Nat) (t:Addr),ts[k]?=some t->H t=some (.tup (row3 ns k))
theorem Xl.same {H H':Hp} {r:Addr} {ns:List Int} (h:Xl H r ns) (s:Same H H'):Xl H' r ns:=by
 obtain ⟨ts,h1,h2,h3⟩:=h
 exact ⟨ts,s _ _ h1,h2,λk t e=>s _ _ (h3 k t e)⟩
noncomputable def Zjg:Sp:=λvs H Q _=>∃ (a:Addr) (M:List (Option Nat)) (n:Nat) (st sp:Int),vs=[.ref a,.int st,.int sp]/\H a=some (.lst (M.map mV))/\M.length=3 * n/\1<=n/\n<=14/\(∀ (i j:Nat),M[i]?=some (some j)->M[j]?=some (some i)/\i≠j)/\sp∈Q0 /\
 ∀ (p:Addr) (H':Hp),Same H H'->H p=none->Xl H' p (flat M st sp)->Q (.ref p) H'
theorem Um {t:Int} (h:t∈Q0):-(2 ^ 64) < t/\t < 2 ^ 64:=by
 simp only [Q0,List.mem_cons,List.not_mem_nil,or_false] at h
 rcases h with rfl | rfl | rfl | rfl | rfl | rfl | rfl | rfl <;> decide
theorem Zlp {M:List (Option Nat)} {i:Nat} (h:i < M.length):atI (M.map mV) (0 + (i:Int))=some (mV M[i]):=by
 rw [Int.zero_add]
 exact Yo (by rw [Ah,Ac h]; rfl)
theorem Qh:FnScope ["_law_mates","_law_start","_law_step","_law_flat","_law_at","_law_mate"] ["_law_mates","_law_start","_law_step"] (Zi Zaf):=⟨rfl,rfl,rfl,by decide +kernel,rfl,by decide +kernel,by decide +kernel⟩
theorem Zf4 (T:Txt w K mg t):FnOk P w K mg base (CXr P w) 1 t.c9 t.dl ["_law_mates","_law_start","_law_step"] Zjg:=by
 refine T.dz.F.aR Qh (λcdv A outer s H vs Q E hr h=>?_)
 ·obtain ⟨a,M,n,st,sp,rfl,ha,hM,h1,h2,hi,hsp,k⟩:=h
  refine ⟨_,(Zd (Zo (i:=3) Qh.nd rfl (Or.inr rfl) (Y5 Zb))
   (Zd (Ys PassesOwn.never rfl (Yb rfl T.af (Za (Zk Zj (by rfl) T.ae PySem.boot_len (Za (pv 0) Zb)) Zb)) (Zq (i:=4) Qh.nd rfl (Or.inl rfl)) (Zd (Zo (i:=5) Qh.nd rfl (Or.inl rfl) (Zs Zp (pv 0) (pv 4) (λ_ _=>rfl)))
   (Zg (Z4 (PW.pt (Oz (Zt J8 (pv 5) Jv (Zu _)) (V7 (Zt Jo (pv 5) (pv 4) (Zu _))))) (Zg (Yg (Xy PySem.F.plainAttrs_list PySem.F.slot_list_append PySem.F.type_list_append Yh (pv 3) (Za (Zs Zp (pv 3) (pv 5) (λ_ _=>rfl)) Zb)))) (Zg (Yg (Xy PySem.F.plainAttrs_list PySem.F.slot_list_append PySem.F.type_list_append Yh (pv 3) (Za (Zh Zx (Zh Zz (pv 1) (Zh Xt (pv 2) (pv 4))) Zf) Zb))))))))
   (Zg (Zr (Yf (ts:=["_law_k"]) (fv:=[("_law_flat",3)]) ⟨rfl,by decide +kernel,by decide +kernel,Ya (by rfl),⟨⟨rfl,rfl,Or.inl rfl⟩,trivial⟩⟩ rfl (Yb rfl T.af (Za (Zh Yv (Zk Zj (by rfl) T.ae PySem.boot_len (Za (pv 0) Zb)) Zf) Zb)) (λ_ _ _ _=>(Zq (i:=0) (show List.Nodup (["_law_k","_law_flat"]:List Str) from by decide +kernel) rfl (Or.inl rfl) (Or.inr rfl))) (λ_ _ _ _=>Yc) (λ_ _ _=>rfl) (λ_ _ _ _ _ _=>Yd (Xj (Za (Zs (Wa K) (pv 1) (Zh Xt Zf (pv 0)) (λ_ _=>rfl)) (Za (Zs (Wa K) (pv 1) (Zh Zz (Zh Xt Zf (pv 0)) Zf) (λ_ _=>rfl)) (Za (Zs (Wa K) (pv 1) (Zh Zz (Zh Xt Zf (pv 0)) Zf) (λ_ _=>rfl)) Zb)))))))))),?_⟩
  refine ⟨Nat.zero_le _,λf hf=>?_⟩
  have eL:(((M.map mV).length:Nat):Int).toNat=M.length:=by simp
  have ha1:(upd H f (.lst [])) a=some (.lst (M.map mV)):=by rw [Ze (Zm ha hf)]; exact ha
  dsimp only [Zl]
  show tSeq (tFor _ _ _) _ _ _ _
  refine Z7 (λσ H1=>∃ (v4 v5:Option V),σ=[some (.ref a),some (.int st),some (.int sp),some (.ref f),v4,v5]/\Same H H1/\H1 f=some (.lst ((flat M st sp).map V.int))) (λnx hnx=>?_) ?_
  ·refine ⟨_,rfl,a,_,rfl,.inl (SqL.of ha1),_,rfl,by lia,by rw [Ab]; lia,?_⟩
   rw [eL]
   refine Y2 (n:=M.length) (λi σ H1=>∃ (v4 v5:Option V),σ=[some (.ref a),some (.int st),some (.int sp),some (.ref f),v4,v5]/\Same H H1/\H1 f=some (.lst (((List.range i).map λi=>nm st sp (rep M i)).map V.int))) ⟨none,none,rfl,Same.new hf,Zc⟩ ?_ ?_
   ·rintro i σ H1 hlt ⟨v4,v5,rfl,sm,hfl⟩
    refine ⟨_,rfl,_,rfl,a,_,_,_,rfl,rfl,SqL.of (sm _ _ ha),Zlp hlt,?_⟩
    have fin:∀ x:Int,x=nm st sp (rep M i)->(upd H1 f (.lst (((List.range i).map λi=>nm st sp (rep M i)).map V.int ++ [V.int x]))) f=some (.lst (((List.range (i + 1)).map λi=>nm st sp (rep M i)).map V.int)):=λx hx=>by
     rw [Zc,hx,List.range_succ]
     simp
    have hlen:(((List.range i).map λi=>nm st sp (rep M i)).map V.int).length < sizeLine:=by
     rw [Ab,Ab,List.length_range]; exact Z1 (by lia)
    refine ⟨_,rfl,rfl,_,rfl,?_⟩
    cases e:M[i] with
    | none =>
     have er:rep M i=i:=by unfold rep; rw [Ac hlt,e]
     refine iteF ?_
     refine iteF ?_
     refine ⟨_,rfl,.inl ⟨rfl,_,SqL.of hfl⟩,_,rfl,_,rfl,_,rfl,_,_,rfl,rfl,.inl (Um hsp),_,_,rfl,rfl,_,_,rfl,rfl,(by show (0:Int) < 10000; decide),f,_,_,rfl,rfl,hfl,hlen,?_⟩
     exact ⟨_,_,rfl,Same.add sm hf,fin _ (by rw [er]; unfold nm; rw [Int.zero_add])⟩
    | some j =>
     have hMi:M[i]?=some (some j):=by rw [Ac hlt,e]
     refine iteT ?_
     refine ⟨_,rfl,_,rfl,_,_,rfl,rfl,_,rfl,?_⟩
     refine ite2 (λg=>?_) (λg=>?_)
     ·have g:j < i:=by have:=of_decide_eq_true g; lia
      have er:rep M i=j:=by unfold rep; rw [hMi]; exact if_pos g
      have erj:rep M j=j:=by unfold rep; rw [(hi i j hMi).1]; exact if_neg (by lia)
      have ej:atI (((List.range i).map λi=>nm st sp (rep M i)).map V.int) (j:Int)=some (V.int (nm st sp (rep M i))):=by
       refine Yo ?_
       rw [Ah,Ah,List.getElem?_range g,er]
       show some (V.int (nm st sp (rep M j)))=_
       rw [erj]
      refine ⟨_,rfl,.inl ⟨rfl,_,SqL.of hfl⟩,_,rfl,_,rfl,f,_,_,_,rfl,rfl,SqL.of hfl,ej,f,_,_,rfl,rfl,hfl,hlen,?_⟩
      exact ⟨_,_,rfl,Same.add sm hf,fin _ rfl⟩
     ·have g:¬ j < i:=by
       have:¬ ((j:Int) < 0 + (i:Int)):=λz=>g (decide_eq_true z)
       lia
      have er:rep M i=i:=by unfold rep; rw [hMi]; exact if_neg g
      refine ⟨_,rfl,.inl ⟨rfl,_,SqL.of hfl⟩,_,rfl,_,rfl,_,rfl,_,_,rfl,rfl,.inl (Um hsp),_,_,rfl,rfl,_,_,rfl,rfl,(by show (0:Int) < 10000; decide),f,_,_,rfl,rfl,hfl,hlen,?_⟩
      exact ⟨_,_,rfl,Same.add sm hf,fin _ (by rw [er]; unfold nm; rw [Int.zero_add])⟩
   ·rintro σ H1 ⟨v4,v5,rfl,sm,hfl⟩
    exact hnx _ _ ⟨v4,v5,rfl,sm,hfl⟩
  rintro σ H1 ⟨v4,v5,rfl,sm,hfl⟩
  refine ⟨_,rfl,a,_,rfl,.inl (SqL.of (sm _ _ ha)),_,_,rfl,rfl,⟨by decide,by decide⟩,_,rfl,by rw [Ab]; lia,by rw [Ab]; lia,λD hD=>?_⟩
  have eD:((((M.map mV).length:Nat):Int) / 3).toNat=n:=by rw [Ab,hM]; lia
  have hD0:H D=none:=sm.free hD
  have hfD:f≠D:=λz=>by rw [z] at hfl; rw [hD] at hfl; cases hfl
  have hlf:(flat M st sp).length=3 * n:=by unfold flat; simp [hM]
  show Wt (Itr 0 ((((M.map mV).length:Nat):Int) / 3).toNat) _ _ _ _ _ _
  rw [eD]
  refine Wg (λi σ H2=>∃ (ts:List Addr) (v:Option V),σ=[v,some (.ref f)]/\Same H H2/\H2 D=some (.lst (ts.map V.ref))/\ts.length=i/\H2 f=some (.lst ((flat M st sp).map V.int))/\∀ (k:Nat) (t:Addr),ts[k]?=some t->H2 t=some (.tup (row3 (flat M st sp) k)))
   ⟨[],none,rfl,Same.add sm hD0,Zc,rfl,by rw [Ze hfD]; exact hfl,λk t z=>by simp at z⟩ ?_ ?_
  ·rintro i σ H2 hlt ⟨ts,v,rfl,sm2,g1,hl2,g2,g3⟩
   have at':∀ (c:Nat) (z:Int),c < 3->z=3 * (0 + (i:Int)) + c->atI ((flat M st sp).map V.int) z=some (V.int ((flat M st sp).getD (3 * i + c) 0)):=λc z hc hz=>by
    have e:z=((3 * i + c:Nat):Int):=by lia
    rw [e]
    exact Yo (getI (by lia))
   dsimp only [Zl,tYes]
   rw [if_pos rfl]
   refine ⟨_,rfl,_,rfl,_,_,rfl,rfl,.inl ⟨by decide,by decide⟩,f,_,_,_,rfl,rfl,SqL.of g2,at' 0 _ (by decide) (by simp),?_⟩
   refine ⟨_,rfl,_,rfl,_,_,rfl,rfl,.inl ⟨by decide,by decide⟩,_,_,rfl,rfl,f,_,_,_,rfl,rfl,SqL.of g2,at' 1 _ (by decide) rfl,?_⟩
   refine ⟨_,rfl,_,rfl,_,_,rfl,rfl,.inl ⟨by decide,by decide⟩,_,_,rfl,rfl,f,_,_,_,rfl,rfl,SqL.of g2,at' 2 _ (by decide) rfl,?_⟩
   refine ⟨(by show 3<=sizeLine; decide),λq hq=>?_⟩
   have hqD:q≠D:=λz=>by rw [z,g1] at hq; cases hq
   have hqf:q≠f:=λz=>by rw [z,g2] at hq; cases hq
   have hq0:H q=none:=sm2.free hq
   refine ⟨_,by rw [Ze (Ne.symm hqD)]; exact g1,(by rw [Ab]; exact Z1 (by lia)),ts ++ [q],_,rfl,Same.add (Same.add sm2 hq0) hD0,?_,?_,?_,?_⟩
   ·rw [Zc]; simp
   ·rw [Ae,List.length_singleton,hl2]
   ·rw [Ze hfD,Ze (Ne.symm hqf)]; exact g2
   ·intro k t z
    by_cases hk:k < ts.length
    ·rw [List.getElem?_append_left hk] at z
     have g:=g3 k t z
     rw [Ze (λe=>by rw [e,g1] at g; cases g),Ze (Zm g hq)]
     exact g
    ·have hk2:k=ts.length:=by
      have:=(Aa z).1
      rw [Ae,List.length_singleton] at this
      lia
     subst hk2
     have:t=q:=by simpa using z.symm
     subst this
     rw [Ze hqD,Zc,hl2]
     rfl
  ·rintro σ H2 ⟨ts,v,rfl,sm2,g1,hl2,g2,g3⟩
   exact k D H2 sm2 hD0 ⟨ts,g1,by rw [hlf,hl2],g3⟩
theorem at4 {i:Int} (h0:0<=i) (h1:i < 4):∃ sh:Int,atI [V.int 0,V.int 0,V.int 1,V.int 3] i=some (V.int sh):=by
 obtain rfl | rfl | rfl | rfl:i=0\/i=1\/i=2\/i=3:=by lia
 all_goals exact ⟨_,rfl⟩
theorem at8 {i:Int} (h0:0<=i) (h1:i < 8):∃ sp:Int,sp∈Q0/\atI [V.int 1,V.int 3,V.int 7,V.int 9,V.int 37,V.int 1009,V.int 3333,V.int 9999] i=some (V.int sp):=by
 obtain rfl | rfl | rfl | rfl | rfl | rfl | rfl | rfl:i=0\/i=1\/i=2\/i=3\/i=4\/i=5\/i=6\/i=7:=by lia
 all_goals exact ⟨_,by decide,rfl⟩
noncomputable def Zje (K:PySem.W.Frag):Sp:=λvs H Q _=>∃ (a:Addr) (ns:List Int),vs=[.ref a]/\SqL K H a (ns.map V.int)/\ns.length<=63 /\
 ∀ (p m r:Addr) (M:List (Option Nat)) (nms:List Int) (H':Hp),Same H H'->H' p=some (.tup [.ref m,.ref r])->H' m=some (.lst (M.map mV))->Xl H' r nms->TD M nms->M.length<=42->H m=none->H r=none->Q (.ref p) H'
theorem Xm:FnScope ["_law_script","_law_head","_law_many","_law_names","_law_share","_law_mates","_law_step"] ["_law_script"] (Zi Zad):=⟨rfl,rfl,rfl,by decide +kernel,rfl,by decide +kernel,by decide +kernel⟩
theorem Zf2 (T:Txt w K mg t):FnOk P w K mg base (CXr P w) 2 t.dc t.dq ["_law_script"] (Zje K):=by
 refine T.dA.F.aR Xm (λcdv A outer s H vs Q E hr h=>?_)
 ·obtain ⟨a,ns,rfl,hS,hl,k⟩:=h
  refine ⟨_,(Zd (Zo (i:=1) Xm.nd rfl (Or.inl rfl) (pcT (Jw T) hr T.aG (Za (pv 0) (Za Zf Zb))))
   (Zd (Zo (i:=2) Xm.nd rfl (Or.inl rfl) (Zh Zz Zf (Zh Zx (pv 1) Zf)))
   (Zd (Z4 (Zt Xq (Zh Zx (Zh Yv (pv 1) Zf) Zf) Zf (Zu _)) (Zg (Zo (i:=2) Xm.nd rfl (Or.inl rfl) (Zh Zz Zf (Zh Zx (Zh Yv (pv 1) Zf) Zf)))) Zv)
   (Zd (Zo (i:=3) Xm.nd rfl (Or.inl rfl) (pcT (Jw T) hr T.aG (Za (pv 0) (Za Zf Zb))))
   (Zd (Zo (i:=4) Xm.nd rfl (Or.inl rfl) (Zs V0 (Xj (Za Zf (Za Zf (Za Zf (Za Zf Zb))))) (Zh Zx (pv 3) Zf) (λ_ _=>rfl)))
   (Zd (Zo (i:=5) Xm.nd rfl (Or.inl rfl) (pcT (Zf3 T) hr T.dw (Za (pcT (Qe T) hr T.aA (Za (pcT (Jw T) hr T.aG (Za (pv 0) (Za Zf Zb))) (Za Zf Zb))) (Za (pv 2) (Za (pv 4) Zb)))))
   (Zd (Zo (i:=6) Xm.nd rfl (Or.inl rfl) (Zs V0 (Xj (Za Zf (Za Zf (Za Zf (Za Zf (Za Zf (Za Zf (Za Zf (Za Zf Zb))))))))) (Zh Zx (Zh Yv (pv 3) Zf) Zf) (λ_ _=>rfl)))
   (Zg (Zr (Xj (Za (pv 5) (Za (pcT (Zf4 T) hr T.dz (Za (pv 5) (Za (Zh Zx (Zh Yv (pv 3) Zf) Zf) (Za (pv 6) Zb)))) Zb)))))))))))),?_⟩
  refine ⟨_,rfl,a,ns,0,rfl,hS,hl,by decide,by decide,?_⟩
  generalize cell ns 0=hd
  refine ⟨_,rfl,_,_,rfl,rfl,(by show (0:Int) < 6; decide),_,_,rfl,rfl,?_⟩
  dsimp only [Zl]
  show tSeq (tIfS _ _ _) _ _ _ _
  refine Z7 (λσ H1=>∃ n:Nat,1<=n/\n<=14/\σ=[some (.ref a),some (.int hd),some (.int n),none,none,none,none]/\H1=H) (λnx hnx=>?_) ?_
  ·refine ⟨_,rfl,_,_,rfl,rfl,⟨by decide,by decide⟩,_,_,rfl,rfl,(by show (0:Int) < 9; decide),rfl,_,rfl,?_⟩
   refine ite2 (λ_=>?_) (λ_=>?_)
   ·refine ⟨_,rfl,_,_,rfl,rfl,⟨by decide,by decide⟩,_,_,rfl,rfl,(by show (0:Int) < 8; decide),_,_,rfl,rfl,?_⟩
    have e:(7 + hd / 54 % 8:Int)=((7 + (hd / 54 % 8).toNat:Nat):Int):=by lia
    exact hnx _ _ ⟨7 + (hd / 54 % 8).toNat,by lia,by lia,by rw [<- e]; rfl,rfl⟩
   ·have e:(1 + hd % 6:Int)=((1 + (hd % 6).toNat:Nat):Int):=by lia
    exact hnx _ _ ⟨1 + (hd % 6).toNat,by lia,by lia,by rw [<- e]; rfl,rfl⟩
  rintro σ H1 ⟨n,n1,n2,rfl,rfl⟩
  refine ⟨_,rfl,a,ns,2,rfl,hS,hl,by decide,by decide,?_⟩
  generalize cell ns 2=nam
  refine ⟨(by show 4<=sizeLine; decide),λq hq=>?_⟩
  have m4:0<=nam % 4/\nam % 4 < 4:=by lia
  obtain ⟨sh,esh⟩:=at4 m4.1 m4.2
  refine ⟨_,rfl,_,_,rfl,rfl,(by show (0:Int) < 4; decide),q,_,_,_,rfl,rfl,SqT.of Zc,esh,?_⟩
  have s1:Same H1 (upd H1 q (.tup [V.int 0,V.int 0,V.int 1,V.int 3])):=Same.new hq
  refine ⟨_,rfl,a,ns,1,rfl,s1.seq hS,hl,by decide,by decide,?_⟩
  refine ⟨_,60,rfl,by decide,λp xs H2 s2 hp h2 h60 hx=>?_⟩
  refine ⟨_,rfl,_,rfl,p,xs,n,sh,rfl,h2,h60,hx,n1,n2,λm M H3 s3 hm hM hlen hinv=>?_⟩
  have s13:Same H1 H3:=(s1.trans s2).trans s3
  have hm0:H1 m=none:=(s1.trans s2).free hm
  refine ⟨(by show 8<=sizeLine; decide),λq2 hq2=>?_⟩
  have m8:0<=nam / 4 % 8/\nam / 4 % 8 < 8:=by lia
  obtain ⟨sp,hsp,esp⟩:=at8 m8.1 m8.2
  refine ⟨_,rfl,_,_,rfl,rfl,⟨by decide,by decide⟩,_,_,rfl,rfl,(by show (0:Int) < 8; decide),q2,_,_,_,rfl,rfl,SqT.of Zc,esp,?_⟩
  have s14:Same H1 (upd H3 q2 (.tup [V.int 1,V.int 3,V.int 7,V.int 9,V.int 37,V.int 1009,V.int 3333,V.int 9999])):=Same.add s13 (s13.free hq2)
  have hM4:(upd H3 q2 (.tup [V.int 1,V.int 3,V.int 7,V.int 9,V.int 37,V.int 1009,V.int 3333,V.int 9999])) m=some (.lst (M.map mV)):=by rw [Ze (Zm hM hq2)]; exact hM
  refine ⟨_,rfl,_,rfl,_,rfl,_,_,rfl,rfl,⟨by decide,by decide⟩,_,_,rfl,rfl,(by show (0:Int) < 10000; decide),_,rfl,m,M,n,_,sp,rfl,hM4,hlen,n1,n2,hinv,hsp,λr H5 s5 hr5 hrow=>?_⟩
  refine ⟨(by show 2<=sizeLine; decide),λp5 hp5=>?_⟩
  have s15:=s14.trans s5
  have hr0:H1 r=none:=s14.free hr5
  refine k p5 m r M _ _ (Same.add s15 (s15.free hp5)) Zc ?_ (hrow.same (Same.new hp5)) (Zi7 n1 n2 hlen hinv hsp) (by lia) hm0 hr0
  rw [Ze (Zm (s5 _ _ hM4) hp5)]
  exact s5 _ _ hM4
noncomputable def spk (ns:List Int) (n:Nat) (f:Int->Addr):List (Key × V):=(keys ns n).map λx=>((Sum.inl x:Key),V.ref (f x))
structure SpotsF (H:Hp) (ns:List Int) (n:Nat) (f:Int->Addr):Prop where
 inj:∀ x∈keys ns n,∀ y∈keys ns n,f x=f y->x=y
 at':∀ x∈keys ns n,H (f x)=some (.lst ((pl ns n x).map nV))
noncomputable def Zbz:Sp:=λvs H Q _=>∃ (a:Addr) (M:List (Option Nat)) (ns:List Int),vs=[.ref a]/\H a=some (.lst (ns.map V.int))/\TD M ns/\ns.length<=120 /\
 ∀ (d:Addr) (f:Int->Addr) (H':Hp),Same H H'->H d=none->H' d=some (.dK (spk ns ns.length f))->SpotsF H' ns ns.length f->(∀ x∈keys ns ns.length,H (f x)=none)->Q (.ref d) H'
theorem Jn:FnScope ["names_at","spots","place","name"] ["names_at"] (Zi Oo):=⟨rfl,rfl,rfl,by decide +kernel,rfl,by decide +kernel,by decide +kernel⟩
theorem Zb8 (T:Txt w K mg t):FnOk P w K mg base (CXr P w) 1 t.cg t.cv ["names_at"] Zbz:=by
 refine T.cC.F.aR Jn (λcdv A outer s H vs Q E hr h=>?_)
 ·obtain ⟨a,M,ns,rfl,ha,td,hl,k⟩:=h
  have hu:=Ug hr
  refine ⟨_,(Zd (Zo (i:=1) Jn.nd rfl (Or.inl rfl) Zay)
   (Zd (Ys PassesOwn.never rfl (Zjx rfl T.dD (Za (pv 0) Zb)) (Qt rfl (Yj (Zq (i:=2) Jn.nd rfl (Or.inl rfl)) (Yj (Zq (i:=3) Jn.nd rfl (Or.inl rfl)) Je))) (Zd (Z4 (PW.pt (Q5 (Zt Jo (pv 3) Zf (Zu _)) (Qc (Zt Jp (pv 3) (Zc2 (v:=.int 9999) rfl T.ce ⟨_,rfl⟩) (Zu _))))) Xd Zv)
   (Zd (Yg (Xy PySem.F.plainAttrs_list PySem.F.slot_list_append PySem.F.type_list_append Yh (Zhs (pv 1) (pv 3) (Y5 Zb) ⟨rfl,rfl,rfl,rfl⟩) (Za (pv 2) Zb)))
   (Zg (Z4 (Zt Jp (Zk Zj (by rfl) T.ae PySem.boot_len (Za (V8 hu (pv 1) (pv 3) (λ_ _=>rfl)) Zb)) Zf (Zu _)) Xd Zv)))))
   (Zg (Zr (pv 1))))),?_⟩
  intro d hd
  have hda:a≠d:=Zm ha hd
  dsimp only [Zl]
  show tSeq (tFor _ _ _) _ _ _ _
  refine Z7 (λσ H1=>∃ (f:Int->Addr) (v2 v3:Option V),σ=[some (.ref a),some (.ref d),v2,v3]/\Same H H1/\H1 d=some (.dK (spk ns ns.length f))/\SpotsF H1 ns ns.length f/\∀ x∈keys ns ns.length,H (f x)=none) (λnx hnx=>?_) ?_
  ·refine ⟨_,rfl,a,rfl,⟨_,SqL.of (by rw [Ze hda]; exact ha)⟩,?_⟩
   have el:(ns.map V.int).length=ns.length:=by simp
   refine Zic (xs:=ns.map V.int) (λi σ H1=>∃ (f:Int->Addr) (v2 v3:Option V),σ=[some (.ref a),some (.ref d),v2,v3]/\Same H H1/\H1 d=some (.dK (spk ns i f))/\SpotsF H1 ns i f/\∀ x∈keys ns i,H (f x)=none)
    ⟨λ_=>0,none,none,rfl,Same.new hd,Zc,⟨λx hx=>by simp [keys] at hx,λx hx=>by simp [keys] at hx⟩,λx hx=>by simp [keys] at hx⟩ ?_ ?_ ?_
   ·rintro i σ H1 _ ⟨f,v2,v3,rfl,sm,_⟩
    exact SqL.of (sm _ _ ha)
   ·rintro i x0 σ H1 q hx hq ⟨f,v2,v3,rfl,sm,hd1,sf,hf0⟩
    have hi:i < ns.length:=by rw [<- el]; exact (Aa hx).1
    obtain ⟨x,hx'⟩:∃ x,ns[i]?=some x:=⟨_,Ac hi⟩
    obtain rfl:x0=V.int x:=by rw [Ah,hx'] at hx; exact (Option.some.inj hx).symm
    refine ⟨q,_,rfl,SqT.of Zc,rfl,_,_,rfl,_,_,rfl,rfl,?_⟩
    obtain ⟨x0,x1⟩:=td.rng i x hx'
    refine ⟨_,rfl,_,_,rfl,rfl,_,rfl,?_⟩
    rw [decide_eq_false (by lia:¬ x < 0)]
    refine iteF ?_
    refine ⟨_,rfl,_,_,rfl,rfl,_,rfl,?_⟩
    rw [decide_eq_false (by lia:¬ x > 9999)]
    refine iteF ?_
    have hdq:d≠q:=Zm hd1 hq
    have hd2:(upd H1 q (.tup [.int i,.int x])) d=some (.dK (spk ns i f)):=by rw [Ze hdq]; exact hd1
    dsimp only [Xx]
    show tSeq (Zio _) _ _ _ _
    refine Z7 (λσ H2=>∃ (f:Int->Addr),σ=[some (.ref a),some (.ref d),some (.int i),some (.int x)]/\Same H H2/\H2 d=some (.dK (spk ns (i + 1) f))/\SpotsF H2 ns (i + 1) f/\∀ x∈keys ns (i + 1),H (f x)=none) (λnx2 hnx2=>?_) ?_
    ·refine ⟨_,rfl,d,rfl,.inl ⟨_,.inl hd2⟩,_,rfl,Nat.zero_le _,λl hl'=>?_⟩
     obtain ⟨hlq,hl1⟩:=Wu hl'
     have hdl:d≠l:=Zm hd1 hl1
     have hd3:(upd (upd H1 q (.tup [.int i,.int x])) l (.lst [])) d=some (.dK (spk ns i f)):=by rw [Ze hdl]; exact hd2
     have hlk:(spk ns i f).length < sizeLine:=by unfold spk; rw [Ab]; exact Z1 (by have:=U8 ns i; lia)
     have hq0:H q=none:=sm.free hq
     have hl0:H l=none:=sm.free hl1
     have smq:Same H (upd (upd H1 q (.tup [.int i,.int x])) l (.lst [])):=Same.add (Same.add sm hq0) hl0
     have hp2:(pl ns i x).length < sizeLine:=Z1 (by have:=Zau td i x; lia)
     have old:∀ b u,H1 b=some u->(upd (upd H1 q (.tup [.int i,.int x])) l (.lst [])) b=some u:=λb u e=>by rw [Ze (Zm e hl1),Ze (Zm e hq)]; exact e
     refine ⟨spk ns i f,Sum.inl x,hd3,hlk,rfl,λv hv=>?_,λhv=>?_⟩
     ·-- the name stands already
      have hx2:x∈keys ns i:=by
       unfold spk at hv
       rw [W8] at hv
       by_cases c:x∈keys ns i
       ·exact c
       ·rw [if_neg c] at hv; cases hv
      obtain rfl:v=V.ref (f x):=by
       unfold spk at hv
       rw [W8,if_pos hx2] at hv
       exact (Option.some.inj hv).symm
      have ek:keys ns (i + 1)=keys ns i:=by rw [Xp hx',if_pos hx2]
      have hfx:=old _ _ (sf.at' x hx2)
      refine ⟨.inl ⟨rfl,_,SqL.of hfx⟩,_,rfl,f x,_,_,rfl,rfl,hfx,by rw [Ab]; exact hp2,hnx2 _ _ ⟨f,rfl,Same.add smq (hf0 x hx2),?_,⟨?_,?_⟩,?_⟩⟩
      ·have:d≠f x:=λz=>by rw [<- z,hd3] at hfx; cases hfx
       rw [Ze this,hd3]
       unfold spk
       rw [ek]
      ·rw [ek]; exact sf.inj
      ·intro y hy
       rw [ek] at hy
       by_cases c:y=x
       ·subst c
        rw [Zc,Zcz hx',Aj]
        rfl
       ·have:f y≠f x:=λz=>c (sf.inj y hy x hx2 z)
        rw [Ze this,old _ _ (sf.at' y hy),Zat (by rw [hx']; intro z; cases z; exact c rfl)]
      ·rw [ek]; exact hf0
     ·-- a new name
      have hx2:x ∉ keys ns i:=by
       intro c
       unfold spk at hv
       rw [W8,if_pos c] at hv
       cases hv
      have ek:keys ns (i + 1)=keys ns i ++ [x]:=by rw [Xp hx',if_neg hx2]
      have ep:putK (spk ns i f) (Sum.inl x) (V.ref l)=spk ns (i + 1) (λy=>if y=x then l else f y):=by
       unfold spk
       rw [Zcx hx2,ek,Aj]
       congr 1
       ·apply List.map_congr_left
        intro y hy
        dsimp only
        rw [if_neg (λ(z:y=x)=>hx2 (z ▸ hy))]
       ·simp
      rw [ep]
      have hl4:(upd (upd (upd H1 q (.tup [.int i,.int x])) l (.lst [])) d (.dK (spk ns (i + 1) (λy=>if y=x then l else f y)))) l=some (.lst []):=by rw [Ze (Ne.symm hdl),Zc]
      refine ⟨.inl ⟨rfl,_,SqL.of hl4⟩,_,rfl,l,_,_,rfl,rfl,hl4,by decide,hnx2 _ _ ⟨λy=>if y=x then l else f y,rfl,Same.add (Same.add smq hd) hl0,?_,⟨?_,?_⟩,?_⟩⟩
      ·rw [Ze hdl,Zc]
      ·intro y hy z hz e
       rw [ek,List.mem_append,List.mem_singleton] at hy hz
       by_cases c1:y=x
       ·by_cases c2:z=x
        ·rw [c1,c2]
        ·have hz':=hz.resolve_right c2
         simp only [c1,c2,if_true,if_false] at e
         exact absurd (sf.at' z hz') (by rw [<- e,hl1]; intro w; cases w)
       ·have hy':=hy.resolve_right c1
        by_cases c2:z=x
        ·simp only [c1,c2,if_true,if_false] at e
         exact absurd (sf.at' y hy') (by rw [e,hl1]; intro w; cases w)
        ·have hz':=hz.resolve_right c2
         simp only [c1,c2,if_false] at e
         exact sf.inj y hy' z hz' e
      ·intro y hy
       rw [ek,List.mem_append,List.mem_singleton] at hy
       by_cases c:y=x
       ·subst c
        simp only [if_true]
        rw [Zc,Zcz hx',Zld hx2]
        rfl
       ·have hy':=hy.resolve_right c
        have e1:=sf.at' y hy'
        have n1:f y≠l:=Zm e1 hl1
        have n2:f y≠d:=λz=>by rw [z,hd1] at e1; cases e1
        simp only [c,if_false]
        rw [Ze n1,Ze n2,old _ _ e1,Zat (by rw [hx']; intro z; cases z; exact c rfl)]
      ·intro y hy
       rw [ek,List.mem_append,List.mem_singleton] at hy
       by_cases c:y=x
       ·simp only [c,if_true]; exact hl0
       ·simp only [c,if_false]; exact hf0 y (hy.resolve_right c)
    rintro σ H2 ⟨f',rfl,sm2,hd4,sf2,hf2⟩
    have hx3:x∈keys ns (i + 1):=Y6.mpr ⟨i,by lia,hx'⟩
    have hg:valV (spk ns (i + 1) f') (Sum.inl x)=some (V.ref (f' x)):=by unfold spk; rw [W8,if_pos hx3]
    refine ⟨_,rfl,_,rfl,d,_,rfl,?_,f' x,_,rfl,.inl (SqL.of (sf2.at' x hx3)),_,_,rfl,rfl,_,rfl,?_⟩
    ·exact .inl ⟨_,Sum.inl x,.inl hd4,rfl,hg.symm⟩
    have h2:=Zau td (i + 1) x
    rw [decide_eq_false (by rw [Ab]; lia:¬ ((((pl ns (i + 1) x).map nV).length:Nat):Int) > 2)]
    refine iteF ?_
    exact ⟨f',_,_,rfl,sm2,hd4,sf2,hf2⟩
   ·rintro σ H1 ⟨f,v2,v3,rfl,sm,hd1,sf,hf0⟩
    rw [el] at hd1 sf hf0
    exact hnx _ _ ⟨f,v2,v3,rfl,sm,hd1,sf,hf0⟩
  rintro σ H1 ⟨f,v2,v3,rfl,sm,hd1,sf,hf0⟩
  exact ⟨_,rfl,k d f H1 sm hd hd1 sf hf0⟩
noncomputable def Zb0:Sp:=λvs H Q _=>∃ (d:Addr) (M:List (Option Nat)) (ns:List Int) (f:Int->Addr),vs=[.ref d,.int ns.length]/\H d=some (.dK (spk ns ns.length f))/\SpotsF H ns ns.length f/\TD M ns/\ns.length<=120 /\
 ∀ (m:Addr) (o:Obj) (H':Hp),(∀ b u,b≠d->H b=some u->H' b=some u)->H m=none->H' m=some (.lst (M.map mV))->H' d=some (.frz o (.dK (spk ns ns.length f)))->Q (.ref m) H'
theorem Qk:FnScope ["spots","count","mates","pair"] ["spots","count"] (Zi Op):=⟨rfl,rfl,rfl,by decide +kernel,rfl,by decide +kernel,by decide +kernel⟩
theorem Zb9 (T:Txt w K mg t):FnOk P w K mg base (CXr P w) 1 t.ci t.cw ["spots","count"] Zb0:=by
 refine T.cD.F.aR Qk (λcdv A outer s H vs Q E hr h=>?_)
 ·obtain ⟨d,M,ns,f,rfl,hd,sf,td,hl,k⟩:=h
  refine ⟨_,(Zd (Zo (i:=2) Qk.nd rfl (Or.inl rfl) (Zh Za0 (Y5 (Za Jv Zb)) (pv 1)))
   (Zd (Ys PassesOwn.never rfl (Zjv (pv 0) ⟨rfl,rfl,rfl⟩) (Zq (i:=3) Qk.nd rfl (Or.inl rfl)) (Zg (Z4 (Zt Xq (Zk Zj (by rfl) T.ae PySem.boot_len (Za (pv 3) Zb)) Zf (Zu _)) (Zd (X7 (Zs Zp (pv 3) Zf (λ_ _=>rfl)) (Ju (pv 2) (Zs Zp (pv 3) Zf (λ_ _=>rfl)) X2))
   (Zg (X7 (Zs Zp (pv 3) Zf (λ_ _=>rfl)) (Ju (pv 2) (Zs Zp (pv 3) Zf (λ_ _=>rfl)) X2)))) Zv)))
   (Zg (Zr (pv 2))))),?_⟩
  refine ⟨(by show 1<=sizeLine; decide),λq hq=>?_⟩
  refine ⟨_,rfl,q,_,_,rfl,rfl,Zc,by lia,by lia,?_,λm hm=>?_⟩
  ·have:((ns.length:Nat):Int).toNat=ns.length:=by lia
   show 1 * ((ns.length:Nat):Int).toNat<=sizeLine
   rw [this,sizeLine_eq]; lia
  obtain ⟨hmq,hm0⟩:=Wu hm
  have eM:(List.replicate ((ns.length:Nat):Int).toNat [V.non]).flatten=(part M ns []).map mV:=by
   have:((ns.length:Nat):Int).toNat=M.length:=by rw [<- td.len]; lia
   rw [this,List.flatten_replicate_singleton,Zhw td,List.map_replicate]
   rfl
  rw [eM]
  have hdm:d≠m:=Zm hd hm0
  have hdq:d≠q:=Zm hd hq
  dsimp only [Zl]
  show tSeq (tFor _ _ _) _ _ _ _
  refine Z7 (λσ H1=>∃ (o:Obj) (v:Option V),σ=[some (.ref d),some (.int ns.length),some (.ref m),v]/\(∀ b u,b≠d->H b=some u->H1 b=some u)/\H1 m=some (.lst (M.map mV))/\H1 d=some (.frz o (.dK (spk ns ns.length f)))) (λnx hnx=>?_) ?_
  ·refine ⟨_,rfl,d,_,rfl,.inl ⟨by rw [Ze hdm,Ze hdq]; exact hd,λo=>?_⟩⟩
   refine Zib (λj σ H1=>∃ (v:Option V),σ=[some (.ref d),some (.int ns.length),some (.ref m),v]/\(∀ b u,b≠d->H b=some u->H1 b=some u)/\H1 m=some (.lst ((part M ns ((keys ns ns.length).take j)).map mV))/\H1 d=some (.frz o (.dK (spk ns ns.length f))))
    ⟨none,rfl,λb u hb e=>?_,?_,Zc⟩ ?_ ?_ ?_
   ·rw [Ze hb,Ze (Zm e hm0),Ze (Zm e hq)]; exact e
   ·rw [Ze (Ne.symm hdm),Zc]
    rfl
   ·rintro j σ H1 _ ⟨v,rfl,old,h1,h2⟩
    exact h2
   ·rintro j k0 x0 σ H1 hk ⟨v,rfl,old,h1,h2⟩
    obtain ⟨x,hx,rfl⟩:∃ x,(keys ns ns.length)[j]?=some x/\x0=V.ref (f x):=by
     unfold spk at hk
     rw [Ah] at hk
     cases e:(keys ns ns.length)[j]? with
     | none=>rw [e] at hk; cases hk
     | some x=>rw [e] at hk; cases hk; exact ⟨x,rfl,rfl⟩
    have hm1:x∈keys ns ns.length:=List.mem_of_getElem? hx
    have et:(keys ns ns.length).take (j + 1)=(keys ns ns.length).take j ++ [x]:=by
     rw [List.take_add_one,hx]; rfl
    have hfx:=sf.at' x hm1
    have hfd:f x≠d:=λz=>by rw [z,hd] at hfx; cases hfx
    have hf1:=old _ _ hfd hfx
    dsimp only [Zl]
    refine ⟨_,rfl,f x,_,rfl,.inl (SqL.of hf1),rfl,_,rfl,?_⟩
    rcases U3 td hm1 with ⟨a,e,ea,ma⟩ | ⟨a,b,hab,e,ea,eb,ma,mb⟩
    ·rw [e] at hf1 ⊢
     refine iteF ?_
     refine ⟨_,rfl,old,?_,h2⟩
     rw [et,Zhv td e ma]
     exact h1
    ·rw [e] at hf1 ⊢
     refine iteT ?_
     have la:a < (part M ns ((keys ns ns.length).take j)).length:=by rw [Xf]; exact (Aa ma).1
     have lb:b < (part M ns ((keys ns ns.length).take j)).length:=by rw [Xf]; exact (Aa mb).1
     have hfm:f x≠m:=Zm hfx hm0
     refine ⟨_,rfl,f x,_,_,_,rfl,rfl,SqL.of hf1,rfl,?_⟩
     refine ⟨_,rfl,_,rfl,f x,_,_,_,rfl,rfl,SqL.of hf1,rfl,m,_,_,a,rfl,rfl,h1,(by rw [Ab]; exact Wy la),?_⟩
     have hf2:(upd H1 m (.lst (((part M ns ((keys ns ns.length).take j)).map mV).set a (nV b)))) (f x)=some (.lst ([a,b].map nV)):=by rw [Ze hfm]; exact hf1
     refine ⟨_,rfl,f x,_,_,_,rfl,rfl,SqL.of hf2,rfl,?_⟩
     refine ⟨_,rfl,_,rfl,f x,_,_,_,rfl,rfl,SqL.of hf2,rfl,m,_,_,b,rfl,rfl,Zc,(by rw [List.length_set,Ab]; exact Wy lb),?_⟩
     refine ⟨_,rfl,λc u hc ec=>?_,?_,?_⟩
     ·have:c≠m:=Zm ec hm0
      rw [Ze this,Ze this]
      exact old c u hc ec
     ·rw [Zc,et,Zf0 td e hab ma mb]
      show some (HO.lst ((((part M ns ((keys ns ns.length).take j)).map mV).set a (mV (some b))).set b (mV (some a))))=_
      rw [map_set,map_set]
     ·rw [Ze hdm,Ze hdm]; exact h2
   ·rintro σ H1 ⟨v,rfl,old,h1,h2⟩
    refine hnx _ _ ⟨o,v,rfl,old,?_,h2⟩
    have:(keys ns ns.length).take (spk ns ns.length f).length=keys ns ns.length:=by
     unfold spk; rw [Ab,List.take_length]
    rw [this,Zhx td] at h1
    exact h1
  rintro σ H1 ⟨o,v,rfl,old,h1,h2⟩
  exact ⟨_,rfl,k m o H1 old hm0 h1 h2⟩
noncomputable def Wc (cl na sp mt:Addr):List (Str × V):=putF "mates" (.ref mt) (putF "spots" (.ref sp) (putF "names_at" (.ref na) (putF "cloths" (.ref cl) [])))
theorem Wv (f:Str) (v:V):∀ fs:List (Str × V),(putF f v fs).length<=fs.length + 1
 | []=>by simp [putF]
 | (g,x) :: r=>by
  have:=Wv f v r
  unfold putF
  split
  ·simp
  ·simp only [List.length_cons]; lia
theorem s_cn:¬ ("cloths":Str)="names_at":=by decide
theorem s_cs:¬ ("cloths":Str)="spots":=by decide
theorem s_cm:¬ ("cloths":Str)="mates":=by decide
theorem s_ns:¬ ("names_at":Str)="spots":=by decide
theorem s_nm:¬ ("names_at":Str)="mates":=by decide
theorem s_sm:¬ ("spots":Str)="mates":=by decide
theorem Zgq (cl na sp mt:Addr):(Wc cl na sp mt).lookup ("cloths":Str)=some (.ref cl):=by
 unfold Wc; rw [Zw,if_neg s_cm,Zw,if_neg s_cs,Zw,if_neg s_cn,Zw,if_pos rfl]
theorem Oc (cl na sp mt:Addr):(Wc cl na sp mt).lookup ("names_at":Str)=some (.ref na):=by
 unfold Wc; rw [Zw,if_neg s_nm,Zw,if_neg s_ns,Zw,if_pos rfl]
theorem Ob (cl na sp mt:Addr):(Wc cl na sp mt).lookup ("spots":Str)=some (.ref sp):=by
 unfold Wc; rw [Zw,if_neg s_sm,Zw,if_pos rfl]
theorem Zid (cl na sp mt:Addr):(Wc cl na sp mt).lookup ("mates":Str)=some (.ref mt):=by
 unfold Wc; rw [Zw,if_pos rfl]
theorem Yn (cl na sp mt:Addr) {m:Str} (h:m≠"cloths"/\m≠"names_at"/\m≠"spots"/\m≠"mates":=by decide):(Wc cl na sp mt).lookup m=none:=by
 obtain ⟨h1,h2,h3,h4⟩:=h
 unfold Wc; rw [Zw,if_neg h4,Zw,if_neg h3,Zw,if_neg h2,Zw,if_neg h1]; rfl
structure TentB (C:Addr) (H:Hp) (p:Addr) (M:List (Option Nat)) (ns:List Int) (dx cl na sp mt:Addr) (o:Obj) (f:Int->Addr):Prop where
 ins:H p=some (.ins C dx (Wc cl na sp mt))
 rows:Xl H cl ns
 names:H na=some (.lst (ns.map V.int))
 spots:H sp=some (.frz o (.dK (spk ns ns.length f)))
 mates:H mt=some (.lst (M.map mV))
 at':∀ x∈keys ns ns.length,H (f x)=some (.lst ((pl ns ns.length x).map nV))
noncomputable def Z5 (C:Addr) (H:Hp) (p:Addr) (M:List (Option Nat)) (ns:List Int):Prop:=∃ dx cl na sp mt o f,TentB C H p M ns dx cl na sp mt o f
theorem Z5.same {C:Addr} {H H':Hp} {p:Addr} {M:List (Option Nat)} {ns:List Int} (h:Z5 C H p M ns) (s:Same H H'):Z5 C H' p M ns:=by
 obtain ⟨dx,cl,na,sp,mt,o,f,b⟩:=h
 exact ⟨dx,cl,na,sp,mt,o,f,s _ _ b.ins,b.rows.same s,s _ _ b.names,s _ _ b.spots,s _ _ b.mates,λx hx=>s _ _ (b.at' x hx)⟩
theorem Zhc {ns:List Int} {k n:Nat} (h:ns.length=3 * n) (hk:k < n):(ns.take (3 * k)).map V.int ++ row3 ns k=(ns.take (3 * (k + 1))).map V.int:=by
 have e:ns.take (3 * (k + 1))=ns.take (3 * k) ++ [ns.getD (3 * k) 0,ns.getD (3 * k + 1) 0,ns.getD (3 * k + 2) 0]:=by
  have l0:3 * k < ns.length:=by lia
  have l1:3 * k + 1 < ns.length:=by lia
  have l2:3 * k + 2 < ns.length:=by lia
  have g:∀ i,i < ns.length->ns[i]?=some (ns.getD i 0):=λi hi=>by rw [Ad,Ac hi]; rfl
  rw [show 3 * (k + 1)=3 * k + 1 + 1 + 1 by lia,List.take_add_one,List.take_add_one,List.take_add_one,g _ l0,g _ l1,g _ l2,List.append_assoc,List.append_assoc]
  rfl
 rw [e,Aj]
 rfl
noncomputable def F0 (C:Addr):Sp:=λvs H Q _=>∃ (p r dx:Addr) (M:List (Option Nat)) (ns:List Int),vs=[.ref p,.ref r]/\H p=some (.ins C dx [])/\Xl H r ns/\TD M ns/\ns.length<=120 /\
 ∀ (H':Hp),(∀ b u,b≠p->H b=some u->H' b=some u)->Z5 C H' p M ns->Q .non H'
theorem F9:FnScope ["self","rows"] ["self","rows"] (Zi Uu):=⟨rfl,rfl,rfl,by decide +kernel,rfl,by decide +kernel,by decide +kernel⟩
theorem Za6 (T:Txt w K mg t):FnOk P w K mg base (CXr P w) 2 t.aK t.bU ["self","rows"] (F0 t.aa):=by
  refine T.b6.F.aR F9 (λcdv A outer s H vs Q E hr h=>?_)
  · obtain ⟨p,r,dx,M,ns,rfl,hp,⟨ts,hr1,hr2,hr3⟩,td,hl,k⟩:=h
    refine ⟨_,(Zd (Z4 (X6 (U0 (pv 1) (λ_=>rfl))) Xd Zv)
      (Zd (O0 (pv 0) (Yf (ts:=["row"]) (fv:=[]) ⟨rfl,by decide +kernel,by decide +kernel,Ya (by rfl),trivial⟩ rfl (Yu (pv 1)) (λ_ _ _ _=>(Zq (i:=0) (show List.Nodup (["row"]:List Str) from by decide +kernel) rfl (Or.inl rfl) (Or.inr rfl))) (λ_ _ _ _=>Yc) (λ_ _ _=>rfl) (λ_ _ _ _ _ _=>Yd (Wx (Gd K) (by rfl) T.eE PySem.Pv.boot_tuple (Za (pv 0) Zb)))) rfl)
      (Zd (O0 (pv 0) (Yf (ts:=["row","name"]) (fv:=[]) ⟨rfl,by decide +kernel,by decide +kernel,Ya (by rfl),trivial⟩ rfl (Yu (Xs (pv 0) rfl)) (λ_ _ _ _=>(Zq (i:=0) (show List.Nodup (["row","name"]:List Str) from by decide +kernel) rfl (Or.inl rfl) (Or.inr rfl))) (λ_ _ _ _=>Yc) (λ_ _ _=>rfl) (λ_ _ _ _ _ _=>Zfz rfl rfl (Zc0 K (pv 0)) (Zq (i:=1) (show List.Nodup (["row","name"]:List Str) from by decide +kernel) rfl (Or.inl rfl) (Or.inr rfl)) Yc (pv 1))) rfl)
      (Zd (O0 (pv 0) (pcT (Zb8 T) hr T.cC (Za (Xs (pv 0) rfl) Zb)) rfl)
      (Zg (O0 (pv 0) (pcT (Zb9 T) hr T.cD (Za (Xs (pv 0) rfl) (Za (Zk Zj (by rfl) T.ae PySem.boot_len (Za (Xs (pv 0) rfl) Zb)) Zb))) rfl)))))),?_⟩
    obtain ⟨n,n1,n2,hn⟩:=td.n
    have hnn:ns.length=3 * n:=by rw [td.len,hn]
    have htn:ts.length=n:=by lia
    have hrp:r≠p:=λz=>by rw [z,hp] at hr1; cases hr1
    refine ⟨_,rfl,true,.inl ⟨_,SqL.of hr1,?_⟩,?_⟩
    · cases ts with
      | nil=>simp at htn; lia
      | cons _ _=>rfl
    refine iteF ?_
    dsimp only [Xx]
    refine ⟨_,rfl,r,rfl,⟨_,SqL.of hr1⟩,λD hD=>?_⟩
    have hDp:D≠p:=λz=>by rw [z,hp] at hD; cases hD
    refine Yt (xs:=ts.map V.ref) (λi σ H1=>∃ (v:Option V),σ=[v]/\Same H H1/\H1 D=some (.lst ((ts.take i).map V.ref))) ⟨none,rfl,Same.new hD,Zc⟩ ?_ ?_ ?_
    · rintro i σ H1 _ ⟨v,rfl,sm,h1⟩
      exact SqL.of (sm _ _ hr1)
    · rintro i x σ H1 hx ⟨v,rfl,sm,h1⟩
      dsimp only [Zl,tYes]
      rw [if_pos rfl]
      obtain ⟨tt,ht,rfl⟩:=map_some hx
      refine ⟨_,rfl,tt,_,rfl,.inr ⟨SqT.of (sm _ _ (hr3 i tt ht)),_,h1,(by rw [Ab,Ai]; exact Z1 (by lia)),_,rfl,Same.add sm hD,?_⟩⟩
      rw [Zc,List.take_add_one,ht,Aj]
      rfl
    rintro σ H1 ⟨v,rfl,sm1,h1⟩
    rw [Ab,List.take_length] at h1
    have hp1:=sm1 _ _ hp
    refine ⟨_,rfl,p,_,dx,_,rfl,hp1,T.ad,T.aB,by decide,?_⟩
    have old2:∀ b u,b≠p->H b=some u->(upd H1 p (.ins t.aa dx (putF "cloths" (.ref D) []))) b=some u:=λb u hb e=>by rw [Ze hb]; exact sm1 b u e
    have hD2:(upd H1 p (.ins t.aa dx (putF "cloths" (.ref D) []))) D=some (.lst (ts.map V.ref)):=by rw [Ze hDp]; exact h1
    have hp2:(upd H1 p (.ins t.aa dx (putF "cloths" (.ref D) []))) p=some (.ins t.aa dx (putF "cloths" (.ref D) [])):=Zc
    have ht2:∀ (k:Nat) (q:Addr),ts[k]?=some q->(upd H1 p (.ins t.aa dx (putF "cloths" (.ref D) []))) q=some (.tup (row3 ns k)):=λk q e=>by
      have e1:=hr3 k q e
      have:q≠p:=λz=>by rw [z,hp] at e1; cases e1
      exact old2 q _ this e1
    generalize upd H1 p (.ins t.aa dx (putF "cloths" (.ref D) []))=H2 at old2 hD2 hp2 ht2 ⊢
    refine ⟨_,rfl,p,_,dx,_,_,rfl,hp2,T.ad,T.aB,rfl,D,rfl,⟨_,SqL.of hD2⟩,λN hN=>?_⟩
    have hND:N≠D:=λz=>by rw [z,hD2] at hN; cases hN
    have hNp:N≠p:=λz=>by rw [z,hp2] at hN; cases hN
    refine Yt (xs:=ts.map V.ref) (λi σ H3=>∃ (v v':Option V),σ=[v,v']/\Same H2 H3/\H3 N=some (.lst ((ns.take (3 * i)).map V.int))) ⟨none,none,rfl,Same.new hN,Zc⟩ ?_ ?_ ?_
    · rintro i σ H3 _ ⟨v,v',rfl,sm,h3⟩
      exact SqL.of (sm _ _ hD2)
    · rintro i x σ H3 hx ⟨v,v',rfl,sm,h3⟩
      dsimp only [Zl,tYes]
      rw [if_pos rfl]
      obtain ⟨tt,ht,rfl⟩:=map_some hx
      have hi:i < n:=by rw [<- htn]; exact (Aa ht).1
      refine ⟨_,rfl,tt,rfl,⟨_,SqT.of (sm _ _ (ht2 i tt ht))⟩,?_⟩
      refine Zbc (xs:=row3 ns i) (λj σ H4=>∃ (v':Option V),σ=[some (.ref tt),v']/\Same H2 H4/\H4 N=some (.lst ((ns.take (3 * i)).map V.int ++ (row3 ns i).take j))) ⟨v',rfl,sm,by rw [h3,List.take_zero,List.append_nil]⟩ ?_ ?_ ?_
      · rintro j σ H4 _ ⟨v',rfl,sm,h4⟩
        exact SqT.of (sm _ _ (ht2 i tt ht))
      · rintro j x σ H4 hx ⟨v',rfl,sm,h4⟩
        dsimp only [Zl,tYes]
        rw [if_pos rfl]
        refine ⟨_,rfl,_,h4,?_,_,rfl,Same.add sm hN,?_⟩
        · rw [Ae,Ab,Ai,Ai]
          exact Z1 (by have:(row3 ns i).length=3:=rfl; lia)
        · rw [Zc,List.take_add_one,hx,<- List.append_assoc]
          rfl
      · rintro σ H4 ⟨v',rfl,sm,h4⟩
        refine ⟨_,_,rfl,sm,?_⟩
        rw [h4,List.take_length,Zhc hnn hi]
    rintro σ H3 ⟨v,v',rfl,sm3,h3⟩
    have eall:ns.take (3 * (ts.map V.ref).length)=ns:=by rw [Ab,htn,<- hnn,List.take_length]
    rw [eall] at h3
    have hp3:=sm3 _ _ hp2
    refine ⟨_,rfl,p,_,dx,_,rfl,hp3,T.ad,T.ag,(by have h1:=Wv "cloths" (.ref D) []; simp only [List.length_nil] at h1; lia),?_⟩
    have old4:∀ b u,b≠p->H2 b=some u->(upd H3 p (.ins t.aa dx (putF "names_at" (.ref N) (putF "cloths" (.ref D) [])))) b=some u:=λb u hb e=>by rw [Ze hb]; exact sm3 b u e
    have hN4:(upd H3 p (.ins t.aa dx (putF "names_at" (.ref N) (putF "cloths" (.ref D) [])))) N=some (.lst (ns.map V.int)):=by rw [Ze hNp]; exact h3
    have hp4:(upd H3 p (.ins t.aa dx (putF "names_at" (.ref N) (putF "cloths" (.ref D) [])))) p=some (.ins t.aa dx (putF "names_at" (.ref N) (putF "cloths" (.ref D) []))):=Zc
    generalize upd H3 p (.ins t.aa dx (putF "names_at" (.ref N) (putF "cloths" (.ref D) [])))=H4 at old4 hN4 hp4 ⊢
    have lk1:(putF "names_at" (.ref N) (putF "cloths" (.ref D) [])).lookup ("names_at":Str)=some (.ref N):=by rw [Zw,if_pos rfl]
    refine ⟨_,rfl,p,_,dx,_,_,rfl,hp4,T.ad,T.ag,lk1,N,M,ns,rfl,hN4,td,hl,λd f H5 sm5 hd5 hd5' sf hf0=>?_⟩
    have hp5:=sm5 _ _ hp4
    refine ⟨_,rfl,p,_,dx,_,rfl,hp5,T.ad,T.am,(by have h1:=Wv "cloths" (.ref D) []; have h2:=Wv "names_at" (.ref N) (putF "cloths" (.ref D) []); simp only [List.length_nil] at h1; lia),?_⟩
    have hdp:d≠p:=λz=>by rw [z,hp4] at hd5; cases hd5
    have hfp:∀ x∈keys ns ns.length,f x≠p:=λx hx z=>by have:=hf0 x hx; rw [z,hp4] at this; cases this
    have old6:∀ b u,b≠p->H4 b=some u->(upd H5 p (.ins t.aa dx (putF "spots" (.ref d) (putF "names_at" (.ref N) (putF "cloths" (.ref D) []))))) b=some u:=λb u hb e=>by rw [Ze hb]; exact sm5 b u e
    have hp6:(upd H5 p (.ins t.aa dx (putF "spots" (.ref d) (putF "names_at" (.ref N) (putF "cloths" (.ref D) []))))) p=some (.ins t.aa dx (putF "spots" (.ref d) (putF "names_at" (.ref N) (putF "cloths" (.ref D) [])))):=Zc
    have hd6:(upd H5 p (.ins t.aa dx (putF "spots" (.ref d) (putF "names_at" (.ref N) (putF "cloths" (.ref D) []))))) d=some (.dK (spk ns ns.length f)):=by rw [Ze hdp]; exact hd5'
    have sf6:SpotsF (upd H5 p (.ins t.aa dx (putF "spots" (.ref d) (putF "names_at" (.ref N) (putF "cloths" (.ref D) []))))) ns ns.length f:=⟨sf.inj,λx hx=>by rw [Ze (hfp x hx)]; exact sf.at' x hx⟩
    generalize upd H5 p (.ins t.aa dx (putF "spots" (.ref d) (putF "names_at" (.ref N) (putF "cloths" (.ref D) []))))=H6 at old6 hp6 hd6 sf6 ⊢
    have lk2:(putF "spots" (.ref d) (putF "names_at" (.ref N) (putF "cloths" (.ref D) []))).lookup ("spots":Str)=some (.ref d):=by rw [Zw,if_pos rfl]
    have lk3:(putF "spots" (.ref d) (putF "names_at" (.ref N) (putF "cloths" (.ref D) []))).lookup ("names_at":Str)=some (.ref N):=by rw [Zw,if_neg s_ns,Zw,if_pos rfl]
    have hN6:=old6 _ _ hNp hN4
    have eln:(((ns.map V.int).length:Nat):Int)=(ns.length:Nat):=by rw [Ab]
    refine ⟨_,rfl,p,_,dx,_,_,rfl,hp6,T.ad,T.am,lk2,_,rfl,p,_,dx,_,_,rfl,hp6,T.ad,T.ag,lk3,N,_,rfl,.inl (SqL.of hN6),d,M,ns,f,(by rw [eln]; rfl),hd6,sf6,td,hl,λm o H7 old7 hm7 hmm hdd=>?_⟩
    have hpd:p≠d:=Ne.symm hdp
    have hp7:=old7 _ _ hpd hp6
    refine ⟨_,rfl,p,_,dx,_,rfl,hp7,T.ad,T.bH,(by have h1:=Wv "cloths" (.ref D) []; have h2:=Wv "names_at" (.ref N) (putF "cloths" (.ref D) []); have h3:=Wv "spots" (.ref d) (putF "names_at" (.ref N) (putF "cloths" (.ref D) [])); simp only [List.length_nil] at h1; lia),?_⟩
    have hmp:m≠p:=λz=>by rw [z,hp6] at hm7; cases hm7
    have dN:N≠d:=λz=>by rw [z,hd6] at hN6; cases hN6
    have old8:∀ b u,b≠p->b≠d->H6 b=some u->(upd H7 p (.ins t.aa dx (Wc D N d m))) b=some u:=λb u hb hbd e=>by rw [Ze hb]; exact old7 b u hbd e
    have old46:∀ b u,b≠p->H4 b=some u->H6 b=some u/\b≠d:=λb u hb e=>⟨old6 b u hb e,λz=>by rw [z,hd5] at e; cases e⟩
    have old28:∀ b u,b≠p->H2 b=some u->(upd H7 p (.ins t.aa dx (Wc D N d m))) b=some u:=λb u hb e=>by
      obtain ⟨e6,hbd⟩:=old46 b u hb (old4 b u hb e)
      exact old8 b u hb hbd e6
    refine k _ (λb u hb e=>old28 b u hb (old2 b u hb e)) ⟨dx,D,N,d,m,o,f,Zc,⟨ts,old28 _ _ hDp hD2,by lia,λk q e=>?_⟩,?_,?_,?_,?_⟩
    · have e1:=ht2 k q e
      exact old28 q _ (λz=>by rw [z,hp2] at e1; cases e1) e1
    · exact old8 _ _ hNp dN hN6
    · rw [Ze hdp]; exact hdd
    · rw [Ze hmp]; exact hmm
    · intro x hx
      have e1:=sf6.at' x hx
      exact old8 _ _ (hfp x hx) (λz=>by rw [z,hd6] at e1; cases e1) e1
noncomputable def Y3 (ns:List Int) (x:Int):Str:=match pl ns ns.length x with
 | [a,b]=>if a / 3=b / 3 then "locked" else "free"
 | _=>"rim"
noncomputable def Zhh:Sp:=λvs H Q _=>∃ p:Int,vs=[.int p]/\Q (.int (after p)) H
noncomputable def Zfc:Sp:=λvs H Q _=>∃ p:Int,vs=[.int p]/\Q (.int (before p)) H
noncomputable def Zb3:Sp:=λvs H Q _=>∃ p:Int,vs=[.int p]/\Q (.int (p / 3)) H
noncomputable def Fy (C:Addr):Sp:=λvs H Q _=>∃ (p:Addr) (M:List (Option Nat)) (ns:List Int),vs=[.ref p]/\Z5 C H p M ns /\
 ∀ (l:Addr) (ts:List Addr),H l=none->ns.length=3 * ts.length->(∀ (k:Nat) (t:Addr),ts[k]?=some t->H t=some (.tup (row3 ns k)))->Q (.ref l) (upd H l (.lst (ts.map V.ref)))
noncomputable def Fg (C:Addr):Sp:=λvs H Q _=>∃ (p:Addr) (M:List (Option Nat)) (ns:List Int),vs=[.ref p]/\Z5 C H p M ns/\ns.length < 64 /\
 ∀ (l:Addr) (out:List Int),H l=none->out.Perm (keys ns ns.length)->out.Pairwise (·<=·)->Q (.ref l) (upd H l (.lst (out.map V.int)))
noncomputable def Uk (C:Addr):Sp:=λvs H Q _=>∃ (p:Addr) (M:List (Option Nat)) (ns:List Int) (x:Int),vs=[.ref p,.int x]/\Z5 C H p M ns/\Q (.bl (decide (0<=x/\x < ns.length))) H
noncomputable def Vk (C EP:Addr):Sp:=λvs H Q E=>∃ (p:Addr) (M:List (Option Nat)) (ns:List Int) (x:Int),vs=[.ref p,.int x]/\Z5 C H p M ns/\(0<=x/\x < ns.length->Q .non H)/\(¬ (0<=x/\x < ns.length)->E (.ref EP) none H)
noncomputable def Oj (C EP:Addr):Sp:=λvs H Q E=>∃ (p:Addr) (M:List (Option Nat)) (ns:List Int) (x:Int),vs=[.ref p,.int x]/\Z5 C H p M ns/\(∀ (i:Nat) (y:Int),x=i->ns[i]?=some y->Q (.int y) H)/\(¬ (0<=x/\x < ns.length)->E (.ref EP) none H)
noncomputable def Fz (C EP:Addr):Sp:=λvs H Q E=>∃ (p:Addr) (M:List (Option Nat)) (ns:List Int) (x:Int),vs=[.ref p,.int x]/\Z5 C H p M ns/\M.length=ns.length/\(∀ (i:Nat) (y:Option Nat),x=i->M[i]?=some y->Q (mV y) H)/\(¬ (0<=x/\x < ns.length)->E (.ref EP) none H)
noncomputable def Ks (C ES:Addr):Sp:=λvs H Q E=>∃ (p:Addr) (M:List (Option Nat)) (ns:List Int) (x:Int),vs=[.ref p,.int x]/\Z5 C H p M ns/\(x∈keys ns ns.length->∀ l,H l=none->Q (.ref l) (upd H l (.lst ((pl ns ns.length x).map nV))))/\(x ∉ keys ns ns.length->E (.ref ES) none H)
noncomputable def Oi (C ES:Addr):Sp:=λvs H Q E=>∃ (p:Addr) (M:List (Option Nat)) (ns:List Int) (x:Int),vs=[.ref p,.int x]/\Z5 C H p M ns/\TD M ns/\(x∈keys ns ns.length->∀ H',Same H H'->Q (.str (Y3 ns x)) H')/\(x ∉ keys ns ns.length->E (.ref ES) none H)
theorem Zhj:FnScope ["place"] ["place"] (Zi Zcu):=⟨rfl,rfl,rfl,by decide +kernel,rfl,by decide +kernel,by decide +kernel⟩
theorem Za4 (T:Txt w K mg t):FnOk P w K mg base (CXr P w) 1 t.dH t.dM ["place"] Zhh:=by
 refine T.cX.F.aR Zhj (λcdv A outer s H vs Q E hr h=>?_)
 ·obtain ⟨p,rfl,k⟩:=h
  refine ⟨_,(Zg (Zr (Zax (Zt Xq (Zh Zx (pv 0) Zf) Zf (Zu _)) (Zh Ye (pv 0) Zf) (Zh Zz (pv 0) Zf)))),?_⟩
  refine ⟨_,rfl,_,_,rfl,rfl,(by show (0:Int) < 3; decide),rfl,_,rfl,?_⟩
  refine ite2 (λh=>?_) (λh=>?_)
  ·have h:p % 3=2:=by simpa using h
   refine ⟨_,rfl,_,_,rfl,rfl,?_⟩
   have e:after p=p - 2:=if_pos h
   rw [e] at k; exact k
  ·have h:¬ p % 3=2:=by simpa using h
   refine ⟨_,rfl,_,_,rfl,rfl,?_⟩
   have e:after p=p + 1:=if_neg h
   rw [e] at k; exact k
theorem Zfg:FnScope ["place"] ["place"] (Zi Zai):=⟨rfl,rfl,rfl,by decide +kernel,rfl,by decide +kernel,by decide +kernel⟩
theorem Gu (T:Txt w K mg t):FnOk P w K mg base (CXr P w) 1 t.cY t.dg ["place"] Zfc:=by
 refine T.cB.F.aR Zfg (λcdv A outer s H vs Q E hr h=>?_)
 ·obtain ⟨p,rfl,k⟩:=h
  refine ⟨_,(Zg (Zr (Zax (Zt Xq (Zh Zx (pv 0) Zf) Zf (Zu _)) (Zh Zz (pv 0) Zf) (Zh Ye (pv 0) Zf)))),?_⟩
  refine ⟨_,rfl,_,_,rfl,rfl,(by show (0:Int) < 3; decide),rfl,_,rfl,?_⟩
  refine ite2 (λh=>?_) (λh=>?_)
  ·have h:p % 3=0:=by simpa using h
   refine ⟨_,rfl,_,_,rfl,rfl,?_⟩
   have e:before p=p + 2:=if_pos h
   rw [e] at k; exact k
  ·have h:¬ p % 3=0:=by simpa using h
   refine ⟨_,rfl,_,_,rfl,rfl,?_⟩
   have e:before p=p - 1:=if_neg h
   rw [e] at k; exact k
theorem Zb5:FnScope ["place"] ["place"] (Zi Ou):=⟨rfl,rfl,rfl,by decide +kernel,rfl,by decide +kernel,by decide +kernel⟩
theorem Jq (T:Txt w K mg t):FnOk P w K mg base (CXr P w) 1 t.cf t.cu ["place"] Zb3:=by
 refine T.aq.F.aR Zb5 (λcdv A outer s H vs Q E hr h=>?_)
 ·obtain ⟨p,rfl,k⟩:=h
  refine ⟨_,(Zg (Zr (Zh Yv (pv 0) Zf))),?_⟩
  exact ⟨_,rfl,_,_,rfl,rfl,⟨by decide,by decide⟩,k⟩
theorem F7:FnScope ["self"] ["self"] (Zi Us):=⟨rfl,rfl,rfl,by decide +kernel,rfl,by decide +kernel,by decide +kernel⟩
theorem Za5 (T:Txt w K mg t):FnOk P w K mg base (CXr P w) 1 t.bP t.bV ["self"] (Fy t.aa):=by
 refine T.aV.F.aR F7 (λcdv A outer s H vs Q E hr h=>?_)
 ·obtain ⟨p,M,ns,rfl,⟨dx,cl,na,sp,mt,o,f,b⟩,k⟩:=h
  refine ⟨_,(Zg (Zr (Wx Wb (by rfl) T.aJ PySem.Pv.boot_list (Za (Xs (pv 0) rfl) Zb)))),?_⟩
  obtain ⟨ts,h1,h2,h3⟩:=b.rows
  exact ⟨_,rfl,p,_,dx,_,_,rfl,b.ins,T.ad,T.aB,Zgq ..,cl,_,rfl,.inl (SqL.of h1),λl hl=>k l ts hl h2 h3⟩
theorem Fi:FnScope ["self"] ["self"] (Zi Vq):=⟨rfl,rfl,rfl,by decide +kernel,rfl,by decide +kernel,by decide +kernel⟩
theorem Fk (T:Txt w K mg t):FnOk P w K mg base (CXr P w) 1 t.bz t.bE ["self"] (Fg t.aa):=by
 refine T.aH.F.aR Fi (λcdv A outer s H vs Q E hr h=>?_)
 ·obtain ⟨p,M,ns,rfl,⟨dx,cl,na,sp,mt,o,f,b⟩,h64,k⟩:=h
  refine ⟨_,(Zg (Zr (Zk (V3 rfl) (by rfl) T.bJ PyProof.Rows.boot_sorted (Za (Xs (pv 0) rfl) Zb)))),?_⟩
  refine ⟨_,rfl,p,_,dx,_,_,rfl,b.ins,T.ad,T.am,Ob ..,sp,_,keys ns ns.length,rfl,.inr ⟨o,b.spots⟩,?_,by have:=U8 ns ns.length; lia,k⟩
  unfold spk; rw [List.map_map]; rfl
theorem Ul:FnScope ["self","place"] ["self","place"] (Zi Qb):=⟨rfl,rfl,rfl,by decide +kernel,rfl,by decide +kernel,by decide +kernel⟩
theorem J1 (T:Txt w K mg t):FnOk P w K mg base (CXr P w) 1 t.aD t.aF ["self","place"] (Uk t.aa):=by
 refine T.ak.F.aR Ul (λcdv A outer s H vs Q E hr h=>?_)
 ·obtain ⟨p,M,ns,x,rfl,⟨dx,cl,na,sp,mt,o,f,b⟩,k⟩:=h
  refine ⟨_,(Zg (Zr (Zhu Zmn Jo Zf (pv 1) (Zk Zj (by rfl) T.ae PySem.boot_len (Za (Xs (pv 0) rfl) Zb))))),?_⟩
  refine ⟨_,rfl,_,_,rfl,rfl,_,rfl,?_⟩
  refine ite2 (λh=>?_) (λh=>?_)
  ·have h:0<=x:=of_decide_eq_true h
   refine ⟨_,rfl,p,_,dx,_,_,rfl,b.ins,T.ad,T.ag,Oc ..,na,_,rfl,.inl (SqL.of b.names),_,_,rfl,rfl,?_⟩
   have:decide (x < (((ns.map V.int).length:Nat):Int))=decide (0<=x/\x < (ns.length:Int)):=by rw [Ab]; simp [h]
   show Q (V.bl (decide (x < (((ns.map V.int).length:Nat):Int)))) H
   rw [this]; exact k
  ·have h:¬ 0<=x:=λz=>h (decide_eq_true z)
   have:decide (0<=x/\x < (ns.length:Int))=false:=decide_eq_false λz=>h z.1
   rw [this] at k; exact k
theorem Vm:FnScope ["self","place"] ["self","place"] (Zi Jz):=⟨rfl,rfl,rfl,by decide +kernel,rfl,by decide +kernel,by decide +kernel⟩
theorem Jx (T:Txt w K mg t):FnOk P w K mg base (CXr P w) 2 t.ax t.az ["self","place"] (Vk t.aa t.aE):=by
 refine T.ai.F.aX Vm (λcdv A outer s H vs Q E hr h=>?_)
 ·obtain ⟨p,M,ns,x,rfl,ta,k1,k2⟩:=h
  obtain ⟨dx,cl,na,sp,mt,o,f,b⟩:=id ta
  refine ⟨_,(Y4 (Zar (X6 (X5 (Ww (pv 0) T.ad T.ak.m (J1 T) (hr.mono (by decide)) T.ak.b .nil Xz (Za (pv 1) Zb)))) (Y4 (Vt T.dS FBV rfl T.dF rfl (Za Qd Zb))) U2)),?_⟩
  refine ⟨_,rfl,p,dx,_,rfl,b.ins,Yn _ _ _ _,_,rfl,p,M,ns,x,rfl,ta,_,rfl,?_⟩
  by_cases c:0<=x/\x < (ns.length:Int)
  ·rw [decide_eq_true c]
   exact iteF (k1 c)
  ·rw [decide_eq_false c]
   exact iteT ⟨by decide,k2 c⟩
theorem On:FnScope ["self","place"] ["self","place"] (Zi Qr):=⟨rfl,rfl,rfl,by decide +kernel,rfl,by decide +kernel,by decide +kernel⟩
theorem O7 (T:Txt w K mg t):FnOk P w K mg base (CXr P w) 3 t.aL t.aQ ["self","place"] (Oj t.aa t.aE):=by
 refine T.ar.F.aX On (λcdv A outer s H vs Q E hr h=>?_)
 ·obtain ⟨p,M,ns,x,rfl,ta,k1,k2⟩:=h
  obtain ⟨dx,cl,na,sp,mt,o,f,b⟩:=id ta
  refine ⟨_,(Xo (U1 (U4 (pv 0) T.ad T.ai.m (Jx T) (hr.mono (by decide)) T.ai.b .nil (Za (pv 1) Zb)))
   (Y4 (Jt (Zr (Zs Zp (Xs (pv 0) rfl) (pv 1) (λ_ _=>rfl)))))),?_⟩
  refine ⟨_,rfl,p,dx,_,rfl,b.ins,Yn _ _ _ _,_,rfl,p,M,ns,x,rfl,ta,λc=>?_,k2⟩
  have hi:x.toNat < ns.length:=by lia
  obtain ⟨y,hy⟩:∃ y,ns[x.toNat]?=some y:=⟨_,Ac hi⟩
  have ex:x=(x.toNat:Int):=by lia
  refine ⟨_,rfl,p,_,dx,_,_,rfl,b.ins,T.ad,T.ag,Oc ..,_,rfl,na,_,_,_,rfl,rfl,SqL.of b.names,(by rw [ex]; exact Z9 hy),k1 _ _ ex hy⟩
theorem F8:FnScope ["self","place"] ["self","place"] (Zi Ut):=⟨rfl,rfl,rfl,by decide +kernel,rfl,by decide +kernel,by decide +kernel⟩
theorem W3 (T:Txt w K mg t):FnOk P w K mg base (CXr P w) 3 t.bQ t.bW ["self","place"] (Fz t.aa t.aE):=by
 refine T.aj.F.aX F8 (λcdv A outer s H vs Q E hr h=>?_)
 ·obtain ⟨p,M,ns,x,rfl,ta,hlen,k1,k2⟩:=h
  obtain ⟨dx,cl,na,sp,mt,o,f,b⟩:=id ta
  refine ⟨_,(Xo (U1 (U4 (pv 0) T.ad T.ai.m (Jx T) (hr.mono (by decide)) T.ai.b .nil (Za (pv 1) Zb)))
   (Y4 (Jt (Zr (Zs Zp (Xs (pv 0) rfl) (pv 1) (λ_ _=>rfl)))))),?_⟩
  refine ⟨_,rfl,p,dx,_,rfl,b.ins,Yn _ _ _ _,_,rfl,p,M,ns,x,rfl,ta,λc=>?_,k2⟩
  have hi:x.toNat < M.length:=by lia
  obtain ⟨y,hy⟩:∃ y,M[x.toNat]?=some y:=⟨_,Ac hi⟩
  have ex:x=(x.toNat:Int):=by lia
  refine ⟨_,rfl,p,_,dx,_,_,rfl,b.ins,T.ad,T.bH,Zid ..,_,rfl,mt,_,_,_,rfl,rfl,SqL.of b.mates,(by rw [ex]; exact Z9 hy),k1 _ _ ex hy⟩
theorem Kv:FnScope ["self","seam"] ["self","seam"] (Zi Ve):=⟨rfl,rfl,rfl,by decide +kernel,rfl,by decide +kernel,by decide +kernel⟩
theorem K5 (T:Txt w K mg t):FnOk P w K mg base (CXr P w) 1 t.aY t.bi ["self","seam"] (Ks t.aa t.bD):=by
 refine T.aC.F.aX Kv (λcdv A outer s H vs Q E hr h=>?_)
 ·obtain ⟨p,M,ns,x,rfl,ta,k1,k2⟩:=h
  obtain ⟨dx,cl,na,sp,mt,o,f,b⟩:=id ta
  have hu:=Ug hr
  refine ⟨_,(Xo (Zar (Zfr (Gq hu (pv 1) (Xs (pv 0) rfl)) (by with_unfolding_all rfl)) (Y4 (Vt T.dZ FBV rfl T.dU rfl (Za Qd Zb))) U2)
   (Y4 (Jt (Zr (Wx Wb (by rfl) T.aJ PySem.Pv.boot_list (Za (V8 hu (Xs (pv 0) rfl) (pv 1) (λ_ _=>rfl)) Zb)))))),?_⟩
  have hg:DGet H sp (.int x) (if x∈keys ns ns.length then some (V.ref (f x)) else none):=.inl ⟨_,Sum.inl x,.inr ⟨o,b.spots⟩,rfl,by unfold spk; rw [W8]⟩
  refine ⟨_,rfl,_,rfl,p,_,dx,_,_,rfl,b.ins,T.ad,T.am,Ob ..,sp,_,rfl,hg,_,rfl,?_⟩
  by_cases c:x∈keys ns ns.length
  ·rw [if_pos c] at hg ⊢
   refine iteF ?_
   exact ⟨_,rfl,p,_,dx,_,_,rfl,b.ins,T.ad,T.am,Ob ..,_,rfl,sp,_,rfl,hg,f x,_,rfl,.inl (SqL.of (b.at' x c)),k1 c⟩
  ·rw [if_neg c] at hg ⊢
   exact iteT ⟨by decide,k2 c⟩
theorem Qi:FnScope ["self","seam","spots"] ["self","seam"] (Zi Qq):=⟨rfl,rfl,rfl,by decide +kernel,rfl,by decide +kernel,by decide +kernel⟩
theorem O6 (T:Txt w K mg t):FnOk P w K mg base (CXr P w) 2 t.aM t.aS ["self","seam"] (Oi t.aa t.bD):=by
 refine T.au.F.aX Qi (λcdv A outer s H vs Q E hr h=>?_)
 ·obtain ⟨p,M,ns,x,rfl,ta,td,k1,k2⟩:=h
  obtain ⟨dx,cl,na,sp,mt,o,f,b⟩:=id ta
  refine ⟨_,(Xo (Zcy (i:=2) Qi.nd rfl (Or.inl rfl) (U4 (pv 0) T.ad T.aC.m (K5 T) (hr.mono (by decide)) T.aC.b .nil (Za (pv 1) Zb)))
   (Xo (Jt (Z4 (Zt Xq (Zk Zj (by rfl) T.ae PySem.boot_len (Za (pv 2) Zb)) Zf (Zu _)) (Zg (Zr Qd)) Zv))
   (Xo (Jt (Z4 (Zt Xq (pcT (Jq T) hr T.aq (Za (Zs Zp (pv 2) Zf (λ_ _=>rfl)) Zb)) (pcT (Jq T) hr T.aq (Za (Zs Zp (pv 2) Zf (λ_ _=>rfl)) Zb)) (Zu _)) (Zg (Zr Qd)) Zv))
   (Y4 (Jt (Zr Qd)))))),?_⟩
  refine ⟨_,rfl,p,dx,_,rfl,b.ins,Yn _ _ _ _,_,rfl,p,M,ns,x,rfl,ta,λc l hl=>?_,k2⟩
  have k1':=k1 c _ (Same.new (o:=.lst ((pl ns ns.length x).map nV)) hl)
  refine ⟨_,rfl,l,_,rfl,.inl (SqL.of Zc),rfl,_,rfl,?_⟩
  rcases U3 td c with ⟨a,e,_⟩ | ⟨a,b',hab,e,_⟩
  ·rw [e] at k1' ⊢
   refine iteT ?_
   have:Y3 ns x="rim":=by unfold Y3; rw [e]
   rw [this] at k1'
   exact k1'
  ·rw [e] at k1' ⊢
   refine iteF ?_
   refine ⟨_,rfl,l,_,_,_,rfl,rfl,SqL.of Zc,rfl,_,rfl,_,rfl,l,_,_,_,rfl,rfl,SqL.of Zc,rfl,_,rfl,rfl,_,rfl,?_⟩
   by_cases q:a / 3=b' / 3
   ·have:Y3 ns x="locked":=by unfold Y3; rw [e]; exact if_pos q
    rw [this] at k1'
    rw [decide_eq_true (by congr 1; lia)]
    exact iteT k1'
   ·have:Y3 ns x="free":=by unfold Y3; rw [e]; exact if_neg q
    rw [this] at k1'
    rw [decide_eq_false (λz=>q (by injection z; lia))]
    exact iteF k1'
theorem Zd0 {M:List (Option Nat)} {ns:List Int} (td:TD M ns) {x:Int} (hx:x∈keys ns ns.length) :
  (Y3 ns x="rim"/\∃ a,pl ns ns.length x=[a]/\M[a]?=some none)\/(Y3 ns x="locked"/\∃ a b,a < b/\pl ns ns.length x=[a,b]/\M[a]?=some (some b)/\a / 3=b / 3)\/(Y3 ns x="free"/\∃ a b,a < b/\pl ns ns.length x=[a,b]/\M[a]?=some (some b)/\a / 3≠b / 3):=by
 rcases U3 td hx with ⟨a,e,_,ma⟩ | ⟨a,b,hab,e,_,_,ma,_⟩
 ·exact .inl ⟨by unfold Y3; rw [e],a,e,ma⟩
 ·by_cases c:a / 3=b / 3
  ·exact .inr (.inl ⟨by unfold Y3; rw [e]; exact if_pos c,a,b,hab,e,ma,c⟩)
  ·exact .inr (.inr ⟨by unfold Y3; rw [e]; exact if_neg c,a,b,hab,e,ma,c⟩)
theorem Zk4 {x y:Str} (h:¬ x=y):decide (V.str x=V.str y)=false:=decide_eq_false λz=>h (by injection z)
noncomputable def Zjh:Sp:=λvs H Q _=>∃ (a b:Addr) (xs:List Int),vs=[.ref a,.ref b]/\H a=some (.lst (xs.map V.int))/\H b=some (.lst (xs.map V.int))/\xs.length<=100000/\Q (.bl true) H
theorem Zk8 {H:Hp} {r:Addr} {ns:List Int} {i:Nat} {x:Int} (h:Xl H r ns) (hx:ns[i]?=some x):∃ ts:List Addr,∃ q,H r=some (.lst (ts.map V.ref))/\ts[i / 3]?=some q/\H q=some (.tup (row3 ns (i / 3)))/\(row3 ns (i / 3))[i % 3]?=some (V.int x):=by
 obtain ⟨ts,h1,h2,h3⟩:=h
 have hi:i < ns.length:=(Aa hx).1
 have hk:i / 3 < ts.length:=by lia
 refine ⟨ts,ts[i / 3],h1,Ac hk,h3 _ _ (Ac hk),?_⟩
 have g:∀ j,ns[j]?=some x->ns.getD j 0=x:=λj hj=>by rw [Ad,hj]; rfl
 have hm:i % 3=0\/i % 3=1\/i % 3=2:=by lia
 rcases hm with m | m | m
 ·have:3 * (i / 3)=i:=by lia
  rw [m]; show some (V.int (ns.getD (3 * (i / 3)) 0))=_; rw [this,g i hx]
 ·have:3 * (i / 3) + 1=i:=by lia
  rw [m]; show some (V.int (ns.getD (3 * (i / 3) + 1) 0))=_; rw [this,g i hx]
 ·have:3 * (i / 3) + 2=i:=by lia
  rw [m]; show some (V.int (ns.getD (3 * (i / 3) + 2) 0))=_; rw [this,g i hx]
theorem div3 (i:Nat):(i:Int) / 3=((i / 3:Nat):Int):=by lia
theorem mod3 (i:Nat):(i:Int) % 3=((i % 3:Nat):Int):=by lia
theorem Zey (i:Nat):(i:Int) - (i:Int) % 3 + ((i:Int) + 1) % 3=after i:=by unfold after; split <;> lia
theorem Zcn (i:Nat):(i:Int) - (i:Int) % 3 + ((i:Int) + 2) % 3=before i:=by unfold before; split <;> lia
noncomputable def sp_law (K:PySem.W.Frag):Sp:=λvs H Q _=>∃ (a:Addr) (ns:List Int),vs=[.ref a]/\SqL K H a (ns.map V.int)/\ns.length<=63/\∀ H',Q (.bl true) H'
theorem sp_law_start {K:PySem.W.Frag} {H:Hp} {a:Addr} {ns:List Int} (hl:ns.length<=63) (hS:SqL K H a (ns.map V.int)):sp_law K [.ref a] H (λv _=>v=.bl true) λ_ _ _=>False:=⟨a,ns,rfl,hS,hl,λ_=>rfl⟩
theorem Xl.copy {H:Hp} {r l:Addr} {ns:List Int} {ts:List Addr} (h1:H r=some (.lst (ts.map V.ref))) (h2:ns.length=3 * ts.length) (h3:∀ (k:Nat) (t:Addr),ts[k]?=some t->H t=some (.tup (row3 ns k))) (hl:H l=none):Xl (upd H l (.lst (ts.map V.ref))) l ns :=
 ⟨ts,Zc,h2,λk q e=>by rw [Ze (Zm (h3 k q e) hl)]; exact h3 k q e⟩
theorem Zhb {H1:Hp} {r l x dx C:Addr} {ns:List Int} {ts:List Addr} (g1:H1 r=some (.lst (ts.map V.ref))) (g2:ns.length=3 * ts.length) (g3:∀ (k:Nat) (t:Addr),ts[k]?=some t->H1 t=some (.tup (row3 ns k)))
  (hl1:H1 l=none) (hx:upd H1 l (.lst (ts.map V.ref)) x=none) (hdx:upd H1 l (.lst (ts.map V.ref)) dx=none) :
  Xl (upd (upd (upd H1 l (.lst (ts.map V.ref))) dx (.own x)) x (.ins C dx [])) l ns/\Same (upd H1 l (.lst (ts.map V.ref))) (upd (upd (upd H1 l (.lst (ts.map V.ref))) dx (.own x)) x (.ins C dx [])):=by
 have s:Same (upd H1 l (.lst (ts.map V.ref))) (upd (upd (upd H1 l (.lst (ts.map V.ref))) dx (.own x)) x (.ins C dx [])):=Same.add (Same.new hdx) hx
 exact ⟨(Xl.copy g1 g2 g3 hl1).same s,s⟩
theorem Zfd {a b c:List Int} (h1:a.Perm c) (h2:b.Perm c) (s1:a.Pairwise (·<=·)) (s2:b.Pairwise (·<=·)):a=b :=
 (h1.trans h2.symm).eq_of_pairwise (λx y _ _ h1 h2=>Int.le_antisymm h1 h2) s1 s2
theorem Gi:FnScope ["_law_found","_law_due","_law_k"] ["_law_found","_law_due"] (Zi Zag):=⟨rfl,rfl,rfl,by decide +kernel,rfl,by decide +kernel,by decide +kernel⟩
theorem Zf5 (T:Txt w K mg t):FnOk P w K mg base (CXr P w) 2 t.df t.du ["_law_found","_law_due"] Zjh:=by
 refine T.dC.F.aR Gi (λcdv A outer s H vs Q E hr h=>?_)
 ·obtain ⟨a,b,xs,rfl,ha,hb,hl,k⟩:=h
  refine ⟨_,(Zd (Z4 (PW.pt (Q5 (X6 (X5 (Zk Js (by rfl) T.ap PyProof.Rows.boot_isinstance (Za (pv 0) (Za (V9 (v:=.ty "list") (by rfl) T.aJ PySem.Pv.boot_list rfl) Zb))))) (Qc (Zt Fo (Zk Zj (by rfl) T.ae PySem.boot_len (Za (pv 0) Zb)) (Zk Zj (by rfl) T.ae PySem.boot_len (Za (pv 1) Zb)) (Zu _))))) (Zg (Zr Wf)) Zv)
   (Zd (Ys PassesOwn.never rfl (Yb rfl T.af (Za (Zk Zj (by rfl) T.ae PySem.boot_len (Za (pv 1) Zb)) Zb)) (Zq (i:=2) Gi.nd rfl (Or.inl rfl)) (Zg (Z4 (PW.pt (Q5 (X6 (X5 (pcT (Zea T) hr T.cW (Za (Zs Zp (pv 0) (pv 2) (λ_ _=>rfl)) Zb)))) (Qc (Zt Fo (Zs Zp (pv 0) (pv 2) (λ_ _=>rfl)) (Zs Zp (pv 1) (pv 2) (λ_ _=>rfl)) (Zu _))))) (Zg (Zr Wf)) Zv)))
   (Zg (Zr Wf)))),?_⟩
  refine ⟨_,rfl,_,"list",_,true,rfl,TyOf.lst ha,U7,_,rfl,iteF ?_⟩
  refine ⟨_,rfl,a,_,rfl,.inl (SqL.of ha),_,rfl,b,_,rfl,.inl (SqL.of hb),rfl,_,rfl,?_⟩
  rw [show (!decide (V.int ((xs.map V.int).length:Nat)=V.int ((xs.map V.int).length:Nat)))=false by simp]
  refine iteF ?_
  dsimp only [Xx]
  show tSeq (tFor _ _ _) _ _ _ _
  refine Z7 (λσ H1=>H1=H) (λnx hnx=>?_) ?_
  ·refine ⟨_,rfl,b,_,rfl,.inl (SqL.of hb),_,rfl,by lia,by rw [Ab]; lia,?_⟩
   have eL:(((xs.map V.int).length:Nat):Int).toNat=xs.length:=by simp
   rw [eL]
   refine Y2 (n:=xs.length) (λi σ H1=>∃ v,σ=[some (.ref a),some (.ref b),v]/\H1=H) ⟨none,rfl,rfl⟩ ?_ ?_
   ·rintro i σ H1 hlt ⟨v,rfl,rfl⟩
    have ei:atI (xs.map V.int) (0 + (i:Int))=some (V.int xs[i]):=by rw [Int.zero_add]; exact Z9 (Ac hlt)
    dsimp only [Zl]
    refine ⟨_,rfl,_,rfl,a,_,_,_,rfl,rfl,SqL.of ha,ei,_,rfl,_,rfl,iteF ?_⟩
    refine ⟨_,rfl,_,rfl,a,_,_,_,rfl,rfl,SqL.of ha,ei,_,rfl,_,rfl,b,_,_,_,rfl,rfl,SqL.of hb,ei,rfl,_,rfl,?_⟩
    rw [show (!decide (V.int xs[i]=V.int xs[i]))=false by simp]
    exact iteF ⟨_,rfl,rfl⟩
   ·rintro σ H1 ⟨v,rfl,rfl⟩
    exact hnx _ _ rfl
  ·rintro σ H1 rfl
   exact k
theorem Zh4 {ws:List Int}:(((ws.map V.int).length:Nat):Int)=ws.length:=by rw [Ab]
theorem Zij (x0:Int) (xr:List Int):cutV ((x0 :: xr).map V.int) (some 1) none=xr.map V.int:=by
 unfold cutV
 have e1:HT.sIx ((x0 :: xr).map V.int).length 0 (some ((1:Nat):Int))=1:=by
  rw [HT.sIx_nat,Ab,List.length_cons]
  lia
 rw [show (some (1:Int))=some ((1:Nat):Int) from rfl,e1,HT.sIx_none,List.map_cons,List.drop_succ_cons,List.drop_zero,List.length_cons,Nat.add_sub_cancel,List.take_length]
theorem Zbj {α:Type} {p:α->Bool} {l:List α} {i:Nat} {x:α} (h:l[i]?=some x):(l.take (i + 1)).filter p=if p x=true then (l.take i).filter p ++ [x] else (l.take i).filter p:=by
 rw [List.take_add_one,h,List.filter_append]
 by_cases c:p x=true
 ·simp [c]
 ·simp [c]
noncomputable def Zjd:Sp:=λvs H Q _=>∃ (m a:Addr) (M:List (Option Nat)) (xs:List Int),vs=[.ref m,.ref a]/\H m=some (.lst (M.map mV))/\H a=some (.lst (xs.map V.int))/\xs≠[]/\xs.length<=60/\(∀ x∈xs,0<=x/\x < 1009)/\M.length<=42/\(∃ n,M.length=3 * n)/\(∀ (i j:Nat),M[i]?=some (some j)->M[j]?=some (some i)/\i≠j) /\
 ∀ (l:Addr) (ws:List Nat) (H':Hp),Same H H'->H l=none->H' l=some (.lst (ws.map nV))->ws.length<=60->(ws=[]\/Pl M ws)->Q (.ref l) H'
noncomputable def Ze9 (K:PySem.W.Frag):Sp:=λvs H Q _=>∃ (a m:Addr) (sc:List Int) (i:Int) (M:List (Option Nat)),vs=[.ref a,.int i,.ref m]/\SqL K H a (sc.map V.int)/\sc.length<=63/\0<=i/\i < 1000/\H m=some (.lst (M.map mV))/\M.length<=42/\(∃ n,M.length=3 * n)/\(∀ (i j:Nat),M[i]?=some (some j)->M[j]?=some (some i)/\i≠j) /\
 ∀ (l:Addr) (ws:List Nat) (H':Hp),Same H H'->H l=none->H' l=some (.lst (ws.map nV))->ws.length<=60->(ws=[]\/Pl M ws)->Q (.ref l) H'
noncomputable def hasM (M:List (Option Nat)) (i:Nat):Bool:=match M[i]? with
 | some (some _)=>true
 | _=>false
theorem Jj {M:List (Option Nat)} {i:Nat}:hasM M i=true ↔ ∃ j,M[i]?=some (some j):=by
 unfold hasM
 split
 ·rename_i j h; exact ⟨λ_=>⟨j,h⟩,λ_=>rfl⟩
 ·rename_i h; exact ⟨λz=>absurd z (by decide),λ⟨j,e⟩=>absurd e (h j)⟩
theorem Xb:FnScope ["_law_mates","_law_nums","_law_spots","_law_row","_law_pick","_law_side","_law_ways","_law_start","_law_stop"] ["_law_mates","_law_nums"] (Zi Zac):=⟨rfl,rfl,rfl,by decide +kernel,rfl,by decide +kernel,by decide +kernel⟩
theorem Zf1 (T:Txt w K mg t):FnOk P w K mg base (CXr P w) 1 t.de t.dr ["_law_mates","_law_nums"] Zjd:=by
  refine T.dB.F.aR Xb (λcdv A outer s H vs Q E hr h=>?_)
  · obtain ⟨m,a,M,xs,rfl,hm,ha,hx0,hx60,hx,h42,⟨n,hn⟩,inv,k⟩:=h
    refine ⟨_,(Zd (Wl (ts:=["_law_p"]) (fv:=[("_law_mates",0)]) (i:=2) ⟨rfl,by decide +kernel,by decide +kernel,Ya (by rfl),⟨⟨rfl,rfl,Or.inl rfl⟩,trivial⟩⟩ rfl Xb.nd rfl rfl (by rfl) (Yb rfl T.af (Za (Zk Zj (by rfl) T.ae PySem.boot_len (Za (pv 0) Zb)) Zb)) (λ_ _ _ _=>(Zq (i:=0) (show List.Nodup (["_law_p","_law_mates"]:List Str) from by decide +kernel) rfl (Or.inl rfl) (Or.inr rfl))) (λ_ _ _ _=>(Ky (Zt J8 (Zs (Wa K) (pv 1) (pv 0) (λ_ _=>rfl)) Jv (Zu _)))) (λ_ _ _=>rfl) (λ_ _ _ _ _ _=>Yd (pv 0)))
      (Zd (Z4 (Zt Xq (Zk Zj (by rfl) T.ae PySem.boot_len (Za (pv 2) Zb)) Zf (Zu _)) (Zg (Zr (Y5 Zb))) Zv)
      (Zd (Zo (i:=3) Xb.nd rfl (Or.inl rfl) (Y5 (Za (Zs Zp (pv 2) (Zh Zx (Zs Zp (pv 1) Zf (λ_ _=>rfl)) (Zk Zj (by rfl) T.ae PySem.boot_len (Za (pv 2) Zb))) (λ_ _=>rfl)) Zb)))
      (Zd (Ys PassesOwn.never rfl (Yu (X8 Qm (pv 1) (We Zf) Jd)) (Zq (i:=4) Xb.nd rfl (Or.inl rfl)) (Zd (Zo (i:=5) Xb.nd rfl (Or.inr rfl) (Zs Zp (pv 0) (Zs Zp (pv 3) (Zmm Zkq Zf) (λ_ _=>rfl)) (λ_ _=>rfl)))
      (Zd (Wl (ts:=["_law_k"]) (fv:=[("_law_side",5)]) (i:=6) ⟨rfl,by decide +kernel,by decide +kernel,Ya (by rfl),⟨⟨rfl,rfl,Or.inl rfl⟩,trivial⟩⟩ rfl Xb.nd rfl rfl (by rfl) (Yb rfl T.af (Za Zf Zb)) (λ_ _ _ _=>(Zq (i:=0) (show List.Nodup (["_law_k","_law_side"]:List Str) from by decide +kernel) rfl (Or.inl rfl) (Or.inr rfl))) (λ_ _ _ _=>Yc) (λ_ _ _=>rfl) (λ_ _ _ _ _ _=>Yd (Zh Zz (Zh Ye (pv 1) (Zh Zx (pv 1) Zf)) (Zh Zx (Zh Zz (Zh Zz (pv 1) Zf) (pv 0)) Zf))))
      (Zd (Wl (ts:=["_law_p"]) (fv:=[("_law_mates",0)]) (i:=6) ⟨rfl,by decide +kernel,by decide +kernel,Ya (by rfl),⟨⟨rfl,rfl,Or.inl rfl⟩,trivial⟩⟩ rfl Xb.nd rfl rfl (by rfl) (Yu (pv 6)) (λ_ _ _ _=>(Zq (i:=0) (show List.Nodup (["_law_p","_law_mates"]:List Str) from by decide +kernel) rfl (Or.inl rfl) (Or.inr rfl))) (λ_ _ _ _=>(Ky (Zt J8 (Zs (Wa K) (pv 1) (pv 0) (λ_ _=>rfl)) Jv (Zu _)))) (λ_ _ _=>rfl) (λ_ _ _ _ _ _=>Yd (pv 0)))
      (Zd (Z4 (Zt Xq (Zk Zj (by rfl) T.ae PySem.boot_len (Za (pv 6) Zb)) Zf (Zu _)) (Zg Zho) Zv)
      (Zg (Yg (Xy PySem.F.plainAttrs_list PySem.F.slot_list_append PySem.F.type_list_append Yh (pv 3) (Za (Zs Zp (pv 6) (Zh Zx (pv 4) (Zk Zj (by rfl) T.ae PySem.boot_len (Za (pv 6) Zb))) (λ_ _=>rfl)) Zb)))))))))
      (Zd (Ys PassesOwn.never rfl (Yb rfl T.af (Za (Zk Zj (by rfl) T.ae PySem.boot_len (Za (pv 3) Zb)) Zb)) (Zq (i:=7) Xb.nd rfl (Or.inl rfl)) (Zg (Ys PassesOwn.never rfl (Zjw rfl T.bx rfl T.af (Za (Zh Zz (pv 7) Zf) (Za (Zk Zj (by rfl) T.ae PySem.boot_len (Za (pv 3) Zb)) Zb))) (Zq (i:=8) Xb.nd rfl (Or.inl rfl)) (Zg (Z4 (Zt Xq (Zs Zp (pv 3) (pv 7) (λ_ _=>rfl)) (Zs Zp (pv 3) (pv 8) (λ_ _=>rfl)) (Zu _)) (Zg (Zr (X8 Qm (pv 3) (We (pv 7)) (We (pv 8))))) Zv)))))
      (Zg (Zr (Y5 Zb)))))))),?_⟩
    refine Zn λnxC hnxC=>?_
    refine ⟨_,rfl,m,_,rfl,.inl (SqL.of hm),_,rfl,by lia,by rw [Ab]; lia,λD hD=>?_⟩
    have eL:(((M.map mV).length:Nat):Int).toNat=M.length:=by simp
    rw [eL]
    refine Wg (λi σ H1=>∃ v,σ=[v,some (.ref m)]/\Same H H1/\H1 D=some (.lst (((List.range i).filter (hasM M)).map nV))) ⟨none,rfl,Same.new hD,Zc⟩ ?_ ?_
    · rintro i σ H1 hlt ⟨v,rfl,sm,h1⟩
      dsimp only [Zl]
      rw [Int.zero_add]
      obtain ⟨y,hy⟩:∃ y,M[i]?=some y:=⟨_,Ac hlt⟩
      have lt:(((List.range i).filter (hasM M)).map nV).length < sizeLine:=by
        rw [Ab]
        have:=List.length_filter_le (hasM M) (List.range i)
        rw [List.length_range] at this
        exact Z1 (by lia)
      refine ⟨_,rfl,_,rfl,m,_,_,_,rfl,rfl,SqL.of (sm _ _ hm),Z9 hy,rfl,_,rfl,?_⟩
      cases y with
      | none =>
        refine iteF ⟨_,rfl,sm,?_⟩
        rw [h1,List.range_succ,List.filter_append]
        have:hasM M i=false:=by rw [Bool.eq_false_iff]; intro z; obtain ⟨j,e⟩:=Jj.mp z; rw [hy] at e; cases e
        simp [this]
      | some j =>
        refine iteT ⟨_,rfl,_,h1,lt,_,rfl,Same.add sm hD,?_⟩
        rw [Zc,List.range_succ,List.filter_append]
        have:hasM M i=true:=Jj.mpr ⟨j,hy⟩
        simp [this]
        rfl
    rintro σ H1 ⟨v,rfl,s1,h1⟩
    refine hnxC _ _ ?_
    have hsp:∀ p∈(List.range M.length).filter (hasM M),∃ j,M[p]?=some (some j):=λp hp=>Jj.mp (List.mem_filter.mp hp).2
    generalize (List.range M.length).filter (hasM M)=sps at h1 hsp
    refine Zn λnxC hnxC=>?_
    refine ⟨_,rfl,D,_,rfl,.inl (SqL.of h1),rfl,_,rfl,?_⟩
    refine ite2 (λc=>?_) (λc=>?_)
    · exact ⟨Nat.zero_le _,λl hl=>k l [] _ (Same.add s1 (s1.free hl)) (s1.free hl) Zc (Nat.zero_le _) (.inl rfl)⟩
    have hne:0 < sps.length:=by
      cases sps with
      | nil=>exact absurd rfl c
      | cons _ _=>simp
    dsimp only [Xx]
    refine hnxC _ _ ?_
    obtain ⟨x0,xr,rfl⟩:∃ x0 xr,xs=x0 :: xr:=by
      cases xs with
      | nil=>exact absurd rfl hx0
      | cons a b=>exact ⟨a,b,rfl⟩
    have k0:=Int.emod_nonneg x0 (show (sps.length:Int)≠0 by lia)
    have k1:=Int.emod_lt_of_pos x0 (show (0:Int) < sps.length by lia)
    obtain ⟨kk,hkk⟩:∃ kk:Nat,x0 % (sps.length:Int)=kk:=⟨_,(Int.toNat_of_nonneg k0).symm⟩
    have hkl:kk < sps.length:=by lia
    refine Zn λnxC hnxC=>?_
    refine ⟨_,rfl,_,rfl,a,_,_,_,rfl,rfl,SqL.of (s1 _ _ ha),(show atI _ ((0:Nat):Int)=_ from Yo rfl),_,rfl,D,_,rfl,.inl (SqL.of h1),_,_,rfl,rfl,(by rw [Ab]; lia),D,_,_,_,rfl,rfl,SqL.of h1,(by rw [Ab,hkk]; exact Z9 (Ac hkl)),(by show 1<=sizeLine; decide),λr hr1=>?_⟩
    refine hnxC _ _ ?_
    have hr0:H r=none:=s1.free hr1
    obtain ⟨j0,hj0⟩:=hsp _ (List.getElem_mem hkl)
    have ch0:Ch M [sps[kk]]:=Ch.one hj0
    generalize sps[kk]=p0 at ch0
    have s2:Same H (upd H1 r (.lst [nV p0])):=Same.add s1 hr0
    have h2:(upd H1 r (.lst [nV p0])) r=some (.lst ([p0].map nV)):=Zc
    generalize upd H1 r (.lst [nV p0])=H2 at s2 h2
    dsimp only [Zl]
    show tSeq (tFor _ _ _) _ _ _ _
    refine Z7 (λσ H3=>∃ (row:List Nat) (v4 v5 v6:Option V),σ=[some (.ref m),some (.ref a),some (.ref D),some (.ref r),v4,v5,v6,none,none]/\Same H H3/\H3 r=some (.lst (row.map nV))/\Ch M row/\row.length<=60) (λnx hnx=>?_) ?_
    · refine ⟨_,rfl,_,rfl,a,_,rfl,SqL.of (s2 _ _ ha),λq hq=>?_⟩
      rw [Zij]
      have hrq:r≠q:=Zm h2 hq
      have hq0:H q=none:=s2.free hq
      refine ⟨q,rfl,⟨_,SqL.of Zc⟩,?_⟩
      rw [List.length_cons] at hx60
      refine U9 (xs:=xr.map V.int) (λi σ H3=>∃ (row:List Nat) (v4 v5 v6:Option V),σ=[some (.ref m),some (.ref a),some (.ref D),some (.ref r),v4,v5,v6,none,none]/\Same H H3/\H3 q=some (.lst (xr.map V.int))/\H3 r=some (.lst (row.map nV))/\Ch M row/\row≠[]/\row.length<=i + 1)
        ⟨[p0],none,none,none,rfl,Same.add s2 hq0,Zc,by rw [Ze hrq]; exact h2,ch0,by simp,by simp⟩ ?_ ?_ ?_
      · rintro i σ H3 _ ⟨row,v4,v5,v6,rfl,s3,h3,_⟩
        exact SqL.of h3
      · rintro i x σ H3 hxi ⟨row,v4,v5,v6,rfl,s3,h3,h4,ch,rne,rlen⟩
        have hi:i < xr.length:=by have:=(Aa hxi).1; rw [Ab] at this; exact this
        obtain ⟨pick,hpk,rfl⟩:∃ pick,xr[i]?=some pick/\x=V.int pick:=by
          rw [Ah,Ac hi] at hxi
          exact ⟨_,Ac hi,(Option.some.inj hxi).symm⟩
        obtain ⟨la,hla⟩:∃ la,row.getLast?=some la:=by
          cases e:row.getLast? with
          | none=>exact absurd (List.getLast?_eq_none_iff.mp e) rne
          | some z=>exact ⟨z,rfl⟩
        have hlm:la∈row:=List.mem_of_getLast? hla
        obtain ⟨sd,hsd⟩:=ch.has la hlm
        have hsdM:sd < M.length:=(Aa (inv la sd hsd).1).1
        have elast:atI (row.map nV) (-1)=some (nV la):=by
          unfold atI ixN
          have hl:0 < row.length:=by cases row with | nil=>exact absurd rfl rne | cons _ _=>simp
          rw [if_neg (by decide),if_pos (by rw [Ab]; lia)]
          show ((row.map nV)[((-1:Int) + (row.map nV).length).toNat]?)=_
          rw [Ab,show ((-1:Int) + (row.length:Int)).toNat=row.length - 1 by lia,Ah,<- List.getLast?_eq_getElem?,hla]
          rfl
        dsimp only [Zl]
        refine Zn λnxC hnxC=>?_
        refine ⟨_,rfl,_,rfl,_,rfl,r,_,_,_,rfl,rfl,SqL.of h4,elast,m,_,_,_,rfl,rfl,SqL.of (s3 _ _ hm),Z9 hsd,?_⟩
        refine hnxC _ _ ?_
        refine Zn λnxC hnxC=>?_
        refine ⟨2,rfl,by decide,by decide,λW hW=>?_⟩
        have hW0:H W=none:=s3.free hW
        have hWr:r≠W:=Zm h4 hW
        have hWq:q≠W:=Zm h3 hW
        refine Wg (n:=2) (λc σ H5=>∃ v,σ=[v,some (nV sd)]/\Same H3 H5/\H5 W=some (.lst (([side sd 1,side sd 2].take c).map nV))) ⟨none,rfl,Same.new hW,Zc⟩ ?_ ?_
        · rintro c σ H5 hc ⟨v,rfl,s5,h5⟩
          dsimp only [Zl,tYes]
          rw [if_pos rfl]
          refine ⟨_,rfl,_,rfl,_,_,rfl,rfl,(by show (0:Int) < 3; decide),_,_,rfl,rfl,_,rfl,_,_,rfl,rfl,_,rfl,_,_,rfl,rfl,_,_,rfl,rfl,(by show (0:Int) < 3; decide),_,_,rfl,rfl,_,h5,?_,_,rfl,Same.add s5 hW,?_⟩
          · rw [Ab,Ai]; exact Z1 (by lia)
          · rw [Zc]
            have hc:c=0\/c=1:=by lia
            have e:∀ k:Nat,(sd:Int) - (sd:Int) % 3 + ((sd:Int) + 1 + (0 + (k:Int))) % 3=((side sd (k + 1):Nat):Int):=λk=>by unfold side; omega
            rcases hc with rfl | rfl
            · show some (HO.lst ([] ++ [V.int ((sd:Int) - (sd:Int) % 3 + ((sd:Int) + 1 + (0 + ((0:Nat):Int))) % 3)]))=_
              rw [e 0]; rfl
            · show some (HO.lst ([nV (side sd 1)] ++ [V.int ((sd:Int) - (sd:Int) % 3 + ((sd:Int) + 1 + (0 + ((1:Nat):Int))) % 3)]))=_
              rw [e 1]; rfl
        rintro σ H5 ⟨v,rfl,s5,h5⟩
        refine hnxC _ _ ?_
        have h5:H5 W=some (.lst ([side sd 1,side sd 2].map nV)):=h5
        have sl:∀ c,side sd c < M.length:=λc=>by rw [hn]; exact Zjk (by lia)
        refine Zn λnxC hnxC=>?_
        refine ⟨_,rfl,W,rfl,⟨_,SqL.of h5⟩,λW2 hW2=>?_⟩
        have s35:=s3.trans s5
        refine Yt (xs:=[side sd 1,side sd 2].map nV) (λc σ H6=>∃ v,σ=[v,some (.ref m)]/\Same H5 H6/\H6 W2=some (.lst ((([side sd 1,side sd 2].take c).filter (hasM M)).map nV))) ⟨none,rfl,Same.new hW2,Zc⟩ ?_ ?_ ?_
        · rintro c σ H6 _ ⟨v,rfl,s6,h6⟩
          exact SqL.of (s6 _ _ h5)
        · rintro c x σ H6 hxc ⟨v,rfl,s6,h6⟩
          obtain ⟨p,hp,rfl⟩:=map_some hxc
          have hpM:p < M.length:=by
            have:=List.mem_of_getElem? hp
            rcases List.mem_cons.mp this with rfl | z
            · exact sl 1
            · rw [Af z]; exact sl 2
          obtain ⟨y,hy⟩:∃ y,M[p]?=some y:=⟨_,Ac hpM⟩
          dsimp only [Zl]
          refine ⟨_,rfl,_,rfl,m,_,_,_,rfl,rfl,SqL.of (s6 _ _ (s35 _ _ hm)),Z9 hy,rfl,_,rfl,?_⟩
          cases y with
          | none =>
            refine iteF ⟨_,rfl,s6,?_⟩
            have:hasM M p=false:=by rw [Bool.eq_false_iff]; intro z; obtain ⟨j,e⟩:=Jj.mp z; rw [hy] at e; cases e
            rw [h6,Zbj hp,if_neg (by rw [this]; decide)]
          | some jj =>
            refine iteT ⟨_,rfl,_,h6,?_,_,rfl,Same.add s6 hW2,?_⟩
            · rw [Ab]
              have h1:=List.length_filter_le (hasM M) ([side sd 1,side sd 2].take c)
              have h2:([side sd 1,side sd 2].take c).length<=2:=by rw [Ai]; exact Nat.min_le_right _ _
              exact Z1 (by lia)
            · rw [Zc,Zbj hp,if_pos (Jj.mpr ⟨jj,hy⟩),Aj]
              rfl
        rintro σ H6 ⟨v,rfl,s6,h6⟩
        refine hnxC _ _ ?_
        have h6:H6 W2=some (.lst (([side sd 1,side sd 2].filter (hasM M)).map nV)):=h6
        have hws:∀ p∈[side sd 1,side sd 2].filter (hasM M),(∃ j,M[p]?=some (some j))/\p / 3=sd / 3/\p≠sd:=λp hp=>by
          obtain ⟨z1,z2⟩:=List.mem_filter.mp hp
          refine ⟨Jj.mp z2,?_,?_⟩
          · rcases List.mem_cons.mp z1 with rfl | z
            · exact F2 _ _
            · rw [Af z]; exact F2 _ _
          · rcases List.mem_cons.mp z1 with rfl | z
            · unfold side; omega
            · rw [Af z]; unfold side; omega
        generalize [side sd 1,side sd 2].filter (hasM M)=wys at h6 hws
        have s36:=s5.trans s6
        have h4':=s36 _ _ h4
        have h3':=s36 _ _ h3
        have s06:=s3.trans s36
        refine Zn λnxC hnxC=>?_
        refine ⟨_,rfl,W2,_,rfl,.inl (SqL.of h6),rfl,_,rfl,?_⟩
        refine ite2 (λc=>?_) (λc=>?_)
        · exact hnx _ _ ⟨row,_,_,_,rfl,s06,h4',ch,by lia⟩
        have hwp:0 < wys.length:=by
          cases wys with
          | nil=>exact absurd rfl c
          | cons _ _=>simp
        dsimp only [Xx]
        refine hnxC _ _ ?_
        have c0:=Int.emod_nonneg pick (show (wys.length:Int)≠0 by lia)
        have c1:=Int.emod_lt_of_pos pick (show (0:Int) < wys.length by lia)
        obtain ⟨cc,hcc⟩:∃ cc:Nat,pick % (wys.length:Int)=cc:=⟨_,(Int.toNat_of_nonneg c0).symm⟩
        have hcl:cc < wys.length:=by lia
        obtain ⟨w1,w2,w3⟩:=hws _ (List.getElem_mem hcl)
        have hget:=Ac hcl
        refine ⟨_,rfl,.inl ⟨rfl,_,SqL.of h4'⟩,_,rfl,_,rfl,_,rfl,W2,_,rfl,.inl (SqL.of h6),_,_,rfl,rfl,(by rw [Ab]; lia),W2,_,_,_,rfl,rfl,SqL.of h6,(by rw [Ab,hcc]; exact Z9 hget),r,_,_,rfl,rfl,h4',(by rw [Ab]; exact Z1 (by lia)),?_⟩
        refine ⟨row ++ [wys[cc]],_,_,_,rfl,Same.add s06 hr0,?_,?_,ch.snoc hla hsd w2 w3 w1,by simp,by rw [Ae,List.length_singleton]; lia⟩
        · rw [Ze (Ne.symm hrq)]; exact h3'
        · rw [Zc,Aj]; rfl
      · rintro σ H3 ⟨row,v4,v5,v6,rfl,s3,h3,h4,ch,rne,rlen⟩
        rw [Ab] at rlen
        exact hnx _ _ ⟨row,_,_,_,rfl,s3,h4,ch,by lia⟩
    rintro σ H3 ⟨row,v4,v5,v6,rfl,s3,h3,ch,rlen⟩
    show tSeq (tFor _ _ _) _ _ _ _
    refine Z7 (λσ H4=>H4=H3) (λnx hnx=>?_) ?_
    · refine ⟨_,rfl,r,_,rfl,.inl (SqL.of h3),_,rfl,by lia,by rw [Ab]; lia,?_⟩
      have eR:(((row.map nV).length:Nat):Int).toNat=row.length:=by simp
      rw [eR]
      refine Y2 (n:=row.length) (λi σ H4=>∃ v7 v8,σ=[some (.ref m),some (.ref a),some (.ref D),some (.ref r),v4,v5,v6,v7,v8]/\H4=H3) ⟨_,_,rfl,rfl⟩ ?_ ?_
      · rintro i σ H4 hi ⟨v7,v8,rfl,rfl⟩
        dsimp only [Zl]
        rw [Int.zero_add]
        refine ⟨_,rfl,_,_,rfl,rfl,_,rfl,r,_,rfl,.inl (SqL.of h3),((i + 1:Nat):Int),row.length - (i + 1),?_,by lia,by lia,?_⟩
        · rw [Ab]
          show [V.int ((i:Int) + 1),V.int (row.length:Int)]=_
          rw [show ((i:Int) + 1)=((i + 1:Nat):Int) by lia,show (row.length:Int)=((i + 1:Nat):Int) + ((row.length - (i + 1):Nat):Int) by lia]
        refine Zer (n:=row.length - (i + 1)) (λc σ H5=>∃ v8,σ=[some (.ref m),some (.ref a),some (.ref D),some (.ref r),v4,v5,v6,some (.int i),v8]/\H5=H4) ⟨_,rfl,rfl⟩ ?_ ?_
        · rintro c σ H4 hc ⟨v8,rfl,rfl⟩
          obtain ⟨e,he,hie,hel⟩:∃ e:Nat,((i + 1:Nat):Int) + ((row.length - (i + 1):Nat):Int) - 1 + (c:Int) * -1=(e:Int)/\i < e/\e < row.length:=⟨row.length - 1 - c,by lia,by lia,by lia⟩
          dsimp only [Zl]
          rw [he]
          have gi:=Ac hi
          have ge:=Ac hel
          refine ⟨_,rfl,_,rfl,r,_,_,_,rfl,rfl,SqL.of h3,Z9 gi,_,rfl,_,rfl,r,_,_,_,rfl,rfl,SqL.of h3,Z9 ge,rfl,_,rfl,?_⟩
          refine ite2 (λz=>?_) (λz=>?_)
          · have z:nV row[i]=nV row[e]:=of_decide_eq_true z
            have z:row[i]=row[e]:=by unfold nV at z; injection z with z; lia
            refine ⟨_,rfl,_,rfl,_,rfl,_,rfl,_,rfl,r,_,rfl,SqL.of h3,λl hl=>?_⟩
            have ec:cutV (row.map nV) (some (i:Int)) (some (e:Int))=((row.drop i).take (e - i)).map nV:=by
              unfold cutV
              rw [HT.sIx_nat,HT.sIx_nat,Ab,Nat.min_eq_left (by lia),Nat.min_eq_left (by lia),List.map_take,List.map_drop]
            rw [ec]
            refine k l _ _ (Same.add s3 (s3.free hl)) (s3.free hl) Zc ?_ (.inr (ch.cut hie gi (by rw [ge,z])))
            rw [Ai,List.length_drop]; lia
          · exact ⟨_,rfl,rfl⟩
        · rintro σ H4 ⟨v8,rfl,rfl⟩
          exact ⟨_,_,rfl,rfl⟩
      · rintro σ H4 ⟨v7,v8,rfl,rfl⟩
        exact hnx _ _ rfl
    · rintro σ H4 rfl
      exact ⟨Nat.zero_le _,λl hl=>k l [] _ (Same.add s3 (s3.free hl)) (s3.free hl) Zc (Nat.zero_le _) (.inl rfl)⟩
noncomputable def Qg (ws:List Int) (by':Int):List Int:=rot ws (by' % ws.length).toNat
noncomputable def Ze7:Sp:=λvs H Q _=>∃ (a:Addr) (ws:List Int) (b:Int),vs=[.ref a,.int b]/\H a=some (.lst (ws.map V.int))/\ws.length<=100000/\∀ (l:Addr) (H':Hp),Same H H'->H l=none->H' l=some (.lst ((Qg ws b).map V.int))->Q (.ref l) H'
noncomputable def Fx (C:Addr):Sp:=λvs H Q _=>∃ (p:Addr) (M:List (Option Nat)) (ns:List Int) (x:Int),vs=[.ref p,.int x]/\Z5 C H p M ns/\M.length=ns.length/\Q (.bl (Xk M x)) H
noncomputable def Zdz (C:Addr):Sp:=λvs H Q _=>∃ (p:Addr) (M:List (Option Nat)) (ns:List Int) (a x:Int),vs=[.ref p,.int a,.int x]/\Z5 C H p M ns/\M.length=ns.length/\Xk M a=true/\Q (.bl (Wi M a x)) H
noncomputable def Zhe (C:Addr):Sp:=λvs H Q _=>∃ (p a:Addr) (M:List (Option Nat)) (ns ws:List Int),vs=[.ref p,.ref a]/\Z5 C H p M ns/\M.length=ns.length/\H a=some (.lst (ws.map V.int))/\ws.length<=100000/\∀ H',Same H H'->Q (.bl (Wm M ws)) H'
noncomputable def Kp (C EN:Addr):Sp:=λvs H Q E=>∃ (p a:Addr) (M:List (Option Nat)) (ns ws:List Int),vs=[.ref p,.ref a]/\Z5 C H p M ns/\M.length=ns.length/\H a=some (.lst (ws.map V.int))/\ws.length<=100000/\∀ H',Same H H'->(Wm M ws=true->Q .non H')/\(Wm M ws=false->E (.ref EN) none H')
theorem Xa {n:Nat} (h:n<=100000):n<=sizeLine:=by rw [sizeLine_eq]; lia
theorem Od {ws:List Int} {s:Nat} (h:s<=ws.length):cutV (ws.map V.int) (some (s:Int)) none=(ws.drop s).map V.int:=by
 unfold cutV
 rw [HT.sIx_nat,HT.sIx_none,Ab,Nat.min_eq_left h,List.map_drop,List.take_of_length_le]
 rw [List.length_drop,Ab]
 exact Nat.le_refl _
theorem Zbo {ws:List Int} {s:Nat} (h:s<=ws.length):cutV (ws.map V.int) none (some (s:Int))=(ws.take s).map V.int:=by
 unfold cutV
 rw [HT.sIx_none,HT.sIx_nat,Ab,Nat.min_eq_left h,List.drop_zero,Nat.sub_zero,List.map_take]
theorem Uo:FnScope ["_law_script","_law_at","_law_mates","_law_cell_here"] ["_law_script","_law_at","_law_mates"] (Zi Os):=⟨rfl,rfl,rfl,by decide +kernel,rfl,by decide +kernel,by decide +kernel⟩
theorem Zcb (T:Txt w K mg t):FnOk P w K mg base (CXr P w) 2 t.cp t.cz ["_law_script","_law_at","_law_mates"] (Ze9 K):=by
 refine T.cI.F.aR Uo (λcdv A outer s H vs Q E hr h=>?_)
 ·obtain ⟨a,m,sc,i,M,rfl,hS,hl,i0,i1,hm,h42,hn,inv,k⟩:=h
  refine ⟨_,(Zd (Zo (i:=3) Uo.nd rfl (Or.inl rfl) (pcT (Jw T) hr T.aG (Za (pv 0) (Za (pv 1) Zb))))
   (Zg (Zr (pcT (Zf1 T) hr T.dB (Za (pv 2) (Za (pcT (Qe T) hr T.aA (Za (Zh Yv (pv 3) Zf) (Za (Zh Zz Zf (Zh Zx (pv 3) Zf)) Zb))) Zb)))))),?_⟩
  refine ⟨_,rfl,_,rfl,a,sc,i,rfl,hS,hl,i0,by lia,?_⟩
  dsimp only [Zl]
  generalize cell sc i=c
  have m0:0<=c % 50:=Int.emod_nonneg _ (by decide)
  have m1:c % 50 < 50:=Int.emod_lt_of_pos _ (by decide)
  have e:(4 + c % 50:Int)=((4 + (c % 50).toNat:Nat):Int):=by lia
  refine ⟨_,rfl,_,rfl,_,_,rfl,rfl,⟨by decide,by decide⟩,_,rfl,_,_,rfl,rfl,(by show (0:Int) < 50; decide),_,_,rfl,rfl,_,4 + (c % 50).toNat,(by rw [<- e]; rfl),by lia,λp xs H1 s1 hp h1 hxl hx=>?_⟩
  refine ⟨m,p,M,xs,rfl,s1 _ _ hm,h1,λz=>by rw [z] at hxl; simp at hxl; lia,by lia,hx,h42,hn,inv,λl ws H2 s2 hl2 h2 hw hpl=>k l ws H2 (s1.trans s2) (s1.free hl2) h2 hw hpl⟩
theorem Gh:FnScope ["word","by","start"] ["word","by"] (Zi Zaa):=⟨rfl,rfl,rfl,by decide +kernel,rfl,by decide +kernel,by decide +kernel⟩
theorem Gr (T:Txt w K mg t):FnOk P w K mg base (CXr P w) 1 t.cZ t.dh ["word","by"] Ze7:=by
 refine T.cF.F.aR Gh (λcdv A outer s H vs Q E hr h=>?_)
 ·obtain ⟨a,ws,b,rfl,ha,hl,k⟩:=h
  refine ⟨_,(Zd (Z4 (X6 (U0 (pv 0) (λ_=>rfl))) (Zg (Zr (Y5 Zb))) Zv)
   (Zd (Zo (i:=2) Gh.nd rfl (Or.inl rfl) (Zh Zx (pv 1) (Zk Zj (by rfl) T.ae PySem.boot_len (Za (pv 0) Zb))))
   (Zg (Zr (Zh O2 (X8 Qm (pv 0) (We (pv 2)) Jd) (X8 Qm (pv 0) Jd (We (pv 2)))))))),?_⟩
  refine Zn λnxC hnxC=>?_
  refine ⟨_,rfl,_,.inl ⟨_,SqL.of ha,rfl⟩,?_⟩
  by_cases hne:ws=[]
  ·subst hne
   exact iteT ⟨Nat.zero_le _,λl hl'=>k l _ (Same.new hl') hl' (by rw [Zc]; unfold Qg rot; simp)⟩
  ·have e:(!(ws.map V.int).isEmpty)=true:=by cases ws with | nil=>exact absurd rfl hne | cons _ _=>rfl
   have hp:0 < ws.length:=by cases ws with | nil=>exact absurd rfl hne | cons _ _=>simp
   rw [e]
   refine iteF ?_
   dsimp only [Xx]
   refine hnxC _ _ ?_
   have k0:=Int.emod_nonneg b (show (ws.length:Int)≠0 by lia)
   have k1:=Int.emod_lt_of_pos b (show (0:Int) < ws.length by lia)
   obtain ⟨st,hst⟩:∃ st:Nat,b % (ws.length:Int)=st:=⟨_,(Int.toNat_of_nonneg k0).symm⟩
   have hsl:st<=ws.length:=by lia
   have et:Qg ws b=ws.drop st ++ ws.take st:=by unfold Qg rot; rw [hst,Int.toNat_natCast]
   refine ⟨_,rfl,_,rfl,a,_,rfl,.inl (SqL.of ha),_,_,rfl,rfl,(by rw [Ab]; lia),?_⟩
   dsimp only [Zl]
   rw [Zh4,hst]
   refine ⟨_,rfl,_,rfl,_,rfl,a,_,rfl,SqL.of ha,λl1 h1=>?_⟩
   rw [Od hsl]
   have s1:Same H (upd H l1 (.lst ((ws.drop st).map V.int))):=Same.new h1
   refine ⟨_,rfl,_,rfl,_,rfl,a,_,rfl,SqL.of (s1 _ _ ha),λl2 h2=>?_⟩
   rw [Zbo hsl]
   obtain ⟨hne2,h2'⟩:=Wu h2
   refine ⟨l1,l2,_,_,rfl,rfl,by rw [Ze (Ne.symm hne2),Zc],Zc,?_,λl3 h3=>?_⟩
   ·rw [Ab,Ab,List.length_drop,Ai]; exact Xa (by lia)
   ·have s3:=Same.add (o:=.lst ((ws.take st).map V.int)) s1 h2'
    refine k l3 _ (Same.add s3 (s3.free h3)) (s3.free h3) ?_
    rw [Zc,et,Aj]
theorem F6:FnScope ["tent","place"] ["tent","place"] (Zi Ur):=⟨rfl,rfl,rfl,by decide +kernel,rfl,by decide +kernel,by decide +kernel⟩
theorem Za3 (T:Txt w K mg t):FnOk P w K mg base (CXr P w) 4 t.bR t.bX ["tent","place"] (Fx t.aa):=by
 refine T.b7.F.aR F6 (λcdv A outer s H vs Q E hr h=>?_)
 ·obtain ⟨p,M,ns,x,rfl,ta,hMl,k⟩:=h
  obtain ⟨dx,cl,na,sp,mt,o,f,b⟩:=id ta
  refine ⟨_,(Zg (Zr (Zaz (Ww (pv 0) T.ad T.ak.m (J1 T) (hr.mono (by decide)) T.ak.b .nil Xz (Za (pv 1) Zb)) (Zaw (Qu J8 (Ww (pv 0) T.ad T.aj.m (W3 T) (hr.mono (by decide)) T.aj.b .nil Xz (Za (pv 1) Zb)) Jv (Zu _)))))),?_⟩
  refine ⟨_,rfl,p,dx,_,rfl,b.ins,Yn _ _ _ _,_,rfl,p,M,ns,x,rfl,ta,_,rfl,?_⟩
  by_cases c:0<=x/\x < (ns.length:Int)
  ·rw [decide_eq_true c]
   refine iteT ⟨_,rfl,p,dx,_,rfl,b.ins,Yn _ _ _ _,_,rfl,p,M,ns,x,rfl,ta,hMl,λi y e1 e2=>?_,λz=>absurd c z⟩
   refine ⟨rfl,?_⟩
   have:Xk M x=!decide (mV y=.non):=by
    unfold Xk
    rw [e1,Int.toNat_natCast,Ad,e2,decide_eq_true (show (0:Int)<=i/\(i:Int) < M.length by lia)]
    cases y <;> rfl
   rw [this] at k
   exact k
  ·rw [decide_eq_false c]
   have:Xk M x=false:=by unfold Xk; rw [decide_eq_false (by lia)]; rfl
   rw [this] at k
   exact iteF k
theorem Om:FnScope ["tent","ahead","place","entry"] ["tent","ahead","place"] (Zi Go):=⟨rfl,rfl,rfl,by decide +kernel,rfl,by decide +kernel,by decide +kernel⟩
theorem Zec (T:Txt w K mg t):FnOk P w K mg base (CXr P w) 4 t.cK t.cP ["tent","ahead","place"] (Zdz t.aa):=by
 refine T.cU.F.aR Om (λcdv A outer s H vs Q E hr h=>?_)
 ·obtain ⟨p,M,ns,a,x,rfl,ta,hMl,hc,k⟩:=h
  obtain ⟨dx,cl,na,sp,mt,o,f,b⟩:=id ta
  refine ⟨_,(Zd (Zo (i:=3) Om.nd rfl (Or.inl rfl) (Ww (pv 0) T.ad T.aj.m (W3 T) (hr.mono (by decide)) T.aj.b .nil Xz (Za (pv 1) Zb)))
   (Zg (Zr (Zaz (Qu Xq (pcT (Jq T) hr T.aq (Za (pv 2) Zb)) (pcT (Jq T) hr T.aq (Za (pv 3) Zb)) (Zu _)) (Zaw (Qu Fo (pv 2) (pv 3) (Zu _))))))),?_⟩
  obtain ⟨hr1,hs1⟩:=Bool.and_eq_true_iff.mp hc
  have hr1:=of_decide_eq_true hr1
  obtain ⟨m,hm⟩:=Option.isSome_iff_exists.mp hs1
  have hal:a.toNat < M.length:=by lia
  have ha:M[a.toNat]?=some (some m):=by rw [Ad,Ac hal] at hm; rw [Ac hal]; exact congrArg some hm
  have ef:Wi M a x=(decide (x / 3=(m:Int) / 3) && !decide (x=(m:Int))):=by unfold Wi; rw [hm]
  rw [ef] at k
  refine ⟨_,rfl,p,dx,_,rfl,b.ins,Yn _ _ _ _,_,rfl,p,M,ns,a,rfl,ta,hMl,λi y e1 e2=>?_,λz=>absurd (show 0<=a/\a < (ns.length:Int) by lia) z⟩
  have:i=a.toNat:=by lia
  subst this
  rw [ha] at e2
  cases e2
  refine ⟨_,rfl,_,rfl,_,rfl,_,rfl,rfl,_,rfl,?_⟩
  have dI:∀ u v:Int,decide (V.int u=V.int v)=decide (u=v):=λu v=>by
   by_cases z:u=v
   ·subst z; simp
   ·rw [decide_eq_false z,decide_eq_false (λy=>z (by injection y))]
  rw [dI]
  by_cases z:x / 3=(m:Int) / 3
  ·rw [decide_eq_true z] at k ⊢
   refine iteT ⟨_,rfl,_,rfl,rfl,?_⟩
   show Q (.bl (!decide (V.int x=V.int (m:Int)))) H
   rw [dI]
   exact k
  ·rw [decide_eq_false z] at k ⊢
   exact iteF k
theorem Zhi:FnScope ["tent","word"] ["tent","word"] (Zi Zcs):=⟨rfl,rfl,rfl,by decide +kernel,rfl,by decide +kernel,by decide +kernel⟩
theorem Zhy (T:Txt w K mg t):FnOk P w K mg base (CXr P w) 5 t.dJ t.dO ["tent","word"] (Zhe t.aa):=by
  refine T.dQ.F.aR Zhi (λcdv A outer s H vs Q E hr h=>?_)
  · obtain ⟨p,a,M,ns,ws,rfl,ta,hMl,ha,hl,k⟩:=h
    refine ⟨_,(Zd (Z4 (PW.pt (Q5 (X6 (U0 (pv 1) (λ_=>rfl))) (Qc (X6 (X5 (Zk (Zbu rfl) (by rfl) T.eI PyProof.Rows.boot_all (Za (Yf (ts:=["place"]) (fv:=[("tent",0)]) ⟨rfl,by decide +kernel,by decide +kernel,Ya (by rfl),⟨⟨rfl,rfl,Or.inl rfl⟩,trivial⟩⟩ rfl (Yu (pv 1)) (λ_ _ _ _=>(Zq (i:=0) (show List.Nodup (["place","tent"]:List Str) from by decide +kernel) rfl (Or.inl rfl) (Or.inr rfl))) (λ_ _ _ _=>Yc) (λ_ _ _=>rfl) (λ_ _ _ _ _ _=>Yd (pcT (Za3 T) hr T.b7 (Za (pv 1) (Za (pv 0) Zb))))) Zb))))))) (Zg (Zr Wf)) Zv)
      (Zg (Zr (Zk (Zbu rfl) (by rfl) T.eI PyProof.Rows.boot_all (Za (Yf (ts:=["ahead","place"]) (fv:=[("tent",0)]) ⟨rfl,by decide +kernel,by decide +kernel,Ya (by rfl),⟨⟨rfl,rfl,Or.inl rfl⟩,trivial⟩⟩ rfl (Zle rfl T.eU (Za (pv 1) (Za (pcT (Gr T) hr T.cF (Za (pv 1) (Za Zf Zb))) Zb))) (λ_ _ _ _=>(Zc1 (n:=2) K rfl (Yj (Zq (i:=0) (show List.Nodup (["ahead","place","tent"]:List Str) from by decide +kernel) rfl (Or.inl rfl) (Or.inr rfl)) (Yj (Zq (i:=1) (show List.Nodup (["ahead","place","tent"]:List Str) from by decide +kernel) rfl (Or.inl rfl) (Or.inr rfl)) Je)))) (λ_ _ _ _=>Yc) (λ_ _ _=>rfl) (λ_ _ _ _ _ _=>Yd (pcT (Zec T) hr T.cU (Za (pv 2) (Za (pv 0) (Za (pv 1) Zb)))))) Zb))))),?_⟩
    refine Zn λnxC hnxC=>?_
    refine ⟨_,rfl,_,.inl ⟨_,SqL.of ha,rfl⟩,?_⟩
    by_cases hne:ws=[]
    · subst hne
      exact iteT (k _ (Same.refl _))
    · have e:(!(ws.map V.int).isEmpty)=true:=by cases ws with | nil=>exact absurd rfl hne | cons _ _=>rfl
      have e':(!ws.isEmpty)=true:=by cases ws with | nil=>exact absurd rfl hne | cons _ _=>rfl
      have hp:0 < ws.length:=by cases ws with | nil=>exact absurd rfl hne | cons _ _=>simp
      rw [e]
      refine iteF ?_
      refine ⟨_,rfl,a,rfl,⟨_,SqL.of ha⟩,λD hD=>?_⟩
      refine Yt (xs:=ws.map V.int) (λi σ H1=>∃ v,σ=[v,some (.ref p)]/\Same H H1/\H1 D=some (.lst (((ws.take i).map (Xk M)).map V.bl))) ⟨none,rfl,Same.new hD,Zc⟩ ?_ ?_ ?_
      · rintro i σ H1 _ ⟨v,rfl,sm,h1⟩
        exact SqL.of (sm _ _ ha)
      · rintro i x σ H1 hx ⟨v,rfl,sm,h1⟩
        obtain ⟨y,hy,rfl⟩:=map_some hx
        dsimp only [Zl,tYes]
        rw [if_pos rfl]
        refine ⟨_,rfl,_,rfl,p,M,ns,y,rfl,ta.same sm,hMl,_,h1,?_,_,rfl,Same.add sm hD,?_⟩
        · rw [Ab,Ab,Ai,sizeLine_eq]; lia
        · rw [Zc,List.take_add_one,hy,Aj,Aj]; rfl
      rintro σ H1 ⟨v,rfl,s1,h1⟩
      rw [Ab,List.take_length] at h1
      refine ⟨D,_,rfl,SqL.of h1,_,rfl,?_⟩
      by_cases hc:(ws.map (Xk M)).all id=true
      · rw [hc]
        refine iteF ?_
        dsimp only [Xx]
        refine hnxC _ _ ?_
        refine ⟨_,rfl,_,rfl,a,ws,1,rfl,s1 _ _ ha,hl,λtl H2 s2 htl h2=>?_⟩
        have s02:=s1.trans s2
        have et:Qg ws 1=rot ws (1 % ws.length):=by
          unfold Qg
          congr 1
        rw [et] at h2
        have hrl:(rot ws (1 % ws.length)).length=ws.length:=J7 ws (Nat.le_of_lt (Nat.mod_lt _ hp))
        have hcr:∀ y∈ws,Xk M y=true:=λy hy=>List.all_eq_true.mp hc _ (List.mem_map.mpr ⟨y,hy,rfl⟩)
        have ep:Wm M ws=(W1 M ws (rot ws (1 % ws.length))).all id:=by unfold Wm; rw [e',hc]; rfl
        have k':=λH' s'=>k H' s'
        rw [ep] at k'
        generalize rot ws (1 % ws.length)=vs at h2 hrl k'
        refine ⟨a,tl,_,_,rfl,SqL.of (s02 _ _ ha),SqL.of h2,λD2 hD2=>?_⟩
        refine Zh3 (xs:=ws.map V.int) (ys:=vs.map V.int) (by rw [Ab,Ab,hrl]) (λi σ H3=>∃ v v',σ=[v,v',some (.ref p)]/\Same H2 H3/\H3 D2=some (.lst (((W1 M ws vs).take i).map V.bl))) ⟨none,none,rfl,Same.new hD2,Zc⟩ ?_ ?_ ?_
        · rintro i σ H3 _ ⟨v,v',rfl,s3,h3⟩
          exact ⟨SqL.of (s3 _ _ (s02 _ _ ha)),SqL.of (s3 _ _ h2)⟩
        · rintro i x y σ H3 q hx hy hq ⟨v,v',rfl,s3,h3⟩
          obtain ⟨x',hx',rfl⟩:=map_some hx
          obtain ⟨y',hy',rfl⟩:=map_some hy
          have s4:Same H3 (upd H3 q (.tup [V.int x',V.int y'])):=Same.new hq
          refine ⟨q,_,rfl,SqT.of Zc,rfl,_,_,rfl,_,_,rfl,rfl,?_⟩
          dsimp only [tYes]
          rw [if_pos rfl]
          refine ⟨_,rfl,_,rfl,_,rfl,p,M,ns,x',y',rfl,((ta.same s02).same s3).same s4,hMl,hcr x' (List.mem_of_getElem? hx'),_,s4 _ _ h3,?_,_,_,rfl,Same.add (s3.trans s4) hD2,?_⟩
          · rw [Ab,Ai]
            have:(W1 M ws vs).length<=ws.length:=by unfold W1; rw [Ab,List.length_zip]; lia
            rw [sizeLine_eq]; lia
          · have:(W1 M ws vs)[i]?=some (Wi M x' y'):=by
              unfold W1
              rw [Ah,List.getElem?_zip_eq_some (z:=(x',y')) |>.mpr ⟨hx',hy'⟩]
              rfl
            rw [Zc,List.take_add_one,this,Aj]
            rfl
        rintro σ H3 ⟨v,v',rfl,s3,h3⟩
        have hpl:(W1 M ws vs).length=ws.length:=by unfold W1; rw [Ab,List.length_zip]; lia
        rw [Ab,List.take_of_length_le (Nat.le_of_eq hpl)] at h3
        exact ⟨D2,_,rfl,SqL.of h3,k' _ (s02.trans s3)⟩
      · have hc:(ws.map (Xk M)).all id=false:=by rw [Bool.eq_false_iff]; exact hc
        rw [hc]
        have ep:Wm M ws=false:=by unfold Wm; rw [hc]; simp
        have:=k _ s1
        rw [ep] at this
        exact iteT this
theorem Kt:FnScope ["tent","word"] ["tent","word"] (Zi Va):=⟨rfl,rfl,rfl,by decide +kernel,rfl,by decide +kernel,by decide +kernel⟩
theorem K0 (T:Txt w K mg t):FnOk P w K mg base (CXr P w) 6 t.aZ t.bj ["tent","word"] (Kp t.aa t.bv):=by
 refine T.bq.F.aX Kt (λcdv A outer s H vs Q E hr h=>?_)
 ·obtain ⟨p,a,M,ns,ws,rfl,ta,hMl,ha,hl,k⟩:=h
  refine ⟨_,(Y4 (Zar (X6 (X5 (pcT (Zhy T) hr T.dQ (Za (pv 0) (Za (pv 1) Zb))))) (Y4 (Vt T.dG FBV rfl T.dE rfl (Za Qd Zb))) U2)),?_⟩
  refine ⟨_,rfl,_,rfl,p,a,M,ns,ws,rfl,ta,hMl,ha,hl,λH' s'=>⟨_,rfl,?_⟩⟩
  obtain ⟨k1,k2⟩:=k H' s'
  cases e:Wm M ws with
  | true=>exact iteF (k1 e)
  | false=>exact iteT ⟨by decide,k2 e⟩
theorem Zit (ws:List Nat):ws.map nV=(wI ws).map V.int:=by rw [List.map_map]; rfl
theorem X1 (ws:List Nat):(wI ws).length=ws.length:=by simp
noncomputable def Wk (M:List (Option Nat)) (ws:List Nat):List Nat:=ws.reverse.map λp=>(M.getD p none).getD 0
theorem Yl (M:List (Option Nat)) (ws:List Nat):(Wk M ws).length=ws.length:=by unfold Wk; simp
theorem Fb {M:List (Option Nat)} {ws:List Nat} {i p m:Nat} (h:ws.reverse[i]?=some p) (hm:M[p]?=some (some m)):(Wk M ws)[i]?=some m:=by
 unfold Wk
 rw [Ah,h]
 show some ((M.getD p none).getD 0)=some m
 rw [Ad,hm]
 rfl
noncomputable def Zb4 (C:Addr):Sp:=λvs H Q _=>∃ (p a:Addr) (M:List (Option Nat)) (ns:List Int) (ws:List Nat),vs=[.ref p,.ref a]/\Z5 C H p M ns/\M.length=ns.length/\H a=some (.lst (ws.map nV))/\ws.length<=10000/\Pl M ws/\∀ (l:Addr) (H':Hp),Same H H'->H l=none->H' l=some (.lst ((Wk M ws).map nV))->Q (.ref l) H'
theorem Zb6:FnScope ["tent","word"] ["tent","word"] (Zi Ov):=⟨rfl,rfl,rfl,by decide +kernel,rfl,by decide +kernel,by decide +kernel⟩
theorem Zcd (T:Txt w K mg t):FnOk P w K mg base (CXr P w) 7 t.cj t.cx ["tent","word"] (Zb4 t.aa):=by
 refine T.cE.F.aX Zb6 (λcdv A outer s H vs Q E hr h=>?_)
 ·obtain ⟨p,a,M,ns,ws,rfl,ta,hMl,ha,hl,hP,k⟩:=h
  refine ⟨_,(Xo (U1 (pxT (K0 T) hr T.bq (Za (pv 0) (Za (pv 1) Zb))))
   (Y4 (Jt (Zr (Yf (ts:=["place"]) (fv:=[("tent",0)]) ⟨rfl,by decide +kernel,by decide +kernel,Ya (by rfl),⟨⟨rfl,rfl,Or.inl rfl⟩,trivial⟩⟩ rfl (Zfw rfl T.bx (Za (pv 1) Zb)) (λ_ _ _ _=>(Zq (i:=0) (show List.Nodup (["place","tent"]:List Str) from by decide +kernel) rfl (Or.inl rfl) (Or.inr rfl))) (λ_ _ _ _=>Yc) (λ_ _ _=>rfl) (λ_ _ _ _ _ _=>Yd (Ww (pv 1) T.ad T.aj.m (W3 T) (hr.mono (by decide)) T.aj.b .nil Xz (Za (pv 0) Zb)))))))),?_⟩
  refine ⟨_,rfl,_,rfl,p,a,M,ns,wI ws,rfl,ta,hMl,by rw [ha,Zit],by rw [X1]; lia,λH1 s1=>⟨λ_=>?_,λz=>absurd ((Zfu.mpr hP).symm.trans z) (by decide)⟩⟩
  refine ⟨_,rfl,a,_,rfl,SqL.of (s1 _ _ ha),λD hD=>?_⟩
  refine Zbd (xs:=ws.map nV) (λi σ H2=>∃ v,σ=[v,some (.ref p)]/\Same H1 H2/\H2 D=some (.lst (((Wk M ws).take i).map nV))) ⟨none,rfl,Same.new hD,Zc⟩ ?_ ?_ ?_
  ·rintro i σ H2 _ ⟨v,rfl,sm,h2⟩
   exact SqL.of (sm _ _ (s1 _ _ ha))
  ·rintro i x σ H2 hx ⟨v,rfl,sm,h2⟩
   obtain ⟨q,hq,rfl⟩:∃ q,ws.reverse[i]?=some q/\x=nV q:=by
    rw [<- List.map_reverse,Ah] at hx
    cases e:ws.reverse[i]? with
    | none=>rw [e] at hx; cases hx
    | some y=>rw [e] at hx; cases hx; exact ⟨y,rfl,rfl⟩
   obtain ⟨mt,hmt⟩:=hP.has q (List.mem_reverse.mp (List.mem_of_getElem? hq))
   have ta2:=(ta.same s1).same sm
   obtain ⟨dx,cl,na,sp,mt',o,f,b⟩:=id ta2
   have hqM:q < M.length:=(Aa hmt).1
   dsimp only [Zl,tYes]
   rw [if_pos rfl]
   refine ⟨_,rfl,p,dx,_,rfl,b.ins,Yn _ _ _ _,_,rfl,p,M,ns,q,rfl,ta2,hMl,λi' y e1 e2=>?_,λz=>absurd (show (0:Int)<=q/\(q:Int) < ns.length by lia) z⟩
   have:i'=q:=by lia
   subst this
   rw [hmt] at e2
   cases e2
   refine ⟨_,h2,?_,_,rfl,Same.add sm hD,?_⟩
   ·rw [Ab,Ai,Yl]; exact Xa (by lia)
   ·rw [Zc,List.take_add_one,Fb hq hmt,Aj]; rfl
  ·rintro σ H2 ⟨v,rfl,sm,h2⟩
   rw [Ab,List.take_of_length_le (by rw [Yl]; exact Nat.le_refl _)] at h2
   exact k D H2 (s1.trans sm) (s1.free hD) h2
theorem Ze2 (ws:List Nat) (b:Nat):rot (wI ws) b=wI (rot ws b):=by
 unfold rot wI; rw [Aj,List.map_drop,List.map_take]
noncomputable def Jm (M:List (Option Nat)) (ws:List Nat) (x:List Int):Prop:=∃ b,b < ws.length/\(x=wI (rot ws b)\/x=wI (rot (Wk M ws) b))
theorem Zg9 (ws:List Nat) {b:Nat} (h:b < ws.length):Qg (wI ws) (b:Int)=wI (rot ws b):=by
 unfold Qg
 rw [X1,show ((b:Int) % (ws.length:Int)).toNat=b by rw [<- Int.natCast_emod,Nat.mod_eq_of_lt h,Int.toNat_natCast],Ze2]
theorem Zel {S:List Int->Prop} {a b:List Int} {p q:Addr} (h:HT.IsLeast S a):HT.IsLeast (λx=>S x\/x=b) (if HT.lexLt b a=true then b else a):=by
 by_cases z:HT.lexLt b a=true
 ·rw [if_pos z]
  refine ⟨.inr rfl,λc hc=>?_⟩
  rcases hc with hc | rfl
  ·cases e:HT.lexLt c b with
   | false=>rfl
   | true=>rw [<- HT.lex_trans c b a e z]; exact (h.2 c hc)
  ·exact HT.lex_irr _
 ·rw [if_neg z]
  refine ⟨.inl h.1,λc hc=>?_⟩
  rcases hc with hc | rfl
  ·exact h.2 c hc
  ·simpa using z
noncomputable def Fd:Sp:=λvs H Q _=>∃ (a:Addr) (ws:List Nat),vs=[.ref a]/\H a=some (.lst (ws.map nV))/\0 < ws.length/\ws.length<=10000/\∀ (l:Addr) (L:List Int) (H':Hp),Same H H'->H l=none->H' l=some (.lst (L.map V.int))->HT.IsLeast (λx=>∃ b,b < ws.length/\x=wI (rot ws b)) L->Q (.ref l) H'
noncomputable def Zhg (C:Addr):Sp:=λvs H Q _=>∃ (p a:Addr) (M:List (Option Nat)) (ns:List Int) (ws:List Nat),vs=[.ref p,.ref a]/\Z5 C H p M ns/\M.length=ns.length/\H a=some (.lst (ws.map nV))/\ws.length<=10000/\Pl M ws/\∀ (l:Addr) (L:List Int) (H':Hp),Same H H'->H l=none->H' l=some (.lst (L.map V.int))->HT.IsLeast (Jm M ws) L->Q (.ref l) H'
noncomputable def Zdy:Sp:=λvs H Q _=>∃ (m a:Addr) (M:List (Option Nat)) (ws:List Nat),vs=[.ref m,.ref a]/\H m=some (.lst (M.map mV))/\H a=some (.lst (ws.map nV))/\ws.length<=10000/\Pl M ws/\∀ (l:Addr) (L:List Int) (H':Hp),Same H H'->H l=none->H' l=some (.lst (L.map V.int))->HT.IsLeast (Jm M ws) L->Q (.ref l) H'
theorem Zh6 {S T:List Int->Prop} {a b:List Int} (h:HT.IsLeast S a) (g:HT.IsLeast T b):HT.IsLeast (λx=>S x\/T x) (if HT.lexLt b a=true then b else a):=by
 by_cases z:HT.lexLt b a=true
 ·rw [if_pos z]
  refine ⟨.inr g.1,λc hc=>?_⟩
  rcases hc with hc | hc
  ·cases e:HT.lexLt c b with
   | false=>rfl
   | true=>rw [<- HT.lex_trans c b a e z]; exact (h.2 c hc)
  ·exact g.2 c hc
 ·have z:HT.lexLt b a=false:=by simpa using z
  rw [if_neg (by rw [z]; decide)]
  refine ⟨.inl h.1,λc hc=>?_⟩
  rcases hc with hc | hc
  ·exact h.2 c hc
  ·exact HT.lex_le z (g.2 c hc)
theorem IsLeast.iff {S T:List Int->Prop} {a:List Int} (h:HT.IsLeast S a) (e:∀ x,S x ↔ T x):HT.IsLeast T a:=⟨(e a).mp h.1,λb hb=>h.2 b ((e b).mpr hb)⟩
theorem Zav {H:Hp} {p q:Addr} {a b:List Int} {c:Bool} (h1:H p=some (.lst (a.map V.int))) (h2:H q=some (.lst (b.map V.int))):H (if c=true then q else p)=some (.lst ((if c=true then b else a).map V.int)):=by
 cases c <;> assumption
theorem Gp {H:Hp} {p q:Addr} {c:Bool} (h1:H p=none) (h2:H q=none):H (if c=true then q else p)=none:=by
 cases c <;> assumption
theorem Ft (M:List (Option Nat)) (ws:List Nat) (x:List Int):((∃ b,b < ws.length/\x=wI (rot ws b))\/∃ b,b < (Wk M ws).length/\x=wI (rot (Wk M ws) b)) ↔ Jm M ws x:=by
 rw [Yl]
 constructor
 ·rintro (⟨b,h,e⟩ | ⟨b,h,e⟩)
  ·exact ⟨b,h,.inl e⟩
  ·exact ⟨b,h,.inr e⟩
 ·rintro ⟨b,h,e | e⟩
  ·exact .inl ⟨b,h,e⟩
  ·exact .inr ⟨b,h,e⟩
theorem Fp {ws:List Nat}:ws.map nV=(wI ws).map V.int:=Zit ws
theorem Wp:FnScope ["word","best","by"] ["word"] (Zi Vo):=⟨rfl,rfl,rfl,by decide +kernel,rfl,by decide +kernel,by decide +kernel⟩
theorem Vf (T:Txt w K mg t):FnOk P w K mg base (CXr P w) 2 t.bA t.bF ["word"] Fd:=by
 refine T.aI.F.aR Wp (λcdv A outer s H vs Q E hr h=>?_)
 ·obtain ⟨a,ws,rfl,ha,h0,hl,k⟩:=h
  refine ⟨_,(Zd (Zo (i:=1) Wp.nd rfl (Or.inl rfl) (Wx Wb (by rfl) T.aJ PySem.Pv.boot_list (Za (pv 0) Zb)))
   (Zd (Ys PassesOwn.never rfl (Zfx rfl T.af (Za Zf (Za (Zk Zj (by rfl) T.ae PySem.boot_len (Za (pv 0) Zb)) Zb))) (Zq (i:=2) Wp.nd rfl (Or.inl rfl)) (Zg (Zo (i:=1) Wp.nd rfl (Or.inl rfl) (Zk (Kl rfl hr.units) (by rfl) T.dX PyProof.Rows.boot_min (Za (pv 1) (Za (pcT (Gr T) hr T.cF (Za (pv 0) (Za (pv 2) Zb))) Zb))))))
   (Zg (Zr (pv 1))))),?_⟩
  refine Zn λnxC hnxC=>?_
  refine ⟨_,rfl,a,_,rfl,.inl (SqL.of ha),λl hl1=>?_⟩
  refine hnxC _ _ ?_
  dsimp only [Zl]
  have s1:Same H (upd H l (.lst (ws.map nV))):=Same.new hl1
  have h1:(upd H l (.lst (ws.map nV))) l=some (.lst ((wI ws).map V.int)):=by rw [Zc,Fp]
  generalize upd H l (.lst (ws.map nV))=H1 at s1 h1 ⊢
  show tSeq (tFor _ _ _) _ _ _ _
  refine Z7 (λσ H2=>∃ (p:Addr) (L:List Int) (v:Option V),σ=[some (.ref a),some (.ref p),v]/\Same H H2/\H p=none/\H2 p=some (.lst (L.map V.int))/\HT.IsLeast (λx=>∃ b,b < ws.length/\x=wI (rot ws b)) L) (λnx hnx=>?_) ?_
  ·refine ⟨_,rfl,a,_,rfl,.inl (SqL.of (s1 _ _ ha)),_,_,rfl,⟨by decide,by decide,by rw [Ab]; lia,by rw [Ab]; lia⟩,?_⟩
   rw [Ab]
   refine Y2 (n:=((ws.length:Int) - 1).toNat) (λi σ H2=>∃ (p:Addr) (L:List Int) (v:Option V),σ=[some (.ref a),some (.ref p),v]/\Same H H2/\H p=none/\H2 p=some (.lst (L.map V.int))/\HT.IsLeast (λx=>∃ b,b < 1 + i/\x=wI (rot ws b)) L)
    ⟨l,wI ws,none,rfl,s1,hl1,h1,⟨0,by lia,by rw [Zam]⟩,λc ⟨b,hb,e⟩=>?_⟩ ?_ ?_
   ·have:b=0:=by lia
    subst this
    rw [e,Zam]
    exact HT.lex_irr _
   ·rintro i σ H2 hi ⟨p,L,v,rfl,s2,hp,h2,m2⟩
    dsimp only [Zl]
    rw [show ((1:Int) + (i:Int))=((1 + i:Nat):Int) by lia]
    have hb:1 + i < ws.length:=by lia
    refine ⟨_,rfl,_,rfl,_,rfl,a,wI ws,_,rfl,by rw [s2 _ _ ha,Fp],by rw [X1]; lia,λq H3 s3 hq h3=>?_⟩
    rw [Zg9 ws hb] at h3
    refine ⟨p,q,L,_,rfl,SqL.of (s3 _ _ h2),SqL.of h3,?_⟩
    refine ⟨_,_,_,rfl,s2.trans s3,Gp hp (s2.free hq),Zav (s3 _ _ h2) h3,?_⟩
    refine IsLeast.iff (Zel (p:=p) (q:=q) m2) λx=>?_
    constructor
    ·rintro (⟨b,g,e⟩ | rfl)
     ·exact ⟨b,by lia,e⟩
     ·exact ⟨1 + i,by lia,rfl⟩
    ·rintro ⟨b,g,e⟩
     by_cases z:b=1 + i
     ·subst z; exact .inr e
     ·exact .inl ⟨b,by lia,e⟩
   ·rintro σ H2 ⟨p,L,v,rfl,s2,hp,h2,m2⟩
    refine hnx _ _ ⟨p,L,v,rfl,s2,hp,h2,IsLeast.iff m2 λx=>?_⟩
    refine ⟨λzz34=>?_,λ⟨b,g,e⟩=>⟨b,by lia,e⟩⟩
    obtain ⟨b,g,e⟩:=zz34
    exact ⟨b,by lia,e⟩
  ·rintro σ H2 ⟨p,L,v,rfl,s2,hp,h2,m2⟩
   exact ⟨_,rfl,k p L H2 s2 hp h2 m2⟩
theorem F5:FnScope ["tent","word","back"] ["tent","word"] (Zi Zct):=⟨rfl,rfl,rfl,by decide +kernel,rfl,by decide +kernel,by decide +kernel⟩
theorem Zhz (T:Txt w K mg t):FnOk P w K mg base (CXr P w) 8 t.dL t.dP ["tent","word"] (Zhg t.aa):=by
 refine T.dR.F.aX F5 (λcdv A outer s H vs Q E hr h=>?_)
 ·obtain ⟨p,a,M,ns,ws,rfl,ta,hMl,ha,hl,hP,k⟩:=h
  have hw0:0 < ws.length:=by have:=hP.ne; cases ws with | nil=>exact absurd rfl this | cons _ _=>simp
  refine ⟨_,(Xo (Zcy (i:=2) F5.nd rfl (Or.inl rfl) (pxT (Zcd T) hr T.cE (Za (pv 0) (Za (pv 1) Zb))))
   (Y4 (Jt (Zr (Zk (Kl rfl hr.units) (by rfl) T.dX PyProof.Rows.boot_min (Za (pcT (Vf T) hr T.aI (Za (pv 1) Zb)) (Za (pcT (Vf T) hr T.aI (Za (pv 2) Zb)) Zb))))))),?_⟩
  refine ⟨_,rfl,_,rfl,p,a,M,ns,ws,rfl,ta,hMl,ha,hl,hP,λb H1 s1 hb h1=>?_⟩
  refine ⟨_,rfl,a,ws,rfl,s1 _ _ ha,hw0,hl,λl2 L2 H2 s2 hl2 h2 m2=>?_⟩
  refine ⟨_,rfl,b,Wk M ws,rfl,s2 _ _ h1,by rw [Yl]; exact hw0,by rw [Yl]; exact hl,λl3 L3 H3 s3 hl3 h3 m3=>?_⟩
  refine ⟨l2,l3,L2,L3,rfl,SqL.of (s3 _ _ h2),SqL.of h3,?_⟩
  have s13:=s1.trans (s2.trans s3)
  exact k _ _ H3 s13 (Gp (s1.free hl2) (s1.free (s2.free hl3))) (Zav (s3 _ _ h2) h3) (IsLeast.iff (Zh6 m2 m3) (Ft M ws))
theorem Zdp {ws:List Nat} {s:Nat}:((wI ws).drop s).map V.int ++ ((wI ws).take s).map V.int=(wI (rot ws s)).map V.int:=by
 rw [<- Ze2]; unfold rot; rw [Aj]
theorem Zcw {ts:List Addr} {L:List Int} {j:Nat} (hj:j < ts.length) (h:ts.map V.ref=L.map V.int):False:=by
 cases ts with
 | nil=>simp at hj
 | cons c ct =>
  cases L with
  | nil=>cases h
  | cons d dt=>rw [List.map_cons,List.map_cons] at h; injection h with h _; cases h
noncomputable def W7 (H0 H:Hp) (D:Addr) (f:Nat->List Int) (n:Nat):Prop:=∃ ts:List Addr,H D=some (.lst (ts.map V.ref))/\ts.length=n/\∀ (j:Nat) (b:Addr),ts[j]?=some b->H b=some (.lst ((f j).map V.int))/\H0 b=none
theorem W7.same {H0 H H':Hp} {D:Addr} {f:Nat->List Int} {n:Nat} (h:W7 H0 H D f n) (s:Same H H'):W7 H0 H' D f n:=by
 obtain ⟨ts,h1,h2,h3⟩:=h
 exact ⟨ts,s _ _ h1,h2,λj b e=>⟨s _ _ (h3 j b e).1,(h3 j b e).2⟩⟩
theorem W7.snoc {H0 H:Hp} {D q:Addr} {f:Nat->List Int} {n:Nat} {ts:List Addr} (h1:H D=some (.lst (ts.map V.ref))) (h2:ts.length=n) (h3:∀ (j:Nat) (b:Addr),ts[j]?=some b->H b=some (.lst ((f j).map V.int))/\H0 b=none)
  (hq:H q=some (.lst ((f n).map V.int))) (hq0:H0 q=none) (hD:∀ b,(b=q\/b∈ts)->b≠D):W7 H0 (upd H D (.lst (ts.map V.ref ++ [V.ref q]))) D f (n + 1):=by
 refine ⟨ts ++ [q],by rw [Zc,Aj]; rfl,by rw [Ae,List.length_singleton,h2],λj b e=>?_⟩
 have mem:b=q\/b∈ts:=by
  have:=List.mem_of_getElem? e
  rcases List.mem_append.mp this with z | z
  ·exact .inr z
  ·exact .inl (Af z)
 rw [Ze (hD b mem)]
 by_cases c:j < ts.length
 ·rw [List.getElem?_append_left c] at e
  exact h3 j b e
 ·have hj:=(Aa e).1
  rw [Ae,List.length_singleton] at hj
  have:j=ts.length:=by lia
  subst this
  have:b=q:=by simpa using e.symm
  subst this
  rw [h2]
  exact ⟨hq,hq0⟩
theorem Zfo {as bs:List Addr} {f g:Nat->List Int} {Pr:Addr->List Int->Prop} (h1:∀ (j:Nat) (b:Addr),as[j]?=some b->Pr b (f j)) (h2:∀ (j:Nat) (b:Addr),bs[j]?=some b->Pr b (g j)) :
  ∀ (j:Nat) (b:Addr),(as ++ bs)[j]?=some b->Pr b (if j < as.length then f j else g (j - as.length)):=λj b e=>by
 by_cases c:j < as.length
 ·rw [List.getElem?_append_left c] at e
  rw [if_pos c]
  exact h1 j b e
 ·rw [List.getElem?_append_right (by lia)] at e
  rw [if_neg c]
  exact h2 _ b e
theorem Q3:FnScope ["_law_mates","_law_word","_law_back","_law_rows_here"] ["_law_mates","_law_word"] (Zi Gn):=⟨rfl,rfl,rfl,by decide +kernel,rfl,by decide +kernel,by decide +kernel⟩
theorem Zeb (T:Txt w K mg t):FnOk P w K mg base (CXr P w) 1 t.cM t.cR ["_law_mates","_law_word"] Zdy:=by
  refine T.cV.F.aR Q3 (λcdv A outer s H vs Q E hr h=>?_)
  · obtain ⟨m,a,M,ws,rfl,hm,ha,hl,hP,k⟩:=h
    have hw0:0 < ws.length:=by have:=hP.ne; cases ws with | nil=>exact absurd rfl this | cons _ _=>simp
    refine ⟨_,(Zd (Zo (i:=2) Q3.nd rfl (Or.inr rfl) (Yf (ts:=["_law_p"]) (fv:=[("_law_mates",0)]) ⟨rfl,by decide +kernel,by decide +kernel,Ya (by rfl),⟨⟨rfl,rfl,Or.inl rfl⟩,trivial⟩⟩ rfl (Zfw rfl T.bx (Za (pv 1) Zb)) (λ_ _ _ _=>(Zq (i:=0) (show List.Nodup (["_law_p","_law_mates"]:List Str) from by decide +kernel) rfl (Or.inl rfl) (Or.inr rfl))) (λ_ _ _ _=>Yc) (λ_ _ _=>rfl) (λ_ _ _ _ _ _=>Yd (Zs (Wa K) (pv 1) (pv 0) (λ_ _=>rfl)))))
      (Zd (Wl (ts:=["_law_k"]) (fv:=[("_law_word",1)]) (i:=3) ⟨rfl,by decide +kernel,by decide +kernel,Ya (by rfl),⟨⟨rfl,rfl,Or.inl rfl⟩,trivial⟩⟩ rfl Q3.nd rfl rfl (by rfl) (Yb rfl T.af (Za (Zk Zj (by rfl) T.ae PySem.boot_len (Za (pv 1) Zb)) Zb)) (λ_ _ _ _=>(Zq (i:=0) (show List.Nodup (["_law_k","_law_word"]:List Str) from by decide +kernel) rfl (Or.inl rfl) (Or.inr rfl))) (λ_ _ _ _=>Yc) (λ_ _ _=>rfl) (λ_ _ _ _ _ _=>Yd (Zh O2 (X8 (Q1 K) (pv 1) (We (pv 0)) Jd) (X8 (Q1 K) (pv 1) Jd (We (pv 0))))))
      (Zg (Zr (Zk (Zeu rfl hr.units) (by rfl) T.dX PyProof.Rows.boot_min (Za (Zh O2 (pv 3) (Yf (ts:=["_law_k"]) (fv:=[("_law_back",2)]) ⟨rfl,by decide +kernel,by decide +kernel,Ya (by rfl),⟨⟨rfl,rfl,Or.inl rfl⟩,trivial⟩⟩ rfl (Yb rfl T.af (Za (Zk Zj (by rfl) T.ae PySem.boot_len (Za (pv 2) Zb)) Zb)) (λ_ _ _ _=>(Zq (i:=0) (show List.Nodup (["_law_k","_law_back"]:List Str) from by decide +kernel) rfl (Or.inl rfl) (Or.inr rfl))) (λ_ _ _ _=>Yc) (λ_ _ _=>rfl) (λ_ _ _ _ _ _=>Yd (Zh O2 (X8 (Q1 K) (pv 1) (We (pv 0)) Jd) (X8 (Q1 K) (pv 1) Jd (We (pv 0))))))) Zb)))))),?_⟩
    refine Zn λnxC hnxC=>?_
    refine ⟨_,rfl,a,_,rfl,SqL.of ha,λD hD=>?_⟩
    refine Zbd (xs:=ws.map nV) (λi σ H2=>∃ v,σ=[v,some (.ref m)]/\Same H H2/\H2 D=some (.lst (((Wk M ws).take i).map nV))) ⟨none,rfl,Same.new hD,Zc⟩ ?_ ?_ ?_
    · rintro i σ H2 _ ⟨v,rfl,sm,h2⟩
      exact SqL.of (sm _ _ ha)
    · rintro i x σ H2 hx ⟨v,rfl,sm,h2⟩
      obtain ⟨q,hq,rfl⟩:∃ q,ws.reverse[i]?=some q/\x=nV q:=by
        rw [<- List.map_reverse,Ah] at hx
        cases e:ws.reverse[i]? with
        | none=>rw [e] at hx; cases hx
        | some y=>rw [e] at hx; cases hx; exact ⟨y,rfl,rfl⟩
      obtain ⟨mt,hmt⟩:=hP.has q (List.mem_reverse.mp (List.mem_of_getElem? hq))
      dsimp only [Zl,tYes]
      rw [if_pos rfl]
      refine ⟨_,rfl,_,rfl,m,_,_,_,rfl,rfl,SqL.of (sm _ _ hm),Z9 hmt,?_⟩
      refine ⟨_,h2,?_,_,rfl,Same.add sm hD,?_⟩
      · rw [Ab,Ai,Yl]; exact Xa (by lia)
      · rw [Zc,List.take_add_one,Fb hq hmt,Aj]; rfl
    rintro σ H1 ⟨v,rfl,s1,h1⟩
    rw [Ab,List.take_of_length_le (by rw [Yl]; exact Nat.le_refl _)] at h1
    refine hnxC _ _ ?_
    dsimp only [Zl]
    refine Zn λnxC hnxC=>?_
    refine ⟨_,rfl,a,_,rfl,.inl (SqL.of (s1 _ _ ha)),_,rfl,by rw [Ab]; lia,by rw [Ab]; lia,λD2 hD2=>?_⟩
    show Wt (Itr 0 ((((ws.map nV).length:Nat):Int)).toNat) _ _ _ _ _ _
    rw [Ab,Int.toNat_natCast]
    refine Wg (λi σ H2=>∃ v,σ=[v,some (.ref a)]/\Same H1 H2/\W7 H1 H2 D2 (λj=>wI (rot ws j)) i) ⟨none,rfl,Same.new hD2,[],Zc,rfl,λj b e=>by simp at e⟩ ?_ ?_
    · rintro i σ H2 hi ⟨v,rfl,s2,ts,g1,g2,g3⟩
      dsimp only [Zl,tYes]
      rw [if_pos rfl,Int.zero_add]
      have ha2:H2 a=some (.lst ((wI ws).map V.int)):=by rw [s2 _ _ (s1 _ _ ha),Fp]
      refine ⟨_,rfl,_,rfl,_,rfl,a,_,rfl,SqL.of ha2,λl1 e1=>?_⟩
      rw [Od (by rw [X1]; lia)]
      have t1:Same H2 (upd H2 l1 (.lst (((wI ws).drop i).map V.int))):=Same.new e1
      refine ⟨_,rfl,_,rfl,_,rfl,a,_,rfl,SqL.of (t1 _ _ ha2),λl2 e2=>?_⟩
      rw [Zbo (by rw [X1]; lia)]
      obtain ⟨ne2,e2'⟩:=Wu e2
      refine ⟨l1,l2,_,_,rfl,rfl,by rw [Ze (Ne.symm ne2),Zc],Zc,?_,λl3 e3=>?_⟩
      · rw [Ab,Ab,List.length_drop,Ai,X1]; exact Xa (by lia)
      rw [Zdp]
      have t2:=Same.add (o:=.lst (((wI ws).take i).map V.int)) t1 e2'
      have e3':=t2.free e3
      have t3:=Same.add (o:=.lst ((wI (rot ws i)).map V.int)) t2 e3'
      have h3:(upd (upd (upd H2 l1 (.lst (((wI ws).drop i).map V.int))) l2 (.lst (((wI ws).take i).map V.int))) l3 (.lst ((wI (rot ws i)).map V.int))) l3=some (.lst ((wI (rot ws i)).map V.int)):=Zc
      generalize upd (upd (upd H2 l1 (.lst (((wI ws).drop i).map V.int))) l2 (.lst (((wI ws).take i).map V.int))) l3 (.lst ((wI (rot ws i)).map V.int))=H3 at t3 h3 ⊢
      refine ⟨_,t3 _ _ g1,(by rw [Ab,g2]; exact Xa (by lia)),_,rfl,Same.add (s2.trans t3) hD2,?_⟩
      refine W7.snoc (t3 _ _ g1) g2 (λj b e=>⟨t3 _ _ (g3 j b e).1,(g3 j b e).2⟩) h3 (s2.free e3') λb hb z=>?_
      subst z
      rcases hb with rfl | hb
      · rw [g1] at e3'; cases e3'
      · obtain ⟨j,hj,e⟩:=List.mem_iff_getElem.mp hb
        have q3:=(g3 j b (by rw [Ac hj,e])).1
        rw [g1] at q3
        injection q3 with q3
        injection q3 with q3
        exact Zcw hj q3
    rintro σ H2 ⟨v,rfl,s2,R1⟩
    refine hnxC _ _ ?_
    have h1':=s2 _ _ h1
    refine ⟨_,rfl,_,rfl,D,_,rfl,.inl (SqL.of h1'),_,rfl,by rw [Ab,Yl]; lia,by rw [Ab,Yl]; lia,λD3 hD3=>?_⟩
    show Wt (Itr 0 (((((Wk M ws).map nV).length:Nat):Int)).toNat) _ _ _ _ _ _
    rw [Ab,Int.toNat_natCast]
    have hbl:=Yl M ws
    have hset:=Ft M ws
    generalize Wk M ws=bk at h1' hbl hset ⊢
    refine Wg (λi σ H3=>∃ v,σ=[v,some (.ref D)]/\Same H2 H3/\W7 H2 H3 D3 (λj=>wI (rot bk j)) i) ⟨none,rfl,Same.new hD3,[],Zc,rfl,λj b e=>by simp at e⟩ ?_ ?_
    · rintro i σ H3 hi ⟨v,rfl,s3,ts,g1,g2,g3⟩
      dsimp only [Zl,tYes]
      rw [if_pos rfl,Int.zero_add]
      have ha3:H3 D=some (.lst ((wI bk).map V.int)):=by rw [s3 _ _ h1',Fp]
      refine ⟨_,rfl,_,rfl,_,rfl,D,_,rfl,SqL.of ha3,λl1 e1=>?_⟩
      rw [Od (by rw [X1]; lia)]
      have t1:Same H3 (upd H3 l1 (.lst (((wI bk).drop i).map V.int))):=Same.new e1
      refine ⟨_,rfl,_,rfl,_,rfl,D,_,rfl,SqL.of (t1 _ _ ha3),λl2 e2=>?_⟩
      rw [Zbo (by rw [X1]; lia)]
      obtain ⟨ne2,e2'⟩:=Wu e2
      refine ⟨l1,l2,_,_,rfl,rfl,by rw [Ze (Ne.symm ne2),Zc],Zc,?_,λl3 e3=>?_⟩
      · rw [Ab,Ab,List.length_drop,Ai,X1]; exact Xa (by lia)
      rw [Zdp]
      have t2:=Same.add (o:=.lst (((wI bk).take i).map V.int)) t1 e2'
      have e3':=t2.free e3
      have t3:=Same.add (o:=.lst ((wI (rot bk i)).map V.int)) t2 e3'
      have h3:(upd (upd (upd H3 l1 (.lst (((wI bk).drop i).map V.int))) l2 (.lst (((wI bk).take i).map V.int))) l3 (.lst ((wI (rot bk i)).map V.int))) l3=some (.lst ((wI (rot bk i)).map V.int)):=Zc
      generalize upd (upd (upd H3 l1 (.lst (((wI bk).drop i).map V.int))) l2 (.lst (((wI bk).take i).map V.int))) l3 (.lst ((wI (rot bk i)).map V.int))=H4 at t3 h3 ⊢
      refine ⟨_,t3 _ _ g1,(by rw [Ab,g2]; exact Xa (by lia)),_,rfl,Same.add (s3.trans t3) hD3,?_⟩
      refine W7.snoc (t3 _ _ g1) g2 (λj b e=>⟨t3 _ _ (g3 j b e).1,(g3 j b e).2⟩) h3 (s3.free e3') λb hb z=>?_
      subst z
      rcases hb with rfl | hb
      · rw [g1] at e3'; cases e3'
      · obtain ⟨j,hj,e⟩:=List.mem_iff_getElem.mp hb
        have q3:=(g3 j b (by rw [Ac hj,e])).1
        rw [g1] at q3
        injection q3 with q3
        injection q3 with q3
        exact Zcw hj q3
    rintro σ H3 ⟨v,rfl,s3,R2⟩
    obtain ⟨as,p1,p2,p3⟩:=R1.same s3
    obtain ⟨bs,q1,q2,q3⟩:=R2
    refine ⟨D2,D3,_,_,rfl,rfl,p1,q1,?_,λl hl4=>?_⟩
    · rw [Ab,Ab,p2,q2]; exact Xa (by lia)
    rw [<- Aj]
    have s4:Same H3 (upd H3 l (.lst ((as ++ bs).map V.ref))):=Same.new hl4
    have h4:(upd H3 l (.lst ((as ++ bs).map V.ref))) l=some (.lst ((as ++ bs).map V.ref)):=Zc
    generalize upd H3 l (.lst ((as ++ bs).map V.ref))=H4 at s4 h4 ⊢
    have s03:=s1.trans (s2.trans s3)
    have all:=Zfo (as:=as) (bs:=bs) (f:=λj=>wI (rot ws j)) (g:=λj=>wI (rot bk j)) (Pr:=λb L=>H4 b=some (.lst (L.map V.int))/\H b=none) (λj b e=>⟨s4 _ _ (p3 j b e).1,s1.free (p3 j b e).2⟩) (λj b e=>⟨s4 _ _ (q3 j b e).1,s1.free (s2.free (q3 j b e).2)⟩)
    rw [p2] at all
    refine ⟨l,as ++ bs,_,rfl,SqL.of h4,λi b e=>SqL.of (all i b e).1,by rw [Ae,p2]; lia,λb e=>?_⟩
    have hb:=all _ b e
    refine k b _ H4 (s03.trans s4) hb.2 hb.1 (IsLeast.iff (S:=λx=>∃ i,i < ws.length + bk.length/\x=if i < ws.length then wI (rot ws i) else wI (rot bk (i - ws.length))) ⟨?_,?_⟩ λx=>?_)
    · have hi:=(Aa e).1
      have e2:(as ++ bs).length=ws.length + bk.length:=by rw [Ae,p2,q2]
      exact ⟨_,Nat.lt_of_lt_of_eq hi e2,rfl⟩
    · rintro c ⟨i,hi,rfl⟩
      have:=HT.best_le (λi=>if i < ws.length then wI (rot ws i) else wI (rot bk (i - ws.length))) ((as ++ bs).length - 1) i (by rw [Ae,p2,q2]; lia)
      exact this
    · rw [<- hset x]
      constructor
      · rintro ⟨i,hi,e⟩
        by_cases c:i < ws.length
        · rw [if_pos c] at e; exact .inl ⟨i,c,e⟩
        · rw [if_neg c] at e; exact .inr ⟨i - ws.length,by lia,e⟩
      · rintro (⟨i,hi,e⟩ | ⟨i,hi,e⟩)
        · exact ⟨i,by lia,by rw [if_pos hi]; exact e⟩
        · exact ⟨ws.length + i,by lia,by rw [if_neg (by lia),Nat.add_sub_cancel_left]; exact e⟩
noncomputable def dI (ks:List Int) (f:Int->Int):List (Key × V):=ks.map λx=>((Sum.inl x:Key),V.int (f x))
theorem Zgx {ks:List Int} {f:Int->Int} {y:Int} (h:y∈ks):valV (dI ks f) (Sum.inl y)=some (V.int (f y)):=by unfold dI; rw [W8,if_pos h]
theorem Zl4 {ks:List Int} {f:Int->Int} {y v:Int} (h:y∈ks):putK (dI ks f) (Sum.inl y) (V.int v)=dI ks λx=>if x=y then v else f x:=by
 unfold dI
 rw [Zjs h]
 apply List.map_congr_left
 intro x _
 by_cases c:x=y
 ·simp [c]
 ·simp [c]
theorem Zl5 {ks:List Int} {f:Int->Int} {y v:Int} (h:y ∉ ks):putK (dI ks f) (Sum.inl y) (V.int v)=dI (ks ++ [y]) λx=>if x=y then v else f x:=by
 unfold dI
 rw [Zcx h,Aj]
 congr 1
 ·apply List.map_congr_left
  intro x hx
  have:x≠y:=λz=>h (z ▸ hx)
  simp [this]
 ·simp
theorem Zbn {ks:List Int} {f:Int->Int}:(dI ks f).length=ks.length:=by unfold dI; simp
noncomputable def rowI (n:Nat) (f:Nat->Int):List V:=(List.range n).map λp=>V.int (f p)
theorem Y0 (n:Nat) (f:Nat->Int):(rowI n f).length=n:=by unfold rowI; simp
theorem Wd {n p:Nat} {f:Nat->Int} (h:p < n):(rowI n f)[p]?=some (V.int (f p)):=by unfold rowI; rw [Ah,List.getElem?_range h]; rfl
theorem Q4 {n p:Nat} {f:Nat->Int} {v:Int}:(rowI n f).set p (V.int v)=rowI n λq=>if q=p then v else f q:=by
 apply List.ext_getElem?
 intro i
 by_cases hi:i < n
 ·rw [Wd hi,List.getElem?_set,Y0]
  by_cases c:p=i
  ·subst c; simp [hi]
  ·rw [if_neg c,Wd hi,if_neg (λz=>c z.symm)]
 ·rw [List.getElem?_eq_none (by rw [List.length_set,Y0]; lia),List.getElem?_eq_none (by rw [Y0]; lia)]
theorem Ox {n:Nat} {f g:Nat->Int} (h:∀ p,f p=g p):rowI n f=rowI n g:=by unfold rowI; exact List.map_congr_left λp _=>by rw [h p]
noncomputable def Zhf:Sp:=λvs H Q _=>∃ (r c:Addr) (ns:List Int) (f:Nat->Int),vs=[.ref r,.ref c]/\Xl H r ns/\ns.length<=1000/\H c=some (.lst (rowI ns.length f)) /\
 ∀ (l:Addr) (g:Int->Int) (H':Hp),Same H H'->H l=none->H' l=some (.dK (dI (keys ns ns.length) g))->(∀ x∈keys ns ns.length,∃ p,ns[p]?=some x/\g x=f p)->Q (.ref l) H'
theorem K8 (ns:List Int):∀ n,(keys ns n).length<=n
 | 0=>Nat.le_refl _
 | n + 1=>by
  have ih:=K8 ns n
  cases h:ns[n]? with
  | none =>
   have:keys ns (n + 1)=keys ns n:=by
    show (match ns[n]? with | some x=>if x∈keys ns n then keys ns n else keys ns n ++ [x] | none=>keys ns n)=_
    rw [h]
   rw [this]; lia
  | some x =>
   rw [Xp h]
   split
   ·lia
   ·rw [Ae,List.length_singleton]; lia
theorem Q2:FnScope ["_law_rows_here","_law_counts","_law_due","_law_p"] ["_law_rows_here","_law_counts"] (Zi Gk):=⟨rfl,rfl,rfl,by decide +kernel,rfl,by decide +kernel,by decide +kernel⟩
theorem O4 (T:Txt w K mg t):FnOk P w K mg base (CXr P w) 1 t.cL t.cQ ["_law_rows_here","_law_counts"] Zhf:=by
 refine T.bL.F.aR Q2 (λcdv A outer s H vs Q E hr h=>?_)
 ·obtain ⟨r,c,ns,f,rfl,hr1,hl,hc,k⟩:=h
  have hu:=Ug hr
  refine ⟨_,(Zd (Zo (i:=2) Q2.nd rfl (Or.inl rfl) Zay)
   (Zd (Ys PassesOwn.never rfl (Yb rfl T.af (Za (Zk Zj (by rfl) T.ae PySem.boot_len (Za (pv 1) Zb)) Zb)) (Zq (i:=3) Q2.nd rfl (Or.inl rfl)) (Zg (Kz hu (pv 2) (Zs V0 (Zs Zp (pv 0) (Zh Yv (pv 3) Zf) (λ_ _=>rfl)) (Zh Zx (pv 3) Zf) (λ_ _=>rfl)) (Zs Zp (pv 1) (pv 3) (λ_ _=>rfl)) rfl)))
   (Zg (Zr (pv 2))))),?_⟩
  intro d hd
  have s1:Same H (upd H d (.dK [])):=Same.new hd
  dsimp only [Zl]
  show tSeq (tFor _ _ _) _ _ _ _
  refine Z7 (λσ H'=>∃ (g:Int->Int) (v:Option V),σ=[some (.ref r),some (.ref c),some (.ref d),v]/\Same H H'/\H' d=some (.dK (dI (keys ns ns.length) g))/\∀ x∈keys ns ns.length,∃ p,ns[p]?=some x/\g x=f p) (λnx hnx=>?_) ?_
  ·refine ⟨_,rfl,c,_,rfl,.inl (SqL.of (s1 _ _ hc)),_,rfl,by rw [Y0]; lia,by rw [Y0]; lia,?_⟩
   have eL:((((rowI ns.length f).length:Nat):Int)).toNat=ns.length:=by rw [Y0,Int.toNat_natCast]
   rw [eL]
   refine Y2 (n:=ns.length) (λi σ H'=>∃ (g:Int->Int) (v:Option V),σ=[some (.ref r),some (.ref c),some (.ref d),v]/\Same H H'/\H' d=some (.dK (dI (keys ns i) g))/\∀ x∈keys ns i,∃ p,ns[p]?=some x/\g x=f p) ⟨λ_=>0,_,rfl,s1,Zc,λx hx=>by simp [keys] at hx⟩ ?_ ?_
   ·rintro i σ H' hi ⟨g,v,rfl,s2,hd2,hg⟩
    dsimp only [Zl]
    rw [Int.zero_add]
    obtain ⟨y,hy⟩:∃ y,ns[i]?=some y:=⟨_,Ac hi⟩
    obtain ⟨ts',q,e1,e2,e3,e4⟩:=Zk8 (hr1.same s2) hy
    have hc2:=s2 _ _ hc
    refine ⟨_,rfl,_,rfl,c,_,_,_,rfl,rfl,SqL.of hc2,Yo (Wd hi),_,rfl,?_⟩
    refine ⟨_,rfl,_,rfl,_,_,rfl,rfl,⟨by decide,by decide⟩,r,_,_,_,rfl,rfl,SqL.of e1,(by rw [div3]; exact Z9 e2),_,rfl,_,_,rfl,rfl,(by show (0:Int) < 3; decide),q,_,_,_,rfl,rfl,SqT.of e3,(by rw [mod3]; exact Yo e4),?_⟩
    refine ⟨d,_,rfl,DPut.k (k:=Sum.inl y) hd2 (by rw [Zbn]; exact Z1 (by have:=K8 ns i; lia)),?_⟩
    refine ⟨λx=>if x=y then f i else g x,_,rfl,Same.add s2 hd,?_,?_⟩
    ·rw [Zc,Xp hy]
     by_cases z:y∈keys ns i
     ·rw [if_pos z,Zl4 z]
     ·rw [if_neg z,Zl5 z]
    ·intro x hx
     by_cases z:x=y
     ·subst z
      exact ⟨i,hy,if_pos rfl⟩
     ·have:x∈keys ns i:=by
       rw [Xp hy] at hx
       split at hx
       ·exact hx
       ·rcases List.mem_append.mp hx with q' | q'
        ·exact q'
        ·exact absurd (Af q') z
      obtain ⟨p,h1,h2⟩:=hg x this
      exact ⟨p,h1,by show (if x=y then f i else g x)=f p; rw [if_neg z]; exact h2⟩
   ·rintro σ H' ⟨g,v,rfl,s2,hd2,hg⟩
    exact hnx _ _ ⟨g,v,rfl,s2,hd2,hg⟩
  ·rintro σ H' ⟨g,v,rfl,s2,hd2,hg⟩
   exact ⟨_,rfl,k d g H' s2 hd hd2 hg⟩
structure OkC (M:List (Option Nat)) (ns:List Int) (g:Int->Int):Prop where
 nn:∀ x∈keys ns ns.length,0<=g x
 rim:∀ (i:Nat) (x:Int),M[i]?=some none->ns[i]?=some x->g x=0
 even:∀ k,3 * k + 2 < ns.length->(g (ns.getD (3 * k) 0) + g (ns.getD (3 * k + 1) 0) + g (ns.getD (3 * k + 2) 0)) % 2=0
 tri:∀ k,3 * k + 2 < ns.length->g (ns.getD (3 * k) 0)<=g (ns.getD (3 * k + 1) 0) + g (ns.getD (3 * k + 2) 0)/\g (ns.getD (3 * k + 1) 0)<=g (ns.getD (3 * k) 0) + g (ns.getD (3 * k + 2) 0)/\g (ns.getD (3 * k + 2) 0)<=g (ns.getD (3 * k) 0) + g (ns.getD (3 * k + 1) 0)
noncomputable def Zm1 (H H':Hp):Prop:=∀ b u,(∀ kvs,u≠.dK kvs)->H b=some u->H' b=some u
theorem Z5.sameD {C:Addr} {H H':Hp} {p:Addr} {M:List (Option Nat)} {ns:List Int} (h:Z5 C H p M ns) (s:Zm1 H H'):Z5 C H' p M ns:=by
 obtain ⟨dx,cl,na,sp,mt,o,f,b⟩:=h
 obtain ⟨ts,r1,r2,r3⟩:=b.rows
 exact ⟨dx,cl,na,sp,mt,o,f,s _ _ (λ_ z=>nomatch z) b.ins,⟨ts,s _ _ (λ_ z=>nomatch z) r1,r2,λk t e=>s _ _ (λ_ z=>nomatch z) (r3 k t e)⟩,s _ _ (λ_ z=>nomatch z) b.names,s _ _ (λ_ z=>nomatch z) b.spots,s _ _ (λ_ z=>nomatch z) b.mates,λx hx=>s _ _ (λ_ z=>nomatch z) (b.at' x hx)⟩
noncomputable def Q9 (H:Hp) (c:Addr) (ns:List Int) (g:Int->Int):Prop:=∃ ks:List Int,H c=some (.dK (dI ks g))/\ks.Perm (keys ns ns.length)
theorem Q9.same {H H':Hp} {c:Addr} {ns:List Int} {g:Int->Int} (h:Q9 H c ns g) (s:Same H H'):Q9 H' c ns g:=by
 obtain ⟨ks,h1,h2⟩:=h
 exact ⟨ks,s _ _ h1,h2⟩
theorem Zla {M:List (Option Nat)} {ns:List Int} (td:TD M ns) {x:Int} (hx:x∈keys ns ns.length) (h:Y3 ns x="rim"):∃ a:Nat,M[a]?=some none/\ns[a]?=some x:=by
 rcases Zd0 td hx with ⟨_,a,e,ma⟩ | ⟨e,_⟩ | ⟨e,_⟩
 ·refine ⟨a,ma,?_⟩
  have:a∈pl ns ns.length x:=by rw [e]; exact List.mem_singleton.mpr rfl
  unfold pl at this
  exact of_decide_eq_true (List.mem_filter.mp this).2
 ·rw [h] at e; exact absurd e (by decide)
 ·rw [h] at e; exact absurd e (by decide)
noncomputable def g3 (ns:List Int) (g:Int->Int) (k:Nat):List Int:=[g (ns.getD (3 * k) 0),g (ns.getD (3 * k + 1) 0),g (ns.getD (3 * k + 2) 0)]
theorem Ka {ns:List Int} {i:Nat} (h:i < ns.length):ns.getD i 0∈keys ns ns.length:=by
 have e:ns[i]?=some (ns.getD i 0):=by rw [Ad,Ac h]; rfl
 exact Y6.mpr ⟨i,h,e⟩
theorem Zmz {ns:List Int} {g:Int->Int} {i j:Nat} {x:V} (h:(row3 ns i)[j]?=some x):∃ z,(3 * i + 2 < ns.length->z∈keys ns ns.length)/\x=V.int z/\(g3 ns g i)[j]?=some (g z):=by
 match j,h with
 | 0,h=>cases h; exact ⟨_,λh=>Ka (by lia),rfl,rfl⟩
 | 1,h=>cases h; exact ⟨_,λh=>Ka (by lia),rfl,rfl⟩
 | 2,h=>cases h; exact ⟨_,λh=>Ka h,rfl,rfl⟩
 | j + 3,h=>simp [row3] at h
theorem Zgo {ns:List Int} {g:Int->Int} {k:Nat} {us:List Addr} (h:some (HO.lst (us.map V.ref))=some (HO.lst ((g3 ns g k).map V.int))):False:=by
 injection h with h
 injection h with h
 cases us with
 | nil=>cases h
 | cons a r=>injection h with h _; cases h
theorem Zdo {H:Hp} {c:Addr} {ks:List Int} {g:Int->Int} {z:Int} (h:H c=some (.dK (dI ks g))) (hz:z∈ks):DGet H c (.int z) (some (.int (g z))):=.inl ⟨_,Sum.inl z,.inl h,rfl,(Zgx hz).symm⟩
theorem Fc (n:Nat):(List.replicate n false).any id=false:=by
 induction n with
 | zero=>rfl
 | succ n ih=>rw [List.replicate_succ,List.any_cons,ih]; rfl
structure OkN (M:List (Option Nat)) (ns:List Int) (g:Int->Int):Prop where
 nn:∀ x∈keys ns ns.length,0<=g x
 rim:∀ (i:Nat) (x:Int),M[i]?=some none->ns[i]?=some x->g x=0
noncomputable def Zb1 (C:Addr):Sp:=λvs H Q _=>∃ (p c:Addr) (M:List (Option Nat)) (ns:List Int) (g:Int->Int),vs=[.ref p,.ref c]/\Z5 C H p M ns/\TD M ns/\ns.length < 64/\Q9 H c ns g/\OkN M ns g/\∀ H',Same H H'->Q .non H'
noncomputable def Og (C:Addr):Sp:=λvs H Q _=>∃ (p c:Addr) (M:List (Option Nat)) (ns:List Int) (g:Int->Int),vs=[.ref p,.ref c]/\Z5 C H p M ns/\TD M ns/\ns.length < 64/\Q9 H c ns g/\OkC M ns g/\∀ H',Same H H'->Q .non H'
theorem Wz:FnScope ["tent","counts","seam","number"] ["tent","counts"] (Zi Qo):=⟨rfl,rfl,rfl,by decide +kernel,rfl,by decide +kernel,by decide +kernel⟩
theorem O3 (T:Txt w K mg t):FnOk P w K mg base (CXr P w) 3 t.aO t.aT ["tent","counts"] (Zb1 t.aa):=by
 refine T.aW.F.aR Wz (λcdv A outer s H vs Q E hr h=>?_)
 ·obtain ⟨p,c,M,ns,g,rfl,ta,td,h64,⟨ks,hc,hperm⟩,ok,k⟩:=h
  refine ⟨_,(Zd (Z4 (Zt (Zlk hr.units) (Zk (V3 rfl) (by rfl) T.bJ PyProof.Rows.boot_sorted (Za (pv 1) Zb)) (Q6 (pv 0) T.ad T.aH.m (Fk T) (hr.mono (by decide)) T.aH.b .nil Xz) (Zu _)) Xd Zv)
   (Zg (Zju (Ys PassesOwn.never rfl (Zhq (pv 1) ⟨rfl,rfl,rfl⟩) (Qt rfl (Yj (Zq (i:=2) Wz.nd rfl (Or.inl rfl)) (Yj (Zq (i:=3) Wz.nd rfl (Or.inl rfl)) Je))) (Zd (Z4 (Zt Jo (pv 3) Zf (Zu _)) Xd Zv)
   (Zg (Z4 (PW.pt (Oz (Zt Jp (pv 3) Zf (Zu _)) (V7 (Zt Xq (Ww (pv 0) T.ad T.au.m (O6 T) (hr.mono (by decide)) T.au.b .nil Xz (Za (pv 2) Zb)) Qd (Zu _))))) Xd Zv))))))),?_⟩
  refine Zn λnxC hnxC=>?_
  have hkl:ks.length < 64:=by have h1:=hperm.length_eq; have h2:=K8 ns ns.length; lia
  refine ⟨_,rfl,c,_,ks,rfl,.inl hc,(by unfold dI; rw [List.map_map]; rfl),hkl,λl1 out1 hl1 pm1 st1=>?_⟩
  have s1:Same H (upd H l1 (.lst (out1.map V.int))):=Same.new hl1
  have ta1:=ta.same s1
  obtain ⟨dx,cl,na,sp,mt,o,f,B⟩:=id ta1
  refine ⟨_,rfl,p,dx,_,rfl,B.ins,Yn _ _ _ _,p,M,ns,rfl,ta1,h64,λl2 out2 hl2 pm2 st2=>?_⟩
  have s2:Same (upd H l1 (.lst (out1.map V.int))) (upd (upd H l1 (.lst (out1.map V.int))) l2 (.lst (out2.map V.int))):=Same.new hl2
  refine ⟨l1,l2,out1,out2,rfl,rfl,SqL.of (s2 _ _ Zc),SqL.of Zc,_,rfl,?_⟩
  obtain rfl:=Zfd (pm1.trans hperm) pm2 st1 st2
  rw [decide_eq_true rfl]
  refine iteF ?_
  have s12:=s1.trans s2
  generalize upd (upd H l1 (.lst (out1.map V.int))) l2 (.lst (out1.map V.int))=H2 at s12 ⊢
  clear B ta1 s1 s2 pm1 st1 pm2 st2 hl1 hl2
  try dsimp only [Xx]
  refine hnxC _ _ ?_
  have hc2:=s12 _ _ hc
  have ta2:=ta.same s12
  refine ⟨_,rfl,c,_,rfl,.inl ⟨hc2,λo=>?_⟩⟩
  refine Zgp (λi σ H9=>∃ v2 v3:Option V,σ=[some (.ref p),some (.ref c),v2,v3]/\(∀ b u,b≠c->H2 b=some u->H9 b=some u)/\H9 c=some (.frz o (.dK (dI ks g)))) ⟨none,none,rfl,λb u hb e=>by rw [Ze hb]; exact e,Zc⟩ ?_ ?_ ?_
  ·rintro i σ H9 _ ⟨v2,v3,rfl,_,e⟩
   exact e
  ·rintro i k0 x0 σ H9 q hk0 hq ⟨v2,v3,rfl,s9,h9⟩
   obtain ⟨y,hy,rfl,rfl⟩:∃ y,y∈ks/\k0=Sum.inl y/\x0=V.int (g y):=by
    unfold dI at hk0
    rw [Ah] at hk0
    cases e:ks[i]? with
    | none=>rw [e] at hk0; cases hk0
    | some z=>rw [e] at hk0; cases hk0; exact ⟨z,List.mem_of_getElem? e,rfl,rfl⟩
   have hy':y∈keys ns ns.length:=hperm.mem_iff.mp hy
   have sq:Same H9 (upd H9 q (.tup [kV (Sum.inl y),V.int (g y)])):=Same.new hq
   have taq:Z5 t.aa (upd H9 q (.tup [kV (Sum.inl y),V.int (g y)])) p M ns:=(ta2.sameD (λb u hu e=>s9 b u (λz=>by rw [z,hc2] at e; cases e; exact hu _ rfl) e)).same sq
   refine ⟨q,_,rfl,SqT.of Zc,rfl,_,_,rfl,_,_,rfl,rfl,?_⟩
   refine Zn λnxC hnxC=>?_
   refine ⟨_,rfl,_,_,rfl,rfl,_,rfl,?_⟩
   rw [decide_eq_false (show ¬ g y < 0 from by have:=ok.nn y hy'; lia)]
   refine iteF ?_
   try dsimp only [Xx]
   refine hnxC _ _ ?_
   refine ⟨_,rfl,_,_,rfl,rfl,_,rfl,?_⟩
   have nx9:∀ H',Same (upd H9 q (.tup [kV (Sum.inl y),V.int (g y)])) H'->∃ v2 v3:Option V,[some (.ref p),some (.ref c),some (V.int y),some (V.int (g y))]=[some (.ref p),some (.ref c),v2,v3]/\(∀ b u,b≠c->H2 b=some u->H' b=some u)/\H' c=some (.frz o (.dK (dI ks g))):=λH' s'=>⟨_,_,rfl,λb u hb e=>s' _ _ (sq _ _ (s9 b u hb e)),s' _ _ (sq _ _ h9)⟩
   refine ite2 (λz=>?_) (λ_=>iteF (nx9 _ (Same.refl _)))
   have hg0:0 < g y:=of_decide_eq_true z
   obtain ⟨dx,cl,na,sp,mt,o',f,B⟩:=id taq
   refine ⟨_,rfl,p,dx,_,rfl,B.ins,Yn _ _ _ _,_,rfl,p,M,ns,y,rfl,taq,td,λ_ H' s'=>?_,λz=>absurd hy' z⟩
   refine ⟨rfl,_,rfl,?_⟩
   by_cases e:Y3 ns y="rim"
   ·obtain ⟨a,ma,na⟩:=Zla td hy' e
    have:=ok.rim a y ma na
    lia
   ·rw [Zk4 e]
    exact iteF (nx9 H' s')
  ·rintro σ H9 ⟨v2,v3,rfl,s9,h9⟩
   refine ⟨c,o,_,h9,λo' u z=>?_,?_⟩
   ·have z:H c=some (.frz o' u):=z
    rw [hc] at z; cases z
   ·refine k _ λb u e=>?_
    by_cases hb:b=c
    ·subst hb
     rw [Zc]
     rw [hc] at e; exact e
    ·rw [Ze hb]
     exact s9 b u hb (s12 b u e)
theorem Qn:FnScope ["tent","counts","triples"] ["tent","counts"] (Zi Vc):=⟨rfl,rfl,rfl,by decide +kernel,rfl,by decide +kernel,by decide +kernel⟩
theorem K2 (T:Txt w K mg t):FnOk P w K mg base (CXr P w) 4 t.bd t.bn ["tent","counts"] (Og t.aa):=by
  refine T.br.F.aR Qn (λcdv A outer s H vs Q E hr h=>?_)
  · obtain ⟨p,c,M,ns,g,rfl,ta,td,h64,hcnt,ok,k⟩:=h
    have hu:=Ug hr
    refine ⟨_,(Zd (Yg (pcT (O3 T) hr T.aW (Za (pv 0) (Za (pv 1) Zb))))
      (Zd (Wl (ts:=["row"]) (fv:=[("counts",1)]) (i:=2) ⟨rfl,by decide +kernel,by decide +kernel,Ya (by rfl),⟨⟨rfl,rfl,Or.inl rfl⟩,trivial⟩⟩ rfl Qn.nd rfl rfl (by rfl) (Yu (Q6 (pv 0) T.ad T.aV.m (Za5 T) (hr.mono (by decide)) T.aV.b .nil Xz)) (λ_ _ _ _=>(Zq (i:=0) (show List.Nodup (["row","counts"]:List Str) from by decide +kernel) rfl (Or.inl rfl) (Or.inr rfl))) (λ_ _ _ _=>Yc) (λ_ _ _=>rfl) (λ_ _ _ _ _ _=>Yd (Yf (ts:=["seam"]) (fv:=[("counts",1)]) ⟨rfl,by decide +kernel,by decide +kernel,Ya (by rfl),⟨⟨rfl,rfl,Or.inl rfl⟩,trivial⟩⟩ rfl (Zc0 K (pv 0)) (λ_ _ _ _=>(Zq (i:=0) (show List.Nodup (["seam","counts"]:List Str) from by decide +kernel) rfl (Or.inl rfl) (Or.inr rfl))) (λ_ _ _ _=>Yc) (λ_ _ _=>rfl) (λ_ _ _ _ _ _=>Yd (V8 hu (pv 1) (pv 0) (λ_ _=>rfl))))))
      (Zd (Z4 (X5 (Zk (G5 rfl) (by rfl) T.eJ PyProof.Rows.boot_any (Za (Yf (ts:=["triple"]) (fv:=[]) ⟨rfl,by decide +kernel,by decide +kernel,Ya (by rfl),trivial⟩ rfl (Yu (pv 2)) (λ_ _ _ _=>(Zq (i:=0) (show List.Nodup (["triple"]:List Str) from by decide +kernel) rfl (Or.inl rfl) (Or.inr rfl))) (λ_ _ _ _=>Yc) (λ_ _ _=>rfl) (λ_ _ _ _ _ _=>Yd (Qu Xq (Zh Zx (Zk (Kk K rfl) (by rfl) T.dY PyProof.Rows.boot_sum (Za (pv 0) Zb)) Zf) Zf (Zu _)))) Zb))) Xd Zv)
      (Zg (Z4 (X5 (Zk (G5 rfl) (by rfl) T.eJ PyProof.Rows.boot_any (Za (Yf (ts:=["triple"]) (fv:=[]) ⟨rfl,by decide +kernel,by decide +kernel,Ya (by rfl),trivial⟩ rfl (Yu (pv 2)) (λ_ _ _ _=>(Zq (i:=0) (show List.Nodup (["triple"]:List Str) from by decide +kernel) rfl (Or.inl rfl) (Or.inr rfl))) (λ_ _ _ _=>Yc) (λ_ _ _=>rfl) (λ_ _ _ _ _ _=>Yd (Qu Jp (Zh Xt Zf (Zk (Zev K rfl) (by rfl) T.eQ PyProof.Rows.boot_max (Za (pv 0) Zb))) (Zk (Kk K rfl) (by rfl) T.dY PyProof.Rows.boot_sum (Za (pv 0) Zb)) (Zu _)))) Zb))) Xd Zv))))),?_⟩
    refine Zn λnxC hnxC=>?_
    refine ⟨_,rfl,_,rfl,p,c,M,ns,g,rfl,ta,td,h64,hcnt,⟨ok.nn,ok.rim⟩,λH1 s1=>?_⟩
    refine hnxC _ _ ?_
    have ta1:=ta.same s1
    have hc1:=hcnt.same s1
    obtain ⟨n,n1,n40,hn⟩:=td.n
    have hMl:=td.len
    refine Zn λnxC hnxC=>?_
    obtain ⟨dx,cl,na,sp,mt,o,f,B⟩:=id ta1
    refine ⟨_,rfl,p,dx,_,rfl,B.ins,Yn _ _ _ _,p,M,ns,rfl,ta1,λlr ts hlr ts1 ts2=>?_⟩
    have s2:Same H1 (upd H1 lr (.lst (ts.map V.ref))):=Same.new hlr
    have h2:(upd H1 lr (.lst (ts.map V.ref))) lr=some (.lst (ts.map V.ref)):=Zc
    have h2t:∀ (k:Nat) (t:Addr),ts[k]?=some t->(upd H1 lr (.lst (ts.map V.ref))) t=some (.tup (row3 ns k)):=λk t e=>s2 _ _ (ts2 k t e)
    generalize upd H1 lr (.lst (ts.map V.ref))=H2 at s2 h2 h2t ⊢
    refine ⟨lr,rfl,⟨_,SqL.of h2⟩,λD hD=>?_⟩
    obtain ⟨ks,hc2,hperm⟩:=hc1.same s2
    clear B ts2 hlr
    have s12:=s1.trans s2
    have htn:ts.length=n:=by lia
    refine Yt (xs:=ts.map V.ref) (λi σ H3=>∃ (v:Option V) (us:List Addr),σ=[v,some (.ref c)]/\Same H2 H3/\H3 D=some (.lst (us.map V.ref))/\us.length=i/\∀ (k:Nat) (u:Addr),us[k]?=some u->H3 u=some (.lst ((g3 ns g k).map V.int))) ⟨none,[],rfl,Same.new hD,Zc,rfl,λk u e=>by simp at e⟩ ?_ ?_ ?_
    · rintro i σ H3 _ ⟨v,us,rfl,sm,_⟩
      exact SqL.of (sm _ _ h2)
    · rintro i y σ H3 hy ⟨v,us,rfl,sm,h3,hu3,hus⟩
      obtain ⟨q,hq,rfl⟩:=map_some hy
      have hi:i < n:=by rw [<- htn]; exact (Aa hq).1
      dsimp only [Zl,tYes]
      rw [if_pos rfl]
      have hq3:=sm _ _ (h2t i q hq)
      refine ⟨_,rfl,q,rfl,⟨_,SqT.of hq3⟩,λD2 hD2=>?_⟩
      refine Zbc (xs:=row3 ns i) (λj σ H4=>∃ (v':Option V),σ=[v',some (.ref c)]/\Same H3 H4/\H4 D2=some (.lst (((g3 ns g i).take j).map V.int))) ⟨none,rfl,Same.new hD2,Zc⟩ ?_ ?_ ?_
      · rintro j σ H4 _ ⟨v',rfl,sm4,h4⟩
        exact SqT.of (sm4 _ _ hq3)
      · rintro j x σ H4 hx ⟨v',rfl,sm4,h4⟩
        dsimp only [Zl,tYes]
        rw [if_pos rfl]
        obtain ⟨z,hz,rfl,hg⟩:=Zmz (g:=g) hx
        have hzk:z∈ks:=hperm.mem_iff.mpr (hz (by lia))
        refine ⟨_,rfl,_,rfl,c,_,rfl,Zdo (sm4 _ _ (sm _ _ hc2)) hzk,?_⟩
        refine ⟨_,h4,?_,_,rfl,Same.add sm4 hD2,?_⟩
        · rw [Ab,Ai]
          exact Z1 (by have:(g3 ns g i).length=3:=rfl; lia)
        · rw [Zc,List.take_add_one,hg]
          simp
      · rintro σ H4 ⟨v',rfl,sm4,h4⟩
        have h4':H4 D2=some (.lst ((g3 ns g i).map V.int)):=h4
        refine ⟨_,sm4 _ _ h3,(by rw [Ab]; exact Z1 (by lia)),_,us ++ [D2],rfl,Same.add (sm.trans sm4) hD,?_,?_,?_⟩
        · rw [Zc]; simp
        · rw [Ae,List.length_singleton,hu3]
        · intro k u z
          by_cases hk:k < us.length
          · rw [List.getElem?_append_left hk] at z
            have gg:=sm4 _ _ (hus k u z)
            rw [Ze (λe=>by rw [e,sm4 _ _ h3] at gg; exact Zgo gg)]
            exact gg
          · have hk2:k=us.length:=by
              have:=(Aa z).1
              rw [Ae,List.length_singleton] at this
              lia
            subst hk2
            have:u=D2:=by simpa using z.symm
            subst this
            rw [hu3,Ze (λe=>by rw [e,sm4 _ _ h3] at h4'; exact Zgo h4')]
            exact h4'
    rintro σ H3 ⟨v,us,rfl,sm,h3,hu3,hus⟩
    refine hnxC _ _ ?_
    try dsimp only [Zl]
    have hcl:∀ k,k < us.length->3 * k + 2 < ns.length:=λk hk=>by rw [hu3,Ab] at hk; lia
    have hul:us.length<=1000:=by rw [hu3,Ab]; lia
    clear h2 h2t hD
    refine Zn λnxC hnxC=>?_
    refine ⟨_,rfl,D,rfl,⟨_,SqL.of h3⟩,λD1 hD1=>?_⟩
    refine Yt (xs:=us.map V.ref) (λi σ H4=>∃ (v:Option V),σ=[v]/\Same H3 H4/\H4 D1=some (.lst ((List.replicate i false).map V.bl))) ⟨none,rfl,Same.new hD1,Zc⟩ ?_ ?_ ?_
    · rintro i σ H4 _ ⟨v,rfl,s4,_⟩
      exact SqL.of (s4 _ _ h3)
    · rintro i y σ H4 hy ⟨v,rfl,s4,h4⟩
      obtain ⟨u,hu0,rfl⟩:=map_some hy
      have hi:i < us.length:=(Aa hu0).1
      dsimp only [Zl,tYes]
      rw [if_pos rfl]
      refine ⟨_,rfl,u,_,rfl,SqL.of (s4 _ _ (hus i u hu0)),_,_,rfl,rfl,(by show (0:Int) < 2; decide),rfl,?_⟩
      have e:(g3 ns g i).sum % 2=0:=by
        have:=ok.even i (hcl i hi)
        simp only [g3,List.sum_cons,List.sum_nil]
        lia
      refine ⟨_,h4,(by rw [Ab,List.length_replicate]; exact Z1 (by lia)),_,rfl,Same.add s4 hD1,?_⟩
      rw [Zc,List.replicate_succ',Aj]
      show some (HO.lst (_ ++ [V.bl (decide (V.int ((g3 ns g i).sum % 2)=V.int 1))]))=_
      rw [e]
      rfl
    rintro σ H4 ⟨v,rfl,s4,h4⟩
    refine ⟨D1,_,rfl,SqL.of h4,_,rfl,?_⟩
    rw [Fc]
    refine iteF ?_
    try dsimp only [Xx]
    refine hnxC _ _ ?_
    have h34:=s4 _ _ h3
    have hus4:∀ (k:Nat) (u:Addr),us[k]?=some u->H4 u=some (.lst ((g3 ns g k).map V.int)):=λk u e=>s4 _ _ (hus k u e)
    have s14:=s12.trans (sm.trans s4)
    clear h3 hus h4 s4 hD1
    refine ⟨_,rfl,D,rfl,⟨_,SqL.of h34⟩,λD1 hD1=>?_⟩
    refine Yt (xs:=us.map V.ref) (λi σ H5=>∃ (v:Option V),σ=[v]/\Same H4 H5/\H5 D1=some (.lst ((List.replicate i false).map V.bl))) ⟨none,rfl,Same.new hD1,Zc⟩ ?_ ?_ ?_
    · rintro i σ H5 _ ⟨v,rfl,s5,_⟩
      exact SqL.of (s5 _ _ h34)
    · rintro i y σ H5 hy ⟨v,rfl,s5,h5⟩
      obtain ⟨u,hu0,rfl⟩:=map_some hy
      have hi:i < us.length:=(Aa hu0).1
      dsimp only [Zl,tYes]
      rw [if_pos rfl]
      have hu5:=s5 _ _ (hus4 i u hu0)
      refine ⟨_,rfl,u,_,rfl,SqL.of hu5,(by show 0 < 3; decide),λm hm hmx=>?_⟩
      refine ⟨_,_,rfl,rfl,(by show CMul 2 m; exact .inl ⟨by decide,by decide⟩),_,rfl,u,_,rfl,SqL.of hu5,_,_,rfl,rfl,?_⟩
      have e:¬ (g3 ns g i).sum < 2 * m:=by
        obtain ⟨t1,t2,t3⟩:=ok.tri i (hcl i hi)
        simp only [g3,List.sum_cons,List.sum_nil]
        simp only [g3,List.mem_cons,List.not_mem_nil,or_false] at hm
        rcases hm with rfl | rfl | rfl <;> lia
      refine ⟨_,h5,(by rw [Ab,List.length_replicate]; exact Z1 (by lia)),_,rfl,Same.add s5 hD1,?_⟩
      rw [Zc,List.replicate_succ',Aj]
      show some (HO.lst (_ ++ [V.bl (decide ((g3 ns g i).sum < 2 * m))]))=_
      rw [decide_eq_false e]
      rfl
    rintro σ H5 ⟨v,rfl,s5,h5⟩
    refine ⟨D1,_,rfl,SqL.of h5,_,rfl,?_⟩
    rw [Fc]
    refine iteF ?_
    exact k _ (s14.trans s5)
noncomputable def Zdx:Sp:=λvs H Q _=>∃ (m c:Addr) (M:List (Option Nat)) (f0:Nat->Int),vs=[.ref m,.ref c]/\H m=some (.lst (M.map mV))/\H c=some (.lst (rowI M.length f0))/\(∃ n,M.length=3 * n)/\M.length<=120/\InvM M/\PreC M f0 /\
 ∀ (l:Addr) (f:Nat->Int) (H':Hp),Same H H'->H l=none->H' l=some (.lst (rowI M.length f))->PC M f->(∀ p,p < M.length->f p<=f0 p)->Q (.ref l) H'
theorem Yr:FnScope ["_law_mates","_law_counts","_law_changed","_law_p","_law_base","_law_rest"] ["_law_mates","_law_counts"] (Zi Uq):=⟨rfl,rfl,rfl,by decide +kernel,rfl,by decide +kernel,by decide +kernel⟩
theorem Za2 (T:Txt w K mg t):FnOk P w K mg base (CXr P w) 1 t.bT t.bZ ["_law_mates","_law_counts"] Zdx:=by
 refine T.b8.F.aR Yr (λcdv A outer s H vs Q E hr h=>?_)
 ·obtain ⟨m,c,M,f0,rfl,hm,hc,h3,hl,inv,pc0,k⟩:=h
  refine ⟨_,(Zd (Zo (i:=1) Yr.nd rfl (Or.inl rfl) (Wx Wb (by rfl) T.aJ PySem.Pv.boot_list (Za (pv 1) Zb)))
   (Zd (Zo (i:=2) Yr.nd rfl (Or.inl rfl) Wf)
   (Zd (Jc PassesOwn.never (X5 (pv 2)) (Zd (Zo (i:=2) Yr.nd rfl (Or.inl rfl) Wf)
   (Zg (Ys PassesOwn.never rfl (Yb rfl T.af (Za (Zk Zj (by rfl) T.ae PySem.boot_len (Za (pv 0) Zb)) Zb)) (Zq (i:=3) Yr.nd rfl (Or.inl rfl)) (Zd (Zo (i:=4) Yr.nd rfl (Or.inl rfl) (Zh Ye (pv 3) (Zh Zx (pv 3) Zf)))
   (Zd (Zo (i:=5) Yr.nd rfl (Or.inl rfl) (Zh Zz (Zs Zp (pv 1) (Zh Zz (pv 4) (Zh Zx (Zh Zz (pv 3) Zf) Zf)) (λ_ _=>rfl)) (Zs Zp (pv 1) (Zh Zz (pv 4) (Zh Zx (Zh Zz (pv 3) Zf) Zf)) (λ_ _=>rfl))))
   (Zg (Z4 (Zt Jp (Zs Zp (pv 1) (pv 3) (λ_ _=>rfl)) (pv 5) (Zu _)) (Zd (X7 (pv 5) (Ju (pv 1) (pv 3) X2))
   (Zd (Z4 (Zt J8 (Zs Zp (pv 0) (pv 3) (λ_ _=>rfl)) Jv (Zu _)) (Zg (X7 (pv 5) (Ju (pv 1) (Zs Zp (pv 0) (pv 3) (λ_ _=>rfl)) X2))) Zv)
   (Zg (Zo (i:=2) Yr.nd rfl (Or.inl rfl) Wf)))) Zv))))))))
   (Zg (Zr (pv 1)))))),?_⟩
  refine Zn λnxC hnxC=>?_
  refine ⟨_,rfl,c,_,rfl,.inl (SqL.of hc),λl hl0=>?_⟩
  refine hnxC _ _ ?_
  have s1:Same H (upd H l (.lst (rowI M.length f0))):=Same.new hl0
  have h1:(upd H l (.lst (rowI M.length f0))) l=some (.lst (rowI M.length f0)):=Zc
  generalize upd H l (.lst (rowI M.length f0))=H1 at s1 h1 ⊢
  try dsimp only [Zl]
  refine Zn λnxC hnxC=>?_
  refine hnxC _ _ ?_
  try dsimp only [Zl]
  obtain ⟨n,hn⟩:=id h3
  show tSeq (J9 _ _) _ _ _ _
  refine Z7 (λσ H'=>∃ (f:Nat->Int) (v2 v3 v4 v5:Option V),σ=[some (.ref m),some (.ref l),v2,v3,v4,v5]/\Same H H'/\H' l=some (.lst (rowI M.length f))/\PC M f/\∀ p,p < M.length->f p<=f0 p) (λnx hnx=>?_) ?_
  ·refine ⟨fun μ σ H2=>∃ (f:Nat->Int) (b:Bool) (v3 v4 v5:Option V),μ=2 * (sF f M.length).toNat + (if b then 1 else 0)/\σ=[some (.ref m),some (.ref l),some (.bl b),v3,v4,v5]/\Same H H2/\H2 l=some (.lst (rowI M.length f))/\PreC M f/\(∀ p,p < M.length->f p<=f0 p)/\(b=false->∀ p,p < M.length->f p<=f (aN p) + f (bN p)),⟨_,f0,true,_,_,_,rfl,rfl,s1,h1,pc0,λp _=>Int.le_refl _,by simp⟩,?_⟩
   rintro μ σ H2 ⟨f,b,v3,v4,v5,rfl,rfl,s2,h2,pc,hle,htri⟩
   refine ⟨_,rfl,b,rfl,?_⟩
   cases b with
   | false=>exact iteF (hnx _ _ ⟨f,_,_,_,_,rfl,s2,h2,pc.all (htri rfl),hle⟩)
   | true =>
    refine iteT ⟨_,λσ' H' h=>h,?_⟩
    refine Zn λnxC hnxC=>?_
    refine hnxC _ _ ?_
    try dsimp only [Zl]
    clear htri
    have hm2:=s2 _ _ hm
    refine ⟨_,rfl,m,_,rfl,.inl (SqL.of hm2),_,rfl,by lia,by rw [Ab]; lia,?_⟩
    have eL:(((M.map mV).length:Nat):Int).toNat=M.length:=by simp
    rw [eL]
    refine Y2 (n:=M.length) (λi σ H3=>∃ (g:Nat->Int) (b:Bool) (v3 v4 v5:Option V),σ=[some (.ref m),some (.ref l),some (.bl b),v3,v4,v5]/\Same H H3/\H3 l=some (.lst (rowI M.length g))/\PreC M g/\(∀ p,p < M.length->g p<=f p)/\(b=true->sF g M.length < sF f M.length)/\(b=false->g=f/\∀ p,p < i->f p<=f (aN p) + f (bN p))) ⟨f,false,_,_,_,rfl,s2,h2,pc,λp _=>Int.le_refl _,by simp,λ_=>⟨rfl,λp hp=>absurd hp (by lia)⟩⟩ ?_ ?_
    ·rintro i σ H3 hi ⟨g,b,v3,v4,v5,rfl,s3,h3',pg,hgf,hbt,hbf⟩
     dsimp only [Zl]
     rw [Int.zero_add]
     obtain ⟨l1,l2⟩:=F3 (show i < 3 * n by lia)
     refine Zn λnxC hnxC=>?_
     refine ⟨_,rfl,_,rfl,_,_,rfl,rfl,(by show (0:Int) < 3; decide),_,_,rfl,rfl,?_⟩
     refine hnxC _ _ ?_
     try dsimp only [Zl]
     refine Zn λnxC hnxC=>?_
     refine ⟨_,rfl,_,rfl,_,rfl,_,_,rfl,rfl,_,_,rfl,rfl,(by show (0:Int) < 3; decide),_,_,rfl,rfl,l,_,_,_,rfl,rfl,SqL.of h3',(by rw [Zey,Zez]; exact Yo (Wd (show aN i < M.length by lia))),?_⟩
     refine ⟨_,rfl,_,rfl,_,rfl,_,_,rfl,rfl,_,_,rfl,rfl,(by show (0:Int) < 3; decide),_,_,rfl,rfl,l,_,_,_,rfl,rfl,SqL.of h3',(by rw [Zcn,Zex]; exact Yo (Wd (show bN i < M.length by lia))),_,_,rfl,rfl,?_⟩
     refine hnxC _ _ ?_
     try dsimp only [Zl]
     refine ⟨_,rfl,_,rfl,l,_,_,_,rfl,rfl,SqL.of h3',Yo (Wd hi),_,rfl,_,_,rfl,rfl,_,rfl,?_⟩
     refine ite2 (λz=>?_) (λz=>?_)
     ·have hlt:g (aN i) + g (bN i) < g i:=of_decide_eq_true z
      obtain ⟨mc,hmc⟩:∃ mc,M[i]?=some mc:=⟨_,Ac hi⟩
      obtain ⟨pg',le',lt'⟩:=pg.lw h3 inv hmc hlt
      have le2:∀ z,z < M.length->lw g i mc (g (aN i) + g (bN i)) z<=g z:=λz hz=>by rcases le' z with e | e; exact e; lia
      have slt:sF (lw g i mc (g (aN i) + g (bN i))) M.length < sF f M.length:=by
       have a1:=Zir le2 hi lt'
       have a2:=Zd6 hgf
       lia
      refine Zn λnxC hnxC=>?_
      refine ⟨_,rfl,_,rfl,_,rfl,l,_,_,i,rfl,rfl,h3',(by rw [Y0]; exact Wy hi),?_⟩
      refine hnxC _ _ ?_
      rw [Q4]
      have s4:Same H (upd H3 l (.lst (rowI M.length λq=>if q=i then g (aN i) + g (bN i) else g q))):=Same.add s3 hl0
      have h4:(upd H3 l (.lst (rowI M.length λq=>if q=i then g (aN i) + g (bN i) else g q))) l=some (.lst (rowI M.length λq=>if q=i then g (aN i) + g (bN i) else g q)):=Zc
      generalize upd H3 l (.lst (rowI M.length λq=>if q=i then g (aN i) + g (bN i) else g q))=H4 at s4 h4 ⊢
      refine Zn λnxC hnxC=>?_
      refine ⟨_,rfl,_,rfl,m,_,_,_,rfl,rfl,SqL.of (s4 _ _ hm),Z9 hmc,rfl,_,rfl,?_⟩
      cases mc with
      | none =>
       refine iteF ?_
       try dsimp only [Xx]
       refine hnxC _ _ ?_
       rw [<- Zj2] at h4
       exact ⟨_,true,_,_,_,rfl,s4,h4,pg',λz hz=>Int.le_trans (le2 z hz) (hgf z hz),λ_=>slt,by simp⟩
      | some y =>
       have hy:y < M.length:=(Aa (inv i y hmc).1).1
       refine iteT ?_
       refine ⟨_,rfl,_,rfl,_,rfl,_,rfl,m,_,_,_,rfl,rfl,SqL.of (s4 _ _ hm),Z9 hmc,l,_,_,y,rfl,rfl,h4,(by rw [Y0]; exact Wy hy),?_⟩
       refine hnxC _ _ ?_
       rw [Q4,<- Jh (f:=g)]
       exact ⟨_,true,_,_,_,rfl,Same.add s4 hl0,Zc,pg',λz hz=>Int.le_trans (le2 z hz) (hgf z hz),λ_=>slt,by simp⟩
     ·have hge:g i<=g (aN i) + g (bN i):=by
       have:¬ g (aN i) + g (bN i) < g i:=λy=>z (decide_eq_true y)
       lia
      refine ⟨g,b,_,_,_,rfl,s3,h3',pg,hgf,hbt,λe=>⟨(hbf e).1,λp hp=>?_⟩⟩
      by_cases c:p=i
      ·subst c
       rw [<- (hbf e).1]
       exact hge
      ·exact (hbf e).2 p (by lia)
    ·rintro σ H3 ⟨g,b,v3,v4,v5,rfl,s3,h3',pg,hgf,hbt,hbf⟩
     refine ⟨_,?_,g,b,_,_,_,rfl,rfl,s3,h3',pg,λp hp=>Int.le_trans (hgf p hp) (hle p hp),λe p hp=>?_⟩
     ·have n1:=Zd5 (n:=M.length) pg.nn
      have n2:=Zd5 (n:=M.length) pc.nn
      cases b with
      | true=>have:=hbt rfl; simp only [if_true]; lia
      | false=>rw [(hbf rfl).1]; simp
     ·rw [(hbf e).1]
      exact (hbf e).2 p hp
  ·rintro σ H2 ⟨f,v2,v3,v4,v5,rfl,s2,h2,pc,hle⟩
   exact ⟨_,rfl,k l f H2 s2 hl0 h2 pc hle⟩
theorem Zb7 {n:Nat} {f g:Nat->Int} (h:∀ p,p < n->f p=g p):rowI n f=rowI n g:=by
 unfold rowI
 exact List.map_congr_left λp hp=>by rw [h p (List.mem_range.mp hp)]
theorem Zkl (c:Int):∃ b:Int,atI [V.int 0,V.int 2,V.int 3,V.int 5] (c % 4)=some (.int b)/\0<=b/\b<=5:=by
 have h0:=Int.emod_nonneg c (show (4:Int)≠0 by decide)
 have h1:=Int.emod_lt_of_pos c (show (0:Int) < 4 by decide)
 have:c % 4=0\/c % 4=1\/c % 4=2\/c % 4=3:=by lia
 rcases this with e | e | e | e <;> rw [e] <;> exact ⟨_,rfl,by decide,by decide⟩
theorem Zjc (c:Int):∃ b:Int,atI [V.int 4,V.int 4,V.int 4,V.int 9] (c % 4)=some (.int b)/\0 < b/\b<=9:=by
 have h0:=Int.emod_nonneg c (show (4:Int)≠0 by decide)
 have h1:=Int.emod_lt_of_pos c (show (0:Int) < 4 by decide)
 have:c % 4=0\/c % 4=1\/c % 4=2\/c % 4=3:=by lia
 rcases this with e | e | e | e <;> rw [e] <;> exact ⟨_,rfl,by decide,by decide⟩
theorem Zki {M:List (Option Nat)} (inv:InvM M) {ws:List Nat} (hw:ws=[]\/Pl M ws) {p y:Nat} (h:M[p]?=some (some y)):crN M ws p=(ws.filter λq=>decide (q=p\/q=y)).length:=by
 rw [<- List.countP_eq_length_filter]
 unfold crN
 apply List.countP_congr
 intro q hq
 rcases hw with rfl | hP
 ·exact absurd hq List.not_mem_nil
 obtain ⟨m,hm⟩:=hP.has q hq
 rw [Vw hm,decide_eq_true_eq,decide_eq_true_eq]
 constructor
 ·rintro (e | e)
  ·exact .inl e
  ·subst e
   have:=(inv q m hm).1
   rw [h] at this; cases this; exact .inr rfl
 ·rintro (e | e)
  ·exact .inl e
  ·subst e
   rw [(inv p q h).1] at hm; cases hm; exact .inr rfl
noncomputable def famI (M:List (Option Nat)) (ws:List Nat) (h:Nat->Int) (i p:Nat):Int:=match (M[p]?).join with
 | some y=>if min p y < i then 2 * h (min p y) + (crN M ws p % 2:Nat) else 0
 | none=>0
theorem Zgr {M:List (Option Nat)} (inv:InvM M) {ws:List Nat} {h:Nat->Int} {i:Nat} (hs:∀ y,M[i]?=some (some y)->¬ i < y) (z:Nat):famI M ws h (i + 1) z=famI M ws h i z:=by
 unfold famI
 cases e:M[z]? with
 | none=>rfl
 | some o=>cases o with
  | none=>rfl
  | some y =>
   show (if min z y < i + 1 then _ else _)=if min z y < i then _ else _
   have hy:=inv z y e
   by_cases c:min z y=i
   ·exfalso
    by_cases d:z<=y
    ·rw [Nat.min_eq_left d] at c
     subst c
     have:=hs y e
     lia
    ·rw [Nat.min_eq_right (by lia)] at c
     subst c
     have:=hs z hy.1
     lia
   ·by_cases d:min z y < i
    ·rw [if_pos (by lia),if_pos d]
    ·rw [if_neg (by lia),if_neg d]
theorem Zie {M:List (Option Nat)} (inv:InvM M) {ws:List Nat} (hw:ws=[]\/Pl M ws) {h:Nat->Int} {i y:Nat} (hm:M[i]?=some (some y)) (hi:i < y) (z:Nat) :
  famI M ws h (i + 1) z=if z=y then 2 * h i + (crN M ws i % 2:Nat) else if z=i then 2 * h i + (crN M ws i % 2:Nat) else famI M ws h i z:=by
 have has:∀ p∈ws,∃ m,M[p]?=some (some m):=by
  rcases hw with rfl | hP
  ·exact λp hp=>absurd hp List.not_mem_nil
  ·exact hP.has
 have hy:=(inv i y hm).1
 by_cases c:z=y
 ·subst c
  rw [if_pos rfl]
  unfold famI
  rw [hy]
  show (if min z i < i + 1 then 2 * h (min z i) + (crN M ws z % 2:Nat) else 0)=_
  rw [Nat.min_eq_right (by lia),if_pos (by lia),Zbp inv has hm]
 ·rw [if_neg c]
  by_cases d:z=i
  ·subst d
   rw [if_pos rfl]
   unfold famI
   rw [hm]
   show (if min z y < z + 1 then 2 * h (min z y) + (crN M ws z % 2:Nat) else 0)=_
   rw [Nat.min_eq_left (by lia),if_pos (by lia)]
  ·rw [if_neg d]
   unfold famI
   cases e:M[z]? with
   | none=>rfl
   | some o=>cases o with
    | none=>rfl
    | some u =>
     show (if min z u < i + 1 then _ else _)=if min z u < i then _ else _
     have hu:=(inv z u e).1
     have n1:min z u≠i:=λf=>by
      by_cases k:z<=u
      ·rw [Nat.min_eq_left k] at f; exact d f
      ·rw [Nat.min_eq_right (by lia)] at f
       subst f
       rw [hm] at hu; cases hu; exact c rfl
     by_cases k:min z u < i
     ·rw [if_pos (by lia),if_pos k]
     ·rw [if_neg (by lia),if_neg k]
theorem Zif {M:List (Option Nat)} {ws:List Nat} {h:Nat->Int} {p:Nat} (hp:p < M.length):famI M ws h M.length p=fam M ws h p:=by
 unfold famI fam
 cases (M[p]?).join with
 | none=>rfl
 | some y=>exact if_pos (by lia)
theorem Zlx {M:List (Option Nat)} {ws:List Nat} {h:Nat->Int} (hh:∀ p,h p<=13) (p:Nat):fam M ws h p<=27:=by
 unfold fam
 cases (M[p]?).join with
 | none=>show (0:Int)<=27; decide
 | some y=>dsimp only; have:=hh (min p y); lia
noncomputable def Zfb:Sp:=λvs H Q _=>∃ (a m wd:Addr) (M:List (Option Nat)) (xs:List Int) (ws:List Nat),vs=[.ref a,.ref m,.ref wd]/\H a=some (.lst (xs.map V.int))/\60<=xs.length/\(∀ x∈xs,0<=x/\x < 1009)/\H m=some (.lst (M.map mV))/\(∃ n,M.length=3 * n)/\M.length<=42/\InvM M/\H wd=some (.lst (ws.map nV))/\ws.length<=60/\(ws=[]\/Pl M ws) /\
 ∀ (l:Addr) (f:Nat->Int) (H':Hp),Same H H'->H l=none->H' l=some (.lst (rowI M.length f))->PC M f->(∀ p,p < M.length->f p<=27)->Q (.ref l) H'
theorem Xu:FnScope ["_law_nums","_law_mates","_law_word","_law_base","_law_span","_law_counts","_law_p","_law_odd"] ["_law_nums","_law_mates","_law_word"] (Zi Ot):=⟨rfl,rfl,rfl,by decide +kernel,rfl,by decide +kernel,by decide +kernel⟩
theorem Zcc (T:Txt w K mg t):FnOk P w K mg base (CXr P w) 2 t.cn t.cy ["_law_nums","_law_mates","_law_word"] Zfb:=by
  refine T.cH.F.aR Xu (λcdv A outer s H vs Q E hr h=>?_)
  · obtain ⟨a,m,wd,M,xs,ws,rfl,ha,hxs,hx,hm,h3,hl,inv,hwd,hwl,hw,k⟩:=h
    refine ⟨_,(Zd (Zo (i:=3) Xu.nd rfl (Or.inl rfl) (Zs V0 (Xj (Za Zf (Za Zf (Za Zf (Za Zf Zb))))) (Zh Zx (Zs Zp (pv 0) Zf (λ_ _=>rfl)) Zf) (λ_ _=>rfl)))
      (Zd (Zo (i:=4) Xu.nd rfl (Or.inl rfl) (Zs V0 (Xj (Za Zf (Za Zf (Za Zf (Za Zf Zb))))) (Zh Zx (Zh Yv (Zs Zp (pv 0) Zf (λ_ _=>rfl)) Zf) Zf) (λ_ _=>rfl)))
      (Zd (Zo (i:=5) Xu.nd rfl (Or.inl rfl) (Zh Za0 (Y5 (Za Zf Zb)) (Zk Zj (by rfl) T.ae PySem.boot_len (Za (pv 1) Zb))))
      (Zd (Ys PassesOwn.never rfl (Yb rfl T.af (Za (Zk Zj (by rfl) T.ae PySem.boot_len (Za (pv 1) Zb)) Zb)) (Zq (i:=6) Xu.nd rfl (Or.inr rfl)) (Zg (Z4 (PW.pt (Oz (Zt J8 (Zs Zp (pv 1) (pv 6) (λ_ _=>rfl)) Jv (Zu _)) (V7 (Zt Jo (pv 6) (Zs Zp (pv 1) (pv 6) (λ_ _=>rfl)) (Zu _))))) (Zd (Zo (i:=7) Xu.nd rfl (Or.inl rfl) (Zh Zx (Zk Zj (by rfl) T.ae PySem.boot_len (Za (Yf (ts:=["_law_q"]) (fv:=[("_law_p",6),("_law_mates",1)]) ⟨rfl,by decide +kernel,by decide +kernel,Ya (by rfl),⟨⟨rfl,rfl,Or.inl rfl⟩,⟨rfl,rfl,Or.inl rfl⟩,trivial⟩⟩ rfl (Yu (pv 2)) (λ_ _ _ _=>(Zq (i:=0) (show List.Nodup (["_law_q","_law_p","_law_mates"]:List Str) from by decide +kernel) rfl (Or.inl rfl) (Or.inr rfl))) (λ_ _ _ _=>(Ky (PW.pt (Q5 (Zt Xq (pv 0) (pv 1) (Zu _)) (Qc (Zt Xq (pv 0) (Zs (Wa K) (pv 2) (pv 1) (λ_ _=>rfl)) (Zu _))))))) (λ_ _ _=>rfl) (λ_ _ _ _ _ _=>Yd (pv 0))) Zb)) Zf))
      (Zd (X7 (Zh Zz (Zh Xt Zf (Zh Zz (pv 3) (Zh Zx (Zs Zp (pv 0) (Zh Zz (pv 6) Zf) (λ_ _=>rfl)) (pv 4)))) (pv 7)) (Ju (pv 5) (pv 6) X2))
      (Zg (X7 (Zs Zp (pv 5) (pv 6) (λ_ _=>rfl)) (Ju (pv 5) (Zs Zp (pv 1) (pv 6) (λ_ _=>rfl)) X2))))) Zv)))
      (Zg (Zr (pcT (Za2 T) hr T.b8 (Za (pv 1) (Za (pv 5) Zb))))))))),?_⟩
    obtain ⟨x0,ex0⟩:∃ x0,xs[0]?=some x0:=⟨_,Ac (by lia)⟩
    obtain ⟨bs,ebs,b0,b5⟩:=Zkl x0
    obtain ⟨sp,esp,sp0,sp9⟩:=Zjc (x0 / 4)
    refine Zn λnxC hnxC=>?_
    refine ⟨(by show 4<=sizeLine; decide),λtq htq=>?_⟩
    have s1:Same H (upd H tq (.tup [V.int 0,V.int 2,V.int 3,V.int 5])):=Same.new htq
    refine ⟨_,rfl,a,_,_,_,rfl,rfl,SqL.of (s1 _ _ ha),(show atI (xs.map V.int) 0=some (V.int x0) from Z9 (i:=0) ex0),_,_,rfl,rfl,(by show (0:Int) < 4; decide),tq,_,_,_,rfl,rfl,SqT.of Zc,ebs,?_⟩
    refine hnxC _ _ ?_
    generalize upd H tq (.tup [V.int 0,V.int 2,V.int 3,V.int 5])=H1 at s1 ⊢
    try dsimp only [Zl]
    refine Zn λnxC hnxC=>?_
    refine ⟨(by show 4<=sizeLine; decide),λtr htr=>?_⟩
    have s2:Same H1 (upd H1 tr (.tup [V.int 4,V.int 4,V.int 4,V.int 9])):=Same.new htr
    refine ⟨_,rfl,a,_,_,_,rfl,rfl,SqL.of (s2 _ _ (s1 _ _ ha)),(show atI (xs.map V.int) 0=some (V.int x0) from Z9 (i:=0) ex0),_,_,rfl,rfl,⟨by decide,by decide⟩,_,_,rfl,rfl,(by show (0:Int) < 4; decide),tr,_,_,_,rfl,rfl,SqT.of Zc,esp,?_⟩
    refine hnxC _ _ ?_
    generalize upd H1 tr (.tup [V.int 4,V.int 4,V.int 4,V.int 9])=H2 at s2 ⊢
    try dsimp only [Zl]
    have s02:=s1.trans s2
    clear s1 s2 htq htr ebs esp
    have eT:(((M.map mV).length:Nat):Int).toNat=M.length:=by simp
    refine Zn λnxC hnxC=>?_
    refine ⟨(by show 1<=sizeLine; decide),λq hq=>?_⟩
    have s3:Same H2 (upd H2 q (.lst [.int 0])):=Same.new hq
    refine ⟨_,rfl,m,_,rfl,.inl (SqL.of (s3 _ _ (s02 _ _ hm))),q,_,_,rfl,rfl,Zc,by lia,by rw [Ab]; lia,(by rw [eT,sizeLine_eq]; show 1 * M.length<=_; lia),λN hN=>?_⟩
    have eN:(List.replicate (((M.map mV).length:Nat):Int).toNat [V.int 0]).flatten=rowI M.length (famI M ws (λp=>bs + xs.getD (p + 1) 0 % sp) 0):=by
      rw [eT,List.flatten_replicate_singleton]
      apply List.ext_getElem?
      intro j
      by_cases hj:j < M.length
      · rw [Wd hj,List.getElem?_replicate,if_pos hj]
        congr 2
        unfold famI
        cases (M[j]?).join with
        | none=>rfl
        | some y=>exact (if_neg (by lia)).symm
      · rw [List.getElem?_eq_none (by rw [List.length_replicate]; lia),List.getElem?_eq_none (by rw [Y0]; lia)]
    rw [eN]
    have s4:=(s02.trans s3).trans (Same.new (o:=.lst (rowI M.length (famI M ws (λp=>bs + xs.getD (p + 1) 0 % sp) 0))) hN)
    have hN0:H N=none:=(s02.trans s3).free hN
    have hN4:(upd (upd H2 q (.lst [.int 0])) N (.lst (rowI M.length (famI M ws (λp=>bs + xs.getD (p + 1) 0 % sp) 0)))) N=some (.lst (rowI M.length (famI M ws (λp=>bs + xs.getD (p + 1) 0 % sp) 0))):=Zc
    generalize upd (upd H2 q (.lst [.int 0])) N (.lst (rowI M.length (famI M ws (λp=>bs + xs.getD (p + 1) 0 % sp) 0)))=H4 at s4 hN4 ⊢
    refine hnxC _ _ ?_
    try dsimp only [Zl]
    clear s02 s3 eN hq hN
    show tSeq (tFor _ _ _) _ _ _ _
    refine Z7 (λσ H5=>∃ (v6 v7:Option V),σ=[some (.ref a),some (.ref m),some (.ref wd),some (.int bs),some (.int sp),some (.ref N),v6,v7]/\Same H H5/\H5 N=some (.lst (rowI M.length (fam M ws (λp=>bs + xs.getD (p + 1) 0 % sp))))) (λnx hnx=>?_) ?_
    · refine ⟨_,rfl,m,_,rfl,.inl (SqL.of (s4 _ _ hm)),_,rfl,by lia,by rw [Ab]; lia,?_⟩
      rw [eT]
      refine Y2 (n:=M.length) (λi σ H5=>∃ (v6 v7:Option V),σ=[some (.ref a),some (.ref m),some (.ref wd),some (.int bs),some (.int sp),some (.ref N),v6,v7]/\Same H H5/\H5 N=some (.lst (rowI M.length (famI M ws (λp=>bs + xs.getD (p + 1) 0 % sp) i)))) ⟨none,none,rfl,s4,hN4⟩ ?_ ?_
      · rintro i σ H5 hi ⟨v6,v7,rfl,s5,h5⟩
        dsimp only [Zl]
        rw [Int.zero_add]
        obtain ⟨mc,hmc⟩:∃ mc,M[i]?=some mc:=⟨_,Ac hi⟩
        refine ⟨_,rfl,_,rfl,m,_,_,_,rfl,rfl,SqL.of (s5 _ _ hm),Z9 hmc,rfl,_,rfl,?_⟩
        have skip:(∀ y,M[i]?=some (some y)->¬ i < y)->H5 N=some (.lst (rowI M.length (famI M ws (λp=>bs + xs.getD (p + 1) 0 % sp) (i + 1)))):=λhs=>by
          rw [h5,Ox λz=>(Zgr inv hs z).symm]
        cases mc with
        | none=>exact iteF (iteF ⟨_,_,rfl,s5,skip λy e=>by rw [hmc] at e; cases e⟩)
        | some y =>
          have hy:y < M.length:=(Aa (inv i y hmc).1).1
          refine iteT ?_
          refine ⟨_,rfl,_,rfl,_,rfl,m,_,_,_,rfl,rfl,SqL.of (s5 _ _ hm),Z9 hmc,_,_,rfl,rfl,_,rfl,?_⟩
          refine ite2 (λz=>?_) (λz=>⟨_,_,rfl,s5,skip λy' e=>by rw [hmc] at e; cases e; exact λq=>z (decide_eq_true (show ((i:Nat):Int) < y by lia))⟩)
          have hiy:i < y:=by have:((i:Nat):Int) < y:=of_decide_eq_true z; lia
          clear z skip
          refine Zn λnxC hnxC=>?_
          refine ⟨_,rfl,wd,rfl,⟨_,SqL.of (s5 _ _ hwd)⟩,λD hD=>?_⟩
          refine Yt (xs:=ws.map nV) (λj σ H6=>∃ (v:Option V),σ=[v,some (.int i),some (.ref m)]/\Same H5 H6/\H6 D=some (.lst (((ws.take j).filter λq=>decide (q=i\/q=y)).map nV))) ⟨none,rfl,Same.new hD,Zc⟩ ?_ ?_ ?_
          · rintro j σ H6 _ ⟨v,rfl,s6,_⟩
            exact SqL.of (s6 _ _ (s5 _ _ hwd))
          · rintro j x σ H6 hx' ⟨v,rfl,s6,h6⟩
            obtain ⟨q,hq,rfl⟩:=map_some hx'
            have hj:j < ws.length:=(Aa hq).1
            dsimp only [Zl]
            have yes:(q=i\/q=y)->∃ xs',H6 D=some (.lst xs')/\xs'.length < sizeLine/\∃ (v:Option V),[some (nV q),some (V.int i),some (V.ref m)]=[v,some (.int i),some (.ref m)]/\Same H5 (upd H6 D (.lst (xs' ++ [nV q])))/\(upd H6 D (.lst (xs' ++ [nV q]))) D=some (.lst (((ws.take (j + 1)).filter λq=>decide (q=i\/q=y)).map nV)):=λe=>by
              refine ⟨_,h6,?_,_,rfl,Same.add s6 hD,?_⟩
              · rw [Ab]
                have:=List.length_filter_le (λq=>decide (q=i\/q=y)) (ws.take j)
                rw [Ai] at this
                exact Z1 (by lia)
              · rw [Zc,List.take_add_one,hq,List.filter_append,Aj]
                simp [e]
            have no:¬ (q=i\/q=y)->∃ (v:Option V),[some (nV q),some (V.int i),some (V.ref m)]=[v,some (.int i),some (.ref m)]/\Same H5 H6/\H6 D=some (.lst (((ws.take (j + 1)).filter λq=>decide (q=i\/q=y)).map nV)):=λe=>by
              refine ⟨_,rfl,s6,?_⟩
              rw [h6,List.take_add_one,hq,List.filter_append]
              simp [e]
            have ev:∀ u:Nat,(nV q=V.int (u:Int)) ↔ q=u:=λu=>by
              constructor
              · intro e; have:((q:Nat):Int)=u:=by injection e
                lia
              · intro e; subst e; rfl
            refine ⟨_,rfl,_,rfl,rfl,_,rfl,?_⟩
            refine ite2 (λz=>iteT ⟨_,rfl,yes (.inl ((ev i).mp (of_decide_eq_true z)))⟩) (λz1=>?_)
            refine ⟨_,rfl,_,rfl,_,rfl,m,_,_,_,rfl,rfl,SqL.of (s6 _ _ (s5 _ _ hm)),Z9 hmc,rfl,_,rfl,?_⟩
            refine ite2 (λz=>⟨_,rfl,yes (.inr ((ev y).mp (of_decide_eq_true z)))⟩) (λz2=>no ?_)
            rintro (e | e)
            · exact z1 (decide_eq_true ((ev i).mpr e))
            · exact z2 (decide_eq_true ((ev y).mpr e))
          rintro σ H6 ⟨v,rfl,s6,h6⟩
          rw [Ab,List.take_length] at h6
          refine ⟨D,_,rfl,.inl (SqL.of h6),_,_,rfl,rfl,(by show (0:Int) < 2; decide),?_⟩
          refine hnxC _ _ ?_
          try dsimp only [Zl]
          have s06:=s5.trans s6
          have h56:=s6 _ _ h5
          rw [Ab,<- Zki inv hw hmc]
          obtain ⟨xi,exi⟩:∃ xi,xs[i + 1]?=some xi:=⟨_,Ac (by lia)⟩
          have exd:xs.getD (i + 1) 0=xi:=by rw [Ad,exi]; rfl
          refine Zn λnxC hnxC=>?_
          refine ⟨_,rfl,_,rfl,_,rfl,_,_,rfl,rfl,a,_,_,_,rfl,rfl,SqL.of (s06 _ _ ha),(show atI (xs.map V.int) ((i:Int) + 1)=some (V.int xi) from Z9 (i:=i + 1) exi),_,rfl,_,_,rfl,rfl,sp0,_,_,rfl,rfl,_,_,rfl,rfl,.inl ⟨by decide,by decide⟩,_,rfl,_,_,rfl,rfl,?_⟩
          refine ⟨_,rfl,_,rfl,N,_,_,i,rfl,rfl,h56,(by rw [Y0]; exact Wy hi),?_⟩
          refine hnxC _ _ ?_
          have ev2:(crN M ws i:Int) % 2=((crN M ws i % 2:Nat):Int):=by lia
          have eH:(rowI M.length (famI M ws (λp=>bs + xs.getD (p + 1) 0 % sp) i)).set i (V.int (2 * (bs + xi % sp) + (crN M ws i:Int) % 2))=rowI M.length λz=>if z=i then 2 * (bs + xi % sp) + (crN M ws i % 2:Nat) else famI M ws (λp=>bs + xs.getD (p + 1) 0 % sp) i z:=by rw [ev2,Q4]
          show tAsg _ _ _ _ (upd H6 N (.lst ((rowI M.length (famI M ws (λp=>bs + xs.getD (p + 1) 0 % sp) i)).set i (V.int (2 * (bs + xi % sp) + (crN M ws i:Int) % 2)))))
          rw [eH]
          have s7:Same H (upd H6 N (.lst (rowI M.length λz=>if z=i then 2 * (bs + xi % sp) + (crN M ws i % 2:Nat) else famI M ws (λp=>bs + xs.getD (p + 1) 0 % sp) i z))):=Same.add s06 hN0
          have h7:(upd H6 N (.lst (rowI M.length λz=>if z=i then 2 * (bs + xi % sp) + (crN M ws i % 2:Nat) else famI M ws (λp=>bs + xs.getD (p + 1) 0 % sp) i z))) N=some (.lst (rowI M.length λz=>if z=i then 2 * (bs + xi % sp) + (crN M ws i % 2:Nat) else famI M ws (λp=>bs + xs.getD (p + 1) 0 % sp) i z)):=Zc
          generalize upd H6 N (.lst (rowI M.length λz=>if z=i then 2 * (bs + xi % sp) + (crN M ws i % 2:Nat) else famI M ws (λp=>bs + xs.getD (p + 1) 0 % sp) i z))=H7 at s7 h7 ⊢
          refine ⟨_,rfl,_,rfl,N,_,_,_,rfl,rfl,SqL.of h7,Yo (Wd hi),?_⟩
          refine ⟨_,rfl,_,rfl,_,rfl,m,_,_,_,rfl,rfl,SqL.of (s7 _ _ hm),Z9 hmc,N,_,_,y,rfl,rfl,h7,(by rw [Y0]; exact Wy hy),?_⟩
          refine ⟨_,_,rfl,Same.add s7 hN0,?_⟩
          rw [Zc,Q4,if_pos rfl]
          congr 2
          refine Ox λz=>?_
          rw [Zie inv hw hmc hiy z,exd]
      · rintro σ H5 ⟨v6,v7,rfl,s5,h5⟩
        exact hnx _ _ ⟨_,_,rfl,s5,by rw [h5,Zb7 λp hp=>Zif hp]⟩
    · rintro σ H5 ⟨v6,v7,rfl,s5,h5⟩
      refine ⟨_,rfl,_,rfl,m,N,M,_,rfl,s5 _ _ hm,h5,h3,by lia,inv,Zkc inv hw (λp=>?_),λl f H6 s6 hl6 h6 pc le=>k l f H6 (s5.trans s6) (s5.free hl6) h6 pc λp hp=>Int.le_trans (le p hp) (Zlx (λp=>?_) p)⟩
      · have:=Int.emod_nonneg (xs.getD (p + 1) 0) (show sp≠0 by lia)
        show 0<=bs + xs.getD (p + 1) 0 % sp
        lia
      · have:=Int.emod_lt_of_pos (xs.getD (p + 1) 0) sp0
        show bs + xs.getD (p + 1) 0 % sp<=13
        lia
theorem Jk {ns:List Int} {i:Nat} (h:i < ns.length):ns[i]?=some (ns.getD i 0):=by rw [Ad,Ac h]; rfl
theorem Zmp {M:List (Option Nat)} {ns:List Int} {f:Nat->Int} {g:Int->Int} (pc:PC M f) (nm:Nm ns f g) (td:TD M ns):OkC M ns g:=by
 have hl:=td.len
 refine ⟨λx hx=>?_,λi x h1 h2=>?_,λk hk=>?_,λk hk=>?_⟩
 ·obtain ⟨i,hi,e⟩:=Y6.mp hx
  rw [nm i x e]
  exact pc.nn i (by lia)
 ·rw [nm i x h2]
  exact pc.rim i h1
 ·rw [nm _ _ (Jk (show 3 * k < ns.length by lia)),nm _ _ (Jk (show 3 * k + 1 < ns.length by lia)),nm _ _ (Jk hk)]
  have:=pc.even (3 * k) (by lia)
  rw [show aN (3 * k)=3 * k + 1 by rw [W6,if_neg (by lia)],show bN (3 * k)=3 * k + 2 by rw [W5,if_pos (by lia)]] at this
  exact this
 ·rw [nm _ _ (Jk (show 3 * k < ns.length by lia)),nm _ _ (Jk (show 3 * k + 1 < ns.length by lia)),nm _ _ (Jk hk)]
  have t1:=pc.tri (3 * k) (by lia)
  have t2:=pc.tri (3 * k + 1) (by lia)
  have t3:=pc.tri (3 * k + 2) (by lia)
  rw [show aN (3 * k)=3 * k + 1 by rw [W6,if_neg (by lia)],show bN (3 * k)=3 * k + 2 by rw [W5,if_pos (by lia)]] at t1
  rw [show aN (3 * k + 1)=3 * k + 2 by rw [W6,if_neg (by lia)],show bN (3 * k + 1)=3 * k by rw [W5,if_neg (by lia)]; lia] at t2
  rw [show aN (3 * k + 2)=3 * k by rw [W6,if_pos (by lia)]; lia,show bN (3 * k + 2)=3 * k + 1 by rw [W5,if_neg (by lia)]; lia] at t3
  exact ⟨by lia,by lia,by lia⟩
noncomputable def ptD (c:Nat):PyData:=.tuple ((kP c).map PyData.int)
theorem Zfs (c:Nat):PySem.SeqAt.shaped (ptD c)=true:=by unfold ptD kP; simp [PySem.SeqAt.shaped,PyData.canLay0,PyData.canLayAll0,PyData.depth,PyData.depthAll]
theorem Zjt (c d:Nat):PySem.SeqAt.noMix (ptD c) (ptD d)=true:=by unfold ptD kP; simp [PySem.SeqAt.noMix,PySem.SeqAt.noMixAll]
theorem Zhn (c d:Nat):Spec.same (ptD c) (ptD d)=decide (c=d):=by
 unfold ptD kP
 simp only [List.map_cons,List.map_nil,Spec.same,Spec.sameAll,Bool.and_true]
 by_cases z:c=d
 ·subst z; simp
 ·rw [decide_eq_false z]
  have:¬ (c / 1000=d / 1000/\c % 1000=d % 1000):=by lia
  simp
  lia
noncomputable def Xg (H:Hp) (bs:List Addr) (os:List Nat):Prop:=bs.length=os.length/\∀ (i:Nat) (b:Addr) (c:Nat),bs[i]?=some b->os[i]?=some c->H b=some (.tup ((kP c).map V.int))
theorem Xg.same {H H':Hp} {bs:List Addr} {os:List Nat} (h:Xg H bs os) (s:Same H H'):Xg H' bs os:=⟨h.1,λi b c hb hc=>s _ _ (h.2 i b c hb hc)⟩
theorem Xg.snoc {H:Hp} {bs:List Addr} {os:List Nat} {b:Addr} {c:Nat} (h:Xg H bs os) (hb:H b=some (.tup ((kP c).map V.int))):Xg H (bs ++ [b]) (os ++ [c]):=by
 obtain ⟨h1,h2⟩:=h
 refine ⟨by simp [h1],λi b' c' e1 e2=>?_⟩
 by_cases z:i < bs.length
 ·rw [List.getElem?_append_left z] at e1
  rw [List.getElem?_append_left (by lia)] at e2
  exact h2 i b' c' e1 e2
 ·rw [List.getElem?_append_right (by lia)] at e1
  rw [List.getElem?_append_right (by lia),<- h1] at e2
  obtain ⟨k,hk⟩:∃ k,i - bs.length=k:=⟨_,rfl⟩
  rw [hk] at e1 e2
  cases k with
  | zero=>cases e1; cases e2; exact hb
  | succ k=>simp at e1
noncomputable def Kq (C:Addr):Sp:=λvs H Q _=>∃ (p c:Addr) (M:List (Option Nat)) (ns:List Int) (f:Nat->Int) (g:Int->Int),vs=[.ref p,.ref c]/\Z5 C H p M ns/\TD M ns/\ns.length < 64/\Q9 H c ns g/\Nm ns f g/\PC M f/\sF f ns.length<=1200/\∀ H',Same H H'->Q .non H'
noncomputable def Ff (C:Addr):Sp:=λvs H Q _=>∃ (p:Addr) (M:List (Option Nat)) (ns:List Int),vs=[.ref p]/\Z5 C H p M ns/\ns.length<=1000/\∀ l,H l=none->Q (.ref l) (upd H l (.lst ((List.range ns.length).map nV)))
noncomputable def Kr (C:Addr):Sp:=λvs H Q _=>∃ (p nb b:Addr) (M:List (Option Nat)) (ns:List Int) (f:Nat->Int) (n c:Nat),vs=[.ref p,.ref nb,.ref b]/\Z5 C H p M ns/\M.length=ns.length/\Fam M f n/\H nb=some (.lst (rowI M.length f))/\VpP M f c/\H b=some (.tup ((kP c).map V.int)) /\
 ∀ (q:Addr) (H':Hp),Same H H'->H q=none->H' q=some (.tup ((kP (sgP M f c)).map V.int))->Q (.ref q) H'
noncomputable def Oh:Sp:=λvs H Q _=>∃ (nb b:Addr) (M:List (Option Nat)) (f:Nat->Int) (n c:Nat),vs=[.ref nb,.ref b]/\Fam M f n/\H nb=some (.lst (rowI M.length f))/\VpP M f c/\H b=some (.tup ((kP c).map V.int)) /\
 ∀ (q:Addr) (H':Hp),Same H H'->H q=none->H' q=some (.tup ((kP (tuP f c)).map V.int))->Q (.ref q) H'
noncomputable def Fe (C:Addr):Sp:=λvs H Q _=>∃ (p nb b:Addr) (M:List (Option Nat)) (ns:List Int) (f:Nat->Int) (n c:Nat),vs=[.ref p,.ref nb,.ref b]/\Z5 C H p M ns/\M.length=ns.length/\Fam M f n/\sF f M.length<=1200/\H nb=some (.lst (rowI M.length f))/\VpP M f c/\H b=some (.tup ((kP c).map V.int)) /\
 ∀ (l:Addr) (bs:List Addr) (os:List Nat) (H':Hp),Same H H'->H l=none->H' l=some (.lst (bs.map V.ref))->Xg H' bs os->OrbEnd (RnP M f) c os->Q (.ref l) H'
theorem X4 {n p:Nat} {f:Nat->Int} (h:p < n):atI (rowI n f) (p:Int)=some (V.int (f p)):=Yo (Wd h)
theorem Ku:FnScope ["tent","counts"] ["tent","counts"] (Zi Vb):=⟨rfl,rfl,rfl,by decide +kernel,rfl,by decide +kernel,by decide +kernel⟩
theorem K1 (T:Txt w K mg t):FnOk P w K mg base (CXr P w) 5 t.be t.bo ["tent","counts"] (Kq t.aa):=by
 refine T.bu.F.aR Ku (λcdv A outer s H vs Q E hr h=>?_)
 ·obtain ⟨p,c,M,ns,f,g,rfl,ta,td,h64,hcnt,nm,pc,hsum,k⟩:=h
  refine ⟨_,(Zd (Yg (pcT (K2 T) hr T.br (Za (pv 0) (Za (pv 1) Zb))))
   (Zg (Z4 (Zt Jp (Zd8 rfl (pv 1) ⟨rfl,rfl,rfl⟩ (by rfl) T.dY) (Zc2 (v:=.int 600) rfl T.bO ⟨_,rfl⟩) (Zu _)) Xd Zv))),?_⟩
  refine Zn λnxC hnxC=>?_
  refine ⟨_,rfl,_,rfl,p,c,M,ns,g,rfl,ta,td,h64,hcnt,Zmp pc nm td,λH1 s1=>?_⟩
  refine hnxC _ _ ?_
  obtain ⟨ks,hc1,hperm⟩:=hcnt.same s1
  refine ⟨_,rfl,c,_,ks.map g,rfl,.inl hc1,(by unfold dI; rw [List.map_map,List.map_map]; rfl),_,_,rfl,rfl,_,rfl,?_⟩
  have e:¬ (600:Int) < (ks.map g).sum:=by
   have h1:=Fv (hperm.map g)
   have h2:=Zgf td nm pc
   lia
  show if decide ((600:Int) < (ks.map g).sum)=true then _ else _
  rw [decide_eq_false e]
  exact iteF (k _ s1)
theorem Vn:FnScope ["self"] ["self"] (Zi J0):=⟨rfl,rfl,rfl,by decide +kernel,rfl,by decide +kernel,by decide +kernel⟩
theorem Jy (T:Txt w K mg t):FnOk P w K mg base (CXr P w) 1 t.aw t.ay ["self"] (Ff t.aa):=by
 refine T.ah.F.aR Vn (λcdv A outer s H vs Q E hr h=>?_)
 ·obtain ⟨p,M,ns,rfl,⟨dx,cl,na,sp,mt,o,f,b⟩,hl,k⟩:=h
  refine ⟨_,(Zg (Zr (Vv rfl T.aJ rfl T.af rfl (Za (Zk Zj (by rfl) T.ae PySem.boot_len (Za (Xs (pv 0) rfl) Zb)) Zb)))),?_⟩
  exact ⟨_,rfl,p,_,dx,_,_,rfl,b.ins,T.ad,T.ag,Oc ..,na,_,rfl,.inl (SqL.of b.names),ns.length,by rw [Ab],hl,λl hl'=>k l hl'⟩
theorem W9:FnScope ["tent","numbers","at","place","spot"] ["tent","numbers","at"] (Zi Vd):=⟨rfl,rfl,rfl,by decide +kernel,rfl,by decide +kernel,by decide +kernel⟩
theorem Jg (T:Txt w K mg t):FnOk P w K mg base (CXr P w) 4 t.bg t.bp ["tent","numbers","at"] (Kr t.aa):=by
 refine T.ao.F.aR W9 (λcdv A outer s H vs Q E hr h=>?_)
 ·obtain ⟨p,nb,b,M,ns,f,n,c,rfl,ta,hMl,fm,hnb,vc,hb,k⟩:=h
  obtain ⟨dx,cl,na,sp,mt,o,f',bb⟩:=id ta
  refine ⟨_,(Zd (X7 (pv 2) (Qt rfl (Yj (Zq (i:=3) W9.nd rfl (Or.inl rfl)) (Yj (Zq (i:=4) W9.nd rfl (Or.inl rfl)) Je))))
   (Zg (Zr (Xj (Za (Ww (pv 0) T.ad T.aj.m (W3 T) (hr.mono (by decide)) T.aj.b .nil Xz (Za (pv 3) Zb)) (Za (Zh Ye (Zh Ye (Zs Zp (pv 1) (pv 3) (λ_ _=>rfl)) Zf) (pv 4)) Zb)))))),?_⟩
  refine ⟨_,rfl,b,_,rfl,SqT.of hb,rfl,_,_,rfl,_,_,rfl,rfl,?_⟩
  dsimp only [Zl]
  obtain ⟨q,e1,_⟩:=fm.sg vc
  have hp:c / 1000 < M.length:=vc.1
  refine ⟨_,rfl,p,dx,_,rfl,bb.ins,Yn _ _ _ _,_,rfl,p,M,ns,_,rfl,ta,hMl,λi y e2 e3=>?_,λz=>absurd (show (0:Int)<=((c / 1000:Nat):Int)/\((c / 1000:Nat):Int) < (ns.length:Int) by lia) z⟩
  have:i=c / 1000:=by lia
  subst this
  rw [e1] at e3
  cases e3
  refine ⟨_,rfl,_,rfl,nb,_,_,_,rfl,rfl,SqL.of hnb,X4 hp,_,_,rfl,rfl,_,rfl,_,_,rfl,rfl,(by show 2<=sizeLine; decide),λq' hq'=>?_⟩
  refine k q' _ (Same.new hq') hq' ?_
  rw [Zc,<- fm.sg_key vc e1]
  rfl
theorem Xc:FnScope ["numbers","at","place","spot","own","prior","tied_back"] ["numbers","at"] (Zi Qp):=⟨rfl,rfl,rfl,by decide +kernel,rfl,by decide +kernel,by decide +kernel⟩
theorem Qj (T:Txt w K mg t):FnOk P w K mg base (CXr P w) 2 t.aP t.aU ["numbers","at"] Oh:=by
 refine T.av.F.aR Xc (λcdv A outer s H vs Q E hr h=>?_)
 ·obtain ⟨nb,b,M,f,n,c,rfl,fm,hnb,vc,hb,k⟩:=h
  refine ⟨_,(Zd (X7 (pv 1) (Qt rfl (Yj (Zq (i:=2) Xc.nd rfl (Or.inl rfl)) (Yj (Zq (i:=3) Xc.nd rfl (Or.inl rfl)) Je))))
   (Zd (Zlc (i:=4) (j:=5) rfl Xc.nd rfl rfl (by decide) rfl rfl (Za (Zs Zp (pv 0) (pv 2) (λ_ _=>rfl)) (Za (Zs Zp (pv 0) (pcT (Gu T) hr T.cB (Za (pv 2) Zb)) (λ_ _=>rfl)) Zb)) (by rfl))
   (Zd (Zo (i:=6) Xc.nd rfl (Or.inl rfl) (Zh Yv (Zh Ye (Zh Zz (pv 5) (pv 4)) (Zs Zp (pv 0) (pcT (Za4 T) hr T.cX (Za (pv 2) Zb)) (λ_ _=>rfl))) Zf))
   (Zd (Z4 (Zt Jo (pv 3) (pv 6) (Zu _)) (Zg (Zr (Xj (Za (pcT (Gu T) hr T.cB (Za (pv 2) Zb)) (Za (Zh Ye (Zh Ye (pv 5) Zf) (pv 3)) Zb))))) Zv)
   (Zg (Zr (Xj (Za (pcT (Za4 T) hr T.cX (Za (pv 2) Zb)) (Za (Zh Ye (Zh Ye (pv 4) Zf) (pv 3)) Zb))))))))),?_⟩
  have hp:c / 1000 < M.length:=vc.1
  obtain ⟨sa,sb⟩:=fm.sides hp
  have tk:=fm.tu_key vc
  have eB:=Zex (c / 1000)
  have eA:=Zez (c / 1000)
  refine ⟨_,rfl,b,_,rfl,SqT.of hb,rfl,_,_,rfl,_,_,rfl,rfl,?_⟩
  try dsimp only [Zl]
  refine Zn λnxC hnxC=>?_
  refine ⟨_,rfl,_,rfl,nb,_,_,_,rfl,rfl,SqL.of hnb,X4 hp,_,rfl,_,rfl,((c / 1000:Nat):Int),rfl,nb,_,_,_,rfl,rfl,SqL.of hnb,(by rw [eB]; exact X4 sb),_,_,rfl,?_⟩
  refine hnxC _ _ ?_
  try dsimp only [Zl]
  refine Zn λnxC hnxC=>?_
  refine ⟨_,rfl,_,rfl,_,_,rfl,rfl,_,rfl,_,rfl,((c / 1000:Nat):Int),rfl,nb,_,_,_,rfl,rfl,SqL.of hnb,(by rw [eA]; exact X4 sa),_,_,rfl,rfl,_,_,rfl,rfl,⟨by decide,by decide⟩,?_⟩
  refine hnxC _ _ ?_
  try dsimp only [Zl]
  refine ⟨_,rfl,_,rfl,_,_,rfl,rfl,_,rfl,?_⟩
  refine ite2 (λz=>?_) (λz=>?_)
  ·rw [if_pos (of_decide_eq_true z)] at tk
   refine ⟨_,rfl,((c / 1000:Nat):Int),rfl,_,rfl,_,_,rfl,rfl,_,rfl,_,_,rfl,rfl,(by show 2<=sizeLine; decide),λq' hq'=>?_⟩
   refine k q' _ (Same.new hq') hq' ?_
   rw [Zc,<- tk,eB]
   rfl
  ·rw [if_neg (λy=>z (decide_eq_true y))] at tk
   refine ⟨_,rfl,((c / 1000:Nat):Int),rfl,_,rfl,_,_,rfl,rfl,_,rfl,_,_,rfl,rfl,(by show 2<=sizeLine; decide),λq' hq'=>?_⟩
   refine k q' _ (Same.new hq') hq' ?_
   rw [Zc,<- tk,eA]
   rfl
theorem Wq:FnScope ["tent","numbers","start","way","at"] ["tent","numbers","start"] (Zi Vp):=⟨rfl,rfl,rfl,by decide +kernel,rfl,by decide +kernel,by decide +kernel⟩
theorem Fj (T:Txt w K mg t):FnOk P w K mg base (CXr P w) 5 t.bC t.bG ["tent","numbers","start"] (Fe t.aa):=by
 refine T.bI.F.aR Wq (λcdv A outer s H vs Q E hr h=>?_)
 ·obtain ⟨p,nb,b,M,ns,f,n,c,rfl,ta,hMl,fm,hsm,hnb,vc,hb,k⟩:=h
  refine ⟨_,(Zd (Zo (i:=3) Wq.nd rfl (Or.inl rfl) (Y5 (Za (pv 2) Zb)))
   (Zd (Zo (i:=4) Wq.nd rfl (Or.inl rfl) (pcT (Qj T) hr T.av (Za (pv 1) (Za (pcT (Jg T) hr T.ao (Za (pv 0) (Za (pv 1) (Za (pv 2) Zb)))) Zb))))
   (Zd (Jc PassesOwn.never (Zt (Zll hr.units) (pv 4) (pv 2) (Zu _)) (Zd (Yg (Xy PySem.F.plainAttrs_list PySem.F.slot_list_append PySem.F.type_list_append Yh (pv 3) (Za (pv 4) Zb)))
   (Zg (Zo (i:=4) Wq.nd rfl (Or.inl rfl) (pcT (Qj T) hr T.av (Za (pv 1) (Za (pcT (Jg T) hr T.ao (Za (pv 0) (Za (pv 1) (Za (pv 4) Zb)))) Zb)))))))
   (Zg (Zr (pv 3)))))),?_⟩
  refine ⟨_,rfl,(by show 1<=sizeLine; rw [sizeLine_eq]; decide),λl hl=>?_⟩
  have s0:Same H (upd H l (.lst [V.ref b])):=Same.new hl
  have h0:(upd H l (.lst [V.ref b])) l=some (.lst ([b].map V.ref)):=Zc
  generalize upd H l (.lst [V.ref b])=H0 at s0 h0
  try dsimp only [Zl]
  refine ⟨_,rfl,_,rfl,_,rfl,_,rfl,p,nb,b,M,ns,f,n,c,rfl,ta.same s0,hMl,fm,s0 _ _ hnb,vc,s0 _ _ hb,λq1 H1 s1 hq1 h1=>?_⟩
  refine ⟨nb,q1,M,f,n,sgP M f c,rfl,fm,s1 _ _ (s0 _ _ hnb),fm.sgV vc,h1,λq2 H2 s2 hq2 h2=>?_⟩
  have p0:Xg H2 [b] [c]:=⟨rfl,λi b' c' e1 e2=>by
   cases i with
   | zero=>cases e1; cases e2; exact s2 _ _ (s1 _ _ (s0 _ _ hb))
   | succ i=>simp at e1⟩
  show tSeq (J9 _ _) _ _ _ _
  refine ⟨λm σ H3=>∃ (bs:List Addr) (os:List Nat) (la x:Nat) (q:Addr),m=1200 - os.length/\σ=[some (.ref p),some (.ref nb),some (.ref b),some (.ref l),some (.ref q)]/\Same H H3/\H3 l=some (.lst (bs.map V.ref))/\Xg H3 bs os/\Orb (RnP M f) c os/\os[os.length - 1]?=some la/\RnP M f la x/\H3 q=some (.tup ((kP x).map V.int)),⟨_,[b],[c],c,nxP M f c,q2,rfl,rfl,s0.trans (s1.trans s2),s2 _ _ (s1 _ _ h0),p0,Orb.one c,rfl,⟨vc,rfl⟩,h2⟩,?_⟩
  clear p0 h2 hq2 s2 h1 hq1 s1 h0 s0
  clear q1 q2 H0 H1 H2
  rintro m σ H3 ⟨bs,os,la,x,q,rfl,rfl,s3,h3,pt,o,hla,r,hq⟩
  refine ⟨_,rfl,_,rfl,?_⟩
  refine ⟨ptD x,ptD c,.tup (SqT.of hq) (DVs.ints _),.tup (SqT.of (s3 _ _ hb)) (DVs.ints _),Zfs x,Zfs c,Zjt x c,_,rfl,?_⟩
  rw [Zhn]
  by_cases z:x=c
  ·rw [decide_eq_true z]
   subst z
   exact iteF ⟨_,rfl,k l bs os H3 s3 hl h3 pt ⟨o,la,hla,r⟩⟩
  ·rw [decide_eq_false z]
   have o':=o.snoc hla r (o.new fm.rinj hla r z)
   have hlen:=fm.few hsm o'.nodup (fm.orbV vc o')
   rw [Ae,List.length_singleton] at hlen
   have vx:VpP M f x:=fm.orbV vc o' x (List.mem_append_right _ List.mem_cons_self)
   have hbl:=pt.1
   refine iteT ⟨_,λσ' H' h=>h,?_⟩
   refine ⟨_,rfl,.inl ⟨rfl,_,SqL.of h3⟩,_,rfl,l,_,_,rfl,rfl,h3,(by rw [Ab,sizeLine_eq]; lia),?_⟩
   have hne:∀ {b':Addr} {k':Nat},H3 b'=some (.tup ((kP k').map V.int))->b'≠l:=λe z=>by rw [z,h3] at e; cases e
   have s4:Same H (upd H3 l (.lst (bs.map V.ref ++ [V.ref q]))):=Same.add s3 hl
   have h4:(upd H3 l (.lst (bs.map V.ref ++ [V.ref q]))) l=some (.lst ((bs ++ [q]).map V.ref)):=by rw [Zc,Aj]; rfl
   have hq4:(upd H3 l (.lst (bs.map V.ref ++ [V.ref q]))) q=some (.tup ((kP x).map V.int)):=by rw [Ze (hne hq)]; exact hq
   have pt4:Xg (upd H3 l (.lst (bs.map V.ref ++ [V.ref q]))) bs os:=⟨pt.1,λi b' c' e1 e2=>by rw [Ze (hne (pt.2 i b' c' e1 e2))]; exact pt.2 i b' c' e1 e2⟩
   show _
   generalize upd H3 l (.lst (bs.map V.ref ++ [V.ref q]))=H4 at s4 h4 hq4 pt4
   try dsimp only [Zl]
   refine ⟨_,rfl,_,rfl,_,rfl,_,rfl,p,nb,q,M,ns,f,n,x,rfl,ta.same s4,hMl,fm,s4 _ _ hnb,vx,hq4,λq1 H5 s5 hq1 h5=>?_⟩
   refine ⟨nb,q1,M,f,n,sgP M f x,rfl,fm,s5 _ _ (s4 _ _ hnb),fm.sgV vx,h5,λq2 H6 s6 hq2 h6=>?_⟩
   refine ⟨1200 - (os ++ [x]).length,by rw [Ae,List.length_singleton]; lia,bs ++ [q],os ++ [x],x,nxP M f x,q2,rfl,rfl,s4.trans (s5.trans s6),s6 _ _ (s5 _ _ h4),(pt4.snoc hq4).same (s5.trans s6),o',?_,⟨vx,rfl⟩,h6⟩
   rw [Ae,List.length_singleton,Nat.add_sub_cancel,List.getElem?_append_right (Nat.le_refl _),Nat.sub_self]
   rfl
noncomputable def RwI (H:Hp) (as:List Addr) (gs:List (List Int)):Prop:=as.length=gs.length/\∀ (i:Nat) (a:Addr) (g:List Int),as[i]?=some a->gs[i]?=some g->H a=some (.lst (g.map V.int))
theorem RwI.same {H H':Hp} {as:List Addr} {gs:List (List Int)} (h:RwI H as gs) (s:Same H H'):RwI H' as gs:=⟨h.1,λi b c hb hc=>s _ _ (h.2 i b c hb hc)⟩
theorem RwI.off {H H':Hp} {x y:Addr} {as:List Addr} {gs:List (List Int)} (h:RwI H as gs) (s:Off x y H H') (n:∀ a∈as,a≠x/\a≠y):RwI H' as gs:=⟨h.1,λi b c hb hc=>s _ _ (n b (List.mem_of_getElem? hb)).1 (n b (List.mem_of_getElem? hb)).2 (h.2 i b c hb hc)⟩
theorem RwI.snoc {H:Hp} {bs:List Addr} {os:List (List Int)} {b:Addr} {c:List Int} (h:RwI H bs os) (hb:H b=some (.lst (c.map V.int))):RwI H (bs ++ [b]) (os ++ [c]):=by
 obtain ⟨h1,h2⟩:=h
 refine ⟨by simp [h1],λi b' c' e1 e2=>?_⟩
 by_cases z:i < bs.length
 ·rw [List.getElem?_append_left z] at e1
  rw [List.getElem?_append_left (by lia)] at e2
  exact h2 i b' c' e1 e2
 ·rw [List.getElem?_append_right (by lia)] at e1
  rw [List.getElem?_append_right (by lia),<- h1] at e2
  obtain ⟨k,hk⟩:∃ k,i - bs.length=k:=⟨_,rfl⟩
  rw [hk] at e1 e2
  cases k with
  | zero=>cases e1; cases e2; exact hb
  | succ k=>simp at e1
noncomputable def unV:V->Int
 | .int i=>i
 | _=>0
noncomputable def rdI (H:Hp) (a:Addr):List Int:=match H a with
 | some (.lst xs)=>xs.map unV
 | _=>[]
theorem Zfp {H:Hp} {a:Addr} {g:List Int} (h:H a=some (.lst (g.map V.int))):rdI H a=g:=by
 unfold rdI
 rw [h]
 show (g.map V.int).map unV=g
 rw [List.map_map]
 exact (List.map_congr_left λ_ _=>rfl).trans (List.map_id g)
theorem RwI.read {H:Hp} {as:List Addr} {gs:List (List Int)} (h:RwI H as gs):(∀ a∈as,H a=some (.lst ((rdI H a).map V.int)))/\gs=as.map (rdI H):=by
 obtain ⟨h1,h2⟩:=h
 refine ⟨λa ha=>?_,?_⟩
 ·obtain ⟨i,hi,e⟩:=List.mem_iff_getElem.mp ha
  have:=h2 i a _ (by rw [Ac hi,e]) (Ac (by lia))
  rw [Zfp this]
  exact this
 ·apply List.ext_getElem (by rw [Ab,h1])
  intro i a1 a2
  rw [List.getElem_map]
  exact (Zfp (h2 i _ _ (Ac (by lia)) (Ac a1))).symm
theorem RwI.of {H:Hp} {as:List Addr} (h:∀ a∈as,H a=some (.lst ((rdI H a).map V.int))):RwI H as (as.map (rdI H)):=by
 refine ⟨by rw [Ab],λi a g e1 e2=>?_⟩
 rw [Ah,e1] at e2
 cases e2
 exact h a (List.mem_of_getElem? e1)
open Classical in
noncomputable def lstW (M:List (Option Nat)) (ws:List Nat):List Int:=if h:∃ L,HT.IsLeast (Jm M ws) L then h.choose else []
theorem Zc6 {M:List (Option Nat)} {ws:List Nat} {L:List Int} (h:HT.IsLeast (Jm M ws) L):lstW M ws=L:=by
 have hx:∃ L,HT.IsLeast (Jm M ws) L:=⟨L,h⟩
 unfold lstW
 rw [dif_pos hx]
 exact hx.choose_spec.eq h λ_=>Iff.rfl
noncomputable def wL (M:List (Option Nat)) (f:Nat->Int) (c:Nat):List Int:=lstW M (wdP M f c)
noncomputable def thrs (M:List (Option Nat)) (f:Nat->Int):List (List Int):=(gT M f (ptsL f M.length) []).map (wL M f)
noncomputable def Zi3 (H H':Hp) (l:Addr) (M:List (Option Nat)) (f:Nat->Int):Prop:=∃ (bs:List Addr) (gs:List (List Int)),H l=none/\H' l=some (.lst (bs.map V.ref))/\RwI H' bs gs/\gs.Pairwise (λx y=>HT.lexLt y x=false)/\gs.Perm (thrs M f)/\(∀ b∈bs,H b=none)/\l ∉ bs/\bs.length<=1000
noncomputable def Ze8 (C:Addr):Sp:=λvs H Q _=>∃ (p c:Addr) (M:List (Option Nat)) (ns:List Int) (f:Nat->Int) (g:Int->Int),vs=[.ref p,.ref c]/\Z5 C H p M ns/\TD M ns/\ns.length < 64/\Q9 H c ns g/\Nm ns f g/\PC M f/\sF f ns.length<=1200/\(∀ p,p < M.length->f p<=900) /\
 ∀ (l:Addr) (H':Hp),Same H H'->Zi3 H H' l M f->Q (.ref l) H'
theorem Ziv {P:Program} {w:World} {H:Hp} {S:Addr} {xs ys:List (List Int × Addr)} {o:HO} (h:Y8 H xs) (hS:H S=some (Yp P w S ys)):Y8 (upd H S o) xs:=λq hq=>by
 rw [Ze (λz=>by have:=h q hq; rw [z,hS] at this; unfold Yp at this; cases this)]
 exact h q hq
theorem Zmr {H:Hp} {F:Addr} {xs:List (List Int × Addr)} {l:List V} {o:HO} (h:Y8 H xs) (hF:H F=some (.lst l)):Y8 (upd H F o) xs:=λq hq=>by
 rw [Ze (λz=>by have:=h q hq; rw [z,hF] at this; cases this)]
 exact h q hq
theorem Xg.updF {H:Hp} {F:Addr} {bs:List Addr} {os:List Nat} {l:List V} {o:HO} (h:Xg H bs os) (hF:H F=some (.lst l)):Xg (upd H F o) bs os:=⟨h.1,λi b c hb hc=>by
 rw [Ze (λz=>by have:=h.2 i b c hb hc; rw [z,hF] at this; cases this)]
 exact h.2 i b c hb hc⟩
theorem Ziw {i j:Nat} (h:j < 1000):kP (1000 * i + j)=[((i:Nat):Int),((j:Nat):Int)]:=by
 have d:=W4 (p:=i) (s:=j) h
 unfold kP
 rw [d.1,d.2]
theorem X3:FnScope ["tent","counts","numbers","seen","family","start","way","at"] ["tent","counts"] (Zi Zab):=⟨rfl,rfl,rfl,by decide +kernel,rfl,by decide +kernel,by decide +kernel⟩
theorem Gs (T:Txt w K mg t):FnOk P w K mg base (CXr P w) 9 t.c6 t.di ["tent","counts"] (Ze8 t.aa):=by
  refine T.cG.F.aR X3 (λcdv A outer s H vs Q E hr h=>?_)
  · obtain ⟨p,c,M,ns,f,g,rfl,ta,td,h64,hcnt,nm,pc,hsum,hle,k⟩:=h
    have hu:=Ug hr
    refine ⟨_,(Zd (Yg (pcT (K1 T) hr T.bu (Za (pv 0) (Za (pv 1) Zb))))
      (Zd (Zo (i:=2) X3.nd rfl (Or.inr rfl) (Yf (ts:=["place"]) (fv:=[("counts",1),("tent",0)]) ⟨rfl,by decide +kernel,by decide +kernel,Ya (by rfl),⟨⟨rfl,rfl,Or.inl rfl⟩,⟨rfl,rfl,Or.inl rfl⟩,trivial⟩⟩ rfl (Yu (Q6 (pv 0) T.ad T.ah.m (Jy T) (hr.mono (by decide)) T.ah.b .nil Xz)) (λ_ _ _ _=>(Zq (i:=0) (show List.Nodup (["place","counts","tent"]:List Str) from by decide +kernel) rfl (Or.inl rfl) (Or.inr rfl))) (λ_ _ _ _=>Yc) (λ_ _ _=>rfl) (λ_ _ _ _ _ _=>Yd (V8 hu (pv 1) (Ww (pv 2) T.ad T.ar.m (O7 T) (hr.mono (by decide)) T.ar.b .nil Xz (Za (pv 0) Zb)) (λ_ _=>rfl)))))
      (Zd (Zo (i:=3) X3.nd rfl (Or.inl rfl) (Zd9 Zet (by rfl) T.eS PySem.Pv.boot_set))
      (Zd (Zo (i:=4) X3.nd rfl (Or.inl rfl) (Y5 Zb))
      (Zd (Ys PassesOwn.never rfl (Yu (Yf (ts:=["place","spot"]) (fv:=[("numbers",2)]) ⟨rfl,by decide +kernel,by decide +kernel,Ya (by rfl),⟨⟨rfl,rfl,Or.inl rfl⟩,trivial⟩⟩ rfl (Yu (Q6 (pv 0) T.ad T.ah.m (Jy T) (hr.mono (by decide)) T.ah.b .nil Xz)) (λ_ _ _ _=>(Zq (i:=0) (show List.Nodup (["place","spot","numbers"]:List Str) from by decide +kernel) rfl (Or.inl rfl) (Or.inr rfl))) (λ_ _ _ _=>Yc) (λ_ _ _=>rfl) (λ_ _ _ _ _ _=>Zfz rfl rfl (Yb rfl T.af (Za (Zs (Wa K) (pv 2) (pv 0) (λ_ _=>rfl)) Zb)) (Zq (i:=1) (show List.Nodup (["place","spot","numbers"]:List Str) from by decide +kernel) rfl (Or.inl rfl) (Or.inr rfl)) Yc (Xj (Za (pv 0) (Za (pv 1) Zb)))))) (Zq (i:=5) X3.nd rfl (Or.inl rfl)) (Zg (Z4 (Zt (Za1 hr.units) (pv 5) (pv 3) (by with_unfolding_all rfl)) (Zd (Zo (i:=6) X3.nd rfl (Or.inl rfl) (pcT (Fj T) hr T.bI (Za (pv 0) (Za (pv 2) (Za (pv 5) Zb)))))
      (Zd (Yg (Xy PySem.F.plainAttrs_list PySem.F.slot_list_append PySem.F.type_list_append Yh (pv 4) (Za (pcT (Zhz T) hr T.dR (Za (pv 0) (Za (Yf (ts:=["place","spot"]) (fv:=[]) ⟨rfl,by decide +kernel,by decide +kernel,Ya (by rfl),trivial⟩ rfl (Yu (pv 6)) (λ_ _ _ _=>(Zc1 (n:=2) K rfl (Yj (Zq (i:=0) (show List.Nodup (["place","spot"]:List Str) from by decide +kernel) rfl (Or.inl rfl) (Or.inr rfl)) (Yj (Zq (i:=1) (show List.Nodup (["place","spot"]:List Str) from by decide +kernel) rfl (Or.inl rfl) (Or.inr rfl)) Je)))) (λ_ _ _ _=>Yc) (λ_ _ _=>rfl) (λ_ _ _ _ _ _=>Yd (pv 0))) Zb))) Zb)))
      (Zg (Ys PassesOwn.never rfl (Yu (pv 6)) (Zq (i:=7) X3.nd rfl (Or.inl rfl)) (Zd (Yg (O1 hr.units (pv 3) (Za (pv 7) Zb)))
      (Zg (Yg (O1 hr.units (pv 3) (Za (pcT (Jg T) hr T.ao (Za (pv 0) (Za (pv 2) (Za (pv 7) Zb)))) Zb))))))))) Zv)))
      (Zg (Zr (Zk (Vi hr.units) (by rfl) T.bJ PyProof.Rows.boot_sorted (Za (pv 4) Zb))))))))),?_⟩
    have hMl:M.length=ns.length:=td.len.symm
    obtain ⟨n,n1,n40,hn⟩:=td.n
    have fm:Fam M f n:=⟨pc,td.inv,hn,hle⟩
    have hsm:sF f M.length<=1200:=by rw [hMl]; exact hsum
    refine Zn λnxC hnxC=>?_
    refine ⟨_,rfl,_,rfl,p,c,M,ns,f,g,rfl,ta,td,h64,hcnt,nm,pc,hsum,λH1 s1=>?_⟩
    refine hnxC _ _ ?_
    try dsimp only [Zl]
    have ta1:=ta.same s1
    obtain ⟨ks,hc1,hperm⟩:=hcnt.same s1
    refine Zn λnxC hnxC=>?_
    obtain ⟨dx,cl,na,sp,mt',o,f',b⟩:=id ta1
    refine ⟨_,rfl,p,dx,_,rfl,b.ins,Yn _ _ _ _,p,M,ns,rfl,ta1,by lia,λl hl=>?_⟩
    have s2:Same H1 (upd H1 l (.lst ((List.range ns.length).map nV))):=Same.new hl
    have h2:(upd H1 l (.lst ((List.range ns.length).map nV))) l=some (.lst ((List.range ns.length).map nV)):=Zc
    generalize upd H1 l (.lst ((List.range ns.length).map nV))=H2 at s2 h2
    clear b
    refine ⟨l,rfl,⟨_,SqL.of h2⟩,λnb hnb=>?_⟩
    have ta2:=ta1.same s2
    have hc2:=s2 _ _ hc1
    refine Yt (xs:=(List.range ns.length).map nV) (λi σ H3=>∃ v,σ=[v,some (.ref c),some (.ref p)]/\Same H2 H3/\H3 nb=some (.lst (rowI i f))) ⟨none,rfl,Same.new hnb,by rw [Zc]; rfl⟩ ?_ ?_ ?_
    · rintro i σ H3 _ ⟨v,rfl,s3,h3⟩
      exact SqL.of (s3 _ _ h2)
    · rintro i x σ H3 hx ⟨v,rfl,s3,h3⟩
      obtain ⟨hi,rfl⟩:i < ns.length/\x=nV i:=by
        rw [Ah] at hx
        by_cases z:i < ns.length
        · rw [List.getElem?_range z] at hx; cases hx; exact ⟨z,rfl⟩
        · rw [List.getElem?_eq_none (by rw [List.length_range]; lia)] at hx; cases hx
      dsimp only [Zl,tYes]
      rw [if_pos rfl]
      have ta3:=ta2.same s3
      obtain ⟨dx,cl,na,sp,mt',o,f',b⟩:=id ta3
      have ey:=Jk hi
      have hzk:ns.getD i 0∈ks:=hperm.mem_iff.mpr (Ka hi)
      refine ⟨_,rfl,_,rfl,p,dx,_,rfl,b.ins,Yn _ _ _ _,_,rfl,p,M,ns,i,rfl,ta3,λi' y e1 e2=>?_,λq=>absurd ⟨by lia,by lia⟩ q⟩
      obtain rfl:i=i':=by lia
      rw [ey] at e2
      injection e2 with e2
      subst e2
      refine ⟨c,_,rfl,Zdo (s3 _ _ hc2) hzk,?_⟩
      refine ⟨_,h3,?_,_,rfl,Same.add s3 hnb,?_⟩
      · rw [Y0]; exact Z1 (by lia)
      · rw [Zc,nm _ _ ey]
        unfold rowI
        rw [List.range_succ,Aj]
        rfl
    rintro σ H3 ⟨v,rfl,s3,h3⟩
    rw [Ab,List.length_range,<- hMl] at h3
    refine hnxC _ _ ?_
    try dsimp only [Zl]
    have ta3:=ta2.same s3
    have sH3:=s1.trans (s2.trans s3)
    have hnbH:H nb=none:=s1.free (s2.free hnb)
    clear s1 s2 s3 ta1 ta2 hc1 hc2 h2 hl hnb
    refine Zn λnxC hnxC=>?_
    refine ⟨rfl,λS hS=>?_⟩
    refine hnxC _ _ ?_
    refine Zn λnxC hnxC=>?_
    refine ⟨Nat.zero_le _,λF hF=>?_⟩
    obtain ⟨hFS,hF0⟩:=Wu hF
    refine (λ(G:∀ H4:Hp,Same H3 H4->H4 S=some (Yp P w S [])->H4 F=some (.lst (([]:List Addr).map V.ref))->nxC _ H4)=>G _ (Same.add (Same.new hS) hF0) (by rw [Ze (Ne.symm hFS),Zc]; rfl) Zc) ?_
    intro H4 s4 hS4 hF4
    have hSH:H S=none:=sH3.free hS
    have hFH:H F=none:=sH3.free hF0
    refine hnxC _ _ ?_
    clear hF
    try dsimp only [Zl]
    have sH4:=sH3.trans s4
    have ta4:=ta3.same s4
    have h4:=s4 _ _ h3
    have hnS:nb≠S:=λz=>by rw [z,hS] at h3; cases h3
    have hnF:nb≠F:=λz=>by rw [z,hF0] at h3; cases h3
    clear s4 ta3 h3 sH3
    show tSeq (tFor _ _ _) _ _ _ _
    refine Z7 (λσ HX=>∃ (xs:List (List Int × Addr)) (as:List Addr) (v5 v6 v7:Option V),σ=[some (.ref p),some (.ref c),some (.ref nb),some (.ref S),some (.ref F),v5,v6,v7]/\Same H HX/\HX F=some (.lst (as.map V.ref))/\RwI HX as (thrs M f)/\(∀ a∈as,H a=none)/\as.length<=1000) (λnx hnx=>?_) ?_
    · -- the starts
      obtain ⟨dx,cl,na,sp,mt',o,f',b⟩:=id ta4
      refine ⟨_,rfl,p,dx,_,rfl,b.ins,Yn _ _ _ _,p,M,ns,rfl,ta4,by lia,λl hl=>?_⟩
      have s5:Same H4 (upd H4 l (.lst ((List.range ns.length).map nV))):=Same.new hl
      have h5:(upd H4 l (.lst ((List.range ns.length).map nV))) l=some (.lst ((List.range ns.length).map nV)):=Zc
      generalize upd H4 l (.lst ((List.range ns.length).map nV))=H5 at s5 h5
      clear b
      refine ⟨l,rfl,⟨_,SqL.of h5⟩,λZ hZ=>?_⟩
      have hn5:=s5 _ _ h4
      refine Yt (xs:=(List.range ns.length).map nV) (λi σ H6=>∃ (zs:List Addr) (v v':Option V),σ=[v,v',some (.ref nb)]/\Same H5 H6/\H6 Z=some (.lst (zs.map V.ref))/\Xg H6 zs (ptsL f i)) ⟨[],none,none,rfl,Same.new hZ,by rw [Zc]; rfl,rfl,λi b c e=>by simp at e⟩ ?_ ?_ ?_
      · rintro i σ H6 _ ⟨zs,v,v',rfl,s6,_⟩
        exact SqL.of (s6 _ _ h5)
      · rintro i x σ H6 hx ⟨zs,v,v',rfl,s6,h6,pt6⟩
        obtain ⟨hi,rfl⟩:i < ns.length/\x=nV i:=by
          rw [Ah] at hx
          by_cases z:i < ns.length
          · rw [List.getElem?_range z] at hx; cases hx; exact ⟨z,rfl⟩
          · rw [List.getElem?_eq_none (by rw [List.length_range]; lia)] at hx; cases hx
        dsimp only [Zl,tYes]
        rw [if_pos rfl]
        have hi':i < M.length:=by lia
        obtain ⟨f1,f2⟩:=fm.nf hi'
        have hpl:((ptsL f i).length:Int)<=1200:=by
          have h1:=Qs f i λq hq=>pc.nn q (by lia)
          have h2:=Qs f M.length pc.nn
          have h3:(ptsL f i).length<=(ptsL f M.length).length:=by
            have:∀ d i,(ptsL f i).length<=(ptsL f (i + d)).length:=λd i=>by
              induction d with
              | zero=>exact Nat.le_refl _
              | succ d ih=>show _<=(ptsL f (i + d) ++ _).length; rw [Ae]; lia
            have:=this (M.length - i) i
            rwa [show i + (M.length - i)=M.length by lia] at this
          lia
        refine ⟨_,rfl,_,rfl,nb,_,_,_,rfl,rfl,SqL.of (s6 _ _ hn5),X4 hi',_,rfl,by lia,by lia,?_⟩
        show Wt (Itr 0 (nN f i)) _ _ _ _ _ _
        refine Wg (λj σ H7=>∃ (zs:List Addr) (v':Option V),σ=[some (nV i),v',some (.ref nb)]/\Same H5 H7/\H7 Z=some (.lst (zs.map V.ref))/\Xg H7 zs (ptsL f i ++ (List.range j).map λs=>1000 * i + s)) ⟨zs,v',rfl,s6,h6,by rw [List.range_zero,List.map_nil,List.append_nil]; exact pt6⟩ ?_ ?_
        · rintro j σ H7 hj ⟨zs,v',rfl,s7,h7,pt7⟩
          dsimp only [Zl,tYes]
          rw [if_pos rfl,Int.zero_add]
          have hzl:=pt7.1
          rw [Ae,Ab,List.length_range] at hzl
          refine ⟨_,rfl,_,rfl,(by show 2<=sizeLine; decide),λq hq=>?_⟩
          have s8:Same H7 (upd H7 q (.tup [nV i,V.int j])):=Same.new hq
          have e8:(upd H7 q (.tup [nV i,V.int j])) q=some (.tup ((kP (1000 * i + j)).map V.int)):=by rw [Zc,Ziw (by lia)]; rfl
          show ∃ xs,(upd H7 q (.tup [nV i,V.int j])) Z=some (.lst xs)/\_
          generalize upd H7 q (.tup [nV i,V.int j])=H8 at s8 e8 ⊢
          refine ⟨_,s8 _ _ h7,by rw [Ab,sizeLine_eq]; lia,zs ++ [q],_,rfl,Same.add (s7.trans s8) hZ,by rw [Zc,Aj]; rfl,?_⟩
          have hqZ:q≠Z:=λz=>by rw [z,h7] at hq; cases hq
          have p8:=(pt7.same s8).snoc e8
          rw [List.range_succ,Aj,<- List.append_assoc]
          refine ⟨p8.1,λi' b' c' e1 e2=>?_⟩
          have:=p8.2 i' b' c' e1 e2
          rw [Ze (λz=>by rw [z,s8 _ _ h7] at this; cases this)]
          exact this
        · rintro σ H7 ⟨zs,v',rfl,s7,h7,pt7⟩
          exact ⟨zs,_,_,rfl,s7,h7,pt7⟩
      rintro σ H6 ⟨zs,v,v',rfl,s6,h6,pt6⟩
      rw [Ab,List.length_range,<- hMl] at pt6
      have s46:=s5.trans s6
      have hZS:Z≠S:=λz=>by rw [z] at hZ; rw [s5.free hZ] at hS4; cases hS4
      have hZF:Z≠F:=λz=>by rw [z] at hZ; rw [s5.free hZ] at hF4; cases hF4
      refine ⟨Z,rfl,⟨_,SqL.of h6⟩,?_⟩
      have e0:gT M f ((ptsL f M.length).take 0) []=[]:=rfl
      have neS:∀ {a:Addr} {x:HO},H6 a=some x->(∀ xs,x≠Yp P w S xs)->a≠S:=λe h z=>by rw [z,s46 _ _ hS4] at e; injection e with e; exact h _ e.symm
      have tS:∀ (a:Addr) (k:List V) (xs:List (List Int × Addr)),(HO.tup k)≠Yp P w a xs:=λa k xs z=>by unfold Yp at z; cases z
      have lS:∀ (a:Addr) (k:List V) (xs:List (List Int × Addr)),(HO.lst k)≠Yp P w a xs:=λa k xs z=>by unfold Yp at z; cases z
      refine U9 (xs:=zs.map V.ref) (λi σ H7=>∃ (xs:List (List Int × Addr)) (as:List Addr) (v5 v6 v7:Option V),σ=[some (.ref p),some (.ref c),some (.ref nb),some (.ref S),some (.ref F),v5,v6,v7]/\Off S F H6 H7/\H7 S=some (Yp P w S xs)/\Y8 H7 xs/\SeenK M f (Y7 M f (gT M f ((ptsL f M.length).take i) []) []) (xs.map (·.1))/\H7 F=some (.lst (as.map V.ref))/\RwI H7 as ((gT M f ((ptsL f M.length).take i) []).map (wL M f))/\(∀ a∈as,H a=none/\a≠S/\a≠F)/\PrD M f (gT M f ((ptsL f M.length).take i) [])) ⟨[],[],none,none,none,rfl,Off.refl,s46 _ _ hS4,λq hq=>absurd hq List.not_mem_nil,SeenK.nil,s46 _ _ hF4,⟨rfl,λi a g e=>by simp at e⟩,λa ha=>absurd ha List.not_mem_nil,PrD.nil⟩ ?_ ?_ ?_
      · rintro i σ H7 _ ⟨xs,as,v5,v6,v7,rfl,of7,_⟩
        exact SqL.of (of7 _ _ hZS hZF h6)
      · rintro i x σ H7 hx ⟨xs,as,v5,v6,v7,rfl,of7,hS7,hK7,sk7,hF7,rw7,fr7,pr7⟩
        obtain ⟨b,hb,rfl⟩:=map_some hx
        have hil:i < (ptsL f M.length).length:=by rw [<- pt6.1]; exact (Aa hb).1
        obtain ⟨d,hd⟩:∃ d,(ptsL f M.length)[i]?=some d:=⟨_,Ac hil⟩
        have vd:VpP M f d:=fm.pts_mem.mp (List.mem_of_getElem? hd)
        have hb6:=pt6.2 i b d hb hd
        have hbS:b≠S:=neS hb6 (tS _ _)
        have hbF:b≠F:=λz=>by rw [z,s46 _ _ hF4] at hb6; cases hb6
        have hb7:=of7 _ _ hbS hbF hb6
        have et:(ptsL f M.length).take (i + 1)=(ptsL f M.length).take i ++ [d]:=by rw [List.take_add_one,hd]; rfl
        rw [et]
        generalize (ptsL f M.length).take i=L at sk7 rw7 pr7 ⊢
        have gy:=@Zgn M f L d
        have gn:=@Ziz M f L d
        generalize gT M f L []=D at sk7 rw7 pr7 gy gn
        dsimp only [Zl]
        have mem:=(sk7.mem d vd).trans Zd3
        refine ⟨_,rfl,_,rfl,b,kP d,S,xs,rfl,rfl,hb7,hS7,hK7,_,rfl,?_⟩
        by_cases hm:kP d∈xs.map (·.1)
        · rw [decide_eq_true hm]
          refine iteF ?_
          rw [gy (mem.mp hm)]
          exact ⟨xs,as,_,_,_,rfl,of7,hS7,hK7,sk7,hF7,rw7,fr7,pr7⟩
        · rw [decide_eq_false hm]
          have hno:¬ inS M f D d:=λz=>hm (mem.mpr z)
          rw [gn hno]
          have pr8:=fm.prS hsm pr7 vd hno
          have hDl:=fm.prL hsm pr8
          refine iteT ?_
          have sH7:Same H H7:=of7.same (sH4.trans s46) hSH hFH
          refine Zn λnxC hnxC=>?_
          refine ⟨_,rfl,_,rfl,_,rfl,p,nb,b,M,ns,f,n,d,rfl,ta.same sH7,hMl,fm,hsm,of7 _ _ hnS hnF (s46 _ _ h4),vd,hb7,λW ws os H8 s8 hW h8 pt8 o=>?_⟩
          refine hnxC _ _ ?_
          try dsimp only [Zl]
          have hWS:W≠S:=λz=>by rw [z,hS7] at hW; cases hW
          have hWF:W≠F:=λz=>by rw [z,hF7] at hW; cases hW
          have hos:=fm.few hsm o.nodup (fm.orbV vd o.toOrb)
          have hwl:=pt8.1
          refine Zn λnxC hnxC=>?_
          refine ⟨_,rfl,.inl ⟨rfl,_,SqL.of (s8 _ _ hF7)⟩,_,rfl,_,rfl,W,rfl,⟨_,SqL.of h8⟩,λB hB=>?_⟩
          refine Yt (xs:=ws.map V.ref) (λj σ H9=>∃ (v v':Option V),σ=[v,v']/\Same H8 H9/\H9 B=some (.lst (((os.take j).map (· / 1000)).map nV))) ⟨none,none,rfl,Same.new hB,by rw [Zc]; rfl⟩ ?_ ?_ ?_
          · rintro j σ H9 _ ⟨v,v',rfl,s9,_⟩
            exact SqL.of (s9 _ _ h8)
          · rintro j x σ H9 hx ⟨v,v',rfl,s9,h9⟩
            obtain ⟨b',hb',rfl⟩:=map_some hx
            have hj:j < os.length:=by rw [<- hwl]; exact (Aa hb').1
            obtain ⟨c',hc'⟩:∃ c',os[j]?=some c':=⟨_,Ac hj⟩
            dsimp only [Zl,tYes]
            refine ⟨_,_,rfl,SqT.of (s9 _ _ (pt8.2 j b' c' hb' hc')),rfl,_,_,rfl,_,_,rfl,rfl,?_⟩
            try rw [if_pos rfl]
            refine ⟨_,rfl,_,h9,by rw [Ab,Ab,Ai,sizeLine_eq]; lia,_,_,rfl,Same.add s9 hB,?_⟩
            rw [Zc,List.take_add_one,hc',Aj,Aj]
            rfl
          rintro σ H9 ⟨v,v',rfl,s9,h9⟩
          rw [Ab,hwl,List.take_length] at h9
          have s79:=s8.trans s9
          refine ⟨p,B,M,ns,os.map (· / 1000),rfl,ta.same (sH7.trans s79),hMl,h9,by rw [Ab]; lia,fm.plain vd o,λl2 L2 HA sA hl2 hL2 isL=>?_⟩
          have s7A:=s79.trans sA
          have hla:as.length<=600:=by rw [rw7.1,Ab]; rw [Ae,List.length_singleton] at hDl; lia
          refine ⟨F,_,_,rfl,rfl,s7A _ _ hF7,(by rw [Ab,sizeLine_eq]; lia),?_⟩
          have hl2S:l2≠S:=λz=>by rw [z,s79 _ _ hS7] at hl2; cases hl2
          have hl2F:l2≠F:=λz=>by rw [z,s79 _ _ hF7] at hl2; cases hl2
          have hl2H:H l2=none:=sH7.free (s79.free hl2)
          have ew:wL M f d=L2:=by unfold wL wdP; rw [Ub o]; exact Zc6 isL
          have fr8:∀ a∈as ++ [l2],H a=none/\a≠S/\a≠F:=λa ha=>by
            rcases List.mem_append.mp ha with z | z
            · exact fr7 a z
            · rw [Af z]; exact ⟨hl2H,hl2S,hl2F⟩
          refine (λ(G:∀ HB:Hp,Off S F H7 HB->HB S=some (Yp P w S xs)->HB F=some (.lst ((as ++ [l2]).map V.ref))->Y8 HB xs->RwI HB (as ++ [l2]) ((D ++ [d]).map (wL M f))->HB W=some (.lst (ws.map V.ref))->Xg HB ws os->nxC _ HB)=>G _ (Off.of s7A).b (by rw [Ze (Ne.symm hFS)]; exact s7A _ _ hS7) (by rw [Zc,Aj]; rfl) (Zmr (hK7.same s7A) (s7A _ _ hF7)) ?_ (by rw [Ze hWF]; exact (s9.trans sA) _ _ h8) ((pt8.same (s9.trans sA)).updF (s7A _ _ hF7))) ?_
          · rw [Aj]
            refine ((rw7.same s7A).snoc ?_).off (Off.b Off.refl) λa ha=>(fr8 a ha).2
            rw [ew]
            exact hL2
          intro HB ofB hSB hFB hKB rwB hWB ptB
          refine hnxC _ _ ?_
          try dsimp only [Zl]
          clear hL2 isL s7A hl2 sA h9 s9 hB s79 s8 h8 pt8 hW rw7 hF7 hS7 hK7
          refine ⟨_,rfl,W,rfl,⟨_,SqL.of hWB⟩,?_⟩
          refine U9 (xs:=ws.map V.ref) (λj σ HC=>∃ (xs:List (List Int × Addr)) (v7:Option V),σ=[some (.ref p),some (.ref c),some (.ref nb),some (.ref S),some (.ref F),some (.ref b),some (.ref W),v7]/\Off S F HB HC/\HC S=some (Yp P w S xs)/\Y8 HC xs/\SeenK M f (Y7 M f D (os.take j)) (xs.map (·.1))/\HC F=some (.lst ((as ++ [l2]).map V.ref))) ⟨xs,_,rfl,Off.refl,hSB,hKB,by rw [List.take_zero]; exact sk7,hFB⟩ ?_ ?_ ?_
          · rintro j σ HC _ ⟨xs,v7,rfl,ofC,_⟩
            exact SqL.of (ofC _ _ hWS hWF hWB)
          · rintro j x σ HC hx ⟨xs,v7,rfl,ofC,hSC,hKC,skC,hFC⟩
            obtain ⟨b',hb',rfl⟩:=map_some hx
            have hj:j < os.length:=by rw [<- hwl]; exact (Aa hb').1
            obtain ⟨c',hc'⟩:∃ c',os[j]?=some c':=⟨_,Ac hj⟩
            have vc':VpP M f c':=fm.orbV vd o.toOrb c' (List.mem_of_getElem? hc')
            have hbB:=ptB.2 j b' c' hb' hc'
            have hbS':b'≠S:=λz=>by rw [z,hSB] at hbB; injection hbB with hbB; exact tS _ _ _ hbB.symm
            have hbF':b'≠F:=λz=>by rw [z,hFB] at hbB; cases hbB
            have hbC:=ofC _ _ hbS' hbF' hbB
            have hxl:=fm.seen_len hsm skC
            rw [Ab] at hxl
            dsimp only [Zl]
            refine Z7 (λσ HD=>∃ (xs:List (List Int × Addr)),σ=[some (.ref p),some (.ref c),some (.ref nb),some (.ref S),some (.ref F),some (.ref b),some (.ref W),some (.ref b')]/\Off S F HB HD/\HD S=some (Yp P w S xs)/\Y8 HD xs/\SeenK M f (λx=>Y7 M f D (os.take j) x\/x=c') (xs.map (·.1))/\HD F=some (.lst ((as ++ [l2]).map V.ref))) (λnx hnx=>?_) ?_
            · refine ⟨_,rfl,S,xs,rfl,hSC,_,rfl,b',kP c',xs,rfl,hbC,hSC,hKC,by lia,λhin=>hnx _ _ ⟨xs,rfl,ofC,hSC,hKC,skC.old hin,hFC⟩,λhnew=>hnx _ _ ⟨xs ++ [(kP c',b')],rfl,ofC.a,Zc,Ziv (hKC.snoc hbC) hSC,?_,by rw [Ze hFS]; exact hFC⟩⟩
              rw [Aj]
              exact skC.snoc vc' hnew
            rintro σ HD ⟨xs,rfl,ofD,hSD,hKD,skD,hFD⟩
            have hbD:=ofD _ _ hbS' hbF' hbB
            have sHD:Same H HD:=(ofB.trans ofD).same sH7 hSH hFH
            have hxl:=fm.seen_len hsm skD
            rw [Ab] at hxl
            have e9:os.take (j + 1)=os.take j ++ [c']:=by rw [List.take_add_one,hc']; rfl
            rw [e9]
            refine ⟨_,rfl,S,xs,rfl,hSD,_,rfl,_,rfl,_,rfl,p,nb,b',M,ns,f,n,c',rfl,ta.same sHD,hMl,fm,ofD _ _ hnS hnF (ofB _ _ hnS hnF (of7 _ _ hnS hnF (s46 _ _ h4))),vc',hbD,λq HE sE hq hqE=>?_⟩
            refine ⟨q,kP (sgP M f c'),xs,rfl,hqE,sE _ _ hSD,hKD.same sE,by lia,λhin=>?_,λhnew=>?_⟩
            · exact ⟨xs,_,rfl,ofD.trans (Off.of sE),sE _ _ hSD,hKD.same sE,fm.seen_two vc' (skD.old hin),sE _ _ hFD⟩
            · refine ⟨xs ++ [(kP (sgP M f c'),q)],_,rfl,(ofD.trans (Off.of sE)).a,Zc,Ziv ((hKD.same sE).snoc hqE) (sE _ _ hSD),?_,by rw [Ze hFS]; exact sE _ _ hFD⟩
              rw [Aj]
              exact fm.seen_two vc' (skD.snoc (fm.sgV vc') hnew)
          · rintro σ HC ⟨xs,v7,rfl,ofC,hSC,hKC,skC,hFC⟩
            rw [Ab,hwl,List.take_length] at skC
            exact ⟨xs,as ++ [l2],_,_,_,rfl,of7.trans (ofB.trans ofC),hSC,hKC,F4 o skC,hFC,rwB.off ofC λa ha=>(fr8 a ha).2,fr8,pr8⟩
      · rintro σ H7 ⟨xs,as,v5,v6,v7,rfl,of7,hS7,hK7,sk7,hF7,rw7,fr7,pr7⟩
        rw [Ab,pt6.1,List.take_length] at rw7 pr7
        have hDl:=fm.prL hsm pr7
        refine hnx _ _ ⟨xs,as,_,_,_,rfl,of7.same (sH4.trans s46) hSH hFH,hF7,rw7,λa ha=>(fr7 a ha).1,?_⟩
        rw [rw7.1,Ab]
        lia
    · rintro σ HX ⟨xs,as,v5,v6,v7,rfl,sX,hFX,rwX,hfr,hal⟩
      obtain ⟨r1,r2⟩:=rwX.read
      refine ⟨_,rfl,F,as,rdI HX,rfl,SqL.of hFX,λa ha=>SqL.of (r1 a ha),hal,λq bs hq pm pw=>?_⟩
      have hbq:∀ b∈bs,b≠q:=λb hb z=>by have:=r1 b (pm.mem_iff.mp hb); rw [z,hq] at this; cases this
      refine k q _ (Same.add sX (sX.free hq)) ⟨bs,bs.map (rdI HX),sX.free hq,Zc,?_,?_,?_,λb hb=>hfr b (pm.mem_iff.mp hb),λz=>hbq q z rfl,by rw [pm.length_eq]; exact hal⟩
      · have:=RwI.of (H:=HX) (as:=bs) λb hb=>r1 b (pm.mem_iff.mp hb)
        exact ⟨this.1,λi a g e1 e2=>by rw [Ze (hbq a (List.mem_of_getElem? e1))]; exact this.2 i a g e1 e2⟩
      · rw [List.pairwise_map]; exact pw
      · rw [r2]; exact pm.map _
noncomputable def dkT (ks:List (List Int)):List (List Key × V):=ks.map λk=>(k.map Sum.inl,V.bl true)
noncomputable def unK:Key->Int
 | .inl i=>i
 | _=>0
theorem Zj9 {a b:List Int} (h:(a.map Sum.inl:List Key)=b.map Sum.inl):a=b:=by
 have:=congrArg (List.map unK) h
 rw [List.map_map,List.map_map] at this
 have e:∀ l:List Int,l.map (unK ∘ Sum.inl)=l:=λl=>(List.map_congr_left λ_ _=>rfl).trans (List.map_id l)
 rwa [e,e] at this
theorem Zbl (ks:List (List Int)) (k:List Int):((dkT ks).any λkv=>decide (kv.1=(k.map Sum.inl:List Key)))=decide (k∈ks):=by
 unfold dkT
 induction ks with
 | nil=>rfl
 | cons a ks ih =>
  rw [List.map_cons,List.any_cons,ih]
  by_cases z:a=k
  ·subst z; simp
  ·have z':¬ (a.map Sum.inl:List Key)=k.map Sum.inl:=λe=>z (Zj9 e)
   rw [decide_eq_false z',Bool.false_or]
   simp [Ne.symm z]
theorem Zlz (ks:List (List Int)) (k:List Int):(valV (dkT ks) (k.map Sum.inl)).isSome=decide (k∈ks):=by rw [<- Uz]; exact Zbl ks k
theorem V2 {ks:List (List Int)} {k:List Int} (h:k ∉ ks):putK (dkT ks) (k.map Sum.inl) (V.bl true)=dkT (ks ++ [k]):=by
 unfold putK
 rw [Zbl,decide_eq_false h,if_neg (by decide)]
 unfold dkT
 rw [Aj]
 rfl
theorem Zl0 {ks:List (List Int)} {k:List Int} (h:k∈ks):putK (dkT ks) (k.map Sum.inl) (V.bl true)=dkT ks:=by
 unfold putK
 rw [Zbl,decide_eq_true h,if_pos rfl]
 unfold dkT
 rw [List.map_map]
 apply List.map_congr_left
 intro a _
 show (if (a.map Sum.inl:List Key)=k.map Sum.inl then _ else _)=_
 by_cases z:(a.map Sum.inl:List Key)=k.map Sum.inl
 ·rw [if_pos z]
 ·rw [if_neg z]
theorem Zl1 {H:Hp} {S b:Addr} {ks:List (List Int)} {k:List Int} (e:H S=some (.dT (dkT ks))) (eb:H b=some (.tup (k.map V.int))):(k∈ks->∃ v,DGet H S (.ref b) (some v))/\(k ∉ ks->DGet H S (.ref b) none):=by
 have eb':H b=some (.tup ((k.map Sum.inl:List Key).map kV)):=by rw [eb,List.map_map]; rfl
 have g:=DGet.t e eb'
 have s:=Zlz ks k
 refine ⟨λh=>?_,λh=>?_⟩
 ·rw [decide_eq_true h] at s
  obtain ⟨v,hv⟩:=Option.isSome_iff_exists.mp s
  rw [hv] at g
  exact ⟨v,g⟩
 ·rw [decide_eq_false h] at s
  have hv:valV (dkT ks) (k.map Sum.inl)=none:=Option.not_isSome_iff_eq_none.mp (by rw [s]; decide)
  rw [hv] at g
  exact g
theorem Zgt {H:Hp} {S b:Addr} {ks ks':List (List Int)} {k:List Int} (e:H S=some (.dT (dkT ks))) (eb:H b=some (.tup (k.map V.int))) (hl:ks.length < sizeLine) (p:putK (dkT ks) (k.map Sum.inl) (V.bl true)=dkT ks'):DPut H S (.ref b) (.bl true) (upd H S (.dT (dkT ks'))):=by
 rw [<- p]
 exact DPut.t e (by rw [eb,List.map_map]; rfl) (by unfold dkT; rw [Ab]; exact hl)
theorem Off.new {a b x:Addr} {H H1:Hp} {o:HO} (s:Off a b H H1) (hx:H x=none):Off a b H (upd H1 x o):=λy u h1 h2 h=>by rw [Ze (λz=>by rw [z,hx] at h; cases h)]; exact s y u h1 h2 h
structure TrI (H H0:Hp) (S F:Addr) (M:List (Option Nat)) (f:Nat->Int) (L:List Nat) (H7:Hp):Prop where
 off:Off S F H0 H7
 ex:∃ (ks:List (List Int)) (as:List Addr),H7 S=some (.dT (dkT ks))/\SeenK M f (Y7 M f (gT M f L []) []) ks/\H7 F=some (.lst (as.map V.ref))/\RwI H7 as ((gT M f L []).map (wL M f))/\(∀ a∈as,H a=none/\a≠S/\a≠F)/\PrD M f (gT M f L [])
noncomputable def Zb2:Sp:=λvs H Q _=>∃ (m c:Addr) (M:List (Option Nat)) (f:Nat->Int) (n:Nat),vs=[.ref m,.ref c]/\H m=some (.lst (M.map mV))/\H c=some (.lst (rowI M.length f))/\Fam M f n/\M.length<=42/\sF f M.length<=1200 /\
 ∀ (l:Addr) (H':Hp),Same H H'->Zi3 H H' l M f->Q (.ref l) H'
theorem Zbw (q:Nat):(q:Int) - (q:Int) % 3 + ((q:Int) + 2) % 3=(bN q:Int):=by
 rw [W5]
 split <;> lia
theorem Fa (q:Nat):(q:Int) - (q:Int) % 3 + ((q:Int) + 1) % 3=(aN q:Int):=by
 rw [W6]
 split <;> lia
theorem Zfq (f:Nat->Int) (i:Nat):ptsL f (i + 1)=ptsL f i ++ (List.range (nN f i)).map λs=>1000 * i + s:=rfl
noncomputable def Kn (M:List (Option Nat)) (f:Nat->Int) (D os:List Nat) (c x:Nat):Prop:=(os=[]/\x=c)\/(¬ inS M f D c/\Orb (RnP M f) c os/\∃ la,os[os.length - 1]?=some la/\RnP M f la x)
section
variable {M:List (Option Nat)} {f:Nat->Int} {n:Nat}
theorem Fam.wlkV (h:Fam M f n) {D os:List Nat} {c x:Nat} (v:VpP M f c) (w:Kn M f D os c x):VpP M f x:=by
 rcases w with ⟨_,rfl⟩ | ⟨_,o,la,hl,r⟩
 ·exact v
 ·rw [<- r.2]; exact h.nx r.1
theorem Fam.wlkS (h:Fam M f n) (hs:sF f M.length<=1200) {D os:List Nat} {c x:Nat} (hD:PrD M f D) (v:VpP M f c) (w:Kn M f D os c x) (hn:¬ Y7 M f D os x):Kn M f D (os ++ [x]) c (nxP M f x)/\(os ++ [x]).length<=1200:=by
 have vx:=h.wlkV v w
 have la:(os ++ [x])[(os ++ [x]).length - 1]?=some x:=by
  rw [Ae,List.length_singleton,Nat.add_sub_cancel,List.getElem?_append_right (Nat.le_refl _),Nat.sub_self]
  rfl
 have go:∀ (_:¬ inS M f D c) (o:Orb (RnP M f) c (os ++ [x])),Kn M f D (os ++ [x]) c (nxP M f x)/\(os ++ [x]).length<=1200:=λhi o=>⟨.inr ⟨hi,o,x,la,vx,rfl⟩,h.few hs o.nodup (h.orbV v o)⟩
 rcases w with ⟨rfl,rfl⟩ | ⟨hi,o,l,hl,r⟩
 ·exact go (λz=>hn (Zd3.mpr z)) (Orb.one x)
 ·refine go hi (o.snoc hl r (o.new h.rinj hl r λz=>hn ((h.stops hs hD v hi o hl r).mpr z)))
end
structure InL (m c S F:Addr) (H H4:Hp) (M:List (Option Nat)) (f:Nat->Int) (L:List Nat) (σ:St) (HX:Hp) (v4 v5 v6 v7 v8 v9 v10 v11 v12:Option V):Prop where
 s:σ=[some (.ref m),some (.ref c),some (.ref S),some (.ref F),v4,v5,v6,v7,v8,v9,v10,v11,v12]
 t:TrI H H4 S F M f L HX
structure WhL (m c S F W:Addr) (i j:Nat) (M:List (Option Nat)) (f:Nat->Int) (D:List Nat) (d:Nat) (as:List Addr) (H6:Hp) (mm:Nat) (σ:St) (H8:Hp) (os:List Nat) (x:Nat) (xp xs:Int) (ks:List (List Int)) (v9 v10 v11 v12:Option V):Prop where
 k1:mm=1200 - os.length
 k2:σ=[some (.ref m),some (.ref c),some (.ref S),some (.ref F),some (.int i),some (.int j),some (.ref W),some (.int xp),some (.int xs),v9,v10,v11,v12]
 k3:[xp,xs]=kP x
 k4:Off S F H6 H8
 k5:H8 W=some (.lst ((os.map (· / 1000)).map nV))
 k6:H8 S=some (.dT (dkT ks))
 k7:SeenK M f (Y7 M f D os) ks
 k8:Kn M f D os d x
 k9:H8 F=some (.lst (as.map V.ref))
theorem Z2:FnScope ["_law_mates","_law_counts","_law_seen","_law_rows_here","_law_p","_law_t","_law_word","_law_place","_law_point","_law_side","_law_entry","_law_ahead","_law_behind"] ["_law_mates","_law_counts"] (Zi Oq):=⟨rfl,rfl,rfl,by decide +kernel,rfl,by decide +kernel,by decide +kernel⟩
theorem Zca (T:Txt w K mg t):FnOk P w K mg base (CXr P w) 2 t.cq t.cA ["_law_mates","_law_counts"] Zb2:=by
 refine T.cJ.F.aR Z2 (λcdv A outer s H vs Q E hr h=>?_)
 ·obtain ⟨m,c,M,f,n,rfl,hm,hc,fm,h42,hsm,k⟩:=h
  have hu:=Ug hr
  refine ⟨_,(Zd (Zo (i:=2) Z2.nd rfl (Or.inl rfl) Zht)
   (Zd (Zo (i:=3) Z2.nd rfl (Or.inl rfl) (Y5 Zb))
   (Zd (Ys PassesOwn.never rfl (Yb rfl T.af (Za (Zk Zj (by rfl) T.ae PySem.boot_len (Za (pv 0) Zb)) Zb)) (Zq (i:=4) Z2.nd rfl (Or.inl rfl)) (Zg (Ys PassesOwn.never rfl (Yb rfl T.af (Za (Zs Zp (pv 1) (pv 4) (λ_ _=>rfl)) Zb)) (Zq (i:=5) Z2.nd rfl (Or.inl rfl)) (Zd (Zo (i:=6) Z2.nd rfl (Or.inl rfl) (Y5 Zb))
   (Zd (Zo (i:=7) Z2.nd rfl (Or.inl rfl) (pv 4))
   (Zd (Zo (i:=8) Z2.nd rfl (Or.inl rfl) (pv 5))
   (Zd (Jc PassesOwn.never (Zfr (Gq hu (Xj (Za (pv 7) (Za (pv 8) Zb))) (pv 2)) (by with_unfolding_all rfl)) (Zd (Kz hu (pv 2) (Xj (Za (pv 7) (Za (pv 8) Zb))) Wf rfl)
   (Zd (Yg (Xy PySem.F.plainAttrs_list PySem.F.slot_list_append PySem.F.type_list_append Yh (pv 6) (Za (pv 7) Zb)))
   (Zd (Zo (i:=9) Z2.nd rfl (Or.inl rfl) (Zs Zp (pv 0) (pv 7) (λ_ _=>rfl)))
   (Zd (Zo (i:=10) Z2.nd rfl (Or.inl rfl) (Zh Ye (Zh Ye (Zs Zp (pv 1) (pv 9) (λ_ _=>rfl)) Zf) (pv 8)))
   (Zd (Kz hu (pv 2) (Xj (Za (pv 9) (Za (pv 10) Zb))) Wf rfl)
   (Zd (Zo (i:=11) Z2.nd rfl (Or.inl rfl) (Zh Zz (Zh Ye (pv 9) (Zh Zx (pv 9) Zf)) (Zh Zx (Zh Zz (pv 9) Zf) Zf)))
   (Zd (Zo (i:=12) Z2.nd rfl (Or.inl rfl) (Zh Zz (Zh Ye (pv 9) (Zh Zx (pv 9) Zf)) (Zh Zx (Zh Zz (pv 9) Zf) Zf)))
   (Zg (Z4 (Zt Jo (pv 10) (Zh Yv (Zh Ye (Zh Zz (Zs Zp (pv 1) (pv 11) (λ_ _=>rfl)) (Zs Zp (pv 1) (pv 9) (λ_ _=>rfl))) (Zs Zp (pv 1) (pv 12) (λ_ _=>rfl))) Zf) (Zu _)) (Zd (Zo (i:=7) Z2.nd rfl (Or.inl rfl) (pv 11))
   (Zg (Zo (i:=8) Z2.nd rfl (Or.inl rfl) (Zh Ye (Zh Ye (Zs Zp (pv 1) (pv 11) (λ_ _=>rfl)) Zf) (pv 10))))) (Zd (Zo (i:=7) Z2.nd rfl (Or.inl rfl) (pv 12))
   (Zg (Zo (i:=8) Z2.nd rfl (Or.inl rfl) (Zh Ye (Zh Ye (Zs Zp (pv 1) (pv 9) (λ_ _=>rfl)) Zf) (pv 10)))))))))))))))
   (Zg (Z4 (Zt Jp (Zk Zj (by rfl) T.ae PySem.boot_len (Za (pv 6) Zb)) Zf (Zu _)) (Zg (Yg (Xy PySem.F.plainAttrs_list PySem.F.slot_list_append PySem.F.type_list_append Yh (pv 3) (Za (pcT (Zeb T) hr T.cV (Za (pv 0) (Za (pv 6) Zb))) Zb)))) Zv)))))))))
   (Zg (Zr (Zk (Vi hr.units) (by rfl) T.bJ PyProof.Rows.boot_sorted (Za (pv 3) Zb))))))),?_⟩
  refine Zn λnxC hnxC=>?_
  refine λS hS=>?_
  refine hnxC _ _ ?_
  refine Zn λnxC hnxC=>?_
  refine ⟨Nat.zero_le _,λF hF=>?_⟩
  obtain ⟨hFS,hF0⟩:=Wu hF
  refine (λ(G:∀ H4:Hp,Same H H4->H4 S=some (.dT (dkT []))->H4 F=some (.lst (([]:List Addr).map V.ref))->nxC _ H4)=>G _ (Same.add (Same.new hS) hF0) (by rw [Ze (Ne.symm hFS),Zc]; rfl) Zc) ?_
  intro H4 s4 hS4 hF4
  refine hnxC _ _ ?_
  clear hF
  try dsimp only [Zl]
  have hmS:m≠S:=λz=>by rw [z,hS] at hm; cases hm
  have hmF:m≠F:=λz=>by rw [z,hF0] at hm; cases hm
  have hcS:c≠S:=λz=>by rw [z,hS] at hc; cases hc
  have hcF:c≠F:=λz=>by rw [z,hF0] at hc; cases hc
  have i0:TrI H H4 S F M f [] H4:=⟨Off.refl,[],[],hS4,SeenK.nil,hF4,⟨rfl,λi a g e=>by simp at e⟩,λa ha=>absurd ha List.not_mem_nil,PrD.nil⟩
  show tSeq (tFor _ _ _) _ _ _ _
  refine Z7 (λσ HX=>∃ v4 v5 v6 v7 v8 v9 v10 v11 v12,InL m c S F H H4 M f (ptsL f M.length) σ HX v4 v5 v6 v7 v8 v9 v10 v11 v12) (λnx hnx=>?_) ?_
  ·refine ⟨_,rfl,m,_,rfl,.inl (SqL.of (s4 _ _ hm)),_,rfl,by lia,by rw [Ab]; lia,?_⟩
   have eT:(((M.map mV).length:Nat):Int).toNat=M.length:=by simp
   rw [eT]
   refine Y2 (n:=M.length) (λi σ HX=>∃ v4 v5 v6 v7 v8 v9 v10 v11 v12,InL m c S F H H4 M f (ptsL f i) σ HX v4 v5 v6 v7 v8 v9 v10 v11 v12) ⟨none,none,none,none,none,none,none,none,none,rfl,i0⟩ ?_ ?_
   ·rintro i σ H5 hi ⟨v4,v5,v6,v7,v8,v9,v10,v11,v12,rfl,i5⟩
    dsimp only [Zl]
    rw [Int.zero_add]
    obtain ⟨f1,f2⟩:=fm.nf hi
    refine ⟨_,rfl,_,rfl,c,_,_,_,rfl,rfl,SqL.of (i5.off _ _ hcS hcF (s4 _ _ hc)),X4 hi,_,rfl,by lia,by lia,?_⟩
    refine Y2 (n:=nN f i) (λj σ HX=>∃ v5 v6 v7 v8 v9 v10 v11 v12,InL m c S F H H4 M f (ptsL f i ++ (List.range j).map λs=>1000 * i + s) σ HX (some (.int i)) v5 v6 v7 v8 v9 v10 v11 v12) ⟨_,_,_,_,_,_,_,_,rfl,by rw [List.range_zero,List.map_nil,List.append_nil]; exact i5⟩ ?_ ?_
    ·rintro j σ H6 hj ⟨v5,v6,v7,v8,v9,v10,v11,v12,rfl,i6⟩
     dsimp only [Zl]
     rw [Int.zero_add]
     have vd:VpP M f (1000 * i + j):=by
      have d:=W4 (p:=i) (s:=j) (by lia)
      unfold VpP
      rw [d.1,d.2]
      exact ⟨hi,hj⟩
     have kd:=Ziw (i:=i) (j:=j) (by lia)
     rw [List.range_succ,Aj,List.map_singleton,<- List.append_assoc]
     show _
     generalize (ptsL f i ++ (List.range j).map λs=>1000 * i + s)=L at i6 ⊢
     have gy:=@Zgn M f L (1000 * i + j)
     have gn:=@Ziz M f L (1000 * i + j)
     generalize 1000 * i + j=d at vd kd gy gn ⊢
     obtain ⟨of6,ks,as,hS6,sk6,hF6,rw6,fr6,pr6⟩:=i6
     have tri:∀ {H7:Hp},(∃ (ks:List (List Int)) (as:List Addr),H7 S=some (.dT (dkT ks))/\SeenK M f (Y7 M f (gT M f (L ++ [d]) []) []) ks/\H7 F=some (.lst (as.map V.ref))/\RwI H7 as ((gT M f (L ++ [d]) []).map (wL M f))/\(∀ a∈as,H a=none/\a≠S/\a≠F)/\PrD M f (gT M f (L ++ [d]) []))->Off S F H4 H7->TrI H H4 S F M f (L ++ [d]) H7:=λh1 h2=>⟨h2,h1⟩
     show _
     generalize gT M f (L ++ [d]) []=D' at gy gn tri
     generalize gT M f L []=D at sk6 rw6 pr6 gy gn
     refine Zn λnxC hnxC=>?_
     refine ⟨Nat.zero_le _,λW hW=>?_⟩
     refine (λ(G:∀ H7:Hp,Same H6 H7->H7 W=some (.lst ((([]:List Nat).map (· / 1000)).map nV))->nxC _ H7)=>G _ (Same.new hW) Zc) ?_
     intro H7 s7 hW7
     refine hnxC _ _ ?_
     try dsimp only [Zl]
     have hWS:W≠S:=λz=>by rw [z,hS6] at hW; cases hW
     have hWF:W≠F:=λz=>by rw [z,hF6] at hW; cases hW
     refine Zn λnxC hnxC=>?_
     refine ⟨_,rfl,?_⟩
     refine hnxC _ _ ?_
     try dsimp only [Zl]
     refine Zn λnxC hnxC=>?_
     refine ⟨_,rfl,?_⟩
     refine hnxC _ _ ?_
     try dsimp only [Zl]
     show tSeq (J9 _ _) _ _ _ _
     refine ⟨λmm σ H8=>∃ (os:List Nat) (x:Nat) (xp xs:Int) (ks:List (List Int)) (v9 v10 v11 v12:Option V),WhL m c S F W i j M f D d as H6 mm σ H8 os x xp xs ks v9 v10 v11 v12,⟨_,[],d,i,j,ks,_,_,_,_,rfl,rfl,kd.symm,Off.of s7,hW7,s7 _ _ hS6,sk6,.inl ⟨rfl,rfl⟩,s7 _ _ hF6⟩,?_⟩
     clear hW7 s7 hS6 sk6 hF6 v9 v10 v11 v12
     clear ks H7
     rintro mm σ H8 ⟨os,x,xp,xs,ks,v9,v10,v11,v12,rfl,rfl,kx,of8,hW8,hS8,sk8,wk,hF8⟩
     obtain ⟨rfl,rfl⟩:xp=((x / 1000:Nat):Int)/\xs=((x % 1000:Nat):Int):=by
      unfold kP at kx
      injection kx with k1 k2
      injection k2 with k2 _
      exact ⟨k1,k2⟩
     have vx:=fm.wlkV vd wk
     have mem:=sk8.mem x vx
     refine ⟨_,rfl,_,rfl,(by show 2<=sizeLine; decide),λq hq=>?_⟩
     have s9:Same H8 (upd H8 q (.tup [V.int ((x / 1000:Nat):Int),V.int ((x % 1000:Nat):Int)])):=Same.new hq
     have e9:(upd H8 q (.tup [V.int ((x / 1000:Nat):Int),V.int ((x % 1000:Nat):Int)])) q=some (.tup (((kP x).map Sum.inl:List Key).map kV)):=Zc
     have e9':(upd H8 q (.tup [V.int ((x / 1000:Nat):Int),V.int ((x % 1000:Nat):Int)])) q=some (.tup ((kP x).map V.int)):=Zc
     obtain ⟨gy1,gn1⟩:=Zl1 (s9 _ _ hS8) e9'
     have of9:=of8.trans (Off.of (a:=S) (b:=F) s9)
     have hW9:=s9 _ _ hW8
     have hS9:=s9 _ _ hS8
     have hF9:=s9 _ _ hF8
     clear e9 e9' hq s9 hW8 hS8 hF8 of8
     by_cases hk:kP x∈ks
     ·obtain ⟨vk,gk⟩:=gy1 hk
      refine ⟨_,rfl,S,_,rfl,gk,_,rfl,iteF ?_⟩
      have sn:=mem.mp hk
      have offD:=of6.trans of9
      have rw9:=rw6.off of9 λa ha=>(fr6 a ha).2
      refine ⟨_,rfl,W,_,rfl,.inl (SqL.of hW9),_,_,rfl,rfl,_,rfl,?_⟩
      rcases wk with ⟨rfl,rfl⟩ | ⟨hi',o,la,hl,r⟩
      ·have eD:=gy (Zd3.mp sn)
       rw [<- eD] at sk8 rw9 pr6
       exact iteF ⟨_,_,_,_,_,_,_,_,rfl,tri ⟨ks,as,hS9,sk8,hF9,rw9,fr6,pr6⟩ offD⟩
      ·have ex:=(fm.stops hsm pr6 vd hi' o hl r).mp sn
       rw [ex] at r
       have oe:OrbEnd (RnP M f) d os:=⟨o,la,hl,r⟩
       have hpos:=o.pos
       have hos:=fm.few hsm o.nodup (fm.orbV vd o)
       have eD:=gn hi'
       have pr8:=fm.prS hsm pr6 vd hi'
       have hDl:=fm.prL hsm pr8
       have sk9:=F4 oe sk8
       rw [<- eD] at sk9 pr8
       have hla:as.length<=600:=by rw [rw6.1,Ab]; rw [Ae,List.length_singleton] at hDl; lia
       have hlen:(0:Int) < (((os.map (· / 1000)).map nV).length:Nat):=by rw [Ab,Ab]; lia
       show if decide _=true then _ else _
       rw [decide_eq_true hlen]
       refine iteT ?_
       refine ⟨_,rfl,.inl ⟨rfl,_,SqL.of hF9⟩,_,rfl,_,rfl,m,W,M,os.map (· / 1000),rfl,offD _ _ hmS hmF (s4 _ _ hm),hW9,by rw [Ab]; lia,fm.plain vd oe,λl2 L2 HA sA hl2 hL2 isL=>?_⟩
       refine ⟨F,_,_,rfl,rfl,sA _ _ hF9,(by rw [Ab,sizeLine_eq]; lia),?_⟩
       have hl2S:l2≠S:=λz=>by rw [z,hS9] at hl2; cases hl2
       have hl2F:l2≠F:=λz=>by rw [z,hF9] at hl2; cases hl2
       have hl2H:H l2=none:=(offD.same s4 hS hF0).free hl2
       have ew:wL M f d=L2:=by unfold wL wdP; rw [Ub oe]; exact Zc6 isL
       have fr8:∀ a∈as ++ [l2],H a=none/\a≠S/\a≠F:=λa ha=>by
        rcases List.mem_append.mp ha with z | z
        ·exact fr6 a z
        ·rw [Af z]; exact ⟨hl2H,hl2S,hl2F⟩
       refine ⟨_,_,_,_,_,_,_,_,rfl,tri ⟨ks,as ++ [l2],by rw [Ze (Ne.symm hFS)]; exact sA _ _ hS9,sk9,by rw [Zc,Aj]; rfl,?_,fr8,pr8⟩ (offD.trans (Off.of sA)).b⟩
       rw [eD,Aj]
       refine ((rw9.same sA).snoc ?_).off (Off.b Off.refl) λa ha=>(fr8 a ha).2
       rw [ew]
       exact hL2
     ·obtain ⟨wk',hos⟩:=fm.wlkS hsm pr6 vd wk λz=>hk (mem.mpr z)
      refine ⟨_,rfl,S,_,rfl,gn1 hk,_,rfl,iteT ⟨_,λσ' H' h=>h,?_⟩⟩
      obtain ⟨q1,eq1,_⟩:=fm.sg vx
      have hp1:x / 1000 < M.length:=vx.1
      have hq1:q1 < M.length:=(Aa (fm.inv _ _ eq1).1).1
      have fq:f q1=f (x / 1000):=fm.pc.mate _ _ eq1
      have kl:=fm.seen_len hsm sk8
      refine Zn λnxC hnxC=>?_
      refine ⟨_,rfl,_,rfl,_,rfl,(by show 2<=sizeLine; decide),λq hq=>?_⟩
      have hqS:q≠S:=λz=>by rw [z,hS9] at hq; cases hq
      refine ⟨S,_,rfl,Zgt (k:=kP x) ((Same.new hq) _ _ hS9) Zc (by rw [sizeLine_eq]; lia) (V2 hk),?_⟩
      refine (λ(G:∀ HA:Hp,Off S F H6 HA->HA W=some (.lst ((os.map (· / 1000)).map nV))->HA S=some (.dT (dkT (ks ++ [kP x])))->HA F=some (.lst (as.map V.ref))->nxC _ HA)=>G _ (of9.trans (Off.of (Same.new hq))).a (by rw [Ze hWS]; exact (Same.new hq) _ _ hW9) Zc (by rw [Ze hFS]; exact (Same.new hq) _ _ hF9)) ?_
      intro HA ofA hWA hSA hFA
      refine hnxC _ _ ?_
      try dsimp only [Zl]
      have sk9:=sk8.snoc vx hk
      clear hqS hq hW9 hS9 hF9 of9 sk8 mem
      clear q
      refine Zn λnxC hnxC=>?_
      refine ⟨_,rfl,.inl ⟨rfl,_,SqL.of hWA⟩,_,rfl,W,_,_,rfl,rfl,hWA,(by rw [Ab,Ab,sizeLine_eq]; rw [Ae] at hos; lia),?_⟩
      refine (λ(G:∀ HB:Hp,Off S F H6 HB->HB W=some (.lst (((os ++ [x]).map (· / 1000)).map nV))->HB S=some (.dT (dkT (ks ++ [kP x])))->HB F=some (.lst (as.map V.ref))->nxC _ HB)=>G _ (ofA.new hW) (by rw [Zc,Aj,Aj]; rfl) (by rw [Ze (Ne.symm hWS)]; exact hSA) (by rw [Ze (Ne.symm hWF)]; exact hFA)) ?_
      intro HB ofB hWB hSB hFB
      refine hnxC _ _ ?_
      try dsimp only [Zl]
      clear hWA hSA hFA ofA
      have offB:=of6.trans ofB
      have hmB:=offB _ _ hmS hmF (s4 _ _ hm)
      have hcB:=offB _ _ hcS hcF (s4 _ _ hc)
      refine Zn λnxC hnxC=>?_
      refine ⟨_,rfl,_,rfl,m,_,_,_,rfl,rfl,SqL.of hmB,Z9 eq1,?_⟩
      refine hnxC _ _ ?_
      try dsimp only [Zl]
      refine Zn λnxC hnxC=>?_
      refine ⟨_,rfl,_,rfl,c,_,_,_,rfl,rfl,SqL.of hcB,X4 hq1,_,_,rfl,rfl,_,rfl,_,_,rfl,rfl,?_⟩
      refine hnxC _ _ ?_
      try dsimp only [Zl]
      have sgk:=fm.sg_key vx eq1
      rw [<- fq] at sgk
      obtain ⟨ks',put,sk'⟩:∃ ks',putK (dkT (ks ++ [kP x])) ((kP (sgP M f x)).map Sum.inl) (V.bl true)=dkT ks'/\SeenK M f (Y7 M f D (os ++ [x])) ks':=by
       by_cases hin:kP (sgP M f x)∈ks ++ [kP x]
       ·exact ⟨_,Zl0 hin,fm.seen_two vx (sk9.old hin)⟩
       ·exact ⟨_,V2 hin,fm.seen_two vx (sk9.snoc (fm.sgV vx) hin)⟩
      refine Zn λnxC hnxC=>?_
      refine ⟨_,rfl,_,rfl,_,rfl,(by show 2<=sizeLine; decide),λq hq=>?_⟩
      have hqS:q≠S:=λz=>by rw [z,hSB] at hq; cases hq
      refine ⟨S,_,rfl,Zgt (k:=kP (sgP M f x)) ((Same.new hq) _ _ hSB) (by rw [Zc,<- sgk]; rfl) (by rw [Ae,List.length_singleton,sizeLine_eq]; lia) put,?_⟩
      refine (λ(G:∀ HA:Hp,Off S F H6 HA->HA W=some (.lst (((os ++ [x]).map (· / 1000)).map nV))->HA S=some (.dT (dkT ks'))->HA F=some (.lst (as.map V.ref))->nxC _ HA)=>G _ (ofB.trans (Off.of (Same.new hq))).a (by rw [Ze hWS]; exact (Same.new hq) _ _ hWB) Zc (by rw [Ze hFS]; exact (Same.new hq) _ _ hFB)) ?_
      intro HA ofA hWA hSA hFA
      refine hnxC _ _ ?_
      try dsimp only [Zl]
      clear hqS hq hWB hSB hFB ofB offB hmB hcB
      have offA:=of6.trans ofA
      have hcA:=offA _ _ hcS hcF (s4 _ _ hc)
      refine Zn λnxC hnxC=>?_
      refine ⟨_,rfl,_,rfl,_,_,rfl,rfl,(by show (0:Int) < 3; decide),_,_,rfl,rfl,_,rfl,_,_,rfl,rfl,_,_,rfl,rfl,(by show (0:Int) < 3; decide),_,_,rfl,rfl,?_⟩
      refine hnxC _ _ ?_
      try dsimp only [Zl]
      refine Zn λnxC hnxC=>?_
      refine ⟨_,rfl,_,rfl,_,_,rfl,rfl,(by show (0:Int) < 3; decide),_,_,rfl,rfl,_,rfl,_,_,rfl,rfl,_,_,rfl,rfl,(by show (0:Int) < 3; decide),_,_,rfl,rfl,?_⟩
      refine hnxC _ _ ?_
      try dsimp only [Zl]
      obtain ⟨sa,sb⟩:=fm.sides hq1
      have atA:atI (rowI M.length f) ((q1:Int) - (q1:Int) % 3 + ((q1:Int) + 2) % 3)=some (V.int (f (bN q1))):=by rw [Zbw]; exact X4 sb
      have atB:atI (rowI M.length f) ((q1:Int) - (q1:Int) % 3 + ((q1:Int) + 1) % 3)=some (V.int (f (aN q1))):=by rw [Fa]; exact X4 sa
      have tk:=fm.tu_key (fm.sgV vx)
      obtain ⟨k1,k2⟩:sgP M f x / 1000=q1/\((sgP M f x % 1000:Nat):Int)=f q1 - 1 - ((x % 1000:Nat):Int):=by
       unfold kP at sgk
       injection sgk with k1 k2
       injection k2 with k2 _
       exact ⟨by lia,k2.symm⟩
      rw [k1,k2] at tk
      refine ⟨_,rfl,_,rfl,_,rfl,c,_,_,_,rfl,rfl,SqL.of hcA,atA,_,rfl,_,rfl,c,_,_,_,rfl,rfl,SqL.of hcA,X4 hq1,_,_,rfl,rfl,_,rfl,_,rfl,c,_,_,_,rfl,rfl,SqL.of hcA,atB,_,_,rfl,rfl,_,_,rfl,rfl,⟨by decide,by decide⟩,_,_,rfl,rfl,_,rfl,?_⟩
      have hlt:1200 - (os ++ [x]).length < 1200 - os.length:=by rw [Ae,List.length_singleton] at hos ⊢; lia
      refine ite2 (λz=>?_) (λz=>?_)
      ·rw [if_pos (of_decide_eq_true z),<- Zbw] at tk
       refine ⟨_,rfl,?_⟩
       try dsimp only [Zl]
       refine ⟨_,rfl,_,rfl,c,_,_,_,rfl,rfl,SqL.of hcA,atA,_,_,rfl,rfl,_,rfl,_,_,rfl,rfl,?_⟩
       exact ⟨_,hlt,os ++ [x],nxP M f x,_,_,ks',_,_,_,_,rfl,rfl,tk,ofA,hWA,hSA,sk',wk',hFA⟩
      ·rw [if_neg (λy=>z (decide_eq_true y)),<- Fa] at tk
       refine ⟨_,rfl,?_⟩
       try dsimp only [Zl]
       refine ⟨_,rfl,_,rfl,c,_,_,_,rfl,rfl,SqL.of hcA,X4 hq1,_,_,rfl,rfl,_,rfl,_,_,rfl,rfl,?_⟩
       exact ⟨_,hlt,os ++ [x],nxP M f x,_,_,ks',_,_,_,_,rfl,rfl,tk,ofA,hWA,hSA,sk',wk',hFA⟩
    ·rintro σ H6 ⟨v5,v6,v7,v8,v9,v10,v11,v12,rfl,i6⟩
     exact ⟨_,_,_,_,_,_,_,_,_,rfl,by rw [Zfq]; exact i6⟩
   ·rintro σ H5 ⟨v4,v5,v6,v7,v8,v9,v10,v11,v12,rfl,i5⟩
    exact hnx _ _ ⟨_,_,_,_,_,_,_,_,_,rfl,i5⟩
  ·rintro σ HX ⟨v4,v5,v6,v7,v8,v9,v10,v11,v12,rfl,off,ks,as,hSX,skX,hFX,rwX,frX,prX⟩
   have sX:Same H HX:=off.same s4 hS hF0
   have hDl:=fm.prL hsm prX
   obtain ⟨r1,r2⟩:=rwX.read
   have hal:as.length<=1000:=by rw [rwX.1,Ab]; lia
   refine ⟨_,rfl,F,as,rdI HX,rfl,SqL.of hFX,λa ha=>SqL.of (r1 a ha),hal,λq bs hq pm pw=>?_⟩
   have hbq:∀ b∈bs,b≠q:=λb hb z=>by have:=r1 b (pm.mem_iff.mp hb); rw [z,hq] at this; cases this
   refine k q _ (Same.add sX (sX.free hq)) ⟨bs,bs.map (rdI HX),sX.free hq,Zc,?_,?_,?_,λb hb=>(frX b (pm.mem_iff.mp hb)).1,λz=>hbq q z rfl,by rw [pm.length_eq]; exact hal⟩
   ·have:=RwI.of (H:=HX) (as:=bs) λb hb=>r1 b (pm.mem_iff.mp hb)
    exact ⟨this.1,λi a g e1 e2=>by rw [Ze (hbq a (List.mem_of_getElem? e1))]; exact this.2 i a g e1 e2⟩
   ·rw [List.pairwise_map]; exact pw
   ·unfold thrs; rw [r2]; exact pm.map _
theorem Zl2 {K:PySem.W.Frag} {H:Hp} {p q:Addr} {ks ks':List Int} {g g':Int->Int} (hp:H p=some (.dK (dI ks g))) (hq:H q=some (.dK (dI ks' g'))) (hk:ks.Perm ks') (hg:∀ x∈ks,g x=g' x):DAl K H (.ref p) (.ref q):=by
 refine ⟨p,q,_,_,rfl,rfl,.inl hp,.inl hq,by rw [Zbn,Zbn,hk.length_eq],λk v h=>?_⟩
 unfold dI at h
 obtain ⟨x,hx,e⟩:=List.mem_map.mp h
 cases e
 refine ⟨.int (g x),.int (g' x),Zgx (hk.mem_iff.mp hx),.int _,?_,rfl⟩
 rw [hg x hx]
 exact .int _
theorem Zkp {M:List (Option Nat)} {f:Nat->Int} {n d:Nat} (fm:Fam M f n) (hsm:sF f M.length<=1200) (vd:VpP M f d):(wL M f d).length<=1200:=by
 have o:=fm.orb hsm vd
 have h1:=fm.few hsm o.nodup (fm.orbV vd o.toOrb)
 unfold wL lstW
 by_cases hx:∃ L,HT.IsLeast (Jm M (wdP M f d)) L
 ·rw [dif_pos hx]
  obtain ⟨b,hb,e⟩:=hx.choose_spec.1
  have hw:(wdP M f d).length<=1200:=by unfold wdP; rw [Ab]; exact h1
  rcases e with e | e
  ·rw [e,X1,J7 _ (by lia)]; exact hw
  ·rw [e,X1,J7 _ (by rw [Yl]; lia),Yl]; exact hw
 ·rw [dif_neg hx]
  exact Nat.zero_le _
noncomputable def Zfa:Sp:=λvs H Q _=>∃ (a b:Addr) (ta tb:List Addr) (gs:List (List Int)),vs=[.ref a,.ref b]/\H a=some (.lst (ta.map V.ref))/\H b=some (.lst (tb.map V.ref))/\RwI H ta gs/\RwI H tb gs/\gs.length<=1000/\(∀ g∈gs,g.length<=1200)/\Q (.bl true) H
theorem Ol:FnScope ["_law_found","_law_due","_law_k"] ["_law_found","_law_due"] (Zi Gm):=⟨rfl,rfl,rfl,by decide +kernel,rfl,by decide +kernel,by decide +kernel⟩
theorem O5 (T:Txt w K mg t):FnOk P w K mg base (CXr P w) 3 t.cO t.cT ["_law_found","_law_due"] Zfa:=by
 refine T.bM.F.aR Ol (λcdv A outer s H vs Q E hr h=>?_)
 ·obtain ⟨a,b,ta,tb,gs,rfl,a1,b1,⟨a2,a3⟩,⟨b2,b3⟩,hl,hgl,k⟩:=h
  refine ⟨_,(Zd (Z4 (PW.pt (Q5 (X6 (X5 (Zk Js (by rfl) T.ap PyProof.Rows.boot_isinstance (Za (pv 0) (Za (V9 (v:=.ty "list") (by rfl) T.aJ PySem.Pv.boot_list rfl) Zb))))) (Qc (Zt Fo (Zk Zj (by rfl) T.ae PySem.boot_len (Za (pv 0) Zb)) (Zk Zj (by rfl) T.ae PySem.boot_len (Za (pv 1) Zb)) (Zu _))))) (Zg (Zr Wf)) Zv)
   (Zd (Ys PassesOwn.never rfl (Yb rfl T.af (Za (Zk Zj (by rfl) T.ae PySem.boot_len (Za (pv 1) Zb)) Zb)) (Zq (i:=2) Ol.nd rfl (Or.inl rfl)) (Zg (Z4 (X6 (X5 (pcT (Zf5 T) hr T.dC (Za (Zs Zp (pv 0) (pv 2) (λ_ _=>rfl)) (Za (Zs Zp (pv 1) (pv 2) (λ_ _=>rfl)) Zb))))) (Zg (Zr Wf)) Zv)))
   (Zg (Zr Wf)))),?_⟩
  have el:ta.length=tb.length:=by lia
  refine ⟨_,rfl,_,"list",_,true,rfl,TyOf.lst a1,U7,_,rfl,iteF ?_⟩
  refine ⟨_,rfl,a,_,rfl,.inl (SqL.of a1),_,rfl,b,_,rfl,.inl (SqL.of b1),rfl,_,rfl,?_⟩
  rw [show (!decide (V.int ((ta.map V.ref).length:Nat)=V.int ((tb.map V.ref).length:Nat)))=false by rw [Ab,Ab,el]; simp]
  refine iteF ?_
  dsimp only [Xx]
  show tSeq (tFor _ _ _) _ _ _ _
  refine Z7 (λσ H1=>H1=H) (λnx hnx=>?_) ?_
  ·refine ⟨_,rfl,b,_,rfl,.inl (SqL.of b1),_,rfl,by lia,by rw [Ab]; lia,?_⟩
   have eL:(((tb.map V.ref).length:Nat):Int).toNat=tb.length:=by simp
   rw [eL]
   refine Y2 (n:=tb.length) (λi σ H1=>∃ v,σ=[some (.ref a),some (.ref b),v]/\H1=H) ⟨none,rfl,rfl⟩ ?_ ?_
   ·rintro i σ H1 hlt ⟨v,rfl,rfl⟩
    have hlt':i < ta.length:=by lia
    have hg:i < gs.length:=by lia
    have e1:atI (ta.map V.ref) (0 + (i:Int))=some (V.ref ta[i]):=by rw [Int.zero_add]; exact Z9 (Ac hlt')
    have e2:atI (tb.map V.ref) (0 + (i:Int))=some (V.ref tb[i]):=by rw [Int.zero_add]; exact Z9 (Ac hlt)
    have t1:=a3 i _ _ (Ac hlt') (Ac hg)
    have t2:=b3 i _ _ (Ac hlt) (Ac hg)
    have h3:=hgl _ (List.getElem_mem hg)
    dsimp only [Zl]
    refine ⟨_,rfl,_,rfl,a,_,_,_,rfl,rfl,SqL.of a1,e1,_,rfl,_,rfl,b,_,_,_,rfl,rfl,SqL.of b1,e2,_,_,gs[i],rfl,t1,t2,by lia,_,rfl,iteF ?_⟩
    exact ⟨_,rfl,rfl⟩
   ·rintro σ H1 ⟨v,rfl,rfl⟩
    exact hnx _ _ rfl
  ·rintro σ H1 rfl
   exact k
theorem W0:FnScope ["_law_script","_law_mates","_law_rows_here","_law_tent_here","_law_nums","_law_counts","_law_handed","_law_due","_law_found"] ["_law_script"] (Zi Ziq):=⟨rfl,rfl,rfl,by decide +kernel,rfl,by decide +kernel,by decide +kernel⟩
theorem ok_law (T:Txt w K mg t):FnOk P w K mg base (CXr P w) 10 t.eF t.dW ["_law_script"] (sp_law K):=by
 refine T.eG.F.aR W0 (λcdv A outer s H vs Q E hr h=>?_)
 ·obtain ⟨a,sc,rfl,hS,hl,k⟩:=h
  refine ⟨_,(Zd (X7 (pcT (Zf2 T) hr T.dA (Za (pv 0) Zb)) (Qt rfl (Yj (Zq (i:=1) W0.nd rfl (Or.inl rfl)) (Yj (Zq (i:=2) W0.nd rfl (Or.inl rfl)) Je))))
   (Zd (Zo (i:=3) W0.nd rfl (Or.inl rfl) (Zjy T.eC (Za6 T) (hr.mono (by decide)) rfl T.ee T.b6.b .nil Xz (Za (Wx Wb (by rfl) T.aJ PySem.Pv.boot_list (Za (pv 2) Zb)) Zb)))
   (Zd (Zo (i:=4) W0.nd rfl (Or.inl rfl) (pcT (Qe T) hr T.aA (Za (pcT (Jw T) hr T.aG (Za (pv 0) (Za Zf Zb))) (Za Zf Zb))))
   (Zd (Zo (i:=5) W0.nd rfl (Or.inl rfl) (pcT (Zcc T) hr T.cH (Za (pv 4) (Za (pv 1) (Za (pcT (Zcb T) hr T.cI (Za (pv 0) (Za Zf (Za (pv 1) Zb)))) Zb)))))
   (Zd (Zo (i:=6) W0.nd rfl (Or.inl rfl) (pcT (O4 T) hr T.bL (Za (pv 2) (Za (pv 5) Zb))))
   (Zd (Zo (i:=7) W0.nd rfl (Or.inl rfl) (pcT (Zca T) hr T.cJ (Za (pv 1) (Za (pv 5) Zb))))
   (Zd (Zo (i:=8) W0.nd rfl (Or.inl rfl) (pcT (Gs T) hr T.cG (Za (pv 3) (Za (pv 6) Zb))))
   (Zd (Z4 (PW.pt (Q5 (Zt (Zj0 hr.units65) (pv 6) (pcT (O4 T) hr T.bL (Za (pv 2) (Za (pv 5) Zb))) (Zu _)) (Qc (X6 (X5 (pcT (O5 T) hr T.bM (Za (pv 8) (Za (pv 7) Zb)))))))) (Zg (Zr Wf)) Zv)
   (Zd (Z4 (Zt Jp (Zk Zj (by rfl) T.ae PySem.boot_len (Za (pv 8) Zb)) Zf (Zu _)) (Zd (Yg (Xy PySem.F.plainAttrs_list PySem.F.slot_list_append PySem.F.type_list_append Yh (Zs Zp (pv 8) Zf (λ_ _=>rfl)) (Za Zf Zb)))
   (Zg (Yg (Xy PySem.F.plainAttrs_list PySem.F.slot_list_append PySem.F.type_list_append Yh (pv 8) (Za (Y5 (Za Zf Zb)) Zb))))) Zv)
   (Zg (Zr (pcT (O5 T) hr T.bM (Za (pcT (Gs T) hr T.cG (Za (pv 3) (Za (pv 6) Zb))) (Za (pv 7) Zb)))))))))))))),?_⟩
  refine Zn λnxC hnxC=>?_
  refine ⟨_,rfl,a,sc,rfl,hS,hl,λp m r M ns H1 sm1 hp hm hr1 td h42 hm0 hr0=>?_⟩
  refine ⟨p,_,rfl,SqT.of hp,rfl,_,_,rfl,_,_,rfl,rfl,?_⟩
  refine hnxC _ _ ?_
  obtain ⟨ts,g1,g2,g3⟩:=id hr1
  refine Zn λnxC hnxC=>?_
  refine ⟨_,rfl,r,_,rfl,.inl (SqL.of g1),λl hl1=>?_⟩
  intro x dx hx hdx hne
  obtain ⟨rl2,s2⟩:=Zhb (C:=t.aa) g1 g2 g3 hl1 hx hdx
  refine ⟨x,l,dx,M,ns,rfl,Zc,rl2,td,by rw [td.len]; lia,λH3 old ta=>⟨rfl,?_⟩⟩
  have s3:Same H1 H3:=λb u e=>old b u (Zm ((Same.new hl1) b u e) hx) (s2 b u ((Same.new hl1) b u e))
  refine hnxC _ _ ?_
  have hr3:=hr1.same s3
  have hm3:=s3 _ _ hm
  have sH3:=sm1.trans s3
  have hMl:M.length=ns.length:=td.len.symm
  clear old rl2 s2 g1 g2 g3 hr1 hm0 hr0 hp hm s3 sm1 hx hdx hne hl1
  obtain ⟨n,n1,n40,hn⟩:=td.n
  have inv:InvM M:=td.inv
  try dsimp only [Zl]
  refine Zn λnxC hnxC=>?_
  refine ⟨_,rfl,a,sc,4,rfl,sH3.seq hS,hl,by decide,by decide,_,60,rfl,by decide,λnm xs H4 s4 hnm h4 hxl hxs=>?_⟩
  refine hnxC _ _ ?_
  try dsimp only [Zl]
  have sH4:=sH3.trans s4
  have hm4:=s4 _ _ hm3
  refine Zn λnxC hnxC=>?_
  refine ⟨_,rfl,_,rfl,_,rfl,_,rfl,a,m,sc,3,M,rfl,sH4.seq hS,hl,by decide,by decide,hm4,h42,⟨_,hn⟩,inv,λwd ws H5 s5 hwd h5 hw60 hpl=>?_⟩
  refine ⟨nm,m,wd,M,xs,ws,rfl,s5 _ _ h4,by lia,hxs,s5 _ _ hm4,⟨_,hn⟩,h42,inv,h5,hw60,hpl,λc f H6 s6 hc h6 pc le=>?_⟩
  refine hnxC _ _ ?_
  try dsimp only [Zl]
  have s36:=s4.trans (s5.trans s6)
  have hm6:=s36 _ _ hm3
  have hr6:=hr3.same s36
  have ta6:=ta.same s36
  clear s36 s4 s5 s6 hm3 hr3 ta sH3 sH4 hm4 h4 h5 hwd hpl hc hnm hxs
  refine Zn λnxC hnxC=>?_
  refine ⟨_,rfl,_,rfl,r,c,ns,f,rfl,hr6,by lia,(by rw [<- hMl]; exact h6),λd0 g0 H8 s8 hd0 h8 hg0=>?_⟩
  refine hnxC _ _ ?_
  try dsimp only [Zl]
  have nm0:Nm ns f g0:=Nm.of td pc hg0
  clear hg0
  have hsum:sF f ns.length<=1200:=by
   have:=Zak (n:=ns.length) (k:=27) (f:=f) λz hz=>le z (by lia)
   lia
  have hsm:sF f M.length<=1200:=by rw [hMl]; exact hsum
  have le9:∀ p,p < M.length->f p<=900:=λz hz=>by have:=le z (by lia); lia
  have fm:Fam M f n:=⟨pc,inv,hn,le9⟩
  refine Zn λnxC hnxC=>?_
  refine ⟨_,rfl,_,rfl,m,c,M,f,n,rfl,s8 _ _ hm6,s8 _ _ h6,fm,by lia,hsm,λl1 H9 s9 fa1=>?_⟩
  refine hnxC _ _ ?_
  try dsimp only [Zl]
  have s69:=s8.trans s9
  have hr9:=hr6.same s69
  have ta9:=ta6.same s69
  have hc9:=s69 _ _ h6
  have hd9:=s9 _ _ h8
  obtain ⟨bs1,gs1,_,hl1,rw1,pw1,pm1,_,_,bl1⟩:=fa1
  clear s69 s8 s9 hm6 hr6 ta6 h6 h8 hd0
  refine Zn λnxC hnxC=>?_
  refine ⟨_,rfl,_,rfl,x,d0,M,ns,f,g0,rfl,ta9,td,by lia,⟨_,hd9,.refl _⟩,nm0,pc,hsum,le9,λl2 HA sA fa2=>?_⟩
  refine hnxC _ _ ?_
  try dsimp only [Zl]
  obtain ⟨bs2,gs2,hl20,hl2,rw2,pw2,pm2,fr2,hno2,bl2⟩:=fa2
  have gall:∀ g∈gs1,g.length<=1200:=λg hg=>by
   have:=pm1.mem_iff.mp hg
   unfold thrs at this
   obtain ⟨d,hd,rfl⟩:=List.mem_map.mp this
   have pr:∀ (l D:List Nat),PrD M f D->(∀ c∈l,VpP M f c)->PrD M f (gT M f l D):=λl=>by
    induction l with
    | nil=>exact λD h _=>h
    | cons a l ih =>
     intro D h hv
     unfold gT
     by_cases z:inS M f D a
     ·rw [if_pos z]; exact ih D h λc hc=>hv c (List.mem_cons_of_mem _ hc)
     ·rw [if_neg z]; exact ih _ (fm.prS hsm h (hv a List.mem_cons_self) z) λc hc=>hv c (List.mem_cons_of_mem _ hc)
   exact Zkp fm hsm ((pr _ [] PrD.nil λc hc=>fm.pts_mem.mp hc).ok d hd)
  have hgl1:gs1.length<=1000:=by rw [<- rw1.1]; exact bl1
  have e12:=Fw (pm2.trans pm1.symm) pw2 pw1
  refine Zn λnxC hnxC=>?_
  refine ⟨_,rfl,_,rfl,_,rfl,r,c,ns,f,rfl,hr9.same sA,by lia,(by rw [<- hMl]; exact sA _ _ hc9),λdn gn HN sN hdn hN hgn=>?_⟩
  have nmn:Nm ns f gn:=Nm.of td pc hgn
  refine ⟨Zl2 (sN _ _ (sA _ _ hd9)) hN (.refl _) (λy hy=>nm0.same nmn hy),_,rfl,iteF ?_⟩
  have sAN:=sA.trans sN
  refine ⟨_,rfl,_,rfl,l2,l1,bs2,bs1,gs1,rfl,sN _ _ hl2,sAN _ _ hl1,(by rw [<- e12]; exact rw2.same sN),rw1.same sAN,hgl1,gall,_,rfl,iteF ?_⟩
  try dsimp only [Xx]
  refine hnxC _ _ ?_
  refine Z7 (λσ HX=>σ=[some (.ref a),some (.ref m),some (.ref r),some (.ref x),some (.ref nm),some (.ref c),some (.ref d0),some (.ref l1),some (.ref l2)]/\Same H9 HX) (λnx hnx=>?_) ?_
  ·refine ⟨_,rfl,l2,_,rfl,.inl (SqL.of (sN _ _ hl2)),_,_,rfl,rfl,_,rfl,?_⟩
   refine ite2 (λz=>?_) (λz=>?_)
   ·have hpos:0 < bs2.length:=by have:=of_decide_eq_true z; rw [Ab] at this; lia
    obtain ⟨a0,ha0⟩:∃ a0,bs2[0]?=some a0:=⟨_,Ac hpos⟩
    have hm0:=List.mem_of_getElem? ha0
    have hg0:0 < gs2.length:=by rw [<- rw2.1]; exact hpos
    have r0:=sN _ _ (rw2.2 0 a0 _ ha0 (Ac hg0))
    have hgl:(gs2[0]).length<=1200:=gall _ (by rw [<- e12]; exact List.getElem_mem hg0)
    have n0:l2≠a0:=λy=>hno2 (by rw [y]; exact hm0)
    refine Zn λnxD hnxD=>?_
    refine ⟨_,rfl,l2,_,_,_,rfl,rfl,SqL.of (sN _ _ hl2),(show atI (bs2.map V.ref) 0=some (V.ref a0) from Z9 (i:=0) ha0),.inl ⟨rfl,_,SqL.of r0⟩,a0,_,_,rfl,rfl,r0,(by rw [Ab,sizeLine_eq]; lia),?_⟩
    refine (λ(G:∀ HX:Hp,Same H9 HX->HX l2=some (.lst (bs2.map V.ref))->nxD _ HX)=>G _ (Same.add sAN (fr2 a0 hm0)) (by rw [Ze n0]; exact sN _ _ hl2)) ?_
    intro HX sX hX
    refine hnxD _ _ ?_
    refine ⟨_,rfl,.inl ⟨rfl,_,SqL.of hX⟩,(by show 1<=sizeLine; decide),λq hq=>?_⟩
    refine ⟨l2,_,_,rfl,rfl,(Same.new hq) _ _ hX,(by rw [Ab,sizeLine_eq]; lia),?_⟩
    exact hnx _ _ ⟨rfl,Same.add (Same.add sX (sX.free hq)) hl20⟩
   ·exact hnx _ _ ⟨rfl,sAN⟩
  rintro σ HX ⟨rfl,sX⟩
  refine ⟨_,rfl,_,rfl,x,d0,M,ns,f,g0,rfl,ta9.same sX,td,by lia,⟨_,sX _ _ hd9,.refl _⟩,nm0,pc,hsum,le9,λl3 HB sB fa3=>?_⟩
  obtain ⟨bs3,gs3,_,hl3,rw3,pw3,pm3,_⟩:=fa3
  have e31:=Fw (pm3.trans pm1.symm) pw3 pw1
  have sXB:=sX.trans sB
  refine ⟨_,rfl,l3,l1,bs3,bs1,gs1,rfl,hl3,sXB _ _ hl1,(by rw [<- e31]; exact rw3),rw1.same sXB,hgl1,gall,k _⟩
end
end KT
open PySem PySem.W PyProof.Rows
namespace PySem.W.Fast
def tw931145955811417290:=0
def tw6824594204629770094:=0
def tw13882411025268807334:=0
def tw15851741026808703935:=0
def tw12223861811625375533:=0
def tw11321797013421923897:=0
def tw11921415832901148731:=0
def tw15917023131348198651:=0
def tw1504946471196339066:=0
def tw10357576098708069154:=0
def tw4343513094994653588:=0
def tw12251643014944946931:=0
def tw7677792621224715143:=0
def tw12996612737387644827:=0
def tw2458985282723553188:=0
def tw15573041225978636367:=0
def tw16333794425728884327:=0
def tw16496082094895789698:=0
def tw5710125377272392191:=0
def tw13337302235352517298:=0
def tw15575785489824120966:=0
def tw10612762527131208659:=0
def tw15795483305054242932:=0
def tw16211689699928940571:=0
def tw1176830394247824263:=0
def tw9633814825080767687:=0
def tw17155458173200019822:=0
def tw1763842634871647519:=0
def tw17905326977018094801:=0
def tw6272088451015116257:=0
def tw8033775039047729175:=0
def tw10779813873653385581:=0
def tw14731664785282701674:=0
def tw860425310584553645:=0
def tw11462999444837473373:=0
def tw3229324186858297965:=0
def tw11546402818960127549:=0
def tw15771614474641603110:=0
def tw15549286093180743168:=0
def tw10718620660951268635:=0
def tw5612091184214337190:=0
def tw17403123062200274583:=0
def tw8259207538229780427:=0
def tw11391261497701568630:=0
def tw4046388657822560149:=0
def tw1391802492529440026:=0
def tw244471705491162042:=0
def tw3230986709663956844:=0
def tw2611926901218277865:=0
def tw8372718453018999692:=0
def tw325183488522558052:=0
def tw1674119166712495799:=0
def tw14359065334687878701:=0
def tw15655935075760358738:=0
def tw17643680068648611890:=0
def tw8555997984156523976:=0
def tw10246558521165738507:=0
def tw13400470222074391692:=0
def tw13409391935079696596:=0
def tw13741310006434824962:=0
def tw10370554452883493550:=0
def tw8342261794574582296:=0
def tw4011702664704190122:=0
def tw10350850396889774405:=0
def tw9130463961580888103:=0
def tw12693322771586397685:=0
def tw16049751289282228771:=0
def tw12095799471755230846:=0
def tw4695001376121084984:=0
def tw1490500991826197732:=0
def tw12751034137486439275:=0
def tw10890548794531009220:=0
def tw4900861099377497755:=0
def tw4380837187347524885:=0
def tw15981575894392200303:=0
def tw17275572064157417095:=0
def tw13620104732688390053:=0
def tw3526675149786777018:=0
def tw12205614104264350011:=0
def tw13213568655046366239:=0
def tw13052873298204582952:=0
def tw17860910309808076172:=0
def tw3416028693443843109:=0
def tw8979164223503592749:=0
def tw16919606679708837526:=0
def tw8860721029226228874:=0
def tw8123737519578485660:=0
def tw13990583060943760313:=0
def tw14198724830932522200:=0
def tw3276257626101724875:=0
def tw5383268054303743384:=0
def tw1363888703670314241:=0
def tw3845428383932842443:=0
def tw6791796608026940194:=0
def tw6036962610370124702:=0
def tw12884645514561652632:=0
def tw1568338817002842739:=0
def tw16246628633365378205:=0
def tw4503477544916341231:=0
def tw8377784850448221922:=0
def tw15995681380179178054:=0
def tw9177793513199893051:=0
def tw4017934771193582343:=0
def tw11068883361884561012:=0
def tw1501709940718639250:=0
def tw9052538775742437189:=0
def tw18336373299543923518:=0
def tw10659219187776777659:=0
def tw17541133705980090940:=0
def tw388351733490264865:=0
def tw10441183937053331190:=0
def tw15542667342387046459:=0
def tw5737996762749265581:=0
def tw11972071530090938814:=0
def tw6354809123456166729:=0
def tw16193026008810287772:=0
def tw7198332516555875503:=0
def tw2812536083937067944:=0
def tw7920866724340220075:=0
def tw7457673199903586696:=0
def tw3673231523661332662:=0
def tw16361593239120233419:=0
def tw12421406718613427552:=0
def tw17930075276579020039:=0
def tw2685653107231796449:=0
def tw8153672984270601700:=0
def tw9981493217961788598:=0
def tw12650666003924521306:=0
def tw11057447734600248396:=0
def tw10549194772020164425:=0
def tw1709486250202558177:=0
def tw2317727467082148246:=0
def tw13198765904039558211:=0
def tw13021130144734514462:=0
def tw11973936739576571760:=0
def tw5258224409353207610:=0
def tw1268130987580117190:=0
def tw5760861299012578731:=0
def tw39895849597166159:=0
def tw18380913877276896261:=0
def tw4696759338047705640:=0
def tw7706237401010683594:=0
def tw7950584813571752034:=0
def tw15086683952167383258:=0
def tw16058463372525588609:=0
def tw9147376507463364124:=0
def tw11167718905359494393:=0
def tw9868700375672572941:=0
def tw9879013690502724538:=0
def tw7476113725692072854:=0
def tw16207742606466355374:=0
def tw2293374758281934210:=0
def tw17382308620100126619:=0
def tw5215519211427338550:=0
def tw12015106063400082865:=0
def tw5390103114910856652:=0
def tw12566547987179775331:=0
def tw8252450803737608341:=0
def tw9676992659857833311:=0
def tw4561968168517444359:=0
def tw317331347219683414:=0
def tw11072543016887735429:=0
def tw16332504068555769204:=0
def tw12999075282693289817:=0
def tw6841452104078012415:=0
def tw9943260675769480583:=0
def tw14648492103562884948:=0
def tw1615070162063121828:=0
def tw6143904000975197115:=0
def tw12755740780885560519:=0
def tw16408351371259715850:=0
def tw14263949300591829614:=0
def tw9307272702338270470:=0
def tw7032550980622000847:=0
def tw1145341604108496601:=0
def tw7683692538118689171:=0
def tw10285901804020705313:=0
def tw1258289546875688218:=0
def tw3478436896809474035:=0
def tw14139186832265122988:=0
def tw13345013413243536266:=0
def tw1446329048875777858:=0
def tw13988775317850164434:=0
def tw182045397685944864:=0
def tw5083571177249816045:=0
def tw9143474705135736087:=0
def tw16614958667962533641:=0
def tw9574286993637581699:=0
def tw8711257739455943192:=0
def tw12732918934473056428:=0
def tw887292400178175581:=0
def tw11628783342780130860:=0
def tw2779399854877223975:=0
def tw17268329736502026149:=0
def tw13190536117559552325:=0
def tw3773619401586353306:=0
def tw7102163691221483355:=0
def tw11832891113504131158:=0
def tw4824637392129150009:=0
def tw12608105173439738590:=0
def tw7161782333675130188:=0
def tw9808936350810277508:=0
def tw12442708024771720741:=0
def tw16626466636617497875:=0
def tw14265553140595221859:=0
def tw5060398606023511825:=0
def tw4896892146942141543:=0
def tw15066982921258815956:=0
def tw7192068187195312395:=0
def tw110679127520260887:=0
def tw13466045545705393027:=0
def tw11426971501173864778:=0
def tw13555813860057215400:=0
def tw13265078381683225563:=0
def tw14268419482654131859:=0
def tw4867171269467266701:=0
def tw10786565982202796896:=0
def tw4015161263854093142:=0
def tw12266794236385272:=0
def tw6192526924239544409:=0
def tw821780113254722951:=0
def tw14505525096297569596:=0
def tw18099895362131855729:=0
def tw1204914757256060272:=0
def tw6564106731265013382:=0
def tw17014563658018628135:=0
def tw2318911447334370733:=0
def tw16801803413406353589:=0
def tw12626905212839317115:=0
def tw15134589648631854244:=0
def tw6685851100601429460:=0
def tw14146424731047082163:=0
def tw4115143761515233665:=0
def tw11084918280281325380:=0
def tw12201187065923676078:=0
def tw14692120739391777337:=0
def tw14442392773087770349:=0
def tw11657853311110980820:=0
def tw11324836633817382382:=0
def tw8028084403217003721:=0
def tw3088408575383399239:=0
def tw2939629641577032501:=0
def tw9013061973165897887:=0
def tw17665578074697273630:=0
def tw9269905626530148208:=0
def tw17264808403222092744:=0
def tw6374387777882586468:=0
def tw17279894894404371284:=0
def tw10978690555575115571:=0
def tw9699844170758764849:=0
def tw1380861679452182450:=0
def tw8138562983979388260:=0
def tw4814022909866564668:=0
def tw417220680215979005:=0
def tw4733864829952074412:=0
def tw12857014289155794726:=0
def tw17031985893874135775:=0
def tw8511740320694441344:=0
def tw9597993809115114263:=0
def tw3192202640626847632:=0
def tw8770294796130323869:=0
def tw4279852619440661818:=0
def tw7191463660820685504:=0
def tw4922514923275334467:=0
def tw10507288618418398499:=0
def tw11007708859821457260:=0
def tw2412310257028362923:=0
def tw3228607965909785992:=0
def tw10642726303356767200:=0
def tw11088080372495013595:=0
def tw13597295287437702818:=0
def tw15597052804798393069:=0
def tw3913687691338596019:=0
def tw10635175812294643894:=0
def tw5227584890905520594:=0
def tw10405804175824089583:=0
def tw4465562561609090638:=0
def tw1446375931129123110:=0
def tw11709611490743590859:=0
def tw4270112622145459259:=0
def tw12033778302373027786:=0
def tw3728122964362776987:=0
def tw1165474888719810311:=0
def tw407409134732176355:=0
def tw2460567004294806191:=0
def tw5676261821948303060:=0
def tw15830129997210595302:=0
def tw8644894084305400641:=0
def tw7448076456642644690:=0
def tw3399405065867137565:=0
def tw7738676583679014827:=0
def tw1273208550535932295:=0
def tw7782918234205161779:=0
def tw2068440101462660656:=0
def tw6224912675163268829:=0
def tw15605097155043417357:=0
def tw5796226879163150853:=0
def tw9731614415621054930:=0
def tw8981512067695021985:=0
def tw10521366162768056771:=0
def tw12504331574840199655:=0
def tw11447617392334708126:=0
def tw13838231010921376717:=0
def tw12264530230895376915:=0
def tw4623633917152028352:=0
def tw5836327665742994717:=0
def tw4078117171356979311:=0
def tw9964212949510027706:=0
def tw4606216362896414480:=0
def tw835785607427807186:=0
def tw10764174511392747270:=0
def tw15972791740703984426:=0
def tw1801413957195205392:=0
def tw1643514344139920155:=0
def tw1296613795262067232:=0
def tw10464312046477369064:=0
def tw2127462358294425443:=0
def tw123376006384026309:=0
def tw5321769160439210042:=0
def tw11176623444982284050:=0
def tw12399741073909480254:=0
def tw15494210472714072174:=0
def tw5349124217004965382:=0
def tw7546780965714144283:=0
def tw18170482684979882853:=0
def tw12287264395709799564:=0
def tw17981362779556690864:=0
def tw17124908781086136844:=0
def tw6458319797325391078:=0
def tw13978517636628742149:=0
def tw31407485457312706:=0
def tw6778821208013941398:=0
def tw948315146576752144:=0
def tw971806240454940218:=0
def tw6416543271914964587:=0
def tw3599136968048505691:=0
def tw951336477239685505:=0
def tw7951884559936272345:=0
def tw16832710257728496968:=0
def tw3779111559001200835:=0
def tw15094418081549045507:=0
def tw13109947528279177384:=0
def tw5485165562876169270:=0
def tw13204633813948739347:=0
def tw5945318101906453065:=0
def tw11700878364052348114:=0
def tw16986667047006114278:=0
def tw9294379296790846645:=0
def tw12112584674423787754:=0
def tw4451323636462473174:=0
def tw18266859620419432317:=0
def tw15835418346940941218:=0
def tw2580727443694654738:=0
def tw6387949574423197442:=0
def tw10668029862099260099:=0
def tw8729810982713769397:=0
def tw11361810850105342343:=0
def tw16094144722302575806:=0
def tw8135122650708124925:=0
def tw14809161974556237362:=0
def tw14791702381544026824:=0
def tw13235730701946280859:=0
def tw8858833004159736874:=0
def tw9261880604035262918:=0
def tw7698474158241269173:=0
def tw1226605000596804684:=0
def tw11732492092088436872:=0
def tw9379340921042232590:=0
def tw11361063276099992455:=0
def tw7272621161698244562:=0
def tw4894673395174735245:=0
def tw8258155293504738969:=0
def tw2502863164851195180:=0
def tw9172548705217445617:=0
def tw15410125029564978163:=0
def tw10055651480406934812:=0
def tw7322663446216918626:=0
def tw10825954557351784188:=0
def tw5341453139187009213:=0
def tw2866127600362776491:=0
def tw10211887559118776758:=0
def tw15905017748049719072:=0
def tw16796443284229956948:=0
def tw10710709843318320855:=0
def tw11582118089283618970:=0
def tw14447576231595826722:=0
def tw16052016815835945960:=0
def tw13663477325079548362:=0
def tw15002701624353700710:=0
def tw13021686403829796839:=0
def tw14285180233367453113:=0
def tw11202012045009077566:=0
def tw7314826594629238898:=0
def tw15747731353729644205:=0
def tw6005252480028309794:=0
def tw5301660056680409115:=0
def tw1992604101219792165:=0
def tw11891170800389125589:=0
def tw13342098522046804914:=0
def tw8363029790616211679:=0
def tw14842342180884240745:=0
def tw5431159856887550585:=0
def tw12800169268798973028:=0
def tw12523628624103580039:=0
def tw10618944371013778467:=0
def tw6269044193445323131:=0
def tw7485948607849165841:=0
def tw980789040488823983:=0
def tw10018131351502111000:=0
def tw11051262490399010040:=0
def tw4108094185683273530:=0
def tw6510630770034830656:=0
def tw3586781445822621387:=0
def tw17698739608537892076:=0
def tw17972395020241756445:=0
def tw15227260290376731966:=0
def tw9825298070245203803:=0
def tw6150137074417238530:=0
def tw13051726943170541337:=0
def tw1556836127805930563:=0
def tw6201624008189554705:=0
def tw15290546117955546983:=0
def tw12987686503017064057:=0
def tw10882525223724435669:=0
def tw17656699384956371110:=0
def tw8817171803634704200:=0
def tw9537925292777563233:=0
def tw13332111162162525398:=0
def tw4196532697433414473:=0
def tw15786840036679636490:=0
def tw8029128380281013101:=0
def tw7225344770297186003:=0
def tw13812141273581407189:=0
def tw8719605431045388781:=0
def tw5457456956073381143:=0
def tw9801112613597260335:=0
def tw4783778834456552070:=0
def tw17783498509764039877:=0
def tw11998431013257301534:=0
def tw7079846853207713281:=0
def tw7801016429920379897:=0
end PySem.W.Fast
set_option maxRecDepth 100000 in
set_option maxHeartbeats 0 in
theorem PySem.Challenge.cw_tentloops_k32_traced_threads_holds : PySem.Challenge.rw_tentloops_k32_traced_threads.Holds := by
 w_on; o_law; k_head; (case hw=>w_witness2)
 k_fill
 refine L2.walk_r (l:=PySem.Challenge.rw_tentloops_k32_traced_threads) (k:=10) (spl:=KT.sp_law) rfl rfl ⟨rfl,by decide,by decide⟩ (fun w h Y=>PySem.W.kIn_of Y) (fun K H a ns hl hS=>KT.sp_law_start hl hS) ?F
 case F =>
  intro w mg fa h KX G hmg
  have T:∃ t,KT.Txt w (L2.KOf KX) mg t:=by
   dsimp only [L2.KOf]
   refine' ⟨⟨_,_,_,_,_,_,_,_,_,_,_,_,_,_,_,_,_,_,_,_,_,_,_,_,_,_,_,_,_,_,_,_,_,_,_,_,_,_,_,_,_,_,_,_,_,_,_,_,_,_,_,_,_,_,_,_,_,_,_,_,_,_,_,_,_,_,_,_,_,_,_,_,_,_,_,_,_,_,_,_,_,_,_,_,_,_,_,_,_,_,_,_,_,_,_,_,_,_⟩,⟨mg_of KX G ?_,⟨?_,?_,?_,?_⟩,?_,?_,?_,?_,KT.FT.of KX G (KT.ba1 (fun _ _ _ _ _ _ _ _=>rfl) rfl) ?_ ?_ ?_ ?_,KT.FT.of KX G (KT.ba1 (fun _ _ _ _ _ _ _ _=>rfl) rfl) ?_ ?_ ?_ ?_,KT.FT.of KX G (KT.ba1 (fun _ _ _ _ _ _ _ _=>rfl) rfl) ?_ ?_ ?_ ?_,KT.FT.of KX G (KT.ba1 (fun _ _ _ _ _ _ _ _=>rfl) rfl) ?_ ?_ ?_ ?_,KT.FT.of KX G (KT.ba2 (fun _ _ _ _ _ _ _ _ _=>rfl) rfl) ?_ ?_ ?_ ?_,KT.FM.of (KT.ba2 (fun _ _ _ _ _ _ _ _ _=>rfl) rfl) ?_ ?_ ?_ ?_ ?_,KT.FM.of (KT.ba1 (fun _ _ _ _ _ _ _ _=>rfl) rfl) ?_ ?_ ?_ ?_ ?_,KT.FM.of (KT.ba1 (fun _ _ _ _ _ _ _ _=>rfl) rfl) ?_ ?_ ?_ ?_ ?_,KT.FM.of (KT.ba1 (fun _ _ _ _ _ _ _ _=>rfl) rfl) ?_ ?_ ?_ ?_ ?_,KT.FM.of (KT.ba2 (fun _ _ _ _ _ _ _ _ _=>rfl) rfl) ?_ ?_ ?_ ?_ ?_,KT.FM.of (KT.ba2 (fun _ _ _ _ _ _ _ _ _=>rfl) rfl) ?_ ?_ ?_ ?_ ?_,KT.FM.of (KT.ba2 (fun _ _ _ _ _ _ _ _ _=>rfl) rfl) ?_ ?_ ?_ ?_ ?_,KT.FM.of (KT.ba2 (fun _ _ _ _ _ _ _ _ _=>rfl) rfl) ?_ ?_ ?_ ?_ ?_,KT.FM.of (KT.ba2 (fun _ _ _ _ _ _ _ _ _=>rfl) rfl) ?_ ?_ ?_ ?_ ?_,KT.FM.of (KT.ba2 (fun _ _ _ _ _ _ _ _ _=>rfl) rfl) ?_ ?_ ?_ ?_ ?_,KT.FT.of KX G (KT.ba2 (fun _ _ _ _ _ _ _ _ _=>rfl) rfl) ?_ ?_ ?_ ?_,KT.FT.of KX G (KT.ba3 (fun _ _ _ _ _ _ _ _ _ _=>rfl) rfl) ?_ ?_ ?_ ?_,KT.FT.of KX G (KT.ba2 (fun _ _ _ _ _ _ _ _ _=>rfl) rfl) ?_ ?_ ?_ ?_,KT.FT.of KX G (KT.ba2 (fun _ _ _ _ _ _ _ _ _=>rfl) rfl) ?_ ?_ ?_ ?_,KT.FT.of KX G (KT.ba2 (fun _ _ _ _ _ _ _ _ _=>rfl) rfl) ?_ ?_ ?_ ?_,KT.FT.of KX G (KT.ba2 (fun _ _ _ _ _ _ _ _ _=>rfl) rfl) ?_ ?_ ?_ ?_,KT.FT.of KX G (KT.ba1 (fun _ _ _ _ _ _ _ _=>rfl) rfl) ?_ ?_ ?_ ?_,KT.FT.of KX G (KT.ba2 (fun _ _ _ _ _ _ _ _ _=>rfl) rfl) ?_ ?_ ?_ ?_,KT.FT.of KX G (KT.ba2 (fun _ _ _ _ _ _ _ _ _=>rfl) rfl) ?_ ?_ ?_ ?_,KT.FT.of KX G (KT.ba2 (fun _ _ _ _ _ _ _ _ _=>rfl) rfl) ?_ ?_ ?_ ?_,KT.FT.of KX G (KT.ba2 (fun _ _ _ _ _ _ _ _ _=>rfl) rfl) ?_ ?_ ?_ ?_,KT.FT.of KX G (KT.ba3 (fun _ _ _ _ _ _ _ _ _ _=>rfl) rfl) ?_ ?_ ?_ ?_,KT.FT.of KX G (KT.ba2 (fun _ _ _ _ _ _ _ _ _=>rfl) rfl) ?_ ?_ ?_ ?_,KT.FT.of KX G (KT.ba3 (fun _ _ _ _ _ _ _ _ _ _=>rfl) rfl) ?_ ?_ ?_ ?_,KT.FT.of KX G (KT.ba2 (fun _ _ _ _ _ _ _ _ _=>rfl) rfl) ?_ ?_ ?_ ?_,KT.FT.of KX G (KT.ba2 (fun _ _ _ _ _ _ _ _ _=>rfl) rfl) ?_ ?_ ?_ ?_,KT.FT.of KX G (KT.ba2 (fun _ _ _ _ _ _ _ _ _=>rfl) rfl) ?_ ?_ ?_ ?_,KT.FT.of KX G (KT.ba3 (fun _ _ _ _ _ _ _ _ _ _=>rfl) rfl) ?_ ?_ ?_ ?_,KT.FT.of KX G (KT.ba3 (fun _ _ _ _ _ _ _ _ _ _=>rfl) rfl) ?_ ?_ ?_ ?_,KT.FT.of KX G (KT.ba1 (fun _ _ _ _ _ _ _ _=>rfl) rfl) ?_ ?_ ?_ ?_,KT.FT.of KX G (KT.ba2 (fun _ _ _ _ _ _ _ _ _=>rfl) rfl) ?_ ?_ ?_ ?_,KT.FT.of KX G (KT.ba3 (fun _ _ _ _ _ _ _ _ _ _=>rfl) rfl) ?_ ?_ ?_ ?_,KT.FT.of KX G (KT.ba2 (fun _ _ _ _ _ _ _ _ _=>rfl) rfl) ?_ ?_ ?_ ?_,KT.FT.of KX G (KT.ba3 (fun _ _ _ _ _ _ _ _ _ _=>rfl) rfl) ?_ ?_ ?_ ?_,KT.FT.of KX G (KT.ba2 (fun _ _ _ _ _ _ _ _ _=>rfl) rfl) ?_ ?_ ?_ ?_,KT.FT.of KX G (KT.ba2 (fun _ _ _ _ _ _ _ _ _=>rfl) rfl) ?_ ?_ ?_ ?_,KT.FT.of KX G (KT.ba2 (fun _ _ _ _ _ _ _ _ _=>rfl) rfl) ?_ ?_ ?_ ?_,KT.FT.of KX G (KT.ba1 (fun _ _ _ _ _ _ _ _=>rfl) rfl) ?_ ?_ ?_ ?_,KT.FT.of KX G (KT.ba2 (fun _ _ _ _ _ _ _ _ _=>rfl) rfl) ?_ ?_ ?_ ?_,KT.FT.of KX G (KT.ba2 (fun _ _ _ _ _ _ _ _ _=>rfl) rfl) ?_ ?_ ?_ ?_,KT.FT.of KX G (KT.ba1 (fun _ _ _ _ _ _ _ _=>rfl) rfl) ?_ ?_ ?_ ?_,⟨?_,?_,?_,?_⟩,mg_of KX G ?_,mg_of KX G ?_,fun s u=>.of_eq rfl,mg_none_of KX G ?_,mg_none_of KX G ?_,mg_none_of KX G ?_,mg_none_of KX G ?_,mg_none_of KX G ?_,mg_none_of KX G ?_,mg_none_of KX G ?_,mg_none_of KX G ?_,mg_none_of KX G ?_,mg_none_of KX G ?_,mg_none_of KX G ?_,mg_none_of KX G ?_,mg_none_of KX G ?_,mg_none_of KX G ?_,mg_none_of KX G ?_,mg_none_of KX G ?_,mg_none_of KX G ?_,mg_of KX G ?_,⟨?_⟩,mg_of KX G ?_,⟨?_⟩,mg_of KX G ?_,⟨?_⟩⟩⟩
   any_goals first | k_is | k_exc | rfl | kernel_rfl
  obtain ⟨t,T⟩:=T
  have e0:=hmg.symm.trans T.eG.g
  cases e0
  refine' ⟨_,?b,fun base kb nb=>KT.ok_law T⟩
  exact T.bl
#print axioms PySem.Challenge.cw_tentloops_k32_traced_threads_holds
