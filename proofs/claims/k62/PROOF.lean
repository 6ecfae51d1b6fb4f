import PyProof.Rows.All
import Wide.All
import OpenK.AllK
import Wide.FinOn
import Lean
import PyProof.EqAt
import PyProof.EqKinds
import PyProof.TupleCall
import PySem.Challenge.RW_tentloops_k62_refused_turns_keep
set_option Elab.async false
set_option linter.all false
set_option autoImplicit true
set_option relaxedAutoImplicit true
set_option maxRecDepth 100000
open List
open Nat
universe u v
set_option hygiene false
set_option compiler.extract_closed false
local macro_rules|`((a:))=>`(FnOk P w K mg base (CXr P w))|`((b:))=>`(λ_ _ _ _ H vs Q E hr h=>?_)|`((c:))=>`(⟨rfl,by decide +kernel,by decide +kernel,Yb (by rfl),⟨⟨rfl,rfl,Or.inl rfl⟩,trivial⟩⟩)|`((d:))=>`(by decide)|`((e:))=>`(model X.prog X.w)|`((f:))=>`(Yh X (blkN ts fv) scope C s₀ H₀ ex)|`((g:))=>`(Or.inl rfl)|`((h:))=>`(.DictComp kx vx (⟨t0,i0,f0,0⟩ :: j7) scope pos)|`((i:))=>`(putF "names_at" (.ref N) (putF "cloths" (.ref D) []))|`((j:))=>`(λ_ _=>rfl)|`((k:))=>`(Zn Zm (by rfl) T.am PySem.boot_len (Za (pv 0) Zc))|`((l:))=>`(forIn f0 true λc r=>if r=true then do let ok <- isTrue c env (eval c env); pure (ForInStep.yield ok) else pure (ForInStep.yield r))|`((m:))=>`(.ListComp mf (⟨t0,i0,f0,0⟩ :: j7) scope pos)|`((n:))=>`(Addr × Obj)|`((o:))=>`((envOfC qual scope s.heap.objs.size f cd :: outer))|`((p:))=>`(⟨λi m σ H=>m=xs.length - i/\i<=xs.length/\Pv i σ H,⟨xs.length,by simp,Az _,h0⟩,?_⟩)|`((q:))=>`((∀ σ' H',N σ' H'->∃ m',m' < m/\W (i + 1) m' σ' H'))|`((r:))=>`(putF "cloths" (.ref D) [])|`((s:))=>`(⟨rfl,by decide +kernel,by decide +kernel,Yb (by rfl),trivial⟩)|`((t:))=>`(Str.ofString "most")|`((u:))=>`(Builtin.Range.rangeFitsLong a && Builtin.Range.rangeFitsLong b && Builtin.Range.rangeFitsLong 1 && Builtin.Range.rangeFitsLong (-1) && Builtin.Range.rangeFitsLong (a - 1) && Builtin.Range.rangeFitsLong (Builtin.Range.rangeSize a b 1))|`((v:))=>`(Za (pv 1) Zc)|`((w:))=>`((1000000000000000000000000000000000000000000000000000000000000,1))|`((x:))=>`(.lst ((Y5 M left a b ((Xh ks).take i)).map nV ++ [nV (j9 left a b i')]))|`((y:))=>`(⟨_,Y,dd,_,0,_,Y,Y,SqT.of hd,Y,Y,_,Y,iteF ?_⟩)|`((z:))=>`(.lst (ts.map V.ref))|`((A:))=>`(match ns[n]? with | some x=>if x∈keys ns n then keys ns n else keys ns n ++ [x] | none=>keys ns n)|`((B:))=>`(k == NameKind.free && env.scope.kind == .function && env.kindOf n == some .cell)|`((C:))=>`(putF "scene" (.ref sc) (putF "began" (.ref x) []))|`((D:))=>`(Str.ofString "part")|`((E:))=>`(λz=>ns.getD (j9 (!left) i j z) 0)|`((F:))=>`(PyProof.Rows.callWith_type1 (thn (ha pos j5 s σ H _ I h) λus s1 ⟨vs,H1,I1,r1,q1⟩=>?_) (by rw [hs,nv]) (by rw [nv]; rfl))|`((G:))=>`(sqX ns a b)|`((H:))=>`(ns.map V.int)|`((I:))=>`(Or.inr rfl)|`((J:))=>`(⟨rfl,I.turned (t':=s.toks) (λb o hb e=>eb b o hb e) f0 f1 f3 f4 f5⟩)|`((K:))=>`(mfil left i j (3 * n) (λz=>(M.getD (j9 (!left) i j z) none).map (j9 left i j)) none 0)|`((L:))=>`(.ListComp mf [⟨t0,i0,f0,0⟩,⟨t1,i1,f1,0⟩] scope pos)|`((M:))=>`(⟨⟨xs,xs[i],q,by simp [kl]⟩,Pv (i + 1),λσ' H' p'=>⟨xs.length - (i + 1),by lia,Y,kl,p'⟩,λx H' y=>?_⟩)|`((N:))=>`(λ_ _ _=>rfl)|`((O:))=>`(PySem.W.fnOf x q (Xp st) (Y4 st) (Zg st) .none kV k7 pm an kn ct)|`((P:))=>`(I7.pin (b,o) (mem_append_right _ (mem_append_right _ (Jg hb e))))|`((Q:))=>`(putF "began" (.ref x) [])|`((R:))=>`(j9 (!left) i j z)|`((S:))=>`(s.heap.objs.size + 1)|`((T:))=>`(cxOf (CXr P w) P w K mg base N qual (Zg st) f kn A outer s H E)|`((U:))=>`(Za (pv 2) Zc)|`((V:))=>`((∀ (i j:Nat),M[i]?=some (some j)->M[j]?=some (some i)/\i≠j))|`((W:))=>`(Yg I q (by simp))|`((X:))=>`(λ_ _ _ z=>nomatch z)|`((Y:))=>`(blkN ts fv)|`((Z:))=>`(x == ("__debug__":Str))|`((aa:))=>`(Str × Sd)|`((ab:))=>`(λnx kh=>?_)|`((ac:))=>`(⟨⟨xs,ys,xs[i],ys[i],q1,q2,by simp [kl],by simp [uc]⟩,Pv (i + 1),λσ' H' p'=>⟨xs.length - (i + 1),by lia,Y,kl,p'⟩,λx H' y=>?_⟩)|`((ad:))=>`(s1.heap.push { cls:=.type "range",data:=.fields #[.int i t,.int (i + n) t',.int 1 s1.toks] })|`((ae:))=>`(envOfC qual scope s.heap.objs.size f cd)|`((af:))=>`(keys ns ns.length)|`((ag:))=>`(⟨none,Y,Same.new hD,Zb⟩)|`((ah:))=>`(λ_ _ _ _=>Yi)
local macro_rules|`((ai:))=>`(hr.mono (d:))|`((aj:))=>`(λ_ _ _ _=>(Zk (i:=0) (show List.Nodup (["_law_p","_law_mates"]:List Str) from by decide +kernel) rfl (g:) (I:)))|`((ak:))=>`(Zv Yp (pv 1) Zf (j:))|`((al:))=>`(backTo pos (starEach es X.env))|`((am:))=>`(by with_unfolding_all rfl)|`((an:))=>`(by show (0:Int) < 3; decide)|`((ao:))=>`((((M.map mV).length:Nat):Int))|`((ap:))=>`(((s.heap.push o1).push o2).push { cls:=.type "tuple",data:=.seq #[.ref s.heap.objs.size,.ref (s.heap.push o1).objs.size] })|`((aq:))=>`(.lst (ws.map nV))|`((ar:))=>`(.frz o (.dK kvs))|`((as:))=>`(Zp (pv 0) rfl)|`((au:))=>`(wpAny_pyIter_list pl.isList ⟨s.heap.objs.size,_,_,_,_,_,λi=>bs.getD i true,Y,Walks.list (A:=X.A.in1) (show X.A.in1.handled=none from I.ok.hd hc) s.heap.objs.size p ne its.toArray,⟨⟨_,Ap _ Y,Y,Y⟩,pl.isList.push _⟩,?_,?_⟩)|`((av:))=>`(rowI M.length λp=>if p=q then crP M (ws.take i) q + 1 else crP M (ws.take i) p)|`((aw:))=>`(.lst (M.map mV))|`((ax:))=>`(wpAny_mono (wpAny_comprehension_free (use:=some (assign (.Name y py) X.env)) (Q:=λ_ s'=>SP X j5 D0 .next s') Y hs (Qv λy hy e=>I.ok.has y.1 (B.free y hy e)) B.kind B.names ?_) (λ_ s' hq=>wpAny_pure (wpAny_pure hq)) λ_ _ e=>e)|`((ay:))=>`(show false=true from hs)|`((az:))=>`(⟨kl,Pv (i + 1),λσ' H' p'=>⟨n - (i + 1),by lia,Y,kl,p'⟩,λx H' y=>?_⟩)|`((a0:))=>`(model prog w)|`((a1:))=>`(λz=>absurd (Ao e) (by rw [Af z]; exact Nat.lt_irrefl _))|`((a2:))=>`(⟨o,e,λv z=>by rw [d] at z; cases z⟩)|`((a3:))=>`(by unfold Y3; split <;> simp [e])|`((a4:))=>`(PySem.W.hideAll s'.heap ((e :: T.toList) ++ frs (o:)))|`((a5:))=>`(λz=>hc (by simp [z]))|`((a6:))=>`(.ref s.heap.objs.size)|`((a7:))=>`(A.deeper (envOfC qual (Zg st) s.heap.objs.size f kn))|`((a8:))=>`((false,eval e X.env))|`((a9:))=>`(X4 (.ref te) (.ref th) (.ref po) (.ref wo))|`((ba:))=>`(⟨λi m σ H=>m=n - i/\i<=n/\Pv i σ H,⟨n,by simp,Az _,h0⟩,?_⟩)|`((bb:))=>`(by show 2<=sizeLine; decide)|`((bc:))=>`(.lst (k8.map V.int))
abbrev Lq:=List (Option Nat)
theorem Y{α:Sort v}{a:α}:a=a:=rfl
def An(n:Nat):n<=n:=Nat.le_refl n
def Ao{h:PySem.Heap}{a:PySem.Addr}{o:PySem.Obj}:h.get? a=some o->a<h.objs.size:=PySem.Heap.lt_size
def Ap(h:PySem.Heap){o:PySem.Obj}:o.isFreed=false->(h.push o).get? h.objs.size=some o:=PySem.Heap.get?_push_size h
def Aq{α:Type u}{a:List α}:a.toArray.size=a.length:=size_toArray
def Ar{α:Type u}{b:α}{l:List α}{a:α}:a∈b::l->a=b\/a∈l:=mem_cons.mp
def As{a b:Nat}:a<b->a≠b:=ne_of_lt
def At{α:Type u}{a:α}:[a].length=1:=length_singleton
def Au{α:Type u}{l:List α}{i:Nat}{a:α}:l[i]?=some a->a∈l:=mem_of_getElem?
def Av{α:Type u}{l k:List α}{i:Nat}:i<l.length->(l++k)[i]?=l[i]?:=getElem?_append_left
def Aw{α:Type u}{l:List α}{i:Nat}:l.take (i+1)=l.take i++l[i]?.toList:=take_add_one
def Ax{α:Type u}{a b:α}:some a=some b->a=b:=Option.some.inj
def Ay{α:Type u}{l:List α}{i:Nat}:l.length<=i->l[i]?=none:=getElem?_eq_none
def Az(n:Nat):0<=n:=zero_le n
def Aa{α:Type u}{i:Nat}{a:α}{l:List α}:l[i]?=some a->∃ h:i<l.length,l[i]=a:=List.getElem?_eq_some_iff.mp
def Ab{α:Type u}{β:Type v}{as:List α}(f:α->β):(as.map f).length=as.length:=length_map f
def Ac{α:Type u}{l:List α}{i:Nat}(h:i<l.length):l[i]?=some l[i]:=getElem?_eq_getElem h
def Ad{α:Type u}{l:List α}{i:Nat}{a:α}:l.getD i a=l[i]?.getD a:=getD_eq_getElem?_getD
def Ae{α:Type u}{as bs:List α}:(as++bs).length=as.length+bs.length:=length_append
def Af{α:Type u}{a b:α}:a∈[b]->a=b:=mem_singleton.mp
def Ag{n m k:Nat}:n<m->m<=k->n<k:=Nat.lt_of_lt_of_le
def Ah{α:Type u}{β:Type v}{f:α->β}{l:List α}{i:Nat}:(l.map f)[i]?=(l[i]?).map f:=getElem?_map
def Ai{α:Type u}{i:Nat}{l:List α}:(l.take i).length=min i l.length:=length_take
def Aj{α:Type u}{β:Type v}{f:α->β}{l₁ l₂:List α}:(l₁++l₂).map f=l₁.map f++l₂.map f:=map_append
def Ak{h:PySem.Heap}{a:PySem.Addr}{o':PySem.Obj}(o:PySem.Obj)(e:h.get? a=some o'):(h.push o).get? a=some o':=PySem.Heap.get?_push_of_some o e
def Al{α β:Type}{M:PySem.Model}{A:PySem.Around}{E:PySem.Value->PySem.Shared->Prop}{s:PySem.Shared}{m:PySem.Sem α}{f:α->PySem.Sem β}{Q:β->PySem.Shared->Prop}(h:PySem.wpAny M A m (λa s'=>PySem.wpAny M A (f a) Q E s') E s):PySem.wpAny M A (m>>=f) Q E s:=PySem.wpAny_bind h
namespace KX
set_option genSizeOf false
set_option genInjectivity false
variable{A B C D F G H I J K L M N O Q R S T:Type}
inductive E2(P:A->B->Prop):Prop|mk (a b)(_:P a b):E2 P
inductive E3(P:A->B->C->Prop):Prop|mk (a b c)(_:P a b c):E3 P
inductive E4(P:A->B->C->D->Prop):Prop|mk (a b c d)(_:P a b c d):E4 P
inductive E5(P:A->B->C->D->F->Prop):Prop|mk (a b c d e)(_:P a b c d e):E5 P
inductive E6(P:A->B->C->D->F->G->Prop):Prop|mk (a b c d e f)(_:P a b c d e f):E6 P
inductive E7(P:A->B->C->D->F->G->H->Prop):Prop|mk (a b c d e f g)(_:P a b c d e f g):E7 P
inductive E8(P:A->B->C->D->F->G->H->I->Prop):Prop|mk (a b c d e f g h)(_:P a b c d e f g h):E8 P
inductive E9(P:A->B->C->D->F->G->H->I->J->Prop):Prop|mk (a b c d e f g h i)(_:P a b c d e f g h i):E9 P
inductive E10(P:A->B->C->D->F->G->H->I->J->K->Prop):Prop|mk (a b c d e f g h i j)(_:P a b c d e f g h i j):E10 P
inductive E11(P:A->B->C->D->F->G->H->I->J->K->L->Prop):Prop|mk (a b c d e f g h i j k)(_:P a b c d e f g h i j k):E11 P
inductive E14(P:A->B->C->D->F->G->H->I->J->K->L->M->N->O->Prop):Prop|mk (a b c d e f g h i j k l m n)(_:P a b c d e f g h i j k l m n):E14 P
inductive E17(P:A->B->C->D->F->G->H->I->J->K->L->M->N->O->Q->R->S->Prop):Prop|mk (a b c d e f g h i j k l m n o p q)(_:P a b c d e f g h i j k l m n o p q):E17 P
inductive E18(P:A->B->C->D->F->G->H->I->J->K->L->M->N->O->Q->R->S->T->Prop):Prop|mk (a b c d e f g h i j k l m n o p q r)(_:P a b c d e f g h i j k l m n o p q r):E18 P
inductive A3(a b c:Prop):Prop|mk:a->b->c->A3 a b c
inductive A4(a b c d:Prop):Prop|mk:a->b->c->d->A4 a b c d
inductive A5(a b c d e:Prop):Prop|mk:a->b->c->d->e->A5 a b c d e
inductive A6(a b c d e f:Prop):Prop|mk:a->b->c->d->e->f->A6 a b c d e f
inductive A7(a b c d e f g:Prop):Prop|mk:a->b->c->d->e->f->g->A7 a b c d e f g
inductive A8(a b c d e f g h:Prop):Prop|mk:a->b->c->d->e->f->g->h->A8 a b c d e f g h
inductive A9(a b c d e f g h i:Prop):Prop|mk:a->b->c->d->e->f->g->h->i->A9 a b c d e f g h i
inductive A10(a b c d e f g h i j:Prop):Prop|mk:a->b->c->d->e->f->g->h->i->j->A10 a b c d e f g h i j
inductive A11(a b c d e f g h i j k:Prop):Prop|mk:a->b->c->d->e->f->g->h->i->j->k->A11 a b c d e f g h i j k
inductive A13(a b c d e f g h i j k l m:Prop):Prop|mk:a->b->c->d->e->f->g->h->i->j->k->l->m->A13 a b c d e f g h i j k l m
open Lean in
def ex(xs:Syntax)(b:Term):MacroM Term:=do
 let x:=xs[0]
 let bs:Array (Syntax×Option Syntax):=if x.getKind==``Lean.unbracketedExplicitBinders then x[0].getArgs.map λi=>(i,if x[1].isNone then none else some x[1][1]) else x.getArgs.foldl (λa y=>a++y[1].getArgs.map λi=>(i,some y[3])) #[]
 if bs.size<2 then Macro.throwUnsupported
 let mut c:Array Term:=#[]
 let mut t:Term:=b
 for _ in [:23] do
  match t with
  |`($p/\$q)=>c:=c.push p;t:=q
  |_=>break
 c:=c.push t
 let mut e:Term:=b
 if c.size≥3 then e:=Syntax.mkApp (mkIdent (.mkStr `_root_.KX s!"A{c.size}")) c
 for (i,y) in bs.reverse do
  let i:Term:=⟨if i[0].isIdent then i[0] else mkIdent `_x⟩
  e←match y with
   |none=>`(fun $i=>$e)
   |some y=>`(fun ($i : $(⟨y⟩))=>$e)
 return Syntax.mkApp (mkIdent (.mkStr `_root_.KX s!"E{bs.size}")) #[e]
end KX
local macro_rules|`(∃ $xs:explicitBinders,$b)=>KX.ex xs b
set_option maxHeartbeats 4000000
namespace L2
open PySem PySem.Spec PyProof.Rows
abbrev Key:=Sum Int Str
noncomputable def Vg:Key->Value->Bool
 | .inl k,v=>Value.isInt k v
 | .inr x,v=>Value.isStrOf x v
noncomputable def keyH (w:World):Key->Int
 | .inl k=>hashInt k
 | .inr x=>hashStr w x
theorem Xc:∀ {k:Key} {v:Value},Vg k v=true->(∃ i t,k=Sum.inl i/\v=Value.int i t)\/(∃ x t,k=Sum.inr x/\v=Value.str x t)
 | .inl i,v,h=>by
  obtain ⟨t,e⟩:=Value.isInt_shape (k:=i) (v:=v) h;exact .inl ⟨i,t,Y,e⟩
 | .inr x,v,h=>by
  obtain ⟨t,e⟩:=Value.isStrOf_shape (x:=x) (v:=v) h;exact .inr ⟨x,t,Y,e⟩
def Zl9 (i:Int) (t:Tok):Vg (.inl i) (.int i t)=true:=by simp [Vg,Value.isInt]
def Q2 (x:Str) (t:Tok):Vg (.inr x) (.str x t)=true:=by simp [Vg,Value.isStrOf]
def Zr3 (a b:Int):decide ((Sum.inl a:Key)=Sum.inl b)=(a == b):=by
 by_cases e:a=b
 ·subst e; simp
 ·have h:¬ (Sum.inl a:Key)=Sum.inl b:=λq=>e (Sum.inl.inj q)
  rw [decide_eq_false h];exact (beq_eq_false_iff_ne.mpr e).symm
def Zr0 (a b:Str):decide ((Sum.inr a:Key)=Sum.inr b)=decide (a=b):=by
 by_cases e:a=b
 ·subst e; simp
 ·have h:¬ (Sum.inr a:Key)=Sum.inr b:=λq=>e (Sum.inr.inj q)
  rw [decide_eq_false h,decide_eq_false e]
def Zr2 (a:Int) (b:Str):decide ((Sum.inl a:Key)=Sum.inr b)=false:=decide_eq_false (λq=>nomatch q)
def Zr1 (a:Str) (b:Int):decide ((Sum.inr a:Key)=Sum.inl b)=false:=decide_eq_false (λq=>nomatch q)
noncomputable def Z2 (prog:Program) (w:World):PySem.KeyKind prog w Key where
 is:=Vg
 hash:=keyH w
 inj:=λv a b ha hb=>by
  rcases Xc ha with ⟨i,t,rfl,rfl⟩ | ⟨x,t,rfl,rfl⟩
  ·rcases Xc hb with ⟨j,u,rfl,e⟩ | ⟨y,u,rfl,e⟩
   ·injection e with e1 _; rw [e1]
   ·exact nomatch e
  ·rcases Xc hb with ⟨j,u,rfl,e⟩ | ⟨y,u,rfl,e⟩
   ·exact nomatch e
   ·injection e with e1 _; rw [e1]
 byValue:=λk v h=>by
  rcases Xc h with ⟨i,t,rfl,rfl⟩ | ⟨x,t,rfl,rfl⟩ <;> rfl
 pyHash:=λhv h=>by
  rcases Xc hv with ⟨i,t,rfl,rfl⟩ | ⟨x,t,rfl,rfl⟩
  ·exact wpAny_pyHash_int h
  ·exact wpAny_pyHash_str h
 eqBool:=λhu hv h=>by
  rcases Xc hu with ⟨i,t,rfl,rfl⟩ | ⟨x,t,rfl,rfl⟩
  ·rcases Xc hv with ⟨j,u,rfl,rfl⟩ | ⟨y,u,rfl,rfl⟩
   ·rw [Zr3] at h; exact wpAny_eqBool_int h
   ·rw [Zr2] at h; exact SeqAt.EqAt.int_str i t y u _ _ _ _ h
  ·rcases Xc hv with ⟨j,u,rfl,rfl⟩ | ⟨y,u,rfl,rfl⟩
   ·rw [Zr1] at h; exact SeqAt.EqAt.str_int x t j u _ _ _ _ h
   ·rw [Zr0] at h; exact wpAny_eqBool_str h
 «strs»:=λk x t v h=>by
  rcases Xc h with ⟨i,u,rfl,e⟩ | ⟨y,u,rfl,e⟩
  ·exact nomatch e
  ·injection e with e1 _
   subst e1;cases v <;> rfl
def Zhr (prog:Program) (w:World) (i:Int) (t:Tok):(Z2 prog w).is (.inl i) (.int i t)=true:=Zl9 i t
def Zhq (prog:Program) (w:World) (x:Str) (t:Tok):(Z2 prog w).is (.inr x) (.str x t)=true:=Q2 x t
inductive V where
 | non | bl (b:Bool) | int (i:Int) | str (x:Str) | byt (b:Array UInt8) | flt (b:UInt64) | ref (a:Addr) | ty (n:String)
 deriving DecidableEq
set_option genInjectivity false
set_option genSizeOf false
def RelV:V->Value->Prop
 | .non,u=>u=Value.none
 | .bl b,u=>u=Value.bool b
 | .int i,u=>∃ t,u=Value.int i t
 | .str x,u=>∃ t,u=Value.str x t
 | .byt b,u=>∃ t,u=Value.bytes b t
 | .flt b,u=>∃ t,u=Value.float b t
 | .ref a,u=>u=Value.ref a
 | .ty n,u=>u=Value.type n
abbrev Vals:List V->List Value->Prop:=Paired RelV
def Vals.length {xs:List V} {us:List Value} (r:Vals xs us):xs.length=us.length:=Paired.length r
theorem Vals.get:∀ {xs:List V} {us:List Value} {i:Nat} {x:V},Vals xs us->xs[i]?=some x->∃ u,us[i]?=some u/\RelV x u
 | _,_,_,_,.nil,e=>by simp at e
 | _,_,0,_,.cons r _,e=>by simp at e; subst e; exact ⟨_,Y,r⟩
 | _,_,i + 1,x,.cons _ t,e=>by
  obtain ⟨u,h1,h2⟩:=Vals.get (i:=i) (x:=x) t (by simpa using e);exact ⟨u,by simpa using h1,h2⟩
theorem Vals.set (r:RelV x u):∀ {xs:List V} {us:List Value} (i:Nat),Vals xs us->Vals (xs.set i x) (us.set i u)
 | _,_,_,.nil=>.nil
 | _,_,0,.cons _ t=>.cons r t
 | _,_,i + 1,.cons q t=>.cons q (Vals.set r i t)
theorem Vals.append:∀ {xs ys:List V} {us ws:List Value},Vals xs us->Vals ys ws->Vals (xs ++ ys) (us ++ ws)
 | _,_,_,_,.nil,s=>s
 | _,_,_,_,.cons r t,s=>.cons r (Vals.append t s)
theorem Vals.take:∀ {xs:List V} {us:List Value} (n:Nat),Vals xs us->Vals (xs.take n) (us.take n)
 | _,_,0,_=>.nil
 | _,_,_ + 1,.nil=>.nil
 | _,_,n + 1,.cons r t=>.cons r (Vals.take n t)
theorem Vals.drop:∀ {xs:List V} {us:List Value} (n:Nat),Vals xs us->Vals (xs.drop n) (us.drop n)
 | _,_,0,r=>r
 | _,_,_ + 1,.nil=>.nil
 | _,_,n + 1,.cons _ t=>Vals.drop n t
def RelO:Option V->Option Value->Prop
 | some v,some u=>RelV v u
 | none,none=>True
 | _,_=>False
def KV {κ:Type}:List (κ × V)->List (κ × Value)->Prop:=Paired λ(p:κ × V) (q:κ × Value)=>p.1=q.1/\RelV p.2 q.2
noncomputable def kV:Key->V
 | .inl i=>.int i
 | .inr x=>.str x
inductive HO where
 /-- a list -/
 | lst (xs:List V)
 /-- a tuple (never changes) -/
 | tup (xs:List V)
 /-- a dict whose keys are ints and texts; one whose keys are tuples of ints and texts (the empty one is both) -/
 | dK (kvs:List (Key × V)) | dT (kvs:List (List Key × V))
 /-- a set of ints: its members,its size -/
 | set (S:Int->Bool) (n:Nat)
 /-- an instance of the class at C,its dict at dx,its attributes -/
 | ins (C dx:Addr) (fs:List (Str × V))
 /-- the dict of the instance at x -/
 | own (x:Addr)
 /-- the dict of an exception -/
 | xd (fs:List (Str × V))
 /-- a bound method,f of x -/
 | met (f x:Addr)
 /-- a range object lo,lo + 1,.. below hi -/
 | rng (lo hi:Int)
 /-- a thing that is known to the object (the script; a dict while a loop walks it): read,never written while it is so -/
 | frz (o:Obj) (u:HO)
 /-- a code object's table -/
 | tbl (ps:Array Value)
 /-- any other thing,by what is true of its one object (a def of one's own: SetO a S n:=HO.ext λh=>..) -/
 | ext (φ:Heap->Prop)
abbrev Hp:=Addr->Option HO
noncomputable def upd (H:Hp) (a:Addr) (o:HO):Hp:=λb=>if b=a then some o else H b
def Zb:upd H a o a=some o:=by unfold upd; rw [if_pos rfl]
def Zd (h:b≠a):upd H a o b=H b:=by unfold upd; rw [if_neg h]
def Zs7 {H:Hp} (h:H a=some o) (h':H b=some u) (d:o≠u):a≠b:=by
 intro e; subst e; rw [h] at h'; exact d (Ax h')
def Zi {H:Hp} (h:H a=some o) (h':H b=none):a≠b:=by
 intro e; subst e; rw [h] at h'; cases h'
section
variable (P:Program) (w:World)
def Yo (H:Hp) (h:Heap) (a:Addr):HO->Prop
 | .lst xs=>xs.length<=sizeLine/\∃ (its:List Value) (n:Nat),Vals xs its/\h.get? a=some { cls:=.type "list",data:=.seq its.toArray n }
 | .tup xs=>xs.length<=sizeLine/\∃ its:List Value,Vals xs its/\IsTup h a its.toArray
 | .dK kvs=>kvs.length<=sizeLine/\(a == sysModules)=false/\∃ vs,KV kvs vs/\h.DictOf (Z2 P w) a vs
 | .dT kvs=>kvs.length<=sizeLine/\(a == sysModules)=false/\∃ xs:List (List Key × Addr × Value),
   Paired (λ(p:List Key × V) (q:List Key × Addr × Value)=>p.1=q.1/\H q.2.1=some (.tup (p.1.map kV))/\RelV p.2 q.2.2) kvs xs /\
   ∃ o es ep,h.get? a=some o/\o.ExactDict/\o.data=.dict es ep/\es.toList=xs.map (entryOfKey (tupleKind (Z2 P w)))/\(xs.map (·.1)).Nodup
 | .set S n=>h.SetOf (intKind P w) a S n
 | .ins C dx fs=>H dx=some (.own a)/\fs.length<=1000/\dx≠a/\h.get? a=some (PySem.W.instObj C dx) /\
   ∃ mA,h.Ns1 dx mA/\(∀ f,RelO (fs.lookup f) (mA f))/\PySem.Within mA (fs.map (·.1))
 | .own _=>∃ o,h.get? a=some o
 | .xd fs=>∃ mA,h.Ns1 a mA/\∀ f,RelO (fs.lookup f) (mA f)
 | .rng lo hi=>∃ t u v,h.get? a=some { cls:=.type "range",data:=.fields #[.int lo t,.int hi u,.int 1 v] }
 | .frz o u=>h.get? a=some o/\Yo H h a u
 | .tbl ps=>h.get? a=some { cls:=.none,data:=.fields ps }
 | .met f x=>h.get? a=some (PySem.W.methodObj (.ref f) (.ref x))
 | .ext φ=>φ h/\(∃ o,h.get? a=some o)/\∀ h1 h2:Heap,φ h1->(∀ o,h1.get? a=some o->h2.get? a=some o)->φ h2
def HOk (H:Hp) (h:Heap):Prop:=∀ a o,H a=some o->Yo P w H h a o
end
section
variable {P:Program} {w:World} {H H':Hp} {h h':Heap} {a:Addr} {o:HO}
def Yo.lt (x:Yo P w H h a o):a < h.objs.size:=by
 cases o with
 | lst xs=>obtain ⟨_,_,_,_,e⟩:=x; exact Ao e
 | tup xs=>obtain ⟨_,_,_,p⟩:=x; exact p.lt
 | dK kvs=>obtain ⟨_,_,_,_,o,_,_,e,_⟩:=x; exact Ao e
 | dT kvs=>obtain ⟨_,_,_,_,o,_,_,e,_⟩:=x; exact Ao e
 | set S n=>obtain ⟨o,_,_,_,e,_⟩:=x; exact Ao e
 | ins C dx fs=>obtain ⟨_,_,_,e,_⟩:=x; exact Ao e
 | own y=>obtain ⟨_,e⟩:=x; exact Ao e
 | xd fs=>obtain ⟨_,⟨_,_,_,e,_⟩,_⟩:=x; exact Ao e
 | rng lo hi=>obtain ⟨_,_,_,e⟩:=x; exact Ao e
 | frz ob u=>obtain ⟨e,_⟩:=x; exact Ao e
 | tbl ps=>exact Ao (show h.get? a=some _ from x)
 | met f y=>exact Ao (show h.get? a=some _ from x)
 | ext φ=>obtain ⟨_,⟨_,e⟩,_⟩:=x; exact Ao e
theorem Paired.mapP {α β:Type} {F G:α->β->Prop}:∀ {l₁:List α} {l₂:List β},Paired F l₁ l₂->(∀ a b,F a b->G a b)->Paired G l₁ l₂
 | _,_,.nil,_=>.nil
 | _,_,.cons r t,f=>.cons (f _ _ r) (Paired.mapP t f)
def Yo.stay (x:Yo P w H h a o) (k:∀ b u,(b=a\/H b=some (.own a))->h.get? b=some u->h'.get? b=some u)
  (ho:∀ b,H b=some (.own a)->H' b=some (.own a)) (ht:∀ b xs,H b=some (.tup xs)->H' b=some (.tup xs)):Yo P w H' h' a o:=by
 induction o with
 | lst xs=>obtain ⟨z,its,n,r,e⟩:=x; exact ⟨z,its,n,r,k _ _ (.inl Y) e⟩
 | tup xs=>obtain ⟨z,its,r,ob,e,c⟩:=x; exact ⟨z,its,r,ob,k _ _ (.inl Y) e,c⟩
 | dK kvs=>obtain ⟨z,y,vs,r,ob,es,ep,e,c⟩:=x; exact ⟨z,y,vs,r,ob,es,ep,k _ _ (.inl Y) e,c⟩
 | dT kvs =>
  obtain ⟨z,y,xs,r,ob,es,ep,e,c,c1,c2,c3⟩:=x;exact ⟨z,y,xs,Paired.mapP r λp q z=>⟨z.1,ht _ _ z.2.1,z.2.2⟩,ob,es,ep,k _ _ (.inl Y) e,c,c1,c2,c3⟩
 | set S n=>obtain ⟨ob,es,ep,t,e,c⟩:=x; exact ⟨ob,es,ep,t,k _ _ (.inl Y) e,c⟩
 | ins C dx fs =>
  obtain ⟨d,z,ne,e,mA,⟨od,es,ep,e2,c⟩,r⟩:=x;exact ⟨ho _ d,z,ne,k _ _ (.inl Y) e,mA,⟨od,es,ep,k _ _ (.inr d) e2,c⟩,r⟩
 | own y=>obtain ⟨ob,e⟩:=x; exact ⟨ob,k _ _ (.inl Y) e⟩
 | xd fs=>obtain ⟨mA,⟨od,es,ep,e,c⟩,r⟩:=x; exact ⟨mA,⟨od,es,ep,k _ _ (.inl Y) e,c⟩,r⟩
 | rng lo hi=>obtain ⟨t,u,v,e⟩:=x; exact ⟨t,u,v,k _ _ (.inl Y) e⟩
 | frz ob u ih=>obtain ⟨e,q⟩:=x; exact ⟨k _ _ (.inl Y) e,ih q⟩
 | tbl ps =>
  have e:h.get? a=some { cls:=.none,data:=.fields ps }:=x;show h'.get? a=some { cls:=.none,data:=.fields ps };exact k a _ (.inl Y) e
 | met f y =>
  have e:h.get? a=some (PySem.W.methodObj (.ref f) (.ref y)):=x;show h'.get? a=some (PySem.W.methodObj (.ref f) (.ref y));exact k a _ (.inl Y) e
 | ext φ=>obtain ⟨p,⟨o,e⟩,st⟩:=x; exact ⟨st _ _ p λo q=>k _ _ (.inl Y) q,⟨o,k _ _ (.inl Y) e⟩,st⟩
def HOk.lt (x:HOk P w H h) (e:H a=some o):a < h.objs.size:=(x a o e).lt
def HOk.fresh (x:HOk P w H h) (e:h.objs.size<=a):H a=none:=by
 cases q:H a with
 | none=>rfl
 | some u=>exact absurd (Ag (x.lt q) e) (Nat.lt_irrefl _)
def HOk.kept (x:HOk P w H h) (k:∀ b u,h.get? b=some u->h'.get? b=some u):HOk P w H h':=λa o e =>
 (x a o e).stay (λb u _ q=>k b u q) (λ_ q=>q) λ_ _ q=>q
def HOk.laid (x:HOk P w H h) (k:∀ b u,h.get? b=some u->h'.get? b=some u) (hp:h.objs.size<=a) (new:Yo P w (upd H a o) h' a o):HOk P w (upd H a o) h':=λb u e=>by
 have hn:=x.fresh hp;by_cases hb:b=a
 ·subst hb; rw [Zb] at e; cases e; exact new
 ·rw [Zd hb] at e
  exact (x b u e).stay (λc v _ q=>k c v q) (λc q=>by rw [Zd (Zi q hn)]; exact q) λc xs q=>by rw [Zd (Zi q hn)]; exact q
end
def Rd (H:Hp) (a:Addr) (u:HO):Prop:=H a=some u\/∃ o,H a=some (.frz o u)
def Rd.ok {P:Program} {w:World} {H:Hp} {h:Heap} {a:Addr} {u:HO} (r:Rd H a u) (x:HOk P w H h):Yo P w H h a u:=by
 rcases r with r | ⟨o,r⟩
 ·exact x a u r
 ·obtain ⟨_,q⟩:=x a _ r
  exact q
def Mut:Option HO->Prop
 | some (.lst _)=>True
 | some (.dK _)=>True
 | some (.dT _)=>True
 | some (.set _ _)=>True
 | some (.ins _ _ _)=>True
 | some (.ext _)=>True
 | _=>False
section
variable {P:Program} {w:World} {H:Hp} {h h':Heap} {x e:Addr} {o':HO}
def HOk.write (ok:HOk P w H h) (mu:Mut (H x)) (he:e=x\/H e=some (.own x)) (k:∀ b u,b≠e->h.get? b=some u->h'.get? b=some u) (zu:∃ u,h'.get? e=some u)
  (new:Yo P w (upd H x o') h' x o'):HOk P w (upd H x o') h':=λb u q=>by
 have rg:∀ c y,H c=some (.own y)->c≠x:=λc y r z=>by subst z; rw [r] at mu; exact mu
 have qb:∀ c xs,H c=some (.tup xs)->c≠x:=λc xs r z=>by subst z; rw [r] at mu; exact mu
 by_cases hb:b=x
 ·subst hb; rw [Zb] at q; cases q; exact new
 ·rw [Zd hb] at q
  by_cases yi:b=e
  ·have q':H b=some (.own x):=by
    rcases he with z | z
    ·exact absurd (yi.trans z) hb
    ·rw [yi]; exact z
   rw [q] at q'; cases q';obtain ⟨v,hv⟩:=zu;exact ⟨v,by rw [yi]; exact hv⟩
  ·refine (ok b u q).stay (λc v hc r=>k c v ?_ r) (λc r=>by rw [Zd (rg c b r)]; exact r) λc xs r=>by rw [Zd (qb c xs r)]; exact r
   rcases hc with rfl | hc
   ·exact yi
   ·rintro rfl
    rcases he with z | z
    ·exact rg c b hc z
    ·rw [hc] at z; cases z; exact hb Y
end
structure Un (fs ex:List Addr) (H H':Hp) (h h':Heap):Prop where
 keep:∀ b o,h.get? b=some o->H b=none->b ∉ fs->b ∉ ex->h'.get? b=some o
 slot:∀ b o,h.get? b=some o->H b=none->b∈fs->b ∉ ex->∃ sl,h'.get? b=some { o with slots:=sl }
 free:∀ b o,h.get? b=some o->H b=none->b ∉ ex->H' b=none
 there:∀ b o,h.get? b=some o->b ∉ ex->∃ o',h'.get? b=some o'
 tups:∀ b xs,H b=some (.tup xs)->H' b=some (.tup xs)
 frzs:∀ b o u,H b=some (.frz o u)->H' b=some (.frz o u)
 tbls:∀ b ps,H b=some (.tbl ps)->∃ more,H' b=some (.tbl (ps ++ more))
section
variable {fs fs' ex ex':List Addr} {H H1 H2:Hp} {h h1 h2 h':Heap} {a x e:Addr} {o:HO}
def Un.any (u:Un fs ex H H1 h h1) (q:h.get? b=some ob) (n:H b=none) (hx:b ∉ ex):∃ sl,h1.get? b=some { ob with slots:=sl }:=by
 by_cases hb:b∈fs
 ·exact u.slot b ob q n hb hx
 ·exact ⟨ob.slots,u.keep b ob q n hb hx⟩
def Un.kept (k:∀ b u,h.get? b=some u->h'.get? b=some u):Un fs ex H H h h' :=
 ⟨λb ob q _ _ _=>k b ob q,λb ob q _ _ _=>⟨ob.slots,k b ob q⟩,λ_ _ _ n _=>n,λb ob q _=>⟨ob,k b ob q⟩,λ_ _ q=>q,λ_ _ _ q=>q,λ_ ps q=>⟨#[],by rw [q]; simp⟩⟩
def Un.refl:Un fs ex H H h h:=Un.kept λ_ _ q=>q
def Un.laid (k:∀ b u,h.get? b=some u->h'.get? b=some u) (hp:h.objs.size<=a) (hn:H a=none):Un fs ex H (upd H a o) h h' where
 keep:=λb u q _ _ _=>k b u q
 slot:=λb u q _ _ _=>⟨u.slots,k b u q⟩
 free:=λb u q n _=>by rw [Zd (As (Ag (Ao q) hp))]; exact n
 there:=λb u q _=>⟨u,k b u q⟩
 tups:=λb xs q=>by rw [Zd (Zi q hn)]; exact q
 frzs:=λb u xs q=>by rw [Zd (Zi q hn)]; exact q
 tbls:=λb ps q=>⟨#[],by rw [Zd (Zi q hn),q]; simp⟩
def Un.write (mu:Mut (H x)) (he:e=x\/H e=some (.own x)) (k:∀ b u,b≠e->h.get? b=some u->h'.get? b=some u) (zu:∃ u,h'.get? e=some u):Un fs ex H (upd H x o) h h':=by
 have hx:∀ b,H b=none->b≠x:=λb n z=>by subst z; rw [n] at mu; exact mu
 have hb:∀ b,H b=none->b≠e:=λb n z=>by
  subst z
  rcases he with r | r
  ·exact hx b n r
  ·rw [n] at r; cases r
 have hm:∀ b u,H b=some u->¬ Mut (some u)->b≠x:=λb u q nm z=>by subst z; rw [q] at mu; exact nm mu
 refine ⟨λb u q n _ _=>k b u (hb b n) q,λb u q n _ _=>⟨u.slots,k b u (hb b n) q⟩,λb u q n _=>by rw [Zd (hx b n)]; exact n,λb u q _=>?_,
  λb xs q=>by rw [Zd (hm b _ q λz=>z)]; exact q,λb u xs q=>by rw [Zd (hm b _ q λz=>z)]; exact q,λb ps q=>⟨#[],by rw [Zd (hm b _ q λz=>z),q]; simp⟩⟩;by_cases yi:b=e
 ·subst yi; exact zu
 ·exact ⟨u,k b u yi q⟩
end
noncomputable def um (h:Heap) (H:Hp):List Addr:=(List.range h.objs.size).filter λa=>(H a).isSome
noncomputable def hidT (h:Heap) (H:Hp):Heap:=PySem.W.hideAll h (um h H)
def Zmd (h:Heap) (H:Hp):(hidT h H).objs.size=h.objs.size:=PySem.W.hideAll_size _ _
def Zn8 {h:Heap} (e:h.get? b=some o) (n:H b=none):(hidT h H).get? b=some o :=
 PySem.W.hideAll_get _ e λhm=>by
  have q:(H b).isSome=true:=(mem_filter.mp hm).2;rw [n] at q; simp at q
def Zp8 {h:Heap} (e:(hidT h H).get? b=some o):h.get? b=some o/\H b=none:=by
 have e':h.get? b=some o:=PySem.W.of_hideAll (um h H) e;refine ⟨e',?_⟩
 cases q:H b with
 | none=>rfl
 | some x =>
  have hm:b∈um h H:=mem_filter.mpr ⟨mem_range.mpr (Ao e'),by simp [q]⟩;have z:(hidT h H).get? b=none:=PySem.W.hideAll_none (um h H) hm;rw [z] at e; cases e
noncomputable def Zqy (g h:Heap) (L:Addr):List (n:):=(List.range h.objs.size).filterMap λa=>if a=L\/(g.get? a).isSome=true then none else (h.get? a).map λo=>(a,o)
noncomputable def j7 (g h:Heap) (L d:Addr):List (n:):=(Zqy g h L).filter λp=>decide (p.1≠d)
structure Mod (K:W.Frag) (mg:Str->Option Value) (base:Heap):Prop where
 kin:K.In base
 glob:base.Ns mainGlobals mg
 blt:∃ mb,base.Ns builtinsNs mb/\∀ x:Str,x≠"__name__"->mb x=bootBuiltins x
 nolimit:base.NoLimit
structure Cx where
 prog:Program
 w:World
 K:PySem.W.Frag
 mg:Str->Option Value
 base:Heap
 A:Around
 N:List Str
 s₀:Shared
 H₀:Hp
 env:Env
 outer:List Env
 stack:List Env
 ex:List Addr
 fn:Str->Bool
 calm:Bool
 pn:List (n:)
 xe:Value->Shared->Prop
def frs (l:List Env):List Addr:=l.filterMap (·.frame)
abbrev Cx.fs (X:Cx):List Addr:=frs X.outer
def Vis (sc:Scope) (x:Str):Prop:=sc.names.lookup x=some .local\/sc.names.lookup x=some .cell\/sc.names.lookup x=some .free
def Loc (sc:Scope) (x:Str):Prop:=sc.names.lookup x=some .local\/sc.names.lookup x=some .cell
def Look (env:Env) (h:Heap) (m:Str->Option Value) (x:Str) (u:Value):Prop :=
 (env.kindOf x=some .local/\m x=some u)\/((env.kindOf x=some .cell\/env.kindOf x=some .free)/\∃ c,env.cells.lookup x=some c/\h.IsCell c (some u))
structure Cx.Ok (X:Cx):Prop where
 mod:Mod X.K X.mg X.base
 kind:X.env.scope.kind=.function
 glob:X.env.globals=mainGlobals
 blt:X.env.builtins=builtinsNs
 above:X.s₀.heap.objs.size<=X.env.locals
 inj:∀ x y c,X.env.cells.lookup x=some c->X.env.cells.lookup y=some c->x=y
 has:∀ x,(X.env.kindOf x=some .cell\/X.env.kindOf x=some .free)->∃ c,X.env.cells.lookup x=some c
 cab:∀ x c,X.fn x=true->X.env.cells.lookup x=some c->X.s₀.heap.objs.size<=c
 hd:X.calm=true->X.A.handled=none
 frames:X.A.frames=some X.stack
 stk:X.stack=X.outer\/(X.stack=X.env :: X.outer/\X.env.frame=some X.env.locals)
 exf:∀ b∈X.ex,b≠X.env.locals/\∀ x c,X.env.cells.lookup x=some c->c≠b
 bs:∀ b o,X.base.get? b=some o->X.s₀.heap.get? b=some o/\X.H₀ b=none
 bsz:X.base.objs.size<=X.s₀.heap.objs.size
 noex:∀ b o,X.base.get? b=some o->b ∉ X.ex
 exfs:∀ b∈X.ex,b ∉ X.fs
 funs:X.s₀.heap.FunFrames X.base X.outer
 frf:∀ b∈X.fs,X.H₀ b=none
structure Inv (X:Cx) (j5:List (n:)) (σ:List (Option V)) (H:Hp) (s:Shared):Prop where
 ok:X.Ok
 os:s.os=X.s₀.os
 bare:AllBare s.gens
 base:Un X.fs X.ex X.H₀ H X.s₀.heap s.heap
 loc:∃ m,s.heap.Ns X.env.locals m/\∀ (i:Nat) (x:Str) (v:V),X.N[i]?=some x->σ[i]?=some (some v)->Vis X.env.scope x->∃ u,RelV v u/\Look X.env s.heap m x u
 cell:∀ x c,X.env.cells.lookup x=some c->∃ v,s.heap.IsCell c v
 free:H X.env.locals=none
 freeC:∀ x c,X.env.cells.lookup x=some c->H c=none
 pin:∀ p∈X.pn ++ j5,s.heap.get? p.1=some p.2/\H p.1=none/\p.1≠X.env.locals/\p.1 ∉ X.fs/\∀ v,p.2.data≠.cell v
 hok:HOk X.prog X.w H s.heap
 len:σ.length=X.N.length
section
variable {X:Cx} {j5:List (n:)} {σ:List (Option V)} {H H':Hp} {s:Shared} {h':Heap}
def Cx.Ok.nofr (ok:X.Ok) (e:X.base.get? b=some o):b ∉ X.fs:=λhb=>by
 have:=(ok.funs.mem hb).1;rw [e] at this; cases this
def Inv.bs (I:Inv X j5 σ H s):∀ b o,X.base.get? b=some o->s.heap.get? b=some o/\H b=none:=λb o e =>
 ⟨I.base.keep b o (I.ok.bs b o e).1 (I.ok.bs b o e).2 (I.ok.nofr e) (I.ok.noex b o e),I.base.free b o (I.ok.bs b o e).1 (I.ok.bs b o e).2 (I.ok.noex b o e)⟩
def Inv.bk (I:Inv X j5 σ H s):∀ b o,X.base.get? b=some o->s.heap.get? b=some o:=λb o e=>(I.bs b o e).1
def Inv.mod (I:Inv X j5 σ H s):Mod X.K X.mg X.base:=I.ok.mod
def Inv.kIn (I:Inv X j5 σ H s):X.K.In s.heap:=I.ok.mod.kin.keeps I.bk
def Inv.lt (I:Inv X j5 σ H s):X.env.locals < s.heap.objs.size:=let ⟨_,hn,_⟩:=I.loc; hn.lt
def Inv.sz (I:Inv X j5 σ H s):X.s₀.heap.objs.size<=s.heap.objs.size:=Nat.le_trans I.ok.above (Nat.le_of_lt I.lt)
def Inv.nofs (I:Inv X j5 σ H s) {a:Addr} (h:s.heap.objs.size<=a):a ∉ X.fs:=λhb=>by
 obtain ⟨_,o,ho,_⟩:=I.ok.funs.mem hb;exact absurd (Ag (Ao ho) (Nat.le_trans I.sz h)) (Nat.lt_irrefl _)
def Inv.cne (I:Inv X j5 σ H s):∀ x c,X.env.cells.lookup x=some c->c≠X.env.locals:=λx c e z=>by
 obtain ⟨v,o,ho,hd⟩:=I.cell x c e;obtain ⟨m,⟨o',es,ep,tq,vj,_⟩,_⟩:=I.loc;rw [z,tq] at ho; cases ho; rw [vj] at hd; cases hd
def Inv.funs (I:Inv X j5 σ H s):s.heap.FunFrames X.base X.outer:=by
 have all:∀ (l:List Env),(∀ b∈frs l,b∈X.fs)->X.s₀.heap.FunFrames X.base l->s.heap.FunFrames X.base l:=by
  intro l
  induction l with
  | nil=>intro _ _; trivial
  | cons env r ih =>
   intro hs hl;obtain ⟨hk,⟨L,o,hf,hn,ho,hd⟩,hr⟩:=hl;have hL:L∈X.fs:=hs L (by unfold frs; rw [filterMap_cons,hf]; exact mem_cons_self);obtain ⟨sl,e⟩:=I.base.slot L o ho (I.ok.frf L hL) hL λz=>I.ok.exfs L z hL;exact ⟨hk,⟨L,_,hf,hn,e,hd⟩,ih (λb hb=>hs b (by unfold frs; rw [filterMap_cons,hf]; exact mem_cons_of_mem _ hb)) hr⟩
 exact all X.outer (λ_ hb=>hb) I.ok.funs
def Inv.stack (I:Inv X j5 σ H s):s.heap.FunFrames X.base X.stack:=by
 rcases I.ok.stk with e | ⟨e,hf⟩
 ·rw [e]; exact I.funs
 ·rw [e]
  obtain ⟨m,hn,_⟩:=I.loc;refine .cons (by rw [I.ok.kind]; decide) hf hn ?_ I.funs;exact Heap.get?_none_of_le (Nat.le_trans I.ok.bsz I.ok.above)
def Inv.stkSub (I:Inv X j5 σ H s):∀ b∈frs X.stack,b∈X.env.locals :: X.fs:=λb hb=>by
 rcases I.ok.stk with e | ⟨e,hf⟩
 ·rw [e] at hb; exact mem_cons_of_mem _ hb
 ·rw [e] at hb
  unfold frs at hb;rw [filterMap_cons,hf] at hb;exact hb
def Inv.stkFree (I:Inv X j5 σ H s):∀ b∈frs X.stack,H b=none:=λb hb=>by
 rcases Ar (I.stkSub b hb) with e | hb
 ·rw [e]; exact I.free
 ·obtain ⟨_,o,ho,_⟩:=I.ok.funs.mem hb
  exact I.base.free b o ho (I.ok.frf b hb) λz=>I.ok.exfs b z hb
def Inv.step {g':Array GenState} {t':Nat} {d':Drawn} {ch:List Addr} (I:Inv X j5 σ H s)
  (qq:∀ b∈ch,(b∈X.ex\/X.s₀.heap.objs.size<=b)/\b≠X.env.locals/\(∀ x c,X.env.cells.lookup x=some c->c≠b)/\∀ p∈X.pn ++ j5,p.1≠b)
  (keep:∀ b o,b≠X.env.locals->b ∉ X.fs->b ∉ ch->s.heap.get? b=some o->H b=none->h'.get? b=some o)
  (slot:∀ b o,b≠X.env.locals->b∈X.fs->b ∉ ch->s.heap.get? b=some o->H b=none->∃ sl,h'.get? b=some { o with slots:=sl }) (free:∀ b o,b ∉ ch->s.heap.get? b=some o->H b=none->H' b=none)
  (there:∀ b o,b ∉ ch->s.heap.get? b=some o->∃ o',h'.get? b=some o')
  (tups:∀ b xs,H b=some (.tup xs)->H' b=some (.tup xs)) (frzs:∀ b o u,H b=some (.frz o u)->H' b=some (.frz o u)) (tbls:∀ b ps,H b=some (.tbl ps)->∃ more,H' b=some (.tbl (ps ++ more)))
  (ns:∀ m,s.heap.Ns X.env.locals m->h'.Ns X.env.locals m) (hok:HOk X.prog X.w H' h') (hg:AllBare g') :
  Inv X j5 σ H' { s with heap:=h',gens:=g',drawn:=d',toks:=t' }:=by
 have neL:∀ b o,X.s₀.heap.get? b=some o->b≠X.env.locals:=λb o e=>As (Ag (Ao e) I.ok.above);have neC:∀ b o,X.s₀.heap.get? b=some o->b ∉ X.ex->b ∉ ch:=λb o e hx hb=>by
  rcases (qq b hb).1 with z | z
  ·exact hx z
  ·exact absurd (Ag (Ao e) z) (Nat.lt_irrefl _)
 have pf:∀ x c,X.env.cells.lookup x=some c->∀ v,s.heap.IsCell c v->h'.IsCell c v:=λx c e v ⟨o,ho,hd⟩=>by
  have nch:c ∉ ch:=λz=>(qq c z).2.2.1 x c e rfl;by_cases hc:c∈X.fs
  ·obtain ⟨sl,q⟩:=slot c o (I.cne x c e) hc nch ho (I.freeC x c e)
   exact ⟨_,q,hd⟩
  ·exact ⟨o,keep c o (I.cne x c e) hc nch ho (I.freeC x c e),hd⟩
 refine ⟨I.ok,I.os,hg,⟨λb o e n hb hx=>?_,λb o e n hb hx=>?_,λb o e n hx=>?_,λb o e hx=>?_,λb xs e=>tups b xs (I.base.tups b xs e),λb o xs e=>frzs b o xs (I.base.frzs b o xs e),λb ps e=>?_⟩,?_,λx c e=>?_,?_,λx c e=>?_,λp hp=>?_,hok,I.len⟩
 ·exact keep b o (neL b o e) hb (neC b o e hx) (I.base.keep b o e n hb hx) (I.base.free b o e n hx)
 ·obtain ⟨sl,e1⟩:=I.base.slot b o e n hb hx
  obtain ⟨sl',e2⟩:=slot b _ (neL b o e) hb (neC b o e hx) e1 (I.base.free b o e n hx);exact ⟨sl',e2⟩
 ·obtain ⟨o',e1⟩:=I.base.there b o e hx
  exact free b o' (neC b o e hx) e1 (I.base.free b o e n hx)
 ·obtain ⟨o',e1⟩:=I.base.there b o e hx
  exact there b o' (neC b o e hx) e1
 ·obtain ⟨m1,e1⟩:=I.base.tbls b ps e
  obtain ⟨m2,e2⟩:=tbls b _ e1;exact ⟨m1 ++ m2,by rw [e2,Array.append_assoc]⟩
 ·obtain ⟨m,hn,hl⟩:=I.loc
  refine ⟨m,ns m hn,λi x v e1 e2 e3=>?_⟩;obtain ⟨u,r,l⟩:=hl i x v e1 e2 e3;refine ⟨u,r,?_⟩
  rcases l with l | ⟨k,c,e,z⟩
  ·exact .inl l
  ·exact .inr ⟨k,c,e,pf x c e _ z⟩
 ·obtain ⟨v,z⟩:=I.cell x c e
  exact ⟨v,pf x c e v z⟩
 ·obtain ⟨m,⟨o,_,_,ho,_⟩,_⟩:=I.loc
  exact free _ o (λz=>(qq _ z).2.1 Y) ho I.free
 ·obtain ⟨v,o,ho,hd⟩:=I.cell x c e
  exact free c o (λz=>(qq c z).2.2.1 x c e Y) ho (I.freeC x c e)
 ·obtain ⟨e,n,ne,nf,d⟩:=I.pin p hp
  have nch:p.1 ∉ ch:=λz=>(qq p.1 z).2.2.2 p hp rfl;exact ⟨keep p.1 p.2 ne nf nch e n,free p.1 p.2 nch e n,ne,nf,d⟩
def Inv.un {t':Nat} (I:Inv X j5 σ H s) (u:Un X.fs [] H H' s.heap h') (hok:HOk X.prog X.w H' h'):Inv X j5 σ H' { s with heap:=h',toks:=t' }:=by
 obtain ⟨m,⟨o,es,ep,ho,r⟩,_⟩:=id I.loc;obtain ⟨sl,hL⟩:=u.any ho I.free (by simp);exact I.step (g':=s.gens) (d':=s.drawn) (ch:=[]) (λ_ z=>nomatch z) (λb o _ hb _ e n=>u.keep b o e n hb (by simp)) (λb o _ hb _ e n=>u.slot b o e n hb (by simp)) (λb o _ e n=>u.free b o e n (by simp)) (λb o _ e=>u.there b o e (by simp)) u.tups u.frzs u.tbls (λm' hm=>by
  obtain ⟨o',es',ep',tq,r'⟩:=hm
  rw [ho] at tq; cases tq
  exact ⟨_,es',ep',hL,r'⟩) hok I.bare
def Inv.call {t':Nat} {d':Drawn} (I:Inv X j5 σ H s) (u:Un (frs X.stack) ch H H' s.heap h') (hok:HOk X.prog X.w H' h') (hg:AllBare g')
  (qq:∀ b∈ch,(b∈X.ex\/X.s₀.heap.objs.size<=b)/\b≠X.env.locals/\(∀ x c,X.env.cells.lookup x=some c->c≠b)/\∀ p∈X.pn ++ j5,p.1≠b) :
  Inv X j5 σ H' { s with heap:=h',gens:=g',drawn:=d',toks:=t' }:=by
 obtain ⟨m,⟨o,es,ep,ho,r⟩,_⟩:=id I.loc;obtain ⟨sl,hL⟩:=u.any ho I.free λz=>(qq _ z).2.1 rfl;exact I.step (ch:=ch) qq (λb o hL hb hc e n=>u.keep b o e n (λz=>(Ar (I.stkSub b z)).elim hL hb) hc) (λb o _ _ hc e n=>u.any e n hc) (λb o hc e n=>u.free b o e n hc) (λb o hc e=>u.there b o e hc) u.tups u.frzs u.tbls (λm' hm=>by
  obtain ⟨o',es',ep',tq,r'⟩:=hm
  rw [ho] at tq; cases tq
  exact ⟨_,es',ep',hL,r'⟩) hok hg
def Inv.turned {t':Nat} (I:Inv X j5 σ H s) (k:∀ b o,b≠it->s.heap.get? b=some o->h'.get? b=some o) (hn:H it=none) (hL:it≠X.env.locals)
  (h1:it∈X.ex\/X.s₀.heap.objs.size<=it) (h2:∀ x c,X.env.cells.lookup x=some c->c≠it) (h3:∀ p∈X.pn ++ j5,p.1≠it):Inv X j5 σ H { s with heap:=h',toks:=t' }:=by
 have nit:∀ b u,H b=some u->b≠it:=λb u e z=>by rw [z,hn] at e; cases e
 refine I.step (g':=s.gens) (d':=s.drawn) (ch:=[it]) (λb hb=>?_) (λb o _ _ hc e _=>k b o (a5:) e) (λb o _ _ hc e _=>⟨o.slots,k b o (a5:) e⟩) (λ_ _ _ _ n=>n)
  (λb o hc e=>⟨o,k b o (a5:) e⟩) (λ_ _ e=>e) (λ_ _ _ e=>e) (λb ps e=>⟨#[],by rw [e]; simp⟩) (λm hm=>?_) (λb u e=>?_) I.bare
 ·have e:b=it:=by simpa using hb
  subst e;exact ⟨h1,hL,h2,h3⟩
 ·obtain ⟨o,es,ep,ho,r⟩:=hm
  exact ⟨o,es,ep,k _ o (Ne.symm hL) ho,r⟩
 ·refine (I.hok b u e).stay (λc v hc q=>k c v ?_ q) (λ_ q=>q) λ_ _ q=>q
  rcases hc with z | z
  ·rw [z]; exact nit b u e
  ·exact nit c _ z
def Inv.tok (I:Inv X j5 σ H s) (t:Nat):Inv X j5 σ H { s with toks:=t }:=I.un (h':=s.heap) (t':=t) Un.refl I.hok
def Inv.kept {t':Nat} (I:Inv X j5 σ H s) (k:∀ b u,s.heap.get? b=some u->h'.get? b=some u):Inv X j5 σ H { s with heap:=h',toks:=t' }:=I.un (Un.kept k) (I.hok.kept k)
def Inv.laid {t':Nat} (I:Inv X j5 σ H s) (k:∀ b u,s.heap.get? b=some u->h'.get? b=some u) (hp:s.heap.objs.size<=a) (new:Yo X.prog X.w (upd H a o) h' a o) :
  Inv X j5 σ (upd H a o) { s with heap:=h',toks:=t' }:=I.un (Un.laid k hp (I.hok.fresh hp)) (I.hok.laid k hp new)
def Inv.write {t':Nat} (I:Inv X j5 σ H s) (mu:Mut (H x)) (he:e=x\/H e=some (.own x)) (k:∀ b u,b≠e->s.heap.get? b=some u->h'.get? b=some u) (zu:∃ u,h'.get? e=some u)
  (new:Yo X.prog X.w (upd H x o) h' x o):Inv X j5 σ (upd H x o) { s with heap:=h',toks:=t' }:=I.un (Un.write mu he k zu) (I.hok.write mu he k zu new)
def Inv.pins_of (I:Inv X j5 σ H s) (h:∀ p∈pins',s.heap.get? p.1=some p.2/\H p.1=none/\p.1≠X.env.locals/\p.1 ∉ X.fs/\∀ v,p.2.data≠.cell v):Inv X pins' σ H s :=
 ⟨I.ok,I.os,I.bare,I.base,I.loc,I.cell,I.free,I.freeC,λp hp=>(mem_append.mp hp).elim (λz=>I.pin p (mem_append_left _ z)) (h p),I.hok,I.len⟩
def Zgk {N:List Str} (hN:N.Nodup) {i j:Nat} (a:N[i]?=some x) (b:N[j]?=some x):i=j:=by
 obtain ⟨h1,e1⟩:=Aa a;obtain ⟨h2,e2⟩:=Aa b;exact (getElem_inj hN).mp (e1.trans e2.symm)
def Kl (I:Inv X j5 σ H s) (hN:X.N.Nodup) (hi:X.N[i]?=some x) (hx:Loc X.env.scope x) (r:RelV v u)
  (h:∀ s',Inv X j5 (σ.set i (some v)) H s'->(∃ a,Heap.SameBut a s.heap s'.heap/\(a=X.env.locals\/X.env.cells.lookup x=some a))->Q () s') (hf:X.fn x=true\/X.env.scope.names.lookup x=some .local:=by first | exact .inl rfl | exact .inr rfl | assumption):wpAny M A (storeName X.env x u) Q E s:=by
 obtain ⟨m,hn,hl⟩:=id I.loc;have hcls:(X.env.scope.kind == .class || (X.env.scope.kind == .module && X.env.locals != X.env.globals))=false:=by rw [I.ok.kind]; rfl
 have hiσ:i < σ.length:=by rw [I.len]; exact (Aa hi).1
 have cne:=I.cne
 have qt:∀ {a:Addr} {h':Heap},(∃ o,s.heap.get? a=some o/\H a=none)->Heap.SameBut a s.heap h'->HOk X.prog X.w H h':=λ{a h'} ha hs b ob e=>by
  obtain ⟨_,_,w5⟩:=ha;refine (I.hok b ob e).stay (λc w' hc q=>(hs.2 c ?_).trans q) (λ_ q=>q) λ_ _ q=>q;rintro rfl
  rcases hc with rfl | hc
  ·rw [w5] at e; cases e
  ·rw [w5] at hc; cases hc
 rcases hx with hk | hk
 ·refine wpAny_storeName_local hk hn (λh' hn' hs=>?_) hcls
  obtain ⟨oL,_,_,ve,_⟩:=id hn;refine h _ ⟨I.ok,I.os,I.bare,⟨λb o e n hb hx=>?_,λb o e n hb hx=>?_,I.base.free,λb o e hx=>?_,I.base.tups,I.base.frzs,I.base.tbls⟩,⟨_,hn',λj y v' e1 e2 e3=>?_⟩,λy c e=>?_,I.free,I.freeC,λp hp=>?_,qt ⟨oL,ve,I.free⟩ hs,by simpa using I.len⟩ ⟨_,hs,.inl Y⟩
  ·exact (hs.2 b (As (Ag (Ao e) I.ok.above))).trans (I.base.keep b o e n hb hx)
  ·obtain ⟨sl,e1⟩:=I.base.slot b o e n hb hx
   exact ⟨sl,(hs.2 b (As (Ag (Ao e) I.ok.above))).trans e1⟩
  ·obtain ⟨o',e1⟩:=I.base.there b o e hx
   exact ⟨o',(hs.2 b (As (Ag (Ao e) I.ok.above))).trans e1⟩
  ·by_cases hj:j=i
   ·subst hj
    rw [hi] at e1; cases e1;rw [getElem?_set_self hiσ] at e2;cases e2;exact ⟨u,r,.inl ⟨hk,by simp⟩⟩
   ·rw [getElem?_set_ne (Ne.symm hj)] at e2
    obtain ⟨u',r',q⟩:=hl j y v' e1 e2 e3;refine ⟨u',r',?_⟩
    rcases q with ⟨k,e⟩ | ⟨k,c,e,z⟩
    ·refine .inl ⟨k,?_⟩
     have:y≠x:=λe=>hj (Zgk hN e1 (e ▸ hi));simp [this,e]
    ·exact .inr ⟨k,c,e,z.sameBut hs (cne y c e)⟩
  ·obtain ⟨w',z⟩:=I.cell y c e
   exact ⟨w',z.sameBut hs (cne y c e)⟩
  ·obtain ⟨e,n,ne,nf,d⟩:=I.pin p hp
   exact ⟨(hs.2 p.1 ne).trans e,n,ne,nf,d⟩
 ·have zr:X.fn x=true:=by
   rcases hf with z | z
   ·exact z
   ·rw [z] at hk; cases hk
  obtain ⟨c,hc⟩:=I.ok.has x (.inl hk);obtain ⟨w',z⟩:=I.cell x c hc;refine wpAny_storeName_cell I.ok.kind hk hc z (λh' t5 hs=>?_);obtain ⟨oc,hoc,hocd⟩:=id z;refine h { s with heap:=h' } ⟨I.ok,I.os,I.bare,⟨λb o e n hb hx=>?_,λb o e n hb hx=>?_,I.base.free,λb o e hx=>?_,I.base.tups,I.base.frzs,I.base.tbls⟩,⟨m,hn.sameBut hs (Ne.symm (cne x c hc)),λj y v' e1 e2 e3=>?_⟩,λy c' e=>?_,I.free,I.freeC,λp hp=>?_,qt ⟨oc,hoc,I.freeC x c hc⟩ hs,by simpa using I.len⟩ ⟨c,hs,.inr hc⟩
  ·exact (hs.2 b (As (Ag (Ao e) (I.ok.cab x c zr hc)))).trans (I.base.keep b o e n hb hx)
  ·obtain ⟨sl,e1⟩:=I.base.slot b o e n hb hx
   exact ⟨sl,(hs.2 b (As (Ag (Ao e) (I.ok.cab x c zr hc)))).trans e1⟩
  ·obtain ⟨o',e1⟩:=I.base.there b o e hx
   exact ⟨o',(hs.2 b (As (Ag (Ao e) (I.ok.cab x c zr hc)))).trans e1⟩
  ·by_cases hj:j=i
   ·subst hj
    rw [hi] at e1; cases e1;rw [getElem?_set_self hiσ] at e2;cases e2;exact ⟨u,r,.inr ⟨.inl hk,c,hc,t5⟩⟩
   ·rw [getElem?_set_ne (Ne.symm hj)] at e2
    obtain ⟨u',r',q⟩:=hl j y v' e1 e2 e3;refine ⟨u',r',?_⟩
    rcases q with q | ⟨k,c',e,z'⟩
    ·exact .inl q
    ·refine .inr ⟨k,c',e,z'.sameBut hs ?_⟩
     rintro rfl;exact hj (Zgk hN e1 (I.ok.inj _ _ _ e hc ▸ hi))
  ·by_cases hcc:c'=c
   ·subst hcc; exact ⟨_,t5⟩
   ·obtain ⟨w2,z2⟩:=I.cell y c' e
    exact ⟨w2,z2.sameBut hs hcc⟩
  ·obtain ⟨e,n,ne,nf,d⟩:=I.pin p hp
   refine ⟨(hs.2 p.1 ?_).trans e,n,ne,nf,d⟩;intro q;rw [q,hoc] at e;have q':oc=p.2:=Ax e;exact d w' (by rw [<- q']; exact hocd)
def Qd {M:Model} {A:Around} {E:Value->Shared->Prop} {i:Nat} {x:Str} {v:V} {u:Value} {Q:Unit->Shared->Prop} (I:Inv X j5 σ H s) (hN:X.N.Nodup) (hi:X.N[i]?=some x) (hx:Loc X.env.scope x) (r:RelV v u)
  (h:∀ s',Inv X j5 (σ.set i (some v)) H s'->Q () s') (hf:X.fn x=true\/X.env.scope.names.lookup x=some .local:=by first | exact .inl rfl | exact .inr rfl | assumption):wpAny M A (storeName X.env x u) Q E s :=
 Kl I hN hi hx r (λs' I' _=>h s' I') hf
def Inv.call' {s':Shared} (I:Inv X j5 σ H s) (ho:s'.os=s.os) (u:Un (frs X.stack) ch H H' s.heap s'.heap) (hok:HOk X.prog X.w H' s'.heap) (hg:AllBare s'.gens)
  (qq:∀ b∈ch,(b∈X.ex\/X.s₀.heap.objs.size<=b)/\b≠X.env.locals/\(∀ x c,X.env.cells.lookup x=some c->c≠b)/\∀ p∈X.pn ++ j5,p.1≠b):Inv X j5 σ H' s':=by
 obtain ⟨h',g',d',t',o'⟩:=s';have e:o'=s.os:=ho;subst e;exact I.call (g':=g') (t':=t') (d':=d') u hok hg qq
end
abbrev XK:=Value->Option Addr->Hp->Prop
abbrev St:=List (Option V)
abbrev VK:=V->Hp->Prop
abbrev TE:=St->Hp->VK->Prop
abbrev TT:=St->Hp->(Bool->Hp->Prop)->Prop
abbrev TA:=St->Hp->(List V->Hp->Prop)->Prop
structure Ends where
 nx:St->Hp->Prop
 rt:VK
 bk:St->Hp->Prop:=λ_ _=>False
 ct:St->Hp->Prop:=λ_ _=>False
abbrev TS:=Ends->St->Hp->Prop
def EP (X:Cx) (j5:List (n:)) (σ:St) (Q:VK) (u:Value) (s':Shared):Prop:=∃ v H',Inv X j5 σ H' s'/\RelV v u/\Q v H'
def TP (X:Cx) (j5:List (n:)) (σ:St) (Q:Bool->Hp->Prop) (b:Bool) (s':Shared):Prop:=∃ H',Inv X j5 σ H' s'/\Q b H'
def AP (X:Cx) (j5:List (n:)) (σ:St) (Q:List V->Hp->Prop) (us:List Value) (s':Shared):Prop:=∃ vs H',Inv X j5 σ H' s'/\Vals vs us/\Q vs H'
def SP (X:Cx) (j5:List (n:)) (D:Ends) (f:Flow) (s':Shared):Prop :=
 match f with
 | .next=>∃ σ' H',Inv X j5 σ' H' s'/\D.nx σ' H'
 | .brk=>∃ σ' H',Inv X j5 σ' H' s'/\D.bk σ' H'
 | .cont=>∃ σ' H',Inv X j5 σ' H' s'/\D.ct σ' H'
 | .ret u=>∃ v σ' H',Inv X j5 σ' H' s'/\RelV v u/\D.rt v H'
def PE (X:Cx) (e:Expr) (t:TE):Prop :=
 ∀ j5 s σ H (Q:VK),Inv X j5 σ H s->t σ H Q->wpAny (e:) X.A (eval e X.env) (EP X j5 σ Q) X.xe s
def PT (X:Cx) (e:Expr) (t:TT):Prop :=
 ∀ j5 s σ H (Q:Bool->Hp->Prop),Inv X j5 σ H s->t σ H Q->wpAny (e:) X.A (isTrue e X.env (eval e X.env)) (TP X j5 σ Q) X.xe s
def PW (X:Cx) (e:Expr) (t:TT):Prop :=
 ∀ (mw:Sem Value) (j5:List (n:)) (s:Shared) (σ:St) (H:Hp) (Q:Bool->Hp->Prop),Inv X j5 σ H s->t σ H Q->wpAny (e:) X.A (isTrue e X.env mw) (TP X j5 σ Q) X.xe s
def PW.pt {X:Cx} {e:Expr} {t:TT} (h:PW X e t):PT X e t:=h _
def PA (X:Cx) (es:List Expr) (t:TA):Prop :=
 ∀ (pos:Pos) (j5:List (n:)) (s:Shared) (σ:St) (H:Hp) (Q:List V->Hp->Prop),Inv X j5 σ H s->t σ H Q->wpAny (e:) X.A (spliced (al:)) (AP X j5 σ Q) X.xe s
def PS (X:Cx) (st:Stmt) (t:TS):Prop :=
 ∀ j5 s σ H (D:Ends),Inv X j5 σ H s->t D σ H->wpAny (e:) X.A (exec st X.env) (SP X j5 D) X.xe s
def PSs (X:Cx) (st:List Stmt) (t:TS):Prop :=
 ∀ j5 s σ H (D:Ends),Inv X j5 σ H s->t D σ H->wpAny (e:) X.A (execs st X.env) (SP X j5 D) X.xe s
def thn {α:Type} {t:Sem α} {Q Q':α->Shared->Prop} {M:Model} {A:Around} {E:Value->Shared->Prop} {s:Shared} (h:wpAny M A t Q E s) (hQ:∀ a s,Q a s->Q' a s):wpAny M A t Q' E s:=wpAny_mono h hQ λ_ _ x=>x
section
variable {X:Cx}
def tVar (i:Nat):TE:=λσ H Q=>∃ v,σ[i]?=some (some v)/\Q v H
def tC (v:V):TE:=λ_ H Q=>Q v H
def Zru (hN:X.N[i]?=some x) (hv:Vis X.env.scope x) (hd:(Z:)=false:=by decide) (p6:(x == ("__classdict__":Str))=false:=by decide):PE X (.Name x pos) (tVar i):=by
 intro j5 s σ H Q I h;obtain ⟨v,e,h⟩:=h;obtain ⟨m,hn,hl⟩:=I.loc;obtain ⟨u,r,l⟩:=hl i x v hN e hv;have lc:EP X j5 σ Q u s:=⟨v,H,I,r,h⟩
 rcases l with ⟨hk,hm⟩ | ⟨hk,c,hc,hcell⟩
 ·exact wpAny_Name (wpAny_loadName_local I.ok.kind hk hn hm lc) hd
 ·rcases hk with hk | hk
  ·exact wpAny_Name (wpAny_loadName_cell I.ok.kind hk hc hcell lc) hd
  ·exact wpAny_Name (wpAny_loadName_free I.ok.kind hk hc hcell lc p6) hd
def Zf {i j pos}:PE X (.Constant (.int i) j pos) (tC (.int i)):=λ_ _ _ H _ I h=>wpAny_Constant_int ⟨.int i,H,I.tok _,⟨_,rfl⟩,h⟩
def Us {b j pos}:PE X (.Constant (.bool b) j pos) (tC (.bl b)):=λ_ _ _ H _ I h=>Constant_bool ⟨.bl b,H,I,rfl,h⟩
def Wl {j pos}:PE X (.Constant .none j pos) (tC .non):=λ_ _ _ H _ I h=>Constant_none ⟨.non,H,I,rfl,h⟩
def Z5 {x j pos}:PE X (.Constant (.str x) j pos) (tC (.str x)):=λ_ _ _ H _ I h=>Calls.Constant_str ⟨.str x,H,I.tok _,⟨_,rfl⟩,h⟩
def Gl (X:Cx) (x:Str):Prop:=X.env.kindOf x=some .globalImplicit
def Vl (I:Inv X j5 σ H s) (hg:Gl X x) (hm:X.mg x=some u) (h:Q u s)
  (hd:(Z:)=false:=by decide):wpAny (e:) X.A (eval (.Name x pos) X.env) Q E s :=
 Calls.Name_function_global I.ok.kind hg (Calls.loadGlobal_global (by rw [I.ok.glob]; exact I.mod.glob.keeps I.bk) hm h) hd
def Wf {E:Value->Shared->Prop} {j5:List (n:)} {s:Shared} {σ:St} {H:Hp} {x:Str} {u:Value} {pos:Pos} {Q:Value->Shared->Prop} (I:Inv X j5 σ H s) (hg:Gl X x) (hm:X.mg x=none) (hv:bootBuiltins x=some u) (h:Q u s)
  (hn:x≠"__name__":=by decide) (hd:(Z:)=false:=by decide):wpAny (e:) X.A (eval (.Name x pos) X.env) Q E s:=by
 obtain ⟨mb,h1,h2⟩:=I.mod.blt;exact Calls.Name_function_global I.ok.kind hg (Calls.loadGlobal_builtin (by rw [I.ok.glob]; exact I.mod.glob.keeps I.bk) hm (by rw [I.ok.blt]; exact h1.keeps I.bk) ((h2 x hn).trans hv) h) hd
def Jw (hg:Gl X x) (hm:X.mg x=some u) (r:RelV v u) (hd:(Z:)=false:=by decide):PE X (.Name x pos) (tC v) :=
 λ_ _ _ H _ I h=>Vl I hg hm ⟨v,H,I,r,h⟩ hd
def Zp2 (hg:Gl X x) (hm:X.mg x=none) (hv:bootBuiltins x=some u) (r:RelV v u) (hn:x≠"__name__":=by decide) (hd:(Z:)=false:=by decide):PE X (.Name x pos) (tC v) :=
 λ_ _ _ H _ I h=>Wf I hg hm hv ⟨v,H,I,r,h⟩ hn hd
variable {a b:Expr} {ta tb:TE} {pos:Pos}
def PC (X:Cx) (op:CmpOp) (a b:Expr) (t:TE):Prop :=
 ∀ j5 s σ H (Q:VK),Inv X j5 σ H s->t σ H Q ->
  wpAny (e:) X.A (eval a X.env) (λv s₁=>wpAny (e:) X.A (eval b X.env) (λu s₂=>wpAny (e:) X.A (compareOp op v u) (EP X j5 σ Q) X.xe s₂) X.xe s₁) X.xe s
def tB (t:TE):TT:=λσ H Q=>t σ H λx H1=>∃ c,x=.bl c/\Q c H1
def J4 {op:CmpOp} {t:TE} (h:PC X op a b t) (h1:behindInMarks op b=false:=by first | exact nobehind _ (d:) (d:) | rfl):PT X (.Compare a [op] [b] pos) (tB t):=by
 intro j5 s σ H Q I hw;refine wpAny_isTrue_Compare1 (thn (h j5 s σ H _ I hw) λv s1 h1=>thn h1 λu s2 h2=>thn h2 λc s3 zz0=>?_) h1;obtain ⟨x,H1,I1,r1,q1⟩:=zz0;obtain ⟨d,rfl,q⟩:=q1;cases r1;exact wpAny_truthy_bool ⟨H1,I1,q⟩
def J2 {e:Expr} {t:TE} (h:PE X e t) (he:∀ mw,isTrue e X.env mw=(do let v <- mw; standAt e.pos; holding [v] (truthy v)):=by intro _; rfl):PT X e (tB t):=by
 intro j5 s σ H Q I hw;refine isTrue_plain (thn (h j5 s σ H _ I hw) λv s1 zz1=>?_) (he _);obtain ⟨x,H1,I1,r1,q1⟩:=zz1;obtain ⟨d,rfl,q⟩:=q1;cases r1;exact wpAny_truthy_bool ⟨H1,I1,q⟩
variable {tA tB':TT} {j7:List Expr}
def tAnd (t u:TT):TT:=λσ H Q=>t σ H λc H1=>if c=true then u σ H1 Q else Q false H1
def tOr (t u:TT):TT:=λσ H Q=>t σ H λc H1=>if c=true then Q true H1 else u σ H1 Q
def tNot (t:TT):TT:=λσ H Q=>t σ H λc H1=>Q (!c) H1
def Oa (ha:PT X a tA):PW X (.BoolOp .And [a] pos) tA:=by
 intro wh j5 s σ H Q I h;refine isTrue_and (thn (ha j5 s σ H Q I h) λc s1 e=>?_)
 cases c with
 | true=>exact isTrue_and_nil e
 | false=>exact e
def Qz (ha:PT X a tA):PW X (.BoolOp .Or [a] pos) tA:=by
 intro wh j5 s σ H Q I h;refine isTrue_or (thn (ha j5 s σ H Q I h) λc s1 e=>?_)
 cases c with
 | false=>exact isTrue_or_nil e
 | true=>exact e
def K5 (ha:PT X a tA) (hb:PW X (.BoolOp .And (b :: j7) pos) tB'):PW X (.BoolOp .And (a :: b :: j7) pos) (tAnd tA tB'):=by
 intro wh j5 s σ H Q I h;refine isTrue_and (thn (ha j5 s σ H _ I h) λc s1 kc=>?_);obtain ⟨H1,I1,q1⟩:=kc
 cases c with
 | true=>exact hb wh j5 s1 σ H1 Q I1 q1
 | false=>exact ⟨H1,I1,q1⟩
def Ve (ha:PT X a tA) (hb:PW X (.BoolOp .Or (b :: j7) pos) tB'):PW X (.BoolOp .Or (a :: b :: j7) pos) (tOr tA tB'):=by
 intro wh j5 s σ H Q I h;refine isTrue_or (thn (ha j5 s σ H _ I h) λc s1 kc=>?_);obtain ⟨H1,I1,q1⟩:=kc
 cases c with
 | true=>exact ⟨H1,I1,q1⟩
 | false=>exact hb wh j5 s1 σ H1 Q I1 q1
def J3 (ha:PT X a tA):PT X (.UnaryOp .Not a pos) (tNot tA):=by
 intro j5 s σ H Q I h;exact isTrue_not (ha j5 s σ H (λc H1=>Q (!c) H1) I h)
def Zsx (ta tb:TE):TE:=λσ H Q=>ta σ H λx H1=>∃ c,x=.bl c/\if c=true then tb σ H1 Q else Q (.bl false) H1
def Zf6 {op} {t:TE} (h:PE X a t):PE X (.BoolOp op [a] pos) t:=λj5 s σ H Q I hw=>BoolOp_one (h j5 s σ H Q I hw)
def Zf8 (ha:PE X a ta) (hb:PE X (.BoolOp .And (b :: j7) pos) tb):PE X (.BoolOp .And (a :: b :: j7) pos) (Zsx ta tb):=by
 intro j5 s σ H Q I h;refine BoolOp_and (thn (ha j5 s σ H _ I h) λv s1 kc=>?_);obtain ⟨x,H1,I1,r1,q1⟩:=kc;obtain ⟨c,rfl,q1⟩:=q1;cases r1;refine wpAny_truthy_bool ?_
 cases c with
 | true=>exact hb j5 s1 σ H1 Q I1 q1
 | false=>exact ⟨.bl false,H1,I1,Y,q1⟩
def tIf (t:TT) (ta tb:TE):TE:=λσ H Q=>t σ H λc H1=>if c=true then ta σ H1 Q else tb σ H1 Q
def F2 {c:Expr} (hc:PT X c tA) (ha:PE X a ta) (hb:PE X b tb):PE X (.IfExp c a b pos) (tIf tA ta tb):=by
 intro j5 s σ H Q I h;refine wpAny_IfExp (thn (hc j5 s σ H _ I h) λd s1 kc=>?_);obtain ⟨H1,I1,q1⟩:=kc
 cases d with
 | true=>exact ha j5 s1 σ H1 Q I1 q1
 | false=>exact hb j5 s1 σ H1 Q I1 q1
end
def SqL (K:W.Frag) (H:Hp) (a:Addr) (xs:List V):Prop :=
 Rd H a (.lst xs) \/
  ∃ (o:Obj) (its:Array Value) (n:Nat),K.lookup a=some o/\o.cls=.type "list"/\o.dict=none/\o.data=.seq its n/\its.size<=sizeLine/\Vals xs its.toList
def SqT (K:W.Frag) (H:Hp) (a:Addr) (xs:List V):Prop :=
 Rd H a (.tup xs) \/
  ∃ (o:Obj) (its:Array Value) (n:Nat),K.lookup a=some o/\o.cls=.type "tuple"/\o.data=.seq its n/\its.size<=sizeLine/\Vals xs its.toList
noncomputable def absV:Value->Option V
 | .none=>some .non
 | .bool b=>some (.bl b)
 | .int i _=>some (.int i)
 | .str x _=>some (.str x)
 | .bytes b _=>some (.byt b)
 | .float b _=>some (.flt b)
 | .ref a=>some (.ref a)
 | .type n=>some (.ty n)
 | _=>none
def RelV.abs (r:RelV x u):absV u=some x:=by
 cases x with
 | non=>cases r; rfl
 | bl _=>cases r; rfl
 | int _=>obtain ⟨t,rfl⟩:=r; rfl
 | str _=>obtain ⟨t,rfl⟩:=r; rfl
 | byt _=>obtain ⟨t,rfl⟩:=r; rfl
 | flt _=>obtain ⟨t,rfl⟩:=r; rfl
 | ref _=>cases r; rfl
 | ty _=>cases r; rfl
def RelV.inj (r:RelV x u) (q:RelV y u):x=y:=Ax (r.abs.symm.trans q.abs)
theorem Vals.inj:∀ {xs ys:List V} {us:List Value},Vals xs us->Vals ys us->xs=ys
 | _,_,_,.nil,.nil=>rfl
 | _,_,_,.cons r t,.cons r' t'=>by rw [r.inj r',Vals.inj t t']
section
variable {X:Cx} {j5:List (n:)} {σ:St} {H:Hp} {s:Shared} {a:Addr} {xs ys:List V}
def SqL.of {K:W.Frag} (h:H a=some (.lst xs)):SqL K H a xs:=.inl (.inl h)
def SqT.of {K:W.Frag} (h:H a=some (.tup xs)):SqT K H a xs:=.inl (.inl h)
def Inv.list (I:Inv X j5 σ H s) (h:SqL X.K H a xs):∃ its:List Value,Vals xs its/\PlainL s.heap a its.toArray/\xs.length<=sizeLine:=by
 rcases h with h | ⟨o,its,n,hk,hc,hd,hs,hz,r⟩
 ·obtain ⟨z,its,n,r,e⟩:=h.ok I.hok
  exact ⟨its,r,⟨_,n,e,Y,Y,Y⟩,z⟩
 ·refine ⟨its.toList,r,⟨o,n,I.kIn a o hk,hc,hd,by simpa using hs⟩,?_⟩
  have e:=r.length;simp only [Array.length_toList] at e;lia
def Inv.tuple (I:Inv X j5 σ H s) (h:SqT X.K H a xs):∃ its:List Value,Vals xs its/\IsTup s.heap a its.toArray/\xs.length<=sizeLine:=by
 rcases h with h | ⟨o,its,n,hk,hc,hs,hz,r⟩
 ·obtain ⟨z,its,r,p⟩:=h.ok I.hok
  exact ⟨its,r,p,z⟩
 ·refine ⟨its.toList,r,⟨o,I.kIn a o hk,hc,n,by simpa using hs⟩,?_⟩
  have e:=r.length;simp only [Array.length_toList] at e;lia
def Inv.list_inj (I:Inv X j5 σ H s) (h:SqL X.K H a xs) (h':SqL X.K H a ys):xs=ys:=by
 obtain ⟨its,r,⟨o,n,e,_,_,d⟩,_⟩:=I.list h;obtain ⟨its',r',⟨o',n',e',_,_,d'⟩,_⟩:=I.list h';rw [e] at e'; cases e';rw [d] at d'
 injection d' with d1 _
 have:its=its':=by simpa using congrArg Array.toList d1
 subst this;exact r.inj r'
def Inv.tuple_inj (I:Inv X j5 σ H s) (h:SqT X.K H a xs) (h':SqT X.K H a ys):xs=ys:=by
 obtain ⟨its,r,⟨o,e,_,n,d⟩,_⟩:=I.tuple h;obtain ⟨its',r',⟨o',e',_,n',d'⟩,_⟩:=I.tuple h';rw [e] at e'; cases e';rw [d] at d'
 injection d' with d1 _
 have:its=its':=by simpa using congrArg Array.toList d1
 subst this;exact r.inj r'
end
abbrev Cx.wish (X:Cx) (E:Value->Shared->Prop):Cx:={ X with xe:=E }
abbrev Cx.nox (X:Cx):Cx:=X.wish λ_ _=>False
def Cx.Ok.wish {X:Cx} (ok:X.Ok) (E:Value->Shared->Prop):(X.wish E).Ok :=
 ⟨ok.mod,ok.kind,ok.glob,ok.blt,ok.above,ok.inj,ok.has,ok.cab,ok.hd,ok.frames,ok.stk,ok.exf,ok.bs,ok.bsz,ok.noex,ok.exfs,ok.funs,ok.frf⟩
def Cx.Ok.unwish {X:Cx} (ok:(X.wish E).Ok):X.Ok :=
 ⟨ok.mod,ok.kind,ok.glob,ok.blt,ok.above,ok.inj,ok.has,ok.cab,ok.hd,ok.frames,ok.stk,ok.exf,ok.bs,ok.bsz,ok.noex,ok.exfs,ok.funs,ok.frf⟩
section
variable {X:Cx} {j5:List (n:)} {σ:St} {H:Hp} {s:Shared} {E:Value->Shared->Prop}
def Inv.wish (I:Inv X j5 σ H s) (E:Value->Shared->Prop):Inv (X.wish E) j5 σ H s:=⟨I.ok.wish E,I.os,I.bare,I.base,I.loc,I.cell,I.free,I.freeC,I.pin,I.hok,I.len⟩
def Inv.unwish (I:Inv (X.wish E) j5 σ H s):Inv X j5 σ H s:=⟨I.ok.unwish,I.os,I.bare,I.base,I.loc,I.cell,I.free,I.freeC,I.pin,I.hok,I.len⟩
def SP.unwish (h:SP (X.wish E) j5 D f s'):SP X j5 D f s':=by
 cases f with
 | next=>obtain ⟨σ',H',I,q⟩:=h; exact ⟨σ',H',I.unwish,q⟩
 | brk=>obtain ⟨σ',H',I,q⟩:=h; exact ⟨σ',H',I.unwish,q⟩
 | cont=>obtain ⟨σ',H',I,q⟩:=h; exact ⟨σ',H',I.unwish,q⟩
 | ret u=>obtain ⟨v,σ',H',I,r,q⟩:=h; exact ⟨v,σ',H',I.unwish,r,q⟩
def PSs.nox {st:List Stmt} {t:TS} (h:PSs X.nox st t):PSs X st t:=λj5 s σ H D I hw =>
 wpAny_mono (h j5 s σ H D (I.wish _) hw) (λ_ _ q=>q.unwish) λ_ _ z=>False.elim z
end
section
variable {X:Cx} {st:Stmt} {j7:List Stmt} {t u:TS} {e:Expr} {te:TE} {pos:Pos}
def Jo:TS:=λD σ H=>D.nx σ H
def tSeq (t u:TS):TS:=λD σ H=>t { D with nx:=u D } σ H
def Zz:PSs X [] Jo:=λ_ _ σ H _ I h=>wpAny_execs_nil ⟨σ,H,I,h⟩
def Ze (h1:PS X st t) (h2:PSs X j7 u):PSs X (st :: j7) (tSeq t u):=by
 intro j5 s σ H D I h;refine wpAny_execs_cons (thn (h1 j5 s σ H { D with nx:=u D } I h) λf s1 q=>?_)
 cases f with
 | next =>
  obtain ⟨σ',H',I',q⟩:=q;exact h2 j5 s1 σ' H' D I' q
 | ret v=>exact q
 | brk=>exact q
 | cont=>exact q
def Zh (h1:PS X st t):PSs X [st] t:=by
 intro j5 s σ H D I h;refine wpAny_execs_cons (thn (h1 j5 s σ H D I h) λf s1 q=>?_)
 cases f with
 | next=>exact wpAny_execs_nil q
 | ret v=>exact q
 | brk=>exact q
 | cont=>exact q
def Zri:TS:=λD σ H=>D.bk σ H
def Znk:PS X (.Break pos) Zri:=λ_ _ σ H _ I h=>wpAny_Break ⟨σ,H,I,h⟩
def Inv.quiet {j5:List (n:)} {σ:St} {H:Hp} {s:Shared} (I:Inv X j5 σ H s):interactive X.env=false:=by simp [interactive,I.ok.kind]
def Zop (te:TE):TS:=λD σ H=>te σ H λ_ H1=>D.nx σ H1
def Z8 (he:PE X e te) (hs:swapsWith e none pos.line X.env=pure false:=by rfl):PS X (.Expr e pos) (Zop te):=by
 intro j5 s σ H D I h;refine wpAny_Expr_any (thn (he j5 s σ H _ I h) λv s1 zz2=>?_) I.quiet hs;obtain ⟨x,H1,I1,r1,q1⟩:=zz2;exact ⟨σ,H1,I1,q1⟩
def tRet (te:TE):TS:=λD σ H=>te σ H D.rt
def Zl (he:PE X e te):PS X (.Return (some e) pos) (tRet te):=by
 intro j5 s σ H D I h;refine wpAny_Return_some (thn (he j5 s σ H _ I h) λv s1 zz3=>?_);obtain ⟨x,H1,I1,r1,q1⟩:=zz3;exact ⟨x,σ,H1,I1,r1,q1⟩
def tIfS (c:TT) (t u:TS):TS:=λD σ H=>c σ H λb H1=>if b=true then t D σ H1 else u D σ H1
def Z9 {c:Expr} {a b:List Stmt} {tc:TT} (hc:PT X c tc) (ha:PSs X a t) (hb:PSs X b u):PS X (.If c a b pos) (tIfS tc t u):=by
 intro j5 s σ H D I h;refine wpAny_If (thn (hc j5 s σ H _ I h) λd s1 kc=>?_);obtain ⟨H1,I1,q1⟩:=kc
 cases d with
 | true=>exact ha j5 s1 σ H1 D I1 q1
 | false=>exact hb j5 s1 σ H1 D I1 q1
def Zkj:TS:=λ_ _ _=>False
def Znj:PS X st Zkj:=λ_ _ _ _ _ _ h=>h.elim
def Yy:PSs X sts Zkj:=λ_ _ _ _ _ _ h=>h.elim
end
abbrev TG:=V->St->Hp->(St->Hp->Prop)->Prop
abbrev TGs:=List V->St->Hp->(St->Hp->Prop)->Prop
def PG (X:Cx) (y3:Expr) (t:TG):Prop :=
 ∀ j5 s σ H (v:V) (u:Value) (Q:St->Hp->Prop),Inv X j5 σ H s->RelV v u->t v σ H Q ->
  wpAny (e:) X.A (assign y3 X.env u) (λ_ s'=>∃ σ' H',Inv X j5 σ' H' s'/\Q σ' H') X.xe s
def PGs (X:Cx) (ts:List Expr) (t:TGs):Prop :=
 ∀ j5 s σ H (vs:List V) (us:List Value) (Q:St->Hp->Prop),Inv X j5 σ H s->Vals vs us->t vs σ H Q ->
  wpAny (e:) X.A (assignInOrder ((assignEach ts X.env).map (·.2)) us) (λ_ s'=>∃ σ' H',Inv X j5 σ' H' s'/\Q σ' H') X.xe s
abbrev TSet:=V->V->V->Hp->(Hp->Prop)->Prop
def PSet (X:Cx) (t:TSet):Prop :=
 ∀ j5 s σ H (o i v:V) (ov iv u:Value) (Q:Hp->Prop),Inv X j5 σ H s->RelV o ov->RelV i iv->RelV v u->t o i v H Q ->
  wpAny (e:) X.A (setItem ov iv u) (λ_ s'=>∃ H',Inv X j5 σ H' s'/\Q H') X.xe s
abbrev TIp:=V->V->Hp->VK->Prop
def PIp (X:Cx) (op:Operator) (t:TIp):Prop :=
 ∀ j5 s σ H (x y:V) (v u:Value) (Q:VK),Inv X j5 σ H s->RelV x v->RelV y u->t x y H Q ->
  wpAny (e:) X.A (inplaceOp op v u) (EP X j5 σ Q) X.xe s
section
variable {X:Cx} {pos:Pos}
def Zo (i:Nat):TG:=λv σ H Q=>Q (σ.set i (some v)) H
def Zk (hN:X.N.Nodup) (hi:X.N[i]?=some x) (hx:Loc X.env.scope x) (hf:X.fn x=true\/X.env.scope.names.lookup x=some .local:=by first | exact .inl rfl | exact .inr rfl | assumption):PG X (.Name x pos) (Zo i):=by
 intro j5 s σ H v u Q I r h;exact wpAny_assign_Name (Qd I hN hi hx r (λs' I'=>⟨_,H,I',h⟩) hf)
def gNil:TGs:=λvs σ H Q=>vs=[]/\Q σ H
def Zti (t:TG) (u:TGs):TGs:=λvs σ H Q=>∃ v r,vs=v :: r/\t v σ H λσ' H'=>u r σ' H' Q
def Yz:PGs X [] gNil:=by
 intro j5 s σ H vs us Q I r h;obtain ⟨e,h⟩:=h;subst e;cases r;exact assignInOrder_nil ⟨σ,H,I,h⟩
def Zw {e:Expr} {es:List Expr} {t:TG} {u:TGs} (h1:PG X e t) (h2:PGs X es u)
  (hs:(assignEach (e :: es) X.env).map (·.2)=assign e X.env :: (assignEach es X.env).map (·.2):=by rfl):PGs X (e :: es) (Zti t u):=by
 intro j5 s σ H vs us Q I r h;obtain ⟨v,vr,e1,h⟩:=h;subst e1
 cases r with
 | cons r rr =>
  rw [hs];refine assignInOrder_cons (thn (h1 j5 s σ H _ _ _ I r h) λ_ s1 kc=>?_);obtain ⟨σ1,H1,I1,q1⟩:=kc;exact h2 j5 s1 σ1 H1 _ _ Q I1 rr q1
def gTup (K:W.Frag) (n:Nat) (t:TGs):TG:=λv σ H Q=>∃ a xs,v=.ref a/\SqT K H a xs/\xs.length=n/\t xs σ H Q
def Ww (hc:X.calm=true) (h:PGs X es t)
  (hn:(assignEach es X.env).length=n:=by rfl) (l6:(assignEach es X.env).findIdx? (·.1)=none:=by rfl):PG X (.Tuple es k pos) (gTup X.K n t):=by
 intro j5 s σ H v u Q I r hw;obtain ⟨a,xs,e1,hq,hl,hw⟩:=hw;subst e1;cases r;obtain ⟨its,rv,ht,hz⟩:=I.tuple hq;refine assign_Tuple_tuple (I.ok.hd hc) ht (by simp [hn,<- hl,rv.length]) l6 λh' hx=>?_;have I1:Inv X j5 σ H { s with heap:=h' }:=I.kept (t':=s.toks) λb o e=>hx b o (As (Ao e)) e;exact h j5 _ σ H xs _ Q I1 (by simpa using rv) hw
def gSub (to ti:TE) (t:TSet):TG:=λv σ H Q=>to σ H λo H1=>ti σ H1 λi H2=>t o i v H2 λH3=>Q σ H3
def J5 {o i:Expr} {to ti:TE} {t:TSet} (ho:PE X o to) (hi:PE X i ti) (hs:PSet X t)
  (ha:∀ v,assign (.Subscript o i pos) X.env v=(do
   let ov <- holding [v] (eval o X.env)
   let iv <- holding [v,ov] (eval i X.env)
   standAt pos
   holding [v,ov,iv] (setItem ov iv v)
   release [v,ov,iv] []):=by intro _; rfl):PG X (.Subscript o i pos) (gSub to ti t):=by
 intro j5 s σ H v u Q I r h;rw [ha];refine Al (wpAny_holding (thn (ho j5 s σ H _ I h) λov s1 kc=>?_));obtain ⟨x,H1,I1,r1,q1⟩:=kc;refine Al (wpAny_holding (thn (hi j5 s1 σ H1 _ I1 q1) λiv s2 kc=>?_));obtain ⟨y,H2,I2,r2,q2⟩:=kc;refine Al (wpAny_standAt (Al (wpAny_holding (thn (hs j5 s2 σ H2 x y v ov iv u _ I2 r1 r2 r q2) λ_ s3 kc=>?_))));obtain ⟨H3,I3,q3⟩:=kc;exact wpAny_release ⟨σ,H3,I3,q3⟩
def tAsg (te:TE) (g:TG):TS:=λD σ H=>te σ H λx H1=>g x σ H1 D.nx
def Xt {tg e:Expr} {te:TE} {g:TG} (he:PE X e te) (hg:PG X tg g) (hs:swapsWithSole [tg] e pos.line X.env=pure false:=by rfl) (hw:swappedStores [tg] e X.env=pure none:=by rfl)
  (h1:(assignEach [tg] X.env).map (·.2)=[assign tg X.env]:=by rfl):PS X (.Assign [tg] e pos) (tAsg te g):=by
 intro j5 s σ H D I h;refine wpAny_Assign_stores (thn (he j5 s σ H _ I h) λv s1 zz4=>?_) hs hw;obtain ⟨x,H1,I1,r1,q1⟩:=zz4;rw [h1];exact thn (hg j5 s1 σ H1 x v _ I1 r1 q1) λ_ s2 q=>q
def Zs {i:Nat} {x:Str} {e:Expr} {te:TE} {mh:Pos} (hN:X.N.Nodup) (hi:X.N[i]?=some x) (hx:Loc X.env.scope x) (he:PE X e te) (hs:swapsWith e (some (.Name x mh)) pos.line X.env=pure false:=by rfl) (hf:X.fn x=true\/X.env.scope.names.lookup x=some .local:=by first | exact .inl rfl | exact .inr rfl | assumption) :
  PS X (.Assign [.Name x mh] e pos) (tAsg te (Zo i)):=by
 intro j5 s σ H D I h;refine wpAny_Assign_Name (thn (he j5 s σ H _ I h) λv s1 zz5=>?_) hs;obtain ⟨y,H1,I1,r1,q1⟩:=zz5;exact Qd I1 hN hi hx r1 (λs2 I2=>⟨_,H1,I2,q1⟩) hf
def tPar (i j:Nat) (ta:TA):TS:=λD σ H=>ta σ H λvs H1=>∃ v w,vs=[v,w]/\D.nx ((σ.set i (some v)).set j (some w)) H1
def Zk7 {i j:Nat} {x y:Str} {a b:Expr} {ta:TA} {px py pt:Pos} {kt k2 pt2} (hc:X.calm=true) (hN:X.N.Nodup) (hi:X.N[i]?=some x) (hj:X.N[j]?=some y) (vh:i≠j)
  (hx:X.env.scope.names.lookup x=some .local) (hy:X.env.scope.names.lookup y=some .local) (ha:PA X [a,b] ta)
  (hw:swappedStores [.Tuple [.Name x px,.Name y py] kt pt] (.Tuple [a,b] k2 pt2) X.env=pure (some [x,y]))
  (hs:swapsWithSole [.Tuple [.Name x px,.Name y py] kt pt] (.Tuple [a,b] k2 pt2) pos.line X.env=pure false:=by rfl) :
  PS X (.Assign [.Tuple [.Name x px,.Name y py] kt pt] (.Tuple [a,b] k2 pt2) pos) (tPar i j ta):=by
 intro j5 s σ H D I h;rw [exec_Assign_arm];refine Al (wpAny_standAt ?_);rw [hs];refine Al (wpAny_pure ?_);rw [if_neg (d:)];refine Al (Tuple_ (thn (ha _ j5 s σ H _ I h) λus s1 kc=>?_));obtain ⟨vs,H1,I1,r1,q1⟩:=kc;obtain ⟨v,w,e1,q1⟩:=q1;subst e1
 obtain ⟨u1,u2,rfl,rv,n8⟩:∃ u1 u2,us=[u1,u2]/\RelV v u1/\RelV w u2:=by
  cases r1 with
  | cons p q =>
   cases q with
   | cons p' q' =>
    cases q';exact ⟨_,_,Y,p,p'⟩
 refine wpAny_newObj_type ?_ (bb:);have I2:Inv X j5 σ H1 { s1 with heap:=s1.heap.push { cls:=.type "tuple",data:=.seq [u1,u2].toArray } }:=I1.kept (t':=s1.toks) λb o e=>Ak _ e;rw [hw];refine Al (wpAny_pure ?_);show wpAny (e:) X.A (do rule "assign.swapped-stores"; let items <- unpackItems (.ref s1.heap.objs.size) 2 none; assignInOrder [λv=>bindName X.env y v,λv=>bindName X.env x v] items.reverse; pure Flow.next) _ _ _;refine Al (wpAny_rule (Al (unpackItems_tuple (items:=#[u1,u2]) (I.ok.hd hc) (IsTup.new s1.heap _) λh' n9=>?_)));have I3:=I2.kept (h':=h') (t':=s1.toks) λb o e=>n9 b o (As (Ao e)) e;show wpAny _ _ (assignInOrder [λv=>bindName X.env y v,λv=>bindName X.env x v] [u2,u1] >>= λ_=>pure Flow.next) _ _ _;refine Al (assignInOrder_cons (wpAny_bindName (Qd I3 hN hj (.inl hy) n8 (λs2 I4=>?_) (.inr hy))));refine assignInOrder_cons (wpAny_bindName (Qd I4 hN hi (.inl hx) rv (λs3 I5=>assignInOrder_nil (wpAny_pure ?_)) (.inr hx)));rw [set_comm _ _ (Ne.symm vh)] at I5;exact ⟨_,H1,I5,q1⟩
def tAug (i:Nat) (te:TE) (ti:TIp):TS:=λD σ H=>∃ x,σ[i]?=some (some x)/\te σ H λy H1=>ti x y H1 λz H2=>D.nx (σ.set i (some z)) H2
def Zrq {i:Nat} {x:Str} {e:Expr} {te:TE} {op:Operator} {ti:TIp} {mh:Pos} (hN:X.N.Nodup) (hi:X.N[i]?=some x) (hx:Loc X.env.scope x) (he:PE X e te) (ho:PIp X op ti) (hf:X.fn x=true\/X.env.scope.names.lookup x=some .local:=by first | exact .inl rfl | exact .inr rfl | assumption) :
  PS X (.AugAssign (.Name x mh) op e pos) (tAug i te ti):=by
 intro j5 s σ H D I h;obtain ⟨v,e1,h⟩:=h;obtain ⟨m,hn,hl⟩:=I.loc
 have vis:Vis X.env.scope x:=by rcases hx with k | k; exact .inl k; exact .inr (.inl k)
 obtain ⟨u,r,l⟩:=hl i x v hi e1 vis;refine wpAny_AugAssign_Name ?_;have go:wpAny (e:) X.A (eval e X.env) (λw s₂=>wpAny (e:) X.A (inplaceOp op u w) (λr s₃=>wpAny (e:) X.A (storeName X.env x r) (λ_=>SP X j5 D .next) X.xe s₃) X.xe s₂) X.xe s:=by
  refine thn (he j5 s σ H _ I h) λw s1 kc=>?_
  obtain ⟨y,H1,I1,r1,q1⟩:=kc
  refine thn (ho j5 s1 σ H1 v y u w _ I1 r r1 q1) λz s2 kc=>?_
  obtain ⟨zv,H2,I2,r2,q2⟩:=kc
  exact Qd I2 hN hi hx r2 (λs3 I3=>⟨_,H2,I3,q2⟩) hf
 rcases l with ⟨hk,hm⟩ | ⟨hk,c,hc,hcell⟩
 ·exact wpAny_loadName_local I.ok.kind hk hn hm go
 ·rcases hk with hk | hk
  ·exact wpAny_loadName_cell I.ok.kind hk hc hcell go
  ·rcases hx with k | k
   ·have:X.env.scope.names.lookup x=some .free:=hk
    rw [k] at this; cases this
   ·have:X.env.scope.names.lookup x=some .free:=hk
    rw [k] at this; cases this
def Zsv (to ti te:TE) (vm:V->V->Hp->VK->Prop) (tip:TIp) (vk:TSet):TS:=λD σ H=>to σ H λo H1=>ti σ H1 λi H2=>vm o i H2 λx H3=>te σ H3 λy H4=>tip x y H4 λz H5=>vk o i z H5 λH6=>D.nx σ H6
def PGet (X:Cx) (t:V->V->Hp->VK->Prop):Prop :=
 ∀ j5 s σ H (o i:V) (ov iv:Value) (Q:VK),Inv X j5 σ H s->RelV o ov->RelV i iv->t o i H Q ->
  wpAny (e:) X.A (getItem ov iv) (EP X j5 σ Q) X.xe s
def Zib {o i e:Expr} {to ti te:TE} {vm:V->V->Hp->VK->Prop} {tip:TIp} {vk:TSet} {op:Operator} {mq:Pos} (ho:PE X o to) (hi:PE X i ti) (hg:PGet X vm) (he:PE X e te) (hp:PIp X op tip) (hs:PSet X vk)
  (ha:∀ ov iv new,augStore i ov iv new=(do holding [new,ov,iv] (setItem ov iv new); release [new,ov,iv] []; pure .next):=by intros; rfl):PS X (.AugAssign (.Subscript o i mq) op e pos) (Zsv to ti te vm tip vk):=by
 intro j5 s σ H D I h;refine wpAny_AugAssign_SubscriptAny (thn (ho j5 s σ H _ I h) λov s1 zz6=>?_) ha;obtain ⟨x1,H1,I1,r1,q1⟩:=zz6;refine thn (hi j5 s1 σ H1 _ I1 q1) λiv s2 kc=>?_;obtain ⟨x2,H2,I2,r2,q2⟩:=kc;refine thn (hg j5 s2 σ H2 x1 x2 ov iv _ I2 r1 r2 q2) λold s3 kc=>?_;obtain ⟨x3,H3,I3,r3,q3⟩:=kc;refine thn (he j5 s3 σ H3 _ I3 q3) λv s4 kc=>?_;obtain ⟨x4,H4,I4,r4,q4⟩:=kc;refine thn (hp j5 s4 σ H4 x3 x4 old v _ I4 r3 r4 q4) λnew s5 kc=>?_;obtain ⟨x5,H5,I5,r5,q5⟩:=kc;refine thn (hs j5 s5 σ H5 x1 x2 x5 ov iv new _ I5 r1 r2 r5 q5) λ_ s6 zz7=>?_;obtain ⟨H6,I6,q6⟩:=zz7;exact ⟨σ,H6,I6,q6⟩
def ipI (f:Int->Int->Int):TIp:=λx y H Q=>∃ i j,x=.int i/\y=.int j/\Q (.int (f i j)) H
def Zmb:PIp X .Add (ipI λi j=>i + j):=by
 intro j5 s σ H x y v u Q I r1 r2 h;obtain ⟨i,j,e1,e2,q⟩:=h;subst e1; subst e2;obtain ⟨t,rfl⟩:=r1;obtain ⟨t',rfl⟩:=r2;exact iadd_int ⟨.int _,H,I.tok _,⟨_,Y⟩,q⟩
def Zak (c:TT) (tb:TS):TS:=λD σ H=>∃ W:Nat->St->Hp->Prop,(∃ m,W m σ H)/\∀ m σ H,W m σ H ->
 c σ H λb H1=>if b=true then ∃ N:St->Hp->Prop,(∀ σ' H',N σ' H'->∃ m',m' < m/\W m' σ' H')/\tb { D with nx:=N,ct:=N,bk:=D.nx } σ H1 else D.nx σ H1
def Vx {c:Expr} {body:List Stmt} {tc:TT} {tb:TS} (hp:PassesOwn (e:) X.A X.env X.xe) (hc:PT X c tc) (hb:PSs X body tb):PS X (.While c body [] pos) (Zak tc tb):=by
 intro j5 s σ H D I h;obtain ⟨W,⟨m0,w0⟩,p8⟩:=h;refine wpAny_While (codeAny_whileLoop (λn s'=>∃ σ' H',Inv X j5 σ' H' s'/\W n σ' H') ?_ m0 ⟨σ,H,I,w0⟩);rintro n s1 ⟨σ1,H1,I1,w1⟩;refine wpAny_passesOwn hp (thn (hc j5 s1 σ1 H1 _ I1 (p8 n σ1 H1 w1)) λb s2 kc=>?_);obtain ⟨H2,I2,q2⟩:=kc
 cases b with
 | true =>
  obtain ⟨N,hN,q2⟩:=q2;rw [if_pos rfl];refine wpAny_passesOwn hp (thn (hb j5 s2 σ1 H2 _ I2 q2) λf s3 q3=>?_)
  cases f with
  | next =>
   obtain ⟨σ3,H3,I3,n3⟩:=q3;obtain ⟨m',hm,w3⟩:=hN σ3 H3 n3;exact ⟨m',hm,σ3,H3,I3,w3⟩
  | cont =>
   obtain ⟨σ3,H3,I3,n3⟩:=q3;obtain ⟨m',hm,w3⟩:=hN σ3 H3 n3;exact ⟨m',hm,σ3,H3,I3,w3⟩
  | brk=>exact q3
  | ret v=>exact q3
 | false =>
  rw [if_neg Bool.false_ne_true];exact wpAny_execs_nil ⟨σ1,H2,I2,q2⟩
end
structure It where
 go:Nat->Hp->Prop
 yld:Nat->Hp->V->Hp->Prop
 stop:Nat->Hp->Prop
def FpOk (X:Cx) (j5:List (n:)) (H:Hp) (b:Addr):Prop :=
 H b=none/\b≠X.env.locals/\b ∉ X.fs/\(b∈X.ex\/X.s₀.heap.objs.size<=b)/\(∀ x c,X.env.cells.lookup x=some c->c≠b)/\∀ p∈X.pn ++ j5,p.1≠b
def Inv.fpOk {X:Cx} {j5:List (n:)} {σ:St} {H H':Hp} {s:Shared} {b:Addr} (I:Inv X j5 σ H s) (hb:s.heap.objs.size<=b) (hn:H' b=none):FpOk X j5 H' b:=by
 refine ⟨hn,Nat.ne_of_gt (Ag I.lt hb),I.nofs hb,.inr (Nat.le_trans I.sz hb),λx c e z=>?_,λp hp z=>?_⟩
 ·obtain ⟨v,q⟩:=I.cell x c e
  exact absurd (Ag q.lt (by rw [z]; exact hb)) (Nat.lt_irrefl _)
 ·exact absurd (Ag (Ao (I.pin p hp).1) (by rw [z]; exact hb)) (Nat.lt_irrefl _)
structure Turn (P:Program) (w:World) (K:W.Frag) (tg:Expr) (J:It) (fp:List Addr) (it:Addr) (tn:Nat->Heap->Prop):Prop where
 mem:it∈fp
 obj:∀ i h,tn i h->∀ b∈fp,∃ o,h.get? b=some o/\∀ v,o.data≠.cell v
 keep:∀ i h h',tn i h->(∀ b∈fp,∀ o,h.get? b=some o->h'.get? b=some o)->tn i h'
 item:∀ (X:Cx),X.prog=P->X.w=w->X.K=K->X.calm=true->∀ (i:Nat) (j5:List (n:)) (s:Shared) (σ:St) (H:Hp) (E:Value->Shared->Prop),Inv X j5 σ H s->(∀ b∈fp,FpOk X j5 H b)->tn i s.heap->J.go i H ->
  wpAny (model P w) X.A (pyNext (.ref it)) (λr s1=>∃ u,r=some u /\
   wpAny (model P w) X.A (letOwnedTupleGo tg (.ref it) u) (λ_ s2=>∃ x H',Inv X j5 σ H' s2/\RelV x u/\J.yld i H x H'/\tn (i + 1) s2.heap/\∀ b∈fp,H' b=none) E s1) E s
 done:∀ (X:Cx),X.prog=P->X.w=w->X.K=K->X.calm=true->∀ (i:Nat) (j5:List (n:)) (s:Shared) (σ:St) (H:Hp) (E:Value->Shared->Prop),Inv X j5 σ H s->(∀ b∈fp,FpOk X j5 H b)->tn i s.heap->J.stop i H ->
  wpAny (model P w) X.A (pyNext (.ref it)) (λr s1=>r=none/\Inv X j5 σ H s1) E s
 self:∀ (A:Around) (i:Nat) (s:Shared) (Q:Value->Shared->Prop) (E:Value->Shared->Prop),tn i s.heap->Q (.ref it) s->wpAny (model P w) A (pyIter (.ref it)) Q E s
abbrev TI:=St->Hp->(It->Hp->Prop)->Prop
def PIE (X:Cx) (j5:List (n:)) (σ:St) (tg:Expr) (R:It->Hp->Prop) (ze:Value) (s2:Shared):Prop :=
 ∃ (it:Addr) (fp:List Addr) (tn:Nat->Heap->Prop) (J:It) (H':Hp),ze=.ref it/\Inv X j5 σ H' s2/\Turn X.prog X.w X.K tg J fp it tn/\tn 0 s2.heap/\(∀ b∈fp,FpOk X j5 H' b)/\R J H'
def PI (X:Cx) (tg iter:Expr) (wi:TI):Prop :=
 ∀ j5 s σ H (R:It->Hp->Prop),Inv X j5 σ H s->wi σ H R ->
  wpAny (e:) X.A (eval iter X.env) (λv s1=>wpAny (e:) X.A (pyIter v) (PIE X j5 σ tg R) X.xe s1) X.xe s
def Gs {s:Shared} {o:Obj} (ho:s.heap.get? it=some o) (hc:o.cls=.type n) (hd:o.data=.fields vs)
    (hn:["enumerate","zip","dict_itemiterator","dict_reverseitemiterator","odict_iterator","itertools.zip_longest","itertools.pairwise"].contains n=false) (hQ:Q () s):wpAny M A (letOwnedTupleGo tg (.ref it) u) Q E s:=by
  unfold letOwnedTupleGo
  cases tg <;> first
    | exact wpAny_pure hQ
    | (cases u <;> first
        | exact wpAny_pure hQ
        | (refine Al (wpAny_load ho ?_)
           rw [hc,hd];show wpAny M A (if (["enumerate","zip","dict_itemiterator","dict_reverseitemiterator","odict_iterator","itertools.zip_longest","itertools.pairwise"].contains n && vs[0]? == some (rawInt _))=true then _ else _) Q E s;rw [if_neg (by intro h; rw [hn,Bool.false_and] at h; cases h)]
           exact wpAny_pure hQ))
noncomputable def Itl (K:W.Frag) (a:Addr):It :=
 ⟨λi H=>∃ xs x,SqL K H a xs/\xs[i]?=some x,λi H x H'=>H'=H/\∀ xs,SqL K H a xs->xs[i]?=some x,λi H=>∃ xs,SqL K H a xs/\xs.length<=i⟩
noncomputable def Itt (K:W.Frag) (a:Addr):It :=
 ⟨λi H=>∃ xs x,SqT K H a xs/\xs[i]?=some x,λi H x H'=>H'=H/\∀ xs,SqT K H a xs->xs[i]?=some x,λi H=>∃ xs,SqT K H a xs/\xs.length<=i⟩
noncomputable def Itr (lo:Int) (n:Nat):It:=⟨λi _=>i < n,λi H x H'=>H'=H/\x=.int (lo + i),λi _=>n<=i⟩
def Zkh {P:Program} {w:World} {K:W.Frag} {tg:Expr} (a it:Addr):Turn P w K tg (Itl K a) [it] it (λi h=>h.IsListIter it a i) where
 mem:=by simp
 obj:=λi h st b hb=>by
  have e:b=it:=by simpa using hb
  subst e;obtain ⟨o,e,c,d⟩:=st;exact (a2:)
 keep:=λi h h' st k=>st.at λo e=>k it (by simp) o e
 item:=by
  intro X hP hw hK hc i j5 s σ H E I hf st hg;subst hP hw hK;obtain ⟨xs,x,hq,hx⟩:=hg;obtain ⟨its,rv,p,hz⟩:=I.list hq;obtain ⟨u,hu,ru⟩:=rv.get hx;obtain ⟨f0,f1,f2,f3,f4,f5⟩:=hf it (by simp);refine wpAny_pyNext_list_item st p.isList (x:=u) (by simpa using hu) λh' mj sb=>?_;have I1:Inv X j5 σ H { s with heap:=h' }:=I.turned (t':=s.toks) (λb o hb e=>(sb.2 b hb).trans e) f0 f1 f3 f4 f5;obtain ⟨o,e,c,d⟩:=id mj;exact ⟨u,Y,Gs (s:={ s with heap:=h' }) e c d (d:) ⟨x,H,I1,ru,⟨Y,λys hy=>by rw [I.list_inj hy hq]; exact hx⟩,mj,λb hb=>(hf b hb).1⟩⟩
 done:=by
  intro X hP hw hK hc i j5 s σ H E I hf st hg;subst hP hw hK;obtain ⟨xs,hq,hx⟩:=hg;obtain ⟨its,rv,p,hz⟩:=I.list hq;obtain ⟨f0,f1,f2,f3,f4,f5⟩:=hf it (by simp);have hl:=rv.length;exact wpAny_pyNext_list_end (I.ok.hd hc) st p.isList (by simp; lia) λh' eb=>(J:)
 self:=λ_ _ _ _ _ st h=>wpAny_pyIter_listiter st h
def Zi3 {P:Program} {w:World} {K:W.Frag} {tg:Expr} (a it:Addr):Turn P w K tg (Itt K a) [it] it (λi h=>h.IsTupleIter it a i) where
 mem:=by simp
 obj:=λi h st b hb=>by
  have e:b=it:=by simpa using hb
  subst e;obtain ⟨o,e,c,d⟩:=st;exact (a2:)
 keep:=λi h h' st k=>st.at λo e=>k it (by simp) o e
 item:=by
  intro X hP hw hK hc i j5 s σ H E I hf st hg;subst hP hw hK;obtain ⟨xs,x,hq,hx⟩:=hg;obtain ⟨its,rv,p,hz⟩:=I.tuple hq;obtain ⟨u,hu,ru⟩:=rv.get hx;obtain ⟨f0,f1,f2,f3,f4,f5⟩:=hf it (by simp);refine wpAny_pyNext_tuple_item st (show s.heap.IsTuple a its.toArray from p) (x:=u) (by simpa using hu) λh' mj sb=>?_;have I1:Inv X j5 σ H { s with heap:=h' }:=I.turned (t':=s.toks) (λb o hb e=>(sb.2 b hb).trans e) f0 f1 f3 f4 f5;obtain ⟨o,e,c,d⟩:=id mj;exact ⟨u,Y,Gs (s:={ s with heap:=h' }) e c d (d:) ⟨x,H,I1,ru,⟨Y,λys hy=>by rw [I.tuple_inj hy hq]; exact hx⟩,mj,λb hb=>(hf b hb).1⟩⟩
 done:=by
  intro X hP hw hK hc i j5 s σ H E I hf st hg;subst hP hw hK;obtain ⟨xs,hq,hx⟩:=hg;obtain ⟨its,rv,p,hz⟩:=I.tuple hq;obtain ⟨f0,f1,f2,f3,f4,f5⟩:=hf it (by simp);have hl:=rv.length;exact wpAny_pyNext_tuple_end (I.ok.hd hc) st (show s.heap.IsTuple a its.toArray from p) (by simp; lia) λh' eb=>(J:)
 self:=λ_ _ _ _ _ st h=>wpAny_pyIter_tupleiter st h
def Zi4 {P:Program} {w:World} {K:W.Frag} {tg:Expr} (it:Addr) (lo:Int) (n:Nat):Turn P w K tg (Itr lo n) [it] it (λi h=>IsRangeIter h it (lo + (i:Nat) * 1) ((n:Int) - (i:Nat)) 1) where
 mem:=by simp
 obj:=λi h st b hb=>by
  have e:b=it:=by simpa using hb
  subst e;exact ⟨_,st,λv z=>by
   have z':Data.fields _=Data.cell v:=z
   cases z'⟩
 keep:=λi h h' st k=>k it (by simp) _ st
 item:=by
  intro X hP hw hK hc i j5 s σ H E I hf st hg;subst hP hw hK;obtain ⟨f0,f1,f2,f3,f4,f5⟩:=hf it (by simp);have W:=Walks.range (prog:=X.prog) (w:=X.w) (I.ok.hd hc) it lo 1 n;refine W.item i s _ _ hg st λv h' tk hv mj kk=>?_;obtain ⟨t,rfl⟩:=hv;have I1:Inv X j5 σ H { s with heap:=h',toks:=tk }:=I.turned (λb o hb e=>kk b o (by simpa using hb) e) f0 f1 f3 f4 f5;refine ⟨_,Y,Gs (s:={ s with heap:=h',toks:=tk }) (n:="range_iterator") mj rfl rfl (d:) ⟨.int (lo + i),H,I1,⟨t,?_⟩,⟨rfl,rfl⟩,mj,λb hb=>(hf b hb).1⟩⟩;rw [Int.mul_one]
 done:=by
  intro X hP hw hK hc i j5 s σ H E I hf st hg;subst hP hw hK;obtain ⟨f0,f1,f2,f3,f4,f5⟩:=hf it (by simp);exact wpAny_pyNext_range_end (I.ok.hd hc) st (by have:n<=i:=hg; lia) λh' eb=>(J:)
 self:=λ_ _ _ _ _ st h=>wpAny_pyIter_rangeiter st h
section
variable {X:Cx} {tg:Expr}
def Ztf (K:W.Frag) (tl:TE):TI:=λσ H R=>tl σ H λx H1=>∃ a,x=.ref a/\(∃ xs,SqL K H1 a xs)/\R (Itl K a) H1
def iTup (K:W.Frag) (tl:TE):TI:=λσ H R=>tl σ H λx H1=>∃ a,x=.ref a/\(∃ xs,SqT K H1 a xs)/\R (Itt K a) H1
def Yx {l:Expr} {tl:TE} (hl:PE X l tl):PI X tg l (Ztf X.K tl):=by
 intro j5 s σ H R I h;refine thn (hl j5 s σ H _ I h) λv s1 kc=>?_;obtain ⟨x,H1,I1,r1,q1⟩:=kc;obtain ⟨a,e,⟨xs,hq⟩,q⟩:=q1;subst e;cases r1;obtain ⟨its,rv,p,hz⟩:=I1.list hq;refine wpAny_pyIter_list p.isList ?_;refine ⟨s1.heap.objs.size,[s1.heap.objs.size],_,_,H1,Y,I1.kept (t':=s1.toks) λb o e=>Ak _ e,Zkh a _,⟨_,Ap _ Y,Y,Y⟩,λb hb=>?_,q⟩;have e:b=s1.heap.objs.size:=by simpa using hb
 subst e;exact I1.fpOk (An _) (I1.hok.fresh (An _))
def Zld {l:Expr} {tl:TE} (hl:PE X l tl):PI X tg l (iTup X.K tl):=by
 intro j5 s σ H R I h;refine thn (hl j5 s σ H _ I h) λv s1 kc=>?_;obtain ⟨x,H1,I1,r1,q1⟩:=kc;obtain ⟨a,e,⟨xs,hq⟩,q⟩:=q1;subst e;cases r1;obtain ⟨its,rv,p,hz⟩:=I1.tuple hq;refine wpAny_pyIter_tuple (show s1.heap.IsTuple a its.toArray from p) ?_;refine ⟨s1.heap.objs.size,[s1.heap.objs.size],_,_,H1,Y,I1.kept (t':=s1.toks) λb o e=>Ak _ e,Zi3 a _,⟨_,Ap _ Y,Y,Y⟩,λb hb=>?_,q⟩;have e:b=s1.heap.objs.size:=by simpa using hb
 subst e;exact I1.fpOk (An _) (I1.hok.fresh (An _))
def Zf2 {j5:List (n:)} {σ:St} {H:Hp} {s:Shared} {R:It->Hp->Prop} {E:Value->Shared->Prop} {lo hi:Int} {t u v:Tok} {tk:Nat} (I:Inv X j5 σ H s) (h1:-(2 ^ 62)<=lo) (h2:lo < 2 ^ 62) (h3:-(2 ^ 62)<=hi) (h4:hi < 2 ^ 62)
  (q:R (Itr lo (hi - lo).toNat) H):wpAny (e:) X.A (pyIter (a6:)) (PIE X j5 σ tg R) E { s with heap:=s.heap.push { cls:=.type "range",data:=.fields #[.int lo t,.int hi u,.int 1 v] },toks:=tk }:=by
 refine wpAny_pyIter_range (IsRange.new ..) (small_one h1 h2 h3 h4) ?_;have I1:Inv X j5 σ H { s with heap:=s.heap.push { cls:=.type "range",data:=.fields #[.int lo t,.int hi u,.int 1 v] },toks:=tk }:=I.kept λb o e=>Ak _ e;refine ⟨(s.heap.push { cls:=.type "range",data:=.fields #[.int lo t,.int hi u,.int 1 v] }).objs.size,[(s.heap.push { cls:=.type "range",data:=.fields #[.int lo t,.int hi u,.int 1 v] }).objs.size],_,_,H,rfl,
  I1.kept (t':=tk) λb o e=>Ak _ e,Zi4 _ lo (hi - lo).toNat,?_,λb hb=>?_,q⟩
 ·have e1:lo + ((0:Nat):Int) * 1=lo:=by simp
  have e2:(((hi - lo).toNat:Nat):Int) - ((0:Nat):Int)=Builtin.Range.rangeSize lo hi 1:=by rw [rangeSize_one]; split <;> lia
  show IsRangeIter _ _ (lo + ((0:Nat):Int) * 1) ((((hi - lo).toNat:Nat):Int) - ((0:Nat):Int)) 1;rw [e1,e2];exact Ap _ Y
 ·have e:b=(s.heap.push { cls:=.type "range",data:=.fields #[.int lo t,.int hi u,.int 1 v] }).objs.size:=by simpa using hb
  subst e;exact I1.fpOk (An _) (I1.hok.fresh (An _))
def Ztd (ta:TA):TI:=λσ H R=>ta σ H λvs H1=>∃ j:Int,vs=[.int j]/\-(2 ^ 62)<=j/\j < 2 ^ 62/\R (Itr 0 j.toNat) H1
def Ztc (ta:TA):TI:=λσ H R=>ta σ H λvs H1=>∃ i j:Int,vs=[.int i,.int j]/\(-(2 ^ 62)<=i/\i < 2 ^ 62/\-(2 ^ 62)<=j/\j < 2 ^ 62)/\R (Itr i (j - i).toNat) H1
def Xw {a:Expr} {ta:TA} {p pos:Pos} (hg:Gl X "range") (hm:X.mg "range"=none) (ha:PA X [a] ta) (hs:starEach [a] X.env=[(false,eval a X.env)]:=by rfl):PI X tg (.Call (.Name "range" p) [a] [] pos) (Ztd ta):=by
 intro j5 s σ H R I h;refine Call_ (Wf I hg hm boot_range (PyProof.Rows.callWith_type1 (thn (ha pos j5 s σ H _ I h) λus s1 zz8=>?_) hs Y));obtain ⟨vs,H1,I1,r1,q1⟩:=zz8;obtain ⟨j,e,q1,q2,q⟩:=q1;subst e
 cases r1 with
 | cons r rr =>
  cases rr;obtain ⟨t,rfl⟩:=r;exact call_range_1 (Zf2 I1 (by lia) (by lia) q1 q2 (by simpa using q))
def Zlf {a b:Expr} {ta:TA} {p pos:Pos} (hg:Gl X "range") (hm:X.mg "range"=none) (ha:PA X [a,b] ta) (hs:starEach [a,b] X.env=[(false,eval a X.env),(false,eval b X.env)]:=by rfl) (nv:starEach [b] X.env=[(false,eval b X.env)]:=by rfl) :
  PI X tg (.Call (.Name "range" p) [a,b] [] pos) (Ztc ta):=by
 intro j5 s σ H R I h;refine Call_ (Wf I hg hm boot_range (F:));obtain ⟨i,j,e,⟨q1,q2,q3,q4⟩,q⟩:=q1;subst e
 cases r1 with
 | cons r rr =>
  cases rr with
  | cons r' rr =>
   cases rr;obtain ⟨t,rfl⟩:=r;obtain ⟨t',rfl⟩:=r';exact call_range_2 (Zf2 I1 q1 q2 q3 q4 q)
def tFor (wi:TI) (g:TG) (tb:TS):TS:=λD σ H=>wi σ H λJ H1=>∃ W:Nat->Nat->St->Hp->Prop,(∃ m,W 0 m σ H1)/\∀ i m σ H,W i m σ H ->
 (J.stop i H/\D.nx σ H)\/(J.go i H/\∃ N:St->Hp->Prop,(q:)/\∀ x H',J.yld i H x H'->g x σ H' λσ2 H2=>tb { D with nx:=N,ct:=N,bk:=D.nx } σ2 H2)
noncomputable def Oc (fp:List Addr) (h:Heap):List (n:):=fp.filterMap λb=>(h.get? b).map λo=>(b,o)
def Jg {fp:List Addr} {h:Heap} {b:Addr} {o:Obj} (hb:b∈fp) (e:h.get? b=some o):(b,o)∈Oc fp h:=mem_filterMap.mpr ⟨b,hb,by rw [e]; rfl⟩
def Zlz {h:Heap} {p:Addr × Obj} (hp:p∈Oc fp h):p.1∈fp/\h.get? p.1=some p.2:=by
 obtain ⟨b,hb,e⟩:=mem_filterMap.mp hp
 cases q:h.get? b with
 | none=>rw [q] at e; cases e
 | some o =>
  rw [q] at e;have e':(b,o)=p:=Ax e;subst e';exact ⟨hb,q⟩
def Inv.pinned {j5:List (n:)} {σ:St} {H:Hp} {s:Shared} {fp:List Addr} (I:Inv X j5 σ H s) (hf:∀ b∈fp,FpOk X j5 H b) (ho:∀ b∈fp,∃ o,s.heap.get? b=some o/\∀ v,o.data≠.cell v):Inv X (j5 ++ Oc fp s.heap) σ H s :=
 I.pins_of λp hp=>(mem_append.mp hp).elim (λz=>I.pin p (mem_append_right _ z)) λz=>by
  obtain ⟨hb,e⟩:=Zlz z;obtain ⟨f0,f1,f2,_⟩:=hf p.1 hb;obtain ⟨o,e',d⟩:=ho p.1 hb;rw [e] at e'; cases e';exact ⟨e,f0,f1,f2,d⟩
def Inv.unpinned {j5 pl:List (n:)} {σ:St} {H:Hp} {s:Shared} (I:Inv X (j5 ++ pl) σ H s):Inv X j5 σ H s:=I.pins_of λp hp=>I.pin p (mem_append_right _ (mem_append_left _ hp))
def Xr {iter:Expr} {body:List Stmt} {wi:TI} {g:TG} {tb:TS} {pos:Pos} (hp:PassesOwn (e:) X.A X.env X.xe) (hc:X.calm=true) (hi:PI X tg iter wi) (hg:PG X tg g) (hb:PSs X body tb)
  (hs:∀ x,foldedSetIterable iter X.env x=pure x:=by intro _; rfl):PS X (.For tg iter body [] pos) (tFor wi g tb):=by
 intro j5 s σ H D I h;refine wpAny_For (thn (hi j5 s σ H _ I h) λv s1 h1=>thn h1 λze s2 h2=>?_) hs;obtain ⟨it,fp,tn,J,H2,e,I2,T,md,f2,W,⟨m0,w0⟩,p8⟩:=h2;subst e;have mr:∀ {H':Hp},(∀ b∈fp,H' b=none)->∀ b∈fp,FpOk X j5 H' b:=λhn b hb=>⟨hn b hb,(f2 b hb).2⟩;refine codeAny_forLoop_any (λn s'=>∃ i σ' H',Inv X j5 σ' H' s'/\tn i s'.heap/\(∀ b∈fp,H' b=none)/\W i n σ' H') ?_ m0 ⟨0,σ,H2,I2,md,λb hb=>(f2 b hb).1,w0⟩;rintro n s3 ⟨i,σ3,H3,I3,oj,wv,w3⟩
 rcases p8 i n σ3 H3 w3 with ⟨stop,qn⟩ | ⟨go,N,hN,step⟩
 ·refine wpAny_passesOwn hp (thn (T.done X rfl rfl rfl hc i j5 s3 σ3 H3 X.xe I3 (mr wv) oj stop) λr s4 ⟨hr,I4⟩=>?_)
  subst hr;exact wpAny_execs_nil ⟨σ3,H3,I4,qn⟩
 ·refine wpAny_passesOwn hp (thn (T.item X rfl rfl rfl hc i j5 s3 σ3 H3 X.xe I3 (mr wv) oj go) λr s4 ⟨u,hr,h4⟩=>?_)
  subst hr;refine wpAny_passesOwn hp (thn h4 λ_ s5 kc=>?_);obtain ⟨x,H5,I5,r5,y5,sv,fr5⟩:=kc;have I5':=I5.pinned (mr fr5) (T.obj _ _ sv);refine wpAny_passesOwn hp (thn (hg _ s5 σ3 H5 x u _ I5' r5 (step x H5 y5)) λ_ s6 kc=>?_);obtain ⟨σ6,H6,I6,q6⟩:=kc;refine wpAny_passesOwn hp (thn (hb _ s6 σ6 H6 _ I6 q6) λf s7 q7=>?_);have again:∀ {σ7:St} {H7:Hp},Inv X (j5 ++ Oc fp s5.heap) σ7 H7 s7->N σ7 H7->∃ m,m < n/\∃ i σ' H',Inv X j5 σ' H' s7/\tn i s7.heap/\(∀ b∈fp,H' b=none)/\W i m σ' H':=λ{σ7 H7} I7 n7=>by
   obtain ⟨m',hm,w7⟩:=hN σ7 H7 n7
   refine ⟨m',hm,i + 1,σ7,H7,I7.unpinned,T.keep _ _ _ sv λb hb o e=>(P:).1,λb hb=>?_,w7⟩
   obtain ⟨o,e,d⟩:=T.obj _ _ sv b hb
   exact (P:).2.1
  cases f with
  | next=>obtain ⟨σ7,H7,I7,n7⟩:=q7; exact again I7 n7
  | cont=>obtain ⟨σ7,H7,I7,n7⟩:=q7; exact again I7 n7
  | brk=>obtain ⟨σ7,H7,I7,q7⟩:=q7; exact ⟨σ7,H7,I7.unpinned,q7⟩
  | ret v=>obtain ⟨x7,σ7,H7,I7,r7,q7⟩:=q7; exact ⟨x7,σ7,H7,I7.unpinned,r7,q7⟩
end
def Zae {K:W.Frag} {a:Addr} {xs:List V} {g:TG} {tb:TS} {D:Ends} {σ:St} {H:Hp} (Pv:Nat->St->Hp->Prop) (h0:Pv 0 σ H) (hl:∀ i σ H,i<=xs.length->Pv i σ H->SqL K H a xs)
  (hs:∀ i x σ H,xs[i]?=some x->Pv i σ H->g x σ H λσ2 H2=>tb { D with nx:=Pv (i + 1),ct:=Pv (i + 1),bk:=D.nx } σ2 H2) (hd:∀ σ H,Pv xs.length σ H->D.nx σ H) :
  ∃ W:Nat->Nat->St->Hp->Prop,(∃ m,W 0 m σ H)/\∀ i m σ H,W i m σ H ->
   ((Itl K a).stop i H/\D.nx σ H)\/((Itl K a).go i H/\∃ N:St->Hp->Prop,(q:)/\∀ x H',(Itl K a).yld i H x H'->g x σ H' λσ2 H2=>tb { D with nx:=N,ct:=N,bk:=D.nx } σ2 H2):=by
 refine (p:);rintro i m σ H ⟨rfl,hi,p⟩;have q:=hl i σ H hi p;by_cases kl:i < xs.length
 ·refine .inr (M:)
  obtain ⟨e,y⟩:=y;subst e;exact hs i x σ _ (y xs q) p
 ·have e:i=xs.length:=by lia
  subst e;exact .inl ⟨⟨xs,q,An _⟩,hd σ H p⟩
def Jx {lo:Int} {n:Nat} {g:TG} {tb:TS} {D:Ends} {σ:St} {H:Hp} (Pv:Nat->St->Hp->Prop) (h0:Pv 0 σ H)
  (hs:∀ i σ H,i < n->Pv i σ H->g (.int (lo + i)) σ H λσ2 H2=>tb { D with nx:=Pv (i + 1),ct:=Pv (i + 1),bk:=D.nx } σ2 H2) (hd:∀ σ H,Pv n σ H->D.nx σ H) :
  ∃ W:Nat->Nat->St->Hp->Prop,(∃ m,W 0 m σ H)/\∀ i m σ H,W i m σ H ->
   ((Itr lo n).stop i H/\D.nx σ H)\/((Itr lo n).go i H/\∃ N:St->Hp->Prop,(q:)/\∀ x H',(Itr lo n).yld i H x H'->g x σ H' λσ2 H2=>tb { D with nx:=N,ct:=N,bk:=D.nx } σ2 H2):=by
 refine (ba:);rintro i m σ H ⟨rfl,hi,p⟩;by_cases kl:i < n
 ·refine .inr (az:)
  obtain ⟨e,y⟩:=y;subst e y;exact hs i σ _ kl p
 ·have e:i=n:=by lia
  subst e;exact .inl ⟨An _,hd σ H p⟩
abbrev R2:=V->V->Hp->VK->Prop
def OpR (X:Cx) (f:Value->Value->Sem Value) (r:R2):Prop :=
 ∀ j5 s σ H (x y:V) (v u:Value) (Q:VK),Inv X j5 σ H s->RelV x v->RelV y u->r x y H Q ->
  wpAny (e:) X.A (f v u) (EP X j5 σ Q) X.xe s
def UnR (X:Cx) (f:Value->Sem Value) (r:V->Hp->VK->Prop):Prop :=
 ∀ j5 s σ H (x:V) (v:Value) (Q:VK),Inv X j5 σ H s->RelV x v->r x H Q ->
  wpAny (e:) X.A (f v) (EP X j5 σ Q) X.xe s
def Xi (X:Cx) (f:Value) (r:List V->Hp->VK->Prop):Prop :=
 ∀ j5 s σ H (xs:List V) (us:List Value) (Q:VK),Inv X j5 σ H s->Vals xs us->r xs H Q ->
  wpAny (e:) X.A (call f us) (EP X j5 σ Q) X.xe s
def TruR (X:Cx) (r:V->Hp->(Bool->Hp->Prop)->Prop):Prop :=
 ∀ j5 s σ H (x:V) (v:Value) (Q:Bool->Hp->Prop),Inv X j5 σ H s->RelV x v->r x H Q ->
  wpAny (e:) X.A (truthy v) (TP X j5 σ Q) X.xe s
def tOp (r:R2) (ta tb:TE):TE:=λσ H Q=>ta σ H λx H1=>tb σ H1 λy H2=>r x y H2 Q
def tUn (r:V->Hp->VK->Prop) (ta:TE):TE:=λσ H Q=>ta σ H λx H1=>r x H1 Q
def rI (C:Int->Int->Prop) (g:Int->Int->V):R2:=λx y H Q=>∃ i j,x=.int i/\y=.int j/\C i j/\Q (g i j) H
def rI0 (g:Int->Int->V):R2:=λx y H Q=>∃ i j,x=.int i/\y=.int j/\Q (g i j) H
def rU (g:Int->V):V->Hp->VK->Prop:=λx H Q=>∃ i,x=.int i/\Q (g i) H
section
variable {X:Cx} {a b c:Expr} {ta tb tc:TE} {pos:Pos}
def binT (ha:PE X a ta) (hb:PE X b tb) {j5:List (n:)} {s:Shared} {σ:St} {H:Hp} {R:V->V->Hp->Prop} (I:Inv X j5 σ H s)
  (h:ta σ H λx H1=>tb σ H1 λy H2=>R x y H2) {Q:Value->Shared->Prop} {f:Value->Value->Sem Value}
  (hf:∀ v u s2 x y H2,Inv X j5 σ H2 s2->RelV x v->RelV y u->R x y H2->wpAny (e:) X.A (f v u) Q X.xe s2) :
  wpAny (e:) X.A (eval a X.env) (λv s₁=>wpAny (e:) X.A (eval b X.env) (λu s₂=>wpAny (e:) X.A (f v u) Q X.xe s₂) X.xe s₁) X.xe s:=by
 refine thn (ha j5 s σ H _ I h) λv s1 kc=>?_;obtain ⟨x,H1,I1,r1,q1⟩:=kc;refine thn (hb j5 s1 σ H1 _ I1 q1) λu s2 kc=>?_;obtain ⟨y,H2,I2,r2,q2⟩:=kc;exact hf v u s2 x y H2 I2 r1 r2 q2
def Zj (ho:OpR X (binaryOp op) r) (ha:PE X a ta) (hb:PE X b tb):PE X (.BinOp a op b pos) (tOp r ta tb):=by
 intro j5 s σ H Q I h;exact wpAny_BinOp (binT ha hb I h λv u s2 x y H2 I2 rx ry q=>ho j5 s2 σ H2 x y v u Q I2 rx ry q)
def Zs5 {op:UnaryOp} {r:V->Hp->VK->Prop} (ho:UnR X (unaryOp op) r) (ha:PE X a ta):PE X (.UnaryOp op a pos) (tUn r ta):=by
 intro j5 s σ H Q I h;refine UnaryOp_ (thn (ha j5 s σ H _ I h) λv s1 kc=>?_);obtain ⟨x,H1,I1,r1,q1⟩:=kc;exact ho j5 s1 σ H1 x v Q I1 r1 q1
def opI {g:Int->Int->Int}
  (rule:∀ (i j:Int) (t u:Tok) (s:Shared) (Q:Value->Shared->Prop) (E:Value->Shared->Prop),C i j->Q (.int (g i j) s.toks) { s with toks:=s.toks + 1 }->wpAny (e:) X.A (f (.int i t) (.int j u)) Q E s) :
  OpR X f (rI C λi j=>.int (g i j)):=by
 intro j5 s σ H x y v u Q I rx ry h;obtain ⟨i,j,rfl,rfl,hc,q⟩:=h;obtain ⟨t,rfl⟩:=rx;obtain ⟨t',rfl⟩:=ry;exact rule i j t t' s _ _ hc ⟨.int (g i j),H,I.tok _,⟨_,Y⟩,q⟩
def opI0 {g:Int->Int->Int}
  (rule:∀ (i j:Int) (t u:Tok) (s:Shared) (Q:Value->Shared->Prop) (E:Value->Shared->Prop),Q (.int (g i j) s.toks) { s with toks:=s.toks + 1 }->wpAny (e:) X.A (f (.int i t) (.int j u)) Q E s) :
  OpR X f (rI0 λi j=>.int (g i j)):=by
 intro j5 s σ H x y v u Q I rx ry h;obtain ⟨i,j,rfl,rfl,q⟩:=h;obtain ⟨t,rfl⟩:=rx;obtain ⟨t',rfl⟩:=ry;exact rule i j t t' s _ _ ⟨.int (g i j),H,I.tok _,⟨_,Y⟩,q⟩
def opB0 {g:Int->Int->Bool}
  (rule:∀ (i j:Int) (t u:Tok) (s:Shared) (Q:Value->Shared->Prop) (E:Value->Shared->Prop),Q (.bool (g i j)) s->wpAny (e:) X.A (f (.int i t) (.int j u)) Q E s) :
  OpR X f (rI0 λi j=>.bl (g i j)):=by
 intro j5 s σ H x y v u Q I rx ry h;obtain ⟨i,j,rfl,rfl,q⟩:=h;obtain ⟨t,rfl⟩:=rx;obtain ⟨t',rfl⟩:=ry;exact rule i j t t' s _ _ ⟨.bl (g i j),H,I,Y,q⟩
def CDiv (i j:Int):Prop:=0 < j/\j < 1073741824
def CPow (i j:Int):Prop:=0<=j/\j<=1000000/\i.natAbs < 2 ^ 64
def CMul (i j:Int):Prop:=(-(2 ^ 64) < i/\i < 2 ^ 64)\/(-(2 ^ 64) < j/\j < 2 ^ 64)
def CMul.ok {i j:Int} (h:CMul i j):IntMulOk i j:=by
 rcases h with ⟨h1,h2⟩ | ⟨h1,h2⟩
 ·exact .of_left (intBits_le_64 h1 h2)
 ·exact .of_right (intBits_le_64 h1 h2)
def Yl:OpR X (binaryOp .Add) (rI0 λi j=>.int (i + j)):=opI0 λ_ _ _ _ _ _ _ q=>add_int q
def V4:OpR X (binaryOp .Sub) (rI0 λi j=>.int (i - j)):=opI0 λ_ _ _ _ _ _ _ q=>sub_int q
def We:OpR X (binaryOp .Mult) (rI CMul λi j=>.int (i * j)):=opI λ_ _ _ _ _ _ _ hc q=>mul_int q hc.ok
def Y7:OpR X (binaryOp .FloorDiv) (rI CDiv λi j=>.int (i / j)):=opI λi j _ _ _ _ _ hc q=>by
 have h1:(0:Int) < j:=hc.1;have h2:j < 1073741824:=hc.2;exact floordiv_int (by lia) (by rw [Int.fdiv_eq_ediv_of_nonneg i (by lia)]; exact q) (.inl (PyProof.noPylong_small (by lia)))
def Z6:OpR X (binaryOp .Mod) (rI (λ_ j=>0 < j) λi j=>.int (i % j)):=opI λi j _ _ _ _ _ hc q=>by
 have h1:(0:Int) < j:=hc;exact mod_int' (by lia) (by rw [Int.fmod_eq_emod_of_nonneg i (by lia)]; exact q)
def Zlo:OpR X (binaryOp .Pow) (rI CPow λi j=>.int (i ^ j.toNat)):=opI λ_ _ _ _ _ _ _ hc q=>pow_int_small hc.1 hc.2.1 hc.2.2 q
def unI {g:Int->Int}
  (rule:∀ (i:Int) (t:Tok) (s:Shared) (Q:Value->Shared->Prop) (E:Value->Shared->Prop),Q (.int (g i) s.toks) { s with toks:=s.toks + 1 }->wpAny (e:) X.A (f (.int i t)) Q E s) :
  UnR X f (rU λi=>.int (g i)):=by
 intro j5 s σ H x v Q I rx h;obtain ⟨i,rfl,q⟩:=h;obtain ⟨t,rfl⟩:=rx;exact rule i t s _ _ ⟨.int (g i),H,I.tok _,⟨_,Y⟩,q⟩
def Zq6:UnR X (unaryOp .USub) (rU λi=>.int (-i)):=unI λ_ _ _ _ _ q=>neg_int q
noncomputable def scal:V->V->Bool
 | .non,.non=>true | .non,.int _=>true | .int _,.non=>true | .non,.bl _=>true | .bl _,.non=>true | .non,.str _=>true | .str _,.non=>true
 | .int _,.int _=>true | .bl _,.bl _=>true | .str _,.str _=>true | .byt _,.byt _=>true
 | .int _,.str _=>true | .str _,.int _=>true | .bl _,.str _=>true | .str _,.bl _=>true
 | _,_=>false
def rEq:R2:=λx y H Q=>scal x y=true/\Q (.bl (decide (x=y))) H
def rNe:R2:=λx y H Q=>scal x y=true/\Q (.bl (!decide (x=y))) H
def Ziw:decide (V.int i=V.int j)=(i == j):=by
 rw [Bool.eq_iff_iff];simp
def Zmm:decide (V.bl i=V.bl j)=(i == j):=by
 rw [Bool.eq_iff_iff];simp
def Ziv:decide (V.str i=V.str j)=(i == j):=by
 rw [Bool.eq_iff_iff];simp
def Zix {i j:Array UInt8}:decide (V.byt i=V.byt j)=(i.toList == j.toList):=by
 rw [Bool.eq_iff_iff];cases i;cases j;simp
def Yg (I:Inv X j5 σ H s) (q:Q (.bl k) H) (e:k=k'):EP X j5 σ Q (.bool k') s:=by
 subst e;exact ⟨.bl k,H,I,Y,q⟩
def Yw:OpR X (compareOp .Eq) rEq:=by
 intro j5 s σ H x y v u Q I rx ry h;obtain ⟨hs,q⟩:=h
 cases x with
 | non =>
  cases rx
  cases y with
  | non=>cases ry; exact PySem.EqNone.eq_none_none (W:)
  | bl j=>cases ry; exact PySem.EqNone.eq_none_bool (W:)
  | int j=>obtain ⟨t',rfl⟩:=ry; exact PySem.EqNone.eq_none_int (W:)
  | str j=>obtain ⟨t',rfl⟩:=ry; exact PySem.EqNone.eq_none_str (W:)
  | _=>exact absurd (ay:) Bool.false_ne_true
 | bl i =>
  cases rx
  cases y with
  | non=>cases ry; exact PySem.EqNone.eq_bool_none (W:)
  | bl j=>cases ry; exact eq_bool (Yg I q Zmm)
  | str j=>obtain ⟨t',rfl⟩:=ry; exact PySem.EqMixed.eq_bool_str (W:)
  | _=>exact absurd (ay:) Bool.false_ne_true
 | int i =>
  obtain ⟨t,rfl⟩:=rx
  cases y with
  | non=>cases ry; exact PySem.EqNone.eq_int_none (W:)
  | int j=>obtain ⟨t',rfl⟩:=ry; exact eq_int (Yg I q Ziw)
  | str j=>obtain ⟨t',rfl⟩:=ry; exact PySem.EqMixed.eq_int_str (W:)
  | _=>exact absurd (ay:) Bool.false_ne_true
 | str i =>
  obtain ⟨t,rfl⟩:=rx
  cases y with
  | non=>cases ry; exact PySem.EqNone.eq_str_none (W:)
  | bl j=>cases ry; exact PySem.EqMixed.eq_str_bool (W:)
  | int j=>obtain ⟨t',rfl⟩:=ry; exact PySem.EqMixed.eq_str_int (W:)
  | str j=>obtain ⟨t',rfl⟩:=ry; exact eq_str (Yg I q Ziv)
  | _=>exact absurd (ay:) Bool.false_ne_true
 | byt i =>
  obtain ⟨t,rfl⟩:=rx
  cases y with
  | byt j=>obtain ⟨t',rfl⟩:=ry; exact PySem.W.eq_bytes (Yg I q Zix)
  | _=>exact absurd (ay:) Bool.false_ne_true
 | _=>cases y <;> exact absurd (ay:) Bool.false_ne_true
def Zeh:OpR X (compareOp .NotEq) rNe:=by
 intro j5 s σ H x y v u Q I rx ry h;obtain ⟨hs,q⟩:=h
 cases x with
 | non =>
  cases rx
  cases y with
  | non=>cases ry; exact PySem.EqNone.ne_none_none (W:)
  | bl j=>cases ry; exact PySem.EqNone.ne_none_bool (W:)
  | int j=>obtain ⟨t',rfl⟩:=ry; exact PySem.EqNone.ne_none_int (W:)
  | str j=>obtain ⟨t',rfl⟩:=ry; exact PySem.EqNone.ne_none_str (W:)
  | _=>exact absurd (ay:) Bool.false_ne_true
 | bl i =>
  cases rx
  cases y with
  | non=>cases ry; exact PySem.EqNone.ne_bool_none (W:)
  | bl j=>cases ry; exact ne_bool (Yg I q (congrArg not Zmm))
  | str j=>obtain ⟨t',rfl⟩:=ry; exact PySem.EqMixed.ne_bool_str (W:)
  | _=>exact absurd (ay:) Bool.false_ne_true
 | int i =>
  obtain ⟨t,rfl⟩:=rx
  cases y with
  | non=>cases ry; exact PySem.EqNone.ne_int_none (W:)
  | int j=>obtain ⟨t',rfl⟩:=ry; exact ne_int (Yg I q (congrArg not Ziw))
  | str j=>obtain ⟨t',rfl⟩:=ry; exact PySem.EqMixed.ne_int_str (W:)
  | _=>exact absurd (ay:) Bool.false_ne_true
 | str i =>
  obtain ⟨t,rfl⟩:=rx
  cases y with
  | non=>cases ry; exact PySem.EqNone.ne_str_none (W:)
  | bl j=>cases ry; exact PySem.EqMixed.ne_str_bool (W:)
  | int j=>obtain ⟨t',rfl⟩:=ry; exact PySem.EqMixed.ne_str_int (W:)
  | str j=>obtain ⟨t',rfl⟩:=ry; exact ne_str (Yg I q (congrArg not Ziv))
  | _=>exact absurd (ay:) Bool.false_ne_true
 | byt i =>
  obtain ⟨t,rfl⟩:=rx
  cases y with
  | byt j=>obtain ⟨t',rfl⟩:=ry; exact PySem.W.ne_bytes (Yg I q (congrArg not Zix))
  | _=>exact absurd (ay:) Bool.false_ne_true
 | _=>cases y <;> exact absurd (ay:) Bool.false_ne_true
def Qs:OpR X (compareOp .Lt) (rI0 λi j=>.bl (decide (i < j))):=opB0 λ_ _ _ _ _ _ _ q=>lt_int q
def Zjn:OpR X (compareOp .LtE) (rI0 λi j=>.bl (decide (i<=j))):=opB0 λ_ _ _ _ _ _ _ q=>le_int q
def Ut:OpR X (compareOp .Gt) (rI0 λi j=>.bl (decide (j < i))):=opB0 λ_ _ _ _ _ _ _ q=>gt_int q
def Zot:OpR X (compareOp .GtE) (rI0 λi j=>.bl (decide (j<=i))):=opB0 λ_ _ _ _ _ _ _ q=>ge_int q
def Zlr:OpR X (compareOp .Is) (λx y H Q=>y=.non/\Q (.bl (decide (x=.non))) H):=by
 intro j5 s σ H x y v u Q I rx ry h;obtain ⟨rfl,q⟩:=h;cases ry;refine is_none_gen (Yg I q ?_)
 cases x <;> first
  | (cases rx; rfl)
  | (obtain ⟨t,rfl⟩:=rx; rfl)
def Ql:OpR X (compareOp .IsNot) (λx y H Q=>y=.non/\Q (.bl (!decide (x=.non))) H):=by
 intro j5 s σ H x y v u Q I rx ry h;obtain ⟨rfl,q⟩:=h;cases ry;refine isnot_none_gen (Yg I q ?_)
 cases x <;> first
  | (cases rx; rfl)
  | (obtain ⟨t,rfl⟩:=rx; rfl)
def Zr (b:Expr) (h:op≠.In:=by decide) (h2:op≠.NotIn:=by decide):behindInMarks op b=false:=by
 have e1:(op == CmpOp.In)=false:=by cases op <;> first | rfl | exact absurd Y h
 have e2:(op == CmpOp.NotIn)=false:=by cases op <;> first | rfl | exact absurd Y h2
 cases b <;> simp [behindInMarks,e1,e2]
def Jf (ho:OpR X (compareOp op) r) (ha:PE X a ta) (hb:PE X b tb) (hm:behindInMarks op b=false):PE X (.Compare a [op] [b] pos) (tOp r ta tb):=by
 intro j5 s σ H Q I h;exact wpAny_Compare1 (binT ha hb I h λv u s2 x y H2 I2 rx ry q=>ho j5 s2 σ H2 x y v u Q I2 rx ry q) hm
def Zsm (t:TE):TT:=λσ H Q=>t σ H λx H'=>∃ k,x=.bl k/\Q k H'
def Zq {op:CmpOp} {r:R2} (ho:OpR X (compareOp op) r) (ha:PE X a ta) (hb:PE X b tb) (hm:behindInMarks op b=false):PT X (.Compare a [op] [b] pos) (Zsm (tOp r ta tb)):=by
 intro j5 s σ H Q I h;refine wpAny_isTrue_Compare1 (thn (ha j5 s σ H _ I h) λv s1 ⟨x,H1,I1,r1,q1⟩=>thn (hb j5 s1 σ H1 _ I1 q1) λu s2 ⟨y,H2,I2,r2,q2⟩ =>
  thn (ho j5 s2 σ H2 x y v u _ I2 r1 r2 q2) λc s3 ⟨z,H3,I3,r3,k,e,q3⟩=>?_) hm
 subst e;cases r3;exact wpAny_truthy_bool ⟨H3,I3,q3⟩
def Zrh (r r':R2) (ta tb tc:TE):TE:=λσ H Q=>ta σ H λx H1=>tb σ H1 λy H2=>r x y H2 λz H3=>∃ k,z=.bl k /\
 (if k=true then tc σ H3 λw' H4=>r' y w' H4 Q else Q (.bl false) H3)
def Zf7 {op op':CmpOp} {r r':R2} (ho:OpR X (compareOp op) r) (tq:OpR X (compareOp op') r') (ha:PE X a ta) (hb:PE X b tb) (hc:PE X c tc)
  (hm:lastMarks [op,op'] [b,c]=false:=by with_unfolding_all rfl):PE X (.Compare a [op,op'] [b,c] pos) (Zrh r r' ta tb tc):=by
 intro j5 s σ H Q I h;refine Compare_chain (thn (ha j5 s σ H _ I h) λv s1 ⟨x,H1,I1,r1,q1⟩=>chain_link (thn (hb j5 s1 σ H1 _ I1 q1) λu s2 ⟨y,H2,I2,r2,q2⟩ =>
  thn (ho j5 s2 σ H2 x y v u _ I2 r1 r2 q2) λd s3 ⟨z,H3,I3,r3,k,e,q3⟩=>?_)) hm
 subst e;cases r3;refine wpAny_truthy_bool ?_
 cases k with
 | false=>exact ite_ff ⟨.bl false,H3,I3,Y,q3⟩
 | true=>exact ite_tt (chain_last (thn (hc j5 s3 σ H3 _ I3 q3) λw' s4 ⟨z',H4,I4,r4,q4⟩=>tq j5 s4 σ H4 y z' u w' Q I4 r2 r4 q4))
def TruV (K:W.Frag) (x:V) (H:Hp) (k:Bool):Prop :=
 match x with
 | .non=>k=false
 | .bl b=>k=b
 | .int i=>k=(i != 0)
 | .str y=>y.length<=sizeLine/\k=((y.length:Int) != 0)
 | .byt y=>y.size<=sizeLine/\k=((y.size:Int) != 0)
 | .ref p=>(∃ xs,SqL K H p xs/\k=!xs.isEmpty)\/(∃ xs,SqT K H p xs/\k=!xs.isEmpty)\/∃ kvs,H p=some (.dK kvs)/\k=!kvs.isEmpty
 | _=>False
def Zjz {κ:Type} {kvs:List (κ × V)} {vs:List (κ × Value)} (r:KV kvs vs):(!vs.isEmpty)=!kvs.isEmpty:=by
 cases r <;> rfl
def Zbh {xs:List V} {its:List Value} (r:Vals xs its):(!its.toArray.isEmpty)=!xs.isEmpty:=by
 cases r <;> simp
def Uc:(sizeLine:Nat) < 2 ^ 63:=by rw [sizeLine_eq]; decide
def Zq7:TruR X (λx H Q=>∃ k,TruV X.K x H k/\Q k H):=by
 intro j5 s σ H x v Q I rx h;obtain ⟨k,e,q⟩:=h;have hl:=Uc;have hs:sizeLine=16777216:=sizeLine_eq
 cases x with
 | non =>
  cases rx;have e':k=false:=e;subst e';exact truthy_none ⟨H,I,q⟩
 | bl b =>
  cases rx;have e':k=b:=e;subst e';exact wpAny_truthy_bool ⟨H,I,q⟩
 | int i =>
  obtain ⟨t,rfl⟩:=rx;have e':k=(i != 0):=e;subst e';exact PySem.P.truthy_int ⟨H,I,q⟩
 | str y =>
  obtain ⟨t,rfl⟩:=rx;obtain ⟨hy,e'⟩:y.length<=sizeLine/\k=((y.length:Int) != 0):=e;subst e';exact PySem.P.truthy_str (by lia) ⟨H,I.tok _,q⟩
 | byt y =>
  obtain ⟨t,rfl⟩:=rx;obtain ⟨hy,e'⟩:y.size<=sizeLine/\k=((y.size:Int) != 0):=e;subst e';exact PySem.W.truthy_bytes (by lia) ⟨H,I.tok _,q⟩
 | ref p =>
  cases rx;have e':(∃ xs,SqL X.K H p xs/\k=!xs.isEmpty)\/(∃ xs,SqT X.K H p xs/\k=!xs.isEmpty)\/∃ kvs,H p=some (.dK kvs)/\k=!kvs.isEmpty:=e
  rcases e' with ⟨xs,hx,e'⟩ | ⟨xs,hx,e'⟩ | ⟨kvs,hx,e'⟩
  ·subst e'
   obtain ⟨its,r,pl,hz⟩:=I.list hx;have j8:=r.length;exact wpAny_truthy_list pl.isList (by simp only [Aq]; lia) ⟨H,I.tok _,by rw [Zbh r]; exact q⟩
  ·subst e'
   obtain ⟨its,r,pl,hz⟩:=I.tuple hx;have j8:=r.length;exact truthy_tuple pl (by simp only [Aq]; lia) ⟨H,I.tok _,by rw [Zbh r]; exact q⟩
  ·subst e'
   obtain ⟨hz,hS,vs,r,m⟩:kvs.length<=sizeLine/\(p == sysModules)=false/\∃ vs,KV kvs vs/\s.heap.DictOf (Z2 X.prog X.w) p vs:=I.hok p _ hx;have j8:kvs.length=vs.length:=Paired.length r;exact wpAny_truthy_dict hS m (by lia) ⟨H,I.tok _,by rw [Zjz r]; exact q⟩
 | _=>exact (show False from e).elim
def Qf (ha:PE X a ta) (he:∀ mw,isTrue a X.env mw=(do let v <- mw; standAt a.pos; holding [v] (truthy v))) :
  PT X a (λσ H Q=>ta σ H λx H'=>∃ k,TruV X.K x H' k/\Q k H'):=by
 intro j5 s σ H Q I h;refine isTrue_plain (thn (ha j5 s σ H _ I h) λv s1 zz10=>?_) (he _);obtain ⟨x,H1,I1,r1,q1⟩:=zz10;exact Zq7 j5 s1 σ H1 x v Q I1 r1 q1
def Wa (r:Vals [x] us):∃ u,us=[u]/\RelV x u:=by
 cases r with
 | cons r1 r2=>cases r2; exact ⟨_,Y,r1⟩
def Zon (r:Vals [x,y] us):∃ u w',us=[u,w']/\RelV x u/\RelV y w':=by
 cases r with
 | cons r1 r2 =>
  cases r2 with
  | cons r3 r4=>cases r4; exact ⟨_,_,Y,r1,r3⟩
def Zdp (hc:X.calm=true):Xi X (.builtin "max") (λxs H Q=>∃ i j,xs=[.int i,.int j]/\Q (.int (if j > i then j else i)) H):=by
 intro j5 s σ H xs us Q I r h;obtain ⟨i,j,rfl,q⟩:=h;obtain ⟨u,w',rfl,⟨t,rfl⟩,⟨t',rfl⟩⟩:=Zon r;refine max_two_ints (I.ok.hd hc) λh' tk k=>⟨_,H,I.kept k,?_,q⟩;by_cases hj:j > i
 ·rw [if_pos hj,if_pos hj]; exact ⟨_,Y⟩
 ·rw [if_neg hj,if_neg hj]; exact ⟨_,Y⟩
def Zmx (hc:X.calm=true):Xi X (.builtin "min") (λxs H Q=>∃ i j,xs=[.int i,.int j]/\Q (.int (if j < i then j else i)) H):=by
 intro j5 s σ H xs us Q I r h;obtain ⟨i,j,rfl,q⟩:=h;obtain ⟨u,w',rfl,⟨t,rfl⟩,⟨t',rfl⟩⟩:=Zon r;refine min_two_ints (I.ok.hd hc) λh' tk k=>⟨_,H,I.kept k,?_,q⟩;by_cases hj:j < i
 ·rw [if_pos hj,if_pos hj]; exact ⟨_,Y⟩
 ·rw [if_neg hj,if_neg hj]; exact ⟨_,Y⟩
def Zg4:Xi X (.type "str") (λxs H Q=>∃ i,xs=[.int i]/\i.natAbs.log2 < 1920/\Q (.str (toString i)) H):=by
 intro j5 s σ H xs us Q I r h;obtain ⟨i,rfl,hz,q⟩:=h;obtain ⟨u,rfl,t,rfl⟩:=Wa r;exact PySem.P.str_of_int hz ⟨.str _,H,I.tok _,⟨_,Y⟩,q⟩
end
structure ObjM (h:Heap) (x dx C:Addr) (mA:Str->Option Value):Prop where
 obj:h.get? x=some (PySem.W.instObj C dx)
 ns:h.Ns1 dx mA
 ne:dx≠x
def Zl8 {h:Heap} (n:h.Ns1 dx mA):∃ od,h.get? dx=some od/\∀ name,PySem.W.lookIn name od=some (mA name):=by
 obtain ⟨o,es,ep,ho,hd,hk,_,hm⟩:=n;refine ⟨o,ho,λname=>?_⟩;have e:=hm name;unfold nsFind findBy at e;rw [<- Array.find?_toList] at e;unfold PySem.W.lookIn;rw [hd];dsimp only;split
 ·rename_i y q
  rw [q] at e;exact congrArg some e
 ·rename_i q
  rw [q] at e;have a:es.toList.any (·.refKey)=false:=by
   rw [any_eq_false]
   intro y hy
   obtain ⟨z,t,hkey⟩:=hk y (Array.mem_toList_iff.mp hy)
   simp [DictEntry.refKey,hkey]
  have a':¬ es.toList.any (·.refKey)=true:=by rw [a]; exact Bool.false_ne_true
  rw [if_neg a'];exact congrArg some e
def ObjM.look (I:ObjM h x dx C mA):∃ od,PySem.W.InstAt h x (PySem.W.instObj C dx) C (some od)/\∀ name,PySem.W.lookIn name od=some (mA name) :=
 let ⟨od,ho,hl⟩:=Zl8 I.ns
 ⟨od,⟨I.obj,rfl,rfl,ho⟩,hl⟩
section
variable {prog:Program} {w:World} {A:Around} {E:Value->Shared->Prop} {s:Shared} {K:W.Frag} {x dx C f:Addr} {mA:Str->Option Value} {name:Str} {v:Value}
def Zqi (X:K.In s.heap) (I:ObjM s.heap x dx C mA) (hg:PySem.W.plainGet K C name=true) (hh:PySem.W.hasDictIn K C=true)
  (ha:PySem.W.findIn K (.ref C) name=some none) (hv:mA name=some v) (hv':PySem.W.handedIn v=true) (h:Q v { s with toks:=s.toks + 1 }) :
  wpAny (a0:) A (getAttr (.ref x) name expr) Q E s:=by
 obtain ⟨od,J,hl⟩:=I.look;exact PySem.W.get_value X J (PySem.W.plainGet_of hg).1 (PySem.W.findObj_own hh ha Y (by rw [hl,hv])) hv' h
def Zob (X:K.In s.heap) (I:ObjM s.heap x dx C mA) (hg:PySem.W.plainGet K C name=true)
  (hf:PySem.W.findIn K (.ref C) name=some (some (.ref f))) (ht:PySem.W.isFn K (.ref f)=true) (hv:mA name=none) (h:Q (.ref f,[.ref x]) s) :
  wpAny (a0:) A (getMethod (.ref x) name pl) Q E s:=by
 obtain ⟨od,J,hl⟩:=I.look;exact PySem.W.method_fn X J (PySem.W.plainGet_of hg).1 (PySem.W.plainGet_of hg).2 hf (beq_iff_eq.mp ht) (by show (PySem.W.lookIn name od).map (·.isSome)=some false; rw [hl,hv]; rfl) h
def Zpo {ns:List Str} (X:K.In s.heap) (I:ObjM s.heap x dx C mA)
  (hs:PySem.W.findIn K (.ref C) "__setattr__"=some (some (.builtin "object.__setattr__"))) (hp:PySem.W.plainOver K C=true) (ht:PySem.W.takerIn K C name=some none) (hh:PySem.W.hasDictIn K C=true)
  (hw:PySem.Within mA ns) (hsz:ns.length<=sizeLine)
  (h:∀ h',ObjM h' x dx C (λy=>if y=name then some v else mA y)->Heap.SameBut dx s.heap h'->Q () { s with heap:=h',toks:=s.toks + 2 }) :
  wpAny (a0:) A (setAttr (.ref x) name v) Q E s:=by
 obtain ⟨od,J,hl⟩:=I.look;refine PySem.W.set_plain X J hs (PySem.W.osa_open (s:={ s with toks:=s.toks + 1 }) (r:=none) X J hp ht λb=>?_);obtain ⟨cd,hc,vj⟩:=PySem.W.any_some hh;have hx:s.heap.get? x=some ⟨.ref C,some dx,.plain,#[]⟩:=I.obj;refine Al (wpAny_pure (Al (Al (wpAny_loadPart hx (Al (PySem.W.Looks.here (s:={ s with toks:=s.toks + 1 }) (PySem.W.looks_clsIn X hc) ?_))))));rw [vj];refine wpAny_pure (a:=some dx) (Al (wpAny_pure (Al ?_)));refine wpAny_nsSet1 (s:={ s with toks:=s.toks + 1 }) I.ns λh' zp nv=>?_;obtain ⟨oD,esD,epD,hoD,hdD,hcD⟩:=zp.count (PySem.Within.cons name v hw);refine Al (wpAny_lookBehind hoD (by rw [hdD]; exact pastItsLine_dict (Nat.le_trans hcD (by rw [length_cons]; lia))) ?_);exact wpAny_pure (h _ ⟨(nv.2 _ (Ne.symm I.ne)).trans I.obj,zp,I.ne⟩ nv)
def Zny {vs:List Value} {kw:List (Str × Value)} (X:K.In s.heap) (hm:PySem.W.makesIn K C=true)
  (hi:PySem.W.findIn K (.ref C) "__init__"=some (some (.ref f))) (hf:PySem.W.typeIn K (.ref f)=some (.type "function"))
  (h:codeAny (a0:) (A.under (.builtin "type.__call__" ⟨.ref C :: vs,kw⟩)) (.call (.ref f) ⟨.ref (S:) :: vs,kw⟩) (PySem.W.InitBack (S:) R)
   { s with heap:=(s.heap.push PySem.W.emptyDict).push (PySem.W.instObj C s.heap.objs.size) }) :
  codeAny (a0:) A (.call (.ref C) ⟨vs,kw⟩) R s:=by
 obtain ⟨hh,g,d,t,os⟩:=s;exact PySem.W.make_core (PySem.W.makes_of X hm) (PySem.W.looks_findIn X hi) (λself=>PySem.W.bind_fn X self hf) (.inl Y) h
end
noncomputable def putF (f:Str) (v:V):List (Str × V)->List (Str × V)
 | []=>[(f,v)]
 | (g,x) :: r=>if g=f then (g,v) :: r else (g,x) :: putF f v r
theorem Z7 (f g:Str) (v:V):∀ fs:List (Str × V),(putF f v fs).lookup g=if g=f then some v else fs.lookup g
 | []=>by
  show List.lookup g [(f,v)]=_;by_cases h:g=f
  ·have hb:(g == f)=true:=beq_iff_eq.mpr h
   simp only [List.lookup,hb,if_pos h]
  ·have hb:(g == f)=false:=beq_eq_false_iff_ne.mpr h
   simp only [List.lookup,hb,if_neg h]
 | (k,x) :: r=>by
  have ih:=Z7 f g v r;rw [show putF f v ((k,x) :: r)=(if k=f then (k,v) :: r else (k,x) :: putF f v r) from rfl];by_cases hk:k=f
  ·rw [if_pos hk]
   by_cases h:g=k
   ·have hb:(g == k)=true:=beq_iff_eq.mpr h
    simp only [List.lookup,hb,if_pos (h.trans hk)]
   ·have hb:(g == k)=false:=beq_eq_false_iff_ne.mpr h
    simp only [List.lookup,hb,if_neg (λe:g=f=>h (e.trans hk.symm))]
  ·rw [if_neg hk]
   by_cases h:g=k
   ·have hb:(g == k)=true:=beq_iff_eq.mpr h
    simp only [List.lookup,hb,if_neg (λe:g=f=>hk (h.symm.trans e))]
   ·have hb:(g == k)=false:=beq_eq_false_iff_ne.mpr h
    simp only [List.lookup,hb];exact ih
theorem Gi (f:Str) (v:V):∀ fs:List (Str × V),f∈(putF f v fs).map (·.1)/\∀ g,g∈fs.map (·.1)->g∈(putF f v fs).map (·.1)
 | []=>⟨by simp [putF],λg h=>by simp at h⟩
 | (k,x) :: r=>by
  obtain ⟨i1,i2⟩:=Gi f v r;rw [show putF f v ((k,x) :: r)=(if k=f then (k,v) :: r else (k,x) :: putF f v r) from rfl];by_cases hk:k=f
  ·rw [if_pos hk]
   subst hk;exact ⟨by simp,λg h=>by simpa using h⟩
  ·rw [if_neg hk]
   refine ⟨?_,λg h=>?_⟩
   ·rw [map_cons]
    exact mem_cons_of_mem _ i1
   ·rw [map_cons] at h ⊢
    rcases Ar h with e | e
    ·exact mem_cons.mpr (.inl e)
    ·exact mem_cons_of_mem _ (i2 g e)
theorem Fp (f:Str) (v:V):∀ fs:List (Str × V),(putF f v fs).length<=fs.length + 1
 | []=>by simp [putF]
 | (k,x) :: r=>by
  have ih:=Fp f v r;rw [show putF f v ((k,x) :: r)=(if k=f then (k,v) :: r else (k,x) :: putF f v r) from rfl];by_cases hk:k=f
  ·rw [if_pos hk,length_cons,length_cons]; lia
  ·rw [if_neg hk,length_cons,length_cons]; lia
def RelO.some_of (r:RelO (some v) o):∃ u,o=some u/\RelV v u:=by
 cases o with
 | none=>exact (show False from r).elim
 | some u=>exact ⟨u,Y,r⟩
def RelO.none_of (r:RelO none o):o=none:=by
 cases o with
 | none=>rfl
 | some u=>exact (show False from r).elim
def Zme (r:RelV v u):PySem.W.handedIn u=true:=by
 cases v with
 | non=>cases (show u=Value.none from r); rfl
 | bl b=>cases (show u=Value.bool b from r); rfl
 | int i=>obtain ⟨t,e⟩:=(show ∃ t,u=Value.int i t from r); cases e; rfl
 | str x=>obtain ⟨t,e⟩:=(show ∃ t,u=Value.str x t from r); cases e; rfl
 | byt b=>obtain ⟨t,e⟩:=(show ∃ t,u=Value.bytes b t from r); cases e; rfl
 | flt b=>obtain ⟨t,e⟩:=(show ∃ t,u=Value.float b t from r); cases e; rfl
 | ref a=>cases (show u=Value.ref a from r); rfl
 | ty n=>cases (show u=Value.type n from r); rfl
section
variable {P:Program} {w:World} {H H':Hp} {h h':Heap} {a C dx:Addr} {fs fs':List (Str × V)}
def Gq (hok:HOk P w H h) (e:H a=some (.ins C dx fs)):∃ mA,ObjM h a dx C mA/\(∀ f,RelO (fs.lookup f) (mA f))/\PySem.Within mA (fs.map (·.1))/\fs.length<=1000/\H dx=some (.own a):=by
 obtain ⟨d,z,ne,ob,mA,n,r,q⟩:=(show Yo P w H h a (.ins C dx fs) from hok a _ e);exact ⟨mA,⟨ob,n,ne⟩,r,q,z,d⟩
end
structure Cls (K:W.Frag) (C:Addr):Prop where
 pg:PySem.W.plainGet K C Str.empty=true
 hd:PySem.W.hasDictIn K C=true
 po:PySem.W.plainOver K C=true
 sa:PySem.W.findIn K (.ref C) "__setattr__"=some (some (.builtin "object.__setattr__"))
def Cls.get {K:W.Frag} {C:Addr} (c:Cls K C) (f:Str):PySem.W.plainGet K C f=true:=c.pg
def Xj (K:W.Frag) (C:Addr) (f:Str):Prop:=PySem.W.findIn K (.ref C) f=some none
def Xj.taker {K:W.Frag} {C:Addr} {f:Str} (n:Xj K C f):PySem.W.takerIn K C f=some none:=by
 unfold PySem.W.takerIn;rw [show PySem.W.findIn K (.ref C) f=some none from n];rfl
structure Meth (K:W.Frag) (C:Addr) (m:Str) (f:Addr):Prop where
 at_:PySem.W.findIn K (.ref C) m=some (some (.ref f))
 fn:PySem.W.isFn K (.ref f)=true
 kp:PySem.W.keepIn K (.ref f)=true
section
variable {X:Cx} {j5:List (n:)} {σ:St} {H:Hp} {s:Shared} {a C dx:Addr} {fs:List (Str × V)} {f:Str} {v:V} {A:Around} {E:Value->Shared->Prop}
def Zj1 (I:Inv X j5 σ H s) (e:H a=some (.ins C dx fs)) (c:Cls X.K C) (n:Xj X.K C f) (l:fs.lookup f=some v)
  (h:∀ u s',Inv X j5 σ H s'->RelV v u->Q u s'):wpAny (e:) A (getAttr (.ref a) f b) Q E s:=by
 obtain ⟨mA,O,r,_,_,_⟩:=Gq I.hok e;obtain ⟨u,hu,ru⟩:=RelO.some_of (v:=v) (o:=mA f) (by rw [<- l]; exact r f);exact Zqi I.kIn O (c.get f) c.hd n hu (Zme ru) (h u _ (I.tok _) ru)
def Vi (I:Inv X j5 σ H s) (e:H a=some (.ins C dx fs)) (c:Cls X.K C) (k:Meth X.K C m g) (l:fs.lookup m=none)
  (h:Q (.ref g,[.ref a]) s):wpAny (e:) A (getMethod (.ref a) m pl) Q E s:=by
 obtain ⟨mA,O,r,_,_,_⟩:=Gq I.hok e;have hn:mA m=none:=RelO.none_of (by rw [<- l]; exact r m);exact Zob I.kIn O (c.get m) k.at_ k.fn hn h
def Zjg (I:Inv X j5 σ H s) (e:H a=some (.ins C dx fs)) (c:Cls X.K C) (n:Xj X.K C f) (hl:fs.length < 1000) (ry:RelV y u)
  (h:∀ s',Inv X j5 σ (upd H a (.ins C dx (putF f y fs))) s'->Q () s'):wpAny (e:) A (setAttr (.ref a) f u) Q E s:=by
 obtain ⟨mA,O,r,wi,_,ho⟩:=Gq I.hok e;have hz:(fs.map (·.1)).length<=sizeLine:=by rw [Ab,sizeLine_eq]; lia
 refine Zpo I.kIn O c.sa c.po n.taker c.hd wi hz λh' O' sb=>h _ ?_;have hd:∃ o,h'.get? dx=some o:=let ⟨o,_,_,e',_⟩:=O'.ns; ⟨o,e'⟩
 refine I.write (x:=a) (e:=dx) (by rw [e]; exact True.intro) (.inr ho) (λb q hb z=>(sb.2 b hb).trans z) hd ?_;refine ⟨by rw [Zd O.ne]; exact ho,?_,O.ne,O'.obj,_,O'.ns,λg=>?_,λg hg=>?_⟩
 ·have:=Fp f y fs; lia
 ·show RelO ((putF f y fs).lookup g) (if g=f then some u else mA g)
  rw [Z7];by_cases q:g=f
  ·rw [if_pos q,if_pos q]; exact ry
  ·rw [if_neg q,if_neg q]; exact r g
 ·by_cases q:g=f
  ·rw [q]; exact (Gi f y fs).1
  ·refine (Gi f y fs).2 g (wi g λz=>hg ?_)
   show (if g=f then some u else mA g)=none;rw [if_neg q]; exact z
def Inv.made (I:Inv X j5 σ H s):Inv X j5 σ (upd (upd H s.heap.objs.size (.own (S:))) (S:) (.ins C s.heap.objs.size []))
  { s with heap:=(s.heap.push PySem.W.emptyDict).push (PySem.W.instObj C s.heap.objs.size) }:=by
 have e1:(s.heap.push PySem.W.emptyDict).get? s.heap.objs.size=some PySem.W.emptyDict:=Ap s.heap rfl;have e2:((s.heap.push PySem.W.emptyDict).push (PySem.W.instObj C s.heap.objs.size)).get? (S:)=some (PySem.W.instObj C s.heap.objs.size):=by
  have:=Ap (s.heap.push PySem.W.emptyDict) (o:=PySem.W.instObj C s.heap.objs.size) rfl
  rwa [Heap.size_push] at this
 have e3:(s.heap.push PySem.W.emptyDict).Ns s.heap.objs.size (λ_=>none):=⟨PySem.W.emptyDict,#[],_,e1,rfl,(λe he=>absurd he (by simp)),λ_=>rfl⟩;have I1:=I.laid (a:=s.heap.objs.size) (o:=.own (S:)) (h':=s.heap.push PySem.W.emptyDict) (t':=s.toks) (λb u q=>Ak _ q) (An _) ⟨_,e1⟩;refine I1.laid (a:=s.heap.objs.size + 1) (o:=.ins C s.heap.objs.size []) (t':=s.toks) (λb u q=>Ak _ q) (Nat.le_of_eq (Heap.size_push _ _)) ?_;have ne:s.heap.objs.size≠s.heap.objs.size + 1:=As (lt_succ_self _);refine ⟨by rw [Zd ne,Zb],Az _,ne,e2,λ_=>none,(Heap.Ns1.of_empty e3).at λo q=>Ak _ q,λ_=>True.intro,λy hy=>absurd Y hy⟩
def Zqv (hb:attributeBase e f env (eval e env)=eval e env)
  (h:wpAny (a0:) A (eval e env) (λo s₁=>wpAny (a0:) A (getAttr o f true) Q E s₁) E s):wpAny (a0:) A (eval (.Attribute e f pos) env) Q E s :=
 Attribute_any_ h (by rw [arm_eval_Attribute,hb])
end
def tFld (K:W.Frag) (ta:TE) (f:Str):TE:=λσ H Q=>ta σ H λx H1=>∃ a C dx fs v,x=.ref a/\H1 a=some (.ins C dx fs)/\Cls K C/\Xj K C f/\fs.lookup f=some v/\Q v H1
def sFld (K:W.Frag) (ta tv:TE) (f:Str):TS:=λD σ H=>tv σ H λy H1=>ta σ H1 λx H2=>∃ a C dx fs,x=.ref a/\H2 a=some (.ins C dx fs)/\Cls K C/\Xj K C f/\fs.length < 1000 /\
 D.nx σ (upd H2 a (.ins C dx (putF f y fs)))
section
variable {X:Cx} {o e value:Expr} {f:Str} {pos mh mq:Pos} {ta tv:TE}
def Zp (he:PE X e ta) (hb:attributeBase e f X.env (eval e X.env)=eval e X.env):PE X (.Attribute e f pos) (tFld X.K ta f):=by
 intro j5 s σ H Q I h;refine Zqv hb (thn (he j5 s σ H _ I h) λu s1 kc=>?_);obtain ⟨x,H1,I1,rx,a,C,dx,fs,v,ex,ea,c,n,l,q⟩:=kc;subst ex;obtain rfl:u=Value.ref a:=rx;exact Zj1 I1 ea c n l λu' s2 I2 ru=>⟨v,H1,I2,ru,q⟩
def Xs (ha:PE X o ta) (hv:PE X value tv) (hs:swapsWith value (some (.Attribute o f mh)) pos.line X.env=pure false):PS X (.Assign [.Attribute o f mh] value pos) (sFld X.K ta tv f):=by
 intro j5 s σ H D I h;refine plainObj_wpAny_Assign_Attribute (thn (hv j5 s σ H _ I h) λu s1 zz11=>?_) hs;obtain ⟨y,H1,I1,ry,q⟩:=zz11;refine thn (ha j5 s1 σ H1 _ I1 q) λov s2 zz12=>?_;obtain ⟨x,H2,I2,rx,a,C,dx,fs,ex,ea,c,n,l,q2⟩:=zz12;subst ex;obtain rfl:ov=Value.ref a:=rx;exact Zjg I2 ea c n l ry λs3 I3=>⟨σ,_,I3,q2⟩
end
section
variable {X:Cx} {j5:List (n:)} {σ:St} {H:Hp} {s:Shared} {A:Around} {E:Value->Shared->Prop} {Q:Value->Shared->Prop} {c:Value} {b:Bool}
inductive TyOf (K:W.Frag) (H:Hp):V->Value->Prop where
 | non:TyOf K H .non (.type "NoneType")
 | bl (x:Bool):TyOf K H (.bl x) (.type "bool")
 | int (i:Int):TyOf K H (.int i) (.type "int")
 | str (x:Str):TyOf K H (.str x) (.type "str")
 | flt (x:UInt64):TyOf K H (.flt x) (.type "float")
 | lst {a:Addr} {xs:List V} (e:H a=some (.lst xs)):TyOf K H (.ref a) (.type "list")
 | frz {a:Addr} {o:Obj} {xs:List V} (e:H a=some (.frz o (.lst xs))):TyOf K H (.ref a) (.type "list")
 | tup {a:Addr} {xs:List V} (e:H a=some (.tup xs)):TyOf K H (.ref a) (.type "tuple")
 | dK {a:Addr} {kvs:List (Key × V)} (e:H a=some (.dK kvs)):TyOf K H (.ref a) (.type "dict")
 | dT {a:Addr} {kvs:List (List Key × V)} (e:H a=some (.dT kvs)):TyOf K H (.ref a) (.type "dict")
 | ins {a C dx:Addr} {fs:List (Str × V)} (e:H a=some (.ins C dx fs)) (cl:Cls K C) (ha:PySem.W.findIn K (.ref C) "__class__"=some (some (.builtin "object.__class__")))
   (hn:PySem.W.specialIn K (.builtin "object.__class__") "__get__"=some (some (.builtin "getset_descriptor.__get__"))) (htk:PySem.W.takesIn K (.builtin "object.__class__")=some true)
   (hm:PySem.W.mroIn K C (.type "object")=some true):TyOf K H (.ref a) (.ref C)
def Zma (I:Inv X j5 σ H s) (rx:RelV x u) (ty:TyOf X.K H x t) (e:PySem.W.kitOne X.K t c=some b) (h:∀ tk,Q (.bool b) { s with toks:=tk }) :
  wpAny (e:) A (call (.builtin "isinstance") [u,c]) Q E s:=by
 cases ty with
 | non=>cases (show u=Value.none from rx); exact PySem.W.kia_one PySem.W.kitx_none I.kIn True.intro e (λz=>nomatch z) h
 | bl y=>cases (show u=Value.bool y from rx); exact PySem.W.kia_one PySem.W.kitx_bool I.kIn True.intro e (λz=>nomatch z) h
 | int i=>obtain ⟨t,q⟩:=(show ∃ t,u=Value.int i t from rx); cases q; exact PySem.W.kia_one PySem.W.kitx_int I.kIn True.intro e (λz=>nomatch z) h
 | str y=>obtain ⟨t,q⟩:=(show ∃ t,u=Value.str y t from rx); cases q; exact PySem.W.kia_one PySem.W.kitx_str I.kIn True.intro e (λz=>nomatch z) h
 | flt y=>obtain ⟨t,q⟩:=(show ∃ t,u=Value.float y t from rx); cases q; exact PySem.W.kia_one PySem.W.kitx_float I.kIn True.intro e (λz=>nomatch z) h
 | @lst a xs ea =>
  cases (show u=Value.ref a from rx);obtain ⟨_,_,n,_,h1⟩:=(show Yo X.prog X.w H s.heap a (.lst xs) from I.hok a _ ea);exact PySem.W.kia_one PySem.W.kitx_list I.kIn ⟨_,h1,Y⟩ e (λz=>nomatch z) h
 | @frz a ob xs ea =>
  cases (show u=Value.ref a from rx);obtain ⟨_,_,_,n,_,h1⟩:=(show Yo X.prog X.w H s.heap a (.frz ob (.lst xs)) from I.hok a _ ea);exact PySem.W.kia_one PySem.W.kitx_list I.kIn ⟨_,h1,Y⟩ e (λz=>nomatch z) h
 | @tup a xs ea =>
  cases (show u=Value.ref a from rx);obtain ⟨_,_,_,p⟩:=(show Yo X.prog X.w H s.heap a (.tup xs) from I.hok a _ ea);obtain ⟨o,h1,h2,_⟩:=p;exact PySem.W.kia_one PySem.W.kitx_tuple I.kIn ⟨o,h1,h2⟩ e (λz=>nomatch z) h
 | @dK a kvs ea =>
  cases (show u=Value.ref a from rx);obtain ⟨_,_,vs,_,p⟩:=(show Yo X.prog X.w H s.heap a (.dK kvs) from I.hok a _ ea);obtain ⟨o,es,ep,h1,h2,_⟩:=p;exact PySem.W.kia_one PySem.W.kitx_dict I.kIn ⟨o,h1,h2.1⟩ e (λz=>nomatch z) h
 | @dT a kvs ea =>
  cases (show u=Value.ref a from rx);obtain ⟨_,_,xs,_,o,es,ep,h1,h2,_⟩:=(show Yo X.prog X.w H s.heap a (.dT kvs) from I.hok a _ ea);exact PySem.W.kia_one PySem.W.kitx_dict I.kIn ⟨o,h1,h2.1⟩ e (λz=>nomatch z) h
 | @ins a C dx fs ea cl ha hn htk hm =>
  cases (show u=Value.ref a from rx);obtain ⟨mA,O,_⟩:=Gq I.hok ea;obtain ⟨od,J,_⟩:=O.look;exact PySem.W.kia_one (PySem.W.kitx_own (cl.get _) cl.hd ha hn htk hm) I.kIn J e (λz=>nomatch z) h
end
structure Room (k:Nat) (A:Around):Prop where
 hd:A.handled=none
 dp:A.depth + 3 * k + 5 < recursionLimit
 un:A.units + 16 * k + 200 < cLine
def Room.mono (r:Room k A) (h:j<=k):Room j A:=⟨r.hd,by have:=r.dp; lia,by have:=r.un; lia⟩
def Room.deeper {A:Around} (r:Room (k + 1) A) (env:Env):Room k (A.deeper env) :=
 ⟨r.hd,by have:=r.dp; show A.depth + 1 + 3 * k + 5 < _; lia,by have:=r.un; show A.units + 3 + 16 * k + 200 < _; lia⟩
def Zjy {A:Around} {us:List Value} {kw:List (Str × Value)}:(A.under (.builtin "type.__call__" ⟨.ref C :: us,kw⟩)).depth=A.depth + 1:=by
 first | rfl | simp [Around.under,Code.weight,Code.isCreation,Code.isGuard,Code.isCaller,Code.frames,Code.isFrame,guardIds]
def Zjx {A:Around} {us:List Value} {kw:List (Str × Value)}:(A.under (.builtin "type.__call__" ⟨.ref C :: us,kw⟩)).units=A.units + 1:=by
 first | rfl | simp [Around.under,Code.cUnits,Code.frames,Code.isFrame]
def Room.make {A:Around} (r:Room (k + 1) A) (C:Addr) (us:List Value) (kw:List (Str × Value)):Room k (A.under (.builtin "type.__call__" ⟨.ref C :: us,kw⟩)) :=
 ⟨r.hd,by have:=r.dp; rw [Zjy]; lia,by have:=r.un; rw [Zjx]; lia⟩
def Room.depth {A:Around} (r:Room k A):A.depth < recursionLimit:=by have:=r.dp; lia
def Room.units {A:Around} (r:Room k A):A.units + 64 < cLine:=by have:=r.un; lia
def tNil:TA:=λ_ H Q=>Q [] H
def Zsu (ta:TE) (tr:TA):TA:=λσ H Q=>ta σ H λx H1=>tr σ H1 λxs H2=>Q (x :: xs) H2
section
variable {X:Cx} {e:Expr} {es:List Expr} {te:TE} {t:TA} {pos:Pos}
def Zc:PA X [] tNil:=λ_ _ _ _ H Q I h=>Calls.spliced_nil ⟨[],H,I,.nil,h⟩
def Za (ha:PE X e te) (hr:PA X es t) (hs:starEach (e :: es) X.env=(a8:) :: starEach es X.env:=by rfl):PA X (e :: es) (Zsu te t):=by
 intro pos j5 s σ H Q I h;rw [hs];show wpAny _ _ (spliced ((a8:) :: backTo pos (starEach es X.env))) _ _ s;refine Calls.spliced_cons (thn (ha j5 s σ H _ I h) λu s1 kc=>?_);obtain ⟨x,H1,I1,r1,q1⟩:=kc;refine thn (hr pos j5 s1 σ H1 _ I1 q1) λus s2 zz13=>?_;obtain ⟨xs,H2,I2,r2,q2⟩:=zz13;exact ⟨x :: xs,H2,I2,.cons r1 r2,q2⟩
def tTup (t:TA):TE:=λσ H Q=>t σ H λxs H1=>xs.length<=sizeLine/\∀ p,H1 p=none->Q (.ref p) (upd H1 p (.tup xs))
def tLst (t:TA):TE:=λσ H Q=>t σ H λxs H1=>xs.length<=sizeLine/\∀ p,H1 p=none->Q (.ref p) (upd H1 p (.lst xs))
def Xg {x1} (h:PA X es t):PE X (.Tuple es x1 pos) (tTup t):=by
 intro j5 s σ H Q I hq;refine wpAny_Tuple_spliced (thn (h pos j5 s σ H _ I hq) λus s1 zz7=>?_);obtain ⟨xs,H1,I1,r,z,q⟩:=zz7;refine ⟨by rw [<- r.length]; exact z,?_⟩;have hf:H1 s1.heap.objs.size=none:=I1.hok.fresh (An _);refine ⟨.ref s1.heap.objs.size,upd H1 s1.heap.objs.size (.tup xs),I1.laid (t':=s1.toks) (λb u e=>Ak _ e) (An _) ?_,Y,q _ hf⟩;exact ⟨z,us,r,⟨_,Ap _ Y,Y,_,Y⟩⟩
def Yr (h:PA X es t):PE X (.List es pos) (tLst t):=by
 intro j5 s σ H Q I hq;refine wpAny_List_spliced (thn (h pos j5 s σ H _ I hq) λus s1 zz7=>?_);obtain ⟨xs,H1,I1,r,z,q⟩:=zz7;refine ⟨by rw [<- r.length]; exact z,?_⟩;have hf:H1 s1.heap.objs.size=none:=I1.hok.fresh (An _);refine ⟨.ref s1.heap.objs.size,upd H1 s1.heap.objs.size (.lst xs),I1.laid (t':=s1.toks) (λb u e=>Ak _ e) (An _) ?_,Y,q _ hf⟩;exact ⟨z,us,0,r,Ap _ Y⟩
end
abbrev Sp:=List V->Hp->VK->XK->Prop
abbrev CXT:=List Env->Hp->Shared->XK->Value->Shared->Prop
structure Env0 (P:Program) (w:World) (K:W.Frag) (mg:Str->Option Value) (base:Heap) (A:Around) (outer:List Env) (s:Shared) (H:Hp):Prop where
 frames:A.frames=some outer
 mod:Mod K mg base
 bs:∀ b o,base.get? b=some o->s.heap.get? b=some o/\H b=none
 bsz:base.objs.size<=s.heap.objs.size
 funs:s.heap.FunFrames base outer
 frf:∀ b∈frs outer,H b=none
 hok:HOk P w H s.heap
 bare:AllBare s.gens
def CE (outer:List Env) (P:Program) (w:World) (H:Hp) (s:Shared) (Q:VK) (u:Value) (s':Shared):Prop :=
 ∃ v H',s'.os=s.os/\AllBare s'.gens/\Un (frs outer) [] H H' s.heap s'.heap/\HOk P w H' s'.heap/\RelV v u/\Q v H'
def CR (CX:CXT) (outer:List Env) (P:Program) (w:World) (H:Hp) (s:Shared) (Q:VK) (E:XK) (r:Result) (s':Shared):Prop :=
 match r with
 | .ok (.ret u)=>CE outer P w H s Q u s'
 | .ok _=>False
 | .error e=>CX outer H s E e s'
structure FnOk (P:Program) (w:World) (K:W.Frag) (mg:Str->Option Value) (base:Heap) (CX:CXT) (k:Nat) (f:Addr) (fd:FuncData) (ps:List Str) (sp:Sp):Prop where
 len:∀ vs H Q E,sp vs H Q E->vs.length=ps.length
 run:∀ (A:Around) (outer:List Env) (s:Shared) (H:Hp) (args:Args) (us:List Value) (vs:List V) (Q:VK) (E:XK),Room k A->Env0 P w K mg base A outer s H->BindsTo s fd args (ps.zip us)->Vals vs us->sp vs H Q E ->
  codeAny (model P w) A (.call (.ref f) args) (CR CX outer P w H s Q E) s
def FnOk.imp {P:Program} {w:World} {K:W.Frag} {mg:Str->Option Value} {base:Heap} {CX:CXT} {k:Nat} {f:Addr} {fd:FuncData} {ps:List Str} {sp sp':Sp} (F:FnOk P w K mg base CX k f fd ps sp)
  (h:∀ vs H Q E,sp' vs H Q E->sp vs H Q E):FnOk P w K mg base CX k f fd ps sp' :=
 ⟨λvs H Q E q=>F.len vs H Q E (h _ _ _ _ q),λA outer s H args us vs Q E hr he hb hv hs=>F.run A outer s H args us vs Q E hr he hb hv (h _ _ _ _ hs)⟩
def Env0.make {P:Program} {w:World} {K:W.Frag} {mg:Str->Option Value} {base:Heap} {A:Around} {outer:List Env} {s:Shared} {H:Hp} (e:Env0 P w K mg base A outer s H) (C:Addr) (us:List Value) (kw:List (Str × Value)) :
  Env0 P w K mg base (A.under (.builtin "type.__call__" ⟨.ref C :: us,kw⟩)) outer s H:=⟨by first | exact e.frames | (simpa [Around.under,Code.envs,Code.isFrame,pushEnvs] using e.frames),e.mod,e.bs,e.bsz,e.funs,e.frf,e.hok,e.bare⟩
section
variable {X:Cx} {j5:List (n:)} {σ:St} {H:Hp} {s s':Shared}
def Inv.env0 (I:Inv X j5 σ H s):Env0 X.prog X.w X.K X.mg X.base X.A X.stack s H :=
 ⟨I.ok.frames,I.ok.mod,I.bs,Nat.le_trans I.ok.bsz I.sz,I.stack,I.stkFree,I.hok,I.bare⟩
def Inv.after (I:Inv X j5 σ H s) (h:CE X.stack X.prog X.w H s Q u s'):EP X j5 σ Q u s':=by
 obtain ⟨v,H',os,bare,un,hok,r,q⟩:=h;obtain ⟨hh,g,d,t,os'⟩:=s';obtain rfl:os'=s.os:=os;exact ⟨v,H',I.call (h':=hh) (g':=g) (d':=d) (t':=t) (ch:=[]) un hok bare (λb z=>absurd z (by simp)),r,q⟩
end
def Zoq (sp:Sp) (lg:List V) (E:XK) (t:TA):TE:=λσ H Q=>t σ H λvs H1=>sp (vs ++ lg) H1 Q E
def Zoo (C:Addr) (m:Str) (sp:Sp) (lg:List V) (E:XK) (ta:TE) (t:TA):TE:=λσ H Q=>ta σ H λx H1=>∃ a dx fs,x=.ref a/\H1 a=some (.ins C dx fs)/\fs.lookup m=none /\
 t σ H1 λvs H2=>sp (x :: (vs ++ lg)) H2 Q E
def Zsq (C:Addr) (sp:Sp) (lg:List V) (E:XK) (t:TA):TE:=λσ H Q=>t σ H λvs H1=>∀ x dx,H1 x=none->H1 dx=none->dx≠x ->
 sp (.ref x :: (vs ++ lg)) (upd (upd H1 dx (.own x)) x (.ins C dx [])) (λv H2=>v=.non/\Q (.ref x) H2) E
def Wu (K:W.Frag) (fd:FuncData) (ps:List Str) (ds:List Value):Prop :=
 ∀ (s:Shared) (us:List Value),K.In s.heap->(us ++ ds).length=ps.length->BindsTo s fd ⟨us,[]⟩ (ps.zip (us ++ ds))
def Wu.all {K:W.Frag} {fd:FuncData} {ps:List Str} (h:∀ us:List Value,us.length=ps.length->bindArgs fd ⟨us,[]⟩=pure (ps.zip us)):Wu K fd ps []:=λs us _ hl=>by
 rw [append_nil] at hl ⊢;exact .of_eq (h us hl)
def Ug (CX:CXT) (X:Cx) (E:XK):Prop:=∀ (j5:List (n:)) (σ:St) (H:Hp) (s:Shared) (e:Value) (s':Shared),Inv X j5 σ H s->CX X.stack H s E e s'->X.xe e s'
section
variable {X:Cx} {CX:CXT} {k:Nat} {f C:Addr} {fd:FuncData} {ps:List Str} {sp:Sp} {lg:List V} {ds:List Value} {E:XK} {x m:Str} {p pos kf:Pos} {e o:Expr} {es:List Expr} {ta:TE} {t:TA}
def Zfx (F:FnOk X.prog X.w X.K X.mg X.base CX k f fd ps sp) (hr:Room k X.A) (hb:Wu X.K fd ps ds) (hd:Vals lg ds) (hx:Ug CX X E)
  (I:Inv X j5 σ H s) (r:Vals vs us) (h:sp (vs ++ lg) H Q E):wpAny (e:) X.A (call (.ref f) us) (EP X j5 σ Q) X.xe s:=by
 have r2:Vals (vs ++ lg) (us ++ ds):=r.append hd;have hl:(us ++ ds).length=ps.length:=by rw [<- r2.length]; exact F.len _ _ _ _ h
 refine wpAny_call (codeAny_mono (F.run X.A X.stack s H ⟨us,[]⟩ (us ++ ds) (vs ++ lg) Q E hr I.env0 (hb s us I.kIn hl) r2 h) λr s' hq=>?_)
 cases r with
 | error e=>exact hx j5 σ H s e s' I hq
 | ok fl =>
  cases fl with
  | ret u=>exact I.after hq
  | next=>exact False.elim hq
  | brk=>exact False.elim hq
  | cont=>exact False.elim hq
def Zp1 (F:FnOk X.prog X.w X.K X.mg X.base CX k f fd ps sp) (hr:Room k X.A) (hg:Gl X x) (hm:X.mg x=some (.ref f)) (hk:PySem.W.keepIn X.K (.ref f)=true) (hb:Wu X.K fd ps ds) (hd:Vals lg ds) (hx:Ug CX X E)
  (ha:PA X (e :: es) t) (oy:(Z:)=false:=by decide) (he:starEach (e :: es) X.env=(a8:) :: starEach es X.env:=by rfl) (lf:(al:).any (·.1)=false:=by rfl) :
  PE X (.Call (.Name x p) (e :: es) [] pos) (Zoq sp lg E t):=by
 intro j5 s σ H Q I h;refine wpAny_Call_Name_kw (Vl I hg hm ?_ oy);refine PySem.W.callWith_K (h₀:=X.base) I.ok.mod.kin hk (thn (ha pos j5 s σ H _ I h) λus s1 zz14=>?_) he lf;obtain ⟨vs,H1,I1,r,q⟩:=zz14;refine ⟨I1.kIn,?_⟩;exact Zfx F hr hb hd hx I1 r q
def Yf {pl:Sem Bool} (he:PE X o ta) (c:Cls X.K C) (hm:Meth X.K C m f) (F:FnOk X.prog X.w X.K X.mg X.base CX k f fd ps sp) (hr:Room k X.A) (hb:Wu X.K fd ps ds) (hd:Vals lg ds) (hx:Ug CX X E) (ha:PA X (e :: es) t)
  (l6:starEach (e :: es) X.env=(a8:) :: starEach es X.env:=by rfl) (lf:(al:).any (·.1)=false:=by rfl)
  (ht:eval (.Call (.Attribute o m kf) (e :: es) [] pos) X.env=(do
   let ov <- eval o X.env
   standAt kf.atName
   let (f,first) <- holding [ov] (getMethod ov m pl)
   callWith pos f first (backTo pos (starEach (e :: es) X.env)) (backToKw pos (keywordEach [] X.env))):=by rfl) :
  PE X (.Call (.Attribute o m kf) (e :: es) [] pos) (Zoo C m sp lg E ta t):=by
 intro j5 s σ H Q I h;refine PySem.W.methodCall_KW (pl:=pl) (thn (he j5 s σ H _ I h) λu s1 zz15=>?_) ht;obtain ⟨x,H1,I1,rx,a,dx,fs,ex,ea,l,q⟩:=zz15;subst ex;obtain rfl:u=Value.ref a:=rx;refine Vi I1 ea c hm l ?_;refine PySem.W.callWith_K (first:=[.ref a]) (h₀:=X.base) I.ok.mod.kin hm.kp (thn (ha pos j5 s1 σ H1 _ I1 q) λus s2 zz16=>?_) l6 lf;obtain ⟨vs,H2,I2,r,q2⟩:=zz16;refine ⟨I2.kIn,?_⟩;exact Zfx (us:=.ref a :: us) (vs:=.ref a :: vs) F hr hb hd hx I2 (.cons Y r) q2
def Xa {pl:Sem Bool} (he:PE X o ta) (c:Cls X.K C) (hm:Meth X.K C m f) (F:FnOk X.prog X.w X.K X.mg X.base CX k f fd ps sp) (hr:Room k X.A) (hb:Wu X.K fd ps ds) (hd:Vals lg ds) (hx:Ug CX X E)
  (ht:eval (.Call (.Attribute o m kf) [] [] pos) X.env=(do
   let ov <- eval o X.env
   standAt kf.atName
   let (f,first) <- holding [ov] (getMethod ov m pl)
   callWith pos f first (backTo pos (starEach [] X.env)) (backToKw pos (keywordEach [] X.env))):=by rfl) :
  PE X (.Call (.Attribute o m kf) [] [] pos) (Zoo C m sp lg E ta tNil):=by
 intro j5 s σ H Q I h;refine PySem.W.methodCall_KW (pl:=pl) (thn (he j5 s σ H _ I h) λu s1 zz17=>?_) ht;obtain ⟨x,H1,I1,rx,a,dx,fs,ex,ea,l,q⟩:=zz17;subst ex;obtain rfl:u=Value.ref a:=rx;refine Vi I1 ea c hm l ?_;exact PySem.W.callWith_K0 (first:=[.ref a]) I1.kIn hm.kp (Zfx (us:=[.ref a]) (vs:=[.ref a]) F hr hb hd hx I1 (.cons Y .nil) q)
structure Mk (K:W.Frag) (C f:Addr):Prop where
 makes:PySem.W.makesIn K C=true
 init:PySem.W.findIn K (.ref C) "__init__"=some (some (.ref f))
 fn:PySem.W.isFn K (.ref f)=true
 kp:PySem.W.keepIn K (.ref C)=true
def Zng (M:Mk X.K C f) (F:FnOk X.prog X.w X.K X.mg X.base CX k f fd ps sp) (hr:Room (k + 1) X.A) (hb:Wu X.K fd ps ds) (hd:Vals lg ds)
  (hx:Ug CX X E) (I:Inv X j5 σ H s) (r:Vals vs us)
  (h:∀ x dx,H x=none->H dx=none->dx≠x->sp (.ref x :: (vs ++ lg)) (upd (upd H dx (.own x)) x (.ins C dx [])) (λv H2=>v=.non/\Q (.ref x) H2) E) :
  wpAny (e:) X.A (call (.ref C) us) (EP X j5 σ Q) X.xe s:=by
 have hq:=h (S:) s.heap.objs.size (I.hok.fresh (le_succ _)) (I.hok.fresh (An _)) (As (lt_succ_self _));have I2:=Inv.made (C:=C) I;have r2:Vals (V.ref (S:) :: (vs ++ lg)) (Value.ref (S:) :: (us ++ ds)):=.cons rfl (r.append hd);have hl:(Value.ref (S:) :: us ++ ds).length=ps.length:=by
  have e:=r2.length
  rw [F.len _ _ _ _ hq] at e
  exact e.symm
 refine wpAny_call (Zny (f:=f) I.kIn M.makes M.init (beq_iff_eq.mp M.fn) (codeAny_mono (F.run _ X.stack _ _ ⟨Value.ref (S:) :: us,[]⟩ (Value.ref (S:) :: (us ++ ds)) _ _ E (hr.make C us [])
  (I2.env0.make C us []) (hb _ (Value.ref (S:) :: us) I2.kIn hl) r2 hq) λr s' mn=>?_))
 cases r with
 | error e=>exact hx j5 σ _ _ e s' I2 mn
 | ok fl =>
  cases fl with
  | ret u =>
   obtain ⟨v,H',I3,rv,ev,q3⟩:=I2.after mn;subst ev;exact ⟨rv,⟨V.ref (S:),H',I3,Y,q3⟩⟩
  | next=>exact False.elim mn
  | brk=>exact False.elim mn
  | cont=>exact False.elim mn
def Je (M:Mk X.K C f) (F:FnOk X.prog X.w X.K X.mg X.base CX k f fd ps sp) (hr:Room (k + 1) X.A) (hg:Gl X x) (hm:X.mg x=some (.ref C)) (hb:Wu X.K fd ps ds) (hd:Vals lg ds) (hx:Ug CX X E)
  (ha:PA X (e :: es) t) (oy:(Z:)=false:=by decide) (he:starEach (e :: es) X.env=(a8:) :: starEach es X.env:=by rfl) (lf:(al:).any (·.1)=false:=by rfl) :
  PE X (.Call (.Name x p) (e :: es) [] pos) (Zsq C sp lg E t):=by
 intro j5 s σ H Q I h;refine wpAny_Call_Name_kw (Vl I hg hm ?_ oy);refine PySem.W.callWith_K (h₀:=X.base) I.ok.mod.kin M.kp (thn (ha pos j5 s σ H _ I h) λus s1 zz18=>?_) he lf;obtain ⟨vs,H1,I1,r,q⟩:=zz18;refine ⟨I1.kIn,?_⟩;exact Zng M F hr hb hd hx I1 r q
end
structure FnScope (N P:List Str) (sc:Scope):Prop where
 kind:sc.kind=.function
 co:sc.isCoroutine=false
 gen:sc.isGenerator=false
 nd:N.Nodup
 pre:N.take P.length=P
 par:∀ x∈P,sc.names.lookup x=some .local\/sc.names.lookup x=some .cell
 nofree:∀ y∈sc.names,y.2≠.free
def Am{N P:List Str}{sc:Scope}(a:sc.kind=.function:=by rfl)(b:sc.isCoroutine=false:=by rfl)(c:sc.isGenerator=false:=by rfl)(d:N.Nodup:=by decide +kernel)(e:N.take P.length=P:=by rfl)(f:∀ x∈P,sc.names.lookup x=some .local\/sc.names.lookup x=some .cell:=by decide +kernel)(g:∀ y∈sc.names,y.2≠.free:=by decide +kernel):FnScope N P sc:=⟨a,b,c,d,e,f,g⟩
theorem Zds {kindOf:Str->Option NameKind} {x:Str}:∀ {binds:List (Str × Value)} {m:Str->Option Value},(∀ v,(x,v) ∉ binds)->bindL kindOf binds m x=m x
 | [],_,_=>rfl
 | (n,v) :: r,m,h=>by
  unfold bindL;rw [Zds λw hw=>h w (mem_cons_of_mem _ hw)];split
  ·have:x≠n:=by rintro rfl; exact h v mem_cons_self
   simp [this]
  ·rfl
theorem Zdu {kindOf:Str->Option NameKind} {x:Str}:∀ {binds:List (Str × Value)} {m:Str->Option Value},(∀ v,(x,v) ∉ binds)->bindC kindOf binds m x=m x
 | [],_,_=>rfl
 | (n,v) :: r,m,h=>by
  unfold bindC;rw [Zdu λw hw=>h w (mem_cons_of_mem _ hw)];split
  ·rfl
  ·have:x≠n:=by rintro rfl; exact h v mem_cons_self
   simp [this]
theorem Zdt {kindOf:Str->Option NameKind} {x:Str} {v:Value}:∀ {P:List Str} {vs:List Value} {i:Nat} {m:Str->Option Value},P.Nodup->P[i]?=some x->vs[i]?=some v->kindOf x=some .local ->
  bindL kindOf (P.zip vs) m x=some v
 | [],_,_,_,_,h,_,_=>by simp at h
 | _ :: _,[],_,_,_,_,h,_=>by simp at h
 | p :: P,w :: vs,0,m,nd,h1,h2,hk=>by
  simp at h1 h2; subst h1; subst h2;show bindL kindOf ((p,w) :: P.zip vs) m p=_;unfold bindL;rw [Zds λv hv=>(nodup_cons.mp nd).1 (of_mem_zip hv).1,if_pos hk];simp
 | p :: P,w :: vs,i + 1,m,nd,h1,h2,hk=>by
  show bindL kindOf ((p,w) :: P.zip vs) m x=_;unfold bindL;exact Zdt (i:=i) (nodup_cons.mp nd).2 (by simpa using h1) (by simpa using h2) hk
theorem Zdv {kindOf:Str->Option NameKind} {x:Str} {v:Value}:∀ {P:List Str} {vs:List Value} {i:Nat} {m:Str->Option Value},P.Nodup->P[i]?=some x->vs[i]?=some v->kindOf x≠some .local ->
  bindC kindOf (P.zip vs) m x=some v
 | [],_,_,_,_,h,_,_=>by simp at h
 | _ :: _,[],_,_,_,_,h,_=>by simp at h
 | p :: P,w :: vs,0,m,nd,h1,h2,hk=>by
  simp at h1 h2; subst h1; subst h2;show bindC kindOf ((p,w) :: P.zip vs) m p=_;unfold bindC;rw [Zdu λv hv=>(nodup_cons.mp nd).1 (of_mem_zip hv).1,if_neg hk];simp
 | p :: P,w :: vs,i + 1,m,nd,h1,h2,hk=>by
  show bindC kindOf ((p,w) :: P.zip vs) m x=_;unfold bindC;exact Zdv (i:=i) (nodup_cons.mp nd).2 (by simpa using h1) (by simpa using h2) hk
noncomputable def start (N:List Str) (vs:List V):St:=vs.map some ++ List.replicate (N.length - vs.length) none
noncomputable def cxOf (CX:CXT) (P:Program) (w:World) (K:W.Frag) (mg:Str->Option Value) (base:Heap) (N:List Str) (qual:Str) (scope:Scope) (f:Addr) (cd:Value) (A:Around) (outer:List Env) (s:Shared) (H:Hp) (E:XK):Cx where
 prog:=P
 w:=w
 K:=K
 mg:=mg
 base:=base
 A:=A.deeper (ae:)
 N:=N
 s₀:=s
 H₀:=H
 env:=envOfC qual scope s.heap.objs.size f cd
 outer:=outer
 stack:=envOfC qual scope s.heap.objs.size f cd :: outer
 ex:=[]
 calm:=true
 fn:=λ_=>true
 pn:=[]
 xe:=λe s'=>wpAny (model P w) (A.deeper (ae:)) (leaving (ae:) e) (λ_ pi=>CX outer H s E e pi) (λe' pi=>CX outer H s E e' pi) s'
def Zg3 {sc:Scope} (h:sc.names.lookup x=some .cell):∃ c,(cellsFrom n sc.names []).lookup x=some c:=by
 have q:=PySem.W.cellsFrom_some sc.names n [] (.inl h);exact Option.isSome_iff_exists.mp q
def Zmc {CX:CXT} {P:Program} {w:World} {K:W.Frag} {mg:Str->Option Value} {base:Heap} {N ps:List Str} {qual:Str} {scope:Scope} {f:Addr} {cd:Value} {A:Around} {outer:List Env} {s s1:Shared} {H:Hp} {E:XK} {us:List Value} {vs:List V}
  (S:FnScope N ps scope) (hd:A.handled=none) (e0:Env0 P w K mg base A outer s H) (hl:vs.length=ps.length) (r:Vals vs us)
  (x:InCallC s s.heap.objs.size (bindL (ae:).kindOf (ps.zip us) λ_=>none) (cellsFrom (S:) scope.names []) (bindC (ae:).kindOf (ps.zip us) λ_=>none) s1) :
  Inv (cxOf CX P w K mg base N qual scope f cd A outer s H E) [] (start N vs) H s1:=by
 have lf:ps.length<=N.length:=by have:=congrArg List.length S.pre; rw [Ai] at this; lia
 obtain ⟨h1,tk,rfl,hk⟩:=x.done;have noA:∀ b:Addr,b ∉ (cxOf CX P w K mg base N qual scope f cd A outer s H E).ex:=λb z=>absurd (show b∈([]:List Addr) from z) (by simp);refine ⟨⟨e0.mod,S.kind,Y,Y,An _,λy z c h1 h2=>?_,λy hy=>?_,λy c _ h=>?_,λ_=>hd,Around.frames_deeper e0.frames,.inr ⟨Y,Y⟩,λb z=>absurd z (noA b),e0.bs,e0.bsz,λb _ _=>noA b,λb z=>absurd z (noA b),e0.funs,e0.frf⟩,
  rfl,e0.bare,Un.kept hk,⟨_,x.toInCall.ns,λi y v h1 h2 h3=>?_⟩,λy c h=>⟨_,x.cell y c h⟩,e0.hok.fresh (An _),λy c h=>?_,λp hp=>absurd (show p∈([]:List (n:)) from hp) (by simp),e0.hok.kept hk,?_⟩
 ·exact name_of_addr x.apart (PySem.mem_of_lookup h1) (PySem.mem_of_lookup h2)
 ·have hy:scope.names.lookup y=some .cell\/scope.names.lookup y=some .free:=hy
  rcases hy with hy | hy
  ·exact Zg3 hy
  ·exact absurd Y (S.nofree _ (PySem.mem_of_lookup hy))
 ·exact Nat.le_of_lt (x.above y c (PySem.mem_of_lookup h))
 ·have hi:i < vs.length:=by
   unfold start at h2;by_cases hi:i < vs.length
   ·exact hi
   ·rw [getElem?_append_right (by simpa using hi)] at h2
    rw [getElem?_replicate] at h2;split at h2 <;> cases h2
  have ha:vs[i]?=some v:=by
   unfold start at h2;rw [Av (by simpa using hi),Ah] at h2
   cases e:vs[i]? with
   | none=>rw [e] at h2; cases h2
   | some a=>rw [e] at h2; cases h2; rfl
  obtain ⟨u,hu,rv⟩:=r.get ha;have hp:ps[i]?=some y:=by
   rw [<- S.pre,getElem?_take_of_lt (by lia)]; exact h1
  have ndP:ps.Nodup:=by rw [<- S.pre]; exact S.nd.sublist (take_sublist _ _)
  refine ⟨u,rv,?_⟩
  rcases S.par y (Au hp) with k | k
  ·exact .inl ⟨k,Zdt ndP hp hu k⟩
  ·obtain ⟨c,e⟩:=Zg3 (n:=s.heap.objs.size + 1) k
   refine .inr ⟨.inl k,c,e,?_⟩;have q:=x.cell y c e;rw [Zdv ndP hp hu (by show scope.names.lookup y≠_; rw [k]; decide)] at q;exact q
 ·exact e0.hok.fresh (Nat.le_of_lt (x.above y c (PySem.mem_of_lookup h)))
 ·unfold start
  show _=N.length;rw [Ae,Ab,length_replicate];lia
def Zj4 {CX:CXT} {P:Program} {w:World} {K:W.Frag} {mg:Str->Option Value} {base:Heap} {k:Nat} {f:Addr} {name qual:Str} {params:Arguments} {body:List Stmt} {scope:Scope} {dV kV k7 pm kn ct oc:Value} {an od:Option Addr}
  {ut:Array (Option Value)} {N ps:List Str} {sp:Sp} (lk:K.lookup f=some ⟨oc,od,.func (PySem.W.fnOf name qual params body scope dV kV k7 pm an kn ct),ut⟩) (p6:PySem.W.codeIn K kn qual=true) (S:FnScope N ps scope)
  (len:∀ vs H Q E,sp vs H Q E->vs.length=ps.length)
  (ll:∀ (A:Around) (outer:List Env) (s:Shared) (H:Hp) (vs:List V) (Q:VK) (E:XK),Room k (A.deeper (envOfC qual scope s.heap.objs.size f kn))->sp vs H Q E ->
   ∃ t,PSs (cxOf CX P w K mg base N qual scope f kn A outer s H E) body t/\t { nx:=λ_ H'=>Q .non H',rt:=Q } (start N vs) H) :
  FnOk P w K mg base CX (k + 1) f (PySem.W.fnOf name qual params body scope dV kV k7 pm an kn ct) ps sp:=by
 refine ⟨len,λA outer s H args us vs Q E hr e0 hb r mm=>?_⟩;have hl:=len _ _ _ _ mm;have KX:K.In s.heap:=e0.mod.kin.keeps λb o e=>(e0.bs b o e).1;have lim:s.heap.NoLimit:=e0.mod.nolimit.keeps λb o e=>(e0.bs b o e).1;have hkind:∀ y∈ps.zip us,scope.names.lookup y.1=some .local\/(scope.names.lookup y.1=some .cell/\((cellsFrom (S:) scope.names []).lookup y.1).isSome=true):=λ⟨n,v⟩ hy=>by
  rcases S.par n (of_mem_zip hy).1 with q | q
  ·exact .inl q
  ·exact .inr ⟨q,PySem.W.cellsFrom_some _ _ _ (.inl q)⟩
 refine codeAny_call_function hr.depth (KX _ _ lk) Y S.co S.gen Y (PySem.W.codeRec_of KX p6) (hb _ _ _ _ ?_);refine wpAny_newFunctionEnv_cells S.kind hkind λenv he s1 x=>?_;subst he;refine ⟨lim.keeps x.toInCall.keep,codeAny_func ?_⟩;obtain ⟨t,ht,hq⟩:=ll A outer s H vs Q E (hr.deeper _) mm;have I:Inv (cxOf CX P w K mg base N qual scope f kn A outer s H E) [] (start N vs) H s1:=Zmc S hr.hd e0 hl r x;refine wpAny_mono (ht [] s1 (start N vs) H _ I hq) (λfl s' hs=>?_) λe s' hs=>hs;have lc:∀ {σ':St} {H':Hp} {v:V} {u:Value},Inv (cxOf CX P w K mg base N qual scope f kn A outer s H E) [] σ' H' s'->RelV v u->Q v H'->CE outer P w H s Q u s' :=
  λ{σ' H' v u} J rv q=>⟨v,H',J.os,J.bare,J.base,J.hok,rv,q⟩
 cases fl with
 | ret u =>
  obtain ⟨v,σ',H',J,rv,q⟩:=hs;exact lc J rv q
 | next =>
  obtain ⟨σ',H',J,q⟩:=hs;exact lc (v:=V.non) (u:=Value.none) J Y q
 | brk =>
  obtain ⟨_,_,_,q⟩:=hs;exact False.elim q
 | cont =>
  obtain ⟨_,_,_,q⟩:=hs;exact False.elim q
section
variable {X:Cx} {x:Str} {p pos:Pos} {e:Expr} {es:List Expr} {t:TA} {id T:String} {r:List V->Hp->VK->Prop}
def tCB (r:List V->Hp->VK->Prop) (t:TA):TE:=λσ H Q=>t σ H λvs H1=>r vs H1 Q
def Zn (hc:Xi X (.builtin id) r) (hg:Gl X x) (hm:X.mg x=none) (hv:bootBuiltins x=some (.builtin id)) (ha:PA X (e :: es) t) (hn:x≠"__name__":=by decide) (oy:(Z:)=false:=by decide)
  (he:starEach (e :: es) X.env=(a8:) :: starEach es X.env:=by rfl) (lf:(al:).any (·.1)=false:=by rfl):PE X (.Call (.Name x p) (e :: es) [] pos) (tCB r t):=by
 intro j5 s σ H Q I h;refine wpAny_Call_Name_kw (Wf I hg hm hv ?_ hn oy);refine PyProof.Rows.callWith_builtin1 (thn (ha pos j5 s σ H _ I h) λus s1 zz19=>?_) he lf;obtain ⟨vs,H1,I1,r1,q1⟩:=zz19;exact hc j5 s1 σ H1 vs us Q I1 r1 q1
def Ys (hc:Xi X (.type T) r) (hg:Gl X x) (hm:X.mg x=none) (hv:bootBuiltins x=some (.type T)) (ha:PA X (e :: es) t) (hn:x≠"__name__":=by decide) (oy:(Z:)=false:=by decide)
  (he:starEach (e :: es) X.env=(a8:) :: starEach es X.env:=by rfl) (lf:(al:).any (·.1)=false:=by rfl):PE X (.Call (.Name x p) (e :: es) [] pos) (tCB r t):=by
 intro j5 s σ H Q I h;refine wpAny_Call_Name_kw (Wf I hg hm hv ?_ hn oy);refine PyProof.Rows.callWith_type1 (thn (ha pos j5 s σ H _ I h) λus s1 zz20=>?_) he lf;obtain ⟨vs,H1,I1,r1,q1⟩:=zz20;exact hc j5 s1 σ H1 vs us Q I1 r1 q1
end
end L2
namespace HT
open PySem PyProof.Rows
section
variable {prog:Program} {w:World} {A:Around} {E:Value->Shared->Prop} {s:Shared}
noncomputable def sIx (n d:Nat):Option Int->Nat
 | none=>d
 | some v=>if v < 0 then (v + (n:Int)).toNat else min v.toNat n
def sIx_none (n d:Nat):sIx n d none=d:=rfl
def sIx_nat (n d k:Nat):sIx n d (some (k:Int))=min k n:=by
 show (if (k:Int) < 0 then ((k:Int) + (n:Int)).toNat else min (k:Int).toNat n)=min k n;rw [if_neg (by lia),Int.toNat_natCast]
end
end HT
namespace L2
open PySem PySem.Spec PyProof.Rows
abbrev TO:=St->Hp->(Option Int->Hp->Prop)->Prop
def PO (X:Cx) (e:Option Expr) (t:TO):Prop :=
 ∀ j5 s σ H (Q:Option Int->Hp->Prop),Inv X j5 σ H s->t σ H Q ->
  wpAny (e:) X.A (evalPart e X.env) (λu s'=>∃ o H',Inv X j5 σ H' s'/\IsPart u o/\Q o H') X.xe s
def Zo6:TO:=λ_ H Q=>Q none H
def Zsp (t:TE):TO:=λσ H Q=>t σ H λx H1=>∃ i,x=.int i/\Q (some i) H1
def Vh {ns:List Int}:∀ {us:List Value},Vals (H:) us->IntsAre us ns:=by
 induction ns with
 | nil=>intro us r; rw [map_nil] at r; cases r; exact .nil
 | cons n ns ih =>
  intro us r;rw [map_cons] at r
  cases r with
  | cons r1 r2 =>
   obtain ⟨t,e⟩:=r1;subst e;exact .cons n t (ih r2)
section
variable {X:Cx} {e:Expr} {te:TE} {lo hi:Option Expr} {tl th:TO} {pos p2:Pos}
def Zcg:PO X none Zo6:=by
 intro j5 s σ H Q I h;rw [evalPart_none];exact wpAny_pure ⟨none,H,I,.none,h⟩
def Qh (h:PE X e te):PO X (some e) (Zsp te):=by
 intro j5 s σ H Q I hw;rw [evalPart_some];refine thn (h j5 s σ H _ I hw) λu s1 kc=>?_;obtain ⟨x,H1,I1,r1,q1⟩:=kc;obtain ⟨i,rfl,q⟩:=q1;obtain ⟨t,rfl⟩:=r1;exact ⟨some i,H1,I1,.int i t,q⟩
def SlR (X:Cx) (r:V->Option Int->Option Int->Hp->VK->Prop):Prop :=
 ∀ j5 s σ H (x:V) (v vl vu:Value) (lo hi:Option Int) (sl:Addr) (Q:VK),Inv X j5 σ H s->RelV x v->s.heap.IsSliceOf sl vl vu .none->IsPart vl lo->IsPart vu hi->r x lo hi H Q ->
  ∃ T id,typeLookup (.type T) "__getitem__"=pure (some (.builtin id))/\s.TypeIs v T/\wpAny (e:) X.A (getItem v (.ref sl)) (EP X j5 σ Q) X.xe s
def tSl (r:V->Option Int->Option Int->Hp->VK->Prop) (te:TE) (tl th:TO):TE:=λσ H Q=>te σ H λx H1=>tl σ H1 λl H2=>th σ H2 λu H3=>r x l u H3 Q
def V0 (hr:SlR X r) (he:PE X e te) (hl:PO X lo tl) (hu:PO X hi th):PE X (.Subscript e (.Slice lo hi none p2) pos) (tSl r te tl th):=by
 intro j5 s σ H Q I h;refine Subscript_ (thn (he j5 s σ H _ I h) λv s1 kc=>?_);obtain ⟨x,H1,I1,r1,q1⟩:=kc;refine wpAny_Slice (thn (hl j5 s1 σ H1 _ I1 q1) λvl s2 zz21=>?_);obtain ⟨l,H2,I2,pl,q2⟩:=zz21;refine thn (hu j5 s2 σ H2 _ I2 q2) λvu s3 kc=>?_;obtain ⟨u,H3,I3,pu,q3⟩:=kc;rw [evalPart_none];refine wpAny_pure ?_;have I4:Inv X j5 σ H3 { s3 with heap:=s3.heap.push { cls:=.type "slice",data:=.fields #[vl,vu,.none] } }:=I3.kept (t':=s3.toks) λb ob q=>Ak _ q;obtain ⟨T,id,hT,ht,hg⟩:=hr j5 { s3 with heap:=s3.heap.push { cls:=.type "slice",data:=.fields #[vl,vu,.none] } } σ H3 x v vl vu l u s3.heap.objs.size Q I4 r1 (Heap.IsSliceOf.new ..) pl pu q3;show wpAny (e:) X.A (subscriptTail e (.Slice lo hi none p2) v (.ref s3.heap.objs.size)) (EP X j5 σ Q) X.xe { s3 with heap:=s3.heap.push { cls:=.type "slice",data:=.fields #[vl,vu,.none] } };exact tail_any (ops:=[.ref s3.heap.objs.size,v]) ht hT hg (am:)
noncomputable def cutV (xs:List V) (lo hi:Option Int):List V:=(xs.drop (HT.sIx xs.length 0 lo)).take (HT.sIx xs.length xs.length hi - HT.sIx xs.length 0 lo)
def Zhv (xs:List V) (lo hi:Option Int):(cutV xs lo hi).length<=xs.length:=by
 unfold cutV;rw [Ai,length_drop];lia
end
noncomputable def ixN (n:Nat) (i:Int):Option Nat:=if 0<=i then (if i < n then some i.toNat else none) else if -(n:Int)<=i then some (i + n).toNat else none
noncomputable def atI {α:Type} (xs:List α) (i:Int):Option α:=(ixN xs.length i).bind λj=>xs[j]?
def Zir (h:ixN n i=some j):seqIndex? i n=some j/\j < n/\-(n:Int)<=i/\i < n:=by
 unfold ixN at h;by_cases h0:0<=i
 ·rw [if_pos h0] at h
  by_cases h1:i < n
  ·rw [if_pos h1] at h
   have e:i.toNat=j:=Ax h;exact ⟨by rw [seqIndex_of h0 h1,e],by lia,by lia,h1⟩
  ·rw [if_neg h1] at h; cases h
 ·rw [if_neg h0] at h
  by_cases h1:-(n:Int)<=i
  ·rw [if_pos h1] at h
   have e:(i + n).toNat=j:=Ax h;exact ⟨by rw [seqIndex_neg (by lia) h1,e],by lia,h1,by lia⟩
  ·rw [if_neg h1] at h; cases h
def Zi2 {α:Type} {xs:List α} {i:Int} {v:α} (h:atI xs i=some v):∃ j,seqIndex? i xs.length=some j/\xs[j]?=some v/\j < xs.length/\-(xs.length:Int)<=i/\i < xs.length:=by
 unfold atI at h
 cases e:ixN xs.length i with
 | none=>rw [e] at h; cases h
 | some j =>
  rw [e] at h;obtain ⟨h1,h2,h3,h4⟩:=Zir e;exact ⟨j,h1,h,h2,h3,h4⟩
def Xq {α:Type} {xs:List α} {j:Nat} {v:α} (h:xs[j]?=some v):atI xs (j:Int)=some v:=by
 have hj:j < xs.length:=(Aa h).1;have e:ixN xs.length (j:Int)=some j:=by
  unfold ixN
  rw [if_pos (by lia),if_pos (by lia)]; simp
 unfold atI; rw [e]; exact h
def Zqz (b:Expr):Prop:=∀ o i,subscripted b false o i=operate [o,i] (getItem o i)
def IxR (X:Cx) (r:R2):Prop :=
 ∀ (value l8:Expr) (j5:List (n:)) (s:Shared) (σ:St) (H:Hp) (x y:V) (v u:Value) (Q:VK),Inv X j5 σ H s->RelV x v->RelV y u->r x y H Q ->
  subscripted l8 false v u=operate [v,u] (getItem v u)->wpAny (e:) X.A (subscriptTail value l8 v u) (EP X j5 σ Q) X.xe s
def MtR (X:Cx) (id:String) (r:V->List V->Hp->VK->Prop):Prop :=
 ∀ j5 s σ H (x:V) (xs:List V) (v:Value) (us:List Value) (Q:VK),Inv X j5 σ H s->RelV x v->Vals xs us->r x xs H Q ->
  wpAny (e:) X.A (call (.builtin id) (v :: us)) (EP X j5 σ Q) X.xe s
section
variable {X:Cx} {a b:Expr} {ta tb:TE} {pos:Pos}
def Zv (hr:IxR X r) (ha:PE X a ta) (hb:PE X b tb) (hs:Zqz b):PE X (.Subscript a b pos) (tOp r ta tb):=by
 intro j5 s σ H Q I h;exact Subscript_ (binT ha hb I h λv u s2 x y H2 I2 rx ry q=>hr a b j5 s2 σ H2 x y v u Q I2 rx ry q (hs _ _))
def rIxL (K:W.Frag):R2:=λx y H Q=>∃ p xs i v,x=.ref p/\y=.int i/\SqL K H p xs/\atI xs i=some v/\Q v H
def rIxT (K:W.Frag):R2:=λx y H Q=>∃ p xs i v,x=.ref p/\y=.int i/\SqT K H p xs/\atI xs i=some v/\Q v H
def Z0:IxR X (rIxL X.K):=by
 intro value l8 j5 s σ H x y v u Q I rx ry h hs;obtain ⟨p,xs,i,z,rfl,rfl,hq,he,q⟩:=h;cases rx;obtain ⟨t,rfl⟩:=ry;obtain ⟨its,r,pl,hz⟩:=I.list hq;obtain ⟨j,h1,h2,h3,h4,h5⟩:=Zi2 he;obtain ⟨w,ew,n8⟩:=r.get h2;have hl:=r.length;have hn:=Uc;have lc:EP X j5 σ Q w s:=⟨z,H,I,n8,q⟩;by_cases h0:0<=i
 ·have hj:i.toNat=j:=by
   rw [seqIndex_of h0 h5] at h1;exact Ax h1
  exact item_listR pl.isList h0 (by lia) (by rw [hj]; simpa using ew) lc hs
 ·have hj:(i + (its.toArray.size:Int)).toNat=j:=by
   rw [seqIndex_neg (by lia) h4] at h1;rw [Aq,<- hl];exact Ax h1
  exact subscriptTail_builtinR (x:=w) pl.isList.typeIs slot_list_getitem.lookup
   (wpAny_getItem_list_neg (Q:=λr s'=>r=w/\EP X j5 σ Q r s') pl.isList (by lia) (by rw [Aq] <;> lia) (by lia) (by rw [hj]; simpa using ew) ⟨rfl,lc⟩) hs
def Yp:IxR X (rIxT X.K):=by
 intro value l8 j5 s σ H x y v u Q I rx ry h hs;obtain ⟨p,xs,i,z,rfl,rfl,hq,he,q⟩:=h;cases rx;obtain ⟨t,rfl⟩:=ry;obtain ⟨its,r,pl,hz⟩:=I.tuple hq;obtain ⟨j,h1,h2,h3,h4,h5⟩:=Zi2 he;obtain ⟨w,ew,n8⟩:=r.get h2;have hl:=r.length;have hn:=Uc;have lc:EP X j5 σ Q w s:=⟨z,H,I,n8,q⟩;exact subscriptTail_builtinR (x:=w) pl.typeIs slot_tuple_getitem.lookup
  (getItem_tuple (j:=j) (Q:=λr s'=>r=w/\EP X j5 σ Q r s') pl (by lia) (by lia) (by rw [Aq,<- hl]; exact h1) (by simpa using ew) ⟨Y,lc⟩) hs
def Zjw (its:List Value) (n j:Nat) (u:Value):Obj.mapSeq (·.setIfInBounds j u) { cls:=.type "list",data:=.seq its.toArray n }={ cls:=.type "list",data:=.seq (its.set j u).toArray n }:=by
 simp [Obj.mapSeq]
def Inv.lst {s:Shared} {xs:List V} (I:Inv X j5 σ H s) (h:H p=some (.lst xs)) :
  ∃ (its:List Value) (n:Nat),Vals xs its/\s.heap.get? p=some { cls:=.type "list",data:=.seq its.toArray n }/\xs.length<=sizeLine:=by
 obtain ⟨z,its,n,r,e⟩:=I.hok p _ h;exact ⟨its,n,r,e,z⟩
def Inv.lstUpd {s:Shared} {ys:List V} {its its':List Value} (I:Inv X j5 σ H s) (h:H p=some (.lst xs))
  (ho:s.heap.get? p=some { cls:=.type "list",data:=.seq its.toArray n }) (hf:f { cls:=.type "list",data:=.seq its.toArray n }={ cls:=.type "list",data:=.seq its'.toArray n' }) (r:Vals ys its') (hz:ys.length<=sizeLine) (t:Nat) :
  Inv X j5 σ (upd H p (.lst ys)) { s with heap:=s.heap.update p f,toks:=t }:=by
 have e:(s.heap.update p f).get? p=some { cls:=.type "list",data:=.seq its'.toArray n' }:=by
  rw [Heap.get?_update_self f ho (by rw [hf] <;> rfl),hf]
 refine I.write (x:=p) (e:=p) (by rw [h]; trivial) (.inl rfl) (λb u hb q=>(Heap.get?_update_other _ _ (Ne.symm hb)).trans q) ⟨_,e⟩ ?_;exact ⟨hz,its',n',r,e⟩
def Zs2:V->V->V->Hp->(Hp->Prop)->Prop:=λo i v H Q=>∃ p xs k j,o=.ref p/\i=.int k/\H p=some (.lst xs)/\ixN xs.length k=some j/\Q (upd H p (.lst (xs.set j v)))
def Xy:PSet X Zs2:=by
 intro j5 s σ H o i v ov iv u Q I ro ri rv h;obtain ⟨p,xs,k,j,rfl,rfl,hp,hj,q⟩:=h;cases ro;obtain ⟨t,rfl⟩:=ri;obtain ⟨its,n,r,ho,hz⟩:=I.lst hp;obtain ⟨h1,h2,h3,h4⟩:=Zir hj;have hl:=r.length;have hn:=Uc;have I':Inv X j5 σ (upd H p (.lst (xs.set j v))) { s with heap:=s.heap.update p (Obj.mapSeq (·.setIfInBounds j u)) } :=
  I.lstUpd hp ho (Zjw its n j u) (r.set rv j) (by rw [length_set]; exact hz) s.toks
 by_cases h0:0<=k
 ·have hk:k.toNat=j:=by
   rw [seqIndex_of h0 h4] at h1;exact Ax h1
  exact PySem.W.ki_setAt ho h0 (by lia) (by rw [Aq,<- hl]; exact h4) (by rw [hk]; exact ⟨_,I',q⟩)
 ·have hk:(k + (its.toArray.size:Int)).toNat=j:=by
   rw [seqIndex_neg (by lia) h3] at h1;rw [Aq,<- hl];exact Ax h1
  exact PySem.W.ki_setBack ho (by lia) (by rw [Aq,<- hl]; exact h3) (by lia) (by rw [hk]; exact ⟨_,I',q⟩)
def Zfa (lo hi:Option Int) (n:Nat):(sliceBounds lo hi none n).1=((HT.sIx n 0 lo:Nat):Int)/\(sliceBounds lo hi none n).2.1=((HT.sIx n n hi:Nat):Int)/\(sliceBounds lo hi none n).2.2=1:=by
 refine ⟨?_,?_,Y⟩
 ·cases lo with
  | none=>simp [sliceBounds,HT.sIx]
  | some i =>
   simp only [sliceBounds,HT.sIx,Option.getD_none,show (1:Int) > 0 by decide,if_true];by_cases h:i < 0
   ·simp only [h,if_true] <;> lia
   ·simp only [h,if_false] <;> lia
 ·cases hi with
  | none=>simp [sliceBounds,HT.sIx]
  | some i =>
   simp only [sliceBounds,HT.sIx,Option.getD_none,show (1:Int) > 0 by decide,if_true];by_cases h:i < 0
   ·simp only [h,if_true] <;> lia
   ·simp only [h,if_false] <;> lia
def Zd3 (its:List Value) (lo hi:Option Int):slicePick its.toArray lo hi none=((its.drop (HT.sIx its.length 0 lo)).take (HT.sIx its.length its.length hi - HT.sIx its.length 0 lo)).toArray:=by
 obtain ⟨h1,h2,h3⟩:=Zfa lo hi its.toArray.size;unfold slicePick;rw [h1,h2,h3];simp only [sliceRange_one,pick_run,Aq] <;> rfl
def rSlL (K:W.Frag):V->Option Int->Option Int->Hp->VK->Prop:=λx lo hi H Q=>∃ a xs,x=.ref a/\SqL K H a xs/\∀ p,H p=none->Q (.ref p) (upd H p (.lst (cutV xs lo hi)))
def U2:SlR X (rSlL X.K):=by
 intro j5 s σ H x v vl vu lo hi sl Q I rx hs pl pu h;obtain ⟨a,xs,rfl,hx,q⟩:=h;cases rx;obtain ⟨its,r,ht,hz⟩:=I.list hx;have j8:=r.length;refine ⟨"list",_,slot_list_getitem.lookup,ht.isList.typeIs,?_⟩;refine wpAny_getItem_list_slice ht.isList hs pl pu .none (by simp) ?_ (by rw [Aq] <;> lia);rw [Zd3,<- j8];refine ⟨.ref s.heap.objs.size,_,I.laid (t':=s.toks) (o:=.lst (cutV xs lo hi)) (λb ob q=>Ak _ q) (An _) ?_,Y,q _ (I.hok.fresh (An _))⟩;exact ⟨Nat.le_trans (Zhv xs lo hi) hz,_,0,(r.drop (HT.sIx xs.length 0 lo)).take (HT.sIx xs.length xs.length hi - HT.sIx xs.length 0 lo),Ap _ Y⟩
noncomputable def Vj:V->Bool
 | .non=>true
 | .bl _=>true
 | .int _=>true
 | .str _=>true
 | _=>false
noncomputable def eqV:V->V->Bool
 | .non,.non=>true
 | .bl a,.bl b=>a == b
 | .bl a,.int b=>(if a then 1 else 0) == b
 | .int a,.bl b=>a == (if b then 1 else 0)
 | .int a,.int b=>a == b
 | .str a,.str b=>a == b
 | _,_=>false
def Zr8 {A:Around} {s:Shared} {y x:V} {u v:Value} (ry:RelV y u) (rx:RelV x v) (fy:Vj y=true) (fx:Vj x=true):SeqAt.EqAt A s u v (eqV y x):=by
 cases y with
 | non =>
  cases ry
  cases x with
  | non=>cases rx; exact SeqAt.EqAt.same _
  | bl b=>cases rx; exact SeqAt.EqAt.none_bool b
  | int b=>obtain ⟨t,rfl⟩:=rx; exact SeqAt.EqAt.none_int b t
  | str b=>obtain ⟨t,rfl⟩:=rx; exact SeqAt.EqAt.none_str b t
  | _=>exact absurd (show false=true from fx) Bool.false_ne_true
 | bl a =>
  cases ry
  cases x with
  | non=>cases rx; exact SeqAt.EqAt.bool_none a
  | bl b=>cases rx; exact SeqAt.EqAt.bool_bool a b
  | int b=>obtain ⟨t,rfl⟩:=rx; exact SeqAt.EqAt.bool_int a b t
  | str b=>obtain ⟨t,rfl⟩:=rx; exact SeqAt.EqAt.bool_str a b t
  | _=>exact absurd (show false=true from fx) Bool.false_ne_true
 | int a =>
  obtain ⟨t',rfl⟩:=ry
  cases x with
  | non=>cases rx; exact SeqAt.EqAt.int_none a t'
  | bl b=>cases rx; exact SeqAt.EqAt.int_bool a t' b
  | int b=>obtain ⟨t,rfl⟩:=rx; exact SeqAt.EqAt.int_int a t' b t
  | str b=>obtain ⟨t,rfl⟩:=rx; exact SeqAt.EqAt.int_str a t' b t
  | _=>exact absurd (show false=true from fx) Bool.false_ne_true
 | str a =>
  obtain ⟨t',rfl⟩:=ry
  cases x with
  | non=>cases rx; exact SeqAt.EqAt.str_none a t'
  | bl b=>cases rx; exact SeqAt.EqAt.str_bool a t' b
  | int b=>obtain ⟨t,rfl⟩:=rx; exact SeqAt.EqAt.str_int a t' b t
  | str b=>obtain ⟨t,rfl⟩:=rx; exact SeqAt.EqAt.str_str a t' b t
  | _=>exact absurd (show false=true from fx) Bool.false_ne_true
 | _=>exact absurd (show false=true from fy) Bool.false_ne_true
noncomputable def eqU (x:V) (u:Value):Bool:=match u with
 | .none=>eqV .non x
 | .bool b=>eqV (.bl b) x
 | .int i _=>eqV (.int i) x
 | .str z _=>eqV (.str z) x
 | _=>false
def Zmk {x y:V} {u:Value} (r:RelV y u) (f:Vj y=true):eqU x u=eqV y x:=by
 cases y with
 | non=>cases r; rfl
 | bl b=>cases r; rfl
 | int i=>obtain ⟨t,rfl⟩:=r; rfl
 | str z=>obtain ⟨t,rfl⟩:=r; rfl
 | _=>exact absurd (show false=true from f) Bool.false_ne_true
theorem Zcp {x:V}:∀ {xs:List V} {us:List Value},Vals xs us->xs.all Vj=true->us.any (eqU x)=xs.any λy=>eqV y x
 | _,_,.nil,_=>rfl
 | y :: xs,u :: us,.cons r t,f=>by
  rw [all_cons,Bool.and_eq_true] at f;rw [any_cons,any_cons,Zmk r f.1,Zcp t f.2]
theorem Zab {A:Around} {s:Shared} {x:V} {v:Value} (rx:RelV x v) (fx:Vj x=true):∀ {xs:List V} {us:List Value},Vals xs us->xs.all Vj=true->∀ u∈us,SeqAt.EqAt A s u v (eqU x u)
 | _,_,.nil,_=>λu hu=>by cases hu
 | y :: xs,u :: us,.cons r t,f=>λu' hu=>by
  rw [all_cons,Bool.and_eq_true] at f
  rcases Ar hu with rfl | hu
  ·rw [Zmk r f.1]; exact Zr8 r rx f.1 fx
  ·exact Zab rx fx t f.2 u' hu
noncomputable def inV (x:V) (xs:List V):Bool:=xs.any λy=>eqV y x
def rIn (K:W.Frag) (neg:Bool):R2:=λx y H Q=>∃ p xs,y=.ref p/\(SqL K H p xs\/SqT K H p xs)/\Vj x=true/\xs.all Vj=true/\Q (.bl (if neg then !inV x xs else inV x xs)) H
def Zga:OpR X (compareOp .NotIn) (rIn X.K true):=by
 intro j5 s σ H x y v u Q I rx ry h;obtain ⟨p,xs,rfl,hq,fx,fs,q⟩:=h;cases ry
 rcases hq with hq | hq
 ·obtain ⟨its,r,pl,hz⟩:=I.list hq
  refine SeqAt.notIn_listAt (eqU x) pl.isList (λw hw=>Zab rx fx r fs w (by simpa using hw)) ⟨.bl _,H,I,Y,?_⟩;rw [show its.toArray.any (eqU x)=its.any (eqU x) by simp,Zcp r fs];exact q
 ·obtain ⟨its,r,pl,hz⟩:=I.tuple hq
  refine SeqAt.notIn_tupleAt (eqU x) pl (λw hw=>Zab rx fx r fs w (by simpa using hw)) ⟨.bl _,H,I,Y,?_⟩;rw [show its.toArray.any (eqU x)=its.any (eqU x) by simp,Zcp r fs];exact q
def Zm:Xi X (.builtin "len") (λxs H Q=>∃ p ys,xs=[.ref p]/\(SqL X.K H p ys\/SqT X.K H p ys)/\Q (.int ys.length) H):=by
 intro j5 s σ H xs us Q I r h;obtain ⟨p,ys,rfl,hq,q⟩:=h;obtain ⟨u,rfl,rx⟩:=Wa r;cases rx;have hn:=Uc
 rcases hq with hq | hq
 ·obtain ⟨its,r',pl,hz⟩:=I.list hq
  have j8:=r'.length;exact Calls.call_len_list pl.isList (by simp only [Aq] <;> lia) ⟨.int ys.length,H,I.tok _,⟨s.toks + 1,by rw [Aq,j8]⟩,q⟩
 ·obtain ⟨its,r',pl,hz⟩:=I.tuple hq
  have j8:=r'.length;exact len_tuple pl (by simp only [Aq] <;> lia) ⟨.int ys.length,H,I.tok _,⟨s.toks + 1,by rw [Aq,j8]⟩,q⟩
def Zg5:Xi X (.builtin "len") (λxs H Q=>∃ z,xs=[.str z]/\z.length<=sizeLine/\Q (.int z.length) H):=by
 intro j5 s σ H xs us Q I r h;obtain ⟨z,rfl,hz,q⟩:=h;obtain ⟨u,rfl,t,rfl⟩:=Wa r;have hn:=Uc;exact len_str (by lia) ⟨.int z.length,H,I.tok _,⟨_,Y⟩,q⟩
def X3:Xi X (.type "list") (λxs H Q=>∃ p ys,xs=[.ref p]/\(SqL X.K H p ys\/SqT X.K H p ys)/\∀ l,H l=none->Q (.ref l) (upd H l (.lst ys))):=by
 intro j5 s σ H xs us Q I r h;obtain ⟨p,ys,rfl,hq,q⟩:=h;obtain ⟨u,rfl,rx⟩:=Wa r;cases rx;have lc:∀ (its:List Value),Vals ys its->ys.length<=sizeLine->∀ (h':Heap) (c':Nat),(∀ b o',s.heap.get? b=some o'->h'.get? b=some o') ->
   h'.get? s.heap.objs.size=some { cls:=.type "list",dict:=none,data:=.seq its.toArray c',slots:=#[] }->EP X j5 σ Q (a6:) { s with heap:=h' }:=λits r' hz h' c' kp e =>
  ⟨.ref s.heap.objs.size,_,I.laid (t':=s.toks) kp (An _) (show Yo X.prog X.w _ h' _ (.lst ys) from ⟨hz,its,c',r',e⟩),rfl,q _ (I.hok.fresh (An _))⟩
 rcases hq with hq | hq
 ·obtain ⟨its,r',pl,hz⟩:=I.list hq
  have j8:=r'.length;obtain ⟨o,ho,hc,n,hd⟩:=pl.isList;exact call_list_seq p (.inl Y) ho hc hd (λh' c' kp e=>lc its r' hz h' c' kp e) (by simp only [Aq] <;> lia)
 ·obtain ⟨its,r',pl,hz⟩:=I.tuple hq
  have j8:=r'.length;obtain ⟨o,ho,hc,n,hd⟩:=pl;exact call_list_seq p (.inr Y) ho hc hd (λh' c' kp e=>lc its r' hz h' c' kp e) (by simp only [Aq] <;> lia)
def Zef:Xi X (.type "tuple") (λxs H Q=>∃ p ys,xs=[.ref p]/\((SqL X.K H p ys/\∀ l,H l=none->Q (.ref l) (upd H l (.tup ys)))\/(SqT X.K H p ys/\Q (.ref p) H))):=by
 intro j5 s σ H xs us Q I r h;obtain ⟨p,ys,rfl,h⟩:=h;obtain ⟨u,rfl,rx⟩:=Wa r;cases rx
 rcases h with ⟨hq,q⟩ | ⟨hq,q⟩
 ·obtain ⟨its,r',pl,hz⟩:=I.list hq
  have j8:=r'.length;refine call_tuple_list pl.isList (λh' kp=>?_) (by simp only [Aq] <;> lia);have I1:Inv X j5 σ H { s with heap:=h' }:=I.kept (t':=s.toks) kp;have I2:Inv X j5 σ (upd H h'.objs.size (.tup ys)) { s with heap:=h'.push { cls:=.type "tuple",data:=.seq its.toArray } } :=
   I1.laid (t':=s.toks) (λb o e=>Ak _ e) (An _) (show Yo X.prog X.w _ _ _ (.tup ys) from ⟨hz,its,r',IsTup.new _ _⟩)
  exact ⟨.ref h'.objs.size,_,I2,Y,q _ (I1.hok.fresh (An _))⟩
 ·obtain ⟨its,r',pl,hz⟩:=I.tuple hq
  exact call_tuple_same pl ⟨.ref p,H,I,Y,q⟩
def tyV (K:W.Frag) (T:String) (x:V) (H:Hp):Prop:=match x with
 | .str _=>T="str"
 | .int _=>T="int"
 | .ref p=>(T="list"/\∃ xs,SqL K H p xs)\/(T="tuple"/\∃ o,K.lookup p=some o/\o.cls=.type "tuple"/\o.dict=none) \/
   (T="dict"/\((∃ kvs,H p=some (.dK kvs))\/∃ kvs,H p=some (.dT kvs)))\/(T="set"/\∃ S n,H p=some (.set S n))
 | _=>False
def Zep {s:Shared} (I:Inv X j5 σ H s) (r:RelV x v) (ty:tyV X.K T x H) :
  s.TypeIs v T/\∀ a,v=.ref a->∃ ob,s.heap.get? a=some ob/\ob.dict=none:=by
 cases x with
 | str z =>
  obtain ⟨t,rfl⟩:=r;cases (show T="str" from ty);exact ⟨typeIs_str s z t,λ_ e=>nomatch e⟩
 | int i =>
  obtain ⟨t,rfl⟩:=r;cases (show T="int" from ty);exact ⟨typeIs_int s i t,λ_ e=>nomatch e⟩
 | ref p =>
  cases r
  rcases ty with ⟨rfl,xs,hq⟩ | ⟨rfl,o,hk,hc,hd⟩ | ⟨rfl,hk⟩ | ⟨rfl,S,n,hk⟩
  ·obtain ⟨its,_,pl,_⟩:=I.list hq
   refine ⟨pl.isList.typeIs,λa e=>?_⟩;cases e;obtain ⟨o,n,e,c,hd,_⟩:=pl;exact ⟨o,e,hd⟩
  ·refine ⟨⟨o,I.kIn p o hk,hc⟩,λa e=>?_⟩
   cases e;exact ⟨o,I.kIn _ o hk,hd⟩
  ·have z:∃ o,s.heap.get? p=some o/\o.ExactDict:=by
    rcases hk with ⟨kvs,hk⟩ | ⟨kvs,hk⟩
    ·obtain ⟨_,_,_,_,o,_,_,e,ex,_⟩:=I.hok p _ hk
     exact ⟨o,e,ex⟩
    ·obtain ⟨_,_,_,_,o,_,_,e,ex,_⟩:=I.hok p _ hk
     exact ⟨o,e,ex⟩
   obtain ⟨o,e,ex⟩:=z;refine ⟨⟨o,e,ex.1⟩,λa e2=>?_⟩;cases e2;exact ⟨o,e,ex.2.1⟩
  ·obtain ⟨o,_,_,_,e,ex,_⟩:=I.hok p _ hk
   refine ⟨⟨o,e,ex.1⟩,λa e2=>?_⟩;cases e2;exact ⟨o,e,ex.2.1⟩
 | _=>exact False.elim ty
def tBM0 (K:W.Frag) (T:String) (r:V->List V->Hp->VK->Prop) (to:TE):TE:=λσ H Q=>to σ H λx H1=>tyV K T x H1/\r x [] H1 Q
def tBM (K:W.Frag) (T:String) (r:V->List V->Hp->VK->Prop) (to:TE) (t:TA):TE:=λσ H Q=>to σ H λx H1=>tyV K T x H1/\t σ H1 λxs H2=>r x xs H2 Q
variable {o e:Expr} {es:List Expr} {to:TE} {t:TA} {name:Str} {kf ke:Pos} {T id:String} {r:V->List V->Hp->VK->Prop}
def Zlj (pa:PlainAttrs T) (slot:Slot T name id) (hty:typeOf (.builtin id)=pure (.type "method_descriptor")) (hm:MtR X id r) (ho:PE X o to)
  (pe:attributeBase o name X.env (eval o X.env)=eval o X.env:=by rfl) (pd:(kf.endLine == ke.line)=true:=by rfl):PE X (.Call (.Attribute o name kf) [] [] ke) (tBM0 X.K T r to):=by
 intro j5 s σ H Q I h;refine wpAny_Call_method0_late pe pd (thn (ho j5 s σ H _ I h) λv s1 kc=>?_);obtain ⟨x,H1,I1,r1,ty,q1⟩:=kc;obtain ⟨h1,h2⟩:=Zep I1 r1 ty;exact ⟨T,id,pa,slot,hty,h1,h2,Calls.callWith_builtin Y (PySem.evalArgs_none (hm j5 s1 σ H1 x [] v [] Q I1 r1 .nil q1))⟩
def X5 (pa:PlainAttrs T) (slot:Slot T name id) (hty:typeOf (.builtin id)=pure (.type "method_descriptor")) (hm:MtR X id r) (ho:PE X o to) (ha:PA X (e :: es) t)
  (pe:attributeBase o name X.env (eval o X.env)=eval o X.env:=by rfl)
  (yx:((backTo ke (starEach (e :: es) X.env)).all (λx=>!x.1) && (backToKw ke (keywordEach [] X.env)).all (λx=>x.1.isSome)
   && decide ((e :: es).length + ([]:List Keyword).length + (if ([]:List Keyword).isEmpty then 0 else 1) < 30))=true:=by rfl)
  (pd:(kf.endLine == ke.line)=true:=by rfl) (hs:starEach (e :: es) X.env=(a8:) :: starEach es X.env:=by rfl) (y4:(backTo ke (starEach es X.env)).any (·.1)=false:=by rfl) :
  PE X (.Call (.Attribute o name kf) (e :: es) [] ke) (tBM X.K T r to t):=by
 intro j5 s σ H Q I h;refine wpAny_Call_method_late pe yx pd Y (thn (ho j5 s σ H _ I h) λv s1 kc=>?_);obtain ⟨x,H1,I1,r1,ty,q1⟩:=kc;obtain ⟨h1,h2⟩:=Zep I1 r1 ty;refine ⟨T,id,pa,slot,hty,h1,h2,?_⟩;have hA:=ha ke j5 s1 σ H1 _ I1 q1;rw [hs] at hA ⊢;refine Calls.callWith_builtin (by show (false || (backTo ke (starEach es X.env)).any (·.1))=false; rw [y4] <;> rfl) (Calls.evalArgs_plain ?_);refine thn hA λus s2 zz22=>?_;obtain ⟨vs,H2,I2,r2,q2⟩:=zz22;exact hm j5 s2 σ H2 x vs v us Q I2 r1 r2 q2
end
def MtM (X:Cx) (id:String) (r:V->List V->Hp->VK->Prop):Prop :=
 ∀ j5 s σ H (x:V) (xs:List V) (v:Value) (us:List Value) (Q:VK),Inv X j5 σ H s->RelV x v->Vals xs us->r x xs H Q ->
  wpAny (e:) X.A (call (.builtin id) (v :: us)) (EP X j5 σ Q) X.xe s
def Vals.one (h:Vals [x] us):∃ u,us=[u]/\RelV x u:=by
  cases h with
  | cons r t=>cases t; exact ⟨_,Y,r⟩
def Vals.two (h:Vals [x,y] us):∃ u v,us=[u,v]/\RelV x u/\RelV y v:=by
  cases h with
  | cons r t =>
    obtain ⟨v,rfl,q⟩:=Vals.one t;exact ⟨_,v,Y,r,q⟩
theorem Vals.zero:∀ {us:List Value},Vals [] us->us=[]
 | _,.nil=>rfl
def Vals.dropLast {xs:List V} {us:List Value} (h:Vals xs us):Vals xs.dropLast us.dropLast:=by
 induction h with
 | nil=>exact .nil
 | cons r t ih =>
  cases t with
  | nil=>exact .nil
  | cons q t'=>exact .cons r ih
theorem Vals.eraseIdx:∀ {xs:List V} {us:List Value} (i:Nat),Vals xs us->Vals (xs.eraseIdx i) (us.eraseIdx i)
 | _,_,_,.nil=>.nil
 | _,_,0,.cons _ t=>t
 | _,_,i + 1,.cons r t=>.cons r (Vals.eraseIdx i t)
theorem Vals.rep (h:Vals xs us):∀ k:Nat,Vals (List.replicate k xs).flatten (List.replicate k us).flatten
 | 0=>.nil
 | k + 1=>by
  rw [replicate_succ,replicate_succ,flatten_cons,flatten_cons];exact Vals.append h (Vals.rep h k)
def Zj5 {α:Type} (l:List α):l.eraseIdx (l.length - 1)=l.dropLast:=by
 induction l with
 | nil=>rfl
 | cons a r ih =>
  cases r with
  | nil=>rfl
  | cons b r =>
   have e:(a :: b :: r).length - 1=((b :: r).length - 1) + 1:=by
    have h1:(a :: b :: r).length=r.length + 2:=rfl;have h2:(b :: r).length=r.length + 1:=rfl;lia
   rw [e,eraseIdx_cons_succ,ih]
   all_goals rfl
theorem Zde {α:Type}:∀ (l:List α) (i:Nat),(l.eraseIdx i).length<=l.length
 | [],_=>An _
 | _ :: _,0=>le_succ _
 | _ :: r,i + 1=>succ_le_succ (Zde r i)
theorem Zdk (its:List Value):∀ (k:Nat) (j':List Value),
  List.foldl (λx1 x2=>x1 ++ x2) j'.toArray (List.replicate k its.toArray)=(j' ++ (List.replicate k its).flatten).toArray
 | 0,j'=>by simp
 | k + 1,j'=>by
  have e:j'.toArray ++ its.toArray=(j' ++ its).toArray:=by simp
  have e2:(j' ++ its) ++ (List.replicate k its).flatten=j' ++ (List.replicate (k + 1) its).flatten:=by
   rw [replicate_succ,flatten_cons,append_assoc]
  rw [<- e2,<- Zdk its k (j' ++ its),<- e,replicate_succ,foldl_cons]
section
variable {X:Cx} {j5:List (n:)} {σ:St} {H:Hp} {s:Shared} {l b:Addr} {xs ys zs:List V}
def Inv.lset {its its':List Value} {t':Nat} (I:Inv X j5 σ H s) (hH:H l=some (.lst xs))
  (e:s.heap.get? l=some { cls:=.type "list",data:=.seq its.toArray n }) (hf:f its.toArray=its'.toArray) (hv:Vals ys its') (hz:ys.length<=sizeLine) :
  Inv X j5 σ (upd H l (.lst ys)) { s with heap:=s.heap.update l (Obj.mapSeq f),toks:=t' }:=by
 have q:=PySem.IsL.update e f;rw [hf] at q;refine I.write (x:=l) (e:=l) (by rw [hH]; exact trivial) (.inl Y) (λb' u hb hu=>(Heap.get?_update_other s.heap (Obj.mapSeq f) (Ne.symm hb)).trans hu) ⟨_,q⟩ ?_;exact ⟨hz,its',_,hv,q⟩
def Inv.lnew {its:List Value} {t':Nat} (I:Inv X j5 σ H s) (hv:Vals ys its) (hz:ys.length<=sizeLine) :
  Inv X j5 σ (upd H s.heap.objs.size (.lst ys)) { s with heap:=s.heap.push { cls:=.type "list",data:=.seq its.toArray },toks:=t' } :=
 I.laid (λ_ _ q=>Ak _ q) (An _) ⟨hz,its,0,hv,Ap _ rfl⟩
def Inv.fresh (I:Inv X j5 σ H s):H s.heap.objs.size=none:=I.hok.fresh (An _)
def Inv.lstM (I:Inv X j5 σ H s) (hH:H l=some (.lst xs)):xs.length<=sizeLine/\∃ (its:List Value) (n:Nat),Vals xs its/\xs.length=its.length/\s.heap.get? l=some { cls:=.type "list",data:=.seq its.toArray n }:=by
 obtain ⟨z,its,n,r,e⟩:=I.hok l _ hH;exact ⟨z,its,n,r,r.length,e⟩
def Zgj (h:n<=sizeLine):Builtin.List.listTooLong n=false:=by
 unfold Builtin.List.listTooLong;exact decide_eq_false (by lia)
end
section
variable {X:Cx}
def Zpu:V->List V->Hp->VK->Prop:=λx vs H Q=>∃ l xs y,x=.ref l/\vs=[y]/\H l=some (.lst xs)/\xs.length < sizeLine/\Q .non (upd H l (.lst (xs ++ [y])))
def Y6:MtM X "list.append" Zpu:=by
 intro j5 s σ H x vs v us Q I rx rv h;obtain ⟨l,xs,y,rfl,rfl,hH,hz,q⟩:=h;cases rx;obtain ⟨u,rfl,ru⟩:=rv.one;obtain ⟨z,its,n,r,hl,e⟩:=I.lstM hH;refine call_meets F.slot_list_append ⟨_,e,Y⟩ F.entry_list_append (F.args_list_append_2 _ _) (PySem.list_append l its.toArray n u (by rw [Aq]; lia)) ⟨e,?_⟩;refine ⟨.non,_,I.lset (its':=its ++ [u]) hH e (by simp) (r.append (.cons ru .nil)) ?_,Y,q⟩;rw [Ae,At];lia
def Zpt:V->List V->Hp->VK->Prop:=λx vs H Q=>∃ l b xs zs,x=.ref l/\vs=[.ref b]/\H l=some (.lst xs)/\H b=some (.lst zs)/\xs.length + zs.length<=sizeLine/\Q .non (upd H l (.lst (xs ++ zs)))
def Zl5:MtM X "list.extend" Zpt:=by
 intro j5 s σ H x vs v us Q I rx rv h;obtain ⟨l,b,xs,zs,rfl,rfl,hH,hB,hz,q⟩:=h;cases rx;obtain ⟨u,rfl,ru⟩:=rv.one;cases ru;obtain ⟨z,its,n,r,hl,e⟩:=I.lstM hH;obtain ⟨z2,qc,n2,r2,lm,e2⟩:=I.lstM hB;have hsz:its.toArray.size + qc.toArray.size<=sizeLine:=by rw [Aq,Aq]; lia
 have ui:¬ (!its.toArray.isEmpty && Builtin.List.listTooLong (its.toArray.size + qc.toArray.size))=true:=by
  rw [Zgj hsz,Bool.and_false];exact Bool.false_ne_true
 refine call_meets F.slot_list_extend ⟨_,e,Y⟩ F.entry_list_extend (F.args_list_extend_2 _ _)
  (AutoSeq1.list_extend_list_list_0 l its.toArray n b qc.toArray n2 ui (by rw [Aq]; lia) (by lia)) ⟨e,e2,?_⟩
 refine ⟨.non,_,I.lset (its':=its ++ qc) hH e (by simp) (r.append r2) ?_,Y,q⟩;rw [Ae];lia
def rPop:V->List V->Hp->VK->Prop:=λx vs H Q=>∃ l xs y,x=.ref l/\vs=[]/\H l=some (.lst xs)/\xs[xs.length - 1]?=some y/\Q y (upd H l (.lst xs.dropLast))
def Zl4:MtM X "list.pop" rPop:=by
 intro j5 s σ H x vs v us Q I rx rv h;obtain ⟨l,xs,y,rfl,rfl,hH,hy,q⟩:=h;cases rx;have xq:=rv.zero;subst xq;obtain ⟨z,its,n,r,hl,e⟩:=I.lstM hH;obtain ⟨u,hu,ru⟩:=r.get hy;have nk:its.toArray[its.toArray.size - 1]?=some u:=by
  show its.toArray[its.length - 1]?=some u
  rw [<- Array.getElem?_toList,<- hl]
  exact hu
 refine call_meets F.slot_list_pop ⟨_,e,Y⟩ F.entry_list_pop (F.args_list_pop_1 _) (MeetsSeq.list_pop_last l its.toArray n u nk (by rw [Aq]; lia)) ⟨e,?_⟩;refine ⟨y,_,I.lset (its':=its.dropLast) hH e ?_ r.dropLast ?_,ru,q⟩
 ·show its.toArray.eraseIdxIfInBounds (its.toArray.size - 1)=its.dropLast.toArray
  rw [Aq,eraseIdxIfInBounds_toArray,Zj5]
 ·rw [length_dropLast]
  lia
def Zrp:V->List V->Hp->VK->Prop:=λx vs H Q=>∃ l xs i k y,x=.ref l/\vs=[.int i]/\H l=some (.lst xs)/\-(2 ^ 63)<=i/\i < 2 ^ 63/\seqIndex? i xs.length=some k/\xs[k]?=some y/\Q y (upd H l (.lst (xs.eraseIdx k)))
def Zgm:MtM X "list.pop" Zrp:=by
 intro j5 s σ H x vs v us Q I rx rv h;obtain ⟨l,xs,i,k,y,rfl,rfl,hH,h1,h2,hk,hy,q⟩:=h;cases rx;obtain ⟨u,rfl,ru⟩:=rv.one;obtain ⟨t,rfl⟩:=ru;obtain ⟨z,its,n,r,hl,e⟩:=I.lstM hH;obtain ⟨w,hw,n8⟩:=r.get hy;refine call_meets F.slot_list_pop ⟨_,e,Y⟩ F.entry_list_pop (F.args_list_pop_2 _ _)
  (MeetsSeq.list_pop_at l its.toArray n i t k w (fitsIndex_both h1 h2) (by rw [Aq,<- hl]; exact hk) (by rw [<- Array.getElem?_toList]; exact hw) (by rw [Aq]; lia)) ⟨e,?_⟩
 refine ⟨y,_,I.lset (its':=its.eraseIdx k) hH e ?_ (r.eraseIdx k) ?_,n8,q⟩
 ·show its.toArray.eraseIdxIfInBounds k=(its.eraseIdx k).toArray
  rw [eraseIdxIfInBounds_toArray]
 ·have:=Zde xs k
  lia
def rCat:R2:=λx y H Q=>∃ l b xs zs,x=.ref l/\y=.ref b/\H l=some (.lst xs)/\H b=some (.lst zs)/\xs.length + zs.length<=sizeLine/\∀ p,H p=none->Q (.ref p) (upd H p (.lst (xs ++ zs)))
def Zls:OpR X (binaryOp .Add) rCat:=by
 intro j5 s σ H x y v u Q I rx ry h;obtain ⟨l,b,xs,zs,rfl,rfl,hH,hB,hz,q⟩:=h;cases rx;cases ry;obtain ⟨z,its,n,r,hl,e⟩:=I.lstM hH;obtain ⟨z2,qc,n2,r2,lm,e2⟩:=I.lstM hB;refine PySem.P.add_list e e2 ?_ (by rw [Aq,Aq]; lia);have ea:its.toArray ++ qc.toArray=(its ++ qc).toArray:=by simp
 rw [ea];exact ⟨.ref _,_,I.lnew (t':=s.toks) (r.append r2) (by rw [Ae]; lia),rfl,q _ I.fresh⟩
def rRep:R2:=λx y H Q=>∃ l k xs,x=.ref l/\y=.int k/\H l=some (.lst xs)/\-(2 ^ 63)<=k/\k < 2 ^ 63/\xs.length * k.toNat<=sizeLine /\
 ∀ p,H p=none->Q (.ref p) (upd H p (.lst (List.replicate k.toNat xs).flatten))
def Zqa {α:Type} (xs:List α) (k:Nat):(List.replicate k xs).flatten.length=k * xs.length:=by
 induction k with
 | zero=>simp
 | succ k ih=>rw [replicate_succ,flatten_cons,Ae,ih,succ_mul,Nat.add_comm]
def Od:OpR X (binaryOp .Mult) rRep:=by
 intro j5 s σ H x y v u Q I rx ry h;obtain ⟨l,k,xs,rfl,rfl,hH,h1,h2,hz,q⟩:=h;cases rx;obtain ⟨t,rfl⟩:=ry;obtain ⟨z,its,n,r,hl,e⟩:=I.lstM hH;have j8:its.toArray.size * k.toNat<=sizeLine:=by rw [Aq,<- hl]; exact hz
 have hcap:¬ its.toArray.size * k.toNat > (2 ^ 63 - 1) / 8:=by
  have:(sizeLine:Nat)<=(2 ^ 63 - 1) / 8:=by decide
  lia
 have hfit:¬ (!Builtin.List.listFitsIndex k)=true:=by
  rw [fitsIndex_both h1 h2];exact Bool.false_ne_true
 have ui:¬ Builtin.List.listTooLong (its.toArray.size * k.toNat)=true:=by
  rw [Zgj j8];exact Bool.false_ne_true
 have yu:List.foldl (λx1 x2=>x1 ++ x2) #[] (List.replicate (if its.toArray.isEmpty=true then 0 else k.toNat) its.toArray)=(List.replicate k.toNat its).flatten.toArray:=by
  have f0:∀ m:Nat,List.foldl (λx1 x2=>x1 ++ x2) #[] (List.replicate m its.toArray)=(List.replicate m its).flatten.toArray:=λm=>by
   have:=Zdk its m [];rw [nil_append] at this;exact this
  rw [f0]
  cases its with
  | nil=>simp
  | cons a r'=>rw [if_neg (by simp)]
 refine wpAny_binaryOp_repeat_ref (T:="list") (U:="int") (d:) ⟨_,e,rfl⟩ (λs'=>typeIs_int s' k t) noFill_list_mul F.fills_int_mul F.slot_int_rmul repeat_list F.slot_int_index.lookup
  (call_meets F.slot_int_rmul (typeIs_int s k t) F.entry_int_rmul (F.args_int_rmul_2 _ _) (int___rmul___int_list k t l its.toArray n)
   ⟨e,rfl,⟨_,e,rfl⟩,call_meets F.slot_list_mul ⟨_,e,rfl⟩ F.entry_list_mul (F.args_list_mul_2 _ _) (AutoListH.list___mul___list_int_3 l its.toArray n k t hfit hcap ui) ⟨e,?_⟩⟩)
 rw [yu];exact ⟨.ref _,_,I.lnew (t':=s.toks) (r.rep k.toNat) (by rw [Zqa,Nat.mul_comm]; exact hz),Y,q _ I.fresh⟩
end
section
variable {κ:Type} [DecidableEq κ]
noncomputable def valV (kvs:List (κ × V)) (k:κ):Option V:=(kvs.find? λkv=>decide (kv.1=k)).map (·.2)
noncomputable def putK (kvs:List (κ × V)) (k:κ) (v:V):List (κ × V) :=
 if (kvs.any λkv=>decide (kv.1=k))=true then kvs.map (λkv=>if kv.1=k then (kv.1,v) else kv) else kvs ++ [(k,v)]
def Fq {p:κ × V} {r:List (κ × V)} (e:p.1=k):valV (p :: r) k=some p.2:=by simp [valV,find?_cons,e]
def Fr {p:κ × V} (e:¬ p.1=k):valV (p :: r) k=valV r k:=by simp [valV,find?_cons,e]
theorem Zeo (k:κ):∀ kvs:List (κ × V),(kvs.any λkv=>decide (kv.1=k))=(valV kvs k).isSome
 | []=>rfl
 | p :: r=>by
  rw [any_cons];by_cases e:p.1=k
  ·simp only [Fq e,decide_eq_true e,Bool.true_or,Option.isSome_some]
  ·rw [Fr e,decide_eq_false e,Bool.false_or]; exact Zeo k r
def Jm (kvs:List (κ × V)) (k:κ) (v:V):(putK kvs k v).length<=kvs.length + 1:=by
 unfold putK;split
 ·rw [Ab]; lia
 ·rw [Ae,length_cons,length_nil]; lia
def RelO.isSome_eq {o:Option V} {u:Option Value} (r:RelO o u):o.isSome=u.isSome:=by
 cases o with
 | none=>cases u with
  | none=>rfl
  | some _=>exact (show False from r).elim
 | some _=>cases u with
  | none=>exact (show False from r).elim
  | some _=>rfl
def RelO.getD {o:Option V} {u:Option Value} {d:V} {d':Value} (r:RelO o u) (rd:RelV d d'):RelV (o.getD d) (u.getD d'):=by
 cases o with
 | none=>cases u with
  | none=>exact rd
  | some _=>exact (show False from r).elim
 | some _=>cases u with
  | none=>exact (show False from r).elim
  | some _=>exact r
def KV.val (r:KV kvs vs) (k:κ):RelO (valV kvs k) (valueAt vs k):=by
 unfold KV at r
 induction r with
 | nil=>exact True.intro
 | @cons p q ps qs h t ih =>
  obtain ⟨h1,h2⟩:=h;by_cases e:p.1=k
  ·have e':q.1=k:=h1.symm.trans e
   have b:valueAt (q :: qs) k=some q.2:=by simp [valueAt,find?_cons,e']
   rw [Fq e,b]; exact h2
  ·have e':¬ q.1=k:=λz=>e (h1.trans z)
   have b:valueAt (q :: qs) k=valueAt qs k:=by simp [valueAt,find?_cons,e']
   rw [Fr e,b]; exact ih
def KV.any {kvs:List (κ × V)} {vs:List (κ × Value)} (r:KV kvs vs) (k:κ):(kvs.any λkv=>decide (kv.1=k))=vs.any λkv=>decide (kv.1=k):=by
 unfold KV at r
 induction r with
 | nil=>rfl
 | cons h t ih=>rw [any_cons,any_cons,ih,h.1]
def KV.repl {kvs:List (κ × V)} {vs:List (κ × Value)} (r:KV kvs vs) (k:κ) (ry:RelV y u) :
  KV (kvs.map λkv=>if kv.1=k then (kv.1,y) else kv) (vs.map λkv=>if kv.1=k then (kv.1,u) else kv):=by
 unfold KV at r ⊢
 induction r with
 | nil=>exact .nil
 | @cons p q ps qs h t ih =>
  rw [map_cons,map_cons];refine .cons ?_ ih;obtain ⟨h1,h2⟩:=h;by_cases e:p.1=k
  ·rw [if_pos e,if_pos (h1.symm.trans e)]; exact ⟨h1,ry⟩
  ·rw [if_neg e,if_neg (λz=>e (h1.trans z))]; exact ⟨h1,h2⟩
def KV.put (r:KV kvs vs) (k:κ) (ry:RelV y u):KV (putK kvs k y) (stored vs k u):=by
 unfold putK stored;rw [r.any k];by_cases e:(vs.any λkv=>decide (kv.1=k))=true
 ·rw [if_pos e,if_pos e]; exact r.repl k ry
 ·rw [if_neg e,if_neg e]; exact Paired.snoc r ⟨Y,ry⟩
def KV.length {kvs:List (κ × V)} {vs:List (κ × Value)} (r:KV kvs vs):kvs.length=vs.length:=Paired.length r
end
def Qu (r:RelV (kV k) u):(Z2 P w).is k u=true:=by
 cases k with
 | inl i=>obtain ⟨t,e⟩:=(show ∃ t,u=Value.int i t from r); subst e; exact Zhr P w i t
 | inr x=>obtain ⟨t,e⟩:=(show ∃ t,u=Value.str x t from r); subst e; exact Zhq P w x t
theorem Zdf:∀ {ks:List Key} {us:List Value},Vals (ks.map kV) us->ItemsAre (Z2 P w) ks us
 | [],_,r=>by rw [map_nil] at r; cases r; exact .nil
 | k :: ks,_,r=>by
  rw [map_cons] at r
  cases r with
  | cons h t=>exact .cons (Qu h) (Zdf t)
abbrev KT (H:Hp):List (List Key × V)->List (List Key × Addr × Value)->Prop:=Paired λp q=>p.1=q.1/\H q.2.1=some (.tup (p.1.map kV))/\RelV p.2 q.2.2
def KT.val (r:KT H kvs xs) (k:List Key):RelO (valV kvs k) ((atKey xs k).map (·.2)):=by
 induction r with
 | nil=>exact True.intro
 | @cons p q ps qs h t ih =>
  obtain ⟨h1,_,h2⟩:=h;by_cases e:p.1=k
  ·have e':q.1=k:=h1.symm.trans e
   have b:atKey (q :: qs) k=some q.2:=by simp [atKey,find?_cons,e']
   rw [Fq e,b]; exact h2
  ·have e':¬ q.1=k:=λz=>e (h1.trans z)
   have b:atKey (q :: qs) k=atKey qs k:=by simp [atKey,find?_cons,e']
   rw [Fr e,b]; exact ih
def KT.repl {kvs:List (List Key × V)} {xs:List (List Key × Addr × Value)} (r:KT H kvs xs) (k:List Key) (ry:RelV y u) :
  KT H (kvs.map λkv=>if kv.1=k then (kv.1,y) else kv) (xs.map (putAt k u)):=by
 induction r with
 | nil=>exact .nil
 | @cons p q ps qs h t ih =>
  rw [map_cons,map_cons];refine .cons ?_ ih;obtain ⟨h1,h2,h3⟩:=h;unfold putAt;by_cases e:p.1=k
  ·rw [if_pos e,if_pos (h1.symm.trans e)]; exact ⟨h1,h2,ry⟩
  ·rw [if_neg e,if_neg (λz=>e (h1.trans z))]; exact ⟨h1,h2,h3⟩
def KT.put (r:KT H kvs xs) (k:List Key) (hb:H b=some (.tup (k.map kV))) (ry:RelV y u) :
  KT H (putK kvs k y) (storedH xs k b u):=by
 have e:(kvs.any λkv=>decide (kv.1=k))=(atKey xs k).isSome:=by
  rw [Zeo,(r.val k).isSome_eq,Option.isSome_map]
 unfold putK storedH;rw [e];by_cases q:(atKey xs k).isSome=true
 ·rw [if_pos q,if_pos q]; exact r.repl k ry
 ·rw [if_neg q,if_neg q]; exact Paired.snoc r ⟨Y,hb,ry⟩
def KT.keeps (r:KT H kvs xs) (ht:∀ b ys,H b=some (.tup ys)->H' b=some (.tup ys)):KT H' kvs xs :=
 Paired.mapP r λ_ _ z=>⟨z.1,ht _ _ z.2.1,z.2.2⟩
section
variable {P:Program} {w:World} {H:Hp} {h:Heap} {a:Addr}
def Zos (ok:HOk P w H h) (e:Rd H a u):Yo P w H h a u:=e.ok ok
def Jp {kvs:List (Key × V)} (ok:HOk P w H h) (e:Rd H a (.dK kvs)):kvs.length<=sizeLine/\(a == sysModules)=false/\∃ vs,KV kvs vs/\h.DictOf (Z2 P w) a vs :=
 show Yo P w H h a (.dK kvs) from Zos ok e
def Zej {kvs:List (Key × V)} (ok:HOk P w H h) (e:H a=some (.dK kvs)):kvs.length<=sizeLine/\(a == sysModules)=false/\∃ vs,KV kvs vs/\h.DictOf (Z2 P w) a vs:=Jp ok (.inl e)
def Oi {ks:List Key} (ok:HOk P w H h) (e:H a=some (.tup (ks.map kV))):(tupleKind (Z2 P w)).is h ks a:=by
 obtain ⟨_,its,r,o,h1,h2,n,h3⟩:=(show Yo P w H h a (.tup (ks.map kV)) from ok a _ e);exact ⟨o,its.toArray,n,h1,h2,h3,by simpa using Zdf r⟩
def O0 {kvs:List (List Key × V)} (ok:HOk P w H h) (e:Rd H a (.dT kvs)):kvs.length<=sizeLine/\(a == sysModules)=false /\
  ∃ xs,KT H kvs xs/\h.DictOfH (tupleKind (Z2 P w)) a xs:=by
 obtain ⟨z,y,xs,r,o,es,ep,h1,h2,h3,h4,h5⟩:=(show Yo P w H h a (.dT kvs) from Zos ok e);refine ⟨z,y,xs,r,o,es,ep,h1,h2,h3,h4,λx hx=>?_,h5⟩
 have all:∀ {l:List (List Key × V)} {m:List (List Key × Addr × Value)},KT H l m->∀ x∈m,(tupleKind (Z2 P w)).is h x.1 x.2.1:=by
  intro l m q
  induction q with
  | nil=>intro x hx; exact nomatch hx
  | @cons p q ps qs hq t ih =>
   intro x hx
   rcases Ar hx with e | hx
   ·subst e
    exact Oi ok (by rw [<- hq.1]; exact hq.2.1)
   ·exact ih x hx
 exact all r x hx
def Ztk {kvs:List (List Key × V)} (ok:HOk P w H h) (e:H a=some (.dT kvs)):kvs.length<=sizeLine/\(a == sysModules)=false /\
  ∃ xs,KT H kvs xs/\h.DictOfH (tupleKind (Z2 P w)) a xs:=O0 ok (.inl e)
end
def DGet (H:Hp) (a:Addr) (y:V) (r:Option V):Prop :=
 (∃ kvs k,Rd H a (.dK kvs)/\y=kV k/\r=valV kvs k)\/∃ kvs k b,Rd H a (.dT kvs)/\y=.ref b/\H b=some (.tup (k.map kV))/\r=valV kvs k
def DPut (H:Hp) (a:Addr) (y v:V) (H':Hp):Prop :=
 (∃ kvs k,H a=some (.dK kvs)/\y=kV k/\kvs.length < sizeLine/\H'=upd H a (.dK (putK kvs k v))) \/
 ∃ kvs k b,H a=some (.dT kvs)/\y=.ref b/\H b=some (.tup (k.map kV))/\kvs.length < sizeLine/\H'=upd H a (.dT (putK kvs k v))
def DGet.k {H:Hp} {a:Addr} {kvs:List (Key × V)} {k:Key} (e:H a=some (.dK kvs)):DGet H a (kV k) (valV kvs k):=.inl ⟨kvs,k,.inl e,rfl,rfl⟩
def DPut.k {H:Hp} {a:Addr} {kvs:List (Key × V)} {k:Key} {v:V} (e:H a=some (.dK kvs)) (hl:kvs.length < sizeLine):DPut H a (kV k) v (upd H a (.dK (putK kvs k v))):=.inl ⟨kvs,k,e,rfl,hl,rfl⟩
section
variable {X:Cx} {j5:List (n:)} {σ:St} {H:Hp} {s:Shared} {a:Addr} {y v:V} {u r:Value} {o:Option V} {A:Around} {E:Value->Shared->Prop}
def Inv.big (I:Inv X j5 σ H s):sysModules < s.heap.objs.size:=by
 have h:mainGlobals < s.heap.objs.size:=(I.mod.glob.keeps I.bk).lt;exact Nat.lt_trans (d:) h
def Zmo (hu:A.units + 1 < cLine) (I:Inv X j5 σ H s) (g:DGet H a y (some v)) (ry:RelV y u) (h:∀ w' s',Inv X j5 σ H s'->RelV v w'->Q w' s') :
  wpAny (e:) A (getItem (.ref a) u) Q E s:=by
 rcases g with ⟨kvs,k,e,ey,l⟩ | ⟨kvs,k,b,e,ey,eb,l⟩
 ·subst ey
  obtain ⟨z,hd,vs,kj,dd⟩:=Jp I.hok e;obtain ⟨w',hw,n8⟩:=RelO.some_of (v:=v) (o:=valueAt vs k) (by rw [l]; exact kj.val k);exact wpAny_getItem_of (Qu ry) dd.mapOf hw (h w' _ (I.tok _) n8)
 ·subst ey
  cases (show u=Value.ref b from ry);obtain ⟨z,hd,xs,kj,dd⟩:=O0 I.hok e;obtain ⟨w',hw,n8⟩:=RelO.some_of (v:=v) (o:=(atKey xs k).map (·.2)) (by rw [l]; exact kj.val k);obtain ⟨p,hp,pj⟩:=Option.map_eq_some_iff.mp hw;refine wpAny_getItem_heap (tupleKind_room_in1 hu) (Oi I.hok eb) dd hp ?_;rw [pj];exact h w' _ (I.tok _) n8
def d_in {Q:Value->Shared->Prop} (hu:A.units + 1 < cLine) (I:Inv X j5 σ H s) (g:DGet H a y o) (ry:RelV y u) (h:∀ s',Inv X j5 σ H s'->Q (.bool o.isSome) s') :
  wpAny (e:) A (compareOp .In u (.ref a)) Q E s:=by
 rcases g with ⟨kvs,k,e,ey,l⟩ | ⟨kvs,k,b,e,ey,eb,l⟩
 ·subst ey
  obtain ⟨z,hd,vs,kj,dd⟩:=Jp I.hok e;refine wpAny_in_of (Qu ry) hd dd.mapOf ?_;rw [<- (kj.val k).isSome_eq,<- l];exact h _ (I.tok _)
 ·subst ey
  cases (show u=Value.ref b from ry);obtain ⟨z,hd,xs,kj,dd⟩:=O0 I.hok e;refine wpAny_in_heap (tupleKind_room_in1 hu) (Oi I.hok eb) hd dd ?_;have q:=(kj.val k).isSome_eq;rw [Option.isSome_map] at q;rw [<- q,<- l];exact h _ (I.tok _)
def Zqn (hu:A.units + 1 < cLine) (I:Inv X j5 σ H s) (g:DGet H a y o) (ry:RelV y u) (h:∀ s',Inv X j5 σ H s'->Q (.bool (!o.isSome)) s') :
  wpAny (e:) A (compareOp .NotIn u (.ref a)) Q E s:=by
 rcases g with ⟨kvs,k,e,ey,l⟩ | ⟨kvs,k,b,e,ey,eb,l⟩
 ·subst ey
  obtain ⟨z,hd,vs,kj,dd⟩:=Jp I.hok e;refine wpAny_notIn_of (Qu ry) hd dd.mapOf ?_;rw [<- (kj.val k).isSome_eq,<- l];exact h _ (I.tok _)
 ·subst ey
  cases (show u=Value.ref b from ry);obtain ⟨z,hd,xs,kj,dd⟩:=O0 I.hok e;refine wpAny_notIn_heap (tupleKind_room_in1 hu) (Oi I.hok eb) hd dd ?_;have q:=(kj.val k).isSome_eq;rw [Option.isSome_map] at q;rw [<- q,<- l];exact h _ (I.tok _)
def On {h':Heap} {t':Nat} (I:Inv X j5 σ H s) (mu:Mut (H a)) (hs:Heap.SameBut a s.heap h') (he:∃ q,h'.get? a=some q) (new:Yo X.prog X.w (upd H a ob) h' a ob) :
  Inv X j5 σ (upd H a ob) { s with heap:=h',toks:=t' } :=
 I.write (x:=a) (e:=a) mu (.inl rfl) (λb q hb z=>(hs.2 b hb).trans z) he new
def Zbo {h':Heap} {kvs:List (Key × V)} (z:kvs.length<=sizeLine) (hd:(a == sysModules)=false) (kj:KV kvs vs) (dd:h'.DictOf (Z2 P w) a vs) :
  Yo P w H' h' a (.dK kvs):=⟨z,hd,vs,kj,dd⟩
def Zmn (hu:A.units + 1 < cLine) (I:Inv X j5 σ H s) (g:DPut H a y v H') (ry:RelV y u) (rv:RelV v r) (h:∀ s',Inv X j5 σ H' s'->Q () s') :
  wpAny (e:) A (setItem (.ref a) u r) Q E s:=by
 rcases g with ⟨kvs,k,e,ey,l,eH⟩ | ⟨kvs,k,b,e,ey,eb,l,eH⟩
 ·subst ey eH
  obtain ⟨z,hd,vs,kj,dd⟩:=Zej I.hok e;have hz:vs.length<=sizeLine:=by rw [<- kj.length]; exact z
  have hl:(putK kvs k v).length<=sizeLine:=by have:=Jm kvs k v; lia
  refine wpAny_setItem_pairs (hsz:=hz) (Qu ry) dd λh' re hs=>h _ ?_;have he:∃ q,h'.get? a=some q:=let ⟨q,_,_,hq,_⟩:=re; ⟨q,hq⟩
  exact On I (by rw [e]; exact True.intro) hs he (Zbo hl hd (kj.put k rv) re)
 ·subst ey eH
  cases (show u=Value.ref b from ry);obtain ⟨z,hd,xs,kj,dd⟩:=Ztk I.hok e;have hz:xs.length<=sizeLine:=by rw [<- Paired.length kj]; exact z
  have hl:(putK kvs k v).length<=sizeLine:=by have:=Jm kvs k v; lia
  refine wpAny_setItem_heap (hsz:=hz) (tupleKind_room_in1 hu) (Oi I.hok eb) dd λh' re hs=>h _ ?_;obtain ⟨q,es,ep,hq,h2,h3,h4,_,h5⟩:=re;refine On I (by rw [e]; exact True.intro) hs ⟨q,hq⟩ ⟨hl,hd,_,(kj.put k eb rv).keeps λc ys ec=>?_,q,es,ep,hq,h2,h3,h4,h5⟩;rw [Zd (Zs7 ec e (λz=>nomatch z))];exact ec
end
def NoSl (i:Expr):Prop:=∀ ov iv,subscripted i false ov iv=operate [ov,iv] (getItem ov iv)
def Zpc {prog:Program} {w:World} {A:Around} {E:Value->Shared->Prop} {s:Shared} {env:Env} {value l8:Expr} {pos:Pos} {T id:String} {Q:Value->Shared->Prop}
  (hl:typeLookup (.type T) "__getitem__"=pure (some (.builtin id))) (hs:NoSl l8)
  (h:wpAny (a0:) A (eval value env) (λo s₁=>wpAny (a0:) A (eval l8 env) (λi s₂=>s₂.TypeIs o T/\wpAny (a0:) A (getItem o i) Q E s₂) E s₁) E s) :
  wpAny (a0:) A (eval (.Subscript value l8 pos) env) Q E s:=by
 refine Subscript_ (wpAny_mono h (λo s₁ h₁=>wpAny_mono h₁ (λi s₂ h₂=>?_) λ_ _ x=>x) λ_ _ x=>x);obtain ⟨hT,h₂⟩:=h₂;unfold subscriptTail;refine Al ?_;rw [getitemInPython_of_ne hT.not_modules];refine Al (wpAny_specialOf hT hl ?_);have lc:wpAny (a0:) A (subscripted l8 false o i) (λr s₃=>wpAny (a0:) A (letTemporaryGo value o r >>= λ_=>pure r) Q E s₃) E s₂:=by
  rw [hs o i]
  exact wpAny_operating (wpAny_mono h₂ (λr s₃ h₃=>Al (wpAny_letTemporaryGo (wpAny_pure h₃))) λ_ _ x=>x)
 first
  | exact wpAny_pure (Al lc)
  | exact Al (wpAny_pure (Al lc))
  | exact Al lc
def Zhu {s:Shared} (I:Inv X j5 σ H s) (g:DGet H a y o):s.TypeIs (.ref a) "dict":=by
 rcases g with ⟨kvs,k,e,_,_⟩ | ⟨kvs,k,b,e,_,_,_⟩
 ·obtain ⟨_,_,vs,_,dd⟩:=Jp I.hok e
  exact dd.typeIs
 ·obtain ⟨_,_,xs,_,dd⟩:=O0 I.hok e
  exact dd.typeIs
def Zst (td ty:TE):TE:=λσ H Q=>td σ H λx H1=>ty σ H1 λy H2=>∃ a v,x=.ref a/\DGet H2 a y (some v)/\Q v H2
def tDIn (ty td:TE):TE:=λσ H Q=>ty σ H λy H1=>td σ H1 λx H2=>∃ a o,x=.ref a/\DGet H2 a y o/\Q (.bl o.isSome) H2
def Zo9 (ty td:TE):TE:=λσ H Q=>ty σ H λy H1=>td σ H1 λx H2=>∃ a o,x=.ref a/\DGet H2 a y o/\Q (.bl (!o.isSome)) H2
def Zs1 (td ty tv:TE):TS:=λD σ H=>tv σ H λv H1=>td σ H1 λx H2=>ty σ H2 λy H3=>∃ a H4,x=.ref a/\DPut H3 a y v H4/\D.nx σ H4
section
variable {X:Cx} {o i e value:Expr} {pos mh mq:Pos} {td ty tv:TE}
def Wy (hu:X.A.units + 1 < cLine) (ho:PE X o td) (hi:PE X i ty) (hs:NoSl i):PE X (.Subscript o i pos) (Zst td ty):=by
 intro j5 s σ H Q I h;refine Zpc PySem.F.slot_dict_getitem.lookup hs (thn (ho j5 s σ H _ I h) λu s1 zz23=>?_);obtain ⟨x,H1,I1,rx,q1⟩:=zz23;refine thn (hi j5 s1 σ H1 _ I1 q1) λiv s2 kc=>?_;obtain ⟨y,H2,I2,ry,a,v,ex,g,q2⟩:=kc;subst ex;obtain rfl:u=Value.ref a:=rx;exact ⟨Zhu I2 g,Zmo hu I2 g ry λw' s3 I3 n8=>⟨v,H2,I3,n8,q2⟩⟩
def Zf9 (hu:X.A.units + 1 < cLine) (hi:PE X i ty) (ho:PE X o td):PC X .In i o (tDIn ty td):=by
 intro j5 s σ H Q I h;refine thn (hi j5 s σ H _ I h) λiv s1 zz24=>?_;obtain ⟨y,H1,I1,ry,q1⟩:=zz24;refine thn (ho j5 s1 σ H1 _ I1 q1) λu s2 kc=>?_;obtain ⟨x,H2,I2,rx,a,ov,ex,g,q2⟩:=kc;subst ex;obtain rfl:u=Value.ref a:=rx;exact d_in hu I2 g ry λs3 I3=>⟨.bl ov.isSome,H2,I3,Y,q2⟩
def Q0 (hu:X.A.units + 1 < cLine) (hi:PE X i ty) (ho:PE X o td):PC X .NotIn i o (Zo9 ty td):=by
 intro j5 s σ H Q I h;refine thn (hi j5 s σ H _ I h) λiv s1 zz25=>?_;obtain ⟨y,H1,I1,ry,q1⟩:=zz25;refine thn (ho j5 s1 σ H1 _ I1 q1) λu s2 kc=>?_;obtain ⟨x,H2,I2,rx,a,ov,ex,g,q2⟩:=kc;subst ex;obtain rfl:u=Value.ref a:=rx;exact Zqn hu I2 g ry λs3 I3=>⟨.bl (!ov.isSome),H2,I3,Y,q2⟩
def Ob (hu:X.A.units + 1 < cLine) (ho:PE X o td) (hi:PE X i ty) (hv:PE X value tv) (hs:swapsWith value (some (.Subscript o i mh)) pos.line X.env=pure false) :
  PS X (.Assign [.Subscript o i mh] value pos) (Zs1 td ty tv):=by
 intro j5 s σ H D I h;refine wpAny_Assign_Subscript (thn (hv j5 s σ H _ I h) λr s1 zz26=>?_) hs;obtain ⟨v,H1,I1,rv,q1⟩:=zz26;refine thn (ho j5 s1 σ H1 _ I1 q1) λu s2 zz27=>?_;obtain ⟨x,H2,I2,rx,q2⟩:=zz27;refine thn (hi j5 s2 σ H2 _ I2 q2) λiv s3 zz28=>?_;obtain ⟨y,H3,I3,ry,a,H4,ex,g,q3⟩:=zz28;subst ex;obtain rfl:u=Value.ref a:=rx;exact Zmn hu I3 g ry rv λs4 I4=>⟨σ,H4,I4,q3⟩
end
def O1 (h:Heap) (hb:sysModules < h.objs.size):Yo P w H (h.push { cls:=.type "dict",data:=.dict #[] }) h.objs.size (.dK []) :=
 ⟨Az _,beq_eq_false_iff_ne.mpr (Ne.symm (As hb)),[],.nil,Heap.DictOf.new h⟩
def Zre:TE:=λ_ H Q=>∀ p,H p=none->Q (.ref p) (upd H p (.dK []))
section
variable {X:Cx} {pos:Pos}
def Ox:PE X (.Dict [] [] pos) Zre:=λj5 s σ H Q I h =>
 wpAny_Dict_empty ⟨.ref s.heap.objs.size,_,I.laid (a:=s.heap.objs.size) (o:=.dK []) (t':=s.toks) (λ_ _ q=>Ak _ q) (An _) (O1 s.heap I.big),rfl,h _ (I.hok.fresh (An _))⟩
end
def Zer:List (TE × TE)->St->Hp->(List (V × V)->Hp->Prop)->Prop
 | [],_,H,Q=>Q [] H
 | (tk,tv) :: r,σ,H,Q=>tk σ H λx H1=>tv σ H1 λy H2=>Zer r σ H2 λps H3=>Q ((x,y) :: ps) H3
abbrev VV:List (V × V)->List (Value × Value)->Prop:=Paired λp q=>RelV p.1 q.1/\RelV p.2 q.2
def PPs (X:Cx) (pos:Pos) (keys:List (Option Expr)) (mz:List Expr) (u4:List (TE × TE)):Prop :=
 ∀ j5 s σ H (Q:List (V × V)->Hp->Prop),Inv X j5 σ H s->Zer u4 σ H Q ->
  wpAny (e:) X.A (evalPairs (pairTrees keys mz X.env pos)) (λvs s'=>∃ ps H',Inv X j5 σ H' s'/\VV ps vs/\Q ps H') X.xe s
def Zic {X:Cx} {pos:Pos}:PPs X pos [] [] []:=λj5 s σ H Q I h=>pairTrees_nil_walk ⟨[],H,I,.nil,h⟩
def W8 {X:Cx} {pos:Pos} {k v:Expr} {ks:List (Option Expr)} {vs:List Expr} {tk tv:TE} {u4:List (TE × TE)} (hk:PE X k tk) (hv:PE X v tv) (hr:PPs X pos ks vs u4) :
  PPs X pos (some k :: ks) (v :: vs) ((tk,tv) :: u4):=λj5 s σ H Q I h =>
 pairTrees_cons_walk (thn (hk j5 s σ H _ I h) λu s1 ⟨x,H1,I1,rx,q1⟩=>thn (hv j5 s1 σ H1 _ I1 q1) λw2 s2 ⟨y,H2,I2,ry,q2⟩ =>
  thn (hr j5 s2 σ H2 _ I2 q2) λws s3 ⟨ps,H3,I3,kj,q3⟩=>⟨(x,y) :: ps,H3,I3,.cons ⟨rx,ry⟩ kj,q3⟩)
noncomputable def J8 (kvs more:List (Key × V)):List (Key × V):=more.foldl (λj' kv=>putK j' kv.1 kv.2) kvs
def KV.merge:∀ {more:List (Key × V)} {rs:List (Key × Value)} {kvs:List (Key × V)} {vs:List (Key × Value)},KV more rs->KV kvs vs->KV (J8 kvs more) (merged vs rs):=by
 intro more rs kvs vs r;unfold KV at r
 induction r generalizing kvs vs with
 | nil=>intro q; exact q
 | @cons p q ps qs h t ih =>
  intro r0;have e:KV (putK kvs p.1 p.2) (stored vs q.1 q.2):=by
   have:=r0.put p.1 h.2
   rw [<- h.1]; exact this
  exact ih e
theorem Kg:∀ (more kvs:List (Key × V)),(J8 kvs more).length<=kvs.length + more.length
 | [],kvs=>by show kvs.length<=kvs.length + 0; lia
 | p :: r,kvs=>by
  have h1:=Kg r (putK kvs p.1 p.2);have h2:=Jm kvs p.1 p.2;show (J8 (putK kvs p.1 p.2) r).length<=_;rw [length_cons]; lia
theorem Zbu {P:Program} {w:World}:∀ {kvs:List (Key × V)} {ws:List (Value × Value)},VV (kvs.map λkv=>(kV kv.1,kv.2)) ws->∃ rs,Carries (Z2 P w) ws rs/\KV kvs rs
 | [],_,r=>by rw [map_nil] at r; cases r; exact ⟨[],True.intro,.nil⟩
 | p :: kvs,_,r=>by
  rw [map_cons] at r
  cases r with
  | @cons a b as bs h t =>
   obtain ⟨rs,c,q⟩:=Zbu (P:=P) (w:=w) t;obtain ⟨b1,b2⟩:=b;exact ⟨(p.1,b2) :: rs,⟨Qu h.1,Y,c⟩,.cons ⟨Y,h.2⟩ q⟩
def Zss (u4:List (TE × TE)):TE:=λσ H Q=>∀ p,H p=none->Zer u4 σ (upd H p (.dK [])) λps H2=>H2 p=some (.dK [])/\∃ kvs:List (Key × V),ps=kvs.map (λkv=>(kV kv.1,kv.2))/\kvs.length<=15/\Q (.ref p) (upd H2 p (.dK (J8 [] kvs)))
def Zii {X:Cx} {pos:Pos} {keys:List (Option Expr)} {mz:List Expr} {u4:List (TE × TE)} (h:PPs X pos keys mz u4) (hall:keys.all (·.isSome)=true) (hl:keys.length=mz.length) (h0:keys≠[])
  (h15:keys.length<=15):PE X (.Dict keys mz pos) (Zss u4):=by
 intro j5 s σ H Q I q;have hn:=I.hok.fresh (An s.heap.objs.size);have I1:=I.laid (a:=s.heap.objs.size) (o:=.dK []) (h':=s.heap.push { cls:=.type "dict",data:=.dict #[] }) (t':=s.toks) (λ_ _ q=>Ak _ q) (An _) (O1 s.heap I.big);refine wpAny_Dict_walk (knd:=Z2 X.prog X.w) hall hl h0 h15 (thn (h j5 _ σ _ _ I1 (q _ hn)) λws s2 kc=>?_);obtain ⟨ps,H2,I2,kj,e,kvs,ep,lk,q2⟩:=kc;subst ep;obtain ⟨rs,c,rk⟩:=Zbu (P:=X.prog) (w:=X.w) kj;obtain ⟨z,hd,vs0,r0,dd⟩:=Zej I2.hok e;cases r0;refine ⟨rs,c,dd,λh' re hs=>⟨.ref s.heap.objs.size,_,?_,Y,q2⟩⟩;have hz:(J8 [] kvs).length<=sizeLine:=by
  have h1:=Kg kvs []
  rw [length_nil] at h1
  rw [sizeLine_eq]; lia
 have he:∃ q,h'.get? s.heap.objs.size=some q:=let ⟨q,_,_,hq,_⟩:=re; ⟨q,hq⟩
 exact On I2 (by rw [e]; exact True.intro) hs he (Zbo hz hd (rk.merge .nil) re)
structure M2 (X:Cx) (o:Expr) (m:Str) (kf:Pos) (e f:Expr) (ke:Pos):Prop where
 base:attributeBase o m X.env (eval o X.env)=eval o X.env
 few:((backTo ke (starEach [e,f] X.env)).all (λx=>!x.1) && (backToKw ke (keywordEach [] X.env)).all (λx=>x.1.isSome)
  && decide (([e,f]:List Expr).length + ([]:List Keyword).length + (if ([]:List Keyword).isEmpty then 0 else 1) < 30))=true
 line:(kf.endLine == ke.line)=true
 trees:backTo ke (starEach [e,f] X.env)=[(a8:),(false,eval f X.env)]
def IsD (H:Hp) (a:Addr):Prop:=(∃ kvs,Rd H a (.dK kvs))\/∃ kvs,Rd H a (.dT kvs)
def Zbi {s:Shared} (I:Inv X j5 σ H s) (d:IsD H a) :
  s.TypeIs (.ref a) "dict"/\(∀ b,Value.ref a=.ref b->∃ ob,s.heap.get? b=some ob/\ob.dict=none)/\(a == sysModules)=false:=by
 rcases d with ⟨kvs,e⟩ | ⟨kvs,e⟩
 ·obtain ⟨_,hd,vs,_,dd⟩:=Jp I.hok e
  refine ⟨dd.typeIs,λb q=>?_,hd⟩;cases q;obtain ⟨ob,_,_,h1,h2,_⟩:=dd;exact ⟨ob,h1,h2.2.1⟩
 ·obtain ⟨_,hd,xs,_,dd⟩:=O0 I.hok e
  refine ⟨dd.typeIs,λb q=>?_,hd⟩;cases q;obtain ⟨ob,_,_,h1,h2,_⟩:=dd;exact ⟨ob,h1,h2.2.1⟩
section
variable {X:Cx} {j5:List (n:)} {σ:St} {H:Hp} {s:Shared} {a:Addr} {y d:V} {u r:Value} {o:Option V} {A:Around} {E:Value->Shared->Prop}
def Zsa {Q:Value->Shared->Prop} (hu:A.units + 1 < cLine) (I:Inv X j5 σ H s) (g:DGet H a y o) (ry:RelV y u) (rd:RelV d r) (h:∀ w' s',Inv X j5 σ H s'->RelV (o.getD d) w'->Q w' s') :
  wpAny (e:) A (call (.builtin "dict.get") [.ref a,u,r]) Q E s:=by
 rcases g with ⟨kvs,k,e,ey,l⟩ | ⟨kvs,k,b,e,ey,eb,l⟩
 ·subst ey
  obtain ⟨z,hd,vs,kj,dd⟩:=Jp I.hok e;refine call_meetsIn PySem.F.slot_dict_get dd.typeIs PySem.F.entry_dict_get (PySem.F.args_dict_get_3 _ _ _) (meets_dict_get_default (Z2 X.prog X.w) a (Qu ry) hd r) ⟨_,dd.mapOf,h _ _ (I.tok _) ?_⟩;rw [l];exact (kj.val k).getD rd
 ·subst ey
  cases (show u=Value.ref b from ry);obtain ⟨z,hd,xs,kj,dd⟩:=O0 I.hok e;refine call_meetsIn PySem.F.slot_dict_get dd.typeIs PySem.F.entry_dict_get (PySem.F.args_dict_get_3 _ _ _) (meetsH_dict_get_default (tupleKind (Z2 X.prog X.w)) a b hd r) ⟨tupleKind_room_in1 hu,k,xs,Oi I.hok eb,dd,h _ _ (I.tok _) ?_⟩;rw [l];exact (kj.val k).getD rd
end
def Zrf (td ty tx:TE):TE:=λσ H Q=>td σ H λx H1=>∃ a,x=.ref a/\IsD H1 a/\ty σ H1 λy H2=>tx σ H2 λz H3=>∃ o,DGet H3 a y o/\Q (o.getD z) H3
section
variable {X:Cx} {o e f:Expr} {kf ke:Pos} {td ty tx:TE}
def F3 (hu:X.A.units + 1 < cLine) (ho:PE X o td) (he:PE X e ty) (hf:PE X f tx) (m:M2 X o "get" kf e f ke):PE X (.Call (.Attribute o "get" kf) [e,f] [] ke) (Zrf td ty tx):=by
 intro j5 s σ H Q I h;refine wpAny_Call_method m.base m.few m.line PySem.F.plainAttrs_dict PySem.F.slot_dict_get PySem.F.type_dict_get (thn (ho j5 s σ H _ I h) λu s1 kc=>?_);obtain ⟨x,H1,I1,rx,a,ex,d,q1⟩:=kc;subst ex;obtain rfl:u=Value.ref a:=rx;obtain ⟨t1,t2,_⟩:=Zbi I1 d;refine ⟨t1,t2,?_⟩;rw [m.trees];refine Calls.callWith_builtin rfl (Calls.evalArgs_plain (Calls.spliced_cons (thn (he j5 s1 σ H1 _ I1 q1) λiv s2 ⟨y,H2,I2,ry,q2⟩ =>
  Calls.spliced_cons (thn (hf j5 s2 σ H2 _ I2 q2) λfv s3 ⟨z,H3,I3,rz,ov,g,q3⟩=>Calls.spliced_nil ?_))))
 exact Zsa hu I3 g ry rz λw' s4 I4 n8=>⟨_,H3,I4,n8,q3⟩
end
end L2
namespace Att
open PySem PySem.W PySem.Calls PyProof.Rows
def Zbj:∀ (ns:List Int) (vs:List Value),WellAll P h vs (ns.map WData.int)->IntsAre vs ns:=by
 intro ns
 induction ns with
 | nil =>
  intro vs w;rw [map_nil] at w;cases w;exact .nil
 | cons n ns ih =>
  intro vs w;rw [map_cons] at w
  cases w with
  | cons a b =>
   cases a;exact .cons _ _ (ih _ b)
def Zkz {l:OpenLaw} (hn:l.most=some n) {h:Heap}
  (vw:l.row.toRowW.claim.pre args=true) (zf:WellAll P h vals args) :
  ∃ a vs ns,vals=[Value.ref a]/\args=[WData.list (ns.map WData.int)]/\h.get? a=some { cls:=.type "list",data:=.seq vs.toArray }/\IntsAre vs ns/\ns.length<=n:=by
 have hsh:WShape.hasAll [] args [.list .int]=true:=(pre_splitW vw).1;have hc:l.pre.holds [] { args:=args }=true:=(pre_splitW vw).2;obtain ⟨d,r,rfl,h1,h2⟩:=hasAllW_cons hsh;obtain rfl:=hasAllW_nil h2;obtain ⟨xs,rfl,h3⟩:=hasW_list h1;obtain ⟨ns,rfl⟩:=items_int h3
 have j8:ns.length<=n:=by
  unfold OpenLaw.pre at hc;have h4:(WTm.not (.lt (.lit (.int (n:Int))) (.len (.arg 0)))).holds [] { args:=[.list (ns.map .int)] }=true:=by
   have h4:=(holds_andW hc).1
   rw [hn] at h4
   exact h4
  have h5:=condW_of h4 (w_not (w_lt w_lit (w_len_list (w_arg rfl))));rw [Ab] at h5;refine Nat.le_of_not_lt λq=>?_;have q':(n:Int) < ((ns.length:Nat):Int):=by lia
  first
   | (rw [decide_eq_true q'] at h5; exact absurd h5 (by decide))
   | (simp at h5; lia)
 cases zf with
 | cons w1 w2 =>
  cases w2
  cases w1 with
  | list ho hall=>exact ⟨_,_,ns,Y,Y,ho,Zbj ns _ hall,j8⟩
def Zk8 (l:OpenLaw) (args:List WData):l.row.toRowW.claim.post args (.bool true) args=true :=
 postW_of (r:=l.row.toRowW) (X:=(true == true))
  (show WShape.has [] (.bool true) .bool=true by first | rfl | decide | simp [WShape.has,WShape.arms,WShape.armsAll])
  (show (WTm.eq .res (.lit (.bool true))).value [] { args:=args,res:=some (.bool true),after:=args }=some (.bool (true == true)) from w_eq_bool (w_res rfl) w_lit) rfl
def attach_call {l:OpenLaw} {d:DefRec}
  (hn:l.most=some n) (hdf:d.params.defaults=[])
  (call:∀ (w:World) (s₀ s₁:Shared) (mg mb:Str->Option Value) (fa:Addr) (o:Obj) (pm cd k7:Value) (a:Addr) (vs:List Value) (ns:List Int),
   Ground q qr [] XP w s₀ mg mb s₁.heap->YP w s₁.heap ->
   s₁.heap.get? fa=some o->o.data=.func (docDef d.name d.params d.body d.scope pm cd k7)->s₁.heap.CodeRec cd d.name->mg d.name=some (.ref fa) ->
   s₁.heap.get? a=some { cls:=.type "list",data:=.seq vs.toArray }->IntsAre vs ns->ns.length<=n->s₁.gens=#[] ->
   codeAny (model l.prog w) callerA (.call (.ref fa) ⟨[.ref a],[]⟩) (λr s'=>r=.ok (.ret (.bool true))/\OldK s₁.heap s'.heap/\s'.os=s₁.os/\AllBare s'.gens) s₁) :
  WalkO q qr XP YP l.row.toRowW d [] (λf vs=>PySem.call f vs):=by
 intro w s₀ s₁ mg mb G Qzj fa o pm cd k7 dV kV ho hd p6 hD hmg hg args vals as vw hlay hrd zf hlo;obtain rfl:dV=.none:=Dflts.none hD hdf;obtain rfl:kV=.none:=Dflts.noKw hD;obtain ⟨a,vs,ns,rfl,rfl,yt,uj,j8⟩:=Zkz hn vw zf;refine enter_call (codeAny_mono (call w s₀ s₁ mg mb fa o pm cd k7 a vs ns G Qzj ho (fd_plain hd) p6 hmg yt uj j8 hg) λr s' hq=>?_);obtain ⟨rfl,h2,h3,h4⟩:=hq;exact ⟨.inl ⟨.bool true,.bool true,[],Y,λ_=>rfl,.bool true,Zk8 l _,λ_=>⟨List.Pairwise.nil,λ_ hm=>(nomatch hm)⟩⟩,h2,h3,h4⟩
end Att
namespace L2
open PySem PySem.Spec PyProof.Rows
theorem Zcq:∀ {vs:List Value} {ns:List Int},IntsAre vs ns->Vals (H:) vs
 | _,_,.nil=>.nil
 | _,_,.cons n t h=>.cons ⟨t,rfl⟩ (Zcq h)
def Only (H:Hp):Prop:=∀ b,H b=none\/∃ o xs,H b=some (.frz o (.lst xs))
def Zn2 {K:W.Frag} {s₁:Shared} {vs:List Value} {ns:List Int}
  (KX:K.In s₁.heap) (yc:s₁.heap.Ns mainGlobals mg) (hb:s₁.heap.Ns builtinsNs mb) (hbb:∀ x:Str,x≠"__name__"->mb x=bootBuiltins x) (hlim:s₁.heap.NoLimit) (hg:s₁.gens=#[])
  (ha:s₁.heap.get? a=some { cls:=.type "list",data:=.seq vs.toArray }) (hi:IntsAre vs ns) (hl:ns.length<=sizeLine) (hr:Room k callerA)
  (F:∀ base:Heap,K.In base->base.Ns mainGlobals mg->FnOk P w K mg base CX k fa fd [x] sp) (hbind:∀ (s:Shared) (u:Value),BindsTo s fd ⟨[u],[]⟩ [(x,u)])
  (mm:∀ H:Hp,Only H->SqL K H a (H:)->sp [.ref a] H (λv _=>v=.bl true) λ_ _ _=>False)
  (hCX:∀ H e s',CX [] H s₁ (λ_ _ _=>False) e s'->False) :
  codeAny (model P w) callerA (.call (.ref fa) ⟨[.ref a],[]⟩) (λr s'=>r=.ok (.ret (.bool true))/\OldK s₁.heap s'.heap/\s'.os=s₁.os/\AllBare s'.gens) s₁:=by
 have rv:=Zcq hi;have lenV:=hi.length
 have core:∀ H:Hp,Only H->SqL K H a (H:)->HOk P w H s₁.heap->(∀ b,H b≠none->b=a)->(H a≠none->K.lookup a=none) ->
   codeAny (model P w) callerA (.call (.ref fa) ⟨[.ref a],[]⟩) (λr s'=>r=.ok (.ret (.bool true))/\OldK s₁.heap s'.heap/\s'.os=s₁.os/\AllBare s'.gens) s₁:=by
  intro H hO hS hok hA hK;have qu:∀ {b:Addr} {o:Obj},s₁.heap.get? b=some o->H b=none->(hidT s₁.heap H).get? b=some o:=λe n=>Zn8 e n
  have noA:∀ {b:Addr} {o:Obj} {es:Array DictEntry} {ep:Nat},s₁.heap.get? b=some o->o.data=.dict es ep->H b=none:=λ{b o es ep} e d=>by
   cases q:H b with
   | none=>rfl
   | some u =>
    have e':b=a:=hA b (by rw [q]; simp);subst e';rw [ha] at e; cases e;have d':Data.seq vs.toArray _=Data.dict es ep:=d;cases d'
  have nsK:∀ {b:Addr} {m:Str->Option Value},s₁.heap.Ns b m->(hidT s₁.heap H).Ns b m:=λ{b m} ⟨o,es,ep,e,d,r⟩=>⟨o,es,ep,qu e (noA e d),d,r⟩
  have hKb:K.In (hidT s₁.heap H):=λb o e=>qu (KX b o e) (by
   cases q:H b with
   | none=>rfl
   | some u =>
    have e':b=a:=hA b (by rw [q]; simp);subst e'
    rw [hK (by rw [q]; simp)] at e; cases e)
  have hM:Mod K mg (hidT s₁.heap H):=⟨hKb,nsK yc,⟨mb,nsK hb,hbb⟩,let ⟨mc,h1,h2⟩:=hlim; ⟨mc,nsK h1,h2⟩⟩;have e0:Env0 P w K mg (hidT s₁.heap H) callerA [] s₁ H:=⟨rfl,hM,λb o e=>Zp8 e,Nat.le_of_eq (Zmd _ _),trivial,λb hb=>absurd (show b∈([]:List Addr) from hb) (by simp),hok,.of_eq hg⟩;refine codeAny_mono ((F _ hKb (nsK yc)).run callerA [] s₁ H ⟨[.ref a],[]⟩ [.ref a] [.ref a] _ _ hr e0 (hbind s₁ (.ref a)) (.cons Y .nil) (mm H hO hS)) λr s' h=>?_
  cases r with
  | error e=>exact (hCX H e s' h).elim
  | ok fl =>
   cases fl with
   | next=>exact False.elim h
   | brk=>exact False.elim h
   | cont=>exact False.elim h
   | ret u =>
    obtain ⟨v,H',os,bare,un,hok',r',q⟩:=h;have q':v=.bl true:=q;subst q';obtain rfl:u=Value.bool true:=r';refine ⟨Y,OldK.of_keep λb o e=>?_,os,bare⟩
    cases q:H b with
    | none=>exact un.keep b o e q (by intro z; exact absurd (show b∈([]:List Addr) from z) (by simp)) (by simp)
    | some u =>
     rcases hO b with z | ⟨ob,xs,z⟩
     ·rw [q] at z; cases z
     ·have z2:=un.frzs b ob _ z
      obtain ⟨e1,_⟩:=hok b _ z;obtain ⟨e2,_⟩:=hok' b _ z2;rw [e] at e1; cases e1;exact e2
 cases hk:K.lookup a with
 | some o =>
  have e:=KX a o hk;rw [ha] at e;cases e;refine core (λ_=>none) (λ_=>.inl Y) (.inr ⟨_,vs.toArray,_,hk,Y,Y,Y,by rw [Aq,lenV]; exact hl,by simpa using rv⟩) (λb u z=>by have z':(none:Option HO)=some u:=z; cases z') (λb z=>absurd rfl z) λz=>absurd rfl z
 | none =>
  refine core (λb=>if b=a then some (.frz { cls:=.type "list",data:=.seq vs.toArray } (.lst (H:))) else none) (λb=>?_) (.inl (.inr ⟨{ cls:=.type "list",data:=.seq vs.toArray },if_pos rfl⟩)) (λb u z=>?_) (λb z=>?_) λ_=>hk
  ·by_cases hb:b=a
   ·exact .inr ⟨_,_,if_pos hb⟩
   ·exact .inl (if_neg hb)
  ·by_cases hb:b=a
   ·have z':=(if_pos hb).symm.trans z
    cases z';subst hb;exact ⟨ha,by rw [Ab]; exact hl,vs,_,rv,ha⟩
   ·have z':=(if_neg hb).symm.trans z
    cases z'
  ·by_cases hb:b=a
   ·exact hb
   ·exact absurd (if_neg hb) z
abbrev KOf {K:W.Frag} {h:Heap} (_:K.In h):PySem.W.Frag:=K
def Zoz {l:PySem.W.OpenLaw} {d:DefRec} {K:Params->PySem.W.Frag} {CX:World->CXT} {sp:World->Sp} {x:Str}
  (hn:l.most=some n) (zp:n<=sizeLine) (hdf:d.params.defaults=[]) (hr:Room k callerA)
  (hY:∀ (w:World) (h:Heap),YP w h->(K w.params).In h)
  (F:∀ (w:World) (mg:Str->Option Value) (fa:Addr) (h:Heap),(K w.params).In h->h.Ns mainGlobals mg->mg d.name=some (.ref fa) ->
   ∃ fd:FuncData,(∀ (s:Shared) (u:Value),BindsTo s fd ⟨[u],[]⟩ [(x,u)]) /\
    ∀ base:Heap,(K w.params).In base->base.Ns mainGlobals mg->FnOk l.prog w (K w.params) mg base (CX w) k fa fd [x] (sp w))
  (mm:∀ (w:World) (H:Hp) (a:Addr) (ns:List Int),ns.length<=n->Only H->SqL (K w.params) H a (H:)->sp w [.ref a] H (λv _=>v=.bl true) λ_ _ _=>False)
  (hCX:∀ (w:World) (H:Hp) (s:Shared) (e:Value) (s':Shared),CX w [] H s (λ_ _ _=>False) e s'->False) :
  PySem.W.WalkO q qr XP YP l.row.toRowW d [] (λf vs=>PySem.call f vs):=by
 refine Att.attach_call hn hdf λw s₀ s₁ mg mb fa o pm cd k7 a vs ns G Qzj ho hd p6 hmg yt uj j8 hg=>?_;have KX:=hY w _ Qzj;obtain ⟨fd,hb,hF⟩:=F w mg fa _ KX G.T.g hmg;exact Zn2 KX G.T.g G.T.b G.T.builtins G.T.nolimit hg yt uj (Nat.le_trans j8 zp) hr hF hb (λH hO hS=>mm w H a ns j8 hO hS) λH e s'=>hCX w H s₁ e s'
def Yk (s:Stmt) (j:Nat):Stmt:=match s with
 | .ClassDef _ _ _ body _ _ _ _ _ _ _=>body.getD j (.Pass ⟨0,0,0,0⟩)
 | _=>.Pass ⟨0,0,0,0⟩
noncomputable def Xp (s:Stmt):Arguments:=match s with
 | .FunctionDef _ a _ _ _ _ _ _ _ _=>a
 | _=>{ posonlyargs:=[],args:=[],vararg:=none,kwonlyargs:=[],kw_defaults:=[],kwarg:=none,defaults:=[] }
noncomputable def Y4 (s:Stmt):List Stmt:=match s with
 | .FunctionDef _ _ b _ _ _ _ _ _ _=>b
 | _=>[]
noncomputable def Zg (s:Stmt):Scope:=match s with
 | .FunctionDef _ _ _ _ _ _ sc _ _ _=>sc
 | _=>{ kind:=.function,names:=[],isGenerator:=false,isCoroutine:=false }
abbrev E0:XK:=λ_ _ _=>False
structure Fun (K:W.Frag) (x qual:Str) (st:Stmt) (f:Addr) (fd:FuncData):Prop where
 ex:∃ (oc:Value) (od:Option Addr) (kV k7 pm:Value) (an:Option Addr) (kn ct:Value) (ut:Array (Option Value)),
  fd=PySem.W.fnOf x qual (Xp st) (Y4 st) (Zg st) .none kV k7 pm an kn ct/\K.lookup f=some ⟨oc,od,.func fd,ut⟩/\PySem.W.codeIn K kn qual=true
 kp:PySem.W.keepIn K (.ref f)=true
section
variable {P:Program} {w:World} {K:W.Frag} {mg:Str->Option Value} {base:Heap}
def Fun.binds {x qual:Str} {st:Stmt} {f:Addr} {fd:FuncData} {ps:List Str} (F:Fun K x qual st f fd)
  (h:∀ (kV k7 pm:Value) (an:Option Addr) (kn ct:Value) (us:List Value),us.length=ps.length->bindArgs (PySem.W.fnOf x qual (Xp st) (Y4 st) (Zg st) .none kV k7 pm an kn ct) ⟨us,[]⟩=pure (ps.zip us)):Wu K fd ps []:=by
 obtain ⟨oc,od,kV,k7,pm,an,kn,ct,ut,rfl,lk,p6⟩:=F.ex;exact .all (h kV k7 pm an kn ct)
def Zbl {x qual:Str} {st:Stmt} {f:Addr} {oc:Value} {od an:Option Addr} {ut:Array (Option Value)} {kV k7 pm kn ct:Value} (l:K.lookup f=some ⟨oc,od,.func (PySem.W.fnOf x qual (Xp st) (Y4 st) (Zg st) .none kV k7 pm an kn ct),ut⟩)
  (c:PySem.W.codeIn K kn qual=true) (k:PySem.W.keepIn K (.ref f)=true):Fun K x qual st f (PySem.W.fnOf x qual (Xp st) (Y4 st) (Zg st) .none kV k7 pm an kn ct):=⟨⟨oc,od,kV,k7,pm,an,kn,ct,ut,rfl,l,c⟩,k⟩
end
def Xb {A:Around} (hr:Room k A):A.units + 1 < cLine:=Nat.lt_of_le_of_lt (Nat.add_le_add_left (by decide:1<=64) _) hr.units
def Zt {n:Nat} (h:n<=1000):n < sizeLine:=Nat.lt_of_le_of_lt h (d:)
section
variable {X:Cx}
def pv (i:Nat) (hN:X.N[i]?=some x:=by rfl) (hv:Vis X.env.scope x:=by first | exact Or.inl rfl | exact Or.inr (g:) | exact Or.inr (I:)) (hd:(Z:)=false:=by decide)
  (p6:(x == ("__classdict__":Str))=false:=by decide):PE X (.Name x pos) (tVar i):=Zru hN hv hd p6
end
def iteF {A B:Prop} (h:B):if false=true then A else B:=by
 rw [if_neg Bool.false_ne_true];exact h
def iteT {A B:Prop} (h:A):if true=true then A else B:=by
 rw [if_pos rfl];exact h
def ite2 {A B:Prop} [Decidable c] (h1:c->A) (h2:¬ c->B):if c then A else B:=by
 by_cases h:c
 ·rw [if_pos h]
  exact h1 h
 ·rw [if_neg h]
  exact h2 h
def Same (H H':Hp):Prop:=∀ b o,H b=some o->H' b=some o
def Same.refl (H:Hp):Same H H:=λ_ _ h=>h
def Same.trans (a:Same H H1) (b:Same H1 H2):Same H H2:=λc o h=>b c o (a c o h)
def Same.free {H H':Hp} (e:Same H H') {l:Addr} (h:H' l=Option.none):H l=Option.none:=by
 cases q:H l with
 | none=>rfl
 | some o =>
  rw [e l o q] at h;cases h
def Same.seq {K:W.Frag} {H H':Hp} {a:Addr} {xs:List V} (e:Same H H') (h:SqL K H a xs):SqL K H' a xs:=by
 rcases h with (h | ⟨o,h⟩) | h
 ·exact .inl (.inl (e _ _ h))
 ·exact .inl (.inr ⟨o,e _ _ h⟩)
 ·exact .inr h
noncomputable def Y8 (env:Env):List (Str × NameKind)->List (Str × Addr)->List (Str × Addr)
 | [],j'=>j'
 | (n,k) :: r,j'=>if (k == NameKind.free)=true then (match env.cells.lookup n with
  | some c=>Y8 env r ((n,c) :: j')
  | none=>Y8 env r j') else Y8 env r j'
theorem Jq {env:Env}:∀ (ns:List (Str × NameKind)) (j':List (Str × Addr)),(∀ x c,j'.lookup x=some c->env.cells.lookup x=some c) ->
  ∀ x c,(Y8 env ns j').lookup x=some c->env.cells.lookup x=some c
 | [],j',h=>h
 | (n,k) :: r,j',h=>by
  unfold Y8;split
  ·cases e:env.cells.lookup n with
   | none=>exact Jq r j' h
   | some c =>
    refine Jq r _ λx d hx=>?_;rw [lookup_cons] at hx
    cases hb:x == n with
    | true =>
     rw [hb] at hx;cases hx;rw [beq_iff_eq.mp hb];exact e
    | false =>
     rw [hb] at hx;exact h x d hx
  ·exact Jq r j' h
theorem Jr:∀ (ns:List (Str × NameKind)) (j':List (Str × Addr)) (x:Str),(∃ c,j'.lookup x=some c)->∃ c,(Y8 env ns j').lookup x=some c
 | [],j',x,h=>h
 | (n,k) :: r,j',x,h=>by
  unfold Y8;split
  ·cases e:env.cells.lookup n with
   | none=>exact Jr r j' x h
   | some c =>
    refine Jr r _ x ?_;rw [lookup_cons]
    cases hb:x == n with
    | true=>exact ⟨c,Y⟩
    | false=>exact h
  ·exact Jr r j' x h
theorem Qw {env:Env}:∀ (ns:List (Str × NameKind)) (j':List (Str × Addr)) (x:Str),(x,NameKind.free)∈ns->(∃ c,env.cells.lookup x=some c)->∃ c,(Y8 env ns j').lookup x=some c
 | [],j',x,h,_=>by cases h
 | (n,k) :: r,j',x,h,hc=>by
  rcases Ar h with e | h
  ·cases e
   obtain ⟨c,hc⟩:=hc;unfold Y8;rw [if_pos (show (NameKind.free == NameKind.free)=true by decide),hc];exact Jr r _ n ⟨c,by rw [lookup_cons,beq_self_eq_true]⟩
  ·unfold Y8
   split
   ·cases e:env.cells.lookup n with
    | none=>exact Qw r j' x h hc
    | some c=>exact Qw r _ x h hc
   ·exact Qw r j' x h hc
theorem O2 {env:Env} (f:Str × NameKind->List (Str × Addr)->Sem (ForInStep (List (Str × Addr))))
  (hf:∀ name kind cs,f (name,kind) cs=if (kind == NameKind.free)=true then (do let a <- cellOf env name; pure (.yield ((name,a) :: cs))) else pure (.yield cs)) :
  ∀ (ns:List (Str × NameKind)) (j':List (Str × Addr)),(∀ y∈ns,y.2=.free->∃ c,env.cells.lookup y.1=some c)->forIn ns j' f=pure (Y8 env ns j')
 | [],j',_=>by rw [forIn_nil]; rfl
 | (n,k) :: r,j',h=>by
  rw [forIn_cons,hf];unfold Y8;have hr:∀ y∈r,y.2=.free->∃ c,env.cells.lookup y.1=some c:=λy hy=>h y (mem_cons_of_mem _ hy);split
  ·rename_i hk
   obtain ⟨c,hc⟩:=h (n,k) mem_cons_self (by simpa using hk);have t5:env.cells.lookup n=some c:=hc;have e:cellOf env n=pure c:=by unfold cellOf; rw [t5]
   rw [e,t5];exact O2 f hf r ((n,c) :: j') hr
  ·exact O2 f hf r j' hr
def Qv {env:Env} {scope:Scope} (h:∀ y∈scope.names,y.2=.free->∃ c,env.cells.lookup y.1=some c):closureFor scope env=pure (Y8 env scope.names []):=by
 unfold closureFor;dsimp only;rw [O2 (env:=env) _ (λname kind cs=>by split <;> rfl) scope.names [] h];rfl
theorem Qe (env:Env):∀ (names:List (Str × NameKind)) (x:Str),
  (names.map λ(n,k)=>if (B:) then (n,NameKind.cell) else (n,k)).lookup x =
   (names.lookup x).map λk=>if (k == NameKind.free && env.scope.kind == .function && env.kindOf x == some .cell)=true then NameKind.cell else k
 | [],_=>rfl
 | (n,k) :: r,x=>by
  have ih:=Qe env r x;have e:(if (B:)=true then (n,NameKind.cell) else (n,k))=(n,if (B:)=true then NameKind.cell else k):=by split <;> rfl
  show List.lookup x ((if (B:)=true then (n,NameKind.cell) else (n,k)) :: _)=_;rw [e,lookup_cons,lookup_cons]
  cases hx:x == n with
  | true =>
   have e2:x=n:=beq_iff_eq.mp hx;subst e2;rfl
  | false=>exact ih
def K4 {env:Env} {names:List (Str × NameKind)} (hc:∀ y∈names,y.2≠.cell)
  (h:(names.map λ(n,k)=>if (B:) then (n,NameKind.cell) else (n,k)).lookup x=some k) (hk:k=.cell\/k=.free):names.lookup x=some .free:=by
 rw [Qe] at h
 cases e:names.lookup x with
 | none=>rw [e] at h; cases h
 | some k' =>
  rw [e] at h;have sg:k'≠.cell:=hc _ (PySem.mem_of_lookup e);have h':(if (k' == NameKind.free && env.scope.kind == .function && env.kindOf x == some .cell)=true then NameKind.cell else k')=k:=Ax h;split at h'
  ·rename_i q
   simp only [Bool.and_eq_true,beq_iff_eq] at q;rw [q.1.1]
  ·subst h'
   rcases hk with z | z
   ·exact absurd z sg
   ·rw [z]
def Za6 {env:Env} {names:List (Str × NameKind)} (h:names.lookup x=some .free) :
  (names.map λ(n,k)=>if (B:) then (n,NameKind.cell) else (n,k)).lookup x≠some .local:=by
 rw [Qe,h];intro z;have z':(if (NameKind.free == NameKind.free && env.scope.kind == .function && env.kindOf x == some .cell)=true then NameKind.cell else NameKind.free)=.local:=Ax z;split at z' <;> cases z'
noncomputable def Yh (X:Cx) (N':List Str) (scope:Scope) (C:Addr) (s₀:Shared) (H₀:Hp) (ex:List Addr):Cx :=
 { X with N:=N',s₀:=s₀,H₀:=H₀,env:=compEnvC scope (Y8 X.env scope.names []) C X.env,outer:=X.stack,ex:=ex,fn:=λ_=>false,pn:=[],xe:=λ_ _=>False }
def FvOk (X:Cx) (scope:Scope):List (Str × Nat)->Prop
 | []=>True
 | (x,j) :: r=>(X.N[j]?=some x/\scope.names.lookup x=some .free/\(X.env.kindOf x=some .cell\/X.env.kindOf x=some .free))/\FvOk X scope r
theorem FvOk.mem {X:Cx} {scope:Scope}:∀ {l:List (Str × Nat)},FvOk X scope l->∀ y∈l,X.N[y.2]?=some y.1/\scope.names.lookup y.1=some .free/\(X.env.kindOf y.1=some .cell\/X.env.kindOf y.1=some .free)
 | [],_,_,h=>by cases h
 | (x,j) :: r,h,y,hy=>by
  rcases Ar hy with e | hy
  ·cases e; exact h.1
  ·exact FvOk.mem h.2 y hy
noncomputable def blkN (ts:List Str) (fv:List (Str × Nat)):List Str:=ts ++ fv.map (·.1)
noncomputable def blkS (ts:List Str) (fv:List (Str × Nat)) (σ:St):St:=ts.map (λ_=>none) ++ fv.map λy=>(σ[y.2]?).join
structure BlkOk (X:Cx) (scope:Scope) (fv:List (Str × Nat)):Prop where
 kind:scope.kind=.function
 nocell:∀ y∈scope.names,y.2≠.cell
 names:∀ y∈scope.names,y.2=.local->scope.names.lookup y.1=some .local
 free:∀ y∈scope.names,y.2=.free->X.env.kindOf y.1=some .cell\/X.env.kindOf y.1=some .free
 fvs:FvOk X scope fv
section
variable {X:Cx} {j5:List (n:)} {σ:St} {H:Hp} {s:Shared} {scope:Scope} {ts:List Str} {fv:List (Str × Nat)}
def Zdr {h':Heap} {tk:Nat} (B:BlkOk X scope fv) (I:Inv X j5 σ H s) (hf:∀ b∈fp,FpOk X j5 H b) (ho:∀ b∈fp,∃ o,s.heap.get? b=some o)
  (hn:h'.Ns s.heap.objs.size (λ_=>none)) (hk:∀ b o,s.heap.get? b=some o->h'.get? b=some o) :
  Inv (Yh X (Y:) scope s.heap.objs.size s H fp) [] (blkS ts fv σ) H { s with heap:=h',toks:=tk }:=by
 have has:∀ y∈scope.names,y.2=.free->∃ c,X.env.cells.lookup y.1=some c:=λy hy e=>I.ok.has y.1 (B.free y hy e);have y7:∀ x c,(Y8 X.env scope.names []).lookup x=some c->X.env.cells.lookup x=some c:=Jq _ _ (λx c h=>by simp at h);have fr:∀ x,(scope.names.lookup x=some .free)->∃ c,(Y8 X.env scope.names []).lookup x=some c:=λx hx =>
  Qw _ _ x (PySem.mem_of_lookup hx) (has _ (PySem.mem_of_lookup hx) rfl)
 have nfs:∀ b∈fp,b ∉ frs X.stack:=λb hb z=>by
  obtain ⟨_,h1,h2,_⟩:=hf b hb
  rcases Ar (I.stkSub b z) with e | e
  ·exact h1 e
  ·exact h2 e
 have lt:∀ b∈fp,b < s.heap.objs.size:=λb hb=>let ⟨o,e⟩:=ho b hb; Ao e
 refine ⟨⟨I.ok.mod,?_,I.ok.glob,I.ok.blt,An _,λx y c h1 h2=>I.ok.inj x y c (y7 x c h1) (y7 y c h2),λx hx=>?_,λ_ _ h=>absurd (show false=true from h) Bool.false_ne_true,I.ok.hd,I.ok.frames,.inl Y,λb hb=>⟨As (lt b hb),λx c e=>(hf b hb).2.2.2.2.1 x c (y7 x c e)⟩,I.bs,Nat.le_trans I.ok.bsz I.sz,λb o e hb=>?_,nfs,I.stack,I.stkFree⟩,
  rfl,I.bare,Un.kept hk,⟨_,hn,λi x v h1 h2 h3=>?_⟩,λx c e=>?_,I.fresh,λx c e=>I.freeC x c (y7 x c e),λp hp=>?_,I.hok.kept hk,?_⟩
 ·exact B.kind
 ·refine fr x ?_
  have n9:(relabel scope X.env).names.lookup x=some .cell\/(relabel scope X.env).names.lookup x=some .free:=hx
  rcases n9 with e | e
  ·exact K4 B.nocell e (.inl Y)
  ·exact K4 B.nocell e (.inr Y)
 ·rcases (hf b hb).2.2.2.1 with z | z
  ·exact I.ok.noex b o e z
  ·exact absurd (Ag (Ao e) (Nat.le_trans I.ok.bsz z)) (Nat.lt_irrefl _)
 ·have h1:(ts ++ fv.map (·.1))[i]?=some x:=h1
  have h2:(ts.map (λ_=>(none:Option V)) ++ fv.map λy=>(σ[y.2]?).join)[i]?=some (some v):=h2;by_cases hi:i < ts.length
  ·rw [Av (by simpa using hi),Ah] at h2
   cases e:ts[i]? with
   | none=>rw [e] at h2; cases h2
   | some z=>rw [e] at h2; cases h2
  ·rw [getElem?_append_right (by simpa using hi),Ab,Ah] at h2
   rw [getElem?_append_right (by simpa using hi),Ah] at h1
   cases e:fv[i - ts.length]? with
   | none=>rw [e] at h2; cases h2
   | some y =>
    rw [e] at h1 h2;have e1:y.1=x:=by simpa using h1
    have e2:(σ[y.2]?).join=some v:=by simpa using h2
    obtain ⟨f1,f2,f3⟩:=B.fvs.mem y (Au e)
    have e3:σ[y.2]?=some (some v):=by
     cases q:σ[y.2]? with
     | none=>rw [q] at e2; cases e2
     | some z=>rw [q] at e2; exact congrArg some e2
    obtain ⟨m,hm,hl⟩:=I.loc;obtain ⟨u,r,l⟩:=hl y.2 y.1 v f1 e3 (by rcases f3 with z | z; exact .inr (.inl z); exact .inr (.inr z));rw [e1] at f2 f3 l;refine ⟨u,r,?_⟩;obtain ⟨c,hc⟩:=fr x f2;have t5:=y7 x c hc
    rcases l with ⟨l1,_⟩ | ⟨_,c2,l2,l3⟩
    ·rcases f3 with z | z
     ·rw [l1] at z; cases z
     ·rw [l1] at z; cases z
    ·rw [t5] at l2
     cases l2;have hv:Vis (relabel scope X.env) x:=h3
     rcases hv with z | z | z
     ·exfalso
      exact Za6 f2 z
     ·exact .inr ⟨.inl z,c,hc,l3.keeps hk⟩
     ·exact .inr ⟨.inr z,c,hc,l3.keeps hk⟩
 ·obtain ⟨v,z⟩:=I.cell x c (y7 x c e)
  exact ⟨v,z.keeps hk⟩
 ·exact absurd (show p∈([]:List (n:)) from hp) (by simp)
 ·show (ts.map (λ_=>(none:Option V)) ++ fv.map λy=>(σ[y.2]?).join).length=(ts ++ fv.map (·.1)).length
  simp
def Inv.apart (I:Inv X j5 σ H s) (hs:Heap.SameBut C s.heap h') (hC:H C=none) (h0:X.s₀.heap.objs.size<=C) (hL:C≠X.env.locals) (hc:∀ x c,X.env.cells.lookup x=some c->c≠C) (hp:∀ p∈X.pn ++ j5,p.1≠C) :
  Inv X j5 σ H { s with heap:=h' } :=
 I.turned (t':=s.toks) (it:=C) (λb o hb e=>(hs.2 b hb).trans e) hC hL (.inr h0) hc hp
def Zi0 (I:Inv X j5 σ H s) (hf:∀ b∈fp,FpOk X j5 H b) (hC:s.heap.objs.size<=C)
  (J:Inv (Yh X N' scope C s H fp) [] σ' H' s'):Inv X j5 σ H' s'/\H' C=none/\X.s₀.heap.objs.size<=C/\C≠X.env.locals/\(∀ x c,X.env.cells.lookup x=some c->c≠C)/\(∀ p∈X.pn ++ j5,p.1≠C):=by
 refine ⟨I.call' J.os J.base J.hok J.bare λb hb=>?_,J.free,Nat.le_trans I.sz hC,Nat.ne_of_gt (Ag I.lt hC),λx c e z=>?_,λp hp z=>?_⟩
 ·obtain ⟨_,h1,_,h3,h4,h5⟩:=hf b hb
  exact ⟨h3,h1,h4,h5⟩
 ·obtain ⟨v,q⟩:=I.cell x c e
  exact absurd (Ag q.lt (by rw [z]; exact hC)) (Nat.lt_irrefl _)
 ·exact absurd (Ag (Ao (I.pin p hp).1) (by rw [z]; exact hC)) (Nat.lt_irrefl _)
end
abbrev TB:=St->Hp->(St->Hp->Prop)->Prop
def PTs (X:Cx) (ifs:List Expr) (t:TT):Prop :=
 ∀ j5 s σ H (Q:Bool->Hp->Prop),Inv X j5 σ H s->t σ H Q ->
  wpAny (e:) X.A (forIn ifs true λc r=>if r=true then do let ok <- isTrue c X.env (eval c X.env); pure (ForInStep.yield ok) else pure (ForInStep.yield r)) (TP X j5 σ Q) X.xe s
def tYes:TT:=λ_ H Q=>Q true H
def Yi:PTs X [] tYes:=λj5 s σ H Q I h=>wpAny_tests_nil ⟨H,I,h⟩
def Ju (h:PT X c t):PTs X [c] t:=λj5 s σ H Q I hq=>wpAny_tests_one (h j5 s σ H Q I hq)
def PB (X:Cx) (lh:Sem Fin) (c:Code) (t:TB):Prop :=
 ∀ j5 s σ H (N:St->Hp->Prop),Inv X j5 σ H s->t σ H N ->
  wpAny (e:) X.A lh (λlc s'=>lc=.again c/\∃ σ' H',Inv X j5 σ' H' s'/\N σ' H') X.xe s
def Ji (J:It) (g:TG) (tt:TT) (tb:TB) (R:St->Hp->Prop) (σ:St) (H:Hp):Prop :=
 ∃ W:Nat->Nat->St->Hp->Prop,(∃ m,W 0 m σ H)/\∀ i m σ H,W i m σ H ->
  (J.stop i H/\R σ H)\/(J.go i H/\∃ N:St->Hp->Prop,(q:) /\
   ∀ x H',J.yld i H x H'->g x σ H' λσ2 H2=>tt σ2 H2 λb H3=>if b=true then tb σ2 H3 N else N σ2 H3)
section
variable {X:Cx}
theorem Gj {s:Shared} (xo:X.xe=λ_ _=>False)
  (hcq:Code.quiet (.compLoop e d (.ref it) j' X.env)=true) (hden:(e:).den (.compLoop e d (.ref it) j' X.env)=(compTurn e d (.ref it) j' X.env).onRaise (λx=>do noteFrame x X.env; theTreesLotGoes x))
  (hund:X.A.under (.compLoop e d (.ref it) j' X.env)=X.A)
  (rc:compTurn e d (.ref it) j' X.env=(standAt p >>= λ_=>pyNext (.ref it) >>= λr=>match r with
   | none=>pure (.done .next)
   | some v=>letOwnedTupleGo tg (.ref it) v >>= λ_=>assign tg X.env v >>= λ_ =>
    (forIn ifs true λc r=>if r=true then do let ok <- isTrue c X.env (eval c X.env); pure (ForInStep.yield ok) else pure (ForInStep.yield r)) >>= λok =>
     if ok=true then lh else again (.compLoop e d (.ref it) j' X.env)))
  (T:Turn X.prog X.w X.K tg J fp it tn) (hc:X.calm=true) (hg:PG X tg g) (ht:PTs X ifs tt) (hb:PB X lh (.compLoop e d (.ref it) j' X.env) tb)
  (hf:∀ b∈fp,FpOk X j5 H b) (I:Inv X j5 σ H s) (st:tn 0 s.heap) (h:Ji J g tt tb R σ H)
  (hR:∀ s' σ' H',Inv X j5 σ' H' s'->R σ' H'->RR (.ok .next) s') :
  codeAny (e:) X.A (.compLoop e d (.ref it) j' X.env) RR s:=by
 obtain ⟨W,⟨m0,w0⟩,p8⟩:=h;have mr:∀ {H':Hp},(∀ b∈fp,H' b=none)->∀ b∈fp,FpOk X j5 H' b:=λhn b hb=>⟨hn b hb,(hf b hb).2⟩;refine codeAny_loop hcq (λn s'=>∃ i σ' H',Inv X j5 σ' H' s'/\tn i s'.heap/\(∀ b∈fp,H' b=none)/\W i n σ' H') ?_ m0 ⟨0,σ,H,I,st,λb hb=>(hf b hb).1,w0⟩;rintro n s3 ⟨i,σ3,H3,I3,oj,wv,w3⟩;rw [hden,hund];refine wpAny_noted (wpAny_mono (E:=λ_ _=>False) ?_ (λ_ _ q=>q) λ_ _ z=>z.elim);rw [rc];have hxe':∀ {α:Type} {t:Sem α} {Q:α->Shared->Prop} {s:Shared},wpAny (e:) X.A t Q X.xe s->wpAny (e:) X.A t Q (λ_ _=>False) s:=λh=>by rw [xo] at h; exact h
 refine Al (wpAny_standAt (Al ?_))
 rcases p8 i n σ3 H3 w3 with ⟨stop,qn⟩ | ⟨go,N,hN,step⟩
 ·refine thn (T.done X rfl rfl rfl hc i j5 s3 σ3 H3 _ I3 (mr wv) oj stop) λr s4 ⟨hr,I4⟩=>?_
  subst hr;exact wpAny_pure (hR s4 σ3 H3 I4 qn)
 ·refine thn (T.item X rfl rfl rfl hc i j5 s3 σ3 H3 _ I3 (mr wv) oj go) λr s4 ⟨u,hr,h4⟩=>?_
  subst hr;refine Al (thn h4 λ_ s5 kc=>?_);obtain ⟨x,H5,I5,r5,y5,sv,fr5⟩:=kc;have I5':=I5.pinned (mr fr5) (T.obj _ _ sv);refine Al (hxe' (thn (hg _ s5 σ3 H5 x u _ I5' r5 (step x H5 y5)) λ_ s6 kc=>?_));obtain ⟨σ6,H6,I6,q6⟩:=kc;refine Al (xo ▸ thn (ht _ s6 σ6 H6 _ I6 q6) λok s7 kc=>?_);obtain ⟨H7,I7,q7⟩:=kc;have back:∀ {σ7:St} {H7:Hp} {s7:Shared},Inv X (j5 ++ Oc fp s5.heap) σ7 H7 s7->N σ7 H7->∃ m,m < n/\∃ i σ' H',Inv X j5 σ' H' s7/\tn i s7.heap/\(∀ b∈fp,H' b=none)/\W i m σ' H':=λ{σ7 H7 s7} I7 n7=>by
   obtain ⟨m',hm,w7⟩:=hN σ7 H7 n7
   refine ⟨m',hm,i + 1,σ7,H7,I7.unpinned,T.keep _ _ _ sv λb hb o e=>(P:).1,λb hb=>?_,w7⟩
   obtain ⟨o,e,d⟩:=T.obj _ _ sv b hb
   exact (P:).2.1
  cases ok with
  | false=>exact xo ▸ wpAny_pure ⟨Y,back I7 q7⟩
  | true =>
   refine thn (hb _ s7 σ6 H7 N I7 q7) λlc s8 kc=>?_;obtain ⟨hfin,σ8,H8,I8,q8⟩:=kc;subst hfin;exact ⟨Y,back I8 q8⟩
def Zi7 (te:TE) (D:Addr):TB:=λσ H N=>te σ H λv H1=>∃ xs,H1 D=some (.lst xs)/\xs.length < sizeLine/\N σ (upd H1 D (.lst (xs ++ [v])))
def Yj (he:PE X mf te) :
  PB X ((eval mf X.env >>= λx=>call (.builtin "list.append") [.ref D,x] >>= λ_=>pure ()) >>= λ_=>again c) c (Zi7 te D):=by
 intro j5 s σ H N I h;refine Al (Al (thn (he j5 s σ H _ I h) λu s1 kc=>?_));obtain ⟨v,H1,I1,r1,q1⟩:=kc;obtain ⟨xs,hD,hl,q⟩:=q1;refine Al (thn (Y6 j5 s1 σ H1 (.ref D) [v] (.ref D) [u] (λ_ H2=>N σ H2) I1 Y (.cons r1 .nil) ⟨D,xs,v,Y,Y,hD,hl,q⟩) λ_ s2 kc=>?_);obtain ⟨_,H2,I2,_,q2⟩:=kc;exact wpAny_pure (wpAny_pure ⟨Y,σ,H2,I2,q2⟩)
def tGen (wi:TI) (g:TG) (tt:TT) (tb:TB):TB:=λσ H N=>wi σ H λJ H1=>Ji J g tt tb N σ H1
def Zj6 {t0 i0:Expr} {f0:List Expr} {t1 i1:Expr} {f1:List Expr}
  (h0:codeAny (a0:) A (.compLoop (L:) 1 it j' env) R s)
  (h:wpAny (a0:) A (pyIter it) (λit' s'=>codeAny (a0:) A (.compLoop (L:) 1 it' j' env) R s')
   (notedBy (a0:) A env λx s'=>R (.error x) s') s) :
  codeAny (a0:) A (.compStart (L:) 1 it j' env) R s:=by
 refine codeAny_of_tree ?_;show wpAny _ _ ((compStart (L:) 1 it j' env).onRaise (λx=>do noteFrame x env; standAt theWindowsPlace)) _ _ s;refine wpAny_notedAt ?_;unfold compStart;show wpAny _ _ (ask >>= _) _ _ s;refine Al (wpAny_askSetting (wpAny_ite ?_));split
 ·first
   | exact Al (wpAny_pure (wpAny_pure (And.intro Y h0)))
   | exact wpAny_pure (And.intro Y h0)
 ·first
   | exact Al (wpAny_rule (Al (wpAny_standAt (Al (wpAny_mono h (λit' s' h'=>wpAny_pure (And.intro Y h')) λ_ _ x=>x)))))
   | (refine Al (wpAny_rule ?_); show wpAny _ _ (standAt i1.pos >>= _) _ _ s; exact Al (wpAny_standAt (Al (wpAny_mono h (λit' s' h'=>wpAny_pure (And.intro Y h')) λ_ _ x=>x))))
def Zll {t0 i0 i1:Expr} {f0:List Expr} (xo:X.xe=λ_ _=>False) (hc:X.calm=true)
  (hi:PI X t1 i1 wi) (hg:PG X t1 g) (ht:PTs X f1 tt) (he:PE X mf te) (hs:∀ x,foldedSetIterable i1 X.env x=pure x:=by intro _; rfl) :
  PB X (eval i1 X.env >>= λx=>standAt i1.pos >>= λ_=>foldedSetIterable i1 X.env x >>= λx=>holding [x] (pyIter x) >>= λit =>
   runOwn (.compStart (L:) 1 it (.ref D) X.env) X.env >>= λ_=>again c) c (tGen wi g tt (Zi7 te D)):=by
 intro j5 s σ H N I h;refine Al (thn (hi j5 s σ H _ I h) λv s1 h1=>Al (wpAny_standAt ?_));rw [hs];refine Al (wpAny_pure (Al (wpAny_holding (thn h1 λze s2 h2=>?_))));obtain ⟨it,fp,tn,J,H2,e,I2,T,md,f2,L⟩:=h2;subst e;have loop:∀ (A:Around),A=X.A->codeAny (e:) A (.compLoop (L:) 1 (.ref it) (.ref D) X.env)
   (λr s'=>match r with | .ok f=>wpAny (e:) X.A (again c) (λlc s'=>lc=.again c/\∃ σ' H',Inv X j5 σ' H' s'/\N σ' H') X.xe s' | .error e=>cameBackBy (e:) X.A X.env X.xe e s') s2:=by
  rintro A rfl
  exact Gj (tg:=t1) (ifs:=f1) (R:=N) xo Y Y Y Y T hc hg ht (Yj (c:=.compLoop (L:) 1 (.ref it) (.ref D) X.env) he) f2 I2 md L λs' σ' H' I' q=>wpAny_pure ⟨Y,σ',H',I',q⟩
 refine Al (wpAny_runOwn (h:=none) ?_);exact Zj6 (loop _ Y) (T.self _ _ _ _ _ md (loop _ Y))
end
def Zi8 (ts:List Str) (fv:List (Str × Nat)) (wi:TI) (g:TG) (tt:TT) (tb:Addr->TB):TE:=λσ H Q=>wi σ H λJ H1=>∀ D,H1 D=none ->
 Ji J g tt (tb D) (λ_ H'=>Q (.ref D) H') (blkS ts fv σ) (upd H1 D (.lst []))
section
variable {X:Cx} {ts:List Str} {fv:List (Str × Nat)} {scope:Scope} {mf t0 i0:Expr} {f0:List Expr} {j7:List Comprehension} {pos:Pos} {wi:TI} {g:TG} {tt:TT} {tb:Addr->TB} {lh:Env->Addr->Addr->Sem Fin}
theorem Zdo (B:BlkOk X scope fv) (hc:X.calm=true) (hi:PI X t0 i0 wi)
  (hg:∀ C s₀ H₀ ex,PG (f:) t0 g) (ht:∀ C s₀ H₀ ex,PTs (f:) f0 tt)
  (rc:∀ (env:Env) (it D:Addr),compTurn (m:) 0 (.ref it) (.ref D) env=(standAt i0.pos >>= λ_=>pyNext (.ref it) >>= λr=>match r with
   | none=>pure (.done .next)
   | some v=>letOwnedTupleGo t0 (.ref it) v >>= λ_=>assign t0 env v >>= λ_ =>
    (l:) >>= λok =>
     if ok=true then lh env it D else again (.compLoop (m:) 0 (.ref it) (.ref D) env)))
  (hb:∀ C s₀ H₀ ex it D,PB (f:) (lh (f:).env it D) (.compLoop (m:) 0 (.ref it) (.ref D) (f:).env) (tb D)) {RR:Value->Addr->Result->Shared->Prop} (I:Inv X j5 σ H s) (h:Zi8 ts fv wi g tt tb σ H Q)
  (hRR:∀ D C s' H',Inv X j5 σ H' s'->H' C=none->X.s₀.heap.objs.size<=C->C≠X.env.locals->(∀ x c,X.env.cells.lookup x=some c->c≠C)->(∀ p∈X.pn ++ j5,p.1≠C)->(∃ m,s'.heap.Ns C m)->Q (.ref D) H'->RR (.ref D) C (.ok .next) s') :
  wpAny (e:) X.A (eval i0 X.env) (λx s₁=>wpAny (e:) X.A (pyIter x) (λit s₂=>wpAny (e:) X.A (newList []) (λj' s₃ =>
   wpAny (e:) X.A (newFunctionEnv scope X.env.globals (Y8 X.env scope.names []) [] X.env.qual none .none (some X.env)) (λud s₄ =>
    codeAny (e:) X.A (.compStart (m:) 0 it j' { ud with scope:=relabel scope X.env }) (RR j' ud.locals) s₄) X.xe s₃) X.xe s₂) X.xe s₁) X.xe s:=by
 refine thn (hi j5 s σ H _ I h) λv s1 h1=>thn h1 λze s2 h2=>?_;obtain ⟨it,fp,tn,J,H2,e,I2,T,md,f2,L⟩:=h2;subst e;have L:=L s2.heap.objs.size I2.fresh;refine wpAny_newObj_type ?_;have I3:Inv X j5 σ (upd H2 s2.heap.objs.size (.lst [])) { s2 with heap:=s2.heap.push { cls:=.type "list",data:=.seq ([]:List Value).toArray },toks:=s2.toks }:=I2.lnew (its:=[]) (t':=s2.toks) .nil (Az _);have yb:∀ b∈fp,∃ o,s2.heap.get? b=some o/\∀ v,o.data≠.cell v:=T.obj _ _ md;have f3:∀ b∈fp,FpOk X j5 (upd H2 s2.heap.objs.size (.lst [])) b:=λb hb=>by
  obtain ⟨o,ho,_⟩:=yb b hb
  refine ⟨?_,(f2 b hb).2⟩
  rw [Zd (As (Ao ho))]
  exact (f2 b hb).1
 have oj:tn 0 (s2.heap.push { cls:=.type "list",data:=.seq ([]:List Value).toArray }):=T.keep _ _ _ md λb _ o e=>Ak _ e;have r6:∀ b∈fp,∃ o,(s2.heap.push { cls:=.type "list",data:=.seq ([]:List Value).toArray }).get? b=some o:=λb hb=>let ⟨o,e,_⟩:=yb b hb; ⟨o,Ak _ e⟩
 generalize hs3:({ s2 with heap:=s2.heap.push { cls:=.type "list",data:=.seq ([]:List Value).toArray },toks:=s2.toks }:Shared)=s3 at I3;have eh:s2.heap.push { cls:=.type "list",data:=.seq ([]:List Value).toArray }=s3.heap:=by rw [<- hs3]
 rw [eh] at oj r6;refine wpAny_newFunctionEnv B.nocell (by intro y hy; simp at hy) (λh₁ yc rl=>?_) B.kind;have hk:∀ b o,s3.heap.get? b=some o->h₁.get? b=some o:=λb o e=>rl.extBut b o (As (Ao e)) (Ak _ e);have I4:=Zdr (ts:=ts) (tk:=s3.toks + ([]:List (Str × Value)).length) B I3 f3 r6 yc hk;have f4:∀ b∈fp,FpOk (Yh X (Y:) scope s3.heap.objs.size s3 (upd H2 s2.heap.objs.size (.lst [])) fp) [] (upd H2 s2.heap.objs.size (.lst [])) b:=λb hb=>by
  obtain ⟨f0,f1,f2',f3',f4',f5'⟩:=f3 b hb
  obtain ⟨o,eo⟩:=r6 b hb
  exact ⟨f0,As (Ao eo),I4.ok.exfs b hb,.inl hb,(I4.ok.exf b hb).2,λp hp=>absurd (show p∈([]:List (n:)) from hp) (by simp)⟩
 have xc:tn 0 h₁:=T.keep _ _ _ oj λb _ o e=>hk b o e;have loop:codeAny (e:) X.A (.compLoop (m:) 0 (.ref it) (.ref s2.heap.objs.size) (Yh X (Y:) scope s3.heap.objs.size s3 (upd H2 s2.heap.objs.size (.lst [])) fp).env)
   (RR (.ref s2.heap.objs.size) s3.heap.objs.size) { s3 with heap:=h₁,toks:=s3.toks + ([]:List (Str × Value)).length }:=by
  refine Gj (X:=Yh X (Y:) scope s3.heap.objs.size s3 (upd H2 s2.heap.objs.size (.lst [])) fp) (tg:=t0) (ifs:=f0) (R:=λ_ H'=>Q (.ref s2.heap.objs.size) H') Y Y Y Y (rc _ it s2.heap.objs.size) T hc (hg _ _ _ _) (ht _ _ _ _) (hb _ _ _ _ it s2.heap.objs.size) f4 I4 xc L λs' σ' H' J' q=>?_
  obtain ⟨e1,e2,e3,e4,e5,e6⟩:=Zi0 I3 f3 (An _) J'
  obtain ⟨m,hm,_⟩:=J'.loc
  exact hRR _ _ s' H' e1 e2 e3 e4 e5 e6 ⟨m,hm⟩ q
 exact codeAny_compStart_list loop (T.self _ _ _ _ _ xc loop)
theorem Yv (B:BlkOk X scope fv) (hc:X.calm=true) (hi:PI X t0 i0 wi)
  (hg:∀ C s₀ H₀ ex,PG (f:) t0 g) (ht:∀ C s₀ H₀ ex,PTs (f:) f0 tt)
  (rc:∀ (env:Env) (it D:Addr),compTurn (m:) 0 (.ref it) (.ref D) env=(standAt i0.pos >>= λ_=>pyNext (.ref it) >>= λr=>match r with
   | none=>pure (.done .next)
   | some v=>letOwnedTupleGo t0 (.ref it) v >>= λ_=>assign t0 env v >>= λ_ =>
    (l:) >>= λok =>
     if ok=true then lh env it D else again (.compLoop (m:) 0 (.ref it) (.ref D) env)))
  (hb:∀ C s₀ H₀ ex it D,PB (f:) (lh (f:).env it D) (.compLoop (m:) 0 (.ref it) (.ref D) (f:).env) (tb D))
  (hs:∀ x,foldedSetIterable i0 X.env x=pure x:=by intro _; rfl) :
  PE X (m:) (Zi8 ts fv wi g tt tb):=by
 intro j5 s σ H Q I h;rw [eval_ListComp];refine wpAny_comprehension_free (use:=none) Y hs (Qv λy hy e=>I.ok.has y.1 (B.free y hy e)) B.kind B.names ?_;refine Zdo (RR:=λj' C=>compPost (e:) X.A X.xe none (EP X j5 σ Q) j' C) B hc hi hg ht rc hb I h λD C s' H' I' e2 e3 e4 e5 e6 hm q=>?_;obtain ⟨m,hm⟩:=hm;exact ⟨m,hm,λh' xv=>⟨.ref D,H',I'.apart xv e2 e3 e4 e5 e6,Y,q⟩⟩
theorem Xv {t8:Pos} (B:BlkOk X scope fv) (hc:X.calm=true) (hN:X.N.Nodup) (hiy:X.N[i]?=some y) (wj:X.env.scope.names.lookup y=some .local)
  (hsw:swapsWith (m:) (some (.Name y py)) t8.line X.env=pure true) (hi:PI X t0 i0 wi)
  (hg:∀ C s₀ H₀ ex,PG (f:) t0 g) (ht:∀ C s₀ H₀ ex,PTs (f:) f0 tt)
  (rc:∀ (env:Env) (it D:Addr),compTurn (m:) 0 (.ref it) (.ref D) env=(standAt i0.pos >>= λ_=>pyNext (.ref it) >>= λr=>match r with
   | none=>pure (.done .next)
   | some v=>letOwnedTupleGo t0 (.ref it) v >>= λ_=>assign t0 env v >>= λ_ =>
    (l:) >>= λok =>
     if ok=true then lh env it D else again (.compLoop (m:) 0 (.ref it) (.ref D) env)))
  (hb:∀ C s₀ H₀ ex it D,PB (f:) (lh (f:).env it D) (.compLoop (m:) 0 (.ref it) (.ref D) (f:).env) (tb D))
  (hs:∀ x,foldedSetIterable i0 X.env x=pure x:=by intro _; rfl) :
  PS X (.Assign [.Name y py] (m:) t8) (tAsg (Zi8 ts fv wi g tt tb) (Zo i)):=by
 intro j5 s σ H D0 I h;rw [exec_Assign_Name_used _ _ _ _ hsw];refine Al (wpAny_standAt (Al ?_));show wpAny _ X.A (do let _ <- comprehension (m:) scope X.env _ (newList []) false (eval i0 X.env) (some (assign (.Name y py) X.env))) _ _ s;refine Al (ax:);refine Zdo (Q:=λx H1=>Zo i x σ H1 D0.nx) (RR:=λj' C=>compPost (e:) X.A X.xe (some (assign (.Name y py) X.env)) (λ_ s'=>SP X j5 D0 .next s') j' C) B hc hi hg ht rc hb I h λD C s' H' I' e2 e3 e4 e5 e6 hm q=>?_;obtain ⟨m,hm⟩:=hm;show wpAny _ X.A (assign (.Name y py) X.env (.ref D)) _ _ _;refine wpAny_assign_Name (Kl I' hN hiy (.inl wj) (show RelV (.ref D) (.ref D) from Y) (λpi I'' qq=>?_) (.inr wj));obtain ⟨a,rl,ha⟩:=qq;have haC:C≠a:=by
  rcases ha with e | e
  ·rw [e]; exact e4
  ·exact λz=>e5 y a e z.symm
 exact ⟨m,hm.sameBut rl haC,λh' xv=>⟨_,H',I''.apart xv e2 e3 e4 e5 e6,q⟩⟩
end
def FlyT (e T:Addr) (cls a0:Value) (h:Heap):Prop :=
 ∃ oe vs oT ts,h.get? e=some oe/\(oe.cls=cls/\vs[0]?=some a0)/\oe.data=.fields vs/\vs[1]?=some (.ref T)/\T≠e/\h.get? T=some oT/\oT.data=.fields ts/\ts[3]?=some .none
def CXr (P:Program) (w:World):CXT:=λouter H s E ev s' =>
 ∃ (e T:Addr) (cls a0:Value) (H':Hp),ev=.ref e/\s'.os=s.os/\AllBare s'.gens/\Un (frs outer) [] H H' s.heap s'.heap/\HOk P w H' s'.heap /\
  s.heap.get? e=none/\s.heap.get? T=none/\H' e=none/\H' T=none/\FlyT e T cls a0 s'.heap/\E cls none H'
def Z1 {X:Cx}:Ug (CXr X.prog X.w) X E0:=λ_ _ _ _ _ _ _ h=>by
 obtain ⟨_,_,_,_,_,_,_,_,_,_,_,_,_,_,_,z⟩:=h;exact z.elim
def Zqo (h:CXr P w [] H s (λ_ _ _=>False) e s'):False:=by
 obtain ⟨_,_,_,_,_,_,_,_,_,_,_,_,_,_,_,z⟩:=h;exact z
section
variable {P:Program} {w:World} {K:W.Frag} {mg:Str->Option Value} {base:Heap}
def Fun.okR {x qual:Str} {st:Stmt} {f:Addr} {fd:FuncData} {N ps:List Str} {k:Nat} {sp:Sp} (F:Fun K x qual st f fd) (S:FnScope N ps (Zg st)) (len:∀ vs H Q E,sp vs H Q E->vs.length=ps.length)
  (ll:∀ (kn:Value) (A:Around) (outer:List Env) (s:Shared) (H:Hp) (vs:List V) (Q:VK) (E:XK),Room k (a7:)->sp vs H Q E ->
   ∃ t,PSs (T:).nox (Y4 st) t/\t { nx:=λ_ H'=>Q .non H',rt:=Q } (start N vs) H):(a:) (k + 1) f fd ps sp:=by
 obtain ⟨oc,od,kV,k7,pm,an,kn,ct,ut,rfl,lk,p6⟩:=F.ex;refine Zj4 lk p6 S len λA outer s H vs Q E hr mm=>?_;obtain ⟨t,h,q⟩:=ll kn A outer s H vs Q E hr mm;exact ⟨t,h.nox,q⟩
end
section
variable {X:Cx}
def Zhx:Xi X (.builtin "isinstance") (λxs H Q=>∃ x T t b,xs=[x,.ty T]/\TyOf X.K H x t/\PySem.W.kitOne X.K t (.type T)=some b/\Q (.bl b) H):=by
 intro j5 s σ H xs us Q I r h;obtain ⟨x,T,t,b,rfl,hty,hk,q⟩:=h;obtain ⟨u,v,rfl,ru,rv⟩:=r.two;obtain rfl:v=Value.type T:=rv;exact Zma I ru hty hk λtk=>⟨.bl b,H,I.tok _,Y,q⟩
def Zn3 {K:W.Frag} {T:String}:PySem.W.kitOne K (.type T) (.type T)=some true:=by
 unfold PySem.W.kitOne;rw [if_pos (by simp)]
def Yb {X:Cx} {scope:Scope} (h:scope.names.all (λy=>y.2 != .free || X.env.kindOf y.1 == some .cell || X.env.kindOf y.1 == some .free)=true) :
  ∀ y∈scope.names,y.2=.free->X.env.kindOf y.1=some .cell\/X.env.kindOf y.1=some .free:=λy hy e=>by
 have:=all_eq_true.mp h y hy;simp [e] at this;exact this
end
def walk_r {l:PySem.W.OpenLaw} {k:Nat} {q:Program} {qr:List Str} {XP:(Str->Option Value)->Heap->Prop} {YP:World->Heap->Prop} {d:DefRec} {K:Params->PySem.W.Frag} {spl:PySem.W.Frag->Sp}
  (hn:l.most=some 63) (hdf:d.params.defaults=[]) (hr:Room k callerA) (hY:∀ (w:World) (h:Heap),YP w h->(K w.params).In h)
  (mm:∀ (K:W.Frag) (H:Hp) (a:Addr) (ns:List Int),ns.length<=63->SqL K H a (H:)->spl K [.ref a] H (λv _=>v=.bl true) λ_ _ _=>False)
  (F:∀ (w:World) (mg:Str->Option Value) (fa:Addr) (h:Heap),(K w.params).In h->h.Ns mainGlobals mg->mg d.name=some (.ref fa) ->
   ∃ fd:FuncData,(∀ (s:Shared) (u:Value),BindsTo s fd ⟨[u],[]⟩ [("_law_script",u)]) /\
    ∀ base:Heap,(K w.params).In base->base.Ns mainGlobals mg->FnOk l.prog w (K w.params) mg base (CXr l.prog w) k fa fd ["_law_script"] (spl (K w.params))) :
  PySem.W.WalkO q qr XP YP l.row.toRowW d [] (λf vs=>PySem.call f vs) :=
 Zoz (n:=63) (k:=k) (x:="_law_script") (CX:=λw=>CXr l.prog w) (sp:=λw=>spl (K w.params)) hn (d:) hdf hr hY F (λw H a ns hl _ hS=>mm _ H a ns hl hS) (λw H s e s' h=>Zqo h)
def ExT (e:Addr) (T:Option Addr) (cls a0:Value) (h:Heap):Prop:=match T with
 | some T=>FlyT e T cls a0 h
 | none=>∃ oe vs,h.get? e=some oe/\(oe.cls=cls/\vs[0]?=some a0)/\oe.data=.fields vs/\vs[1]?=some .none
structure FxOk (X:Cx) (j5:List (n:)) (H:Hp) (b:Addr):Prop where
 nt:H b=none
 nl:b≠X.env.locals
 nf:b ∉ X.fs
 n0:X.s₀.heap.get? b=none
 nc:∀ x c,X.env.cells.lookup x=some c->c≠b
 np:∀ p∈X.pn ++ j5,p.1≠b
def XS (fr:Bool) (X:Cx) (j5:List (n:)) (R:Value->St->Hp->Prop) (ev:Value) (s':Shared):Prop :=
 ∃ (e:Addr) (T:Option Addr) (cls a0:Value) (σ':St) (H':Hp),ev=.ref e/\Inv X j5 σ' H' s'/\ExT e T cls a0 s'.heap/\FxOk X j5 H' e/\(∀ t,T=some t->FxOk X j5 H' t)/\(T=none->fr=true)/\R cls σ' H'
abbrev TSX:=Ends->(Value->St->Hp->Prop)->St->Hp->Prop
abbrev TEX:=St->Hp->VK->XK->Prop
def PSX (fr:Bool) (X:Cx) (st:Stmt) (t:TSX):Prop :=
 ∀ j5 s σ H (D:Ends) (R:Value->St->Hp->Prop),Inv X j5 σ H s->t D R σ H->wpAny (e:) X.A (exec st X.env) (SP X j5 D) (XS fr X j5 R) s
def PSsX (fr:Bool) (X:Cx) (st:List Stmt) (t:TSX):Prop :=
 ∀ j5 s σ H (D:Ends) (R:Value->St->Hp->Prop),Inv X j5 σ H s->t D R σ H->wpAny (e:) X.A (execs st X.env) (SP X j5 D) (XS fr X j5 R) s
def PEX (fr:Bool) (X:Cx) (e:Expr) (t:TEX):Prop :=
 ∀ j5 s σ H (Q:VK) (E:XK),Inv X j5 σ H s->t σ H Q E->wpAny (e:) X.A (eval e X.env) (EP X j5 σ Q) (XS fr X j5 λcls σ' H'=>σ'=σ/\E cls none H') s
section
variable {X:Cx} {fr:Bool}
def Ye {st:Stmt} {t:TS} (h:PS X st t) (hx:X.xe=(λ_ _=>False):=by rfl):PSX fr X st (λD _ σ H=>t D σ H):=λj5 s σ H D R I q=>by
 have:=h j5 s σ H D I q;rw [hx] at this;exact wpAny_mono this (λ_ _ z=>z) λ_ _ z=>z.elim
def Zlh {e:Expr} {t:TE} (h:PE X e t) (hx:X.xe=(λ_ _=>False):=by rfl):PEX fr X e (λσ H Q _=>t σ H Q):=λj5 s σ H Q E I q=>by
 have:=h j5 s σ H Q I q;rw [hx] at this;exact wpAny_mono this (λ_ _ z=>z) λ_ _ z=>z.elim
def Zi6 (t u:TSX):TSX:=λD R σ H=>t { D with nx:=u D R } R σ H
def Zy {st:Stmt} {j7:List Stmt} {t u:TSX} (h1:PSX fr X st t) (h2:PSsX fr X j7 u):PSsX fr X (st :: j7) (Zi6 t u):=by
 intro j5 s σ H D R I h;refine wpAny_execs_cons (thn (h1 j5 s σ H { D with nx:=u D R } R I h) λf s1 q=>?_)
 cases f with
 | next =>
  obtain ⟨σ',H',I',q⟩:=q;exact h2 j5 s1 σ' H' D R I' q
 | ret v=>exact q
 | brk=>exact q
 | cont=>exact q
def Z4 {st:Stmt} {t:TSX} (h1:PSX fr X st t):PSsX fr X [st] t:=by
 intro j5 s σ H D R I h;refine wpAny_execs_cons (thn (h1 j5 s σ H D R I h) λf s1 q=>?_)
 cases f with
 | next=>exact wpAny_execs_nil q
 | ret v=>exact q
 | brk=>exact q
 | cont=>exact q
def X1:PSsX fr X [] (λD _ σ H=>D.nx σ H):=λ_ _ σ H _ _ I h=>wpAny_execs_nil ⟨σ,H,I,h⟩
def tIfX (c:TT) (t u:TSX):TSX:=λD R σ H=>c σ H λb H1=>if b=true then t D R σ H1 else u D R σ H1
def W6 (hc:PT X c tc) (ha:PSsX fr X a t) (hb:PSsX fr X b u) (hx:X.xe=(λ_ _=>False):=by rfl):PSX fr X (.If c a b pos) (tIfX tc t u):=by
 intro j5 s σ H D R I h;have h0:=hc j5 s σ H _ I h;rw [hx] at h0;refine wpAny_If (wpAny_mono h0 (λd s1 zz29=>?_) λ_ _ z=>z.elim);obtain ⟨H1,I1,q1⟩:=zz29
 cases d with
 | true=>exact ha j5 s1 σ H1 D R I1 q1
 | false=>exact hb j5 s1 σ H1 D R I1 q1
def Zrc (te:TEX):TSX:=λD R σ H=>te σ H (λ_ H1=>D.nx σ H1) λcls _ H1=>R cls σ H1
def W7 {pos:Pos} (he:PEX fr X e te) (hs:swapsWith e none pos.line X.env=pure false:=by rfl):PSX fr X (.Expr e pos) (Zrc te):=by
 intro j5 s σ H D R I h;refine wpAny_Expr_any (wpAny_mono (he j5 s σ H _ _ I h) (λv s1 ⟨x,H1,I1,r1,q1⟩=>⟨σ,H1,I1,q1⟩) ?_) I.quiet hs;rintro ev s1 ⟨e,T,cls,a0,σ',H',h1,h2,h3,h4,h5,h7,rfl,h6⟩;exact ⟨e,T,cls,a0,σ',H',h1,h2,h3,h4,h5,h7,h6⟩
def Zso (te:TEX):TSX:=λD R σ H=>te σ H D.rt λcls _ H1=>R cls σ H1
def Zh9 {e:Expr} {te:TEX} {pos:Pos} (he:PEX fr X e te):PSX fr X (.Return (some e) pos) (Zso te):=by
 intro j5 s σ H D R I h;refine wpAny_Return_some (wpAny_mono (he j5 s σ H _ _ I h) (λv s1 ⟨x,H1,I1,r1,q1⟩=>⟨x,σ,H1,I1,r1,q1⟩) ?_);rintro ev s1 ⟨e,T,cls,a0,σ',H',h1,h2,h3,h4,h5,h7,rfl,h6⟩;exact ⟨e,T,cls,a0,σ',H',h1,h2,h3,h4,h5,h7,h6⟩
def Zsn (i:Nat) (te:TEX):TSX:=λD R σ H=>te σ H (λx H1=>D.nx (σ.set i (some x)) H1) λcls _ H1=>R cls σ H1
def Qg {pos:Pos} (hN:X.N.Nodup) (hi:X.N[i]?=some x) (hx:Loc X.env.scope x) (he:PEX fr X e te) (hs:swapsWith e (some (.Name x mh)) pos.line X.env=pure false:=by rfl)
  (hf:X.fn x=true\/X.env.scope.names.lookup x=some .local:=by first | exact .inl rfl | exact .inr rfl | assumption):PSX fr X (.Assign [.Name x mh] e pos) (Zsn i te):=by
 intro j5 s σ H D R I h;refine wpAny_Assign_Name (wpAny_mono (he j5 s σ H _ _ I h) (λv s1 ⟨y,H1,I1,r1,q1⟩=>?_) ?_) hs
 ·exact Qd I1 hN hi hx r1 (λs2 I2=>⟨_,H1,I2,q1⟩) hf
 ·rintro ev s1 ⟨e,T,cls,a0,σ',H',h1,h2,h3,h4,h5,h7,rfl,h6⟩
  exact ⟨e,T,cls,a0,σ',H',h1,h2,h3,h4,h5,h7,h6⟩
def Inv.cxr (I:Inv X j5 σ H s) (hex:X.ex=[]) (h:CXr X.prog X.w X.stack H s E ev s'):XS fr X j5 (λcls σ' H'=>σ'=σ/\E cls none H') ev s':=by
 obtain ⟨e,T,cls,a0,H',rfl,os,bare,un,hok,ne,nT,he,hT,fl,q⟩:=h;have I':Inv X j5 σ H' s':=I.call' os un hok bare λb hb=>absurd hb (by simp)
 have fx:∀ b,s.heap.get? b=none->H' b=none->FxOk X j5 H' b:=λb hb hn=>by
  refine ⟨hn,λz=>?_,λz=>?_,?_,λx c e z=>?_,λp hp z=>?_⟩
  ·obtain ⟨m,⟨o,_,_,ho,_⟩,_⟩:=I.loc
   rw [z,ho] at hb; cases hb
  ·obtain ⟨_,o,ho,_⟩:=I.funs.mem z
   rw [ho] at hb; cases hb
  ·cases q:X.s₀.heap.get? b with
   | none=>rfl
   | some o =>
    obtain ⟨o',e'⟩:=I.base.there b o q (by rw [hex]; simp);rw [hb] at e'; cases e'
  ·obtain ⟨v,o,ho,_⟩:=I.cell x c e
   rw [z,hb] at ho; cases ho
  ·have:=(I.pin p hp).1
   rw [z,hb] at this; cases this
 exact ⟨e,some T,cls,a0,σ,H',rfl,I',fl,fx e ne he,λt ht=>by cases ht; exact fx T nT hT,(λz=>nomatch z),Y,q⟩
variable {k:Nat} {f C:Addr} {fd:FuncData} {ps:List Str} {sp:Sp} {lg:List V} {ds:List Value} {x m:Str} {p pos kf:Pos} {e o:Expr} {es:List Expr} {ta:TE} {t:TA}
def Zcc (F:FnOk X.prog X.w X.K X.mg X.base (CXr X.prog X.w) k f fd ps sp) (hr:Room k X.A) (hb:Wu X.K fd ps ds) (hd:Vals lg ds) (hex:X.ex=[])
  (I:Inv X j5 σ H s) (r:Vals vs us) (h:sp (vs ++ lg) H Q E):wpAny (e:) X.A (call (.ref f) us) (EP X j5 σ Q) (XS fr X j5 λcls σ' H'=>σ'=σ/\E cls none H') s:=by
 have r2:Vals (vs ++ lg) (us ++ ds):=r.append hd;have hl:(us ++ ds).length=ps.length:=by rw [<- r2.length]; exact F.len _ _ _ _ h
 refine wpAny_call (codeAny_mono (F.run X.A X.stack s H ⟨us,[]⟩ (us ++ ds) (vs ++ lg) Q E hr I.env0 (hb s us I.kIn hl) r2 h) λr s' hq=>?_)
 cases r with
 | error e=>exact I.cxr hex hq
 | ok fl =>
  cases fl with
  | ret u=>exact I.after hq
  | next=>exact False.elim hq
  | brk=>exact False.elim hq
  | cont=>exact False.elim hq
def Zkk (sp:Sp) (lg:List V) (t:TA):TEX:=λσ H Q E=>t σ H λvs H1=>sp (vs ++ lg) H1 Q E
def Znm (F:FnOk X.prog X.w X.K X.mg X.base (CXr X.prog X.w) k f fd ps sp) (hr:Room k X.A) (hg:Gl X x) (hm:X.mg x=some (.ref f)) (hk:PySem.W.keepIn X.K (.ref f)=true) (hb:Wu X.K fd ps ds) (hd:Vals lg ds)
  (ha:PA X (e :: es) t) (hex:X.ex=[]:=by rfl) (hx:X.xe=(λ_ _=>False):=by rfl) (oy:(Z:)=false:=by decide) (he:starEach (e :: es) X.env=(a8:) :: starEach es X.env:=by rfl) (lf:(al:).any (·.1)=false:=by rfl) :
  PEX fr X (.Call (.Name x p) (e :: es) [] pos) (Zkk sp lg t):=by
 intro j5 s σ H Q E I h;have h0:=ha pos j5 s σ H _ I h;rw [hx] at h0;refine wpAny_Call_Name_kw (Vl I hg hm ?_ oy);refine PySem.W.callWith_K (h₀:=X.base) I.ok.mod.kin hk (wpAny_mono h0 (λus s1 zz30=>?_) λ_ _ z=>z.elim) he lf;obtain ⟨vs,H1,I1,r,q⟩:=zz30;refine ⟨I1.kIn,?_⟩;exact Zcc F hr hb hd hex I1 r q
def Zrb (C:Addr) (m:Str) (sp:Sp) (lg:List V) (ta:TE) (t:TA):TEX:=λσ H Q E=>ta σ H λx H1=>∃ a dx fs,x=.ref a/\H1 a=some (.ins C dx fs)/\fs.lookup m=none /\
 t σ H1 λvs H2=>sp (x :: (vs ++ lg)) H2 Q E
def Vz (he:PE X o ta) (c:Cls X.K C) (hm:Meth X.K C m f) (F:FnOk X.prog X.w X.K X.mg X.base (CXr X.prog X.w) k f fd ps sp) (hr:Room k X.A) (hb:Wu X.K fd ps ds) (hd:Vals lg ds) (ha:PA X (e :: es) t)
  (hex:X.ex=[]:=by rfl) (hx:X.xe=(λ_ _=>False):=by rfl) (l6:starEach (e :: es) X.env=(a8:) :: starEach es X.env:=by rfl) (lf:(al:).any (·.1)=false:=by rfl)
  (ht:eval (.Call (.Attribute o m kf) (e :: es) [] pos) X.env=(do
   let ov <- eval o X.env
   standAt kf.atName
   let (f,first) <- holding [ov] (getMethod ov m pl)
   callWith pos f first (backTo pos (starEach (e :: es) X.env)) (backToKw pos (keywordEach [] X.env))):=by rfl) :
  PEX fr X (.Call (.Attribute o m kf) (e :: es) [] pos) (Zrb C m sp lg ta t):=by
 intro j5 s σ H Q E I h;have h0:=he j5 s σ H _ I h;rw [hx] at h0;refine PySem.W.methodCall_KW (pl:=pl) (wpAny_mono h0 (λu s1 zz31=>?_) λ_ _ z=>z.elim) ht;obtain ⟨x,H1,I1,rx,a,dx,fs,ex,ea,l,q⟩:=zz31;subst ex;obtain rfl:u=Value.ref a:=rx;refine Vi I1 ea c hm l ?_;have h1:=ha pos j5 s1 σ H1 _ I1 q;rw [hx] at h1;refine PySem.W.callWith_K (first:=[.ref a]) (h₀:=X.base) I.ok.mod.kin hm.kp (wpAny_mono h1 (λus s2 zz32=>?_) λ_ _ z=>z.elim) l6 lf;obtain ⟨vs,H2,I2,r,q2⟩:=zz32;refine ⟨I2.kIn,?_⟩;exact Zcc (us:=.ref a :: us) (vs:=.ref a :: vs) F hr hb hd hex I2 (.cons Y r) q2
end
theorem Yo.there {h:Heap}:∀ {o:HO},Yo P w H h a o->∃ ob,h.get? a=some ob
 | .lst _,x=>by obtain ⟨_,_,_,_,e⟩:=x; exact ⟨_,e⟩
 | .tup _,x=>by obtain ⟨_,_,_,ob,e,_⟩:=x; exact ⟨_,e⟩
 | .dK _,x=>by obtain ⟨_,_,_,_,o,_,_,e,_⟩:=x; exact ⟨_,e⟩
 | .dT _,x=>by obtain ⟨_,_,_,_,o,_,_,e,_⟩:=x; exact ⟨_,e⟩
 | .set _ _,x=>by obtain ⟨o,_,_,_,e,_⟩:=x; exact ⟨_,e⟩
 | .ins _ _ _,x=>by obtain ⟨_,_,_,e,_⟩:=x; exact ⟨_,e⟩
 | .own _,x=>by obtain ⟨_,e⟩:=x; exact ⟨_,e⟩
 | .xd _,x=>by obtain ⟨_,⟨_,_,_,e,_⟩,_⟩:=x; exact ⟨_,e⟩
 | .rng _ _,x=>by obtain ⟨_,_,_,e⟩:=x; exact ⟨_,e⟩
 | .frz _ _,x=>by obtain ⟨e,_⟩:=x; exact ⟨_,e⟩
 | .tbl _,x=>⟨_,(show h.get? a=some _ from x)⟩
 | .met _ _,x=>⟨_,(show h.get? a=some _ from x)⟩
 | .ext _,x=>by obtain ⟨_,⟨_,e⟩,_⟩:=x; exact ⟨_,e⟩
section
variable {X:Cx} {j5:List (n:)} {σ:St} {H:Hp} {s:Shared}
def Inv.untr (I:Inv X j5 σ H s) (hb:s.heap.get? b=none):H b=none:=by
 cases q:H b with
 | none=>rfl
 | some o =>
  obtain ⟨ob,e⟩:=(I.hok b o q).there;rw [hb] at e; cases e
def Inv.fxOk (I:Inv X j5 σ H s) (hex:X.ex=[]) (hb:s.heap.get? b=none):FxOk X j5 H b:=by
 refine ⟨I.untr hb,λz=>?_,λz=>?_,?_,λx c e z=>?_,λp hp z=>?_⟩
 ·obtain ⟨m,⟨o,_,_,ho,_⟩,_⟩:=I.loc
  rw [z,ho] at hb; cases hb
 ·obtain ⟨_,o,ho,_⟩:=I.funs.mem z
  rw [ho] at hb; cases hb
 ·cases q:X.s₀.heap.get? b with
  | none=>rfl
  | some o =>
   obtain ⟨o',e'⟩:=I.base.there b o q (by rw [hex]; simp);rw [hb] at e'; cases e'
 ·obtain ⟨v,o,ho,_⟩:=I.cell x c e
  rw [z,hb] at ho; cases ho
 ·have:=(I.pin p hp).1
  rw [z,hb] at this; cases this
end
structure ExcK (K:W.Frag) (C:Addr) (bmB:List Value) (o8:String):Prop where
 q:PySem.W.excIn K C bmB o8=true
def Zqm {K:W.Frag} {h:Heap} (X:K.In h) (q:PySem.W.excIn K C bmB o8=true) :
  ∃ bm N nm q bs hdct sn sub ab col dd k0 k1 k2 k3 k5 mN,h.get? C=some (excClassObj nm q C N bs bm hdct sn sub ab col dd k0 k1 k2 k3 k5 o8)/\h.Ns N mN/\mN "__init__"=none/\OwnTail h bmB bm:=by
 unfold PySem.W.excIn at q;split at q
 ·rename_i dd cd sl ho
  split at q
  ·rename_i C' bm k0 k1 k2 k3 n k5 hm hs
   simp only [Bool.and_eq_true,beq_iff_eq,Bool.not_eq_true'] at q;obtain ⟨⟨⟨⟨⟨rfl,rfl⟩,hdel⟩,ht⟩,hok⟩,hni⟩:=q;obtain ⟨nm,bs,mro,ns,qn,hd,sn,sub,ab,col,del⟩:=cd;dsimp only at hm hdel hok hni;subst hm hdel;have zj:sl=#[k0,k1,k2,k3,some (.builtin n),k5]:=by
    obtain ⟨l⟩:=sl
    simp only at hs
    rw [hs]
   subst zj;exact ⟨bm,ns,nm,qn,bs,hd,sn,sub,ab,col,dd,k0,k1,k2,k3,k5,_,X _ _ ho,.of_isNs (PySem.W.isNs_of_in X hok),PySem.W.nsMap_none_of_in X hok hni,PySem.W.tail_of_in X ht⟩
  ·cases q
 ·cases q
section
variable {X:Cx}
def Zra (C:Addr) (t:TA):TSX:=λ_ R σ H=>t σ H λvs H1=>vs.length<=1000/\R (.ref C) σ H1
def Xu (K:ExcK X.K C bmB o8) (FB:ExcBaseFacts B o8 initId bmB) (hg:Gl X x) (hm:X.mg x=some (.ref C)) (hc:X.calm=true) (ha:PA X (e :: es) t)
  (hex:X.ex=[]:=by rfl) (hx:X.xe=(λ_ _=>False):=by rfl) (oy:(Z:)=false:=by decide) (he:starEach (e :: es) X.env=(a8:) :: starEach es X.env:=by rfl) (lf:(backTo ke (starEach es X.env)).any (·.1)=false:=by rfl) :
  PSX true X (.Raise (some (.Call (.Name x np) (e :: es) [] ke)) none pos) (Zra C t):=by
 intro j5 s σ H D R I h;obtain ⟨tl,N,nm,q,bs,hdct,sn,sub,ab,col,dd,k0,k1,k2,k3,k5,mN,hC,hN,hni,T⟩:=Zqm I.ok.mod.kin K.q;refine wpAny_Raise_call_subT (C:=C) (nm:=nm) (q:=q) (N:=N) (bs:=bs) (bm:=tl) (hdct:=hdct) (sn:=sn) (sub:=sub) (ab:=ab) (col:=col) (dd:=dd) (k0:=k0) (k1:=k1) (k2:=k2) (k3:=k3) (k5:=k5)
  FB (mN:=mN) (T.hasType FB.hasBase) (I.ok.hd hc) (by rw [he]; show (false || (backTo ke (starEach es X.env)).any (·.1))=false; rw [lf]; rfl) hni (Vl I hg hm ⟨rfl,?_⟩ oy)
 have h0:=ha ke j5 s σ H _ I h;rw [hx] at h0;rw [he] at h0 ⊢;refine Calls.evalArgs_plain (wpAny_mono h0 (λus s₂ zz33=>?_) λ_ _ z=>z.elim);obtain ⟨vs,H1,I1,r1,hl,q1⟩:=zz33;have kb:=I1.bk;refine ⟨Y,?_,kb _ _ hC,hN.keeps kb,T.keeps kb,λh' ea se=>?_⟩
 ·rw [<- r1.length]
  exact Nat.le_of_lt (Zt hl)
 obtain ⟨tt,h1,h2,h3⟩:=se.there;have I2:Inv X j5 σ H1 { s₂ with heap:=h' }:=I1.kept (t':=s₂.toks) se.keeps;have fx:=I1.fxOk hex se.new;exact ⟨ea,none,.ref C,.ref tt,σ,H1,Y,I2,⟨_,_,h1,⟨Y,Y⟩,Y,Y⟩,⟨fx.nt,fx.nl,fx.nf,fx.n0,fx.nc,fx.np⟩,(λt z=>nomatch z),(λ_=>rfl),q1⟩
def Un.leave {h₀ h h':Heap} (u:Un fs [] H₀ H h₀ h) (hk:∀ b o,h₀.get? b=some o->b ∉ fs->h.get? b=some o->h'.get? b=some o)
  (hs:∀ b o,b∈fs->h.get? b=some o->∃ sl,h'.get? b=some { o with slots:=sl }) (ht:∀ b o,h₀.get? b=some o->∀ o',h.get? b=some o'->∃ o'',h'.get? b=some o''):Un fs [] H₀ H h₀ h' where
 keep:=λb o e n hb hx=>hk b o e hb (u.keep b o e n hb hx)
 slot:=λb o e n hb hx=>by
  obtain ⟨sl,e1⟩:=u.slot b o e n hb hx;obtain ⟨sl',e2⟩:=hs b _ hb e1;exact ⟨sl',e2⟩
 free:=u.free
 there:=λb o e hx=>by
  obtain ⟨o',e1⟩:=u.there b o e hx;exact ht b o e o' e1
 tups:=u.tups
 frzs:=u.frzs
 tbls:=u.tbls
def Ol {X:Cx} {s:Shared} (I:Inv X j5 σ H s) (as:List Addr) (hs:∀ b∈frs X.stack,b∈as):s.heap.FunFrames (PySem.W.hideAll s.heap as) X.stack:=by
 have all:∀ (l:List Env),(∀ b∈frs l,b∈as)->s.heap.FunFrames X.base l->s.heap.FunFrames (PySem.W.hideAll s.heap as) l:=by
  intro l
  induction l with
  | nil=>intro _ _; trivial
  | cons env r ih =>
   intro hs hl;obtain ⟨hk,⟨L,o,hf,hn,ho,hd⟩,hr⟩:=hl;have hL:L∈as:=hs L (by unfold frs; rw [filterMap_cons,hf]; exact mem_cons_self);exact ⟨hk,⟨L,o,hf,PySem.W.hideAll_none as hL,ho,hd⟩,ih (λb hb=>hs b (by unfold frs; rw [filterMap_cons,hf]; exact mem_cons_of_mem _ hb)) hr⟩
 exact all X.stack hs I.stack
def Inv.fnd {X:Cx} {s:Shared} (I:Inv X j5 σ H s) (hb:b∈frs X.stack) {o:Obj} (e:s.heap.get? b=some o):∀ vs,o.data≠.fields vs:=by
 obtain ⟨_,o',e',d⟩:=I.stack.mem hb;rw [e] at e'; cases e';exact d
end
def FxOk.none {X:Cx} {j5:List (n:)} {H:Hp} {b:Addr} (h:FxOk X j5 H b):FxOk X [] H b:=⟨h.nt,h.nl,h.nf,h.n0,h.nc,λp hp=>h.np p (by rw [append_nil] at hp; exact mem_append_left _ hp)⟩
section
variable {P:Program} {w:World} {K:W.Frag} {mg:Str->Option Value} {base:Heap}
def Zgq (h:XS fr (cxOf (CXr P w) P w K mg base N qual scope f cd A outer s H E).nox [] (λcls _ H'=>E cls none H') ev s'):(cxOf (CXr P w) P w K mg base N qual scope f cd A outer s H E).xe ev s':=by
 obtain ⟨e,T,cls,a0,σ',H',rfl,I,hx,fe,fT,_,q⟩:=h;show wpAny (model P w) (A.deeper (ae:)) (leaving (ae:) (.ref e)) (λ_ pi=>CXr P w outer H s E (.ref e) pi) (λe' pi=>CXr P w outer H s E e' pi) s';have l6:(cxOf (CXr P w) P w K mg base N qual scope f cd A outer s H E).nox.stack=envOfC qual scope s.heap.objs.size f cd :: outer:=rfl;have qm:(A.deeper (ae:)).frames=some (o:):=I.ok.frames
 have n0:∀ b,b∈e :: T.toList->s.heap.get? b=none:=λb hb=>by
  rcases Ar hb with z | z
  ·rw [z]; exact fe.n0
  ·cases T with
   | none=>simp at z
   | some t =>
    have:b=t:=by simpa using z
    rw [this]; exact (fT t Y).n0
 have nt:∀ b,b∈e :: T.toList->H' b=none:=λb hb=>by
  rcases Ar hb with z | z
  ·rw [z]; exact fe.nt
  ·cases T with
   | none=>simp at z
   | some t =>
    have:b=t:=by simpa using z
    rw [this]; exact (fT t Y).nt
 have hB:∀ b o,b ∉ e :: T.toList->b ∉ frs (o:)->s'.heap.get? b=some o->(a4:).get? b=some o:=λb o h1 h2 e1 =>
  PySem.W.hideAll_get _ e1 λz=>(mem_append.mp z).elim h1 h2
 have hl:s'.heap.FunFrames (a4:) (o:):=Ol I _ λb hb=>mem_append_right _ hb;have hkb:(a4:).StaysIn s'.heap:=λb o e1=>PySem.W.of_hideAll _ e1;have hen:(a4:).get? e=none:=PySem.W.hideAll_none _ (mem_append_left _ mem_cons_self)
 have lc:∀ h',Heap.LeftW (a4:) (o:) e cls a0 s'.heap h'->CXr P w outer H s E (.ref e) { s' with heap:=h' }:=λh' ⟨k1,k2,k3,k4⟩=>by
  obtain ⟨oe,vs,T',oT,ts,x1,x2,x3,x4,x5,x6,x7,x8,x9⟩:=k3;have ug:∀ b o,b∈frs (o:)->s'.heap.get? b=some o->∃ sl,h'.get? b=some { o with slots:=sl }:=λb o hb e1=>k4 b o e1 (I.fnd hb e1);have kept:∀ b o,b ∉ e :: T.toList->b ∉ frs (o:)->s'.heap.get? b=some o->h'.get? b=some o:=λb o h1 h2 e1=>k1 b o (hB b o h1 h2 e1);have nL:∀ b o,s.heap.get? b=some o->b ∉ frs outer->b ∉ frs (o:):=λb o e1 h2 z=>by
   have z':b∈s.heap.objs.size :: frs outer:=z
   rcases Ar z' with z1 | z1
   ·rw [z1] at e1; exact absurd (Ao e1) (Nat.lt_irrefl _)
   ·exact h2 z1
  have nE:∀ b o,s.heap.get? b=some o->b ∉ e :: T.toList:=λb o e1 z=>by rw [n0 b z] at e1; cases e1
  have um:∀ b u,H' b=some u->∀ o,s'.heap.get? b=some o->h'.get? b=some o:=λb u hu o e1=>by
   refine kept b o (λz=>by rw [nt b z] at hu; cases hu) (λz=>?_) e1;rw [I.stkFree b z] at hu; cases hu
  have hT':s.heap.get? T'=none/\H' T'=none:=by
   by_cases hz:s'.heap.get? T'=none
   ·refine ⟨?_,I.untr hz⟩
    cases q':s.heap.get? T' with
    | none=>rfl
    | some o =>
     obtain ⟨o',e'⟩:=I.base.there T' o q' (by simp [cxOf]);rw [hz] at e'; cases e'
   ·obtain ⟨o,ho⟩:=Option.ne_none_iff_exists'.mp hz
    by_cases h1:T'∈e :: T.toList
    ·exact ⟨n0 T' h1,nt T' h1⟩
    ·by_cases h2:T'∈frs (envOfC qual scope s.heap.objs.size f cd :: outer)
     ·exfalso
      obtain ⟨sl,e'⟩:=ug T' o h2 ho;rw [x7] at e';cases e';exact I.fnd h2 ho ts x8
     ·rw [hB T' o h1 h2 ho] at x5; cases x5
  refine ⟨e,T',cls,a0,H',Y,I.os,I.bare,?_,λb u hu=>?_,fe.n0,hT'.1,fe.nt,hT'.2,⟨oe,vs,oT,ts,x1,x2,x3,x4,x6,x7,x8,x9⟩,q⟩
  ·refine Un.leave I.base (λb o e1 h1 e2=>kept b o (nE b o e1) (nL b o e1 h1) e2) (λb o hb e1=>ug b o (mem_cons_of_mem _ hb) e1) λb o e1 o' e2=>?_
   by_cases h2:b∈frs outer
   ·obtain ⟨sl,e'⟩:=ug b o' (mem_cons_of_mem _ h2) e2
    exact ⟨_,e'⟩
   ·exact ⟨o',kept b o' (nE b o e1) (nL b o e1 h2) e2⟩
  ·refine (I.hok b u hu).stay (λc v hc e1=>?_) (λ_ z=>z) λ_ _ z=>z
   rcases hc with z | z
   ·exact um c u (by rw [z]; exact hu) v e1
   ·exact um c _ z v e1
 cases T with
 | none =>
  obtain ⟨oe,vs,x1,x2,x3,x4⟩:=hx;obtain ⟨x21,x22⟩:=x2;subst x21;exact wpAny_leaving_firstW qm hl Y x1 hkb hen x3 x4 x22 lc
 | some t =>
  obtain ⟨oe,vs,oT,ts,x1,x2,x3,x4,x5,x6,x7,x8⟩:=hx;exact wpAny_leaving_nextW qm hl Y ⟨oe,vs,t,oT,ts,x1,x2,x3,x4,PySem.W.hideAll_none _ (mem_append_left _ (by simp)),x5,x6,x7,x8⟩ hkb hen lc
def Fun.okX {x qual:Str} {st:Stmt} {f:Addr} {fd:FuncData} {N ps:List Str} {k:Nat} {sp:Sp} (F:Fun K x qual st f fd) (S:FnScope N ps (Zg st)) (len:∀ vs H Q E,sp vs H Q E->vs.length=ps.length)
  (ll:∀ (kn:Value) (A:Around) (outer:List Env) (s:Shared) (H:Hp) (vs:List V) (Q:VK) (E:XK),Room k (a7:)->sp vs H Q E ->
   ∃ t,PSsX true (T:).nox (Y4 st) t/\t { nx:=λ_ H'=>Q .non H',rt:=Q } (λcls _ H'=>E cls none H') (start N vs) H):(a:) (k + 1) f fd ps sp:=by
 obtain ⟨oc,od,kV,k7,pm,an,kn,ct,ut,rfl,lk,p6⟩:=F.ex;refine Zj4 lk p6 S len λA outer s H vs Q E hr mm=>?_;obtain ⟨t,h,q⟩:=ll kn A outer s H vs Q E hr mm;refine ⟨λD σ H'=>t D (λcls _ yl=>E cls none yl) σ H',λj5 s' σ' H' D I hD=>?_,q⟩;refine wpAny_mono (h j5 s' σ' H' D _ (I.wish _) hD) (λ_ _ z=>z.unwish) λev pi z=>Zgq (fr:=true) ?_;obtain ⟨e,T,cls,a0,σ2,H2,h1,h2,h3,h4,h5,h7,h6⟩:=z;exact ⟨e,T,cls,a0,σ2,H2,h1,h2.pins_of (λp hp=>absurd hp (by simp)),h3,h4.none,λt ht=>(h5 t ht).none,h7,h6⟩
end
section
variable {X:Cx}
def Inv.exc {j5:List (n:)} {σ:St} {H:Hp} {s:Shared} {e T:Addr} {h':Heap} (I:Inv X j5 σ H s) (hex:X.ex=[]) (fe:FxOk X j5 H e) (fT:FxOk X j5 H T)
  (keep:∀ b o,b≠e->b≠T->b ∉ frs X.stack->s.heap.get? b=some o->h'.get? b=some o) (slot:∀ b o,b∈frs X.stack->s.heap.get? b=some o->∃ sl,h'.get? b=some { o with slots:=sl }):Inv X j5 σ H { s with heap:=h' }:=by
 have fss:∀ b∈X.fs,b∈frs X.stack:=λb hb=>by
  rcases I.ok.stk with z | ⟨z,hf⟩
  ·rw [z]; exact hb
  ·rw [z]; unfold frs; rw [filterMap_cons,hf]; exact mem_cons_of_mem _ hb
 have data:∀ b o,b≠e->b≠T->s.heap.get? b=some o->∃ sl,h'.get? b=some { o with slots:=sl }:=λb o h1 h2 e1=>by
  by_cases hb:b∈frs X.stack
  ·exact slot b o hb e1
  ·exact ⟨o.slots,keep b o h1 h2 hb e1⟩
 have ne0:∀ b o,X.s₀.heap.get? b=some o->b≠e/\b≠T:=λb o e1=>⟨λz=>(by rw [z,fe.n0] at e1; cases e1),λz=>(by rw [z,fT.n0] at e1; cases e1)⟩;have pf:∀ x c,X.env.cells.lookup x=some c->∀ v,s.heap.IsCell c v->h'.IsCell c v:=λx c ec v ⟨o,ho,hd⟩=>by
  obtain ⟨sl,e1⟩:=data c o (fe.nc x c ec) (fT.nc x c ec) ho
  exact ⟨_,e1,hd⟩
 refine ⟨I.ok,I.os,I.bare,⟨λb o e0 n hb hx=>?_,λb o e0 n hb hx=>?_,I.base.free,λb o e0 hx=>?_,I.base.tups,I.base.frzs,I.base.tbls⟩,?_,λx c ec=>?_,I.free,I.freeC,λp hp=>?_,λb u hu=>?_,I.len⟩
 ·obtain ⟨n1,n2⟩:=ne0 b o e0
  refine keep b o n1 n2 (λz=>?_) (I.base.keep b o e0 n hb hx)
  rcases Ar (I.stkSub b z) with z1 | z1
  ·rw [z1] at e0; exact absurd (Ag (Ao e0) I.ok.above) (Nat.lt_irrefl _)
  ·exact hb z1
 ·obtain ⟨sl,e1⟩:=I.base.slot b o e0 n hb hx
  obtain ⟨sl',e2⟩:=slot b _ (fss b hb) e1;exact ⟨sl',e2⟩
 ·obtain ⟨n1,n2⟩:=ne0 b o e0
  obtain ⟨o',e1⟩:=I.base.there b o e0 hx;obtain ⟨sl,e2⟩:=data b o' n1 n2 e1;exact ⟨_,e2⟩
 ·obtain ⟨m,hn,hl⟩:=I.loc
  refine ⟨m,?_,λi x v e1 e2 e3=>?_⟩
  ·obtain ⟨o,es,ep,ho,hd,r⟩:=hn
   obtain ⟨sl,e1⟩:=data _ o (Ne.symm fe.nl) (Ne.symm fT.nl) ho;exact ⟨_,es,ep,e1,hd,r⟩
  ·obtain ⟨u,r,l⟩:=hl i x v e1 e2 e3
   refine ⟨u,r,?_⟩
   rcases l with l | ⟨k,c,ec,z⟩
   ·exact .inl l
   ·exact .inr ⟨k,c,ec,pf x c ec _ z⟩
 ·obtain ⟨v,z⟩:=I.cell x c ec
  exact ⟨v,pf x c ec v z⟩
 ·obtain ⟨e1,n,ne,nf,d⟩:=I.pin p hp
  refine ⟨keep p.1 p.2 (fe.np p hp) (fT.np p hp) (λz=>?_) e1,n,ne,nf,d⟩
  rcases Ar (I.stkSub p.1 z) with z1 | z1
  ·exact ne z1
  ·exact nf z1
 ·have um:∀ b u,H b=some u->∀ o,s.heap.get? b=some o->h'.get? b=some o:=λb u hu o e1=>by
   refine keep b o (λz=>by rw [z,fe.nt] at hu; cases hu) (λz=>by rw [z,fT.nt] at hu; cases hu) (λz=>?_) e1;rw [I.stkFree b z] at hu; cases hu
  refine (I.hok b u hu).stay (λc v hc e1=>?_) (λ_ z=>z) λ_ _ z=>z
  rcases hc with z | z
  ·exact um c u (by rw [z]; exact hu) v e1
  ·exact um c _ z v e1
noncomputable def Gr (X:Cx) (e:Addr):Cx:={ X with A:=X.A.mark (some (.ref e)),calm:=false }
def Inv.hnd {j5:List (n:)} {σ:St} {H:Hp} {s:Shared} (I:Inv X j5 σ H s) (e:Addr):Inv (Gr X e) j5 σ H s :=
 ⟨⟨I.ok.mod,I.ok.kind,I.ok.glob,I.ok.blt,I.ok.above,I.ok.inj,I.ok.has,I.ok.cab,λh=>absurd (show false=true from h) Bool.false_ne_true,I.ok.frames,I.ok.stk,I.ok.exf,I.ok.bs,I.ok.bsz,I.ok.noex,I.ok.exfs,I.ok.funs,I.ok.frf⟩,
  I.os,I.bare,I.base,I.loc,I.cell,I.free,I.freeC,I.pin,I.hok,I.len⟩
def Inv.unhnd {j5:List (n:)} {σ:St} {H:Hp} {s:Shared} {e:Addr} (I:Inv (Gr X e) j5 σ H s) (ok:X.Ok):Inv X j5 σ H s :=
 ⟨ok,I.os,I.bare,I.base,I.loc,I.cell,I.free,I.freeC,I.pin,I.hok,I.len⟩
def SP.unhnd {j5:List (n:)} {D:Ends} {f:Flow} {s':Shared} {e:Addr} (h:SP (Gr X e) j5 D f s') (ok:X.Ok):SP X j5 D f s':=by
 cases f with
 | next=>obtain ⟨σ',H',I,q⟩:=h; exact ⟨σ',H',I.unhnd ok,q⟩
 | brk=>obtain ⟨σ',H',I,q⟩:=h; exact ⟨σ',H',I.unhnd ok,q⟩
 | cont=>obtain ⟨σ',H',I,q⟩:=h; exact ⟨σ',H',I.unhnd ok,q⟩
 | ret u=>obtain ⟨v,σ',H',I,r,q⟩:=h; exact ⟨v,σ',H',I.unhnd ok,r,q⟩
def Zr6 {j5:List (n:)} {σ:St} {H:Hp} {s:Shared} {e T:Addr} {cls a0:Value} (I:Inv X j5 σ H s) (hx:FlyT e T cls a0 s.heap) :
  Heap.FlyingW (PySem.W.hideAll s.heap (e :: T :: frs X.stack)) X.stack e cls a0 s.heap:=by
 obtain ⟨oe,vs,oT,ts,x1,x2,x3,x4,x5,x6,x7,x8⟩:=hx;exact ⟨λb o e1=>PySem.W.of_hideAll _ e1,PySem.W.hideAll_none _ (by simp),Ol I _ λb hb=>by simp [hb],oe,vs,T,oT,ts,x1,x2,x3,x4,PySem.W.hideAll_none _ (by simp),x5,x6,x7,x8⟩
def Inv.flown {j5:List (n:)} {σ:St} {H:Hp} {s:Shared} {e T:Addr} {h':Heap} (I:Inv X j5 σ H s) (hex:X.ex=[]) (fe:FxOk X j5 H e) (fT:FxOk X j5 H T)
  (l6:(PySem.W.hideAll s.heap (e :: T :: frs X.stack)).StaysIn h') (hup:s.heap.UpToSlots h'):Inv X j5 σ H { s with heap:=h' }:=by
 refine I.exc hex fe fT (λb o h1 h2 h3 e1=>l6 b o (PySem.W.hideAll_get _ e1 λz=>?_)) λb o hb e1=>hup b o e1 (I.fnd hb e1)
 rcases Ar z with z | z
 ·exact h1 z
 ·rcases Ar z with z | z
  ·exact h2 z
  ·exact h3 z
end
section
variable {X:Cx} {j5:List (n:)} {σ:St} {H:Hp} {s:Shared} {A:Around} {E:Value->Shared->Prop} {a:Addr}
def Zr9 {kvs:List (Key × V)} (I:Inv X j5 σ H s) (e:H a=some (.dK kvs)) (hl:kvs.length < sizeLine) (ry:RelV (kV k) u) (rd:RelV d r)
  (h1:∀ v w' s',valV kvs k=some v->Inv X j5 σ H s'->RelV v w'->Q w' s') (h2:valV kvs k=none->∀ s',Inv X j5 σ (upd H a (.dK (putK kvs k d))) s'->Q r s') :
  wpAny (e:) A (call (.builtin "dict.setdefault") [.ref a,u,r]) Q E s:=by
 obtain ⟨z,hd,vs,kj,dd⟩:=Zej I.hok e;have hz:vs.length<=sizeLine:=by rw [<- kj.length]; exact z
 refine call_meetsIn PySem.F.slot_dict_setdefault dd.typeIs PySem.F.entry_dict_setdefault (PySem.F.args_dict_setdefault_3 _ _ _) (kt_meets_setdefault (Z2 X.prog X.w) a (Qu ry) hd r) ⟨vs,dd,hz,λv hv=>?_,λhv h' re hs=>?_⟩
 ·have oa:=kj.val k
  rw [hv] at oa
  cases q:valV kvs k with
  | none=>rw [q] at oa; exact oa.elim
  | some y=>rw [q] at oa; exact h1 y v _ q (I.tok _) oa
 ·have oa:=kj.val k
  rw [hv] at oa
  cases q:valV kvs k with
  | some y=>rw [q] at oa; exact oa.elim
  | none =>
   have he:∃ q,h'.get? a=some q:=let ⟨q,_,_,hq,_⟩:=re; ⟨q,hq⟩
   have lm:(putK kvs k d).length<=sizeLine:=by have:=Jm kvs k d; lia
   exact h2 q _ (On I (by rw [e]; exact True.intro) hs he (Zbo lm hd (kj.put k rd) re))
end
def Zrd (td ty tx:TE):TE:=λσ H Q=>td σ H λx H1=>∃ a,x=.ref a/\IsD H1 a/\ty σ H1 λy H2=>tx σ H2 λz H3=>∃ kvs k,H3 a=some (.dK kvs)/\kvs.length < sizeLine/\y=kV k /\
 (∀ v,valV kvs k=some v->Q v H3)/\(valV kvs k=none->Q z (upd H3 a (.dK (putK kvs k z))))
section
variable {X:Cx} {o e f:Expr} {kf ke:Pos} {td ty tx:TE}
def Znn (ho:PE X o td) (he:PE X e ty) (hf:PE X f tx) (m:M2 X o "setdefault" kf e f ke):PE X (.Call (.Attribute o "setdefault" kf) [e,f] [] ke) (Zrd td ty tx):=by
 intro j5 s σ H Q I h;refine wpAny_Call_method m.base m.few m.line PySem.F.plainAttrs_dict PySem.F.slot_dict_setdefault PySem.F.type_dict_setdefault (thn (ho j5 s σ H _ I h) λu s1 kc=>?_);obtain ⟨x,H1,I1,rx,a,ex,d,q1⟩:=kc;subst ex;obtain rfl:u=Value.ref a:=rx;obtain ⟨t1,t2,_⟩:=Zbi I1 d;refine ⟨t1,t2,?_⟩;rw [m.trees];refine Calls.callWith_builtin rfl (Calls.evalArgs_plain (Calls.spliced_cons (thn (he j5 s1 σ H1 _ I1 q1) λiv s2 ⟨y,H2,I2,ry,q2⟩ =>
  Calls.spliced_cons (thn (hf j5 s2 σ H2 _ I2 q2) λfv s3 ⟨z,H3,I3,rz,kvs,k,hk,hl,ey,q3,q4⟩=>Calls.spliced_nil ?_))))
 subst ey;exact Zr9 I3 hk hl ry rz (λv w' s' hv I' n8=>⟨v,H3,I',n8,q3 v hv⟩) λhv s' I'=>⟨z,_,I',rz,q4 hv⟩
def Zgs {kvs:List (Key × V)} {vs:List (Key × Value)} {ks:List Int} (kj:KV kvs vs) (hk:kvs.map (·.1)=ks.map Sum.inl) {us:List Value} (hl:us.length=vs.length)
  (hu:∀ (j:Nat) (v:Value),us[j]?=some v->∃ k x,vs[j]?=some (k,x)/\(Z2 P w).is k v=true):IntsAre us ks:=by
 have lp:kvs.length=ks.length:=by have:=congrArg List.length hk; simpa using this
 have hvl:kvs.length=vs.length:=kj.length
 have key:∀ (j:Nat) (v:Value),us[j]?=some v->∃ i t,ks[j]?=some i/\v=Value.int i t:=λj v hv=>by
  obtain ⟨k,x,hx,hi⟩:=hu j v hv;have e1:(vs.map (·.1))[j]?=some k:=by rw [Ah,hx]; rfl
  have e2:vs.map (·.1)=kvs.map (·.1):=by
   clear hk hl hu lp hvl hx hi e1
   induction kj with
   | nil=>rfl
   | cons r t ih=>rw [map_cons,map_cons,ih,r.1]
  rw [e2,hk,Ah] at e1
  cases q:ks[j]? with
  | none=>rw [q] at e1; cases e1
  | some i =>
   rw [q] at e1;have e3:Sum.inl i=k:=Ax e1;subst e3;obtain ⟨t,ht⟩:=Value.isInt_shape (k:=i) (v:=v) hi;exact ⟨i,t,Y,ht⟩
 have gen:∀ (us:List Value) (ks:List Int),us.length=ks.length->(∀ (j:Nat) (v:Value),us[j]?=some v->∃ i t,ks[j]?=some i/\v=Value.int i t)->IntsAre us ks:=by
  intro us
  induction us with
  | nil =>
   intro ks hl _
   cases ks with
   | nil=>exact .nil
   | cons _ _=>simp at hl
  | cons u r ih =>
   intro ks hl h
   cases ks with
   | nil=>simp at hl
   | cons i ks =>
    obtain ⟨i',t,e1,e2⟩:=h 0 u rfl;have e1':i=i':=by simpa using e1
    subst e1' e2;exact .cons i t (ih ks (by simpa using hl) λj v hv=>h (j + 1) v (by simpa using hv))
 exact gen us ks (by lia) key
def Qc (hc:X.calm=true):Xi X (.builtin "sorted") (λxs H Q=>∃ (d:Addr) (kvs:List (Key × V)) (ks:List Int),xs=[.ref d]/\Rd H d (.dK kvs)/\kvs.map (·.1)=ks.map Sum.inl/\ks.length < 64 /\
  ∀ (p:Addr) (out:List Int),H p=none->out.Perm ks->out.Pairwise (·<=·)->Q (.ref p) (upd H p (.lst (out.map V.int)))):=by
 intro j5 s σ H xs us Q I r h;obtain ⟨d,kvs,ks,rfl,hd,hk,h64,q⟩:=h;obtain ⟨u,rfl,ru⟩:=Wa r;obtain rfl:u=Value.ref d:=ru;obtain ⟨z,og,vs,kj,dd⟩:=Jp I.hok hd;obtain ⟨ep,hat⟩:=dd.dictAt;have j8:vs.length=ks.length:=by have:=congrArg List.length hk; rw [Ab,Ab] at this; have:=kj.length; lia
 have hn:vs.length<=sizeLine:=by rw [sizeLine_eq]; lia
 refine Calls.call_function_entry kind_sorted plain_sorted entry_sorted (args_sorted1 _) ?_;unfold Builtin.«sorted»;refine Al (m:=checkCount "sorted" 1 1 _) (wpAny_pure ?_);refine Al (PySem.W.kdu_collect (A:=X.A.in1) (PySem.W.kdl_dict (knd:=Z2 X.prog X.w) (kvs:=vs) (ep:=ep) og) (I.ok.hd hc) hat hn λh' tk j' sg o6=>?_);have hl:j'.toList.length=vs.length:=by rw [Array.length_toList]; exact o6.1
 have hI:IntsAre j'.toList ks:=Zgs (P:=X.prog) (w:=X.w) kj hk hl λj v hv=>let ⟨a,b,c⟩:=o6.2 j v (by rw [<- Array.getElem?_toList]; exact hv); ⟨a,b,c⟩
 refine Al (wpAny_newList ?_ (by rw [hl]; exact hn));have I1:Inv X j5 σ H { s with heap:=h',toks:=tk }:=I.kept sg;have ve:(h'.push { cls:=.type "list",data:=.seq j'.toList.toArray }).get? h'.objs.size=some (seqObj "list" j'.toList.toArray 0):=Ap _ rfl;refine Al (wpAny_holding (wpAny_call_entry slot_list_sort ⟨_,ve,Y⟩ entry_list_sort (list_sort_tree ve hI (by lia) λout qw a1 a2 a3=>⟨_,Y,?_⟩) (args_list_sort _)));refine wpAny_pure ⟨_,Y,?_⟩;obtain ⟨e,he⟩:=sortedHeap_at (out:=out) ve;have kp:∀ b u,h'.get? b=some u->(sortedHeap (h'.push { cls:=.type "list",data:=.seq j'.toList.toArray }) h'.objs.size j'.toList out).get? b=some u:=λb u hb=>by
  have kl:b < h'.objs.size:=Ao hb
  rw [sortedHeap_old (As kl) (by rw [Heap.size_push]; exact lt_succ_of_lt kl)]
  exact Ak _ hb
 have hv:Vals (qw.map V.int) out.toList:=by
  clear he kp;generalize out.toList=l at a1;clear a2 a3
  induction a1 with
  | nil=>exact .nil
  | cons i t _ ih=>exact .cons ⟨_,Y⟩ ih
 refine ⟨.ref h'.objs.size,upd H h'.objs.size (.lst (qw.map V.int)),I1.laid kp (An _) ?_,Y,q _ qw I1.fresh a2 a3⟩;refine ⟨?_,out.toList,e,hv,?_⟩
 ·rw [Ab,a2.length_eq,sizeLine_eq]; lia
 ·rw [he]
end
section
variable {X:Cx} {j5:List (n:)} {σ:St} {H:Hp} {s:Shared} {a:Addr}
def Inv.freeze (I:Inv X j5 σ H s) (e:H a=some u) (mu:Mut (some u)) (ho:s.heap.get? a=some ob):Inv X j5 σ (upd H a (.frz ob u)) s:=by
 have rg:∀ c y,H c=some (.own y)->c≠a:=λc y r z=>by subst z; rw [r] at e; cases e; exact mu
 have qb:∀ c xs,H c=some (.tup xs)->c≠a:=λc xs r z=>by subst z; rw [r] at e; cases e; exact mu
 have nfrz:∀ c o xs,H c=some (.frz o xs)->c≠a:=λc o xs r z=>by subst z; rw [r] at e; cases e; exact mu
 have ntbl:∀ c ps,H c=some (.tbl ps)->c≠a:=λc ps r z=>by subst z; rw [r] at e; cases e; exact mu
 have un:Un X.fs [] H (upd H a (.frz ob u)) s.heap s.heap:=⟨λ_ _ q _ _ _=>q,λ_ o q _ _ _=>⟨o.slots,q⟩,λb o q n _=>by rw [Zd (λz=>by rw [z,e] at n; cases n)]; exact n,λb o q _=>⟨o,q⟩,
  λb xs q=>by rw [Zd (qb b xs q)]; exact q,λb o xs q=>by rw [Zd (nfrz b o xs q)]; exact q,λb ps q=>⟨#[],by rw [Zd (ntbl b ps q),q]; simp⟩⟩
 have hok:HOk X.prog X.w (upd H a (.frz ob u)) s.heap:=λb v q=>by
  have st:∀ c w',Yo X.prog X.w H s.heap c w'->Yo X.prog X.w (upd H a (.frz ob u)) s.heap c w':=λc w' x=>x.stay (λ_ _ _ q=>q) (λd r=>by rw [Zd (rg d c r)]; exact r) λd xs r=>by rw [Zd (qb d xs r)]; exact r
  by_cases hb:b=a
  ·subst hb
   rw [Zb] at q;cases q;exact ⟨ho,st _ _ (I.hok _ _ e)⟩
  ·rw [Zd hb] at q
   exact st _ _ (I.hok b v q)
 exact I.un (h':=s.heap) (t':=s.toks) un hok
end
section
def KV.at {kvs:List (Key × V)} {vs:List (Key × Value)} (r:KV kvs vs):∀ {i:Nat} {k:Key} {v:V},kvs[i]?=some (k,v)->∃ u,vs[i]?=some (k,u)/\RelV v u:=by
 induction r with
 | nil=>intro i k v h; simp at h
 | cons r t ih =>
  intro i k v h
  cases i with
  | zero =>
   simp at h;subst h;exact ⟨_,by rw [getElem?_cons_zero]; exact congrArg some (Prod.ext r.1.symm Y),r.2⟩
  | succ i =>
   obtain ⟨u,h1,h2⟩:=ih (by simpa using h);exact ⟨u,by simpa using h1,h2⟩
def Zs9 (h:(Z2 P w).is k u=true):RelV (kV k) u:=by
 cases k with
 | inl i=>obtain ⟨t,e⟩:=Value.isInt_shape (k:=i) (v:=u) h; exact ⟨t,e⟩
 | inr x=>obtain ⟨t,e⟩:=Value.isStrOf_shape (x:=x) (v:=u) h; exact ⟨t,e⟩
def Qp {X:Cx} {s:Shared} (I:Inv X j5 σ H s) (e:H d=some (ar:)) :
  ∃ vs ep,KV kvs vs/\s.heap.DictAt (Z2 X.prog X.w) d vs ep/\s.heap.get? d=some o:=by
 obtain ⟨ho,_,_,vs,kj,dd⟩:=I.hok d _ e;obtain ⟨ep,da⟩:=dd.dictAt;exact ⟨vs,ep,kj,da,ho⟩
noncomputable def epOf (o:Obj):Nat:=match o.data with
 | .dict _ ep=>ep
 | _=>0
def Gu {h:Heap} (da:h.DictAt (Z2 P w) d vs ep) (ho:h.get? d=some o):ep=epOf o:=by
 obtain ⟨o',es,h1,_,h2,_⟩:=da;rw [ho] at h1;cases h1;unfold epOf;rw [h2]
def Zkg {P:Program} {w:World} {K:W.Frag} {tg:Expr} (d it:Addr) (kvs:List (Key × V)) (o:Obj) :
  Turn P w K tg ⟨λi H=>i < kvs.length/\H d=some (ar:),λi H x H'=>H'=H/\∃ k,kvs[i]?=some (k,x),λi H=>kvs.length<=i/\H d=some (ar:)⟩ [it] it (λi h=>h.IsValIter it d i kvs.length (epOf o)) where
 mem:=by simp
 obj:=λi h st b hb=>by
  have e:b=it:=by simpa using hb
  subst e;obtain ⟨o,e,c,d⟩:=st;exact (a2:)
 keep:=λi h h' st k=>st.at λo e=>k it (by simp) o e
 item:=by
  intro X hP hw hK hc i j5 s σ H E I hf st hg;subst hP hw hK;obtain ⟨hi,hq⟩:=hg;obtain ⟨vs,ep,kj,da,ho⟩:=Qp I hq;have tz:=Gu da ho;subst tz;obtain ⟨f0,f1,f2,f3,f4,f5⟩:=hf it (by simp);obtain ⟨⟨k,v⟩,hx⟩:∃ p,kvs[i]?=some p:=⟨_,Ac hi⟩;obtain ⟨u,hu,ru⟩:=kj.at hx;have j8:vs.length=kvs.length:=kj.length.symm;rw [<- j8] at st;refine wpAny_pyNext_values_item st da hu λh' mj sb=>?_;have I1:Inv X j5 σ H { s with heap:=h' }:=I.turned (t':=s.toks) (λb o hb e=>(sb.2 b hb).trans e) f0 f1 f3 f4 f5;rw [j8] at mj;obtain ⟨oi,e,c,dd⟩:=id mj;exact ⟨u,Y,Gs (s:={ s with heap:=h' }) e c dd (d:) ⟨v,H,I1,ru,⟨Y,k,hx⟩,mj,λb hb=>(hf b hb).1⟩⟩
 done:=by
  intro X hP hw hK hc i j5 s σ H E I hf st hg;subst hP hw hK;obtain ⟨hi,hq⟩:=hg;obtain ⟨vs,ep,kj,da,ho⟩:=Qp I hq;have tz:=Gu da ho;subst tz;obtain ⟨f0,f1,f2,f3,f4,f5⟩:=hf it (by simp);have j8:vs.length=kvs.length:=kj.length.symm;rw [<- j8] at st;exact wpAny_pyNext_values_end (I.ok.hd hc) st da (by rw [Ay]; lia) λh' eb=>(J:)
 self:=λ_ _ _ _ _ st h=>wpAny_pyIter_valiter st h
end
section
variable {X:Cx} {tg:Expr} {l:Expr} {tl:TE}
noncomputable def Itv2 (d:Addr) (kvs:List (Key × V)) (o:Obj):It:=⟨λi H=>i < kvs.length/\H d=some (ar:),λi H x H'=>H'=H/\∃ k,kvs[i]?=some (k,x),λi H=>kvs.length<=i/\H d=some (ar:)⟩
def Zox (J:Addr->List (Key × V)->Obj->It) (tl:TE):TI:=λσ H R=>tl σ H λx H1=>∃ a kvs,x=.ref a/\((H1 a=some (.dK kvs)/\∀ o,R (J a kvs o) (upd H1 a (ar:)))\/∃ o,H1 a=some (ar:)/\R (J a kvs o) H1)
def Zg1 {R:Obj->Hp->Prop} (I:Inv X j5 σ H s)
  (h:(H a=some (.dK kvs)/\∀ o,R o (upd H a (ar:)))\/∃ o,H a=some (ar:)/\R o H):∃ o H',H' a=some (ar:)/\Inv X j5 σ H' s/\R o H':=by
 rcases h with ⟨e,r⟩ | ⟨o,e,r⟩
 ·obtain ⟨ob,ho⟩:=(I.hok a _ e).there
  exact ⟨ob,_,Zb,I.freeze e True.intro ho,r ob⟩
 ·exact ⟨o,H,e,I,r⟩
structure M0 (X:Cx) (o:Expr) (m:Str) (kf ke:Pos):Prop where
 base:attributeBase o m X.env (eval o X.env)=eval o X.env
 few:((backTo ke (starEach [] X.env)).all (λx=>!x.1) && (backToKw ke (keywordEach [] X.env)).all (λx=>x.1.isSome)
  && decide (([]:List Expr).length + ([]:List Keyword).length + (if ([]:List Keyword).isEmpty then 0 else 1) < 30))=true
 line:(kf.endLine == ke.line)=true
def Zch {kf ke:Pos} (hl:PE X l tl) (m:M0 X l "values" kf ke):PI X tg (.Call (.Attribute l "values" kf) [] [] ke) (Zox Itv2 tl):=by
 intro j5 s σ H R I h;refine wpAny_Call_method m.base m.few m.line PySem.F.plainAttrs_dict PySem.F.slot_dict_values PySem.F.type_dict_values (thn (hl j5 s σ H _ I h) λv s1 kc=>?_);obtain ⟨x,H1,I1,r1,q1⟩:=kc;obtain ⟨a,kvs,e,q⟩:=q1;subst e;cases r1;obtain ⟨o,H2,e2,I2,q2⟩:=Zg1 (R:=λo H=>R (Itv2 a kvs o) H) I1 q;obtain ⟨vs,ep,kj,da,ho⟩:=Qp I2 e2;have tz:=Gu da ho;subst tz;obtain ⟨_,_,og,_⟩:=I2.hok a _ e2;have isd:IsD H2 a:=.inl ⟨kvs,.inr ⟨o,e2⟩⟩;obtain ⟨t1,t2,_⟩:=Zbi I2 isd;refine ⟨t1,t2,?_⟩;refine Calls.callWith_builtin Y (PyProof.Rows.evalArgs_empty ?_);refine call_meetsIn PySem.F.slot_dict_values da.dictOf.typeIs PySem.F.entry_dict_values (PySem.F.args_dict_values_1 _) (meets_dict_values (Z2 X.prog X.w) a og) ⟨⟨vs,da.dictOf⟩,?_⟩;have I3:Inv X j5 σ H2 { s1 with heap:=s1.heap.push { cls:=.type "dict_values",data:=.fields #[.ref a] } }:=I2.kept (t':=s1.toks) λb o e=>Ak _ e;refine wpAny_pyIter_values ⟨_,Ap _ Y,Y,Y⟩ (da.push _) ?_;have j8:vs.length=kvs.length:=kj.length.symm;rw [j8];refine ⟨(s1.heap.push { cls:=.type "dict_values",data:=.fields #[.ref a] }).objs.size,[(s1.heap.push { cls:=.type "dict_values",data:=.fields #[.ref a] }).objs.size],_,_,H2,rfl,I3.kept (t':=s1.toks) λb o e=>Ak _ e,Zkg a _ kvs o,⟨_,Ap _ rfl,rfl,rfl⟩,λb hb=>?_,q2⟩;have e:b=(s1.heap.push { cls:=.type "dict_values",data:=.fields #[.ref a] }).objs.size:=by simpa using hb
 subst e;exact I3.fpOk (An _) (I3.hok.fresh (An _))
end
section
noncomputable def Ite (K:W.Frag) (a:Addr):It :=
 ⟨λi H=>∃ xs x,SqL K H a xs/\xs[i]?=some x,λi H x H'=>∃ q y,H q=none/\x=.ref q/\(∀ xs,SqL K H a xs->xs[i]?=some y)/\H'=upd H q (.tup [.int i,y]),λi H=>∃ xs,SqL K H a xs/\xs.length<=i⟩
def Zki {P:Program} {w:World} {K:W.Frag} {lw:List Expr} {x1:Nat} {pos:Pos} (a e it:Addr) (kr:e≠it):Turn P w K (.Tuple lw x1 pos) (Ite K a) [e,it] e (λi h=>(∃ old,IsEnum h e it i old)/\h.IsListIter it a i) where
 mem:=by simp
 obj:=λi h st b hb=>by
  obtain ⟨⟨old,h1⟩,o,h2,c,d⟩:=st
  rcases Ar hb with z | z
  ·subst z
   exact ⟨_,h1,λv z=>by
    have z':Data.fields _=Data.cell v:=z
    cases z'⟩
  ·have z:b=it:=by simpa using z
   subst z;exact ⟨o,h2,λv z=>by rw [d] at z; cases z⟩
 keep:=λi h h' st k=>⟨let ⟨old,h1⟩:=st.1; ⟨old,k e (by simp) _ h1⟩,st.2.at λo q=>k it (by simp) o q⟩
 item:=by
  intro X hP hw hK hc i j5 s σ H E I hf st hg;subst hP hw hK;obtain ⟨xs,x,hq,hx⟩:=hg;obtain ⟨its,rv,p,hz⟩:=I.list hq;obtain ⟨u,hu,ru⟩:=rv.get hx;obtain ⟨f0,f1,f2,f3,f4,f5⟩:=hf e (by simp);obtain ⟨g0,g1,g2,g3,g4,g5⟩:=hf it (by simp);obtain ⟨⟨old,he⟩,hit⟩:=st;refine wpAny_pyNext_enum_item he hit p.isList (x:=u) (by simpa using hu) kr λh' tq hit' ht' hsz' kk=>?_;have eo:=Ao he;have io:it < s.heap.objs.size:=let ⟨o,q,_⟩:=hit; Ao q
  refine ⟨.ref s.heap.objs.size,Y,wpAny_letOwnedTupleGo_enum tq λpz he'' sb=>?_⟩;have kg:∀ b o,b≠e->b≠it->s.heap.get? b=some o->pz.get? b=some o:=λb o h1 h2 q=>(sb.2 b h1).trans (kk b o h1 h2 q);have qd:pz.get? s.heap.objs.size=some { cls:=.type "tuple",data:=.seq #[.int i s.toks,u] }:=(sb.2 _ (Nat.ne_of_gt eo)).trans ht';have hn:H s.heap.objs.size=none:=I.hok.fresh (An _)
  have I2:Inv X j5 σ (upd H s.heap.objs.size (.tup [.int i,x])) { s with heap:=pz,toks:=s.toks + 1 }:=by
   refine I.step (g':=s.gens) (d':=s.drawn) (ch:=[e,it]) (λb hb=>?_) (λb o _ _ hc q _=>kg b o (a5:) (a5:) q) (λb o _ _ hc q _=>⟨o.slots,kg b o (a5:) (a5:) q⟩) (λb o _ q n=>by rw [Zd (As (Ao q))]; exact n)
    (λb o hc q=>⟨o,kg b o (a5:) (a5:) q⟩) (λb ys q=>by rw [Zd (Zi q hn)]; exact q) (λb o ys q=>by rw [Zd (Zi q hn)]; exact q) (λb ps q=>⟨#[],by rw [Zd (Zi q hn),q]; simp⟩) (λm hm=>?_) (λb v q=>?_) I.bare
   ·rcases Ar hb with z | z
    ·subst z; exact ⟨f3,f1,f4,f5⟩
    ·have z:b=it:=by simpa using z
     subst z; exact ⟨g3,g1,g4,g5⟩
   ·obtain ⟨o,es,ep,ho,r⟩:=hm
    exact ⟨o,es,ep,kg _ o (Ne.symm f1) (Ne.symm g1) ho,r⟩
   ·by_cases hb:b=s.heap.objs.size
    ·subst hb
     rw [Zb] at q;cases q;exact ⟨by show 2<=sizeLine; decide,[.int i s.toks,u],.cons ⟨_,rfl⟩ (.cons ru .nil),⟨_,qd,rfl,_,rfl⟩⟩
    ·rw [Zd hb] at q
     refine (I.hok b v q).stay (λc w' hc z=>kg c w' ?_ ?_ z) (λd z=>by rw [Zd (Zi z hn)]; exact z) λd ys z=>by rw [Zd (Zi z hn)]; exact z
     ·rintro rfl
      rcases hc with z | z
      ·rw [z,q] at f0; cases f0
      ·rw [f0] at z; cases z
     ·rintro rfl
      rcases hc with z | z
      ·rw [z,q] at g0; cases g0
      ·rw [g0] at z; cases z
  refine ⟨.ref s.heap.objs.size,_,I2,Y,⟨_,x,hn,Y,λys hy=>by rw [I.list_inj hy hq]; exact hx,Y⟩,⟨⟨u,he''⟩,hit'.at λo q=>(sb.2 it (Ne.symm kr)).trans q⟩,λb hb=>?_⟩
  rcases Ar hb with z | z
  ·subst z; rw [Zd (As eo)]; exact f0
  ·have z:b=it:=by simpa using z
   subst z; rw [Zd (As io)]; exact g0
 done:=by
  intro X hP hw hK hc i j5 s σ H E I hf st hg;subst hP hw hK;obtain ⟨xs,hq,hx⟩:=hg;obtain ⟨its,rv,p,hz⟩:=I.list hq;obtain ⟨g0,g1,g2,g3,g4,g5⟩:=hf it (by simp);obtain ⟨⟨old,he⟩,hit⟩:=st;have hl:=rv.length;exact wpAny_pyNext_enum_end (I.ok.hd hc) he hit p.isList (by simp; lia) λh' eb=>⟨rfl,I.turned (t':=s.toks) (λb o hb e=>eb b o hb e) g0 g1 g3 g4 g5⟩
 self:=λ_ _ _ _ _ st h=>by
  obtain ⟨⟨old,he⟩,_⟩:=st;exact wpAny_pyIter_enum he h
variable {X:Cx}
def Ztg (K:W.Frag) (ta:TA):TI:=λσ H R=>ta σ H λvs H1=>∃ a,vs=[.ref a]/\(∃ xs,SqL K H1 a xs)/\R (Ite K a) H1
def Zpz {lw:List Expr} {x1:Nat} {mq p pos:Pos} {l:Expr} {ta:TA} (hg:Gl X "enumerate") (hm:X.mg "enumerate"=none) (ha:PA X [l] ta) (hs:starEach [l] X.env=[(false,eval l X.env)]:=by rfl):PI X (.Tuple lw x1 mq) (.Call (.Name "enumerate" p) [l] [] pos) (Ztg X.K ta):=by
 intro j5 s σ H R I h;refine Call_ (Wf I hg hm boot_enumerate (PyProof.Rows.callWith_type1 (thn (ha pos j5 s σ H _ I h) λus s1 zz34=>?_) hs Y));obtain ⟨vs,H1,I1,r1,q1⟩:=zz34;obtain ⟨a,e,⟨xs,hq⟩,q⟩:=q1;subst e;obtain ⟨u,rfl,ru⟩:=Wa r1;cases ru;obtain ⟨its,rv,pl,hz⟩:=I1.list hq;refine call_enumerate_list pl.isList λh' he hit hsz hk=>wpAny_pyIter_enum he ?_;have I2:Inv X j5 σ H1 { s1 with heap:=h' }:=I1.kept (t':=s1.toks) hk;refine ⟨s1.heap.objs.size + 1,[s1.heap.objs.size + 1,s1.heap.objs.size],_,_,H1,Y,I2,Zki a _ _ (succ_ne_self _),⟨⟨.none,he⟩,hit⟩,λb hb=>?_,q⟩
 rcases Ar hb with z | z
 ·subst z; exact I1.fpOk (le_succ _) (I1.hok.fresh (le_succ _))
 ·have z:b=s1.heap.objs.size:=by simpa using z
  subst z; exact I1.fpOk (An _) (I1.hok.fresh (An _))
def Zoe {K:W.Frag} {a:Addr} {xs:List V} {g:TG} {tb:TS} {D:Ends} {σ:St} {H:Hp} (Pv:Nat->St->Hp->Prop) (h0:Pv 0 σ H) (hl:∀ i σ H,i<=xs.length->Pv i σ H->SqL K H a xs)
  (hs:∀ i x σ H q,xs[i]?=some x->H q=none->Pv i σ H->g (.ref q) σ (upd H q (.tup [.int i,x])) λσ2 H2=>tb { D with nx:=Pv (i + 1),ct:=Pv (i + 1),bk:=D.nx } σ2 H2) (hd:∀ σ H,Pv xs.length σ H->D.nx σ H) :
  ∃ W:Nat->Nat->St->Hp->Prop,(∃ m,W 0 m σ H)/\∀ i m σ H,W i m σ H ->
   ((Ite K a).stop i H/\D.nx σ H)\/((Ite K a).go i H/\∃ N:St->Hp->Prop,(q:)/\∀ x H',(Ite K a).yld i H x H'->g x σ H' λσ2 H2=>tb { D with nx:=N,ct:=N,bk:=D.nx } σ2 H2):=by
 refine (p:);rintro i m σ H ⟨rfl,hi,p⟩;have q:=hl i σ H hi p;by_cases kl:i < xs.length
 ·refine .inr (M:)
  obtain ⟨c,z,hn,e1,e2,e3⟩:=y;subst e1 e3;exact hs i z σ H c (e2 xs q) hn p
 ·have e:i=xs.length:=by lia
  subst e;exact .inl ⟨⟨xs,q,An _⟩,hd σ H p⟩
def Zgx {kvs:List (Key × V)} {g:TG} {tb:TS} {D:Ends} (Pv:Nat->St->Hp->Prop) (h0:Pv 0 σ H) (hl:∀ i σ H,i<=kvs.length->Pv i σ H->H d=some (ar:))
  (hs:∀ i k x σ H,kvs[i]?=some (k,x)->Pv i σ H->g x σ H λσ2 H2=>tb { D with nx:=Pv (i + 1),ct:=Pv (i + 1),bk:=D.nx } σ2 H2) (hd:∀ σ H,Pv kvs.length σ H->D.nx σ H) :
  ∃ W:Nat->Nat->St->Hp->Prop,(∃ m,W 0 m σ H)/\∀ i m σ H,W i m σ H ->
   ((Itv2 d kvs o).stop i H/\D.nx σ H)\/((Itv2 d kvs o).go i H/\∃ N:St->Hp->Prop,(q:)/\∀ x H',(Itv2 d kvs o).yld i H x H'->g x σ H' λσ2 H2=>tb { D with nx:=N,ct:=N,bk:=D.nx } σ2 H2):=by
 refine ⟨λi m σ H=>m=kvs.length - i/\i<=kvs.length/\Pv i σ H,⟨kvs.length,by simp,Az _,h0⟩,?_⟩;rintro i m σ H ⟨rfl,hi,p⟩;have q:=hl i σ H hi p;by_cases kl:i < kvs.length
 ·refine .inr ⟨⟨kl,q⟩,Pv (i + 1),λσ' H' p'=>⟨kvs.length - (i + 1),by lia,Y,kl,p'⟩,λx H' y=>?_⟩
  obtain ⟨e,k,y⟩:=y;subst e;exact hs i k x σ _ y p
 ·have e:i=kvs.length:=by lia
  subst e;exact .inl ⟨⟨An _,q⟩,hd σ H p⟩
def Zo7 (ta:TA):TE:=λσ H Q=>ta σ H λvs H1=>∃ n:Nat,vs=[.int n]/\n<=1000/\∀ p,H1 p=none->Q (.ref p) (upd H1 p (.lst ((List.range n).map λ(i:Nat)=>V.int i)))
def K7 {p1 p2:Pos} (hgl:Gl X "list") (hml:X.mg "list"=none) (hg:Gl X "range") (hm:X.mg "range"=none) (hc:X.calm=true) (ha:PA X [a] ta) (hs:starEach [a] X.env=[(false,eval a X.env)]:=by rfl)
  (nv:starEach [.Call (.Name "range" p2) [a] [] oz] X.env=[(false,eval (.Call (.Name "range" p2) [a] [] oz) X.env)]:=by rfl):PE X (.Call (.Name "list" p1) [.Call (.Name "range" p2) [a] [] oz] [] pos) (Zo7 ta):=by
 intro j5 s σ H Q I h;refine Call_ (Wf I hgl hml PySem.Pv.boot_list (PyProof.Rows.callWith_type1 ?_ nv Y));rw [nv];refine Calls.spliced_cons ?_;refine Call_ (Wf I hg hm boot_range (PyProof.Rows.callWith_type1 (thn (ha oz j5 s σ H _ I h) λus s1 zz35=>?_) hs Y));obtain ⟨vs,H1,I1,r1,q1⟩:=zz35;obtain ⟨n,e,hn,q⟩:=q1;subst e;obtain ⟨u,rfl,ru⟩:=Wa r1;obtain ⟨t,rfl⟩:=ru;refine call_range_1 (Calls.spliced_nil ?_);have hr:Builtin.Range.rangeSize 0 (n:Int) 1=n:=by rw [rangeSize_one]; split <;> lia
 refine call_list_range (I.ok.hd hc) (IsRange.new ..) (small_one (by lia) (by lia) (by lia) (by lia)) hr (by lia) λh' tk j' c' hk hS o6=>?_;have hk1:∀ b o,s1.heap.get? b=some o->h'.get? b=some o:=λb o e=>hk b o (Ak _ e)
 have hv:Vals ((List.range n).map λ(i:Nat)=>V.int i) j'.toList:=by
  have gen:∀ (l:List Value) (k:Nat),(∀ (j:Nat) (v:Value),l[j]?=some v->∃ t,v=.int ((k + j:Nat):Int) t)->Vals ((List.range' k l.length).map λ(i:Nat)=>V.int i) l:=by
   intro l
   induction l with
   | nil=>intro k _; exact .nil
   | cons v r ih =>
    intro k h;obtain ⟨t,e⟩:=h 0 v rfl;rw [length_cons,range'_succ,map_cons];refine .cons ⟨t,by rw [e]; rfl⟩ (ih (k + 1) λj w hw=>?_);obtain ⟨t',e'⟩:=h (j + 1) w (by simpa using hw);exact ⟨t',by rw [e']; congr 1; lia⟩
  have hl:j'.toList.length=n:=by rw [Array.length_toList]; exact o6.1
  have:=gen j'.toList 0 λj v hj=>by
   obtain ⟨t,e⟩:=o6.2 j v (by rw [<- Array.getElem?_toList]; exact hj);exact ⟨t,by rw [e]; congr 1; lia⟩
  rw [hl,<- range_eq_range'] at this;exact this
 have wp:s1.heap.objs.size<=(s1.heap.push { cls:=.type "range",data:=.fields #[.int 0 s1.toks,.int (n:Int) t,.int 1 (s1.toks + 1)] }).objs.size:=by rw [Heap.size_push]; exact le_succ _
 refine ⟨.ref _,upd H1 _ (.lst ((List.range n).map λ(i:Nat)=>V.int i)),I1.laid hk1 (Nat.le_of_lt (by first | exact Nat.lt_of_le_of_lt wp (Ao hS) | (rw [Heap.size_push]; exact lt_succ_self _))) ⟨?_,j'.toList,c',hv,?_⟩,Y,q _ (I1.hok.fresh ?_)⟩
 ·rw [Ab,length_range,sizeLine_eq]; lia
 ·simpa using hS
 ·rw [Heap.size_push]; exact le_succ _
end
abbrev TJ:=Str->TE
def PJ (X:Cx) (es:List Expr) (t:TJ):Prop :=
 ∀ (out:Str) (j5:List (n:)) (s:Shared) (σ:St) (H:Hp) (Q:VK),Inv X j5 σ H s->t out σ H Q->wpAny (e:) X.A (joinParts out (evalEach es X.env)) (EP X j5 σ Q) X.xe s
section
variable {X:Cx} {es:List Expr} {t:TJ} {pos:Pos}
def jNil:TJ:=λout _ H Q=>out.length<=sizeLine/\Q (.str out) H
def Zlb:PJ X [] jNil:=λout j5 s σ H Q I h=>joinParts_nil (⟨.str out,H,I.tok _,⟨_,rfl⟩,h.2⟩) h.1
def jTxt (x:Str) (t:TJ):TJ:=λout σ H Q=>(out ++ x).length<=sizeLine/\t (out ++ x) σ H Q
def Za8 {x:Str} {k:Nat} (h:PJ X es t):PJ X (.Constant (.str x) k pos :: es) (jTxt x t):=by
 intro out j5 s σ H Q I hq;refine joinParts_cons (Calls.Constant_str ?_);exact ⟨hq.1,h _ j5 _ σ H Q (I.tok _) hq.2⟩
def jInt (te:TE) (t:TJ):TJ:=λout σ H Q=>te σ H λv H1=>∃ i:Int,v=.int i/\i.natAbs.log2 < 1920/\(out ++ (toString i:Str)).length<=sizeLine/\t (out ++ (toString i:Str)) σ H1 Q
def Za9 {e:Expr} {te:TE} (he:PE X e te) (h:PJ X es t):PJ X (.FormattedValue e (-1) none pos :: es) (jInt te t):=by
 intro out j5 s σ H Q I hq;refine joinParts_cons (FormattedValue_plain (thn (he j5 s σ H _ I hq) λu s1 kc=>?_));obtain ⟨v,H1,I1,r1,i,ev,hl,hz,q⟩:=kc;subst ev;obtain ⟨tk,rfl⟩:=r1;exact formatField_int_small hl ⟨hz,h _ j5 _ σ H1 Q (I1.tok _) q⟩
def Zig {v₁ v₂:Expr} {j7:List Expr} (h:PJ X (v₁ :: v₂ :: j7) t):PE X (.JoinedStr (v₁ :: v₂ :: j7) pos) (t Str.empty):=λj5 s σ H Q I hq=>JoinedStr_many (h Str.empty j5 s σ H Q I hq)
end
section
variable {X:Cx}
def X2 (K:W.Frag) (h:X.K=K:=by rfl):IxR X (rIxL K):=h ▸ Z0
def Zeg (K:W.Frag) (h:X.K=K:=by rfl):Xi X (.type "list") (λxs H Q=>∃ p ys,xs=[.ref p]/\(SqL K H p ys\/SqT K H p ys)/\∀ l,H l=none->Q (.ref l) (upd H l (.lst ys))):=h ▸ X3
def Oo (K:W.Frag) (h:X.K=K:=by rfl):Xi X (.type "tuple") (λxs H Q=>∃ p ys,xs=[.ref p]/\((SqL K H p ys/\∀ l,H l=none->Q (.ref l) (upd H l (.tup ys)))\/(SqT K H p ys/\Q (.ref p) H))):=h ▸ Zef
variable {tg l e:Expr} {tl ta:TE} {f:Str} {pos:Pos}
def Zci (K:W.Frag) (hl:PE X l tl) (h:X.K=K:=by rfl):PI X tg l (iTup K tl):=h ▸ Zld hl
def Zih (K:W.Frag) (he:PE X e ta) (hb:attributeBase e f X.env (eval e X.env)=eval e X.env) (h:X.K=K:=by rfl):PE X (.Attribute e f pos) (tFld K ta f):=h ▸ Zp he hb
end
section
variable {prog:Program} {w:World} {A:Around} {E:Value->Shared->Prop}
def Ztl {it l:Addr} {xs:Array Value} (ne:l≠it) (k:Nat):∀ (i:Nat) (s:Shared) (Q:List Value->Shared->Prop),s.heap.IsListIter it l i->s.heap.IsList l xs->i + k<=xs.size ->
  (∀ h',h'.IsListIter it l (i + k)->Heap.SameBut it s.heap h'->Q ((xs.toList.drop i).take k) { s with heap:=h' })->wpAny (a0:) A (draw (.ref it) k) Q E s:=by
 induction k with
 | zero =>
  intro i s Q a b c q;have z:=q s.heap a (Heap.SameBut.refl ..);rw [take_zero] at z;exact wpAny_pure z
 | succ k ih =>
  intro i s Q a b c q;have lt:i < xs.size:=by lia
  refine Al (m:=pyNext (.ref it)) (wpAny_pyNext_list_item a b (x:=xs[i]) (by simp [lt]) λg st sb=>?_);refine Al (wpAny_holding (ih (i + 1) _ _ st (b.extBut sb.extBut ne) (by lia) λg2 md sb2=>wpAny_pure ?_));have z:=q g2 (by rw [Nat.add_right_comm] at md; exact md) (sb.trans sb2);rwa [drop_eq_getElem_cons (by simpa using lt),take_succ_cons,Array.getElem_toList] at z
def Zo3 {l:Addr} {xs:Array Value} {s:Shared} {Q:List Value->Shared->Prop} (hc:A.handled=none) (b:s.heap.IsList l xs)
  (q:∀ h',Heap.ExtBut s.heap.objs.size s.heap h'->Q xs.toList { s with heap:=h' }):wpAny (a0:) A (unpackItems (.ref l) xs.size none) Q E s:=by
 have ne:l≠s.heap.objs.size:=by obtain ⟨o,ho,_⟩:=b; exact As (Ao ho)
 unfold unpackItems notIterableAtAll;refine Al (Al (wpAny_specialOf b.typeIs PySem.F.slot_list_iter.lookup (wpAny_pure ?_)));rw [if_neg (d:)];refine Al (wpAny_holding (wpAny_pyIter_list b ?_));refine Al (wpAny_holding (Ztl ne xs.size 0 _ _ ⟨_,Ap _ Y,Y,Y⟩ (b.push _) (by lia) λg st sb=>?_));have e:(xs.toList.drop 0).take xs.size=xs.toList:=by rw [drop_zero,take_of_length_le]; simp
 rw [e,if_neg (by simp)];refine Al (wpAny_holding (wpAny_pyNext_list_end hc st ((b.push _).extBut sb.extBut ne) (by simp) λg2 eb=>?_));rw [if_neg (d:)];exact wpAny_pure (q g2 λc o hb z=>eb c o hb (sb.extBut c o hb (Ak _ z)))
end
section
variable {X:Cx} {pos:Pos}
def gLst (K:W.Frag) (n:Nat) (t:TGs):TG:=λv σ H Q=>∃ a xs,v=.ref a/\SqL K H a xs/\xs.length=n/\t xs σ H Q
def Zlg {es:List Expr} {k:Nat} {t:TGs} {n:Nat} (hc:X.calm=true) (h:PGs X es t)
  (hn:(assignEach es X.env).length=n:=by rfl) (l6:(assignEach es X.env).findIdx? (·.1)=none:=by rfl):PG X (.Tuple es k pos) (gLst X.K n t):=by
 intro j5 s σ H v u Q I r hw;obtain ⟨a,xs,e1,hq,hl,hw⟩:=hw;subst e1;cases r;obtain ⟨its,rv,p,hz⟩:=I.list hq;rw [assign_Tuple];refine Al (wpAny_standAt ?_);unfold unpack;have zp:(assignEach es X.env).length=its.toArray.size:=by rw [hn,<- hl,rv.length]; simp
 rw [zp,l6];refine Al (wpAny_holding (Zo3 (I.ok.hd hc) p.isList λh' hx=>?_));have I1:Inv X j5 σ H { s with heap:=h' }:=I.kept (t':=s.toks) λb o e=>hx b o (As (Ao e)) e;exact h j5 _ σ H xs _ Q I1 (by simpa using rv) hw
end
def Zby (w:World) (K:W.Frag) (a:Addr) (kvs:List (Key × V)):Prop :=
 ∃ o es ep vs,K.lookup a=some o/\o.ExactDict/\o.data=.dict es ep/\(∀ e∈es,∃ k,Vg k e.key=true/\e.hash=keyH w k)/\(∀ P:Program,Pairs (Z2 P w) es.toList vs)/\(vs.map (·.1)).Nodup/\KV kvs vs/\(a == sysModules)=false
section
variable {X:Cx} {i o:Expr} {ty td:TE} {pos:Pos}
def Zby.here {j5:List (n:)} {σ:St} {H:Hp} {s:Shared} {a:Addr} {kvs:List (Key × V)} (h:Zby X.w X.K a kvs) (I:Inv X j5 σ H s):(a == sysModules)=false/\∃ vs,KV kvs vs/\s.heap.DictOf (Z2 X.prog X.w) a vs:=by
 obtain ⟨o,es,ep,vs,h1,h2,h3,h4,h5,h6,h7,h8⟩:=h;exact ⟨h8,vs,h7,o,es,ep,I.kIn a o h1,h2,h3,h4,h5 X.prog,h6⟩
def Zo8 (w:World) (K:W.Frag) (ty td:TE):TE:=λσ H Q=>ty σ H λy H1=>td σ H1 λx H2=>∃ a kvs k,x=.ref a/\Zby w K a kvs/\y=kV k/\Q (.bl (!(valV kvs k).isSome)) H2
def Zlk (hi:PE X i ty) (ho:PE X o td):PC X .NotIn i o (Zo8 X.w X.K ty td):=by
 intro j5 s σ H Q I h;refine thn (hi j5 s σ H _ I h) λiv s1 zz36=>?_;obtain ⟨y,H1,I1,ry,q1⟩:=zz36;refine thn (ho j5 s1 σ H1 _ I1 q1) λu s2 kc=>?_;obtain ⟨x,H2,I2,rx,a,kvs,k,ex,g,ey,q2⟩:=kc;subst ex ey;obtain rfl:u=Value.ref a:=rx;obtain ⟨hd,vs,kj,dd⟩:=g.here I2;refine wpAny_notIn_of (Qu ry) hd dd.mapOf ?_;rw [<- (kj.val k).isSome_eq];exact ⟨.bl _,H2,I2.tok _,Y,q2⟩
end
section
noncomputable def Itm2 (d:Addr) (kvs:List (Key × V)) (o:Obj):It :=
 ⟨λi H=>i < kvs.length/\H d=some (ar:),λi H x H'=>∃ q k v,H q=none/\x=.ref q/\kvs[i]?=some (k,v)/\H'=upd H q (.tup [kV k,v]),λi H=>kvs.length<=i/\H d=some (ar:)⟩
def Zi5 {P:Program} {w:World} {K:W.Frag} {lw:List Expr} {x1:Nat} {pos:Pos} (d it:Addr) (kvs:List (Key × V)) (o:Obj) :
  Turn P w K (.Tuple lw x1 pos) (Itm2 d kvs o) [it] it (λi h=>∃ a b,IsItemIter h it d i kvs.length (epOf o) a b) where
 mem:=by simp
 obj:=λi h st b hb=>by
  have e:b=it:=by simpa using hb
  subst e;obtain ⟨a,c,z⟩:=st;exact ⟨_,z,λv y=>by
   have y':Data.fields _=Data.cell v:=y
   cases y'⟩
 keep:=λi h h' st k=>by
  obtain ⟨a,c,z⟩:=st;exact ⟨a,c,k it (by simp) _ z⟩
 item:=by
  intro X hP hw hK hc i j5 s σ H E I hf st hg;subst hP hw hK;obtain ⟨hi,hq⟩:=hg;obtain ⟨vs,ep,kj,da,ho⟩:=Qp I hq;have tz:=Gu da ho;subst tz;obtain ⟨f0,f1,f2,f3,f4,f5⟩:=hf it (by simp);obtain ⟨⟨k,v⟩,hx⟩:∃ p,kvs[i]?=some p:=⟨_,Ac hi⟩;obtain ⟨u,hu,ru⟩:=kj.at hx;have j8:vs.length=kvs.length:=kj.length.symm;obtain ⟨a0,b0,st⟩:=st;rw [<- j8] at st;have itlt:=Ao st;refine wpAny_pyNext_items_item st da hu λkey h' hk mj ht hsz kk=>?_;rw [j8] at mj;refine ⟨.ref s.heap.objs.size,Y,wpAny_letOwnedTupleGo_items mj λpz st'' sb=>?_⟩;have kg:∀ b z,b≠it->s.heap.get? b=some z->pz.get? b=some z:=λb z hb e=>(sb.2 b hb).trans (kk b z hb e);have qd:pz.get? s.heap.objs.size=some { cls:=.type "tuple",data:=.seq #[key,u] }:=(sb.2 _ (Nat.ne_of_gt itlt)).trans ht;have hn:H s.heap.objs.size=none:=I.hok.fresh (An _)
  have I2:Inv X j5 σ (upd H s.heap.objs.size (.tup [kV k,v])) { s with heap:=pz }:=by
   refine I.step (g':=s.gens) (d':=s.drawn) (ch:=[it]) (λb hb=>?_) (λb o _ _ hc q _=>kg b o (a5:) q) (λb o _ _ hc q _=>⟨o.slots,kg b o (a5:) q⟩) (λb o _ q n=>by rw [Zd (As (Ao q))]; exact n)
    (λb o hc q=>⟨o,kg b o (a5:) q⟩) (λb ys q=>by rw [Zd (Zi q hn)]; exact q) (λb o ys q=>by rw [Zd (Zi q hn)]; exact q) (λb ps q=>⟨#[],by rw [Zd (Zi q hn),q]; simp⟩) (λm hm=>?_) (λb v' q=>?_) I.bare
   ·have z:b=it:=by simpa using hb
    subst z; exact ⟨f3,f1,f4,f5⟩
   ·obtain ⟨o,es,ep,ho,r⟩:=hm
    exact ⟨o,es,ep,kg _ o (Ne.symm f1) ho,r⟩
   ·by_cases hb:b=s.heap.objs.size
    ·subst hb
     rw [Zb] at q;cases q;exact ⟨by show 2<=sizeLine; decide,[key,u],.cons (Zs9 hk) (.cons ru .nil),⟨_,qd,rfl,_,rfl⟩⟩
    ·rw [Zd hb] at q
     refine (I.hok b v' q).stay (λc w' hc z=>kg c w' ?_ z) (λd z=>by rw [Zd (Zi z hn)]; exact z) λd ys z=>by rw [Zd (Zi z hn)]; exact z
     rintro rfl
     rcases hc with z | z
     ·rw [z,q] at f0; cases f0
     ·rw [f0] at z; cases z
  refine ⟨.ref s.heap.objs.size,_,I2,Y,⟨_,k,v,hn,Y,hx,Y⟩,⟨_,_,st''⟩,λb hb=>?_⟩;have z:b=it:=by simpa using hb
  subst z; rw [Zd (As itlt)]; exact f0
 done:=by
  intro X hP hw hK hc i j5 s σ H E I hf st hg;subst hP hw hK;obtain ⟨hi,hq⟩:=hg;obtain ⟨vs,ep,kj,da,ho⟩:=Qp I hq;have tz:=Gu da ho;subst tz;obtain ⟨f0,f1,f2,f3,f4,f5⟩:=hf it (by simp);have j8:vs.length=kvs.length:=kj.length.symm;obtain ⟨a0,b0,st⟩:=st;rw [<- j8] at st;exact wpAny_pyNext_items_end (I.ok.hd hc) st da (by rw [Ay]; lia) λh' eb=>(J:)
 self:=λ_ _ _ _ _ st h=>by
  obtain ⟨a,b,st⟩:=st;exact PySem.W.kcp_self st h
variable {X:Cx} {l:Expr} {tl:TE}
def Qi {lw:List Expr} {x1:Nat} {mq kf ke:Pos} (hl:PE X l tl) (m:M0 X l "items" kf ke):PI X (.Tuple lw x1 mq) (.Call (.Attribute l "items" kf) [] [] ke) (Zox Itm2 tl):=by
 intro j5 s σ H R I h;refine wpAny_Call_method m.base m.few m.line PySem.F.plainAttrs_dict PySem.F.slot_dict_items PySem.F.type_dict_items (thn (hl j5 s σ H _ I h) λv s1 kc=>?_);obtain ⟨x,H1,I1,r1,q1⟩:=kc;obtain ⟨a,kvs,e,q⟩:=q1;subst e;cases r1;obtain ⟨o,H2,e2,I2,q2⟩:=Zg1 (R:=λo H=>R (Itm2 a kvs o) H) I1 q;obtain ⟨vs,ep,kj,da,ho⟩:=Qp I2 e2;have tz:=Gu da ho;subst tz;obtain ⟨_,_,og,_⟩:=I2.hok a _ e2;have isd:IsD H2 a:=.inl ⟨kvs,.inr ⟨o,e2⟩⟩;obtain ⟨t1,t2,_⟩:=Zbi I2 isd;refine ⟨t1,t2,?_⟩;refine Calls.callWith_builtin Y (PyProof.Rows.evalArgs_empty ?_);refine call_meetsIn PySem.F.slot_dict_items da.dictOf.typeIs PySem.F.entry_dict_items (PySem.F.args_dict_items_1 _) (meets_dict_items (Z2 X.prog X.w) a og) ⟨⟨vs,da.dictOf⟩,?_⟩;have I3:Inv X j5 σ H2 { s1 with heap:=s1.heap.push { cls:=.type "dict_items",data:=.fields #[.ref a] } }:=I2.kept (t':=s1.toks) λb o e=>Ak _ e;refine wpAny_pyIter_items ⟨_,Ap _ Y,Y,Y⟩ (da.push _) ?_;have j8:vs.length=kvs.length:=kj.length.symm;rw [j8];refine ⟨(s1.heap.push { cls:=.type "dict_items",data:=.fields #[.ref a] }).objs.size,[(s1.heap.push { cls:=.type "dict_items",data:=.fields #[.ref a] }).objs.size],_,_,H2,rfl,I3.kept (t':=s1.toks) λb o e=>Ak _ e,Zi5 a _ kvs o,⟨_,_,Ap _ rfl⟩,λb hb=>?_,q2⟩;have e:b=(s1.heap.push { cls:=.type "dict_items",data:=.fields #[.ref a] }).objs.size:=by simpa using hb
 subst e;exact I3.fpOk (An _) (I3.hok.fresh (An _))
def Zdj {kvs:List (Key × V)} {g:TG} {tb:TS} {D:Ends} (Pv:Nat->St->Hp->Prop) (h0:Pv 0 σ H) (hl:∀ i σ H,i<=kvs.length->Pv i σ H->H d=some (ar:))
  (hs:∀ i k x σ H q,kvs[i]?=some (k,x)->H q=none->Pv i σ H->g (.ref q) σ (upd H q (.tup [kV k,x])) λσ2 H2=>tb { D with nx:=Pv (i + 1),ct:=Pv (i + 1),bk:=D.nx } σ2 H2) (hd:∀ σ H,Pv kvs.length σ H->D.nx σ H) :
  ∃ W:Nat->Nat->St->Hp->Prop,(∃ m,W 0 m σ H)/\∀ i m σ H,W i m σ H ->
   ((Itm2 d kvs o).stop i H/\D.nx σ H)\/((Itm2 d kvs o).go i H/\∃ N:St->Hp->Prop,(q:)/\∀ x H',(Itm2 d kvs o).yld i H x H'->g x σ H' λσ2 H2=>tb { D with nx:=N,ct:=N,bk:=D.nx } σ2 H2):=by
 refine ⟨λi m σ H=>m=kvs.length - i/\i<=kvs.length/\Pv i σ H,⟨kvs.length,by simp,Az _,h0⟩,?_⟩;rintro i m σ H ⟨rfl,hi,p⟩;have q:=hl i σ H hi p;by_cases kl:i < kvs.length
 ·refine .inr ⟨⟨kl,q⟩,Pv (i + 1),λσ' H' p'=>⟨kvs.length - (i + 1),by lia,Y,kl,p'⟩,λx H' y=>?_⟩
  obtain ⟨c,k,v,hn,e1,y,e2⟩:=y;subst e1 e2;exact hs i k v σ H c y hn p
 ·have e:i=kvs.length:=by lia
  subst e;exact .inl ⟨⟨An _,q⟩,hd σ H p⟩
end
section
noncomputable def Itr3 (lo st:Int) (n:Nat):It:=⟨λi _=>i < n,λi H x H'=>H'=H/\x=.int (lo + i * st),λi _=>n<=i⟩
def G4 {P:Program} {w:World} {K:W.Frag} {tg:Expr} (it:Addr) (lo st:Int) (n:Nat):Turn P w K tg (Itr3 lo st n) [it] it (λi h=>IsRangeIter h it (lo + (i:Nat) * st) ((n:Int) - (i:Nat)) st) where
 mem:=by simp
 obj:=λi h st b hb=>by
  have e:b=it:=by simpa using hb
  subst e;exact ⟨_,st,λv z=>by
   have z':Data.fields _=Data.cell v:=z
   cases z'⟩
 keep:=λi h h' st k=>k it (by simp) _ st
 item:=by
  intro X hP hw hK hc i j5 s σ H E I hf mj hg;subst hP hw hK;obtain ⟨f0,f1,f2,f3,f4,f5⟩:=hf it (by simp);have W:=Walks.range (prog:=X.prog) (w:=X.w) (I.ok.hd hc) it lo st n;refine W.item i s _ _ hg mj λv h' tk hv md kk=>?_;obtain ⟨t,rfl⟩:=hv;have I1:Inv X j5 σ H { s with heap:=h',toks:=tk }:=I.turned (λb o hb e=>kk b o (by simpa using hb) e) f0 f1 f3 f4 f5;exact ⟨_,Y,Gs (s:={ s with heap:=h',toks:=tk }) (n:="range_iterator") md rfl rfl (d:) ⟨.int (lo + i * st),H,I1,⟨t,rfl⟩,⟨rfl,rfl⟩,md,λb hb=>(hf b hb).1⟩⟩
 done:=by
  intro X hP hw hK hc i j5 s σ H E I hf mj hg;subst hP hw hK;obtain ⟨f0,f1,f2,f3,f4,f5⟩:=hf it (by simp);exact wpAny_pyNext_range_end (I.ok.hd hc) mj (by have:n<=i:=hg; lia) λh' eb=>(J:)
 self:=λ_ _ _ _ _ st h=>wpAny_pyIter_rangeiter st h
end
section
variable {X:Cx} {tg:Expr}
def Ztb (ta:TA):TI:=λσ H R=>ta σ H λvs H1=>∃ n:Nat,vs=[.int 0,.int (3 * n:Nat),.int 3]/\n<=1000/\R (Itr3 0 3 n) H1
def Zk6 {j5:List (n:)} {σ:St} {H:Hp} {s:Shared} {R:It->Hp->Prop} {E:Value->Shared->Prop} {n:Nat} {t u v:Tok} {tk:Nat} (I:Inv X j5 σ H s) (hn:n<=1000)
  (q:R (Itr3 0 3 n) H):wpAny (e:) X.A (pyIter (a6:)) (PIE X j5 σ tg R) E { s with heap:=s.heap.push { cls:=.type "range",data:=.fields #[.int 0 t,.int (3 * n:Nat) u,.int 3 v] },toks:=tk }:=by
 have hr:Builtin.Range.rangeSize 0 ((3 * n:Nat):Int) 3=n:=by
  unfold Builtin.Range.rangeSize;rw [if_pos (d:)];split <;> lia
 have hsm:Builtin.Range.small 0 ((3 * n:Nat):Int) 3=true:=by
  unfold Builtin.Range.small;rw [hr];have e:∀ z:Int,-(2 ^ 62)<=z->z < 2 ^ 62->Builtin.Range.rangeFitsLong z=true:=λz h1 h2=>by
   unfold Builtin.Range.rangeFitsLong
   rw [Bool.and_eq_true,decide_eq_true_eq,decide_eq_true_eq]
   lia
  have e2:=e ((3 * n:Nat):Int) (by lia) (by lia);have e4:=e (n:Int) (by lia) (by lia);have e5:=e (((3 * n:Nat):Int) + (3 - 1)) (by lia) (by lia);rw [e 0 (d:) (d:),e2,e 3 (d:) (d:),e4,if_pos (d:),e5,Bool.or_true];rfl
 refine wpAny_pyIter_range (IsRange.new ..) hsm ?_;have I1:Inv X j5 σ H { s with heap:=s.heap.push { cls:=.type "range",data:=.fields #[.int 0 t,.int (3 * n:Nat) u,.int 3 v] },toks:=tk }:=I.kept λb o e=>Ak _ e;refine ⟨(s.heap.push { cls:=.type "range",data:=.fields #[.int 0 t,.int (3 * n:Nat) u,.int 3 v] }).objs.size,[(s.heap.push { cls:=.type "range",data:=.fields #[.int 0 t,.int (3 * n:Nat) u,.int 3 v] }).objs.size],_,_,H,rfl,
  I1.kept (t':=tk) λb o e=>Ak _ e,G4 _ 0 3 n,?_,λb hb=>?_,q⟩
 ·show IsRangeIter _ _ ((0:Int) + ((0:Nat):Int) * 3) (((n:Nat):Int) - ((0:Nat):Int)) 3
  have e1:(0:Int) + ((0:Nat):Int) * 3=0:=by simp
  have e2:((n:Nat):Int) - ((0:Nat):Int)=Builtin.Range.rangeSize 0 ((3 * n:Nat):Int) 3:=by rw [hr]; simp
  rw [e1,e2];exact Ap _ Y
 ·have e:b=(s.heap.push { cls:=.type "range",data:=.fields #[.int 0 t,.int (3 * n:Nat) u,.int 3 v] }).objs.size:=by simpa using hb
  subst e;exact I1.fpOk (An _) (I1.hok.fresh (An _))
def Zle {a b c:Expr} {ta:TA} {p pos:Pos} (hg:Gl X "range") (hm:X.mg "range"=none) (ha:PA X [a,b,c] ta) (hs:starEach [a,b,c] X.env=[(false,eval a X.env),(false,eval b X.env),(false,eval c X.env)]:=by rfl) (nv:starEach [b,c] X.env=[(false,eval b X.env),(false,eval c X.env)]:=by rfl) :
  PI X tg (.Call (.Name "range" p) [a,b,c] [] pos) (Ztb ta):=by
 intro j5 s σ H R I h;refine Call_ (Wf I hg hm boot_range (F:));obtain ⟨n,e,hn,q⟩:=q1;subst e
 cases r1 with
 | cons r rr =>
  cases rr with
  | cons r' rr =>
   cases rr with
   | cons r'' rr =>
    cases rr;obtain ⟨t,rfl⟩:=r;obtain ⟨t',rfl⟩:=r';obtain ⟨t'',rfl⟩:=r'';exact call_range_3 (d:) (Zk6 I1 hn q) (.inl (PyProof.noPylong_small (d:)))
def Zhs {lo st:Int} {n:Nat} {g:TG} {tt:TT} {tb:TB} {R:St->Hp->Prop} {σ:St} {H:Hp} (Pv:Nat->St->Hp->Prop) (h0:Pv 0 σ H)
  (hs:∀ (i:Nat) σ H,i < n->Pv i σ H->g (.int (lo + i * st)) σ H λσ2 H2=>tt σ2 H2 λb H3=>if b=true then tb σ2 H3 (Pv (i + 1)) else Pv (i + 1) σ2 H3) (hd:∀ σ H,Pv n σ H->R σ H):Ji (Itr3 lo st n) g tt tb R σ H:=by
 refine (ba:);rintro i m σ H ⟨rfl,hi,p⟩;by_cases kl:i < n
 ·refine .inr (az:)
  obtain ⟨e,y⟩:=y;subst e y;exact hs i σ _ kl p
 ·have e:i=n:=by lia
  subst e;exact .inl ⟨An _,hd σ H p⟩
end
section
variable {X:Cx} {fr:Bool} {pos:Pos}
def Zsw (te:TEX) (g:TG):TSX:=λD R σ H=>te σ H (λx H1=>g x σ H1 D.nx) λcls _ H1=>R cls σ H1
def Zpv {tg e:Expr} {te:TEX} {g:TG} (he:PEX fr X e te) (hg:PG X tg g) (hs:swapsWithSole [tg] e pos.line X.env=pure false:=by rfl) (hw:swappedStores [tg] e X.env=pure none:=by rfl)
  (h1:(assignEach [tg] X.env).map (·.2)=[assign tg X.env]:=by rfl) (hx:X.xe=(λ_ _=>False):=by rfl):PSX fr X (.Assign [tg] e pos) (Zsw te g):=by
 intro j5 s σ H D R I h;refine wpAny_Assign_stores (wpAny_mono (he j5 s σ H _ _ I h) (λv s1 ⟨x,H1,I1,r1,q1⟩=>?_) ?_) hs hw
 ·rw [h1]
  have z:=hg j5 s1 σ H1 x v _ I1 r1 q1;rw [hx] at z;exact wpAny_mono z (λ_ _ y=>y) λ_ _ y=>y.elim
 ·rintro ev s1 ⟨e,T,cls,a0,σ',H',g1,g2,g3,g4,g5,g7,rfl,g6⟩
  exact ⟨e,T,cls,a0,σ',H',g1,g2,g3,g4,g5,g7,g6⟩
end
def Znc {X:Cx} (K:W.Frag) (h:X.K=K:=by rfl):SlR X (rSlL K):=h ▸ U2
def kdict_mk2 {w:World} {K:W.Frag} {a:Addr} {h1 h2:Int} {t1 t2 t3 t4:Tok} {ep:Nat} {x1 y1 x2 y2:Str}
  (l:K.lookup a=some ⟨.type "dict",none,.dict #[⟨h1,.str x1 t1,.str y1 t2⟩,⟨h2,.str x2 t3,.str y2 t4⟩] ep,#[]⟩) (e1:h1=hashStr w x1) (e2:h2=hashStr w x2) (ne:x1≠x2) (sy:(a == sysModules)=false) :
  Zby w K a [(Sum.inr x1,.str y1),(Sum.inr x2,.str y2)]:=by
 refine ⟨_,_,_,[(Sum.inr x1,.str y1 t2),(Sum.inr x2,.str y2 t4)],l,⟨Y,Y,Y⟩,Y,λe he=>?_,λP=>?_,?_,?_,sy⟩
 ·have he:e=⟨h1,.str x1 t1,.str y1 t2⟩\/e=⟨h2,.str x2 t3,.str y2 t4⟩:=by simpa using he
  rcases he with rfl | rfl
  ·exact ⟨Sum.inr x1,Q2 x1 t1,e1⟩
  ·exact ⟨Sum.inr x2,Q2 x2 t3,e2⟩
 ·exact .cons (Q2 x1 t1) Y (.cons (Q2 x2 t3) Y .nil)
 ·refine nodup_cons.mpr ⟨?_,by simp⟩
  simp [ne]
 ·exact .cons ⟨Y,⟨_,Y⟩⟩ (.cons ⟨Y,⟨_,Y⟩⟩ .nil)
section
variable {X:Cx}
def rEqL (K:W.Frag):R2:=λx y H Q=>∃ a b ns ms,x=.ref a/\y=.ref b/\SqL K H a (List.map V.int ns)/\SqL K H b (List.map V.int ms)/\Q (.bl (decide (ns=ms))) H
def rNeL (K:W.Frag):R2:=λx y H Q=>∃ a b ns ms,x=.ref a/\y=.ref b/\SqL K H a (List.map V.int ns)/\SqL K H b (List.map V.int ms)/\Q (.bl (!decide (ns=ms))) H
def Zrx (hu:X.A.units + 64 < cLine):OpR X (compareOp .Eq) (rEqL X.K):=by
 intro j5 s σ H x y v u Q I rx ry h;obtain ⟨a,b,ns,ms,rfl,rfl,ha,hb,q⟩:=h;cases rx;cases ry;obtain ⟨ia,ra,pa,_⟩:=I.list ha;obtain ⟨ib,rb,pb,_⟩:=I.list hb;exact PySem.W.eq_intsK pa.isList (Vh ra) pb.isList (Vh rb) hu ⟨.bl _,H,I,Y,q⟩
def Zlq (hu:X.A.units + 64 < cLine):OpR X (compareOp .NotEq) (rNeL X.K):=by
 intro j5 s σ H x y v u Q I rx ry h;obtain ⟨a,b,ns,ms,rfl,rfl,ha,hb,q⟩:=h;cases rx;cases ry;obtain ⟨ia,ra,pa,_⟩:=I.list ha;obtain ⟨ib,rb,pb,_⟩:=I.list hb;exact PySem.W.ne_intsK pa.isList (Vh ra) pb.isList (Vh rb) hu ⟨.bl _,H,I,Y,q⟩
def Zm1 (bs:List Bool):((List.range bs.length).all λi=>bs.getD i true)=bs.all id:=by
 rw [Bool.eq_iff_iff,all_eq_true,all_eq_true];constructor
 ·intro h b hb
  obtain ⟨i,hi,rfl⟩:=mem_iff_getElem.mp hb;have:=h i (mem_range.mpr hi);rw [Ad,Ac hi] at this;exact this
 ·intro h i hi
  have hi:=mem_range.mp hi;rw [Ad,Ac hi];exact h _ (getElem_mem hi)
def Zah (hc:X.calm=true):Xi X (.builtin "all") (λxs H Q=>∃ p bs,xs=[.ref p]/\SqL X.K H p (List.map V.bl bs)/\Q (.bl (bs.all id)) H):=by
 intro j5 s σ H xs us Q I r h;obtain ⟨p,bs,rfl,hq,q⟩:=h;obtain ⟨u,rfl,ru⟩:=Wa r;cases ru;obtain ⟨its,rv,pl,hz⟩:=I.list hq;have ne:p≠s.heap.objs.size:=by obtain ⟨o,ho,_⟩:=pl.isList; exact As (Ao ho)
 refine call_all_walk (au:)
 ·intro i v s' Q' E' hv mn
  have hv:its[i]?=some v:=by simpa using hv
  have j8:=rv.length;rw [Ab] at j8;have hi:i < bs.length:=by have:=(Aa hv).1; lia
  obtain ⟨u,hu,ru⟩:=rv.get (show (bs.map V.bl)[i]?=some (V.bl bs[i]) by rw [Ah,Ac hi]; rfl);rw [hv] at hu;cases hu;cases ru;have e:bs.getD i true=bs[i]:=by rw [Ad,Ac hi]; rfl
  refine wpAny_truthy_bool ?_;have mn:Q' (bs.getD i true) s':=mn;rw [e] at mn;exact mn
 ·intro h' tk hk
  have I1:Inv X j5 σ H { s with heap:=h',toks:=tk }:=I.kept λb o e=>hk b o (a1:) (Ak _ e);have j8:its.toArray.size=bs.length:=by have:=rv.length; rw [Ab] at this; simp; lia
  refine ⟨.bl (bs.all id),H,I1,?_,q⟩;show Value.bool _=_;rw [j8,Zm1]
end
section
noncomputable def Itz (K:W.Frag) (a b:Addr):It :=
  ⟨λi H=>∃ xs ys x y,SqL K H a xs/\SqL K H b ys/\xs[i]?=some x/\ys[i]?=some y,
   λi H v H'=>∃ q x y,H q=none/\v=.ref q/\(∀ xs,SqL K H a xs->xs[i]?=some x)/\(∀ ys,SqL K H b ys->ys[i]?=some y)/\H'=upd H q (.tup [x,y]),
   λi H=>∃ xs ys,SqL K H a xs/\SqL K H b ys/\(xs.length<=i\/ys.length<=i)⟩
def Zm3 {P:Program} {w:World} {K:W.Frag} {lw:List Expr} {x1:Nat} {pos:Pos} (a b z TI TO i1 i2:Addr) (D:ZipApart z TI TO i1 i2 a b) :
  Turn P w K (.Tuple lw x1 pos) (Itz K a b) [z,TI,TO,i1,i2] z (λi h=>IsZip h z TI TO .none/\IsPair h TI (.ref i1) (.ref i2)/\(∃ u v,IsPair h TO u v)/\h.IsListIter i1 a i/\h.IsListIter i2 b i) where
 mem:=by simp
 obj:=λi h st c hc=>by
  obtain ⟨s1,s2,⟨u,v,s3⟩,⟨o4,e4,c4,d4⟩,o5,e5,c5,d5⟩:=st;have hc:c=z\/c=TI\/c=TO\/c=i1\/c=i2:=by simpa using hc
  rcases hc with rfl | rfl | rfl | rfl | rfl
  ·exact ⟨_,s1,λv y=>by have y':Data.fields _=Data.cell v:=y; cases y'⟩
  ·exact ⟨_,s2,λv y=>by have y':Data.seq _ _=Data.cell v:=y; cases y'⟩
  ·exact ⟨_,s3,λv y=>by have y':Data.seq _ _=Data.cell v:=y; cases y'⟩
  ·exact ⟨o4,e4,λv y=>by rw [d4] at y; cases y⟩
  ·exact ⟨o5,e5,λv y=>by rw [d5] at y; cases y⟩
 keep:=λi h h' st k=>by
  obtain ⟨s1,s2,⟨u,v,s3⟩,s4,s5⟩:=st;exact ⟨k z (by simp) _ s1,k TI (by simp) _ s2,⟨u,v,k TO (by simp) _ s3⟩,s4.at λo e=>k i1 (by simp) o e,s5.at λo e=>k i2 (by simp) o e⟩
 item:=by
  intro X hP hw hK hc i j5 s σ H E I hf st hg;subst hP hw hK;obtain ⟨xs,ys,x,y,qz,qy,hx,hy⟩:=hg;obtain ⟨itx,rvx,px,_⟩:=I.list qz;obtain ⟨ity,rvy,py,_⟩:=I.list qy;obtain ⟨u,hu,ru⟩:=rvx.get hx;obtain ⟨v,hv,rv⟩:=rvy.get hy;obtain ⟨s1,s2,⟨u0,v0,s3⟩,s4,s5⟩:=st;refine wpAny_pyNext_zip_item D s1 s2 s3 s4 s5 px.isList py.isList (x:=u) (y:=v) (by simpa using hu) (by simpa using hv) λh' a1 a2 a3 a4 a5 a6 a7=>?_;refine ⟨.ref s.heap.objs.size,Y,wpAny_letOwnedTupleGo_zip a1 λpz b1 sb=>?_⟩;have lt:∀ c∈[z,TI,TO,i1,i2],c < s.heap.objs.size:=λc hc=>by
   obtain ⟨o,e,_⟩:∃ o,s.heap.get? c=some o/\True:=by
    have hc:c=z\/c=TI\/c=TO\/c=i1\/c=i2:=by simpa using hc
    rcases hc with rfl | rfl | rfl | rfl | rfl
    ·exact ⟨_,s1,trivial⟩
    ·exact ⟨_,s2,trivial⟩
    ·exact ⟨_,s3,trivial⟩
    ·obtain ⟨o,e,_⟩:=s4; exact ⟨o,e,trivial⟩
    ·obtain ⟨o,e,_⟩:=s5; exact ⟨o,e,trivial⟩
   exact Ao e
  have kg:∀ c o,c≠z->c≠TO->c≠i1->c≠i2->s.heap.get? c=some o->pz.get? c=some o:=λc o n1 n2 n3 n4 e=>(sb.2 c n1).trans (a7 c o n1 n2 n3 n4 e);have zl:=lt z (by simp);have qd:pz.get? s.heap.objs.size=some { cls:=.type "tuple",data:=.seq #[u,v] }:=(sb.2 _ (Nat.ne_of_gt zl)).trans a5;have hn:H s.heap.objs.size=none:=I.hok.fresh (An _)
  have I2:Inv X j5 σ (upd H s.heap.objs.size (.tup [x,y])) { s with heap:=pz }:=by
   have out:∀ c,c ∉ [z,TO,i1,i2]->c≠z/\c≠TO/\c≠i1/\c≠i2:=λc hc=>by simpa using hc
   refine I.step (g':=s.gens) (d':=s.drawn) (ch:=[z,TO,i1,i2]) (λc hc=>?_) (λc o _ _ hc q _=>?_) (λc o _ _ hc q _=>⟨o.slots,?_⟩) (λc o _ q n=>by rw [Zd (As (Ao q))]; exact n)
    (λc o hc q=>⟨o,?_⟩) (λc zs q=>by rw [Zd (Zi q hn)]; exact q) (λc o zs q=>by rw [Zd (Zi q hn)]; exact q) (λc ps q=>⟨#[],by rw [Zd (Zi q hn),q]; simp⟩) (λm hm=>?_) (λc v' q=>?_) I.bare
   ·have hc:c=z\/c=TO\/c=i1\/c=i2:=by simpa using hc
    have hm:c∈[z,TI,TO,i1,i2]:=by rcases hc with rfl | rfl | rfl | rfl <;> simp
    obtain ⟨f0,f1,f2,f3,f4,f5⟩:=hf c hm;exact ⟨f3,f1,f4,f5⟩
   ·obtain ⟨n1,n2,n3,n4⟩:=out c hc; exact kg c o n1 n2 n3 n4 q
   ·obtain ⟨n1,n2,n3,n4⟩:=out c hc; exact kg c o n1 n2 n3 n4 q
   ·obtain ⟨n1,n2,n3,n4⟩:=out c hc; exact kg c o n1 n2 n3 n4 q
   ·obtain ⟨o,es,ep,ho,r⟩:=hm
    exact ⟨o,es,ep,kg _ o (Ne.symm (hf z (by simp)).2.1) (Ne.symm (hf TO (by simp)).2.1) (Ne.symm (hf i1 (by simp)).2.1) (Ne.symm (hf i2 (by simp)).2.1) ho,r⟩
   ·by_cases hb:c=s.heap.objs.size
    ·subst hb
     rw [Zb] at q;cases q;exact ⟨by show 2<=sizeLine; decide,[u,v],.cons ru (.cons rv .nil),⟨_,qd,rfl,_,rfl⟩⟩
    ·rw [Zd hb] at q
     refine (I.hok c v' q).stay (λe w' he y'=>kg e w' ?_ ?_ ?_ ?_ y') (λd y'=>by rw [Zd (Zi y' hn)]; exact y') λd zs y'=>by rw [Zd (Zi y' hn)]; exact y'
     all_goals
      rintro rfl;have ot:H e=none:=(hf e (by simp)).1
      rcases he with y' | y'
      ·rw [y',q] at ot; cases ot
      ·rw [ot] at y'; cases y'
  refine ⟨.ref s.heap.objs.size,_,I2,Y,⟨_,x,y,hn,Y,λxs' nk=>by rw [I.list_inj nk qz]; exact hx,λys' nk=>by rw [I.list_inj nk qy]; exact hy,Y⟩,
   ⟨b1,(sb.2 TI D.TIz).trans (a7 TI _ D.TIz D.TITO D.TIi1 D.TIi2 s2),⟨u,v,(sb.2 TO D.TOz).trans a2⟩,a3.at λo e=>(sb.2 i1 D.i1z).trans e,a4.at λo e=>(sb.2 i2 D.i2z).trans e⟩,λc hc=>?_⟩;rw [Zd (As (lt c hc))];exact (hf c hc).1
 done:=by
  intro X hP hw hK hc i j5 s σ H E I hf st hg;subst hP hw hK;obtain ⟨xs,ys,qz,qy,j8⟩:=hg;obtain ⟨itx,rvx,px,_⟩:=I.list qz;obtain ⟨ity,rvy,py,_⟩:=I.list qy;obtain ⟨s1,s2,⟨u0,v0,s3⟩,s4,s5⟩:=st;have l1:=rvx.length;have l2:=rvy.length;refine wpAny_pyNext_zip_end (I.ok.hd hc) D s1 s2 s3 s4 s5 px.isList py.isList ?_ λh' eb=>⟨Y,?_⟩
  ·rcases j8 with z | z
   ·exact .inl (by simp; lia)
   ·exact .inr (by simp; lia)
  ·have out:∀ c,c ∉ [z,TO,i1,i2]->c≠z/\c≠TO/\c≠i1/\c≠i2:=λc hc=>by simpa using hc
   refine I.step (g':=s.gens) (d':=s.drawn) (t':=s.toks) (ch:=[z,TO,i1,i2]) (λc hc=>?_) (λc o _ _ hc q _=>?_) (λc o _ _ hc q _=>⟨o.slots,?_⟩) (λc o _ q n=>n)
    (λc o hc q=>⟨o,?_⟩) (λc zs q=>q) (λc o zs q=>q) (λc ps q=>⟨#[],by rw [q]; simp⟩) (λm hm=>?_) (λc v' q=>?_) I.bare
   ·have hc:c=z\/c=TO\/c=i1\/c=i2:=by simpa using hc
    have hm:c∈[z,TI,TO,i1,i2]:=by rcases hc with rfl | rfl | rfl | rfl <;> simp
    obtain ⟨f0,f1,f2,f3,f4,f5⟩:=hf c hm;exact ⟨f3,f1,f4,f5⟩
   ·obtain ⟨n1,n2,n3,n4⟩:=out c hc; exact eb c o n1 n2 n3 n4 q
   ·obtain ⟨n1,n2,n3,n4⟩:=out c hc; exact eb c o n1 n2 n3 n4 q
   ·obtain ⟨n1,n2,n3,n4⟩:=out c hc; exact eb c o n1 n2 n3 n4 q
   ·obtain ⟨o,es,ep,ho,r⟩:=hm
    exact ⟨o,es,ep,eb _ o (Ne.symm (hf z (by simp)).2.1) (Ne.symm (hf TO (by simp)).2.1) (Ne.symm (hf i1 (by simp)).2.1) (Ne.symm (hf i2 (by simp)).2.1) ho,r⟩
   ·refine (I.hok c v' q).stay (λe w' he y'=>eb e w' ?_ ?_ ?_ ?_ y') (λd y'=>y') λd zs y'=>y'
    all_goals
     rintro rfl;have ot:H e=none:=(hf e (by simp)).1
     rcases he with y' | y'
     ·rw [y',q] at ot; cases ot
     ·rw [ot] at y'; cases y'
 self:=λ_ _ _ _ _ st h=>wpAny_pyIter_zip st.1 h
def Zkb (la:a < N) (lb:b < N):ZipApart (N + 4) (N + 2) (N + 3) N (N + 1) a b:=by
 constructor <;> (intro z; first | exact absurd (show (_:Nat)=_ from z) (by lia) | lia)
variable {X:Cx}
def iZip (K:W.Frag) (ta:TA):TI:=λσ H R=>ta σ H λvs H1=>∃ a b xs ys,vs=[.ref a,.ref b]/\SqL K H1 a xs/\SqL K H1 b ys/\R (Itz K a b) H1
def Zlc {lw:List Expr} {x1:Nat} {mq p pos:Pos} {l m:Expr} {ta:TA} (hg:Gl X "zip") (hm:X.mg "zip"=none) (ha:PA X [l,m] ta) (hs:starEach [l,m] X.env=[(false,eval l X.env),(false,eval m X.env)]:=by rfl) (nv:starEach [m] X.env=[(false,eval m X.env)]:=by rfl) :
  PI X (.Tuple lw x1 mq) (.Call (.Name "zip" p) [l,m] [] pos) (iZip X.K ta):=by
 intro j5 s σ H R I h;refine Call_ (Wf I hg hm boot_zip (F:));obtain ⟨a,b,xs,ys,e,qz,qy,q⟩:=q1;subst e;obtain ⟨u,v,rfl,ru,rv⟩:=r1.two;cases ru;cases rv;obtain ⟨itx,rvx,px,_⟩:=I1.list qz;obtain ⟨ity,rvy,py,_⟩:=I1.list qy;have la:a < s1.heap.objs.size:=by obtain ⟨o,ho,_⟩:=px.isList; exact Ao ho
 have lb:b < s1.heap.objs.size:=by obtain ⟨o,ho,_⟩:=py.isList; exact Ao ho
 refine call_zip_2 px.isList py.isList λh' z1 z2 z3 z4 z5 z6 z7=>wpAny_pyIter_zip z1 ?_;have I2:Inv X j5 σ H1 { s1 with heap:=h' }:=I1.kept (t':=s1.toks) z7;generalize hN:s1.heap.objs.size=N at *;refine ⟨N + 4,[N + 4,N + 2,N + 3,N,N + 1],_,_,H1,Y,I2,Zm3 a b (N + 4) (N + 2) (N + 3) N (N + 1) (Zkb la lb),⟨z1,z2,⟨_,_,z3⟩,z4,z5⟩,λc hc=>?_,q⟩;have hc:s1.heap.objs.size<=c:=by
  have hc:c=N + 4\/c=N + 2\/c=N + 3\/c=N\/c=N + 1:=by simpa using hc
  rw [hN]
  rcases hc with rfl | rfl | rfl | rfl | rfl
  ·exact le_add_right _ _
  ·exact le_add_right _ _
  ·exact le_add_right _ _
  ·exact An _
  ·exact le_add_right _ _
 exact I1.fpOk hc (I1.hok.fresh hc)
def Znz {K:W.Frag} {a b:Addr} {xs ys:List V} {g:TG} {tt:TT} {tb:TB} {R:St->Hp->Prop} {σ:St} {H:Hp} (j8:xs.length=ys.length) (Pv:Nat->St->Hp->Prop) (h0:Pv 0 σ H) (hl:∀ i σ H,i<=xs.length->Pv i σ H->SqL K H a xs/\SqL K H b ys)
  (hs:∀ (i:Nat) x y σ H q,xs[i]?=some x->ys[i]?=some y->H q=none->Pv i σ H->g (.ref q) σ (upd H q (.tup [x,y])) λσ2 H2=>tt σ2 H2 λb H3=>if b=true then tb σ2 H3 (Pv (i + 1)) else Pv (i + 1) σ2 H3) (hd:∀ σ H,Pv xs.length σ H->R σ H):Ji (Itz K a b) g tt tb R σ H:=by
 refine (p:);rintro i m σ H ⟨rfl,hi,p⟩;obtain ⟨q1,q2⟩:=hl i σ H hi p;by_cases kl:i < xs.length
 ·have uc:i < ys.length:=by lia
  refine .inr (ac:);obtain ⟨c,u,v,hn,e1,y1,y2,e2⟩:=y;subst e1 e2;exact hs i u v σ H c (y1 xs q1) (y2 ys q2) hn p
 ·have e:i=xs.length:=by lia
  subst e;exact .inl ⟨⟨xs,ys,q1,q2,.inl (An _)⟩,hd σ H p⟩
def Zql {K:W.Frag} {a b:Addr} {xs ys:List V} {g:TG} {tb:TS} {D:Ends} {σ:St} {H:Hp} (j8:xs.length=ys.length) (Pv:Nat->St->Hp->Prop) (h0:Pv 0 σ H) (hl:∀ i σ H,i<=xs.length->Pv i σ H->SqL K H a xs/\SqL K H b ys)
  (hs:∀ i x y σ H q,xs[i]?=some x->ys[i]?=some y->H q=none->Pv i σ H->g (.ref q) σ (upd H q (.tup [x,y])) λσ2 H2=>tb { D with nx:=Pv (i + 1),ct:=Pv (i + 1),bk:=D.nx } σ2 H2) (hd:∀ σ H,Pv xs.length σ H->D.nx σ H) :
  ∃ W:Nat->Nat->St->Hp->Prop,(∃ m,W 0 m σ H)/\∀ i m σ H,W i m σ H ->
   ((Itz K a b).stop i H/\D.nx σ H)\/((Itz K a b).go i H/\∃ N:St->Hp->Prop,(q:)/\∀ x H',(Itz K a b).yld i H x H'->g x σ H' λσ2 H2=>tb { D with nx:=N,ct:=N,bk:=D.nx } σ2 H2):=by
 refine (p:);rintro i m σ H ⟨rfl,hi,p⟩;obtain ⟨q1,q2⟩:=hl i σ H hi p;by_cases kl:i < xs.length
 ·have uc:i < ys.length:=by lia
  refine .inr (ac:);obtain ⟨c,u,v,hn,e1,y1,y2,e2⟩:=y;subst e1 e2;exact hs i u v σ H c (y1 xs q1) (y2 ys q2) hn p
 ·have e:i=xs.length:=by lia
  subst e;exact .inl ⟨⟨xs,ys,q1,q2,.inl (An _)⟩,hd σ H p⟩
end
section
variable {prog:Program} {w:World} {A:Around} {E:Value->Shared->Prop} {s:Shared}
abbrev upIt (a n:Int):Obj:={ cls:=.type "range_iterator",data:=.fields #[rawInt (a + (n - 1) * 1),rawInt n,rawInt (-1)] }
def Om (h1:-(2 ^ 62)<=z) (h2:z < 2 ^ 62):Builtin.Range.rangeFitsLong z=true:=by
 unfold Builtin.Range.rangeFitsLong;rw [Bool.and_eq_true,decide_eq_true_eq,decide_eq_true_eq];lia
def Znh (r:Addr) (a b:Int) (t u v:Tok) (hs:(u:)=true) :
  Meets (Builtin.«range.__reversed__» ⟨[.ref r],[]⟩) (λ_ R s=>IsRange s.heap r a b 1 t u v/\R (.ok (.ret (a6:))) { s with heap:=s.heap.push (upIt a (Builtin.Range.rangeSize a b 1)) }) :=
 .of_wp λprog w A R s h=>by
  obtain ⟨hp,g,d,tk,os⟩:=s;obtain ⟨hl,h⟩:=h;unfold Builtin.«range.__reversed__»;refine Al (wpAny_of_eq (a:=Value.ref r) Y ?_);refine Al (m:=Builtin.Range.rangeFields (.ref r)) ?_;unfold Builtin.Range.rangeFields;refine Al (wpAny_field hl Y (x:=.int a t) Y ?_);refine Al (wpAny_of_eq (a:=some a) Y ?_);refine Al (wpAny_field hl Y (x:=.int b u) Y ?_);refine Al (wpAny_of_eq (a:=some b) Y ?_);refine Al (wpAny_field hl Y (x:=.int 1 v) Y ?_);refine Al (wpAny_of_eq (a:=some 1) Y ?_);refine wpAny_pure ?_;dsimp only;simp only [hs,Bool.not_true,Bool.false_eq_true,if_false,if_true];exact Al (wpAny_newObj_type (wpAny_pure ⟨_,Y,h⟩))
def Zrm:isSubtype (.type "range_iterator") (.type "reversed")=pure false:=by
 rw [isSubtype_type]
 kernel_rfl
def Zpr {t:Tok} (hr:IsRange s.heap r a b 1 t u v)
  (hs:(u:)=true)
  (q:Z (a6:) { s with heap:=s.heap.push (upIt a (Builtin.Range.rangeSize a b 1)) }) :
  codeAny (a0:) A (.call (.builtin "reversed.__new__") ⟨[.type "reversed",.ref r],[]⟩) (wants Z E) s:=by
 have hT:s.TypeIs (.ref r) "range":=⟨_,hr,rfl⟩;refine codeAny_of_tree (show wpAny _ A.in1 (checkBuiltinCall "reversed.__new__" ⟨[.type "reversed",.ref r],[]⟩ >>= λ_=>again (.builtin "reversed.__new__" ⟨[.type "reversed",.ref r],[]⟩)) _ _ s from ?_);refine Al (wpAny_of_eq (PySem.F.newCall_reversed_1 (.ref r)) (wpAny_pure ⟨plainId_quiet PySem.F.plain_reversed_new _,codeAny_builtin PySem.F.entry_reversed_new ?_⟩));rw [Around.under_plainId PySem.F.plain_reversed_new _];unfold Builtin.«reversed.__new__»;refine Al (wpAny_of_eq (newClass_reversed (.ref r)) ?_);refine Al (wpAny_of_eq (a:=()) (by first | rfl | kernel_rfl) (Al (wpAny_of_eq (a:=()) (by first | rfl | kernel_rfl) ?_)));refine Al (wpAny_specialOf hT PySem.F.slot_range_reversed.lookup (Al (wpAny_of_eq (PySem.F.slot_range_reversed.bind (.ref r)) ?_)));have ne:¬ ((Value.builtin "range.__reversed__" == Value.none)=true):=Bool.false_ne_true;dsimp only
 first | rw [if_neg ne] | (show wpAny _ _ (if (Value.builtin "range.__reversed__" == Value.none)=true then _ else _) _ _ _; rw [if_neg ne])
 refine Al (wpAny_rule (Al (m:=runValue (.call (.builtin "range.__reversed__") ⟨[.ref r],[]⟩)) ?_));show wpAny _ _ (call (.builtin "range.__reversed__") [.ref r]) _ _ _;refine call_meets PySem.F.slot_range_reversed hT PySem.F.entry_range_reversed (PySem.F.args_range_reversed_1 _) (Znh r a b t u v hs) ⟨hr,?_⟩
 first | exact wpAny_pure q | exact Al (wpAny_pure (wpAny_pure q))
def Zps {t:Tok} (hr:IsRange s.heap r a b 1 t u v)
  (hs:(u:)=true)
  (q:Q (a6:) { s with heap:=s.heap.push (upIt a (Builtin.Range.rangeSize a b 1)) }):wpAny (a0:) A (call (.type "reversed") [.ref r]) Q E s:=by
 refine callType_other (U:="range_iterator") (Q₁:=λo z=>o=.ref s.heap.objs.size/\z={ s with heap:=s.heap.push (upIt a (Builtin.Range.rangeSize a b 1)) }) (by decide +kernel) PySem.F.create_reversed ⟨_,_,PySem.F.mro_reversed⟩ PySem.F.made_reversed Zrm (PySem.F.typeCall_reversed_1 _) (Zpr hr hs ⟨rfl,rfl⟩) ?_;rintro o z ⟨rfl,rfl⟩;exact ⟨⟨_,Ap _ Y,Y⟩,q⟩
end
section
variable {X:Cx} {tg:Expr}
def Zte (ta:TA):TI:=λσ H R=>ta σ H λvs H1=>∃ (i:Int) (n:Nat),vs=[.int i,.int (i + n)]/\0<=i/\i + n<=100000/\R (Itr3 (i + n - 1) (-1) n) H1
def Zpy {a b:Expr} {ta:TA} {p1 p2 pos oz:Pos} (hgl:Gl X "reversed") (hml:X.mg "reversed"=none) (hg:Gl X "range") (hm:X.mg "range"=none) (ha:PA X [a,b] ta) (hs:starEach [a,b] X.env=[(false,eval a X.env),(false,eval b X.env)]:=by rfl) (rl:starEach [b] X.env=[(false,eval b X.env)]:=by rfl)
  (nv:starEach [.Call (.Name "range" p2) [a,b] [] oz] X.env=[(false,eval (.Call (.Name "range" p2) [a,b] [] oz) X.env)]:=by rfl):PI X tg (.Call (.Name "reversed" p1) [.Call (.Name "range" p2) [a,b] [] oz] [] pos) (Zte ta):=by
 intro j5 s σ H R I h;refine Call_ (Wf I hgl hml boot_reversed (PyProof.Rows.callWith_type1 ?_ nv Y));rw [nv];refine Calls.spliced_cons ?_;refine Call_ (Wf I hg hm boot_range (PyProof.Rows.callWith_type1 (thn (ha oz j5 s σ H _ I h) λus s1 ⟨vs,H1,I1,r1,q1⟩=>?_) (by rw [hs,rl]) (by rw [rl]; rfl)));obtain ⟨i,n,e,h0,h1,q⟩:=q1;subst e;obtain ⟨u,v,rfl,ru,rv⟩:=r1.two;obtain ⟨t,rfl⟩:=ru;obtain ⟨t',rfl⟩:=rv;refine call_range_2 (Calls.spliced_nil ?_);have hr:Builtin.Range.rangeSize i (i + n) 1=n:=by rw [rangeSize_one]; split <;> lia
 have fits:(Builtin.Range.rangeFitsLong i && Builtin.Range.rangeFitsLong (i + n) && Builtin.Range.rangeFitsLong 1 && Builtin.Range.rangeFitsLong (-1) && Builtin.Range.rangeFitsLong (i - 1) && Builtin.Range.rangeFitsLong (Builtin.Range.rangeSize i (i + n) 1))=true:=by
  rw [hr,Om (by lia) (by lia),Om (by lia) (by lia),Om (d:) (d:),Om (d:) (d:),Om (by lia) (by lia),Om (by lia) (by lia)];rfl
 refine Zps (IsRange.new ..) fits ?_;rw [hr];have I2:Inv X j5 σ H1 { s1 with heap:=s1.heap.push { cls:=.type "range",data:=.fields #[.int i t,.int (i + n) t',.int 1 s1.toks] },toks:=s1.toks + 1 }:=I1.kept λb o e=>Ak _ e;have st:IsRangeIter ((ad:).push (upIt i n)) (ad:).objs.size (i + n - 1 + ((0:Nat):Int) * (-1)) ((n:Int) - ((0:Nat):Int)) (-1):=by
  have e1:i + (n:Int) - 1 + ((0:Nat):Int) * (-1)=i + ((n:Int) - 1) * 1:=by simp; lia
  have e2:(n:Int) - ((0:Nat):Int)=n:=by simp
  rw [e1,e2]
  exact Ap _ Y
 refine wpAny_pyIter_rangeiter st ?_;refine ⟨_,[(ad:).objs.size],_,_,H1,rfl,I2.kept (t':=s1.toks + 1) λb o e=>Ak _ e,G4 _ (i + n - 1) (-1) n,st,λb hb=>?_,q⟩;have e:b=(ad:).objs.size:=by simpa using hb
 subst e;exact I2.fpOk (An _) (I2.hok.fresh (An _))
def Zj3 {lo st:Int} {n:Nat} {g:TG} {tb:TS} {D:Ends} {σ:St} {H:Hp} (Pv:Nat->St->Hp->Prop) (h0:Pv 0 σ H)
  (hs:∀ (i:Nat) σ H,i < n->Pv i σ H->g (.int (lo + i * st)) σ H λσ2 H2=>tb { D with nx:=Pv (i + 1),ct:=Pv (i + 1),bk:=D.nx } σ2 H2) (hd:∀ σ H,Pv n σ H->D.nx σ H) :
  ∃ W:Nat->Nat->St->Hp->Prop,(∃ m,W 0 m σ H)/\∀ i m σ H,W i m σ H ->
   ((Itr3 lo st n).stop i H/\D.nx σ H)\/((Itr3 lo st n).go i H/\∃ N:St->Hp->Prop,(q:)/\∀ x H',(Itr3 lo st n).yld i H x H'->g x σ H' λσ2 H2=>tb { D with nx:=N,ct:=N,bk:=D.nx } σ2 H2):=by
 refine (ba:);rintro i m σ H ⟨rfl,hi,p⟩;by_cases kl:i < n
 ·refine .inr (az:)
  obtain ⟨e,y⟩:=y;subst e y;exact hs i σ _ kl p
 ·have e:i=n:=by lia
  subst e;exact .inl ⟨An _,hd σ H p⟩
def Qj (K:W.Frag) (hc:X.calm=true) (h:PGs X es t)
  (hn:(assignEach es X.env).length=n:=by rfl) (l6:(assignEach es X.env).findIdx? (·.1)=none:=by rfl) (hk:X.K=K:=by rfl):PG X (.Tuple es k pos) (gTup K n t):=hk ▸ Ww hc h hn l6
end
end L2
namespace KT
open PySem L2
noncomputable def mV:Option Nat->V
 | none=>.non
 | some j=>.int j
structure TD (M:Lq) (ns:List Int):Prop where
 n:∃ n,1<=n/\n<=40/\M.length=3 * n
 len:ns.length=M.length
 inv:∀ (i j:Nat),M[i]?=some (some j)->M[j]?=some (some i)/\i≠j
 rng:∀ (i:Nat) x,ns[i]?=some x->0<=x/\x<=9999
 eqv:∀ (i j:Nat) x,ns[i]?=some x->ns[j]?=some x->i=j\/M[i]?=some (some j)
 eqm:∀ (i j:Nat),M[i]?=some (some j)->ns[j]?=ns[i]?
structure SewOk (N:Nat) (F:List Nat) (M:Lq):Prop where
 len:M.length=N
 nd:F.Nodup
 free:∀ f∈F,f < N/\M[f]?=some none
 inv:∀ (i j:Nat),M[i]?=some (some j)->M[j]?=some (some i)/\i≠j
def SewOk.start (N:Nat):SewOk N (List.range N) (List.replicate N none):=by
 refine ⟨by simp,nodup_range,λf hf=>?_,λi j h=>?_⟩
 ·have h:=mem_range.mp hf
  exact ⟨h,by rw [getElem?_replicate,if_pos h]⟩
 ·rw [getElem?_replicate] at h
  split at h <;> cases h
def SewOk.skip {one:Nat} (h:SewOk N (one :: F) M):SewOk N F M :=
 ⟨h.len,(nodup_cons.mp h.nd).2,λf hf=>h.free f (mem_cons_of_mem _ hf),h.inv⟩
def SewOk.pair {F:List Nat} {M:Lq} (h:SewOk N (one :: F) M) (hk:F[k]?=some other):SewOk N (F.eraseIdx k) ((M.set one (some other)).set other (some one)):=by
 obtain ⟨n1,n2⟩:=nodup_cons.mp h.nd;have hm:other∈F:=Au hk;have kr:one≠other:=λz=>n1 (z ▸ hm);obtain ⟨h1,f1⟩:=h.free one mem_cons_self;obtain ⟨h2,f2⟩:=h.free other (mem_cons_of_mem _ hm);have l1:one < M.length:=by rw [h.len]; exact h1
 have l2:other < M.length:=by rw [h.len]; exact h2
 have g1:((M.set one (some other)).set other (some one))[one]?=some (some other):=by
  rw [getElem?_set_ne (Ne.symm kr),getElem?_set_self l1]
 have g2:((M.set one (some other)).set other (some one))[other]?=some (some one):=by
  rw [getElem?_set_self (by rw [length_set]; exact l2)]
 have g3:∀ i,i≠one->i≠other->((M.set one (some other)).set other (some one))[i]?=M[i]?:=λi a b=>by
  rw [getElem?_set_ne (Ne.symm b),getElem?_set_ne (Ne.symm a)]
 refine ⟨by rw [length_set,length_set]; exact h.len,n2.sublist (eraseIdx_sublist F k),λf hf=>?_,λi j e=>?_⟩
 ·obtain ⟨i,hi,hik,e⟩:=mem_eraseIdx_iff_getElem.mp hf
  have fm:f∈F:=e ▸ getElem_mem hi;obtain ⟨a,b⟩:=h.free f (mem_cons_of_mem _ fm);have c1:f≠one:=λz=>n1 (z ▸ fm);have c2:f≠other:=λz=>by
   obtain ⟨sg,ek⟩:=Aa hk
   exact hik ((getElem_inj n2).mp (e.trans (z.trans ek.symm)))
  exact ⟨a,by rw [g3 f c1 c2]; exact b⟩
 ·by_cases c1:i=one
  ·subst c1
   rw [g1] at e;cases e;exact ⟨g2,kr⟩
  ·by_cases c2:i=other
   ·subst c2
    rw [g2] at e;cases e;exact ⟨g1,Ne.symm kr⟩
   ·rw [g3 i c1 c2] at e
    obtain ⟨a,b⟩:=h.inv i j e;have d1:j≠one:=λz=>by rw [z,f1] at a; cases a
    have d2:j≠other:=λz=>by rw [z,f2] at a; cases a
    exact ⟨by rw [g3 j d1 d2]; exact a,b⟩
noncomputable def nm (s t:Int) (i:Nat):Int:=(s + t * i) % 10000
noncomputable def rep (M:Lq) (i:Nat):Nat:=match M[i]? with
 | some (some j)=>if j < i then j else i
 | _=>i
noncomputable def flat (M:Lq) (s t:Int):List Int:=(List.range M.length).map λi=>nm s t (rep M i)
noncomputable def Oq:List Int:=[1,3,7,9,37,1009,3333,9999]
def nm_d:∀ t∈Oq,∀ d:Fin 42,t * ((d.val:Nat):Int) % 10000=0->d.val=0:=by decide +kernel
def Zry (ht:t∈Oq) (hi:i < 42) (hj:j < 42) (h:nm s t i=nm s t j):i=j:=by
  have key:∀ a b:Nat,b<=a->a < 42->nm s t a=nm s t b->a=b:=λa b kz ha e=>by
    have e2:=Int.emod_eq_emod_iff_emod_sub_eq_zero.mp e;rw [Int.add_sub_add_left,<- Int.mul_sub,<- Int.natCast_sub kz] at e2;have:=nm_d t ht ⟨a - b,Nat.lt_of_le_of_lt (sub_le _ _) ha⟩ e2;exact Nat.le_antisymm (Nat.sub_eq_zero_iff_le.mp this) kz
  rcases Nat.le_total i j with h' | h'
  · exact (key j i h' hj h.symm).symm
  · exact key i j h' hi h
def Zk5 {N:Nat} (h:i < N):rep M i < N:=by
 unfold rep;split
 ·split <;> omega
 ·exact h
def K3 (M:Lq) (i:Nat):rep M i=i\/(∃ j,M[i]?=some (some j)/\j < i/\rep M i=j):=by
 cases e:M[i]? with
 | none=>exact .inl (by unfold rep; rw [e])
 | some o =>
  cases o with
  | none=>exact .inl (by unfold rep; rw [e])
  | some j =>
   by_cases h:j < i
   ·exact .inr ⟨j,Y,h,by unfold rep; rw [e]; exact if_pos h⟩
   ·exact .inl (by unfold rep; rw [e]; exact if_neg h)
def Zaf {M:Lq} (h:(flat M s t)[i]?=some x):i < M.length/\x=nm s t (rep M i):=by
 unfold flat at h;rw [Ah] at h;by_cases hi:i < M.length
 ·rw [getElem?_range hi] at h
  exact ⟨hi,(Ax h).symm⟩
 ·rw [Ay (by simpa using hi)] at h
  cases h
def Zit {M:Lq} (hi:i < M.length):(flat M s t)[i]?=some (nm s t (rep M i)):=by
 unfold flat;rw [Ah,getElem?_range hi];rfl
def Zo5 {M:Lq} {n:Nat} (h1:1<=n) (h2:n<=14) (hM:M.length=3 * n) (o0:∀ (i j:Nat),M[i]?=some (some j)->M[j]?=some (some i)/\i≠j) (ht:t∈Oq):TD M (flat M s t) where
 n:=⟨n,h1,by omega,hM⟩
 len:=by unfold flat; simp
 inv:=o0
 rng:=λi x h=>by
  obtain ⟨_,rfl⟩:=Zaf h;unfold nm;omega
 eqv:=λi j x hi hj=>by
  obtain ⟨li,ei⟩:=Zaf hi;obtain ⟨lj,ej⟩:=Zaf hj;have e:rep M i=rep M j:=Zry ht (by have:=Zk5 (M:=M) li; omega) (by have:=Zk5 (M:=M) lj; omega) (ei.symm.trans ej)
  rcases K3 M i with a | ⟨a,ha,la,ra⟩
  ·rcases K3 M j with b | ⟨b,hb,lb,rb⟩
   ·exact .inl (a.symm.trans (e.trans b))
   ·have:b=i:=by rw [<- rb,<- e,a]
    subst this;exact .inr (o0 j b hb).1
  ·rcases K3 M j with b | ⟨b,hb,lb,rb⟩
   ·have:a=j:=by rw [<- ra,e,b]
    subst this;exact .inr ha
   ·have:a=b:=by rw [<- ra,e,rb]
    subst this;have c1:=(o0 i a ha).1;have c2:=(o0 j a hb).1;rw [c1] at c2;exact .inl (by cases c2; rfl)
 eqm:=λi j h=>by
  obtain ⟨h',kr⟩:=o0 i j h;have li:i < M.length:=(Aa h).1;have lj:j < M.length:=(Aa h').1;rw [Zit li,Zit lj];have e:rep M j=rep M i:=by
   by_cases c:j < i
   ·have a:rep M i=j:=by unfold rep; rw [h]; exact if_pos c
    have b:rep M j=j:=by unfold rep; rw [h']; exact if_neg (by omega)
    rw [a,b]
   ·have a:rep M i=i:=by unfold rep; rw [h]; exact if_neg c
    have b:rep M j=i:=by unfold rep; rw [h']; exact if_pos (by omega)
    rw [a,b]
  rw [e]
noncomputable def pl (ns:List Int) (n:Nat) (x:Int):List Nat:=(List.range n).filter λi=>decide (ns[i]?=some x)
noncomputable def keys (ns:List Int):Nat->List Int
 | 0=>[]
 | n + 1=>match ns[n]? with
  | some x=>if x∈keys ns n then keys ns n else keys ns n ++ [x]
  | none=>keys ns n
def Xf {ns:List Int} {i:Nat}:i∈pl ns n x ↔ i < n/\ns[i]?=some x:=by
 unfold pl;rw [mem_filter,mem_range];simp
def Znl (ns:List Int) (n:Nat) (x:Int):(pl ns n x).Nodup:=(nodup_range).sublist filter_sublist
def Zla (ns:List Int) (n:Nat) (x:Int):(pl ns n x).Pairwise (· < ·):=(pairwise_lt_range).sublist filter_sublist
def Zie {ns:List Int} (h:ns[n]?=some x):pl ns (n + 1) x=pl ns n x ++ [n]:=by
 unfold pl;rw [range_succ,filter_append];congr 1;simp [h]
def Zf4 {ns:List Int} (h:ns[n]?≠some x):pl ns (n + 1) x=pl ns n x:=by
 unfold pl;rw [range_succ,filter_append];simp [h]
def Wr {ns:List Int} (h:ns[n]?=some x):keys ns (n + 1)=if x∈keys ns n then keys ns n else keys ns n ++ [x]:=by
 show (A:)=_;rw [h]
theorem Y2 {ns:List Int}:∀ {n:Nat} {x:Int},x∈keys ns n ↔ ∃ i,i < n/\ns[i]?=some x
 | 0,x=>by simp [keys]
 | n + 1,x=>by
  have ih:=Y2 (ns:=ns) (n:=n) (x:=x)
  have e:x∈keys ns (n + 1) ↔ x∈keys ns n\/ns[n]?=some x:=by
   cases h:ns[n]? with
   | none =>
    have:keys ns (n + 1)=keys ns n:=by
     show (A:)=_;rw [h]
    rw [this]; simp
   | some y =>
    rw [Wr h];split
    ·constructor
     ·exact .inl
     ·rintro (z | z)
      ·exact z
      ·cases z; assumption
    ·rw [mem_append,mem_singleton]
     constructor
     ·rintro (z | z)
      ·exact .inl z
      ·exact .inr (by rw [z])
     ·rintro (z | z)
      ·exact .inl z
      ·exact .inr (by cases z; rfl)
  rw [e,ih];constructor
  ·rintro (⟨i,h1,h2⟩ | h)
   ·exact ⟨i,by lia,h2⟩
   ·exact ⟨n,by lia,h⟩
  ·rintro ⟨i,h1,h2⟩
   by_cases c:i=n
   ·subst c; exact .inr h2
   ·exact .inl ⟨i,by lia,h2⟩
theorem Qa (ns:List Int):∀ n,(keys ns n).Nodup
 | 0=>nodup_nil
 | n + 1=>by
  have ih:=Qa ns n
  cases h:ns[n]? with
  | none =>
   have:keys ns (n + 1)=keys ns n:=by
    show (A:)=_;rw [h]
   rw [this]; exact ih
  | some y =>
   rw [Wr h];split
   ·exact ih
   ·rename_i c
    refine nodup_append.mpr ⟨ih,by simp,λa ha b hb=>?_⟩;rw [mem_singleton] at hb;subst hb;rintro rfl;exact c ha
theorem Ud (ns:List Int):∀ n,(keys ns n).length<=n
 | 0=>An _
 | n + 1=>by
  have ih:=Ud ns n
  cases h:ns[n]? with
  | none =>
   have:keys ns (n + 1)=keys ns n:=by
    show (A:)=_;rw [h]
   rw [this]; lia
  | some y =>
   rw [Wr h];split
   ·lia
   ·rw [Ae,At]; lia
def Zrr (h:x ∉ keys ns n):pl ns n x=[]:=by
 cases e:pl ns n x with
 | nil=>rfl
 | cons a r =>
  have:a∈pl ns n x:=by rw [e]; exact mem_cons_self
  obtain ⟨h1,h2⟩:=Xf.mp this;exact absurd (Y2.mpr ⟨a,h1,h2⟩) h
def Zf5 (td:TD M ns) (n:Nat) (x:Int):(pl ns n x).length<=2:=by
 match e:pl ns n x with
 | []=>simp
 | [_]=>simp
 | [_,_]=>simp
 | a :: b :: c :: r =>
  exfalso;have nd:=Znl ns n x;rw [e] at nd;have ha:=(Xf.mp (show a∈pl ns n x by rw [e]; simp)).2;have hb:=(Xf.mp (show b∈pl ns n x by rw [e]; simp)).2;have hc:=(Xf.mp (show c∈pl ns n x by rw [e]; simp)).2;simp only [nodup_cons,mem_cons,not_or] at nd;obtain ⟨⟨n1,n2,_⟩,⟨n3,_⟩,_⟩:=nd
  rcases td.eqv a b x ha hb with z | z
  ·exact n1 z
  ·rcases td.eqv a c x ha hc with y | y
   ·exact n2 y
   ·rw [z] at y
    cases y;exact n3 Y
def Vy {M:Lq} {ns:List Int} (td:TD M ns) (hx:x∈keys ns ns.length) :
  (∃ a,pl ns ns.length x=[a]/\ns[a]?=some x/\M[a]?=some none)\/(∃ a b,a < b/\pl ns ns.length x=[a,b]/\ns[a]?=some x/\ns[b]?=some x/\M[a]?=some (some b)/\M[b]?=some (some a)):=by
 obtain ⟨i,h1,h2⟩:=Y2.mp hx;have mi:i∈pl ns ns.length x:=Xf.mpr ⟨h1,h2⟩;have l2:=Zf5 td ns.length x;have st:=Zla ns ns.length x
 match e:pl ns ns.length x with
 | []=>rw [e] at mi; simp at mi
 | [a] =>
  obtain ⟨ga,ha⟩:=Xf.mp (show a∈pl ns ns.length x by rw [e]; simp);refine .inl ⟨a,Y,ha,?_⟩;have la:a < M.length:=by rw [<- td.len]; exact ga
  cases q:M[a]? with
  | none=>rw [List.getElem?_eq_none_iff] at q; lia
  | some o =>
   cases o with
   | none=>rfl
   | some b =>
    exfalso;have hb:ns[b]?=some x:=by rw [td.eqm a b q]; exact ha
    have mb:b∈pl ns ns.length x:=Xf.mpr ⟨(Aa hb).1,hb⟩;rw [e,mem_singleton] at mb;exact (td.inv a b q).2 mb.symm
 | [a,b] =>
  obtain ⟨ga,ha⟩:=Xf.mp (show a∈pl ns ns.length x by rw [e]; simp);obtain ⟨gb,hb⟩:=Xf.mp (show b∈pl ns ns.length x by rw [e]; simp);rw [e] at st;have kz:a < b:=by simpa using st
  rcases td.eqv a b x ha hb with z | z
  ·lia
  ·exact .inr ⟨a,b,kz,Y,ha,hb,z,(td.inv a b z).1⟩
 | a :: b :: c :: r=>rw [e] at l2; simp at l2
noncomputable def part (M:Lq) (ns:List Int) (ks:List Int):Lq:=(List.range M.length).map λi=>match ns[i]? with
 | some x=>if x∈ks then M.getD i none else none
 | none=>none
def Wg (M:Lq) (ns ks:List Int):(part M ns ks).length=M.length:=by unfold part; simp
def Qk {M:Lq} {ns:List Int} (td:TD M ns) (h:ns[i]?=some x):(part M ns ks)[i]?=some (if x∈ks then M.getD i none else none):=by
 have li:i < M.length:=by rw [<- td.len]; exact (Aa h).1
 unfold part;rw [Ah,getElem?_range li];simp [h]
def Znp {M:Lq} (td:TD M ns):part M ns []=List.replicate M.length none:=by
 apply ext_getElem?;intro i;by_cases li:i < M.length
 ·obtain ⟨x,hx⟩:∃ x,ns[i]?=some x:=⟨_,Ac (by rw [td.len]; exact li)⟩
  rw [Qk td hx,getElem?_replicate,if_pos li];simp
 ·rw [Ay (by rw [Wg]; lia),Ay (by simp; lia)]
def Znq {ns:List Int} (td:TD M ns):part M ns (af:)=M:=by
 apply ext_getElem?;intro i;by_cases li:i < M.length
 ·have ln:i < ns.length:=by rw [td.len]; exact li
  obtain ⟨x,hx⟩:∃ x,ns[i]?=some x:=⟨_,Ac ln⟩;rw [Qk td hx,if_pos (Y2.mpr ⟨i,ln,hx⟩),Ad,Ac li];rfl
 ·rw [Ay (by rw [Wg]; lia),Ay (by lia)]
def Zno {M:Lq} {ns:List Int} (td:TD M ns) {a:Nat} (hp:pl ns ns.length x=[a]) (hm:M[a]?=some none):part M ns (ks ++ [x])=part M ns ks:=by
 apply ext_getElem?;intro i;by_cases li:i < M.length
 ·have ln:i < ns.length:=by rw [td.len]; exact li
  obtain ⟨y,hy⟩:∃ x,ns[i]?=some x:=⟨_,Ac ln⟩;rw [Qk td hy,Qk td hy];by_cases c:y=x
  ·subst c
   have:i∈pl ns ns.length y:=Xf.mpr ⟨ln,hy⟩;rw [hp,mem_singleton] at this;subst this;have:M.getD i none=none:=by rw [Ad,hm]; rfl
   rw [this];simp
  ·simp [c]
 ·rw [Ay (by rw [Wg]; lia),Ay (by rw [Wg]; lia)]
def Zlm {M:Lq} {ns:List Int} (td:TD M ns) (hp:pl ns ns.length x=[a,b]) (kz:a < b) (ha:M[a]?=some (some b)) (hb:M[b]?=some (some a)) :
  part M ns (ks ++ [x])=((part M ns ks).set a (some b)).set b (some a):=by
 have la:a < M.length:=(Aa ha).1;have lb:b < M.length:=(Aa hb).1;have na:=(Xf.mp (show a∈pl ns ns.length x by rw [hp]; simp)).2;have nb:=(Xf.mp (show b∈pl ns ns.length x by rw [hp]; simp)).2;apply ext_getElem?;intro i;by_cases li:i < M.length
 ·have ln:i < ns.length:=by rw [td.len]; exact li
  obtain ⟨y,hy⟩:∃ x,ns[i]?=some x:=⟨_,Ac ln⟩;rw [Qk td hy];by_cases cb:i=b
  ·subst cb
   rw [nb] at hy; cases hy;rw [getElem?_set_self (by rw [length_set,Wg]; exact lb),if_pos (by simp),Ad,hb];rfl
  ·rw [getElem?_set_ne (Ne.symm cb)]
   by_cases ca:i=a
   ·subst ca
    rw [na] at hy; cases hy;rw [getElem?_set_self (by rw [Wg]; exact la),if_pos (by simp),Ad,ha];rfl
   ·rw [getElem?_set_ne (Ne.symm ca),Qk td hy]
    have:y≠x:=by
     rintro rfl;have:i∈pl ns ns.length y:=Xf.mpr ⟨ln,hy⟩;rw [hp] at this;simp at this;lia
    simp [this]
 ·rw [Ay (by rw [Wg]; lia),Ay (by rw [length_set,length_set,Wg]; lia)]
def nV (i:Nat):V:=.int (i:Int)
theorem Jd {g:Int->V}:∀ {ks:List Int},valV (ks.map λx=>((Sum.inl x:Key),g x)) (Sum.inl y)=if y∈ks then some (g y) else none
 | []=>by simp [valV]
 | k :: r=>by
  have ih:=Jd (g:=g) (y:=y) (ks:=r);unfold valV at ih ⊢;rw [map_cons,find?_cons];by_cases c:k=y
  ·subst c
   simp
  ·have:(decide ((Sum.inl k:Key)=Sum.inl y))=false:=by
    rw [decide_eq_false_iff_not];intro z;cases z;exact c Y
   simp only [this];rw [ih];have:(y∈k :: r) ↔ y∈r:=by
    rw [mem_cons]
    exact ⟨λz=>z.elim (λw=>absurd w.symm c) id,.inr⟩
   simp only [this]
def Zce {g:Int->V} {ks:List Int} (h:y ∉ ks):putK (ks.map λx=>((Sum.inl x:Key),g x)) (Sum.inl y) v=(ks.map λx=>((Sum.inl x:Key),g x)) ++ [(Sum.inl y,v)]:=by
 unfold putK;rw [if_neg];intro z;rw [any_eq_true] at z;obtain ⟨kv,h1,h2⟩:=z;obtain ⟨x,hx,rfl⟩:=mem_map.mp h1;have:(Sum.inl x:Key)=Sum.inl y:=of_decide_eq_true h2;cases this;exact h hx
def Zh8 {g:Int->V} {ks:List Int} (h:y∈ks):putK (ks.map λx=>((Sum.inl x:Key),g x)) (Sum.inl y) v=ks.map λx=>((Sum.inl x:Key),if x=y then v else g x):=by
 unfold putK;rw [if_pos]
 ·rw [map_map]
  apply map_congr_left;intro x hx;show (if (Sum.inl x:Key)=Sum.inl y then ((Sum.inl x:Key),v) else (Sum.inl x,g x))=_;by_cases c:x=y
  ·subst c; simp
  ·rw [if_neg (λz=>by cases z; exact c Y),if_neg c]
 ·rw [any_eq_true]
  exact ⟨_,mem_map.mpr ⟨y,h,Y⟩,by simp⟩
def Y1 {α:Type} {f:α->V} {l:List α} {i:Nat} {x:α} (h:l[i]?=some x):atI (l.map f) (i:Int)=some (f x):=Xq (by rw [Ah,h]; rfl)
def Y9 (h:upd H p o q=none):q≠p/\H q=none:=by
 by_cases c:q=p
 ·subst c; rw [Zb] at h; cases h
 ·rw [Zd c] at h; exact ⟨c,h⟩
noncomputable def after (p:Int):Int:=if p % 3=2 then p - 2 else p + 1
noncomputable def Zu (p:Int):Int:=if p % 3=0 then p + 2 else p - 1
noncomputable def Y3 (left:Bool) (a b:Nat):List Int:=if left then [after a,Zu b,after b,Zu a] else [after a,Zu a,after b,Zu b]
noncomputable def mvI (left:Bool) (a b:Nat) (z:Int):Int :=
 if z=after a then (if left then Zu b else Zu a) else if z=Zu b then (if left then after b else after a) else if z=after b then (if left then Zu a else Zu b) else if z=Zu a then (if left then after a else after b) else z
noncomputable def glV (left:Bool) (a b:Nat):List (Key × V):=(Y3 left a b).map λx=>((Sum.inl x:Key),V.int (mvI left a b x))
def Yt (p:Nat):after p / 3=(p:Int) / 3/\after p≠p/\0<=after p:=by unfold after; split <;> lia
def Yn (p:Nat):Zu p / 3=(p:Int) / 3/\Zu p≠p/\0<=Zu p:=by unfold Zu; split <;> lia
def Gm (p:Nat):after p≠Zu p:=by unfold after Zu; split <;> split <;> lia
def Qb {a b:Nat} (h:a / 3≠b / 3):after a≠Zu a/\after a≠after b/\after a≠Zu b/\Zu a≠after b/\Zu a≠Zu b/\after b≠Zu b:=by
 obtain ⟨h1,_,_⟩:=Yt a;obtain ⟨h2,_,_⟩:=Yn a;obtain ⟨h3,_,_⟩:=Yt b;obtain ⟨h4,_,_⟩:=Yn b;have e:¬ (a:Int) / 3=(b:Int) / 3:=by lia
 refine ⟨Gm a,λz=>e ?_,λz=>e ?_,λz=>e ?_,λz=>e ?_,Gm b⟩
 ·rw [<- h1,<- h3,z]
 ·rw [<- h1,<- h4,z]
 ·rw [<- h2,<- h3,z]
 ·rw [<- h2,<- h4,z]
theorem Zbf:∀ (kvs j':List (Key × V)),((j' ++ kvs).map (·.1)).Nodup->J8 j' kvs=j' ++ kvs
 | [],j',_=>by simp [J8]
 | kv :: r,j',h=>by
  have h1:(j'.any λx=>decide (x.1=kv.1))=false:=by
   rw [any_eq_false];intro x hx z;have z:x.1=kv.1:=of_decide_eq_true z;rw [Aj,map_cons] at h;have:=(nodup_append.mp h).2.2 x.1 (mem_map.mpr ⟨x,hx,rfl⟩) kv.1 mem_cons_self;exact this z
  have h2:putK j' kv.1 kv.2=j' ++ [kv]:=by
   unfold putK;rw [if_neg (by rw [h1]; decide)]
  show J8 (putK j' kv.1 kv.2) r=_;rw [h2,Zbf r (j' ++ [kv]) (by simpa using h)];simp
def Zgo {left:Bool} {a b:Nat} (h:a / 3≠b / 3):J8 [] (glV left a b)=glV left a b:=by
 obtain ⟨h1,h2,h3,h4,h5,h6⟩:=Qb h;refine Zbf (glV left a b) [] ?_;unfold glV Y3;rw [nil_append,map_map];cases left <;> simp [h1,h2,h3,h4,h5,h6,Ne.symm h1,Ne.symm h2,Ne.symm h3,Ne.symm h4,Ne.symm h5,Ne.symm h6]
def Zgt {a b:Nat} (h:a / 3≠b / 3):glV true a b=[(Sum.inl (after a),.int (Zu b)),(Sum.inl (Zu b),.int (after b)),(Sum.inl (after b),.int (Zu a)),(Sum.inl (Zu a),.int (after a))]:=by
 obtain ⟨h1,h2,h3,h4,h5,h6⟩:=Qb h;unfold glV Y3 mvI;simp [h1,h2,h3,h4,h5,h6,Ne.symm h1,Ne.symm h2,Ne.symm h3,Ne.symm h4,Ne.symm h5,Ne.symm h6]
def Zdh {a b:Nat} (h:a / 3≠b / 3):glV false a b=[(Sum.inl (after a),.int (Zu a)),(Sum.inl (Zu a),.int (after b)),(Sum.inl (after b),.int (Zu b)),(Sum.inl (Zu b),.int (after a))]:=by
 obtain ⟨h1,h2,h3,h4,h5,h6⟩:=Qb h;unfold glV Y3 mvI;simp [h1,h2,h3,h4,h5,h6,Ne.symm h1,Ne.symm h2,Ne.symm h3,Ne.symm h4,Ne.symm h5,Ne.symm h6]
def Zq5 {left:Bool} {a b:Nat} {z:Int}:(valV (glV left a b) (Sum.inl z)).getD (V.int z)=V.int (mvI left a b z):=by
 unfold glV;rw [Jd];by_cases c:z∈Y3 left a b
 ·rw [if_pos c]; rfl
 ·rw [if_neg c]
  have:mvI left a b z=z:=by
   unfold mvI;have n1:¬ z=after a:=λe=>c (a3:);have n2:¬ z=Zu b:=λe=>c (a3:);have n3:¬ z=after b:=λe=>c (a3:);have n4:¬ z=Zu a:=λe=>c (a3:);rw [if_neg n1,if_neg n2,if_neg n3,if_neg n4]
  rw [this];rfl
def Zaa (left:Bool) (i j:Nat) (z:Int):mvI left i j z=z\/mvI left i j z=after i\/mvI left i j z=Zu i\/mvI left i j z=after j\/mvI left i j z=Zu j:=by
 unfold mvI;by_cases c1:z=after i
 ·cases left <;> simp [c1]
 ·by_cases c2:z=Zu j
  ·rw [if_neg c1,if_pos c2]; cases left <;> simp
  ·by_cases c3:z=after j
   ·rw [if_neg c1,if_neg c2,if_pos c3]; cases left <;> simp
   ·by_cases c4:z=Zu i
    ·rw [if_neg c1,if_neg c2,if_neg c3,if_pos c4]; cases left <;> simp
    ·rw [if_neg c1,if_neg c2,if_neg c3,if_neg c4]; exact .inl Y
noncomputable def j9 (left:Bool) (i j z:Nat):Nat:=(mvI left i j z).toNat
def Zl3 (left:Bool) (i j z:Nat):0<=mvI left i j z:=by
 have h1:=(Yt i).2.2;have h2:=(Yn i).2.2;have h3:=(Yt j).2.2;have h4:=(Yn j).2.2
 rcases Zaa left i j z with e | e | e | e | e <;> rw [e] <;> lia
def Jb (left:Bool) (i j z:Nat):((j9 left i j z:Nat):Int)=mvI left i j z:=Int.toNat_of_nonneg (Zl3 left i j z)
def Zin {i j:Nat} (h:i / 3≠j / 3) (left:Bool) (z:Int):mvI (!left) i j (mvI left i j z)=z:=by
 obtain ⟨h1,h2,h3,h4,h5,h6⟩:=Qb h;by_cases c1:z=after i
 ·subst c1; cases left <;> simp [mvI,h1,h2,h3,h4,h5,h6,Ne.symm h1,Ne.symm h2,Ne.symm h3,Ne.symm h4,Ne.symm h5,Ne.symm h6]
 ·by_cases c2:z=Zu j
  ·subst c2; cases left <;> simp [mvI,h1,h2,h3,h4,h5,h6,Ne.symm h1,Ne.symm h2,Ne.symm h3,Ne.symm h4,Ne.symm h5,Ne.symm h6]
  ·by_cases c3:z=after j
   ·subst c3; cases left <;> simp [mvI,h1,h2,h3,h4,h5,h6,Ne.symm h1,Ne.symm h2,Ne.symm h3,Ne.symm h4,Ne.symm h5,Ne.symm h6]
   ·by_cases c4:z=Zu i
    ·subst c4; cases left <;> simp [mvI,h1,h2,h3,h4,h5,h6,Ne.symm h1,Ne.symm h2,Ne.symm h3,Ne.symm h4,Ne.symm h5,Ne.symm h6]
    ·cases left <;> simp [mvI,c1,c2,c3,c4]
def Xn {i j:Nat} (h:i / 3≠j / 3) (left:Bool) (z:Nat):j9 (!left) i j (j9 left i j z)=z:=by
 have:=Zin h left z;rw [<- Jb left,<- Jb] at this;lia
def Ua {i j:Nat} (h:i / 3≠j / 3) (left:Bool) (z:Nat):j9 left i j (R:)=z:=by
 have:=Xn h (!left) z;rw [Bool.not_not] at this;exact this
def Gk {p:Int} {q a:Nat} (e:(q:Int)=p) (h:p / 3=(a:Int) / 3):q / 3=a / 3:=by lia
def Zbt {p:Int} {q i n:Nat} (e:(q:Int)=p) (h:p / 3=(i:Int) / 3) (hi:i < 3 * n):q < 3 * n:=by lia
def Zek {p:Int} {i n:Nat} (h0:0<=p) (h:p / 3=(i:Int) / 3) (hi:i < 3 * n):0<=p/\p < 3 * (n:Int):=⟨h0,by lia⟩
def Jl {i j n:Nat} (hi:i < 3 * n) (hj:j < 3 * n) (left:Bool) {z:Nat} (hz:z < 3 * n):j9 left i j z < 3 * n:=by
 have e:=Jb left i j z
 rcases Zaa left i j z with q | q | q | q | q <;> rw [q] at e
 ·exact Zbt e Y hz
 ·exact Zbt e (Yt i).1 hi
 ·exact Zbt e (Yn i).1 hi
 ·exact Zbt e (Yt j).1 hj
 ·exact Zbt e (Yn j).1 hj
def Zim {i j:Nat} (h:i / 3≠j / 3) (left:Bool) {y z:Nat} (e:j9 left i j y=j9 left i j z):y=z:=by
 have:=congrArg (j9 (!left) i j) e;rw [Xn h,Xn h] at this;exact this
noncomputable def exN (left:Bool) (i j:Nat) (ns:List Int):List Int:=(List.range ns.length).map λz=>ns.getD (R:) 0
noncomputable def exM (left:Bool) (i j:Nat) (M:Lq):Lq:=(List.range M.length).map λz=>(M.getD (R:) none).map (j9 left i j)
def Jy (left:Bool) (i j:Nat) (ns:List Int):(exN left i j ns).length=ns.length:=by unfold exN; simp
def Vm (left:Bool) (i j:Nat) (M:Lq):(exM left i j M).length=M.length:=by unfold exM; simp
section
variable {M:Lq} {ns:List Int} {i j:Nat}
def Wz (td:TD M ns) (hi:i < M.length) (hj:j < M.length) (h:i / 3≠j / 3) (left:Bool) {z:Nat}:z < M.length->(exN left i j ns)[z]?=ns[j9 (!left) i j z]?:=by
 intro hz;obtain ⟨n,_,_,hn⟩:=td.n;rw [hn] at hi hj hz;have uu:=Jl hi hj (!left) hz;have l1:z < ns.length:=by rw [td.len,hn]; exact hz
 have l2:j9 (!left) i j z < ns.length:=by rw [td.len,hn]; exact uu
 unfold exN;rw [Ah,getElem?_range l1];show some (ns.getD _ 0)=_;rw [Ad,Ac l2];rfl
def Jz (td:TD M ns) (hi:i < M.length) (hj:j < M.length) (h:i / 3≠j / 3) (left:Bool) {z:Nat}:z < M.length->(exM left i j M)[z]?=(M[j9 (!left) i j z]?).map (Option.map (j9 left i j)):=by
 intro hz;obtain ⟨n,_,_,hn⟩:=td.n;have ot:=hz;rw [hn] at hi hj hz;have uu:=Jl hi hj (!left) hz;have l2:j9 (!left) i j z < M.length:=by rw [hn]; exact uu
 unfold exM;rw [Ah,getElem?_range ot];show some ((M.getD _ none).map _)=_;rw [Ad,Ac l2];rfl
def TD.ex (td:TD M ns) (hi:i < M.length) (hj:j < M.length) (h:i / 3≠j / 3) (left:Bool):TD (exM left i j M) (exN left i j ns) where
 n:=by obtain ⟨n,a,b,c⟩:=td.n; exact ⟨n,a,b,by rw [Vm]; exact c⟩
 len:=by rw [Jy,Vm]; exact td.len
 inv:=λp q e=>by
  have hp:p < M.length:=by have:=(Aa e).1; rw [Vm] at this; exact this
  rw [Jz td hi hj h left hp] at e
  cases e1:M[j9 (!left) i j p]? with
  | none=>rw [e1] at e; cases e
  | some o =>
   cases o with
   | none=>rw [e1] at e; cases e
   | some b =>
    rw [e1] at e;have e2:j9 left i j b=q:=by have:=Ax e; exact Ax this
    obtain ⟨i1,i2⟩:=td.inv _ _ e1;have hb:b < M.length:=(Aa i1).1;obtain ⟨n,_,_,hn⟩:=td.n;have hq:q < M.length:=by rw [<- e2,hn]; rw [hn] at hi hj hb; exact Jl hi hj left hb
    have eb:j9 (!left) i j q=b:=by rw [<- e2,Xn h]
    refine ⟨?_,λz=>i2 ?_⟩
    ·rw [Jz td hi hj h left hq,eb,i1]
     show some (some (j9 left i j (j9 (!left) i j p)))=_;rw [Ua h]
    ·rw [z,eb]
 rng:=λp x e=>by
  have hp:p < M.length:=by have:=(Aa e).1; rw [Jy,td.len] at this; exact this
  rw [Wz td hi hj h left hp] at e;exact td.rng _ x e
 eqv:=λp q x e1 e2=>by
  have hp:p < M.length:=by have:=(Aa e1).1; rw [Jy,td.len] at this; exact this
  have hq:q < M.length:=by have:=(Aa e2).1; rw [Jy,td.len] at this; exact this
  rw [Wz td hi hj h left hp] at e1;rw [Wz td hi hj h left hq] at e2
  rcases td.eqv _ _ x e1 e2 with z | z
  ·exact .inl (Zim h (!left) z)
  ·right
   rw [Jz td hi hj h left hp,z];show some (some (j9 left i j (j9 (!left) i j q)))=_;rw [Ua h]
 eqm:=λp q e=>by
  have hp:p < M.length:=by have:=(Aa e).1; rw [Vm] at this; exact this
  have e0:=e;rw [Jz td hi hj h left hp] at e
  cases e1:M[j9 (!left) i j p]? with
  | none=>rw [e1] at e; cases e
  | some o =>
   cases o with
   | none=>rw [e1] at e; cases e
   | some b =>
    rw [e1] at e;have e2:j9 left i j b=q:=by have:=Ax e; exact Ax this
    obtain ⟨i1,i2⟩:=td.inv _ _ e1;have hb:b < M.length:=(Aa i1).1;obtain ⟨n,_,_,hn⟩:=td.n;have hq:q < M.length:=by rw [<- e2,hn]; rw [hn] at hi hj hb; exact Jl hi hj left hb
    have eb:j9 (!left) i j q=b:=by rw [<- e2,Xn h]
    rw [Wz td hi hj h left hp,Wz td hi hj h left hq,eb];exact td.eqm _ _ e1
noncomputable def nst (left:Bool) (i j:Nat) (ns:List Int) (k:Nat):List Int:=(List.range ns.length).map λz=>if ((j9 (!left) i j z:Nat):Int)∈(Y3 left i j).take k then ns.getD (R:) 0 else ns.getD z 0
def Znt (left:Bool) (i j:Nat) (ns:List Int):nst left i j ns 0=ns:=by
 apply ext_getElem?;intro z;unfold nst;rw [Ah];by_cases hz:z < ns.length
 ·rw [getElem?_range hz,take_zero]
  simp [hz]
 ·rw [Ay (by simpa using hz),Ay (by lia)]
  rfl
def Znw {i j:Nat} {left:Bool} {z:Int} (h:z ∉ Y3 left i j) (l2:Bool):mvI l2 i j z=z:=by
 have n1:¬ z=after i:=λe=>h (a3:);have n2:¬ z=Zu j:=λe=>h (a3:);have n3:¬ z=after j:=λe=>h (a3:);have n4:¬ z=Zu i:=λe=>h (a3:);unfold mvI;rw [if_neg n1,if_neg n2,if_neg n3,if_neg n4]
def Zgw (left:Bool) (i j:Nat):(Y3 left i j).length=4:=by unfold Y3; split <;> rfl
def Zp9 {i j:Nat} (h:i / 3≠j / 3) (left:Bool) (ns:List Int):nst left i j ns 4=exN left i j ns:=by
 unfold nst exN;apply map_congr_left;intro z _;by_cases c:((j9 (!left) i j z:Nat):Int)∈(Y3 left i j).take 4
 ·rw [if_pos c]
 ·rw [if_neg c]
  rw [take_of_length_le (Nat.le_of_eq (Zgw left i j))] at c;have e1:=Znw c left;rw [Jb,] at e1;have e2:=Zin h (!left) (z:Int);rw [Bool.not_not] at e2;rw [e2] at e1;have:j9 (!left) i j z=z:=by have:=Jb (!left) i j z; lia
  rw [this]
def Znu {i j:Nat} (h:i / 3≠j / 3) {left:Bool} {ns:List Int} {k p:Nat} (hk:(Y3 left i j)[k]?=some (p:Int)) (hq:j9 left i j p < ns.length) :
  (nst left i j ns k).set (j9 left i j p) (ns.getD p 0)=nst left i j ns (k + 1):=by
 apply ext_getElem?;intro z;unfold nst;by_cases c:z=j9 left i j p
 ·subst c
  rw [getElem?_set_self (by simpa using hq),Ah,getElem?_range hq];have e:j9 (!left) i j (j9 left i j p)=p:=Xn h left p;have:((j9 (!left) i j (j9 left i j p):Nat):Int)∈(Y3 left i j).take (k + 1):=by rw [e,Aw,hk]; simp
  simp only [Option.map_some,this,if_true];rw [e]
 ·rw [getElem?_set_ne (Ne.symm c),Ah,Ah]
  by_cases d:z < ns.length
  ·rw [getElem?_range d]
   have ne:¬ ((j9 (!left) i j z:Nat):Int)=(p:Int):=λe=>c (by
    have e:j9 (!left) i j z=p:=by lia
    rw [<- e,Ua h]);have:((j9 (!left) i j z:Nat):Int)∈(Y3 left i j).take (k + 1) ↔ ((j9 (!left) i j z:Nat):Int)∈(Y3 left i j).take k:=by
    rw [Aw,hk]
    simp [ne]
   simp only [Option.map_some,this]
  ·rw [Ay (by simpa using d)]
   rfl
def Zqk {left:Bool} {i j n k:Nat} {p:Int} (hi:i < 3 * n) (hj:j < 3 * n) (hk:(Y3 left i j)[k]?=some p):0<=p/\p < 3 * (n:Int):=by
 have hm:p∈Y3 left i j:=Au hk;obtain ⟨a1,_,a3⟩:=Yt i;obtain ⟨b1,_,b3⟩:=Yn i;obtain ⟨c1,_,c3⟩:=Yt j;obtain ⟨d1,_,d3⟩:=Yn j;have hm:p=after i\/p=Zu i\/p=after j\/p=Zu j:=by
  unfold Y3 at hm
  split at hm <;> simp at hm <;> rcases hm with e | e | e | e <;> simp [e]
 rcases hm with e | e | e | e <;> rw [e]
 ·exact Zek a3 a1 hi
 ·exact Zek b3 b1 hi
 ·exact Zek c3 c1 hj
 ·exact Zek d3 d1 hj
noncomputable def mfil {α:Type} (left:Bool) (i j n:Nat) (f:Nat->α) (d:α) (k:Nat):List α:=(List.range n).map λz=>if j9 (!left) i j z < k then f z else d
def Zdb {α:Type} (left:Bool) (i j n:Nat) (f:Nat->α) (d:α):mfil left i j n f d 0=List.replicate n d:=by
 unfold mfil;apply ext_getElem?;intro z;rw [Ah,getElem?_replicate];by_cases h:z < n
 ·rw [getElem?_range h,if_pos h]; simp
 ·rw [Ay (by simpa using h),if_neg h]; rfl
def Zgn {α:Type} (left:Bool) (i j n:Nat) (f:Nat->α) (d:α) (k:Nat):(mfil left i j n f d k).length=n:=by unfold mfil; simp
def Zdc {α:Type} {left:Bool} {i j n:Nat} {f:Nat->α} {d:α} {k:Nat} (h:i / 3≠j / 3) (hk:j9 left i j k < n):(mfil left i j n f d k).set (j9 left i j k) (f (j9 left i j k))=mfil left i j n f d (k + 1):=by
 apply ext_getElem?;intro z;unfold mfil;by_cases c:z=j9 left i j k
 ·subst c
  rw [getElem?_set_self (by simpa using hk),Ah,getElem?_range hk];have e:j9 (!left) i j (j9 left i j k)=k:=Xn h left k;simp only [Option.map_some];rw [e,if_pos (by lia)]
 ·rw [getElem?_set_ne (Ne.symm c),Ah,Ah]
  by_cases d:z < n
  ·rw [getElem?_range d]
   have ne:j9 (!left) i j z≠k:=λe=>c (by rw [<- e,Ua h]);have:j9 (!left) i j z < k + 1 ↔ j9 (!left) i j z < k:=by lia
   simp only [Option.map_some,this]
  ·rw [Ay (by simpa using d)]
   rfl
def Zl6 {α:Type} {left:Bool} {i j n:Nat} {f:Nat->α} {d:α} {k:Nat} (h:i / 3≠j / 3) (hd:f (j9 left i j k)=d):mfil left i j n f d k=mfil left i j n f d (k + 1):=by
 unfold mfil;apply map_congr_left;intro z _;by_cases c:j9 (!left) i j z=k
 ·have:z=j9 left i j k:=by rw [<- c,Ua h]
  subst this;rw [if_neg (by lia),if_pos (by lia),hd]
 ·have:j9 (!left) i j z < k + 1 ↔ j9 (!left) i j z < k:=by lia
  simp only [this]
def Znx {α:Type} {left:Bool} {i j m:Nat} {f:Nat->α} {d:α} (hi:i < 3 * m) (hj:j < 3 * m):mfil left i j (3 * m) f d (3 * m)=(List.range (3 * m)).map f:=by
 unfold mfil;apply map_congr_left;intro z hz;rw [if_pos (Jl hi hj _ (mem_range.mp hz))]
def Zl1 {i j:Nat} (h:i / 3≠j / 3) (left:Bool):j9 left i j i=i/\j9 left i j j=j:=by
 obtain ⟨a1,a2,_⟩:=Yt i;obtain ⟨b1,b2,_⟩:=Yn i;obtain ⟨c1,c2,_⟩:=Yt j;obtain ⟨d1,d2,_⟩:=Yn j;have e:¬ (i:Int) / 3=(j:Int) / 3:=by lia
 have i1:¬ (i:Int)=after i:=λz=>a2 z.symm;have i2:¬ (i:Int)=Zu i:=λz=>b2 z.symm;have i3:¬ (i:Int)=after j:=λz=>e (by rw [<- c1,<- z]);have i4:¬ (i:Int)=Zu j:=λz=>e (by rw [<- d1,<- z]);have j1:¬ (j:Int)=after i:=λz=>e (by rw [<- a1,<- z]);have j2:¬ (j:Int)=Zu i:=λz=>e (by rw [<- b1,<- z]);have j3:¬ (j:Int)=after j:=λz=>c2 z.symm;have j4:¬ (j:Int)=Zu j:=λz=>d2 z.symm;constructor
 ·have:mvI left i j i=i:=by unfold mvI; rw [if_neg i1,if_neg i4,if_neg i3,if_neg i2]
  have:=Jb left i j i;lia
 ·have:mvI left i j j=j:=by unfold mvI; rw [if_neg j1,if_neg j4,if_neg j3,if_neg j2]
  have:=Jb left i j j;lia
def Zr7 (td:TD M ns) (hi:i < M.length) (hj:j < M.length) (h:i / 3≠j / 3) (left:Bool) (hm:M[i]?=some (some j)):(exM left i j M)[i]?=some (some j)/\(exN left i j ns)[i]?=ns[i]?:=by
 rw [Jz td hi hj h left hi,Wz td hi hj h left hi,(Zl1 h (!left)).1,hm];show some (some (j9 left i j j))=_/\_;rw [(Zl1 h left).2];exact ⟨Y,Y⟩
end
noncomputable def ko (p k:Nat):Nat:=p - p % 3 + (p + k) % 3
def Zpn {n:Nat} (h:p < 3 * n):ko p k < 3 * n:=by unfold ko; omega
def Zfb (p k:Nat):ko p k / 3=p / 3:=by unfold ko; omega
noncomputable def Wn (M:Lq) (p:Int):Bool:=decide (0<=p/\p < M.length) && (M.getD p.toNat none).isSome
noncomputable def Jh (M:Lq) (a p:Int):Bool:=match M.getD a.toNat none with
 | some m=>decide (p / 3=(m:Int) / 3) && !decide (p=(m:Int))
 | none=>false
noncomputable def rot {α:Type} (ws:List α) (s:Nat):List α:=ws.drop s ++ ws.take s
noncomputable def J6 (M:Lq) (ws vs:List Int):List Bool:=(ws.zip vs).map λp=>Jh M p.1 p.2
noncomputable def Jk (M:Lq) (ws:List Int):Bool:=!ws.isEmpty && ((ws.map (Wn M)).all id && (J6 M ws (rot ws (1 % ws.length))).all id)
def Jt {α:Type} (ws:List α) (h:s<=ws.length):(rot ws s).length=ws.length:=by
 unfold rot;rw [Ae,length_drop,Ai];lia
def Zcd {α:Type} {ws:List α} {k:Nat} (hs:s < ws.length) (hk:k < ws.length):(rot ws s)[k]?=ws[(k + s) % ws.length]?:=by
 unfold rot;by_cases c:k < ws.length - s
 ·rw [Av (by rw [length_drop]; exact c),getElem?_drop,mod_eq_of_lt (by lia),Nat.add_comm]
 ·rw [getElem?_append_right (by rw [length_drop]; lia),length_drop,getElem?_take_of_lt (by lia)]
  have:(k + s) % ws.length=k - (ws.length - s):=by
   rw [show k + s=(k - (ws.length - s)) + ws.length by lia,add_mod_right,mod_eq_of_lt (by lia)]
  rw [this]
structure Pl (M:Lq) (ws:List Nat):Prop where
 ne:ws≠[]
 has:∀ p∈ws,∃ m,M[p]?=some (some m)
 nxt:∀ (k:Nat) (a p:Nat),ws[k]?=some a->ws[(k + 1) % ws.length]?=some p->∀ m,M[a]?=some (some m)->p / 3=m / 3/\p≠m
abbrev wI (ws:List Nat):List Int:=ws.map λ(x:Nat)=>(x:Int)
def Zdn {M:Lq} {p:Nat}:Wn M (p:Int)=true ↔ ∃ m,M[p]?=some (some m):=by
 unfold Wn;rw [Bool.and_eq_true,decide_eq_true_eq,Int.toNat_natCast];constructor
 ·rintro ⟨⟨_,h1⟩,h2⟩
  have h1:p < M.length:=by lia
  rw [Ad,Ac h1] at h2;obtain ⟨m,hm⟩:=Option.isSome_iff_exists.mp h2;exact ⟨m,by rw [Ac h1]; exact congrArg some hm⟩
 ·rintro ⟨m,hm⟩
  have h1:p < M.length:=(Aa hm).1;exact ⟨⟨by lia,by lia⟩,by rw [Ad,hm]; rfl⟩
def Zbm {M:Lq} {a p:Nat} (h:M[a]?=some (some m)):Jh M (a:Int) (p:Int)=true ↔ p / 3=m / 3/\p≠m:=by
 unfold Jh;rw [Int.toNat_natCast,Ad,h];show (decide ((p:Int) / 3=(m:Int) / 3) && !decide ((p:Int)=(m:Int)))=true ↔ _;rw [Bool.and_eq_true,decide_eq_true_eq,Bool.not_eq_true',decide_eq_false_iff_not];lia
def Zhz {ws vs:List Int} (hl:ws.length=vs.length):(J6 M ws vs).all id=true ↔ ∀ (k:Nat) (a p:Int),ws[k]?=some a->vs[k]?=some p->Jh M a p=true:=by
 unfold J6;rw [all_eq_true];constructor
 ·intro h k a p ha hp
  refine h (Jh M a p) (mem_map.mpr ⟨(a,p),?_,Y⟩);exact Au (i:=k) (by rw [getElem?_zip_eq_some]; exact ⟨ha,hp⟩)
 ·intro h b hb
  obtain ⟨⟨a,p⟩,hm,rfl⟩:=mem_map.mp hb;obtain ⟨k,hk⟩:=getElem?_of_mem hm;rw [getElem?_zip_eq_some] at hk;exact h k a p hk.1 hk.2
def Zc6:Jk M (wI ws)=true ↔ Pl M ws:=by
 have hl:(wI ws).length=ws.length:=by simp
 unfold Jk;rw [Bool.and_eq_true,Bool.and_eq_true,Bool.not_eq_true',hl];constructor
 ·rintro ⟨h0,h1,h2⟩
  have kr:ws≠[]:=by
   rintro rfl;cases h0
  have oh:0 < ws.length:=by cases ws with | nil=>exact absurd rfl kr | cons _ _=>simp
  have hh:∀ p∈ws,∃ m,M[p]?=some (some m):=λp hp=>by
   refine Zdn.mp (all_eq_true.mp h1 _ (mem_map.mpr ⟨(p:Int),mem_map.mpr ⟨p,hp,Y⟩,Y⟩))
  refine ⟨kr,hh,λk a p ha hp m hm=>?_⟩;have hs:1 % ws.length < (wI ws).length:=by rw [hl]; exact mod_lt _ oh
  have hk:k < (wI ws).length:=by rw [hl]; exact (Aa ha).1
  refine (Zbm hm).mp ((Zhz (by rw [Jt _ (Nat.le_of_lt hs)])).mp h2 k a p (by rw [Ah,ha]; rfl) ?_);rw [Zcd hs hk,hl,show (k + 1 % ws.length) % ws.length=(k + 1) % ws.length by rw [add_mod_mod],Ah,hp];rfl
 ·rintro ⟨h0,h1,h2⟩
  have oh:0 < ws.length:=by cases ws with | nil=>exact absurd rfl h0 | cons _ _=>simp
  have hs:1 % ws.length < (wI ws).length:=by rw [hl]; exact mod_lt _ oh
  refine ⟨by cases ws with | nil=>exact absurd rfl h0 | cons _ _=>rfl,?_,?_⟩
  ·rw [all_eq_true]
   intro b hb;obtain ⟨p',hp',rfl⟩:=mem_map.mp hb;obtain ⟨p,hp,rfl⟩:=mem_map.mp hp';exact Zdn.mpr (h1 p hp)
  ·refine (Zhz (by rw [Jt _ (Nat.le_of_lt hs)])).mpr λk a p ha hp=>?_
   have hk:k < (wI ws).length:=(Aa ha).1;rw [Zcd hs hk,hl,show (k + 1 % ws.length) % ws.length=(k + 1) % ws.length by rw [add_mod_mod]] at hp;rw [Ah] at ha hp
   cases ea:ws[k]? with
   | none=>rw [ea] at ha; cases ha
   | some a' =>
    cases ep:ws[(k + 1) % ws.length]? with
    | none=>rw [ep] at hp; cases hp
    | some p' =>
     rw [ea] at ha; cases ha;rw [ep] at hp; cases hp;obtain ⟨m,hm⟩:=h1 a' (Au ea);exact (Zbm hm).mpr (h2 k a' p' ea ep m hm)
structure Ch (M:Lq) (row:List Nat):Prop where
 has:∀ p∈row,∃ m,M[p]?=some (some m)
 nxt:∀ (k:Nat) (a p m:Nat),row[k]?=some a->row[k + 1]?=some p->M[a]?=some (some m)->p / 3=m / 3/\p≠m
def Ch.one {M:Lq} {p:Nat} (h:M[p]?=some (some m)):Ch M [p]:=by
 refine ⟨λq hq=>?_,λk a q m' _ hq=>?_⟩
 ·rw [mem_singleton] at hq; subst hq; exact ⟨m,h⟩
 ·simp at hq
def Ch.snoc {M:Lq} {row:List Nat} {p:Nat} (h:Ch M row) (hl:row.getLast?=some a) (hm:M[a]?=some (some m)) (h1:p / 3=m / 3) (h2:p≠m) (hp:∃ q,M[p]?=some (some q)):Ch M (row ++ [p]):=by
 refine ⟨λq hq=>?_,λk b q m' hb hq se=>?_⟩
 ·rcases mem_append.mp hq with z | z
  ·exact h.has q z
  ·rw [mem_singleton] at z; subst z; exact hp
 ·by_cases c:k + 1 < row.length
  ·rw [Av c] at hq
   rw [Av (by lia)] at hb;exact h.nxt k b q m' hb hq se
  ·have hk:k + 1 < (row ++ [p]).length:=(Aa hq).1
   rw [Ae,At] at hk;have hk:k + 1=row.length:=by lia
   rw [getElem?_append_right (by lia),hk] at hq;have:q=p:=by simpa using hq.symm
   subst this;rw [Av (by lia)] at hb;rw [getLast?_eq_getElem?,show row.length - 1=k by lia,hb] at hl;cases hl;rw [hm] at se;cases se;exact ⟨h1,h2⟩
def Ch.cut {row:List Nat} {e:Nat} (h:Ch M row) (hse:s < e) (h1:row[s]?=some a) (h2:row[e]?=some a):Pl M ((row.drop s).take (e - s)):=by
 have he:e < row.length:=(Aa h2).1;have hl:((row.drop s).take (e - s)).length=e - s:=by rw [Ai,length_drop]; lia
 have gt:∀ k,k < e - s->((row.drop s).take (e - s))[k]?=row[s + k]?:=λk hk=>by rw [getElem?_take_of_lt hk,getElem?_drop]
 refine ⟨λz=>by rw [z] at hl; simp at hl; lia,λp hp=>?_,λk b p hb hp m hm=>?_⟩
 ·exact h.has p (mem_of_mem_drop (mem_of_mem_take hp))
 ·rw [hl] at hp
  have hk:k < e - s:=by have:=(Aa hb).1; rw [hl] at this; exact this
  rw [gt k hk] at hb;by_cases c:k + 1 < e - s
  ·rw [mod_eq_of_lt c,gt _ c] at hp
   exact h.nxt (s + k) b p m hb (by rw [show s + k + 1=s + (k + 1) by lia]; exact hp) hm
  ·have hk:k + 1=e - s:=by lia
   rw [hk,mod_self,gt 0 (by lia),Nat.add_zero,h1] at hp;cases hp;exact h.nxt (s + k) b a m hb (by rw [show s + k + 1=e by lia]; exact h2) hm
section
variable {α:Type}
theorem Zf1 (l:List α):∀ (m k:Nat),k < m * l.length->(List.replicate m l).flatten[k]?=l[k % l.length]?
 | 0,k,h=>by simp at h
 | m + 1,k,h=>by
  rw [replicate_succ,flatten_cons];by_cases c:k < l.length
  ·rw [Av c,mod_eq_of_lt c]
  ·have hl:0 < l.length:=by
    cases l with
    | nil=>simp at h
    | cons _ _=>simp
   rw [getElem?_append_right (by lia),Zf1 l m (k - l.length) (by rw [succ_mul] at h; lia)];congr 1;rw [mod_eq_sub_mod (by lia:k ≥ l.length)]
def Zf0 (l:List α) (m:Nat):(List.replicate m l).flatten.length=m * l.length:=by
 induction m with
 | zero=>simp
 | succ m ih=>rw [replicate_succ,flatten_cons,Ae,ih,succ_mul,Nat.add_comm]
end
end KT
namespace L2
open PySem PySem.Spec PyProof.Rows
section
variable {X:Cx}
def Zel (i j:Int):Prop:=0 < j/\j.natAbs.log2 < 9000
def Zgb:OpR X (binaryOp .FloorDiv) (rI Zel λi j=>.int (i / j)):=opI λi j _ _ _ _ _ hc q=>by
 have h1:(0:Int) < j:=hc.1;exact floordiv_int (by lia) (by rw [Int.fdiv_eq_ediv_of_nonneg i (by lia)]; exact q) (.inl (PyProof.noPylong_of_log2 hc.2))
def Zik:OpR X (binaryOp .Mult) (rI IntMulOk λi j=>.int (i * j)):=opI λ_ _ _ _ _ _ _ hc q=>mul_int q hc
def log2_lt {j:Int} {k:Nat} (h:j.natAbs < 2 ^ k) (hk:0 < k):j.natAbs.log2 < k:=by
 by_cases e:j.natAbs=0
 ·rw [e]; simpa using hk
 ·exact (Nat.log2_lt e).mpr h
def Zi1 {j:Int} {k:Nat} (h:j.natAbs < 2 ^ k) (hk:0 < k):Builtin.Int.intBits j<=k:=by
 unfold Builtin.Int.intBits;have:=log2_lt h hk;split
 ·lia
 ·lia
end
end L2
namespace HL
open PySem PyProof.Rows HT
end HL
namespace L2
open PySem PySem.Spec PyProof.Rows
end L2
namespace HT
end HT
namespace L2
open PySem PySem.Spec PyProof.Rows
section
variable {X:Cx} {j5:List (n:)} {σ:St} {H:Hp} {s:Shared} {a:Addr} {y v:V} {u r:Value} {A:Around} {E:Value->Shared->Prop}
def Ztm {kvs:List (Key × V)} (I:Inv X j5 σ H s) (e:H a=some (.dK kvs)) (l:kvs.length < sizeLine) (ry:RelV (kV k) u) (rv:RelV v r) (h:∀ s',Inv X j5 σ (upd H a (.dK (putK kvs k v))) s'->Q () s') :
  wpAny (e:) A (dictSet a u r) Q E s:=by
 obtain ⟨z,hd,vs,kj,dd⟩:=Zej I.hok e;have hz:vs.length<=sizeLine:=by rw [<- kj.length]; exact z
 have hl:(putK kvs k v).length<=sizeLine:=by have:=Jm kvs k v; lia
 refine wpAny_dictSet_pairs (hsz:=hz) (Qu ry) dd λh' re hs=>h _ ?_;have he:∃ q,h'.get? a=some q:=let ⟨q,_,_,hq,_⟩:=re; ⟨q,hq⟩
 exact On I (by rw [e]; exact True.intro) hs he (Zbo hl hd (kj.put k rv) re)
end
def Zrg (tk tv:TE) (D:Addr):TB:=λσ H N=>tk σ H λx H1=>tv σ H1 λv H2=>∃ kvs k,x=kV k/\H2 D=some (.dK kvs)/\kvs.length < sizeLine/\N σ (upd H2 D (.dK (putK kvs k v)))
section
variable {X:Cx}
def V3 (hk:PE X kx tk) (hv:PE X vx tv) :
  PB X ((eval kx X.env >>= λkv=>holding [kv] (eval vx X.env) >>= λvv=>standAt p >>= λ_=>holding [kv,vv] (dictSet D kv vv)) >>= λ_=>again c) c (Zrg tk tv D):=by
 intro j5 s σ H N I h;refine Al (Al (thn (hk j5 s σ H _ I h) λu s1 zz37=>?_));obtain ⟨x,H1,I1,r1,q1⟩:=zz37;refine Al (wpAny_holding (thn (hv j5 s1 σ H1 _ I1 q1) λw s2 zz38=>?_));obtain ⟨v,H2,I2,r2,q2⟩:=zz38;refine Al (wpAny_standAt (wpAny_holding ?_));obtain ⟨kvs,k,rfl,hD,hl,q⟩:=q2;exact Ztm I2 hD hl r1 r2 λs3 I3=>wpAny_pure ⟨Y,σ,_,I3,q⟩
end
def Zes (ts:List Str) (fv:List (Str × Nat)) (wi:TI) (g:TG) (tt:TT) (tb:Addr->TB):TE:=λσ H Q=>wi σ H λJ H1=>∀ D,H1 D=none ->
 Ji J g tt (tb D) (λ_ H'=>Q (.ref D) H') (blkS ts fv σ) (upd H1 D (.dK []))
section
variable {X:Cx} {ts:List Str} {fv:List (Str × Nat)} {scope:Scope} {kx vx t0 i0:Expr} {f0:List Expr} {j7:List Comprehension} {pos:Pos} {wi:TI} {g:TG} {tt:TT} {tb:Addr->TB} {lh:Env->Addr->Addr->Sem Fin}
theorem Zbp (B:BlkOk X scope fv) (hc:X.calm=true) (hi:PI X t0 i0 wi)
  (hg:∀ C s₀ H₀ ex,PG (f:) t0 g) (ht:∀ C s₀ H₀ ex,PTs (f:) f0 tt)
  (rc:∀ (env:Env) (it D:Addr),compTurn (h:) 0 (.ref it) (.ref D) env=(standAt i0.pos >>= λ_=>pyNext (.ref it) >>= λr=>match r with
   | none=>pure (.done .next)
   | some v=>letOwnedTupleGo t0 (.ref it) v >>= λ_=>assign t0 env v >>= λ_ =>
    (l:) >>= λok =>
     if ok=true then lh env it D else again (.compLoop (h:) 0 (.ref it) (.ref D) env)))
  (hb:∀ C s₀ H₀ ex it D,PB (f:) (lh (f:).env it D) (.compLoop (h:) 0 (.ref it) (.ref D) (f:).env) (tb D)) {RR:Value->Addr->Result->Shared->Prop} (I:Inv X j5 σ H s) (h:Zes ts fv wi g tt tb σ H Q)
  (hRR:∀ D C s' H',Inv X j5 σ H' s'->H' C=none->X.s₀.heap.objs.size<=C->C≠X.env.locals->(∀ x c,X.env.cells.lookup x=some c->c≠C)->(∀ p∈X.pn ++ j5,p.1≠C)->(∃ m,s'.heap.Ns C m)->Q (.ref D) H'->RR (.ref D) C (.ok .next) s') :
  wpAny (e:) X.A (eval i0 X.env) (λx s₁=>wpAny (e:) X.A (pyIter x) (λit s₂=>wpAny (e:) X.A newDict (λj' s₃ =>
   wpAny (e:) X.A (newFunctionEnv scope X.env.globals (Y8 X.env scope.names []) [] X.env.qual none .none (some X.env)) (λud s₄ =>
    codeAny (e:) X.A (.compStart (h:) 0 it j' { ud with scope:=relabel scope X.env }) (RR j' ud.locals) s₄) X.xe s₃) X.xe s₂) X.xe s₁) X.xe s:=by
 refine thn (hi j5 s σ H _ I h) λv s1 h1=>thn h1 λze s2 h2=>?_;obtain ⟨it,fp,tn,J,H2,e,I2,T,md,f2,L⟩:=h2;subst e;have L:=L s2.heap.objs.size I2.fresh;refine wpAny_newObj_type ?_;have I3:Inv X j5 σ (upd H2 s2.heap.objs.size (.dK [])) { s2 with heap:=s2.heap.push { cls:=.type "dict",data:=.dict #[] },toks:=s2.toks }:=I2.laid (a:=s2.heap.objs.size) (o:=.dK []) (t':=s2.toks) (λ_ _ q=>Ak _ q) (An _) (O1 s2.heap I2.big);have yb:∀ b∈fp,∃ o,s2.heap.get? b=some o/\∀ v,o.data≠.cell v:=T.obj _ _ md;have f3:∀ b∈fp,FpOk X j5 (upd H2 s2.heap.objs.size (.dK [])) b:=λb hb=>by
  obtain ⟨o,ho,_⟩:=yb b hb
  refine ⟨?_,(f2 b hb).2⟩
  rw [Zd (As (Ao ho))]
  exact (f2 b hb).1
 have oj:tn 0 (s2.heap.push { cls:=.type "dict",data:=.dict #[] }):=T.keep _ _ _ md λb _ o e=>Ak _ e;have r6:∀ b∈fp,∃ o,(s2.heap.push { cls:=.type "dict",data:=.dict #[] }).get? b=some o:=λb hb=>let ⟨o,e,_⟩:=yb b hb; ⟨o,Ak _ e⟩
 generalize hs3:({ s2 with heap:=s2.heap.push { cls:=.type "dict",data:=.dict #[] },toks:=s2.toks }:Shared)=s3 at I3;have eh:s2.heap.push { cls:=.type "dict",data:=.dict #[] }=s3.heap:=by rw [<- hs3]
 rw [eh] at oj r6;refine wpAny_newFunctionEnv B.nocell (by intro y hy; simp at hy) (λh₁ yc rl=>?_) B.kind;have hk:∀ b o,s3.heap.get? b=some o->h₁.get? b=some o:=λb o e=>rl.extBut b o (As (Ao e)) (Ak _ e);have I4:=Zdr (ts:=ts) (tk:=s3.toks + ([]:List (Str × Value)).length) B I3 f3 r6 yc hk;have f4:∀ b∈fp,FpOk (Yh X (Y:) scope s3.heap.objs.size s3 (upd H2 s2.heap.objs.size (.dK [])) fp) [] (upd H2 s2.heap.objs.size (.dK [])) b:=λb hb=>by
  obtain ⟨f0,f1,f2',f3',f4',f5'⟩:=f3 b hb
  obtain ⟨o,eo⟩:=r6 b hb
  exact ⟨f0,As (Ao eo),I4.ok.exfs b hb,.inl hb,(I4.ok.exf b hb).2,λp hp=>absurd (show p∈([]:List (n:)) from hp) (by simp)⟩
 have xc:tn 0 h₁:=T.keep _ _ _ oj λb _ o e=>hk b o e;have loop:codeAny (e:) X.A (.compLoop (h:) 0 (.ref it) (.ref s2.heap.objs.size) (Yh X (Y:) scope s3.heap.objs.size s3 (upd H2 s2.heap.objs.size (.dK [])) fp).env)
   (RR (.ref s2.heap.objs.size) s3.heap.objs.size) { s3 with heap:=h₁,toks:=s3.toks + ([]:List (Str × Value)).length }:=by
  refine Gj (X:=Yh X (Y:) scope s3.heap.objs.size s3 (upd H2 s2.heap.objs.size (.dK [])) fp) (tg:=t0) (ifs:=f0) (R:=λ_ H'=>Q (.ref s2.heap.objs.size) H') Y Y Y Y (rc _ it s2.heap.objs.size) T hc (hg _ _ _ _) (ht _ _ _ _) (hb _ _ _ _ it s2.heap.objs.size) f4 I4 xc L λs' σ' H' J' q=>?_
  obtain ⟨e1,e2,e3,e4,e5,e6⟩:=Zi0 I3 f3 (An _) J'
  obtain ⟨m,hm,_⟩:=J'.loc
  exact hRR _ _ s' H' e1 e2 e3 e4 e5 e6 ⟨m,hm⟩ q
 exact codeAny_compStart_dict loop (T.self _ _ _ _ _ xc loop)
theorem K8 (B:BlkOk X scope fv) (hc:X.calm=true) (hi:PI X t0 i0 wi)
  (hg:∀ C s₀ H₀ ex,PG (f:) t0 g) (ht:∀ C s₀ H₀ ex,PTs (f:) f0 tt)
  (rc:∀ (env:Env) (it D:Addr),compTurn (h:) 0 (.ref it) (.ref D) env=(standAt i0.pos >>= λ_=>pyNext (.ref it) >>= λr=>match r with
   | none=>pure (.done .next)
   | some v=>letOwnedTupleGo t0 (.ref it) v >>= λ_=>assign t0 env v >>= λ_ =>
    (l:) >>= λok =>
     if ok=true then lh env it D else again (.compLoop (h:) 0 (.ref it) (.ref D) env)))
  (hb:∀ C s₀ H₀ ex it D,PB (f:) (lh (f:).env it D) (.compLoop (h:) 0 (.ref it) (.ref D) (f:).env) (tb D))
  (hs:∀ x,foldedSetIterable i0 X.env x=pure x:=by intro _; rfl) :
  PE X (h:) (Zes ts fv wi g tt tb):=by
 intro j5 s σ H Q I h;show wpAny _ X.A (comprehension (h:) scope X.env _ newDict false (eval i0 X.env)) _ _ s;refine wpAny_comprehension_free (use:=none) Y hs (Qv λy hy e=>I.ok.has y.1 (B.free y hy e)) B.kind B.names ?_;refine Zbp (RR:=λj' C=>compPost (e:) X.A X.xe none (EP X j5 σ Q) j' C) B hc hi hg ht rc hb I h λD C s' H' I' e2 e3 e4 e5 e6 hm q=>?_;obtain ⟨m,hm⟩:=hm;exact ⟨m,hm,λh' xv=>⟨.ref D,H',I'.apart xv e2 e3 e4 e5 e6,Y,q⟩⟩
theorem K6 {t8:Pos} (B:BlkOk X scope fv) (hc:X.calm=true) (hN:X.N.Nodup) (hiy:X.N[i]?=some y) (wj:X.env.scope.names.lookup y=some .local)
  (hsw:swapsWith (h:) (some (.Name y py)) t8.line X.env=pure true) (hi:PI X t0 i0 wi)
  (hg:∀ C s₀ H₀ ex,PG (f:) t0 g) (ht:∀ C s₀ H₀ ex,PTs (f:) f0 tt)
  (rc:∀ (env:Env) (it D:Addr),compTurn (h:) 0 (.ref it) (.ref D) env=(standAt i0.pos >>= λ_=>pyNext (.ref it) >>= λr=>match r with
   | none=>pure (.done .next)
   | some v=>letOwnedTupleGo t0 (.ref it) v >>= λ_=>assign t0 env v >>= λ_ =>
    (l:) >>= λok =>
     if ok=true then lh env it D else again (.compLoop (h:) 0 (.ref it) (.ref D) env)))
  (hb:∀ C s₀ H₀ ex it D,PB (f:) (lh (f:).env it D) (.compLoop (h:) 0 (.ref it) (.ref D) (f:).env) (tb D))
  (hs:∀ x,foldedSetIterable i0 X.env x=pure x:=by intro _; rfl) :
  PS X (.Assign [.Name y py] (h:) t8) (tAsg (Zes ts fv wi g tt tb) (Zo i)):=by
 intro j5 s σ H D0 I h;rw [exec_Assign_Name_used _ _ _ _ hsw];refine Al (wpAny_standAt (Al ?_));show wpAny _ X.A (do let _ <- comprehension (h:) scope X.env _ newDict false (eval i0 X.env) (some (assign (.Name y py) X.env))) _ _ s;refine Al (ax:);refine Zbp (Q:=λx H1=>Zo i x σ H1 D0.nx) (RR:=λj' C=>compPost (e:) X.A X.xe (some (assign (.Name y py) X.env)) (λ_ s'=>SP X j5 D0 .next s') j' C) B hc hi hg ht rc hb I h λD C s' H' I' e2 e3 e4 e5 e6 hm q=>?_;obtain ⟨m,hm⟩:=hm;show wpAny _ X.A (assign (.Name y py) X.env (.ref D)) _ _ _;refine wpAny_assign_Name (Kl I' hN hiy (.inl wj) (show RelV (.ref D) (.ref D) from Y) (λpi I'' qq=>?_) (.inr wj));obtain ⟨a,rl,ha⟩:=qq;have haC:C≠a:=by
  rcases ha with e | e
  ·rw [e]; exact e4
  ·exact λz=>e5 y a e z.symm
 exact ⟨m,hm.sameBut rl haC,λh' xv=>⟨_,H',I''.apart xv e2 e3 e4 e5 e6,q⟩⟩
end
section
variable {X:Cx}
def Zs4 (K:W.Frag):V->V->Hp->VK->Prop:=λo i H Q=>∃ p xs,∃ (k:Nat) (v:V),o=.ref p/\i=.int k/\SqL K H p xs/\xs[k]?=some v/\Q v H
def Zgu:PGet X (Zs4 X.K):=by
 intro j5 s σ H o i ov iv Q I ro ri h;obtain ⟨p,xs,k,v,rfl,rfl,hq,he,q⟩:=h;cases ro;obtain ⟨t,rfl⟩:=ri;obtain ⟨its,r,pl,hz⟩:=I.list hq;obtain ⟨w,ew,n8⟩:=r.get he;have hl:=r.length;have hk:k < its.length:=(Aa ew).1;have hn:=Uc;exact wpAny_getItem_list pl.isList (by lia) (by lia) (by simpa using ew) ⟨v,H,I,n8,q⟩
end
section
variable {X:Cx} {j5:List (n:)} {σ:St} {H:Hp} {s:Shared} {a:Addr}
def Inv.thaw (I:Inv X j5 σ H s) (e:H a=some (.frz ob (.dK kvs))) (h0:∀ o u,X.H₀ a≠some (.frz o u)):Inv X j5 σ (upd H a (.dK kvs)) s:=by
 have rg:∀ c y,H c=some (.own y)->c≠a:=λc y r z=>by subst z; rw [r] at e; cases e
 have qb:∀ c xs,H c=some (.tup xs)->c≠a:=λc xs r z=>by subst z; rw [r] at e; cases e
 have vo:∀ c,H c=none->c≠a:=λc r z=>by subst z; rw [r] at e; cases e
 have hok:HOk X.prog X.w (upd H a (.dK kvs)) s.heap:=λb v q=>by
  have st:∀ c w',Yo X.prog X.w H s.heap c w'->Yo X.prog X.w (upd H a (.dK kvs)) s.heap c w':=λc w' x=>x.stay (λ_ _ _ q=>q) (λd r=>by rw [Zd (rg d c r)]; exact r) λd xs r=>by rw [Zd (qb d xs r)]; exact r
  by_cases hb:b=a
  ·subst hb
   rw [Zb] at q;cases q;exact st _ _ (I.hok _ _ e).2
  ·rw [Zd hb] at q
   exact st _ _ (I.hok b v q)
 refine ⟨I.ok,I.os,I.bare,⟨I.base.keep,I.base.slot,λb o q n hx=>?_,I.base.there,λb xs q=>?_,λb o u q=>?_,λb ps q=>?_⟩,I.loc,I.cell,?_,λx c q=>?_,λp hp=>?_,hok,I.len⟩
 ·have:=I.base.free b o q n hx
  rw [Zd (vo b this)]; exact this
 ·have:=I.base.tups b xs q
  rw [Zd (qb b xs this)]; exact this
 ·have:=I.base.frzs b o u q
  rw [Zd (λz=>by subst z; exact h0 _ _ q)]; exact this
 ·obtain ⟨more,z⟩:=I.base.tbls b ps q
  exact ⟨more,by rw [Zd (λw=>by subst w; rw [z] at e; cases e)]; exact z⟩
 ·have:=I.free
  rw [Zd (vo _ this)]; exact this
 ·have:=I.freeC x c q
  rw [Zd (vo _ this)]; exact this
 ·obtain ⟨q1,q2,q3⟩:=I.pin p hp
  exact ⟨q1,by rw [Zd (vo _ q2)]; exact q2,q3⟩
end
def Zsl (H0:Hp) (t:TS):TS:=λD σ H=>t { D with nx:=λσ' H'=>∃ (a:Addr) (o:Obj) (kvs:List (Key × V)),H' a=some (ar:)/\(∀ o u,H0 a≠some (.frz o u))/\D.nx σ' (upd H' a (.dK kvs)) } σ H
def Zcf {X:Cx} {st:Stmt} {t:TS} (h:PS X st t):PS X st (Zsl X.H₀ t):=by
 intro j5 s σ H D I hw;refine wpAny_mono (h j5 s σ H _ I hw) (λf s' q=>?_) λ_ _ e=>e
 cases f with
 | next =>
  obtain ⟨σ',H',I',a,o,kvs,e,h0,q⟩:=q;exact ⟨σ',_,I'.thaw e h0,q⟩
 | ret v=>exact q
 | brk=>exact q
 | cont=>exact q
section
variable {X:Cx}
def Zal {ys:List Str}:∀ {us:List Value},Vals (ys.map V.str) us->StrsAre us ys:=by
 induction ys with
 | nil=>intro us r; rw [map_nil] at r; cases r; exact .nil
 | cons y ys ih =>
  intro us r;rw [map_cons] at r
  cases r with
  | cons r1 r2 =>
   obtain ⟨t,e⟩:=r1;subst e;exact .cons y t (ih r2)
def Zs3 (K:W.Frag):V->List V->Hp->VK->Prop:=λo xs H Q=>∃ mk p ys,o=.str mk/\xs=[.ref p]/\SqL K H p (List.map V.str ys)/\mk.length<=16/\(ys.map (·.length)).sum + ys.length<=1048576/\Q (.str (Txt.join mk ys)) H
def Zio:MtR X "str.join" (Zs3 X.K):=by
 intro j5 s σ H x xs v us Q I rx rs h;obtain ⟨mk,p,ys,rfl,rfl,hq,h1,h2,q⟩:=h;obtain ⟨t,rfl⟩:=rx;obtain ⟨u,rfl,ru⟩:=Wa rs;cases ru;obtain ⟨its,rv,pl,_⟩:=I.list hq;exact join_listW pl.isList (by simpa using Zal rv) h1 h2 λt' k=>⟨.str _,H,I.tok _,⟨_,Y⟩,q⟩
end
theorem Zdg:∀ (l:List Str) (a:Array Nat),(l.foldl (λj' p=>j' ++ (Str.ofString "").cps ++ p.cps) a).toList=a.toList ++ (l.map λy=>y.cps.toList).flatten
 | [],a=>by simp
 | y :: r,a=>by
  rw [foldl_cons,Zdg r];have:(Str.ofString "").cps=#[]:=by decide +kernel
  rw [this];simp
def Zn6 (ys:List Str):(Txt.join (Str.ofString "") ys).cps.toList=(ys.map λy=>y.cps.toList).flatten:=by
 unfold Txt.join Builtin.Str.glued
 cases ys with
 | nil=>rfl
 | cons y r =>
  show ((r.foldl (λj' p=>j' ++ (Str.ofString "").cps ++ p.cps) y.cps)).toList=_;rw [Zdg];simp
end L2
namespace KT
open PySem L2
noncomputable def aftN (i:Nat):Nat:=if i % 3=2 then i - 2 else i + 1
noncomputable def k6 (M:Lq) (c:Nat):Option Nat:=(M[aftN c]?).join
abbrev InvM (M:Lq):Prop:=∀ (i j:Nat),M[i]?=some (some j)->M[j]?=some (some i)/\i≠j
abbrev sR:Str:=Str.ofString "R"
end KT
namespace L2
open PySem PySem.Spec PyProof.Rows
section
variable {X:Cx} {xl:Value->Shared->Prop} {R0:Value->St->Hp->Prop}
def PSL (X:Cx) (xl:Value->Shared->Prop) (R0:Value->St->Hp->Prop) (st:Stmt) (t:TSX):Prop :=
 ∀ j5 s σ H (D:Ends),Inv X j5 σ H s->t D R0 σ H->wpAny (e:) X.A (exec st X.env) (SP X j5 D) xl s
def PSsL (X:Cx) (xl:Value->Shared->Prop) (R0:Value->St->Hp->Prop) (st:List Stmt) (t:TSX):Prop :=
 ∀ j5 s σ H (D:Ends),Inv X j5 σ H s->t D R0 σ H->wpAny (e:) X.A (execs st X.env) (SP X j5 D) xl s
structure LV (X:Cx) (xl:Value->Shared->Prop) (R0:Value->St->Hp->Prop):Prop where
 lv:∀ (j5:List (n:)) (ev:Value) (s':Shared),XS true X j5 R0 ev s'->xl ev s'
 po:PassesOwn (e:) X.A X.env xl
def Vv {st:Stmt} {t:TSX} (L:LV X xl R0) (h:PSX true X st t):PSL X xl R0 st t:=λj5 s σ H D I q =>
 wpAny_mono (h j5 s σ H D R0 I q) (λ_ _ z=>z) λev s' z=>L.lv j5 ev s' z
def Jv {st:Stmt} {j7:List Stmt} {t u:TSX} (h1:PSL X xl R0 st t) (h2:PSsL X xl R0 j7 u):PSsL X xl R0 (st :: j7) (Zi6 t u):=by
 intro j5 s σ H D I h;refine wpAny_execs_cons (thn (h1 j5 s σ H { D with nx:=u D R0 } I h) λf s1 q=>?_)
 cases f with
 | next =>
  obtain ⟨σ',H',I',q⟩:=q;exact h2 j5 s1 σ' H' D I' q
 | ret v=>exact q
 | brk=>exact q
 | cont=>exact q
def F1 {st:Stmt} {t:TSX} (h1:PSL X xl R0 st t):PSsL X xl R0 [st] t:=by
 intro j5 s σ H D I h;refine wpAny_execs_cons (thn (h1 j5 s σ H D I h) λf s1 q=>?_)
 cases f with
 | next=>exact wpAny_execs_nil q
 | ret v=>exact q
 | brk=>exact q
 | cont=>exact q
def Zsr (wi:TI) (g:TG) (tb:TSX):TSX:=λD R σ H=>tFor wi g (λD' σ' H'=>tb D' R σ' H') D σ H
def thnF {α:Type} {m:Sem α} {Q Q':α->Shared->Prop} {s:Shared} (hx:X.xe=(λ_ _=>False)) (h:wpAny (e:) X.A m Q X.xe s) (k:∀ a s1,Q a s1->Q' a s1):wpAny (e:) X.A m Q' xl s:=by
 rw [hx] at h;exact wpAny_mono h k λ_ _ z=>z.elim
def Zia {tg iter:Expr} {body:List Stmt} {wi:TI} {g:TG} {tb:TSX} {pos:Pos} (L:LV X xl R0) (hc:X.calm=true) (hi:PI X tg iter wi) (hg:PG X tg g) (hb:PSsL X xl R0 body tb)
  (hx:X.xe=(λ_ _=>False):=by rfl) (hs:∀ x,foldedSetIterable iter X.env x=pure x:=by intro _; rfl):PSL X xl R0 (.For tg iter body [] pos) (Zsr wi g tb):=by
 intro j5 s σ H D I h;have hp:=L.po;refine wpAny_For (thnF hx (hi j5 s σ H _ I h) λv s1 h1=>thnF hx h1 λze s2 h2=>?_) hs;obtain ⟨it,fp,tn,J,H2,e,I2,T,md,f2,W,⟨m0,w0⟩,p8⟩:=h2;subst e;have mr:∀ {H':Hp},(∀ b∈fp,H' b=none)->∀ b∈fp,FpOk X j5 H' b:=λhn b hb=>⟨hn b hb,(f2 b hb).2⟩;refine codeAny_forLoop_any (λn s'=>∃ i σ' H',Inv X j5 σ' H' s'/\tn i s'.heap/\(∀ b∈fp,H' b=none)/\W i n σ' H') ?_ m0 ⟨0,σ,H2,I2,md,λb hb=>(f2 b hb).1,w0⟩;rintro n s3 ⟨i,σ3,H3,I3,oj,wv,w3⟩
 rcases p8 i n σ3 H3 w3 with ⟨stop,qn⟩ | ⟨go,N,hN,step⟩
 ·refine wpAny_passesOwn hp (thn (T.done X rfl rfl rfl hc i j5 s3 σ3 H3 xl I3 (mr wv) oj stop) λr s4 ⟨hr,I4⟩=>?_)
  subst hr;exact wpAny_execs_nil ⟨σ3,H3,I4,qn⟩
 ·refine wpAny_passesOwn hp (thn (T.item X rfl rfl rfl hc i j5 s3 σ3 H3 xl I3 (mr wv) oj go) λr s4 ⟨u,hr,h4⟩=>?_)
  subst hr;refine wpAny_passesOwn hp (thn h4 λ_ s5 kc=>?_);obtain ⟨x,H5,I5,r5,y5,sv,fr5⟩:=kc;have I5':=I5.pinned (mr fr5) (T.obj _ _ sv);refine wpAny_passesOwn hp (thnF hx (hg _ s5 σ3 H5 x u _ I5' r5 (step x H5 y5)) λ_ s6 kc=>?_);obtain ⟨σ6,H6,I6,q6⟩:=kc;refine wpAny_passesOwn hp (thn (hb _ s6 σ6 H6 _ I6 q6) λf s7 q7=>?_);have again:∀ {σ7:St} {H7:Hp},Inv X (j5 ++ Oc fp s5.heap) σ7 H7 s7->N σ7 H7->∃ m,m < n/\∃ i σ' H',Inv X j5 σ' H' s7/\tn i s7.heap/\(∀ b∈fp,H' b=none)/\W i m σ' H':=λ{σ7 H7} I7 n7=>by
   obtain ⟨m',hm,w7⟩:=hN σ7 H7 n7
   refine ⟨m',hm,i + 1,σ7,H7,I7.unpinned,T.keep _ _ _ sv λb hb o e=>(P:).1,λb hb=>?_,w7⟩
   obtain ⟨o,e,d⟩:=T.obj _ _ sv b hb
   exact (P:).2.1
  cases f with
  | next=>obtain ⟨σ7,H7,I7,n7⟩:=q7; exact again I7 n7
  | cont=>obtain ⟨σ7,H7,I7,n7⟩:=q7; exact again I7 n7
  | brk=>obtain ⟨σ7,H7,I7,q7⟩:=q7; exact ⟨σ7,H7,I7.unpinned,q7⟩
  | ret v=>obtain ⟨x7,σ7,H7,I7,r7,q7⟩:=q7; exact ⟨x7,σ7,H7,I7.unpinned,r7,q7⟩
end
section
variable {P:Program} {w:World} {K:W.Frag} {mg:Str->Option Value} {base:Heap}
def Fun.okL {x qual:Str} {st:Stmt} {f:Addr} {fd:FuncData} {N ps:List Str} {k:Nat} {sp:Sp} (F:Fun K x qual st f fd) (S:FnScope N ps (Zg st)) (len:∀ vs H Q E,sp vs H Q E->vs.length=ps.length)
  (ll:∀ (kn:Value) (A:Around) (outer:List Env) (s:Shared) (H:Hp) (vs:List V) (Q:VK) (E:XK),Room k (a7:)->sp vs H Q E ->
   ∃ t,(∀ xl,LV (T:).nox xl (λcls _ H'=>E cls none H')->PSsL (T:).nox xl (λcls _ H'=>E cls none H') (Y4 st) t)/\t { nx:=λ_ H'=>Q .non H',rt:=Q } (λcls _ H'=>E cls none H') (start N vs) H):(a:) (k + 1) f fd ps sp:=by
 obtain ⟨oc,od,kV,k7,pm,an,kn,ct,ut,rfl,lk,p6⟩:=F.ex;refine Zj4 lk p6 S len λA outer s H vs Q E hr mm=>?_;obtain ⟨t,h,q⟩:=ll kn A outer s H vs Q E hr mm;refine ⟨λD σ H'=>t D (λcls _ yl=>E cls none yl) σ H',λj5 s' σ' H' D I hD=>?_,q⟩;refine wpAny_mono (h _ ⟨λj5 ev pi z=>Zgq (fr:=true) ?_,PassesOwn.leaving⟩ j5 s' σ' H' D (I.wish _) hD) (λ_ _ z=>z.unwish) λev pi z=>z;obtain ⟨e,T,cls,a0,σ2,H2,h1,h2,h3,h4,h5,h7,h6⟩:=z;exact ⟨e,T,cls,a0,σ2,H2,h1,h2.pins_of (λp hp=>absurd hp (by simp)),h3,h4.none,λt ht=>(h5 t ht).none,h7,h6⟩
end
section
noncomputable def Its (x:Str):It :=
 ⟨λi _=>i < x.cps.size,λi H v H'=>H'=H/\∃ c,x.cps[i]?=some c/\v=.str ⟨#[c]⟩,λi _=>x.cps.size<=i⟩
def Zm4 {P:Program} {w:World} {K:W.Frag} {tg:Expr} (x:Str) (t:Tok) (it:Addr):Turn P w K tg (Its x) [it] it (λi h=>h.IsStrIter it "str_ascii_iterator" x t i) where
 mem:=by simp
 obj:=λi h st b hb=>by
  have e:b=it:=by simpa using hb
  subst e;obtain ⟨o,e,c,d⟩:=st;exact (a2:)
 keep:=λi h h' st k=>by
  obtain ⟨o,ho,r⟩:=st;exact ⟨o,k it (by simp) o ho,r⟩
 item:=by
  intro X hP hw hK hc i j5 s σ H E I hf st hg;subst hP hw hK;have hg:i < x.cps.size:=hg;obtain ⟨f0,f1,f2,f3,f4,f5⟩:=hf it (by simp);have hx:x.cps[i]?=some x.cps[i]:=by simp [hg]
  refine wpAny_pyNext_ascii_item st hx λh' mj sb=>?_;have I1:Inv X j5 σ H { s with heap:=h',toks:=s.toks + 1 }:=I.turned (t':=s.toks + 1) (λb o hb e=>(sb.2 b hb).trans e) f0 f1 f3 f4 f5;obtain ⟨o,e,c,d⟩:=id mj;exact ⟨_,Y,Gs (s:={ s with heap:=h',toks:=s.toks + 1 }) e c d (d:) ⟨.str ⟨#[x.cps[i]]⟩,H,I1,⟨_,Y⟩,⟨Y,_,hx,Y⟩,mj,λb hb=>(hf b hb).1⟩⟩
 done:=by
  intro X hP hw hK hc i j5 s σ H E I hf st hg;subst hP hw hK;have hg:x.cps.size<=i:=hg;obtain ⟨f0,f1,f2,f3,f4,f5⟩:=hf it (by simp);exact wpAny_pyNext_ascii_end (I.ok.hd hc) st (by simp [hg]) λh' eb=>⟨Y,I.turned (t':=s.toks) (λb o hb e=>eb b o hb e) f0 f1 f3 f4 f5⟩
 self:=λ_ _ _ _ _ st h=>wpAny_pyIter_striter_ascii st h
variable {X:Cx} {tg:Expr}
def iStr (tl:TE):TI:=λσ H R=>tl σ H λv H1=>∃ x,v=.str x/\x.cps.all (· < 128)=true/\R (Its x) H1
def Zrt {l:Expr} {tl:TE} (hl:PE X l tl):PI X tg l (iStr tl):=by
 intro j5 s σ H R I h;refine thn (hl j5 s σ H _ I h) λv s1 kc=>?_;obtain ⟨x,H1,I1,r1,q1⟩:=kc;obtain ⟨x,e,ha,q⟩:=q1;subst e;obtain ⟨t,rfl⟩:=r1;refine wpAny_pyIter_ascii ha ?_;refine ⟨s1.heap.objs.size,[s1.heap.objs.size],_,_,H1,Y,I1.kept (t':=s1.toks) λb o e=>Ak _ e,Zm4 x t _,⟨_,Ap _ Y,Y,Y⟩,λb hb=>?_,q⟩;have e:b=s1.heap.objs.size:=by simpa using hb
 subst e;exact I1.fpOk (An _) (I1.hok.fresh (An _))
end
section
variable {P:Program} {w:World} {K:W.Frag} {mg:Str->Option Value} {base:Heap} {x qual:Str} {st:Stmt} {f:Addr} {fd:FuncData} {N ps:List Str} {k:Nat} {sp:Sp}
def Fun.aR (F:Fun K x qual st f fd) (S:FnScope N ps (Zg st))
  (ll:∀ (kn:Value) (A:Around) (outer:List Env) (s:Shared) (H:Hp) (vs:List V) (Q:VK) (E:XK),Room k (a7:)->sp vs H Q E ->
   ∃ t,PSs (T:).nox (Y4 st) t/\t { nx:=λ_ H'=>Q .non H',rt:=Q } (start N vs) H)
  (len:∀ vs H Q E,sp vs H Q E->vs.length=ps.length:=by (intro vs H Q E h; (repeat (cases h; rename_i h)); all_goals (subst_vars; rfl))):(a:) (k + 1) f fd ps sp:=F.okR S len ll
def Fun.aX (F:Fun K x qual st f fd) (S:FnScope N ps (Zg st))
  (ll:∀ (kn:Value) (A:Around) (outer:List Env) (s:Shared) (H:Hp) (vs:List V) (Q:VK) (E:XK),Room k (a7:)->sp vs H Q E ->
   ∃ t,PSsX true (T:).nox (Y4 st) t/\t { nx:=λ_ H'=>Q .non H',rt:=Q } (λcls _ H'=>E cls none H') (start N vs) H)
  (len:∀ vs H Q E,sp vs H Q E->vs.length=ps.length:=by (intro vs H Q E h; (repeat (cases h; rename_i h)); all_goals (subst_vars; rfl))):(a:) (k + 1) f fd ps sp:=F.okX S len ll
end
section
variable {X:Cx}
def Zeb (K:W.Frag) (h:X.K=K:=by rfl):OpR X (compareOp .NotIn) (rIn K true):=h ▸ Zga
end
end L2
namespace L2
open PySem PySem.Spec PyProof.Rows PySem.SeqAt
mutual
inductive DV (K:W.Frag) (H:Hp):V->PyData->Prop
 | non:DV K H .non .none
 | bl (b:Bool):DV K H (.bl b) (.bool b)
 | int (i:Int):DV K H (.int i) (.int i)
 | str (x:Str):DV K H (.str x) (.str x)
 | lst {a:Addr} {xs:List V} {ds:List PyData}:SqL K H a xs->DVs K H xs ds->DV K H (.ref a) (.list ds)
 | tup {a:Addr} {xs:List V} {ds:List PyData}:SqT K H a xs->DVs K H xs ds->DV K H (.ref a) (.tuple ds)
inductive DVs (K:W.Frag) (H:Hp):List V->List PyData->Prop
 | nil:DVs K H [] []
 | cons {x:V} {xs:List V} {d:PyData} {ds:List PyData}:DV K H x d->DVs K H xs ds->DVs K H (x :: xs) (d :: ds)
end
section
variable {X:Cx} {j5:List (n:)} {σ:St} {H:Hp} {s:Shared}
mutual
theorem DV.reads (I:Inv X j5 σ H s):∀ {x:V} {d:PyData} {u:Value},DV X.K H x d->RelV x u->∃ as,Reads s.heap u d as
 | _,_,_,.non,r=>by cases r; exact ⟨_,.none⟩
 | _,_,_,.bl b,r=>by cases r; exact ⟨_,.bool b⟩
 | _,_,_,.int i,r=>by obtain ⟨t,rfl⟩:=r; exact ⟨_,.int i t⟩
 | _,_,_,.str x,r=>by obtain ⟨t,rfl⟩:=r; exact ⟨_,.str x t⟩
 | _,_,_,.lst h hs,r=>by
  cases r;obtain ⟨its,rv,pl,_⟩:=I.list h;obtain ⟨as,ra⟩:=DVs.reads I hs rv;obtain ⟨o,ho,hc,n,hd⟩:=pl.isList;exact ⟨_,.list ho hc hd (by simpa using ra)⟩
 | _,_,_,.tup h hs,r=>by
  cases r;obtain ⟨its,rv,pt,_⟩:=I.tuple h;obtain ⟨as,ra⟩:=DVs.reads I hs rv;obtain ⟨o,ho,hc,n,hd⟩:=pt;exact ⟨_,.tuple ho hc hd (by simpa using ra)⟩
theorem DVs.reads (I:Inv X j5 σ H s):∀ {xs:List V} {ds:List PyData} {us:List Value},DVs X.K H xs ds->Vals xs us->∃ as,ReadsAll s.heap us ds as
 | _,_,_,.nil,r=>by cases r; exact ⟨_,.nil⟩
 | _,_,_,.cons h hs,r=>by
  cases r with
  | cons r1 r2 =>
   obtain ⟨as,ra⟩:=DV.reads I h r1;obtain ⟨bs,rb⟩:=DVs.reads I hs r2;exact ⟨_,.cons ra rb⟩
end
end
mutual
theorem Oy:∀ d:PyData,d.canLay0=true->noMix d d=true
 | .none,_=>rfl
 | .bool _,_=>rfl
 | .int _,_=>rfl
 | .str _,_=>rfl
 | .list xs,h=>by simp only [PyData.canLay0] at h; simp only [noMix]; exact noMixAll_self xs h
 | .tuple xs,h=>by simp only [PyData.canLay0] at h; simp only [noMix]; exact noMixAll_self xs h
 | .dict _,h=>by simp [PyData.canLay0] at h
theorem noMixAll_self:∀ xs:List PyData,PyData.canLayAll0 xs=true->noMixAll xs xs=true
 | [],_=>by simp [noMixAll]
 | x :: xs,h=>by
  simp only [PyData.canLayAll0,Bool.and_eq_true] at h;simp only [noMixAll,Oy x h.1,noMixAll_self xs h.2,Bool.and_self]
end
theorem DVs.ints {K:W.Frag} {H:Hp}:∀ ns:List Int,DVs K H (H:) (ns.map PyData.int)
 | []=>.nil
 | n :: r=>.cons (.int n) (DVs.ints r)
end L2
namespace KT
open PySem L2
theorem Ue {P:Nat->Bool}:∀ (l:List Nat) (k h:Nat),(l.filter P)[k]?=some h->∃ l1 l2,l=l1 ++ h :: l2/\P h=true/\(l1.filter P).length=k
 | [],k,h,e=>by simp at e
 | x :: r,k,h,e=>by
  by_cases c:P x=true
  ·rw [filter_cons_of_pos c] at e
   cases k with
   | zero=>cases e; exact ⟨[],r,Y,c,Y⟩
   | succ k =>
    obtain ⟨l1,l2,e1,e2,e3⟩:=Ue r k h e;exact ⟨x :: l1,l2,by rw [e1]; rfl,e2,by rw [filter_cons_of_pos c,length_cons,e3]⟩
  ·rw [filter_cons_of_neg c] at e
   obtain ⟨l1,l2,e1,e2,e3⟩:=Ue r k h e;exact ⟨x :: l1,l2,by rw [e1]; rfl,e2,by rw [filter_cons_of_neg c,e3]⟩
def Zow (a:Nat):¬ (a:Int)=after a:=by have:=Yt a; lia
def Zov (a:Nat):¬ (a:Int)=Zu a:=by have:=Yn a; lia
def Zbe {a b:Nat} (h:a / 3≠b / 3):¬ (a:Int)=after b:=by have:=(Yt b).1; lia
def Zbd {a b:Nat} (h:a / 3≠b / 3):¬ (a:Int)=Zu b:=by have:=(Yn b).1; lia
def Zgl {left:Bool} {a b z:Nat} (h:z / 3=a / 3\/z / 3=b / 3):j9 left a b z / 3=a / 3\/j9 left a b z / 3=b / 3:=by
 have e:=Jb left a b z
 rcases Zaa left a b z with c | c | c | c | c <;> rw [c] at e
 ·rw [Gk e rfl]; exact h
 ·exact .inl (Gk e (Yt a).1)
 ·exact .inl (Gk e (Yn a).1)
 ·exact .inr (Gk e (Yt b).1)
 ·exact .inr (Gk e (Yn b).1)
def Zl2 {left:Bool} {a b z:Nat} (h1:z / 3≠a / 3) (h2:z / 3≠b / 3):j9 left a b z=z:=by
 have:mvI left a b z=z:=by
  unfold mvI;rw [if_neg (Zbe h1),if_neg (Zbd h2),if_neg (Zbe h2),if_neg (Zbd h1)]
 unfold j9;rw [this];exact Int.toNat_natCast z
noncomputable def Xl (a b q:Nat):Bool:=!decide (q=a) && !decide (q=b)
noncomputable def Wi (a b:Nat) (ws:List Nat):List Nat:=ws.filter (Xl a b)
noncomputable def mtN (M:Lq) (h:Nat):Nat:=(M.getD h none).getD 0
noncomputable def Q3 (a b e f:Nat):List Nat:=if e / 3=f / 3 then [] else [a,b].filter λq=>decide (q / 3=e / 3)
noncomputable def Jj (M:Lq) (left:Bool) (a b h f:Nat):List Nat:=j9 left a b h :: Q3 a b (j9 left a b (mtN M h)) (j9 left a b f)
noncomputable def Xh (ks:List Nat):List (Nat × Nat):=ks.zip (rot ks (1 % ks.length))
noncomputable def Y5 (M:Lq) (left:Bool) (a b:Nat) (ps:List (Nat × Nat)):List Nat:=(ps.map λq=>Jj M left a b q.1 q.2).flatten
def Zbr (a b e f:Nat):(Q3 a b e f).length<=2:=by
 unfold Q3;split
 ·exact Az _
 ·exact length_filter_le _ _
theorem Zc5 (M:Lq) (left:Bool) (a b:Nat):∀ ps:List (Nat × Nat),(Y5 M left a b ps).length<=3 * ps.length
 | []=>An _
 | q :: r=>by
  have ih:=Zc5 M left a b r;have h1:=Zbr a b (j9 left a b (mtN M q.1)) (j9 left a b q.2);have e:Y5 M left a b (q :: r)=Jj M left a b q.1 q.2 ++ Y5 M left a b r:=rfl;rw [e,Ae];unfold Jj;rw [length_cons,length_cons];lia
def Zjl {M:Lq} {left:Bool} {a b i h f:Nat} {ps:List (Nat × Nat)} (hq:ps[i]?=some (h,f)):Y5 M left a b (ps.take (i + 1))=Y5 M left a b (ps.take i) ++ Jj M left a b h f:=by
 unfold Y5;rw [Aw,hq,Aj,flatten_append];simp
def Zln (ks:List Nat):(Xh ks).length=ks.length:=by
 unfold Xh;by_cases z:ks.length=0
 ·have:ks=[]:=length_eq_zero_iff.mp z
  subst this; rfl
 ·rw [length_zip,Jt _ (Nat.le_of_lt (mod_lt _ (by lia))),Nat.min_self]
def Zmt {a b e f:Nat} (kz:a / 3≠b / 3) (kr:e / 3≠f / 3) (he:e / 3=a / 3\/e / 3=b / 3):Q3 a b e f=[if a / 3=e / 3 then a else b]:=by
 unfold Q3;rw [if_neg kr]
 rcases he with he | he
 ·rw [if_pos he.symm,filter_cons_of_pos (by simp [he]),filter_cons_of_neg (by simp only [decide_eq_true_eq]; lia)]
  rfl
 ·rw [if_neg (by lia),filter_cons_of_neg (by simp only [decide_eq_true_eq]; lia),filter_cons_of_pos (by simp [he])]
  rfl
def Za5 {ws:List Nat} {j i:Nat} (hj:j < ws.length) (hi:i < ws.length):(rot ws (j + 1))[i]?=ws[(i + (j + 1)) % ws.length]?:=by
 by_cases z:j + 1 < ws.length
 ·exact Zcd z hi
 ·have e:j + 1=ws.length:=by lia
  rw [e,add_mod_right,mod_eq_of_lt hi];unfold rot;rw [drop_length,take_length,nil_append]
def Zht {P:Nat->Bool} {l:List Nat} {k h:Nat} (hk:(l.filter P)[k]?=some h):∃ j,l[j]?=some h/\P h=true/\(l.filter P)[(k + 1) % (l.filter P).length]?=((rot l (j + 1)).filter P)[0]?:=by
 obtain ⟨l1,l2,e,hh,hl⟩:=Ue l k h hk;subst e;refine ⟨l1.length,by rw [getElem?_append_right (An _),Nat.sub_self]; rfl,hh,?_⟩;have er:rot (l1 ++ h :: l2) (l1.length + 1)=l2 ++ (l1 ++ [h]):=by
  unfold rot
  have e:l1 ++ h :: l2=(l1 ++ [h]) ++ l2:=by simp
  rw [e,show l1.length + 1=(l1 ++ [h]).length by simp,drop_left,take_left]
 rw [er];have ef:(l1 ++ h :: l2).filter P=l1.filter P ++ h :: l2.filter P:=by rw [filter_append,filter_cons_of_pos hh]
 rw [ef,filter_append,filter_append,filter_cons_of_pos hh]
 cases e2:l2.filter P with
 | cons q r =>
  rw [mod_eq_of_lt (by simp; lia),getElem?_append_right (by lia),show k + 1 - (l1.filter P).length=1 by lia];rfl
 | nil =>
  rw [show (l1.filter P ++ [h]).length=k + 1 by simp [hl],mod_self];rfl
def CH (R:Nat->Nat->Prop) (l:List Nat):Prop:=∀ (k u v:Nat),l[k]?=some u->l[k + 1]?=some v->R u v
def CH.app {R:Nat->Nat->Prop} {l r:List Nat} {x:Nat} (h1:CH R (l ++ [x])) (h2:CH R (x :: r)):CH R (l ++ x :: r):=by
 intro k u v hu hv;by_cases z:k + 1<=l.length
 ·refine h1 k u v ?_ ?_
  ·rw [Av (by lia)] at hu ⊢; exact hu
  ·by_cases z2:k + 1 < l.length
   ·rw [Av z2] at hv ⊢; exact hv
   ·rw [getElem?_append_right (by lia),show k + 1 - l.length=0 by lia] at hv ⊢
    exact hv
 ·refine h2 (k - l.length) u v ?_ ?_
  ·rw [getElem?_append_right (by lia)] at hu; exact hu
  ·rw [getElem?_append_right (by lia),show k + 1 - l.length=k - l.length + 1 by lia] at hv; exact hv
def Nx (M:Lq) (u v:Nat):Prop:=∃ m,M[u]?=some (some m)/\v / 3=m / 3/\v≠m
def Pl.chain {M:Lq} {x:Nat} {t:List Nat} (h:CH (Nx M) (x :: t ++ [x])):Pl M (x :: t):=by
 have hl:(x :: t).length=t.length + 1:=rfl;refine ⟨cons_ne_nil _ _,λp hp=>?_,λk u p hu hp m hm=>?_⟩
 ·obtain ⟨k,hk,e⟩:=mem_iff_getElem.mp hp
  have e1:(x :: t ++ [x])[k]?=some p:=by rw [Av hk,Ac hk,e]
  have vg:k + 1 < (x :: t ++ [x]).length:=by rw [Ae,At]; lia
  obtain ⟨m,hm,_⟩:=h k p _ e1 (Ac vg);exact ⟨m,hm⟩
 ·have hk:=(Aa hu).1
  have e1:(x :: t ++ [x])[k]?=some u:=by rw [Av hk]; exact hu
  have e2:(x :: t ++ [x])[k + 1]?=some p:=by
   by_cases z:k + 1 < (x :: t).length
   ·rw [mod_eq_of_lt z] at hp
    rw [Av z]; exact hp
   ·have e:k + 1=(x :: t).length:=by lia
    rw [e,mod_self] at hp;rw [e,getElem?_append_right (An _),Nat.sub_self];exact hp
  obtain ⟨m',se,a1,a2⟩:=h k u p e1 e2;rw [hm] at se;cases se;exact ⟨a1,a2⟩
def mv_a {left:Bool} {a b:Nat} (h:a / 3≠b / 3):j9 left a b a=a/\j9 left a b b=b:=by
 have h':=Ne.symm h;have i1:mvI left a b a=a:=by
  unfold mvI
  rw [if_neg (Zow a),if_neg (Zbd h),if_neg (Zbe h),if_neg (Zov a)]
 have i2:mvI left a b b=b:=by
  unfold mvI;rw [if_neg (Zbe h'),if_neg (Zov b),if_neg (Zow b),if_neg (Zbd h')]
 unfold j9;rw [i1,i2];exact ⟨Int.toNat_natCast a,Int.toNat_natCast b⟩
section
variable {M:Lq} {ns:List Int} {left:Bool} {a b:Nat}
def Zg0 (td:TD M ns) (ha:a < M.length) (hb:b < M.length) (kz:a / 3≠b / 3) {y m:Nat} (hy:M[y]?=some (some m)):(exM left a b M)[j9 left a b y]?=some (some (j9 left a b m)):=by
 obtain ⟨n,_,_,hn⟩:=td.n;have wj:y < M.length:=(Aa hy).1;have hz:j9 left a b y < M.length:=by rw [hn] at ha hb wj ⊢; exact Jl ha hb left wj
 rw [Jz td ha hb kz left hz,Xn kz,hy];rfl
def Zl0 (td:TD M ns) (hM:M[a]?=some (some b)) (kz:a / 3≠b / 3) {ws:List Nat} (hP:Pl M ws) {k h f:Nat} (hh:(Wi a b ws)[k]?=some h) (hf:(Wi a b ws)[(k + 1) % (Wi a b ws).length]?=some f) :
  ∃ m,M[h]?=some (some m)/\((f / 3=m / 3/\f≠m)\/(m / 3=a / 3/\f / 3=b / 3)\/(m / 3=b / 3/\f / 3=a / 3)):=by
 have inv:=td.inv;have t6:=(inv a b hM).1;have ha:a < M.length:=(Aa hM).1;have hb:b < M.length:=(Aa t6).1;obtain ⟨j,hj,hPh,nx⟩:=Zht hh;have hjl:=(Aa hj).1;have hfk:Xl a b f=true:=(mem_filter.mp (Au hf)).2;have kb:∀ q,Xl a b q=true->q≠a/\q≠b:=λq hq=>by
  unfold Xl at hq
  simpa using hq
 obtain ⟨hha,hhb⟩:=kb h hPh;obtain ⟨hfa,hfb⟩:=kb f hfk;obtain ⟨m,hm⟩:=hP.has h (Au hj);have emt:mtN M h=m:=by unfold mtN; rw [Ad,hm]; rfl
 have hma:m≠a:=λz=>by subst z; have:=(inv h m hm).1; rw [hM] at this; cases this; exact hhb Y
 have hmb:m≠b:=λz=>by subst z; have:=(inv h m hm).1; rw [t6] at this; cases this; exact hha Y
 have nx:((rot ws (j + 1)).filter (Xl a b))[0]?=some f:=nx.symm.trans hf;have t0:=Za5 hjl (show 0 < ws.length by lia);rw [Nat.zero_add] at t0
 have key:(f / 3=m / 3/\f≠m)\/(m / 3=a / 3/\f / 3=b / 3)\/(m / 3=b / 3/\f / 3=a / 3):=by
  have ep:=Ac (mod_lt (j + 1) (show 0 < ws.length by lia));obtain ⟨n1,n2⟩:=hP.nxt j h _ hj ep m hm;generalize ws[(j + 1) % ws.length]'(mod_lt (j + 1) (by lia))=p at ep n1 n2
  cases hr:rot ws (j + 1) with
  | nil =>
   have:=Jt ws (show j + 1<=ws.length by lia);rw [hr] at this;simp at this;lia
  | cons p' r =>
   rw [hr,ep] at t0;have t0:some p'=some p:=t0;cases t0;rw [hr] at nx;by_cases c:Xl a b p=true
   ·rw [filter_cons_of_pos c] at nx
    have nx:some p=some f:=nx;cases nx;exact .inl ⟨n1,n2⟩
   ·rw [filter_cons_of_neg c] at nx
    have hpc:p=a\/p=b:=by
     unfold Xl at c;simp only [Bool.and_eq_true,Bool.not_eq_true',decide_eq_false_iff_not,not_and,Decidable.not_not] at c;by_cases z:p=a
     ·exact .inl z
     ·exact .inr (c z)
    cases r with
    | nil=>simp at nx
    | cons q r =>
     have h2:1 < ws.length:=by
      have:=Jt ws (show j + 1<=ws.length by lia);rw [hr] at this;simp only [length_cons] at this;lia
     have t1:=Za5 hjl h2;rw [hr] at t1;have t1:ws[(1 + (j + 1)) % ws.length]?=some q:=t1.symm;have t1':ws[((j + 1) % ws.length + 1) % ws.length]?=some q:=by rw [mod_add_mod,Nat.add_comm]; exact t1
     have qk:∀ d,M[p]?=some (some d)->q / 3=d / 3/\q≠d:=λd hd=>hP.nxt _ p q ep t1' d hd
     have lc:∀ d,M[p]?=some (some d)->p / 3≠d / 3->(d=a\/d=b)->f / 3=d / 3:=λd hd kr hdab=>by
      obtain ⟨q1,q2⟩:=qk d hd;have hqk:Xl a b q=true:=by
       unfold Xl
       have q3:q≠p:=λz=>kr (by rw [<- z,q1])
       have:q≠a/\q≠b:=by
        rcases hpc with e | e <;> rcases hdab with e' | e' <;> subst e <;> subst e' <;> first | exact ⟨q3,q2⟩ | exact ⟨q2,q3⟩ | exact absurd rfl kr
       rw [decide_eq_false this.1,decide_eq_false this.2]
       rfl
      rw [filter_cons_of_pos hqk] at nx;have nx:some q=some f:=nx;cases nx;exact q1
     rcases hpc with e | e
     ·subst e
      exact .inr (.inl ⟨n1.symm,lc b hM kz (.inr Y)⟩)
     ·subst e
      exact .inr (.inr ⟨n1.symm,lc a t6 (Ne.symm kz) (.inl Y)⟩)
 exact ⟨m,hm,key⟩
def Zto (td:TD M ns) (hM:M[a]?=some (some b)) (kz:a / 3≠b / 3) {ws:List Nat} (hP:Pl M ws) {k h f:Nat} (hh:(Wi a b ws)[k]?=some h) (hf:(Wi a b ws)[(k + 1) % (Wi a b ws).length]?=some f) :
  CH (Nx (exM left a b M)) (Jj M left a b h f ++ [j9 left a b f]):=by
 have inv:=td.inv;have t6:=(inv a b hM).1;have ha:a < M.length:=(Aa hM).1;have hb:b < M.length:=(Aa t6).1;obtain ⟨ma,mb⟩:=@mv_a left a b kz;have hPh:Xl a b h=true:=(mem_filter.mp (Au hh)).2;have hfk:Xl a b f=true:=(mem_filter.mp (Au hf)).2;have kb:∀ q,Xl a b q=true->q≠a/\q≠b:=λq hq=>by
  unfold Xl at hq
  simpa using hq
 obtain ⟨hha,hhb⟩:=kb h hPh;obtain ⟨hfa,hfb⟩:=kb f hfk;obtain ⟨m,hm,key⟩:=Zl0 td hM kz hP hh hf;have emt:mtN M h=m:=by unfold mtN; rw [Ad,hm]; rfl
 have hma:m≠a:=λz=>by subst z; have:=(inv h m hm).1; rw [hM] at this; cases this; exact hhb Y
 have hmb:m≠b:=λz=>by subst z; have:=(inv h m hm).1; rw [t6] at this; cases this; exact hha Y
 have x0:=Zg0 (left:=left) td ha hb kz hm;have inj:=λ{y z:Nat} (e:j9 left a b y=j9 left a b z)=>Zim kz left e;unfold Jj;rw [emt];by_cases hc:j9 left a b m / 3=j9 left a b f / 3
 ·have ec:Q3 a b (j9 left a b m) (j9 left a b f)=[]:=if_pos hc
  rw [ec];have ux:f≠m:=by
   rcases key with k1 | k1 | k1
   ·exact k1.2
   ·exact λz=>kz (by rw [<- k1.1,<- k1.2,z])
   ·exact λz=>kz (by rw [<- k1.1,<- k1.2,z])
  intro i u v hu hv;have hi:i + 1 < 2:=(Aa hv).1;have hi:i=0:=by lia
  subst hi;cases hu;cases hv;exact ⟨_,x0,hc.symm,λz=>ux (inj z)⟩
 ·have hm3:m / 3=a / 3\/m / 3=b / 3:=by
   rcases key with k1 | k1 | k1
   ·refine Classical.byContradiction λz=>hc ?_
    have c1:m / 3≠a / 3:=λy=>z (.inl y);have c2:m / 3≠b / 3:=λy=>z (.inr y);rw [Zl2 c1 c2,Zl2 (by rw [k1.1]; exact c1) (by rw [k1.1]; exact c2),k1.1]
   ·exact .inl k1.1
   ·exact .inr k1.1
  have hf3:f / 3=a / 3\/f / 3=b / 3:=by
   rcases key with k1 | k1 | k1
   ·rw [k1.1]; exact hm3
   ·exact .inr k1.2
   ·exact .inl k1.2
  have xm:=Zgl (left:=left) hm3;have xf:=Zgl (left:=left) hf3;rw [Zmt kz hc xm];have xa:=Zg0 (left:=left) td ha hb kz hM;have xb:=Zg0 (left:=left) td ha hb kz t6;rw [ma,mb] at xa;rw [mb,ma] at xb;have nm_a:j9 left a b m≠a:=λz=>hma (inj (z.trans ma.symm));have nm_b:j9 left a b m≠b:=λz=>hmb (inj (z.trans mb.symm));have nf_a:j9 left a b f≠a:=λz=>hfa (inj (z.trans ma.symm));have nf_b:j9 left a b f≠b:=λz=>hfb (inj (z.trans mb.symm));by_cases y:a / 3=j9 left a b m / 3
  ·rw [if_pos y]
   intro i u v hu hv;have hi:i + 1 < 3:=(Aa hv).1
   rcases (show i=0\/i=1 by lia) with e | e
   ·subst e; cases hu; cases hv
    exact ⟨_,x0,y,λz=>nm_a z.symm⟩
   ·subst e; cases hu; cases hv
    exact ⟨_,xa,xf.resolve_left (λz=>hc (y.symm.trans z.symm)),nf_b⟩
  ·rw [if_neg y]
   intro i u v hu hv;have hi:i + 1 < 3:=(Aa hv).1
   rcases (show i=0\/i=1 by lia) with e | e
   ·subst e; cases hu; cases hv
    exact ⟨_,x0,(xm.resolve_left (λz=>y z.symm)).symm,λz=>nm_b z.symm⟩
   ·subst e; cases hu; cases hv
    exact ⟨_,xb,xf.resolve_right (λz=>hc ((xm.resolve_left (λw=>y w.symm)).trans z.symm)),nf_a⟩
theorem Za7 {R:Nat->Nat->Prop}:∀ (r:List Nat) (h z:Nat),(∀ (k u v:Nat),(h :: r ++ [z])[k]?=some u->(h :: r ++ [z])[k + 1]?=some v->CH R (Jj M left a b u v ++ [j9 left a b v]))->CH R (Y5 M left a b ((h :: r).zip (r ++ [z])) ++ [j9 left a b z])
 | [],h,z,B=>by
  have e:Y5 M left a b ([h].zip ([] ++ [z]))=Jj M left a b h z:=by unfold Y5; simp
  rw [e];exact B 0 h z Y Y
 | f :: r,h,z,B=>by
  have ih:=Za7 r f z λk u v hu hv=>B (k + 1) u v hu hv;have e:Y5 M left a b ((h :: f :: r).zip (f :: r ++ [z]))=Jj M left a b h f ++ Y5 M left a b ((f :: r).zip (r ++ [z])):=rfl;rw [e,append_assoc]
  have hd:∃ t,Y5 M left a b ((f :: r).zip (r ++ [z])) ++ [j9 left a b z]=j9 left a b f :: t:=by
   cases r with
   | nil=>exact ⟨_,Y⟩
   | cons _ _=>exact ⟨_,Y⟩
  obtain ⟨t,ht⟩:=hd;rw [ht] at ih ⊢;exact CH.app (B 0 h f Y Y) ih
def Zqc (td:TD M ns) (hM:M[a]?=some (some b)) (kz:a / 3≠b / 3) {ws:List Nat} (hP:Pl M ws):Wi a b ws≠[]:=by
 intro hk;have inv:=td.inv;have t6:=(inv a b hM).1;have all:∀ q∈ws,q=a\/q=b:=λq hq=>by
  have:¬ Xl a b q=true:=λz=>by
   have hm:q∈Wi a b ws:=mem_filter.mpr ⟨hq,z⟩
   rw [hk] at hm
   exact absurd hm not_mem_nil
  unfold Xl at this
  simp only [Bool.and_eq_true,Bool.not_eq_true',decide_eq_false_iff_not,not_and,Decidable.not_not] at this
  by_cases z:q=a
  ·exact .inl z
  ·exact .inr (this z)
 have hp:0 < ws.length:=by have:=hP.ne; cases ws with | nil=>exact absurd rfl this | cons _ _=>simp
 have e0:=Ac hp;have e1:=Ac (mod_lt (0 + 1) hp);have n:=hP.nxt 0 _ _ e0 e1;have h0:=all _ (Au e0);have h1:=all _ (Au e1);generalize ws[0]=u at n h0;generalize ws[(0 + 1) % ws.length]'(mod_lt _ hp)=v at n h1
 rcases h0 with rfl | rfl
 ·obtain ⟨n1,n2⟩:=n _ hM
  rcases h1 with rfl | rfl
  ·exact kz n1
  ·exact n2 Y
 ·obtain ⟨n1,n2⟩:=n _ t6
  rcases h1 with rfl | rfl
  ·exact n2 Y
  ·exact kz n1.symm
def Pl.pull (td:TD M ns) (hM:M[a]?=some (some b)) (kz:a / 3≠b / 3) {ws:List Nat} (hP:Pl M ws):Pl (exM left a b M) (Y5 M left a b (Xh (Wi a b ws))):=by
 have kr:=Zqc td hM kz hP;have B:=λk h f e1 e2=>@Zto M ns left a b td hM kz ws hP k h f e1 e2;generalize Wi a b ws=ks at kr B
 cases ks with
 | nil=>exact absurd Y kr
 | cons h r =>
  have er:rot (h :: r) (1 % (h :: r).length)=r ++ [h]:=by
   cases r with
   | nil=>rw [show 1 % [h].length=0 from mod_self 1]; rfl
   | cons q r' =>
    rw [mod_eq_of_lt (by simp)];rfl
  unfold Xh;rw [er];have C:=Za7 (M:=M) (left:=left) (a:=a) (b:=b) (R:=Nx (exM left a b M)) r h h λk u v hu hv=>by
   have hk:k < (h :: r).length:=by
    have:=(Aa hv).1
    rw [Ae,At] at this
    lia
   refine B k u v ?_ ?_
   ·rw [Av hk] at hu; exact hu
   ·by_cases z:k + 1 < (h :: r).length
    ·rw [mod_eq_of_lt z]
     rw [Av z] at hv
     exact hv
    ·have e:k + 1=(h :: r).length:=by lia
     rw [e,getElem?_append_right (An _),Nat.sub_self] at hv
     rw [e,mod_self]
     exact hv
  have hd:∃ t,Y5 M left a b ((h :: r).zip (r ++ [h]))=j9 left a b h :: t:=by
   cases r with
   | nil=>exact ⟨_,Y⟩
   | cons _ _=>exact ⟨_,Y⟩
  obtain ⟨t,ht⟩:=hd;rw [ht] at C ⊢;exact Pl.chain C
end
structure Mv (M:Lq) (ns:List Int) (x:Int) (a b:Nat):Prop where
 hM:M[a]?=some (some b)
 lt:a < b
 nm:ns[a]?=some x
 ab:a / 3≠b / 3
section
variable {M M':Lq} {ns qw:List Int} {ws ml:List Nat} {mv:List (Int × Bool)} {x:Int} {left:Bool} {a b:Nat}
def Mv.lts (h:Mv M ns x a b) (td:TD M ns):a < M.length/\b < M.length:=⟨(Aa h.hM).1,(Aa (td.inv a b h.hM).1).1⟩
def Mv.ex (h:Mv M ns x a b) (td:TD M ns):Mv (exM left a b M) (exN left a b ns) x a b:=by
 obtain ⟨ha,hb⟩:=h.lts td;obtain ⟨e1,e2⟩:=Zr7 td ha hb h.ab left h.hM;exact ⟨e1,h.lt,e2.trans h.nm,h.ab⟩
def Mv.td (h:Mv M ns x a b) (td:TD M ns):TD (exM left a b M) (exN left a b ns):=td.ex (h.lts td).1 (h.lts td).2 h.ab left
end
end KT
namespace L2
open PySem PySem.Spec PyProof.Rows
end L2
namespace L2
open PySem PySem.Spec PyProof.Rows PySem.SeqAt
section
variable {X:Cx}
def Wt:Xi X (.type "dict") (λxs H Q=>∃ (d:Addr) (kvs:List (Key × V)),xs=[.ref d]/\Rd H d (.dK kvs)/\∀ p,H p=none->Q (.ref p) (upd H p (.dK kvs))):=by
 intro j5 s σ H xs us Q I r h;obtain ⟨d,kvs,rfl,hd,q⟩:=h;obtain ⟨u,rfl,ru⟩:=Wa r;obtain rfl:u=Value.ref d:=ru;obtain ⟨z,og,vs,kj,dd⟩:=Jp I.hok hd;have hl:vs.length<=sizeLine:=by rw [<- kj.length]; exact z
 refine kt_call_dict og dd hl λh' hD rl=>?_;have hk:∀ b u,s.heap.get? b=some u->h'.get? b=some u:=λb u e=>(rl.2 b (As (Ao e))).trans (Ak _ e);refine ⟨.ref s.heap.objs.size,_,I.laid (a:=s.heap.objs.size) (o:=.dK kvs) (t':=s.toks) hk (An _) ⟨z,?_,vs,kj,hD⟩,Y,q _ (I.hok.fresh (An _))⟩;exact (O1 (P:=X.prog) (w:=X.w) (H:=H) s.heap I.big).2.1
def Zm0 (bs:List Bool):((List.range bs.length).any λi=>bs.getD i true)=bs.any id:=by
 rw [Bool.eq_iff_iff,any_eq_true,any_eq_true];constructor
 ·rintro ⟨i,hi,h⟩
  have hi:=mem_range.mp hi;rw [Ad,Ac hi] at h;exact ⟨_,getElem_mem hi,h⟩
 ·rintro ⟨b,hb,h⟩
  obtain ⟨i,hi,rfl⟩:=mem_iff_getElem.mp hb;exact ⟨i,mem_range.mpr hi,by rw [Ad,Ac hi]; exact h⟩
def Zdq (hc:X.calm=true):Xi X (.builtin "any") (λxs H Q=>∃ p bs,xs=[.ref p]/\SqL X.K H p (List.map V.bl bs)/\Q (.bl (bs.any id)) H):=by
 intro j5 s σ H xs us Q I r h;obtain ⟨p,bs,rfl,hq,q⟩:=h;obtain ⟨u,rfl,ru⟩:=Wa r;cases ru;obtain ⟨its,rv,pl,hz⟩:=I.list hq;have ne:p≠s.heap.objs.size:=by obtain ⟨o,ho,_⟩:=pl.isList; exact As (Ao ho)
 refine call_any_walk (au:)
 ·intro i v s' Q' E' hv mn
  have hv:its[i]?=some v:=by simpa using hv
  have j8:=rv.length;rw [Ab] at j8;have hi:i < bs.length:=by have:=(Aa hv).1; lia
  obtain ⟨u,hu,ru⟩:=rv.get (show (bs.map V.bl)[i]?=some (V.bl bs[i]) by rw [Ah,Ac hi]; rfl);rw [hv] at hu;cases hu;cases ru;have e:bs.getD i true=bs[i]:=by rw [Ad,Ac hi]; rfl
  refine wpAny_truthy_bool ?_;have mn:Q' (bs.getD i true) s':=mn;rw [e] at mn;exact mn
 ·intro h' tk hk
  have I1:Inv X j5 σ H { s with heap:=h',toks:=tk }:=I.kept λb o e=>hk b o (a1:) (Ak _ e);have j8:its.toArray.size=bs.length:=by have:=rv.length; rw [Ab] at this; simp; lia
  refine ⟨.bl (bs.any id),H,I1,?_,q⟩;show Value.bool _=_;rw [j8,Zm0]
theorem Zh2 (ns:List Int):∀ k,k<=ns.length->preSum (λi=>ns.getD i 0) k=(ns.take k).sum
 | 0,_=>by simp [preSum]
 | k + 1,h=>by
  rw [preSum,Zh2 ns k (by lia),Aw,Ac (by lia),sum_append,Ad,Ac (by lia)];simp
def Zad {j5:List (n:)} {σ:St} {H:Hp} {s:Shared} {ns:List Int} {its:List Value} (rv:Vals (H:) its):∀ (i:Nat) (v:Value),its.toArray[i]?=some v->∃ t,v=.int (ns.getD i 0) t:=λi v hv=>by
 have hv:its[i]?=some v:=by simpa using hv
 have j8:=rv.length;rw [Ab] at j8;have hi:i < ns.length:=by have:=(Aa hv).1; lia
 obtain ⟨u,hu,ru⟩:=rv.get (show (H:)[i]?=some (V.int ns[i]) by rw [Ah,Ac hi]; rfl);rw [hv] at hu;cases hu;obtain ⟨t,rfl⟩:=ru;exact ⟨t,by rw [Ad,Ac hi]; rfl⟩
def Zmw (hc:X.calm=true):Xi X (.builtin "sum") (λxs H Q=>∃ (p:Addr) (ns:List Int),xs=[.ref p]/\SqL X.K H p (H:)/\Q (.int ns.sum) H):=by
 intro j5 s σ H xs us Q I r h;obtain ⟨p,ns,rfl,hq,q⟩:=h;obtain ⟨u,rfl,ru⟩:=Wa r;cases ru;obtain ⟨its,rv,pl,hz⟩:=I.list hq;have lt:p < s.heap.objs.size:=by obtain ⟨o,ho,_⟩:=pl.isList; exact Ao ho
 have j8:its.toArray.size=ns.length:=by have:=rv.length; rw [Ab] at this; simp; lia
 refine call_sum_walkG (wpAny_pyIter_list pl.isList ⟨s.heap.objs.size,_,_,_,_,_,λi=>ns.getD i 0,Y,Walks.list (A:=X.A.in1) (show X.A.in1.handled=none from I.ok.hd hc) s.heap.objs.size p (As lt) its.toArray,⟨⟨_,Ap _ Y,Y,Y⟩,pl.isList.push _⟩,?_,Zad (j5:=j5) (σ:=σ) (H:=H) (s:=s) rv,?_⟩)
 ·intro b hb
  show b < (s.heap.push _).objs.size;rw [Heap.size_push]
  rcases Ar hb with rfl | hb
  ·exact lt_succ_self _
  ·rw [Af hb]; exact lt_succ_of_lt lt
 ·intro h' tk t' hk
  have I1:Inv X j5 σ H { s with heap:=h',toks:=tk }:=I.kept λb o e=>hk b o (a1:) (Ak _ e);refine ⟨.int ns.sum,H,I1,⟨t',?_⟩,q⟩;rw [j8,Zh2 ns _ (An _),take_length]
def Zmz (hc:X.calm=true):Xi X (.builtin "max") (λxs H Q=>∃ (p:Addr) (ns:List Int),xs=[.ref p]/\SqL X.K H p (H:)/\0 < ns.length/\∀ m,m∈ns->(∀ a∈ns,a<=m)->Q (.int m) H):=by
 intro j5 s σ H xs us Q I r h;obtain ⟨p,ns,rfl,hq,hn,q⟩:=h;obtain ⟨u,rfl,ru⟩:=Wa r;cases ru;obtain ⟨its,rv,pl,hz⟩:=I.list hq;have lt:p < s.heap.objs.size:=by obtain ⟨o,ho,_⟩:=pl.isList; exact Ao ho
 have j8:its.toArray.size=ns.length:=by have:=rv.length; rw [Ab] at this; simp; lia
 have W:=Zad (j5:=j5) (σ:=σ) (H:=H) (s:=s) rv;refine call_max_walk (wpAny_pyIter_list pl.isList ⟨s.heap.objs.size,_,_,_,_,_,_,Y,Walks.list (A:=X.A.in1) (show X.A.in1.handled=none from I.ok.hd hc) s.heap.objs.size p (As lt) its.toArray,⟨⟨_,Ap _ Y,Y,Y⟩,pl.isList.push _⟩,?_,by rw [j8]; exact hn,CmpOf.ints_gt (λi=>ns.getD i 0) W,?_⟩)
 ·intro b hb
  show b < (s.heap.push _).objs.size;rw [Heap.size_push]
  rcases Ar hb with rfl | hb
  ·exact lt_succ_self _
  ·rw [Af hb]; exact lt_succ_of_lt lt
 ·intro v h' tk hP hk
  have I1:Inv X j5 σ H { s with heap:=h',toks:=tk }:=I.kept λb o e=>hk b o (a1:) (Ak _ e);rw [j8] at hP;obtain ⟨a1,a2⟩:=argBest_gt (λi=>ns.getD i 0) (ns.length - 1);obtain ⟨t,e⟩:=W _ _ hP;generalize argBest (λi j=>decide (ns.getD i 0 > ns.getD j 0)) (ns.length - 1)=k at a1 a2 e;have sg:k < ns.length:=by lia
  have ek:ns.getD k 0=ns[k]:=by rw [Ad,Ac sg]; rfl
  refine ⟨.int (ns.getD k 0),H,I1,⟨t,e⟩,q _ (by rw [ek]; exact getElem_mem sg) λa ha=>?_⟩;obtain ⟨j,hj,rfl⟩:=mem_iff_getElem.mp ha;have:=a2 j (by lia);have ej:ns.getD j 0=ns[j]:=by rw [Ad,Ac hj]; rfl
  show ns[j]<=ns.getD k 0;rw [<- ej]; exact this
theorem Zgr {A:Around} {j5:List (n:)} {σ:St} {H:Hp} {s:Shared} (I:Inv X j5 σ H s) (hu:A.units + 65 < cLine) {kb:List (Key × V)} {vb:List (Key × Value)} (rb:KV kb vb):∀ {ka:List (Key × V)} {va:List (Key × Value)},KV ka va ->
  (∀ k v,(k,v)∈ka->∃ d y,valV kb k=some y/\DV X.K H v d/\DV X.K H y d/\shaped d=true)->PySem.W.KeqHits A.in1 s vb va true
 | _,_,.nil,_=>.nil
 | (k,v) :: ka,(k',u) :: va,.cons r j7,h=>by
  obtain ⟨e,rv⟩:=r;have e:k=k':=e;subst e;obtain ⟨d,y,hy,dv,dy,hs⟩:=h k v (by simp);obtain ⟨uy,huy,ry⟩:=RelO.some_of (v:=y) (o:=valueAt vb k) (by rw [<- hy]; exact rb.val k);obtain ⟨as,r1⟩:=dv.reads I rv;obtain ⟨bs,r2⟩:=dy.reads I ry;have E:=PySem.W.keq_at (A:=A) r1 r2 hs hs (by show A.in1.units + 64 < cLine; simp; lia);rw [<- same_eq_eqv d d (Oy d (canLay_of_shaped hs)),same_self] at E;have:=PySem.W.KeqHits.hit huy E (Zgr I hu rb j7 λk v hm=>h k v (mem_cons_of_mem _ hm));simpa using this
def Zbv (K:W.Frag) (hc:X.calm=true) (h:X.K=K:=by rfl):Xi X (.builtin "sum") (λxs H Q=>∃ (p:Addr) (ns:List Int),xs=[.ref p]/\SqL K H p (H:)/\Q (.int ns.sum) H):=h ▸ Zmw hc
def Zj9 (K:W.Frag) (hc:X.calm=true) (h:X.K=K:=by rfl):Xi X (.builtin "max") (λxs H Q=>∃ (p:Addr) (ns:List Int),xs=[.ref p]/\SqL K H p (H:)/\0 < ns.length/\∀ m,m∈ns->(∀ a∈ns,a<=m)->Q (.int m) H):=h ▸ Zmz hc
end
end L2
namespace L2
open PySem PySem.Spec PyProof.Rows
end L2
namespace PySem.F
end PySem.F
namespace L2
open PySem PySem.Spec PyProof.Rows
noncomputable def dd (ks:List Int):List Int:=ks.foldl step_dedup []
def Znv:typeLookup (.type "list_reverseiterator") "__len__"=pure none:=by
 rw [typeLookup_type];rw [builtinLookup_eq_fast]
 kernel_rfl
def Zqg:typeLookup (.type "list_reverseiterator") "__length_hint__"=pure (some (.builtin "list_reverseiterator.__length_hint__")):=by
 rw [typeLookup_type];rw [builtinLookup_eq_fast]
 kernel_rfl
section
variable {prog:Program} {w:World} {A:Around} {E:Value->Shared->Prop} {s:Shared}
def Zj7 {I:Addr} {fp wr:List Addr} {G:Array GenState->Array GenState->Prop} {n:Nat} {P:Nat->Value->Prop} {St:Nat->Shared->Prop} {Q:List Value->Shared->Prop}
  (W:WalksS prog w A.in1 I fp wr G n P St) (hT:∀ i z,St i z->z.TypeIs (.ref I) "list_reverseiterator") (h0:St 0 s) (kl:∀ b∈fp,b < s.heap.objs.size) (hI:I∈fp)
  (q:∀ z j',Moved wr G s z->ItemsOf P j' n->Q j'.toList z) (hn:n<=sizeLine):wpAny (a0:) A (collect (.ref I)) Q E s:=by
 have nf:s.heap.objs.size ∉ fp:=λz=>absurd (kl _ z) (Nat.lt_irrefl _);have ni:s.heap.objs.size≠I:=λz=>nf (by rw [z]; exact hI);unfold collect;refine Al ?_;refine wpAny_runValue ?_;refine codeAny_builtin F.entry_proto_collect ?_;rw [Around.under_plainId F.plain_proto_collect _];refine Al (m:=newList []) ?_;refine wpAny_newObj_type ?_;refine wpAny_pure ?_;refine ⟨plainId_quiet F.plain_list_iadd _,?_⟩;refine codeAny_builtin F.entry_list_iadd ?_;rw [Around.under_plainId F.plain_list_iadd _];have k:∀ b o,s.heap.get? b=some o->(s.heap.push { cls:=.type "list",data:=.seq ([]:List Value).toArray }).get? b=some o:=λb o e=>Ak _ e;have h1:=W.frame 0 s _ s.toks h0 (An _) λb _ o e=>k b o e;have hS:(s.heap.push { cls:=.type "list",data:=.seq ([]:List Value).toArray }).get? s.heap.objs.size=some { cls:=.type "list",data:=.seq ([]:List Value).toArray }:=Ap _ rfl;have ns:Builtin.List.listSameRef (a6:) (.ref I)=false:=by
  unfold Builtin.List.listSameRef
  simp [ni]
 show wpAny _ A.in1 (Builtin.List.listExtendWith (a6:) (.ref I) (a6:)) _ _ _;unfold Builtin.List.listExtendWith;refine Al ?_;refine wpAny_typeOf (hT 0 _ h1) ?_;rw [if_neg (by rw [ns]; decide)];refine Al ?_;refine W.self 0 _ _ _ h1 ?_;refine Al ?_;refine wpAny_holding ?_;unfold Builtin.List.listLengthHint;refine Al ?_;refine wpAny_specialOf (hT 0 _ h1) Znv ?_;refine Al (m:=specialOf (.ref I) (Str.ofString "__length_hint__")) ?_;refine wpAny_specialOf (hT 0 _ h1) Zqg ?_;generalize hid:("list_reverseiterator.__length_hint__":String)=nmId
 (fail_if_success (clear hid nmId))
 wp_delta
 rw [show splitId nmId=some ("list_reverseiterator","__length_hint__") by rw [<- hid]; decide +kernel];subst hid;refine Al ?_;refine wpAny_isInstance (b:=true) (hT 0 _ h1) (by rw [isSubtype_type]; kernel_rfl) ?_;refine wpAny_pure ?_;rw [if_neg (d:)];refine wpAny_pure ?_;refine ⟨plainId_quiet F.plain_extend_loop _,?_⟩;refine codeAny_extend_loopS W hn _ nf _ n 0 _ _ _ Y (Az _) h1 hS (ItemsOf.nil P) λz j' c hm hz ha=>?_;show wpAny _ A (load s.heap.objs.size >>= _) _ _ z;refine Al ?_;refine wpAny_load hz ?_;refine wpAny_pure ?_;exact q z j' (Moved.drop_new (o:={ cls:=.type "list",data:=.seq ([]:List Value).toArray }) (tk:=s.toks) hm (An _)) ha
def Zqd {I l:Addr} {its:List Value} {ys:List Str} {x:Str} {t:Tok} {Q:Value->Shared->Prop} (hh:A.handled=none) (kr:l≠I) (hit:s.heap.IsRevIter I l ((its.length:Int) - 1)) (hl:s.heap.IsList l its.toArray)
  (hi:StrsAre its ys) (hsep:x.length<=16) (hw:(ys.map (·.length)).sum + ys.length<=1048576)
  (q:∀ h' t' k,(∀ b o,b≠I->s.heap.get? b=some o->h'.get? b=some o)->Q (.str (Txt.join x ys.reverse) t') { s with heap:=h',toks:=k }):wpAny (a0:) A (call (.builtin "str.join") [.str x t,.ref I]) Q E s:=by
 have W:=(Walks.listRev (prog:=prog) (w:=w) (A:=A.in1.in1) hh I l kr its.toArray).toS;have hT:∀ i (z:Shared),(i<=its.toArray.size/\z.heap.IsRevIter I l ((its.toArray.size:Int) - 1 - (i:Int))/\z.heap.IsList l its.toArray)->z.TypeIs (.ref I) "list_reverseiterator":=λi z h=>h.2.1.typeIs;have h0:0<=its.toArray.size/\s.heap.IsRevIter I l ((its.toArray.size:Int) - 1 - ((0:Nat):Int))/\s.heap.IsList l its.toArray:=⟨Az _,by simpa using hit,hl⟩;have hly:its.length=ys.length:=hi.length;refine wpAny_call ?_;refine codeAny_call_builtin F.slot_str_join.plain F.entry_str_join ?_;refine F.slot_str_join.check _ _ _ _ _ _ _ _ (typeIs_str _ _ _) (F.args_str_join_2 _ _) ?_;rw [join_tree_other];refine Al ?_;refine wpAny_typeOf (hT 0 s h0) ?_;show wpAny _ A.in1 ((pyIter (.ref I)).tryCatch _ >>= λit=>collect it >>= λzs=>joinTail x zs) _ _ s;refine Al ?_;refine wpAny_tryCatch ?_;refine W.of_in1.self 0 s _ _ h0 ?_;refine Al ?_;have kl:∀ b∈[I,l],b < s.heap.objs.size:=λb hb=>by
  rcases Ar hb with z | z
  ·obtain ⟨o,e,_⟩:=hit.typeIs
   subst z
   exact Ao e
  ·rw [Af z]
   obtain ⟨o,e,_⟩:=hl
   exact Ao e
 refine Zj7 W hT h0 kl mem_cons_self (λz j' hm ha=>?_) (by rw [Aq,sizeLine_eq]; lia);have ea:j'.toList=its.reverse:=by
  refine ext_getElem? λj=>?_
  have hz:j'.size=its.length:=ha.1.trans Aq
  by_cases c:j < its.length
  ·have hj:j < j'.size:=by lia
   have h2:=ha.2 j _ (Array.getElem?_eq_getElem hj)
   rw [Array.getElem?_toList,Array.getElem?_eq_getElem hj,getElem?_reverse c,<- h2]
   simp
  ·rw [Ay (by rw [Array.length_toList]; lia),Ay (by rw [length_reverse]; lia)]
 obtain ⟨ps,hps⟩:=exists_strValues its.reverse λv hv=>hi.all v (mem_reverse.mp hv);have ey:ps.map (·.1)=ys.reverse:=by
  rw [<- hi.strs,<- map_reverse,<- hps]
  unfold strValues
  rw [map_map]
  rfl
 rw [ea,<- hps];have ok:JoinOk x (ps.map (·.1))=true:=joinOk_of_weight (by rw [ey]; simpa using hw) hsep;unfold JoinOk at ok;rw [Bool.not_eq_true'] at ok;have g:Gives (joinTail x (strValues ps)) (joinMade x ps):=by
  have g0:=gives_joinTail x ps ok
  rcases ps with _ | ⟨p,_ | ⟨p',r⟩⟩
  ·exact g0
  ·exact g0
  ·exact g0
 refine g prog w A (wants Q E) z (post_join ps ⟨joinFit_length ok,λt' k=>?_⟩);rw [ey];obtain ⟨zh,zg,zd,zt,zo⟩:=z;obtain ⟨m1,m2,m3,m4,m5⟩:=hm;have m2:zg=s.gens:=m2;have m3:zd=s.drawn:=m3;have m4:zo=s.os:=m4;subst m2 m3 m4;exact q zh t' k λb o hb e=>m1 b o (λz=>hb (Af z)) e
end
section
variable {X:Cx}
def Zm6 (K:W.Frag) (to:TE) (ta:TA):TE:=λσ H Q=>to σ H λx H1=>∃ mk,x=.str mk/\ta σ H1 λvs H2=>∃ a ys,vs=[.ref a]/\SqL K H2 a (List.map V.str ys)/\mk.length<=16/\(ys.map (·.length)).sum + ys.length<=1048576/\Q (.str (Txt.join mk ys.reverse)) H2
def Zjm {o l:Expr} {to:TE} {ta:TA} {p1 kf ke rf:Pos} (hg:Gl X "reversed") (hm:X.mg "reversed"=none) (hc:X.calm=true) (ho:PE X o to) (ha:PA X [l] ta)
  (pe:attributeBase o "join" X.env (eval o X.env)=eval o X.env:=by rfl)
  (yx:((backTo ke (starEach [.Call (.Name "reversed" p1) [l] [] rf] X.env)).all (λx=>!x.1) && (backToKw ke (keywordEach [] X.env)).all (λx=>x.1.isSome)
   && decide ([Expr.Call (.Name "reversed" p1) [l] [] rf].length + ([]:List Keyword).length + (if ([]:List Keyword).isEmpty then 0 else 1) < 30))=true:=by rfl)
  (pd:(kf.endLine == ke.line)=true:=by rfl) (hs:starEach [.Call (.Name "reversed" p1) [l] [] rf] X.env=[(false,eval (.Call (.Name "reversed" p1) [l] [] rf) X.env)]:=by rfl) (zj:starEach [l] X.env=[(false,eval l X.env)]:=by rfl) :
  PE X (.Call (.Attribute o "join" kf) [.Call (.Name "reversed" p1) [l] [] rf] [] ke) (Zm6 X.K to ta):=by
 intro j5 s σ H Q I h;refine wpAny_Call_method_late pe yx pd Y (thn (ho j5 s σ H _ I h) λv s1 kc=>?_);obtain ⟨x,H1,I1,r1,q1⟩:=kc;obtain ⟨mk,rfl,q1⟩:=q1;obtain ⟨h1,h2⟩:=Zep (T:="str") I1 r1 (by first | rfl | exact trivial);refine ⟨"str","str.join",PySem.F.plainAttrs_str,PySem.F.slot_str_join,PySem.F.type_str_join,h1,h2,?_⟩;obtain ⟨t,rfl⟩:=r1;rw [hs];refine Calls.callWith_builtin Y (Calls.evalArgs_plain ?_);refine Calls.spliced_cons ?_;refine Call_ (Wf I1 hg hm boot_reversed (PyProof.Rows.callWith_type1 (thn (ha rf j5 s1 σ H1 _ I1 q1) λus s2 zz39=>?_) zj Y));obtain ⟨vs,H2,I2,r2,q2⟩:=zz39;obtain ⟨a,ys,e,hq,w1,w2,q⟩:=q2;subst e;obtain ⟨u,rfl,ru⟩:=Wa r2;cases ru;obtain ⟨its,rv,pl,_⟩:=I2.list hq;refine call_reversed_list pl.isList ?_;refine Calls.spliced_nil ?_;have I3:Inv X j5 σ H2 { s2 with heap:=s2.heap.push (revObj a ((its.toArray.size:Int) - 1)) }:=I2.kept (t':=s2.toks) λb o e=>Ak _ e;have ne:a≠s2.heap.objs.size:=λz=>by
  obtain ⟨o,e,_⟩:=pl.isList
  exact As (Ao e) z
 have hl3:(s2.heap.push (revObj a ((its.toArray.size:Int) - 1))).IsList a its.toArray:=pl.isList.at λo e=>Ak _ e;have hit:(s2.heap.push (revObj a ((its.toArray.size:Int) - 1))).IsRevIter s2.heap.objs.size a ((its.length:Int) - 1):=by
  rw [show ((its.length:Int) - 1)=((its.toArray.size:Int) - 1) by simp]
  exact ⟨_,Ap _ Y,Y,Y⟩
 refine Zqd (I2.ok.hd hc) ne hit hl3 (by simpa using Zal rv) w1 w2 λh' t' k hk=>?_;refine ⟨.str _,H2,I2.kept (t':=k) λb o e=>hk b o (λz=>?_) (Ak _ e),⟨_,Y⟩,q⟩;exact As (Ao e) z
def Zrw:OpR X (compareOp .In) (λx y H Q=>∃ a b,x=.str a/\y=.str b/\Q (.bl (Txt.contains b a)) H):=by
 intro j5 s σ H x y v u Q I rx ry h;obtain ⟨a,b,rfl,rfl,q⟩:=h;obtain ⟨t,rfl⟩:=rx;obtain ⟨t',rfl⟩:=ry;exact PySem.SB.contains ⟨.bl _,H,I,Y,q⟩
def Zg6 (K:W.Frag) (h:X.K=K:=by rfl):Xi X (.builtin "isinstance") (λxs H Q=>∃ x T t b,xs=[x,V.ty T]/\TyOf K H x t/\PySem.W.kitOne K t (.type T)=some b/\Q (V.bl b) H):=h ▸ Zhx
def jStr (te:TE) (t:TJ):TJ:=λout σ H Q=>te σ H λv H1=>∃ x:Str,v=.str x/\x.length<=sizeLine/\(out ++ x).length<=sizeLine/\t (out ++ x) σ H1 Q
def Zrs {e:Expr} {es:List Expr} {te:TE} {t:TJ} {pos:Pos} (he:PE X e te) (h:PJ X es t):PJ X (.FormattedValue e (-1) none pos :: es) (jStr te t):=by
 intro out j5 s σ H Q I hq;refine joinParts_cons (FormattedValue_plain (thn (he j5 s σ H _ I hq) λu s1 kc=>?_));obtain ⟨v,H1,I1,r1,x,ev,hl,hz,q⟩:=kc;subst ev;obtain ⟨tk,rfl⟩:=r1;exact formatField_str (λt' k=>⟨hz,h _ j5 _ σ H1 Q (I1.tok _) q⟩) hl
end
end L2
namespace HL
open PySem PyProof.Rows HT
end HL
namespace L2
open PySem PySem.Spec PyProof.Rows
def Zn7 {X:Cx}:PIp X .FloorDiv (λx y H Q=>∃ i j,x=.int i/\y=.int j/\Zel i j/\Q (.int (i / j)) H):=by
 intro j5 s σ H x y v u Q I r1 r2 h;obtain ⟨i,j,e1,e2,hc,q⟩:=h;subst e1; subst e2;obtain ⟨t,rfl⟩:=r1;obtain ⟨t',rfl⟩:=r2;have h1:(0:Int) < j:=hc.1;refine ifloordiv_int (by lia) ?_ (.inl (PyProof.noPylong_of_log2 hc.2));rw [Int.fdiv_eq_ediv_of_nonneg i (by lia)];exact ⟨.int _,H,I.tok _,⟨_,Y⟩,q⟩
def Zet {P:Program} {w:World} {kvs:List (Key × V)} {vs:List (Key × Value)} {ks:List Str} (kj:KV kvs vs) (hk:kvs.map (·.1)=ks.map Sum.inr) {us:List Value} (hl:us.length=vs.length)
  (hu:∀ (j:Nat) (v:Value),us[j]?=some v->∃ k x,vs[j]?=some (k,x)/\(Z2 P w).is k v=true):StrsAre us ks:=by
 have lp:kvs.length=ks.length:=by have:=congrArg List.length hk; simpa using this
 have hvl:kvs.length=vs.length:=kj.length
 have key:∀ (j:Nat) (v:Value),us[j]?=some v->∃ i t,ks[j]?=some i/\v=Value.str i t:=λj v hv=>by
  obtain ⟨k,x,hx,hi⟩:=hu j v hv;have e1:(vs.map (·.1))[j]?=some k:=by rw [Ah,hx]; rfl
  have e2:vs.map (·.1)=kvs.map (·.1):=by
   clear hk hl hu lp hvl hx hi e1
   induction kj with
   | nil=>rfl
   | cons r t ih=>rw [map_cons,map_cons,ih,r.1]
  rw [e2,hk,Ah] at e1
  cases q:ks[j]? with
  | none=>rw [q] at e1; cases e1
  | some i =>
   rw [q] at e1;have e3:Sum.inr i=k:=Ax e1;subst e3;have yf:Vg (Sum.inr i) v=true:=hi
   rcases Xc yf with ⟨_,_,e,_⟩ | ⟨x',t,e,rfl⟩
   ·cases e
   ·cases e; exact ⟨_,t,Y,Y⟩
 have gen:∀ (us:List Value) (ks:List Str),us.length=ks.length->(∀ (j:Nat) (v:Value),us[j]?=some v->∃ i t,ks[j]?=some i/\v=Value.str i t)->StrsAre us ks:=by
  intro us
  induction us with
  | nil =>
   intro ks hl _
   cases ks with
   | nil=>exact .nil
   | cons _ _=>simp at hl
  | cons u r ih =>
   intro ks hl h
   cases ks with
   | nil=>simp at hl
   | cons i ks =>
    obtain ⟨i',t,e1,e2⟩:=h 0 u rfl;have e1':i=i':=by simpa using e1
    subst e1' e2;exact .cons i t (ih ks (by simpa using hl) λj v hv=>h (j + 1) v (by simpa using hv))
 exact gen us ks (by lia) key
section
variable {X:Cx}
def Kh (hc:X.calm=true):Xi X (.builtin "sorted") (λxs H Q=>∃ (d:Addr) (kvs:List (Key × V)) (ks:List Str),xs=[.ref d]/\Rd H d (.dK kvs)/\kvs.map (·.1)=ks.map Sum.inr/\ks.length < 64 /\
  ∀ (p:Addr) (out:List Str),H p=none->out.Perm ks->sortedS out=true->Q (.ref p) (upd H p (.lst (out.map V.str)))):=by
 intro j5 s σ H xs us Q I r h;obtain ⟨d,kvs,ks,rfl,hd,hk,h64,q⟩:=h;obtain ⟨u,rfl,ru⟩:=Wa r;obtain rfl:u=Value.ref d:=ru;obtain ⟨z,og,vs,kj,dd⟩:=Jp I.hok hd;obtain ⟨ep,hat⟩:=dd.dictAt;have j8:vs.length=ks.length:=by have:=congrArg List.length hk; rw [Ab,Ab] at this; have:=kj.length; lia
 have hn:vs.length<=sizeLine:=by rw [sizeLine_eq]; lia
 refine Calls.call_function_entry kind_sorted plain_sorted entry_sorted (args_sorted1 _) ?_;unfold Builtin.«sorted»;refine Al (m:=checkCount "sorted" 1 1 _) (wpAny_pure ?_);refine Al (PySem.W.kdu_collect (A:=X.A.in1) (PySem.W.kdl_dict (knd:=Z2 X.prog X.w) (kvs:=vs) (ep:=ep) og) (I.ok.hd hc) hat hn λh' tk j' sg o6=>?_);have hl:j'.toList.length=vs.length:=by rw [Array.length_toList]; exact o6.1
 have hI:StrsAre j'.toList ks:=Zet (P:=X.prog) (w:=X.w) kj hk hl λj v hv=>let ⟨a,b,c⟩:=o6.2 j v (by rw [<- Array.getElem?_toList]; exact hv); ⟨a,b,c⟩
 refine Al (wpAny_newList ?_ (by rw [hl]; exact hn));have I1:Inv X j5 σ H { s with heap:=h',toks:=tk }:=I.kept sg;have ve:(h'.push { cls:=.type "list",data:=.seq j'.toList.toArray }).get? h'.objs.size=some (seqObj "list" j'.toList.toArray 0):=Ap _ rfl;refine Al (wpAny_holding (wpAny_call_entry slot_list_sort ⟨_,ve,Y⟩ entry_list_sort (list_sort_treeK strKind_oneLt ve hI.keysOf (λv₁ v₂ j7 e=>keyKind_strs (by rw [<- e]; exact hI)) (by lia) λmj hp hs=>⟨_,Y,?_⟩) (args_list_sort _)));refine wpAny_pure ⟨_,Y,?_⟩;obtain ⟨qw,a1,a2,a3⟩:=sorted_out_str hI hp hs;generalize (arrOf mj).map (·.2)=out at a1;obtain ⟨e,he⟩:=sortedHeap_at (out:=out) ve;have kp:∀ b u,h'.get? b=some u->(sortedHeap (h'.push { cls:=.type "list",data:=.seq j'.toList.toArray }) h'.objs.size j'.toList out).get? b=some u:=λb u hb=>by
  have kl:b < h'.objs.size:=Ao hb
  rw [sortedHeap_old (As kl) (by rw [Heap.size_push]; exact lt_succ_of_lt kl)]
  exact Ak _ hb
 have hv:Vals (qw.map V.str) out.toList:=by
  clear he kp;generalize out.toList=l at a1;clear a2 a3
  induction a1 with
  | nil=>exact .nil
  | cons i t _ ih=>exact .cons ⟨_,Y⟩ ih
 refine ⟨.ref h'.objs.size,upd H h'.objs.size (.lst (qw.map V.str)),I1.laid kp (An _) ?_,Y,q _ qw I1.fresh a2 a3⟩;refine ⟨?_,out.toList,e,hv,?_⟩
 ·rw [Ab,a2.length_eq,sizeLine_eq]; lia
 ·rw [he]
def Asc (x:Str):Prop:=∀ c∈x.cps.toList,c < 128
def Asc.app {x y:Str} (h:Asc x) (h':Asc y):Asc (x ++ y):=by
 intro c hc;have:(x ++ y).cps.toList=x.cps.toList ++ y.cps.toList:=Array.toList_append;rw [this] at hc;exact (mem_append.mp hc).elim (h c) (h' c)
def Asc.join {ys:List Str} (h:∀ y∈ys,Asc y):Asc (Txt.join (Str.ofString "") ys):=by
 intro c hc;rw [Zn6] at hc;obtain ⟨l,hl,hc⟩:=mem_flatten.mp hc;obtain ⟨y,hy,rfl⟩:=mem_map.mp hl;exact h y hy c hc
end
def Asc.num (i:Int):Asc (Str.ofString (toString i)):=λc hc=>by
 refine Decidable.byContradiction λh=>?_;exact int_text_free' c ⟨by lia,by lia⟩ i hc
theorem Zg7 {mk:Str} (hs:Asc mk):∀ (l:List Str) (a:Array Nat),(∀ c∈a.toList,c < 128)->(∀ y∈l,Asc y)->∀ c∈(l.foldl (λj' p=>j' ++ mk.cps ++ p.cps) a).toList,c < 128
 | [],a,ha,_,c,hc=>ha c hc
 | y :: l,a,ha,hl,c,hc=>by
  refine Zg7 hs l (a ++ mk.cps ++ y.cps) (λd hd=>?_) (λz hz=>hl z (mem_cons_of_mem _ hz)) c hc;rw [Array.toList_append,Array.toList_append] at hd
  rcases mem_append.mp hd with h | h
  ·rcases mem_append.mp h with h | h
   ·exact ha d h
   ·exact hs d h
  ·exact hl y mem_cons_self d h
def Asc.joinS {mk:Str} {ys:List Str} (hs:Asc mk) (h:∀ y∈ys,Asc y):Asc (Txt.join mk ys):=by
 unfold Txt.join Builtin.Str.glued
 cases ys with
 | nil=>intro c hc; have hc:c∈([]:List Nat):=hc; cases hc
 | cons y l=>exact Zg7 hs l y.cps (h y mem_cons_self) λz hz=>h z (mem_cons_of_mem _ hz)
theorem Zdl {mk:Str}:∀ (l:List Str) (a:Array Nat),(l.foldl (λj' p=>j' ++ mk.cps ++ p.cps) a).size=a.size + (l.map (·.length)).sum + l.length * mk.length
 | [],a=>by simp
 | y :: l,a=>by
  rw [foldl_cons,Zdl l,Array.size_append,Array.size_append,map_cons,sum_cons,length_cons,Nat.add_mul];show a.size + mk.length + y.length + _ + _=_;lia
def Zn5 (mk:Str) (ys:List Str):(Txt.join mk ys).length<=(ys.map (·.length)).sum + ys.length * mk.length:=by
 unfold Txt.join Builtin.Str.glued
 cases ys with
 | nil=>exact Az _
 | cons y l =>
  show (l.foldl (λj' p=>j' ++ mk.cps ++ p.cps) y.cps).size<=_;rw [Zdl,map_cons,sum_cons,length_cons,Nat.add_mul];show y.length + _ + _<=_;lia
theorem Zh3 {B:Nat}:∀ {l:List Str},(∀ x∈l,x.length<=B)->(l.map (·.length)).sum<=B * l.length
 | [],_=>An _
 | x :: l,h=>by
  have h1:=h x mem_cons_self;have h2:=Zh3 (l:=l) λy hy=>h y (mem_cons_of_mem _ hy);rw [map_cons,sum_cons,length_cons,Nat.mul_add];lia
def Op (x y:Str):(x ++ y).length=x.length + y.length:=Array.size_append
end L2
namespace KT
open PySem L2
noncomputable def aN (a:Nat):Nat:=(after a).toNat
noncomputable def bN (a:Nat):Nat:=(Zu a).toNat
def Zbx (a:Nat):after a=(aN a:Int):=(Int.toNat_of_nonneg (Yt a).2.2).symm
def Zbw (a:Nat):Zu a=(bN a:Int):=(Int.toNat_of_nonneg (Yn a).2.2).symm
def Q5 (a:Nat):aN a=if a % 3=2 then a - 2 else a + 1:=by
 have h:=Zbx a;unfold after at h;split at h <;> split <;> lia
def Q4 (a:Nat):bN a=if a % 3=0 then a + 2 else a - 1:=by
 have h:=Zbw a;unfold Zu at h;split at h <;> split <;> lia
def d3_0 (q:Nat):3 * q / 3=q:=Nat.mul_div_cancel_left q (d:)
def d3_1 (q:Nat):(3 * q + 1) / 3=q:=by rw [mul_add_div (d:)]; rfl
def d3_2 (q:Nat):(3 * q + 2) / 3=q:=by rw [mul_add_div (d:)]; rfl
def aN_0 (q:Nat):aN (3 * q)=3 * q + 1:=by rw [Q5,if_neg (by rw [mul_mod_right]; decide)]
def aN_1 (q:Nat):aN (3 * q + 1)=3 * q + 2:=by rw [Q5,if_neg (by rw [mul_add_mod]; decide)]
def aN_2 (q:Nat):aN (3 * q + 2)=3 * q:=by rw [Q5,if_pos (by rw [mul_add_mod])]; rfl
def bN_0 (q:Nat):bN (3 * q)=3 * q + 2:=by rw [Q4,if_pos (mul_mod_right 3 q)]
def bN_1 (q:Nat):bN (3 * q + 1)=3 * q:=by rw [Q4,if_neg (by rw [mul_add_mod]; decide)]; rfl
def bN_2 (q:Nat):bN (3 * q + 2)=3 * q + 1:=by rw [Q4,if_neg (by rw [mul_add_mod]; decide)]; rfl
def three (a:Nat):∃ q,a=3 * q\/a=3 * q + 1\/a=3 * q + 2:=⟨a / 3,by lia⟩
def Zas (a:Nat):aN a / 3=a / 3/\bN a / 3=a / 3/\aN (aN a)=bN a/\bN (aN a)=a/\aN (bN a)=a/\bN (bN a)=aN a/\aN a≠a/\bN a≠a/\aN a≠bN a:=by
 have n1:∀ q,q + 1≠q:=λq=>succ_ne_self q;have n2:∀ q,q + 2≠q:=λq h=>Nat.ne_of_gt (Nat.lt_add_of_pos_right (n:=q) (k:=2) (d:)) h;obtain ⟨q,rfl | rfl | rfl⟩:=three a
 ·rw [aN_0,bN_0,aN_1,bN_1,aN_2,bN_2,d3_0,d3_1,d3_2]
  exact ⟨Y,Y,Y,Y,Y,Y,n1 _,n2 _,λh=>n1 _ h.symm⟩
 ·rw [aN_1,bN_1,aN_2,bN_2,aN_0,bN_0,d3_0,d3_1,d3_2]
  exact ⟨Y,Y,Y,Y,Y,Y,n1 _,λh=>n1 _ h.symm,n2 _⟩
 ·rw [aN_2,bN_2,aN_0,bN_0,aN_1,bN_1,d3_0,d3_1,d3_2]
  exact ⟨Y,Y,Y,Y,Y,Y,λh=>n2 _ h.symm,λh=>n1 _ h.symm,λh=>n1 _ h.symm⟩
def Zhw (a z:Nat) (h:z / 3=a / 3):z=a\/z=aN a\/z=bN a:=by
 have h1:=Q5 a;have h2:=Q4 a;split at h1 <;> split at h2 <;> lia
def Os {n:Nat} (h:a < 3 * n):aN a < 3 * n/\bN a < 3 * n:=by
 obtain ⟨h1,h2,_⟩:=Zas a;exact ⟨by lia,by lia⟩
structure PC (M:Lq) (f:Nat->Int):Prop where
 nn:∀ p,p < M.length->0<=f p
 rim:∀ p:Nat,M[p]?=some none->f p=0
 mate:∀ p q:Nat,M[p]?=some (some q)->f q=f p
 even:∀ p,p < M.length->(f p + f (aN p) + f (bN p)) % 2=0
 tri:∀ p,p < M.length->f p<=f (aN p) + f (bN p)
noncomputable def mx (x y:Int):Int:=if y > x then y else x
noncomputable def bh (f:Nat->Int) (a b:Nat):Int:=mx (f (aN a) + f (aN b)) (f (bN a) + f (bN b)) - f a
noncomputable def fx (left:Bool) (a b:Nat) (f:Nat->Int) (z:Nat):Int:=if z=a\/z=b then bh f a b else f (j9 (!left) a b z)
section
variable {M:Lq} {ns:List Int} {f:Nat->Int} {a b:Nat} {left:Bool}
def Nm (ns:List Int) (f:Nat->Int) (g:Int->Int):Prop:=∀ (p:Nat) (x:Int),ns[p]?=some x->g x=f p
def Zqb (td:TD M ns) (hM:M[a]?=some (some b)) (kz:a / 3≠b / 3) (left:Bool):(af:).Perm (keys (exN left a b ns) (exN left a b ns).length):=by
 have t6:=(td.inv a b hM).1;have ha:a < M.length:=(Aa hM).1;have hb:b < M.length:=(Aa t6).1;obtain ⟨n,_,_,hn⟩:=td.n;have hnl:=td.len;rw [perm_ext_iff_of_nodup (Qa _ _) (Qa _ _)];intro x;rw [Y2,Y2,Jy];constructor
 ·rintro ⟨i,hi,e⟩
  have hm:j9 left a b i < M.length:=by rw [hn]; exact Jl (by lia) (by lia) left (by lia)
  exact ⟨j9 left a b i,by lia,by rw [Wz td ha hb kz left hm,Xn kz]; exact e⟩
 ·rintro ⟨i,hi,e⟩
  have yf:i < M.length:=by lia
  rw [Wz td ha hb kz left yf] at e;exact ⟨_,by have:=(Aa e).1; exact this,e⟩
end
noncomputable def sF (f:Nat->Int):Nat->Int
 | 0=>0
 | n + 1=>sF f n + f n
def Ub {M:Lq} (h:M[q]?=some (some m)):mtN M q=m:=by unfold mtN; rw [Ad,h]; rfl
noncomputable def lz (M:Lq) (ws:List Nat) (p:Nat):Nat:=ws.countP λq=>decide (q=p\/mtN M q=p)
def ind3 (z q:Nat):(if q=z then 1 else 0) + (if q=aN z then 1 else 0) + (if q=bN z then 1 else 0)=if q / 3=z / 3 then 1 else 0:=by
 obtain ⟨a1,a2,_,_,_,_,a7,a8,a9⟩:=Zas z;by_cases c:q / 3=z / 3
 ·rw [if_pos c]
  rcases Zhw z q c with rfl | rfl | rfl
  ·rw [if_pos rfl,if_neg (Ne.symm a7),if_neg (Ne.symm a8)]
  ·rw [if_neg a7,if_pos rfl,if_neg a9]
  ·rw [if_neg a8,if_neg (Ne.symm a9),if_pos rfl]
 ·rw [if_neg c,if_neg (λe=>c (by rw [e])),if_neg (λe=>c (by rw [e]; exact a1)),if_neg (λe=>c (by rw [e]; exact a2))]
def Zei {q m s:Nat} (h:q≠m):(if decide (q=s\/m=s)=true then 1 else 0)=(if q=s then 1 else 0) + if m=s then 1 else 0:=by
 by_cases c:q=s
 ·subst c
  rw [if_pos (decide_eq_true (.inl rfl)),if_pos rfl,if_neg (Ne.symm h)]
 ·by_cases d:m=s
  ·rw [if_pos (decide_eq_true (.inr d)),if_neg c,if_pos d]
  ·rw [if_neg (λe=>by rcases of_decide_eq_true e with e | e; exact c e; exact d e),if_neg c,if_neg d]
theorem Zmu {M:Lq} (inv:InvM M) (z:Nat):∀ ws:List Nat,(∀ p∈ws,∃ m,M[p]?=some (some m)) ->
  lz M ws z + lz M ws (aN z) + lz M ws (bN z)=(ws.countP λq=>decide (q / 3=z / 3)) + ws.countP λq=>decide (mtN M q / 3=z / 3)
 | [],_=>rfl
 | q :: r,h=>by
  have ih:=Zmu inv z r λp hp=>h p (mem_cons_of_mem _ hp);obtain ⟨m,hm⟩:=h q mem_cons_self;have ne:=(inv q m hm).2;unfold lz at ih ⊢;simp only [countP_cons,Ub hm];rw [Zei ne,Zei ne,Zei ne];have i1:=ind3 z q;have i2:=ind3 z m;have e:∀ c:Prop,[Decidable c]->(if decide c=true then 1 else 0)=if c then 1 else 0:=λc _=>by by_cases h:c <;> simp [h]
  rw [e,e];lia
def Zqr (inv:InvM M) (h:ws=[]\/Pl M ws) (z:Nat):(lz M ws z + lz M ws (aN z) + lz M ws (bN z)) % 2=0:=by
 rcases h with rfl | hP
 ·rfl
 ·rw [Zmu inv z ws hP.has]
  have hl:0 < ws.length:=length_pos_iff.mpr hP.ne;have e:(ws.map λq=>mtN M q / 3)=(rot ws 1).map λq=>q / 3:=by
   apply ext_getElem?
   intro i
   rw [Ah,Ah]
   by_cases hi:i < ws.length
   ·obtain ⟨m,hm⟩:=hP.has ws[i] (getElem_mem hi)
    have hn:(i + 1) % ws.length < ws.length:=mod_lt _ hl
    have:=(hP.nxt i ws[i] ws[(i + 1) % ws.length] (Ac hi) (Ac hn) m hm).1
    rw [Za5 (j:=0) hl hi,Ac hi,Ac hn]
    show some (mtN M ws[i] / 3)=some (ws[(i + 1) % ws.length] / 3)
    rw [Ub hm,this]
   ·rw [Ay (by lia),Ay (by rw [Jt _ (by lia)]; lia)]
    rfl
  have p:(rot ws 1).Perm ws:=by
   unfold rot;refine perm_append_comm.trans ?_;rw [take_append_drop]
  have c1:(ws.countP λq=>decide (mtN M q / 3=z / 3))=(ws.map λq=>mtN M q / 3).countP λx=>decide (x=z / 3):=by rw [countP_map]; rfl
  have c2:(ws.countP λq=>decide (q / 3=z / 3))=((rot ws 1).map λq=>q / 3).countP λx=>decide (x=z / 3):=by rw [countP_map,p.countP_eq]; rfl
  rw [c1,e,<- c2];lia
def Zok {M:Lq} (inv:InvM M) (has:∀ p∈ws,∃ m,M[p]?=some (some m)) (h:M[p]?=some (some y)):lz M ws y=lz M ws p:=by
 unfold lz;apply countP_congr;intro q hq;obtain ⟨m,hm⟩:=has q hq;have hy:=(inv p y h).1;rw [Ub hm,decide_eq_true_eq,decide_eq_true_eq];constructor
 ·rintro (rfl | rfl)
  ·right; rw [hy] at hm; cases hm; rfl
  ·left
   have:=(inv q m hm).1;rw [hy] at this; cases this; rfl
 ·rintro (rfl | rfl)
  ·right; rw [h] at hm; cases hm; rfl
  ·left
   have:=(inv q m hm).1;rw [h] at this; cases this; rfl
def Zqu {M:Lq} (inv:InvM M) (has:∀ p∈ws,∃ m,M[p]?=some (some m)) (h:(M[p]?).join=none):lz M ws p=0:=by
 unfold lz;rw [countP_eq_zero];intro q hq e;obtain ⟨m,hm⟩:=has q hq;rw [Ub hm] at e
 rcases of_decide_eq_true e with rfl | rfl
 ·rw [hm] at h; cases h
 ·rw [(inv q m hm).1] at h; cases h
def Nm.of {ns:List Int} (td:TD M ns) (pc:PC M f) (h:∀ x∈keys ns ns.length,∃ p,ns[p]?=some x/\g x=f p):Nm ns f g:=by
 intro p x hp;obtain ⟨q,hq,e⟩:=h x (Y2.mpr ⟨p,(Aa hp).1,hp⟩);rw [e]
 rcases td.eqv q p x hq hp with z | z
 ·rw [z]
 ·exact (pc.mate q p z).symm
section
variable {M:Lq} {ns:List Int} {f:Nat->Int} {g:Int->Int}
noncomputable def mu (M:Lq) (p:Nat):Nat:=match (M[p]?).join with
 | some q=>q
 | none=>p
end
end KT
namespace KT
noncomputable def lowN (m n:Nat):Nat × Nat:=(m / Nat.gcd m n,n / Nat.gcd m n)
structure Val (v:Nat × Nat) (N D:Nat):Prop where
 p1:0 < v.1
 p2:0 < v.2
 co:Nat.gcd v.1 v.2=1
 eq:v.1 * D=v.2 * N
def Gp {m n:Nat} (hm:0 < m) (hn:0 < n):Val (lowN m n) m n:=by
 have g0:0 < Nat.gcd m n:=gcd_pos_of_pos_left _ hm;have d1:=gcd_dvd_left m n;have d2:=gcd_dvd_right m n;refine ⟨div_pos (le_of_dvd hm d1) g0,div_pos (le_of_dvd hn d2) g0,?_,?_⟩
 ·show Nat.gcd (m / Nat.gcd m n) (n / Nat.gcd m n)=1
  rw [gcd_div d1 d2,Nat.div_self g0]
 ·show m / Nat.gcd m n * n=n / Nat.gcd m n * m
  obtain ⟨a,ha⟩:=d1;obtain ⟨b,hb⟩:=d2;generalize Nat.gcd m n=g at *;subst ha hb;rw [Nat.mul_div_cancel_left _ g0,Nat.mul_div_cancel_left _ g0];simp only [Nat.mul_comm,Nat.mul_left_comm]
def Zcn (m n:Nat):(lowN m n).1<=m/\(lowN m n).2<=n:=⟨div_le_self _ _,div_le_self _ _⟩
def Val.to {v:Nat × Nat} {N D N' D':Nat} (h:Val v N D) (hN:0 < N) (e:N * D'=D * N'):Val v N' D':=by
 refine ⟨h.p1,h.p2,h.co,?_⟩;refine eq_of_mul_eq_mul_right hN ?_
 calc v.1 * D' * N=v.1 * (N * D'):=by simp only [Nat.mul_comm,Nat.mul_left_comm]
  _=v.1 * (D * N'):=by rw [e]
  _=v.1 * D * N':=by rw [Nat.mul_assoc]
  _=v.2 * N * N':=by rw [h.eq]
  _=v.2 * N' * N:=by simp only [Nat.mul_comm,Nat.mul_left_comm]
noncomputable def lw2 (v f:Nat × Nat):Nat × Nat:=lowN (v.1 * f.1) (v.2 * f.2)
def Val.mul {v f:Nat × Nat} {N D:Nat} (h:Val v N D) (f1:0 < f.1) (f2:0 < f.2):Val (lw2 v f) (N * f.1) (D * f.2):=by
 refine (Gp (Nat.mul_pos h.p1 f1) (Nat.mul_pos h.p2 f2)).to (Nat.mul_pos h.p1 f1) ?_
 calc v.1 * f.1 * (D * f.2)=v.1 * D * (f.1 * f.2):=by simp only [Nat.mul_comm,Nat.mul_left_comm]
  _=v.2 * N * (f.1 * f.2):=by rw [h.eq]
  _=v.2 * f.2 * (N * f.1):=by simp only [Nat.mul_comm,Nat.mul_left_comm]
def Zj2 {v f:Nat × Nat} (co:Nat.gcd v.1 v.2=1) (f1:0 < f.1) (f2:0 < f.2):Nat.gcd (v.1 * f.1) (v.2 * f.2)<=f.1 * f.2:=by
 refine le_of_dvd (Nat.mul_pos f1 f2) ?_;have d1:Nat.gcd (v.1 * f.1) (v.2 * f.2) ∣ v.1 * (f.1 * f.2):=by
  rw [<- Nat.mul_assoc]; exact Nat.dvd_trans (gcd_dvd_left _ _) (Nat.dvd_mul_right _ _)
 have d2:Nat.gcd (v.1 * f.1) (v.2 * f.2) ∣ v.2 * (f.1 * f.2):=by
  rw [Nat.mul_comm f.1,<- Nat.mul_assoc]; exact Nat.dvd_trans (gcd_dvd_right _ _) (Nat.dvd_mul_right _ _)
 have:=dvd_gcd d1 d2;rw [gcd_mul_right,co,Nat.one_mul] at this;exact this
noncomputable def frc (tu:Nat × Nat) (k:Nat):Nat × Nat:=if k % 2=0 then (tu.1 + tu.2,tu.2) else (tu.1,tu.1 + tu.2)
def Zis {tu:Nat × Nat} (h1:0 < tu.1) (h2:0 < tu.2) (k:Nat):0 < (frc tu k).1/\0 < (frc tu k).2:=by
 unfold frc;split
 ·exact ⟨Nat.add_pos_left h1 _,h2⟩
 ·exact ⟨h1,Nat.add_pos_left h1 _⟩
def Zmg (tu:Nat × Nat) (k:Nat):(frc tu k).1<=tu.1 + tu.2/\(frc tu k).2<=tu.1 + tu.2:=by
 unfold frc;split
 ·exact ⟨An _,le_add_left _ _⟩
 ·exact ⟨le_add_right _ _,An _⟩
noncomputable def putG (g:Int->Nat × Nat) (x:Int) (v:Nat × Nat):Int->Nat × Nat:=λy=>if y=x then v else g y
noncomputable def stG (ks:List Int) (xs:List Int) (tu:Nat × Nat) (g:Int->Nat × Nat):Nat->Int->Nat × Nat
 | 0=>g
 | k + 1=>if xs.getD k 0∈ks then putG (stG ks xs tu g k) (xs.getD k 0) (lw2 (stG ks xs tu g k (xs.getD k 0)) (frc tu k)) else stG ks xs tu g k
noncomputable def strG (ks:List Int) (xs:List Int) (x:Int) (g:Int->Nat × Nat):Int->Nat × Nat:=putG (stG ks xs (g x) g 4) x ((g x).2,(g x).1)
noncomputable def lowG (g:Int->Nat × Nat):Int->Nat × Nat:=λx=>lowN (g x).1 (g x).2
noncomputable def chN (e:Nat->Bool) (tu v:Nat × Nat):Nat->Nat × Nat
 | 0=>v
 | k + 1=>if e k=true then lw2 (chN e tu v k) (frc tu k) else chN e tu v k
noncomputable def nuN (e:Nat->Bool) (tu:Nat × Nat):Nat->Nat
 | 0=>1
 | k + 1=>if e k=true then nuN e tu k * (frc tu k).1 else nuN e tu k
noncomputable def deN (e:Nat->Bool) (tu:Nat × Nat):Nat->Nat
 | 0=>1
 | k + 1=>if e k=true then deN e tu k * (frc tu k).2 else deN e tu k
noncomputable def cnN (e:Nat->Bool):Nat->Nat
 | 0=>0
 | k + 1=>if e k=true then cnN e k + 1 else cnN e k
noncomputable def flg (ks xs:List Int) (y:Int) (k:Nat):Bool:=decide (xs.getD k 0=y/\y∈ks)
theorem Zam (ks xs:List Int) (tu:Nat × Nat) (g:Int->Nat × Nat) (y:Int):∀ k,stG ks xs tu g k y=chN (flg ks xs y) tu (g y) k
 | 0=>rfl
 | k + 1=>by
  have ih:=Zam ks xs tu g y k;unfold stG chN;by_cases c:xs.getD k 0∈ks
  ·rw [if_pos c]
   unfold putG;by_cases z:y=xs.getD k 0
   ·rw [if_pos z,if_pos (by unfold flg; exact decide_eq_true ⟨z.symm,z ▸ c⟩),<- ih,z]
   ·rw [if_neg z,if_neg (by unfold flg; rw [decide_eq_false (λq=>z q.1.symm)]; decide)]
    exact ih
  ·rw [if_neg c,if_neg (by unfold flg; rw [decide_eq_false (show ¬ (xs.getD k 0=y/\y∈ks) from λq=>c (by rw [q.1]; exact q.2))]; decide)]
   exact ih
theorem Zg2 {e:Nat->Bool} {tu v:Nat × Nat} {N D:Nat} (h:Val v N D) (h1:0 < tu.1) (h2:0 < tu.2):∀ k,Val (chN e tu v k) (N * nuN e tu k) (D * deN e tu k)
 | 0=>by
  show Val v (N * 1) (D * 1);rw [Nat.mul_one,Nat.mul_one];exact h
 | k + 1=>by
  have ih:=Zg2 (e:=e) h h1 h2 k;obtain ⟨f1,f2⟩:=Zis h1 h2 k;unfold chN nuN deN;split
  ·rw [<- Nat.mul_assoc,<- Nat.mul_assoc]
   exact ih.mul f1 f2
  ·exact ih
theorem Zj8 {e:Nat->Bool} {tu v:Nat × Nat} {B S:Nat} (hv:v.1<=B/\v.2<=B) (hS:tu.1 + tu.2<=S) (h1:1<=S):∀ k,(chN e tu v k).1<=B * S ^ cnN e k/\(chN e tu v k).2<=B * S ^ cnN e k
 | 0=>by
  show v.1<=B * S ^ 0/\v.2<=B * S ^ 0;rw [Nat.pow_zero,Nat.mul_one];exact hv
 | k + 1=>by
  obtain ⟨i1,i2⟩:=Zj8 (e:=e) (tu:=tu) hv hS h1 k;obtain ⟨f1,f2⟩:=Zmg tu k;unfold chN cnN;split
  ·rw [Nat.pow_succ,<- Nat.mul_assoc]
   unfold lw2;obtain ⟨l1,l2⟩:=Zcn ((chN e tu v k).1 * (frc tu k).1) ((chN e tu v k).2 * (frc tu k).2);exact ⟨Nat.le_trans l1 (Nat.mul_le_mul i1 (Nat.le_trans f1 hS)),Nat.le_trans l2 (Nat.mul_le_mul i2 (Nat.le_trans f2 hS))⟩
  ·exact ⟨i1,i2⟩
end KT
namespace KT
open PySem L2
section
variable {M:Lq} {ns:List Int} {x y:Int} {a b:Nat}
def SwN (M:Lq) (ns:List Int) (x:Int):Prop:=∃ p j:Nat,M[p]?=some (some j)/\ns[p]?=some x
structure SwK (M:Lq) (ns:List Int) (ks:List Int):Prop where
 nd:ks.Nodup
 mem:∀ x,x∈ks ↔ SwN M ns x
def SwK.perm {ks ls:List Int} (h:SwK M ns ks) (g:SwK M ns ls):ks.Perm ls:=(perm_ext_iff_of_nodup h.nd g.nd).mpr λx=>(h.mem x).trans (g.mem x).symm
def SwN.key (td:TD M ns) (h:SwN M ns x):x∈keys ns ns.length:=by
 obtain ⟨p,j,_,e⟩:=h;exact Y2.mpr ⟨p,(Aa e).1,e⟩
def SwN.ex (td:TD M ns) (mv:Mv M ns x a b) (left:Bool) (h:SwN M ns y):SwN (exM left a b M) (exN left a b ns) y:=by
 obtain ⟨p,j,h1,h2⟩:=h;obtain ⟨ha,hb⟩:=mv.lts td;obtain ⟨n,n1,u7,hn⟩:=td.n;have hp:p < M.length:=(Aa h1).1;have hq:j9 left a b p < M.length:=by rw [hn] at ha hb hp ⊢; exact Jl ha hb left hp
 refine ⟨j9 left a b p,j9 left a b j,?_,?_⟩
 ·rw [Jz td ha hb mv.ab left hq,Xn mv.ab,h1]; rfl
 ·rw [Wz td ha hb mv.ab left hq,Xn mv.ab,h2]
def SwN.exI (td:TD M ns) (mv:Mv M ns x a b) (left:Bool) (h:SwN (exM left a b M) (exN left a b ns) y):SwN M ns y:=by
 obtain ⟨p,j,h1,h2⟩:=h;obtain ⟨ha,hb⟩:=mv.lts td;have hp:p < M.length:=by have:=(Aa h1).1; rw [Vm] at this; exact this
 rw [Jz td ha hb mv.ab left hp] at h1;rw [Wz td ha hb mv.ab left hp] at h2
 cases c:M[j9 (!left) a b p]? with
 | none=>rw [c] at h1; cases h1
 | some m =>
  rw [c] at h1
  cases m with
  | none=>cases h1
  | some q=>exact ⟨_,q,c,h2⟩
def SwK.ex {ks:List Int} (td:TD M ns) (mv:Mv M ns x a b) (left:Bool) (h:SwK M ns ks):SwK (exM left a b M) (exN left a b ns) ks :=
 ⟨h.nd,λy=>⟨λz=>((h.mem y).mp z).ex td mv left,λz=>(h.mem y).mpr (z.exI td mv left)⟩⟩
noncomputable def sqX (ns:List Int) (a b:Nat):List Int:=[ns.getD (aN a) 0,ns.getD (bN a) 0,ns.getD (aN b) 0,ns.getD (bN b) 0]
noncomputable def qh (a b:Nat):Nat->Nat
 | 0=>aN a
 | 1=>bN a
 | 2=>aN b
 | _=>bN b
def Zkn {k:Nat} (h:k < 4):(G:).getD k 0=ns.getD (qh a b k) 0:=by
 have:k=0\/k=1\/k=2\/k=3:=by lia
 rcases this with rfl | rfl | rfl | rfl <;> rfl
def Zko {n k:Nat} (ha:a < 3 * n) (hb:b < 3 * n):qh a b k < 3 * n:=by
 obtain ⟨a1,a2⟩:=Os ha;obtain ⟨b1,b2⟩:=Os hb;unfold qh;split <;> assumption
def Ja {p q a b:Nat} (kz:a / 3≠b / 3) (hp:p / 3=a / 3) (hq:q / 3=b / 3):p≠q:=λz=>kz (by rw [<- hp,<- hq,z])
def Zev (kz:a / 3≠b / 3):∀ i j,i < 4->j < 4->i≠j->qh a b i≠qh a b j:=by
 intro i j hi hj vh;obtain ⟨a1,a2,_,_,_,_,_,_,a3⟩:=Zas a;obtain ⟨b1,b2,_,_,_,_,_,_,b3⟩:=Zas b;have hba:=Ne.symm kz;have yf:i=0\/i=1\/i=2\/i=3:=by lia
 have hj':j=0\/j=1\/j=2\/j=3:=by lia
 rcases yf with rfl | rfl | rfl | rfl <;> rcases hj' with rfl | rfl | rfl | rfl <;> first | exact absurd rfl vh | exact a3 | exact Ne.symm a3 | exact b3 | exact Ne.symm b3 | exact Ja kz a1 b1 | exact Ja kz a1 b2 | exact Ja kz a2 b1 | exact Ja kz a2 b2 | exact Ja hba b1 a1 | exact Ja hba b1 a2 | exact Ja hba b2 a1 | exact Ja hba b2 a2
def Zou {p:Nat} (td:TD M ns) (hp:p < M.length):ns[p]?=some (ns.getD p 0):=by
 have:=td.len;rw [Ad,Ac (by lia)];rfl
def Zpd (td:TD M ns) (mv:Mv M ns x a b) (ks:List Int) (y:Int):cnN (flg ks (G:) y) 4<=2:=by
 obtain ⟨ha,hb⟩:=mv.lts td;obtain ⟨n,n1,u7,hn⟩:=td.n;have lt:∀ k,qh a b k < M.length:=λk=>by rw [hn] at ha hb ⊢; exact Zko ha hb
 have at':∀ k,k < 4->flg ks (G:) y k=true->ns[qh a b k]?=some y:=λk hk h=>by
  have h:=(of_decide_eq_true h).1;rw [Zkn hk] at h;rw [Zou td (lt k),h]
 have three:∀ i j k,i < 4->j < 4->k < 4->i≠j->i≠k->j≠k->flg ks (G:) y i=true->flg ks (G:) y j=true->flg ks (G:) y k=true->False:=by
  intro i j k hi hj hk h1 h2 h3 e1 e2 e3;have q1:=at' i hi e1;have q2:=at' j hj e2;have q3:=at' k hk e3
  rcases td.eqv _ _ y q1 q2 with z | z
  ·exact Zev mv.ab i j hi hj h1 z
  ·rcases td.eqv _ _ y q1 q3 with z' | z'
   ·exact Zev mv.ab i k hi hk h2 z'
   ·rw [z] at z'
    injection z' with z'
    injection z' with z'
    exact Zev mv.ab j k hj hk h3 z'
 have t1:=three 0 1 2 (d:) (d:) (d:) (d:) (d:) (d:);have t2:=three 0 1 3 (d:) (d:) (d:) (d:) (d:) (d:);have t3:=three 0 2 3 (d:) (d:) (d:) (d:) (d:) (d:);have t4:=three 1 2 3 (d:) (d:) (d:) (d:) (d:) (d:);simp only [cnN];generalize flg ks (sqX ns a b) y 0=e0 at *;generalize flg ks (sqX ns a b) y 1=e1 at *;generalize flg ks (sqX ns a b) y 2=e2 at *;generalize flg ks (sqX ns a b) y 3=e3 at *
 revert t1 t2 t3 t4
 cases e0 <;> cases e1 <;> cases e2 <;> cases e3 <;> simp
end
end KT
namespace L2
open PySem PySem.Spec PyProof.Rows
section
variable {P:Program} {w:World} {A:Around} {E:Value->Shared->Prop} {s:Shared}
def Zml (hh:A.handled=none) (it t:Addr) (kr:t≠it) (its:Array Value):Draws P w A it [it,t] its.size (λi v=>its[i]?=some v) (λi h=>IsTupIter h it t i/\IsTup h t its):=by
 refine ⟨λ_ _ st=>let ⟨o,ho,_⟩:=st.1; ⟨o,ho⟩,λ_ _ _ st k=>?_,λi s Q E hi st hQ=>?_,λs Q E st hE=>?_⟩
 ·obtain ⟨⟨o,ho,r⟩,o2,yb,r2⟩:=st
  exact ⟨⟨o,k it (by simp) o ho,r⟩,o2,k t (by simp) o2 yb,r2⟩
 ·obtain ⟨hit,ht⟩:=st
  obtain ⟨o,ho,hc,hd⟩:=id hit;obtain ⟨ol,hol,_,nl,wt⟩:=id ht;have hx:its[i]?=some its[i]:=Array.getElem?_eq_getElem hi;unfold Builtin.SmallTypes.nextOf;refine Al (wpAny_callSpecial?_slot (name:=Str.ofString "__next__") hit.typeIs slot_tupleiter_next (wpAny_call_entry slot_tupleiter_next hit.typeIs entry_tupleiter_next ?_ (args_tupleiter_next _)));refine Al (m:=field (.ref it) 0) (wpAny_field ho hd (x:=.ref t) Y ?_);show wpAny _ _ (if (Value.ref t == Value.none)=true then _ else _) _ _ s;rw [if_neg (show ¬ ((Value.ref t == Value.none)=true) from Bool.false_ne_true)];refine Al (m:=field (.ref it) 1) (wpAny_field ho hd (x:=.int i 0) Y (Al (m:=seqItems? (.ref t)) (wpAny_seqItems hol wt ?_)));simp only [Int.toNat_natCast,hx];refine Al (wpAny_setField ho hd (by simp) (wpAny_pure ⟨its[i],Y,wpAny_pure (hQ _ _ s.toks hx ⟨?_,(Heap.get?_update_other _ _ (Ne.symm kr)).trans hol |> λe=>⟨ol,e,‹_›,nl,wt⟩⟩ (Heap.SameBut.update ..))⟩));exact ⟨_,Heap.get?_update_self _ ho (Obj.isFreed_of_fields (Obj.data_mapFields hd _)),(Obj.cls_mapFields ..).trans hc,by rw [Obj.data_mapFields hd]; simp [rawInt]⟩
 ·obtain ⟨hit,ht⟩:=st
  obtain ⟨o,ho,hc,hd⟩:=id hit;obtain ⟨ol,hol,_,nl,wt⟩:=id ht;unfold Builtin.SmallTypes.nextOf;refine Al (wpAny_callSpecial?_slot (name:=Str.ofString "__next__") hit.typeIs slot_tupleiter_next (wpAny_call_entry slot_tupleiter_next hit.typeIs entry_tupleiter_next ?_ (args_tupleiter_next _)));refine Al (m:=field (.ref it) 0) (wpAny_field ho hd (x:=.ref t) Y ?_);show wpAny _ _ (if (Value.ref t == Value.none)=true then _ else _) _ _ s;rw [if_neg (show ¬ ((Value.ref t == Value.none)=true) from Bool.false_ne_true)];refine Al (m:=field (.ref it) 1) (wpAny_field ho hd (x:=.int its.size 0) Y (Al (m:=seqItems? (.ref t)) (wpAny_seqItems hol wt ?_)));simp only [Int.toNat_natCast,Array.getElem?_eq_none (An its.size)];refine Al (wpAny_rule (Al (wpAny_setField ho hd (by simp) ?_)));refine Al (m:=newExc (.type "StopIteration") []) ?_;simp only [newExc,newTuple];refine Al (wpAny_newObj_type ?_ (by size_fits));refine Al (m:=firstArgMember _ _) (wpAny_of_eq (a:=Value.none) (by first | rfl | (simp only [firstArgMember]; rfl)) (wpAny_newObj_type ?_ (by size_fits)));exact wpAny_raiseNew_none (A:=A.in1) hh (hE _ _ (((Heap.SameBut.update ..).extBut.push _).push _) ⟨_,Ap _ Y,Y⟩)
structure ZA (z TI TO i1 i2:Addr) (f1 f2:List Addr):Prop where
 TIz:TI≠z
 TOz:TO≠z
 i1z:i1≠z
 i2z:i2≠z
 TITO:TI≠TO
 TIi1:TI≠i1
 TIi2:TI≠i2
 TOi1:TO≠i1
 TOi2:TO≠i2
 i12:i1≠i2
 z1:z ∉ f1
 z2:z ∉ f2
 t1:TO ∉ f1
 t2:TO ∉ f2
 a1:i2 ∉ f1
 a2:i1 ∉ f2
variable {z TI TO i1 i2:Addr} {f1 f2:List Addr} {n1 n2:Nat} {P1 P2:Nat->Value->Prop} {S1 S2:Nat->Heap->Prop} {a b:Value}
def Zkc {k:Nat} {Q:Option Value->Shared->Prop} (D1:Draws P w A.in1 i1 f1 n1 P1 S1) (D2:Draws P w A.in1 i2 f2 n2 P2 S2) (D:ZA z TI TO i1 i2 f1 f2) (hz:IsZip s.heap z TI TO .none) (hTI:IsPair s.heap TI (.ref i1) (.ref i2)) (hTO:IsPair s.heap TO a b)
  (s1:S1 k s.heap) (s2:S2 k s.heap) (l1:k < n1) (l2:k < n2)
  (hQ:∀ x y h' tk,P1 k x->P2 k y->IsZip h' z TI TO (rawInt s.heap.objs.size)->IsPair h' TO x y->S1 (k + 1) h'->S2 (k + 1) h'->IsPair h' s.heap.objs.size x y ->
   (∀ c o,c≠z->c≠TO->c≠i1->c≠i2->s.heap.get? c=some o->h'.get? c=some o)->Q (some (a6:)) { s with heap:=h',toks:=tk }):wpAny (model P w) A (pyNext (.ref z)) Q E s:=by
 have hT:s.TypeIs (.ref z) "zip":=⟨_,hz,rfl⟩;unfold pyNext;refine Al (wpAny_attempt (wpAny_callSpecial?_slot (name:=Str.ofString "__next__") hT PySem.F.slot_zip_next (wpAny_call_entry PySem.F.slot_zip_next hT PySem.F.entry_zip_next ?_ (PySem.F.args_zip_next_1 _))));refine Al (m:=field (.ref z) 2) (wpAny_field hz Y (x:=.bool false) Y ?_);refine Al (m:=field (.ref z) 3) (wpAny_field hz Y (x:=.ref TI) Y (Al (wpAny_seqItems hTI Y ?_)));refine Al (m:=Builtin.SmallTypes.ownedTupleIsFree (.ref z)) ?_;unfold Builtin.SmallTypes.ownedTupleIsFree;refine Al (wpAny_field hz Y (x:=.none) Y (wpAny_pure ?_));simp only [if_true];refine Al (wpAny_rule (Al (wpAny_field hz Y (x:=.ref TO) Y (Al (wpAny_setField_rec hz (by simp) λg1 q1 b1=>?_)))));replace q1:IsZip g1 z TI TO .ellipsis:=q1;refine Al ?_;simp only [zipIdx_cons,zipIdx_nil,forIn_cons,forIn_nil];refine Al (Al (wpAny_onRaise (Al (m:=Builtin.SmallTypes.nextOf (.ref i1)) (D1.item k _ _ _ l1 (D1.frame k _ _ s1 λc hc o e=>b1.extBut c o (λq=>D.z1 (q ▸ hc)) e) λx g2 tk2 px md b2=>wpAny_pure ?_))));have r2:IsPair g2 TO a b:=b2.extBut _ _ D.TOi1 (b1.extBut _ _ D.TOz hTO);refine Al (wpAny_seqItems r2 Y (Al (wpAny_updateSeq_pair r2 λg3 r3 b3=>Al (wpAny_letGo (wpAny_pure ?_)))));replace r3:IsPair g3 TO x b:=r3;have oj:S2 k g3:=D2.frame k _ _ s2 λc hc o e=>b3.extBut c o (λq=>D.t2 (q ▸ hc)) (b2.extBut c o (λq=>D.a2 (q ▸ hc)) (b1.extBut c o (λq=>D.z2 (q ▸ hc)) e));refine Al (Al (wpAny_onRaise (Al (m:=Builtin.SmallTypes.nextOf (.ref i2)) (D2.item k _ _ _ l2 oj λy g4 tk4 py xc b4=>wpAny_pure ?_))));have r4:IsPair g4 TO x b:=b4.extBut _ _ D.TOi2 r3;refine Al (wpAny_seqItems r4 Y (Al (wpAny_updateSeq_pair r4 λg5 r5 b5=>Al (wpAny_letGo (wpAny_pure (wpAny_pure ?_))))));replace r5:IsPair g5 TO x y:=r5;refine Al (wpAny_seqItems r5 Y (Al (wpAny_newTuple ?_)));have sz:g5.objs.size=s.heap.objs.size:=by rw [b5.1,b4.1,b3.1,b2.1,b1.1]
 have q5:IsZip g5 z TI TO .ellipsis:=b5.extBut _ _ D.TOz.symm (b4.extBut _ _ D.i2z.symm (b3.extBut _ _ D.TOz.symm (b2.extBut _ _ D.i1z.symm q1)));have k5:∀ c o,c≠z->c≠TO->c≠i1->c≠i2->s.heap.get? c=some o->g5.get? c=some o:=λc o c1 c2 c3 c4 e=>b5.extBut _ _ c2 (b4.extBut _ _ c4 (b3.extBut _ _ c2 (b2.extBut _ _ c3 (b1.extBut _ _ c1 e))));have u1:S1 (k + 1) g5:=D1.frame _ _ _ md λc hc o e=>b5.extBut c o (λq=>D.t1 (q ▸ hc)) (b4.extBut c o (λq=>D.a1 (q ▸ hc)) (b3.extBut c o (λq=>D.t1 (q ▸ hc)) e));have u2:S2 (k + 1) g5:=D2.frame _ _ _ xc λc hc o e=>b5.extBut c o (λq=>D.t2 (q ▸ hc)) e;have zl:z < g5.objs.size:=Ao q5;refine Al (m:=Builtin.SmallTypes.ownedTupleHandOut (.ref z) (.ref g5.objs.size)) ?_;unfold Builtin.SmallTypes.ownedTupleHandOut;refine Al (wpAny_setField_rec (show IsZip (g5.push { cls:=.type "tuple",data:=.seq #[x,y] }) z TI TO .ellipsis from Ak _ q5) (by simp) λg7 q7 b7=>?_);replace q7:IsZip g7 z TI TO (rawInt g5.objs.size):=q7;refine wpAny_setField_rec q7 (by simp) λg8 q8 b8=>?_;replace q8:IsZip g8 z TI TO (rawInt g5.objs.size):=q8;have up:∀ c o,c≠z->g5.get? c=some o->g8.get? c=some o:=λc o c1 e=>b8.extBut _ _ c1 (b7.extBut _ _ c1 (Ak _ e));have r8:IsPair g8 g5.objs.size x y:=b8.extBut _ _ (Nat.ne_of_gt zl) (b7.extBut _ _ (Nat.ne_of_gt zl) (Ap _ rfl));rw [sz] at q8 r8;refine wpAny_pure ⟨_,Y,wpAny_pure ?_⟩;show Q (some (.ref g5.objs.size)) _;rw [sz];exact hQ x y g8 tk4 px py q8 (up _ _ D.TOz r5) (D1.frame _ _ _ u1 λc hc o e=>up c o (λq=>D.z1 (q ▸ hc)) e) (D2.frame _ _ _ u2 λc hc o e=>up c o (λq=>D.z2 (q ▸ hc)) e) r8 λc o c1 c2 c3 c4 e=>up c o c1 (k5 c o c1 c2 c3 c4 e)
def Zm2 {k:Nat} {Q:Option Value->Shared->Prop} (D1:Draws P w A.in1 i1 f1 n1 P1 S1) (D2:Draws P w A.in1 i2 f2 n2 P2 S2) (D:ZA z TI TO i1 i2 f1 f2) (hz:IsZip s.heap z TI TO .none) (hTI:IsPair s.heap TI (.ref i1) (.ref i2)) (hTO:IsPair s.heap TO a b)
  (s1:S1 k s.heap) (s2:S2 k s.heap) (l1:k=n1\/k < n1/\k=n2)
  (hQ:∀ h' tk,(∀ c o,c≠z->c≠TO->c≠i1->c≠i2->s.heap.get? c=some o->h'.get? c=some o)->Q none { s with heap:=h',toks:=tk }):wpAny (model P w) A (pyNext (.ref z)) Q E s:=by
 have hT:s.TypeIs (.ref z) "zip":=⟨_,hz,rfl⟩;have lc:∀ (h':Heap) (tk:Nat) (e:Addr),(∀ c o,c≠z->c≠TO->c≠i1->c≠i2->s.heap.get? c=some o->h'.get? c=some o)->(∃ o,h'.get? e=some o/\o.cls=.type "StopIteration") ->
   wpAny (model P w) A (do if <- isInstance (.ref e) (.type "StopIteration") then pure (none:Option Value) else throw (.ref e)) Q E { s with heap:=h',toks:=tk }:=λh' tk e kp ⟨o,ho,hc⟩ =>
  Al (wpAny_isInstance (T:="StopIteration") (b:=true) ⟨o,ho,hc⟩ isSubtype_stop (wpAny_pure (hQ _ _ kp)))
 unfold pyNext;refine Al (wpAny_attempt (wpAny_callSpecial?_slot (name:=Str.ofString "__next__") hT PySem.F.slot_zip_next (wpAny_call_entry PySem.F.slot_zip_next hT PySem.F.entry_zip_next ?_ (PySem.F.args_zip_next_1 _))));refine Al (m:=field (.ref z) 2) (wpAny_field hz Y (x:=.bool false) Y ?_);refine Al (m:=field (.ref z) 3) (wpAny_field hz Y (x:=.ref TI) Y (Al (wpAny_seqItems hTI Y ?_)));refine Al (m:=Builtin.SmallTypes.ownedTupleIsFree (.ref z)) ?_;unfold Builtin.SmallTypes.ownedTupleIsFree;refine Al (wpAny_field hz Y (x:=.none) Y (wpAny_pure ?_));simp only [if_true];refine Al (wpAny_rule (Al (wpAny_field hz Y (x:=.ref TO) Y (Al (wpAny_setField_rec hz (by simp) λg1 q1 b1=>?_)))));replace q1:IsZip g1 z TI TO .ellipsis:=q1;refine Al ?_;simp only [zipIdx_cons,zipIdx_nil,forIn_cons,forIn_nil];have u5:S1 k g1:=D1.frame k _ _ s1 λc hc o e=>b1.extBut c o (λq=>D.z1 (q ▸ hc)) e
 rcases l1 with rfl | ⟨l1,rfl⟩
 ·refine Al (Al (wpAny_onRaise (Al (m:=Builtin.SmallTypes.nextOf (.ref i1)) (D1.done _ _ _ u5 λg2 e b2 ⟨oe,ya,hce⟩=>?_))))
  have q2:IsZip g2 z TI TO .ellipsis:=b2 _ _ D.i1z.symm q1;have ez:e≠z:=λx=>by subst x; rw [q2] at ya; cases ya; simp at hce
  exact wpAny_setField_rec q2 (by simp) λg3 _ b3=>lc g3 s.toks e (λc o c1 _ c3 _ x=>b3.extBut _ _ c1 (b2 _ _ c3 (b1.extBut _ _ c1 x))) ⟨oe,b3.extBut _ _ ez ya,hce⟩
 ·refine Al (Al (wpAny_onRaise (Al (m:=Builtin.SmallTypes.nextOf (.ref i1)) (D1.item k _ _ _ l1 u5 λx g2 tk2 px md b2=>wpAny_pure ?_))))
  have r2:IsPair g2 TO a b:=b2.extBut _ _ D.TOi1 (b1.extBut _ _ D.TOz hTO);refine Al (wpAny_seqItems r2 Y (Al (wpAny_updateSeq_pair r2 λg3 r3 b3=>Al (wpAny_letGo (wpAny_pure ?_)))));have oj:S2 k g3:=D2.frame k _ _ s2 λc hc o e=>b3.extBut c o (λq=>D.t2 (q ▸ hc)) (b2.extBut c o (λq=>D.a2 (q ▸ hc)) (b1.extBut c o (λq=>D.z2 (q ▸ hc)) e));refine Al (Al (wpAny_onRaise (Al (m:=Builtin.SmallTypes.nextOf (.ref i2)) (D2.done _ _ _ oj λg4 e b4 kc=>?_))));obtain ⟨oe,ya,hce⟩:=kc;have q4:IsZip g4 z TI TO .ellipsis:=b4 _ _ D.i2z.symm (b3.extBut _ _ D.TOz.symm (b2.extBut _ _ D.i1z.symm q1));have ez:e≠z:=λx=>by subst x; rw [q4] at ya; cases ya; simp at hce
  exact wpAny_setField_rec q4 (by simp) λg5 _ b5=>lc g5 tk2 e (λc o c1 c2 c3 c4 x=>b5.extBut _ _ c1 (b4 _ _ c4 (b3.extBut _ _ c2 (b2.extBut _ _ c3 (b1.extBut _ _ c1 x))))) ⟨oe,b5.extBut _ _ ez ya,hce⟩
end
inductive ZS where
 | l (a:Addr)
 | t (a:Addr)
 | s (x:Str)
noncomputable def ZS.ad:ZS->List Addr
 | .l a=>[a]
 | .t a=>[a]
 | .s _=>[]
def ZS.has (K:W.Frag) (H:Hp) (S:ZS) (xs:List V):Prop:=match S with
 | .l a=>SqL K H a xs
 | .t a=>SqT K H a xs
 | .s x=>x.cps.all (· < 128)=true/\xs=x.cps.toList.map λc=>V.str ⟨#[c]⟩
def ZS.it (S:ZS) (i:Addr) (k:Nat) (h:Heap):Prop:=match S with
 | .l a=>h.IsListIter i a k
 | .t a=>IsTupIter h i a k
 | .s x=>∃ t,h.IsStrIter i "str_ascii_iterator" x t k
noncomputable def ZS.v:ZS->V
 | .l a=>.ref a
 | .t a=>.ref a
 | .s x=>.str x
def ZS.it_obj {S:ZS} {i:Addr} {k:Nat} {h:Heap} (st:S.it i k h):∃ o,h.get? i=some o/\∀ v,o.data≠.cell v:=by
 cases S with
 | l a=>obtain ⟨o,e,_,d⟩:=st; exact (a2:)
 | t a=>obtain ⟨o,e,_,d⟩:=st; exact (a2:)
 | s x=>obtain ⟨t,o,e,_,d⟩:=st; exact (a2:)
def ZS.it_keep {S:ZS} {i:Addr} {k:Nat} {h h':Heap} (st:S.it i k h) (kp:∀ o,h.get? i=some o->h'.get? i=some o):S.it i k h':=by
 cases S with
 | l a=>obtain ⟨o,e,r⟩:=st; exact ⟨o,kp o e,r⟩
 | t a=>obtain ⟨o,e,r⟩:=st; exact ⟨o,kp o e,r⟩
 | s x=>obtain ⟨t,o,e,r⟩:=st; exact ⟨t,o,kp o e,r⟩
def ZS.has_inj {X:Cx} {j5:List (n:)} {σ:List (Option V)} {H:Hp} {s:Shared} (I:Inv X j5 σ H s) {S:ZS} {xs ys:List V} (h1:S.has X.K H xs) (h2:S.has X.K H ys):xs=ys:=by
 cases S with
 | l a=>exact I.list_inj h1 h2
 | t a=>exact I.tuple_inj h1 h2
 | s x=>rw [h1.2,h2.2]
section
variable {X:Cx} {j5:List (n:)} {σ:List (Option V)} {H:Hp} {s:Shared}
def ZS.draws (I:Inv X j5 σ H s) {A:Around} (hh:A.handled=none) {S:ZS} {xs:List V} (h:S.has X.K H xs) {i:Addr} (hi:i ∉ S.ad) {k:Nat} (st:S.it i k s.heap) :
  ∃ (P1:Nat->Value->Prop) (St:Nat->Heap->Prop),Draws X.prog X.w A i (i :: S.ad) xs.length P1 St/\St k s.heap/\(∀ k h,St k h->S.it i k h)/\∀ (k:Nat) (v:Value) (x:V),P1 k v->xs[k]?=some x->RelV x v:=by
 cases S with
 | l a =>
  obtain ⟨its,rv,pl,_⟩:=I.list h;have hl:xs.length=its.toArray.size:=by rw [Aq]; exact rv.length
  have kr:a≠i:=λz=>hi (by rw [z]; exact mem_singleton.mpr Y);refine ⟨_,_,hl ▸ Draws.list hh i a kr its.toArray,⟨st,pl.isList⟩,λk h st=>st.1,λk v x hv hx=>?_⟩;obtain ⟨u,hu,ru⟩:=rv.get hx;have:its.toArray[k]?=some v:=hv;rw [getElem?_toArray,hu] at this;cases this;exact ru
 | t a =>
  obtain ⟨its,rv,pl,_⟩:=I.tuple h;have hl:xs.length=its.toArray.size:=by rw [Aq]; exact rv.length
  have kr:a≠i:=λz=>hi (by rw [z]; exact mem_singleton.mpr Y);refine ⟨_,_,hl ▸ Zml hh i a kr its.toArray,⟨st,pl⟩,λk h st=>st.1,λk v x hv hx=>?_⟩;obtain ⟨u,hu,ru⟩:=rv.get hx;have:its.toArray[k]?=some v:=hv;rw [getElem?_toArray,hu] at this;cases this;exact ru
 | s x =>
  obtain ⟨ha,rfl⟩:=h;obtain ⟨t,st⟩:=st;have hl:(x.cps.toList.map λc=>V.str ⟨#[c]⟩).length=x.cps.size:=by rw [Ab,Array.length_toList]
  refine ⟨_,_,hl ▸ Draws.strAscii hh i x t,st,λk h st=>⟨t,st⟩,λk v y hv hy=>?_⟩;obtain ⟨c,u,hc,rfl⟩:=hv;rw [Ah,Array.getElem?_toList,hc] at hy;cases hy;exact ⟨u,Y⟩
end
noncomputable def Itz2 (K:W.Frag) (S T:ZS):It :=
  ⟨λi H=>∃ xs ys x y,S.has K H xs/\T.has K H ys/\xs[i]?=some x/\ys[i]?=some y,
   λi H v H'=>∃ q x y,H q=none/\v=.ref q/\(∀ xs,S.has K H xs->xs[i]?=some x)/\(∀ ys,T.has K H ys->ys[i]?=some y)/\H'=upd H q (.tup [x,y]),
   λi H=>∃ xs ys,S.has K H xs/\T.has K H ys/\i=xs.length/\xs.length=ys.length⟩
def m5 {α:Type} {c z a b d e:α}:c∈[z,a,b,d,e] ↔ c=z\/c=a\/c=b\/c=d\/c=e:=by simp
def m4 {α:Type} {c z a b d:α}:c∈[z,a,b,d] ↔ c=z\/c=a\/c=b\/c=d:=by simp
def n4 {α:Type} {c z a b d:α} (h:c ∉ [z,a,b,d]):c≠z/\c≠a/\c≠b/\c≠d:=by simpa using h
def Zkf {P:Program} {w:World} {K:W.Frag} {lw:List Expr} {x1:Nat} {pos:Pos} (S T:ZS) (z TI TO i1 i2:Addr) (D:ZA z TI TO i1 i2 (i1 :: S.ad) (i2 :: T.ad)) (h1:i1 ∉ S.ad) (h2:i2 ∉ T.ad) :
  Turn P w K (.Tuple lw x1 pos) (Itz2 K S T) [z,TI,TO,i1,i2] z (λi h=>IsZip h z TI TO .none/\IsPair h TI (.ref i1) (.ref i2)/\(∃ u v,IsPair h TO u v)/\S.it i1 i h/\T.it i2 i h) where
 mem:=mem_cons_self
 obj:=λi h st c hc=>by
  obtain ⟨s1,s2,⟨u,v,s3⟩,s4,s5⟩:=st;have hc:=m5.mp hc
  rcases hc with rfl | rfl | rfl | rfl | rfl
  ·exact ⟨_,s1,λv y=>by have y':Data.fields _=Data.cell v:=y; cases y'⟩
  ·exact ⟨_,s2,λv y=>by have y':Data.seq _ _=Data.cell v:=y; cases y'⟩
  ·exact ⟨_,s3,λv y=>by have y':Data.seq _ _=Data.cell v:=y; cases y'⟩
  ·exact ZS.it_obj s4
  ·exact ZS.it_obj s5
 keep:=λi h h' st k=>by
  obtain ⟨s1,s2,⟨u,v,s3⟩,s4,s5⟩:=st;exact ⟨k z (m5.mpr (.inl Y)) _ s1,k TI (m5.mpr (.inr (.inl Y))) _ s2,⟨u,v,k TO (m5.mpr (.inr (.inr (.inl Y)))) _ s3⟩,ZS.it_keep s4 λo e=>k i1 (m5.mpr (.inr (.inr (.inr (.inl Y))))) o e,ZS.it_keep s5 λo e=>k i2 (m5.mpr (.inr (.inr (.inr (.inr Y))))) o e⟩
 item:=by
  intro X hP hw hK hc i j5 s σ H E I hf st hg;subst hP hw hK;obtain ⟨xs,ys,x,y,qz,qy,hx,hy⟩:=hg;obtain ⟨s1,s2,⟨u0,v0,s3⟩,s4,s5⟩:=st;have hh:X.A.in1.handled=none:=I.ok.hd hc;obtain ⟨P1,St1,D1,t1,k1,r1⟩:=ZS.draws I hh qz h1 s4;obtain ⟨P2,St2,D2,t2,k2,r2⟩:=ZS.draws I hh qy h2 s5;refine Zkc D1 D2 D s1 s2 s3 t1 t2 (Aa hx).1 (Aa hy).1 λu v h' tk pu pv a1 a2 a3 a4 a5 a7=>?_;have ru:=r1 i u x pu hx;have rv:=r2 i v y pv hy;refine ⟨.ref s.heap.objs.size,Y,wpAny_letOwnedTupleGo_zip (s:={ s with heap:=h',toks:=tk }) a1 λpz b1 sb=>?_⟩;replace sb:Heap.SameBut z h' pz:=sb;have lt:∀ c∈[z,TI,TO,i1,i2],c < s.heap.objs.size:=λc hc=>by
   have hc:=m5.mp hc
   rcases hc with rfl | rfl | rfl | rfl | rfl
   ·exact Ao s1
   ·exact Ao s2
   ·exact Ao s3
   ·obtain ⟨o,e,_⟩:=ZS.it_obj s4; exact Ao e
   ·obtain ⟨o,e,_⟩:=ZS.it_obj s5; exact Ao e
  have kg:∀ c o,c≠z->c≠TO->c≠i1->c≠i2->s.heap.get? c=some o->pz.get? c=some o:=λc o n1 n2 n3 n4 e=>(sb.2 c n1).trans (a7 c o n1 n2 n3 n4 e);have qd:pz.get? s.heap.objs.size=some { cls:=.type "tuple",data:=.seq #[u,v] }:=(sb.2 _ (Nat.ne_of_gt (lt z (m5.mpr (.inl rfl))))).trans a5;have hn:H s.heap.objs.size=none:=I.hok.fresh (An _)
  have I2:Inv X j5 σ (upd H s.heap.objs.size (.tup [x,y])) { s with heap:=pz,toks:=tk }:=by
   have out:∀ c,c ∉ [z,TO,i1,i2]->c≠z/\c≠TO/\c≠i1/\c≠i2:=λc hc=>n4 hc;refine I.step (g':=s.gens) (d':=s.drawn) (ch:=[z,TO,i1,i2]) (λc hc=>?_) (λc o _ _ hc q _=>?_) (λc o _ _ hc q _=>⟨o.slots,?_⟩) (λc o _ q n=>by rw [Zd (As (Ao q))]; exact n)
    (λc o hc q=>⟨o,?_⟩) (λc zs q=>by rw [Zd (Zi q hn)]; exact q) (λc o zs q=>by rw [Zd (Zi q hn)]; exact q) (λc ps q=>⟨#[],by rw [Zd (Zi q hn),q]; simp⟩) (λm hm=>?_) (λc v' q=>?_) I.bare
   ·have hm:c∈[z,TI,TO,i1,i2]:=m5.mpr ((m4.mp hc).imp id .inr)
    obtain ⟨f0,f1,f2,f3,f4,f5⟩:=hf c hm;exact ⟨f3,f1,f4,f5⟩
   ·obtain ⟨n1,n2,n3,n4⟩:=out c hc; exact kg c o n1 n2 n3 n4 q
   ·obtain ⟨n1,n2,n3,n4⟩:=out c hc; exact kg c o n1 n2 n3 n4 q
   ·obtain ⟨n1,n2,n3,n4⟩:=out c hc; exact kg c o n1 n2 n3 n4 q
   ·obtain ⟨o,es,ep,ho,r⟩:=hm
    exact ⟨o,es,ep,kg _ o (Ne.symm (hf z (m5.mpr (.inl Y))).2.1) (Ne.symm (hf TO (m5.mpr (.inr (.inr (.inl Y))))).2.1) (Ne.symm (hf i1 (m5.mpr (.inr (.inr (.inr (.inl Y)))))).2.1) (Ne.symm (hf i2 (m5.mpr (.inr (.inr (.inr (.inr Y)))))).2.1) ho,r⟩
   ·by_cases hb:c=s.heap.objs.size
    ·subst hb
     rw [Zb] at q;cases q;exact ⟨by show 2<=sizeLine; decide,[u,v],.cons ru (.cons rv .nil),⟨_,qd,rfl,_,rfl⟩⟩
    ·rw [Zd hb] at q
     refine (I.hok c v' q).stay (λe w' he y'=>kg e w' ?_ ?_ ?_ ?_ y') (λd y'=>by rw [Zd (Zi y' hn)]; exact y') λd zs y'=>by rw [Zd (Zi y' hn)]; exact y'
     all_goals
      rintro rfl;have ot:H e=none:=(hf e (by simp)).1
      rcases he with y' | y'
      ·rw [y',q] at ot; cases ot
      ·rw [ot] at y'; cases y'
  refine ⟨.ref s.heap.objs.size,_,I2,Y,⟨_,x,y,hn,Y,λzs hz=>by rw [ZS.has_inj I hz qz]; exact hx,λzs hz=>by rw [ZS.has_inj I hz qy]; exact hy,Y⟩,
   ⟨b1,(sb.2 TI D.TIz).trans (a7 TI _ D.TIz D.TITO D.TIi1 D.TIi2 s2),⟨u,v,(sb.2 TO D.TOz).trans a2⟩,ZS.it_keep (k1 _ _ a3) λo e=>(sb.2 i1 D.i1z).trans e,ZS.it_keep (k2 _ _ a4) λo e=>(sb.2 i2 D.i2z).trans e⟩,λc hc=>?_⟩;rw [Zd (As (lt c hc))];exact (hf c hc).1
 done:=by
  intro X hP hw hK hc i j5 s σ H E I hf st hg;subst hP hw hK;obtain ⟨xs,ys,qz,qy,e1,e2⟩:=hg;obtain ⟨s1,s2,⟨u0,v0,s3⟩,s4,s5⟩:=st;have hh:X.A.in1.handled=none:=I.ok.hd hc;obtain ⟨P1,St1,D1,t1,k1,r1⟩:=ZS.draws I hh qz h1 s4;obtain ⟨P2,St2,D2,t2,k2,r2⟩:=ZS.draws I hh qy h2 s5;refine Zm2 D1 D2 D s1 s2 s3 t1 t2 (.inl e1) λh' tk eb=>⟨Y,?_⟩
  ·have out:∀ c,c ∉ [z,TO,i1,i2]->c≠z/\c≠TO/\c≠i1/\c≠i2:=λc hc=>n4 hc
   refine I.step (g':=s.gens) (d':=s.drawn) (t':=tk) (ch:=[z,TO,i1,i2]) (λc hc=>?_) (λc o _ _ hc q _=>?_) (λc o _ _ hc q _=>⟨o.slots,?_⟩) (λc o _ q n=>n)
    (λc o hc q=>⟨o,?_⟩) (λc zs q=>q) (λc o zs q=>q) (λc ps q=>⟨#[],by rw [q]; simp⟩) (λm hm=>?_) (λc v' q=>?_) I.bare
   ·have hm:c∈[z,TI,TO,i1,i2]:=m5.mpr ((m4.mp hc).imp id .inr)
    obtain ⟨f0,f1,f2,f3,f4,f5⟩:=hf c hm;exact ⟨f3,f1,f4,f5⟩
   ·obtain ⟨n1,n2,n3,n4⟩:=out c hc; exact eb c o n1 n2 n3 n4 q
   ·obtain ⟨n1,n2,n3,n4⟩:=out c hc; exact eb c o n1 n2 n3 n4 q
   ·obtain ⟨n1,n2,n3,n4⟩:=out c hc; exact eb c o n1 n2 n3 n4 q
   ·obtain ⟨o,es,ep,ho,r⟩:=hm
    exact ⟨o,es,ep,eb _ o (Ne.symm (hf z (m5.mpr (.inl Y))).2.1) (Ne.symm (hf TO (m5.mpr (.inr (.inr (.inl Y))))).2.1) (Ne.symm (hf i1 (m5.mpr (.inr (.inr (.inr (.inl Y)))))).2.1) (Ne.symm (hf i2 (m5.mpr (.inr (.inr (.inr (.inr Y)))))).2.1) ho,r⟩
   ·refine (I.hok c v' q).stay (λe w' he y'=>eb e w' ?_ ?_ ?_ ?_ y') (λd y'=>y') λd zs y'=>y'
    all_goals
     rintro rfl;have ot:H e=none:=(hf e (by simp)).1
     rcases he with y' | y'
     ·rw [y',q] at ot; cases ot
     ·rw [ot] at y'; cases y'
 self:=λ_ _ _ _ _ st h=>wpAny_pyIter_zip st.1 h
section
variable {P:Program} {w:World}
def Zg8 (P:Program) (w:World) (v:Value) (o:Obj) (C:Heap->Prop):Prop:=(∀ h u,C h->C (h.push u))/\∀ (A:Around) (E:Value->Shared->Prop) (s:Shared) (Q:Value->Shared->Prop),C s.heap->Q (a6:) { s with heap:=s.heap.push o }->wpAny (model P w) A (pyIter v) Q E s
def Zmv {A:Around} {E:Value->Shared->Prop} {s:Shared} {v1 v2:Value} {o1 o2:Obj} {C1 C2:Heap->Prop} {Q:Value->Shared->Prop} (I1:Zg8 P w v1 o1 C1) (I2:Zg8 P w v2 o2 C2) (c1:C1 s.heap) (c2:C2 s.heap)
  (h:∀ h',IsZip h' (s.heap.objs.size + 4) (s.heap.objs.size + 2) (s.heap.objs.size + 3) .none->IsPair h' (s.heap.objs.size + 2) (a6:) (.ref (S:)) ->
   IsPair h' (s.heap.objs.size + 3) .none .none->h'.get? s.heap.objs.size=some o1->h'.get? (S:)=some o2->(∀ c o,s.heap.get? c=some o->h'.get? c=some o)->Q (.ref (s.heap.objs.size + 4)) { s with heap:=h' }) (f1:o1.isFreed=false) (f2:o2.isFreed=false) :
  wpAny (model P w) A (call (.type "zip") [v1,v2]) Q E s:=by
 have M:MeetsIn P w (Builtin.«zip.__new__» ⟨[.type "zip",v1,v2],[]⟩) (λ_ R s=>C1 s.heap/\C2 s.heap/\R (.ok (.ret (.ref ((ap:).push { cls:=.type "tuple",data:=.seq #[.none,.none] }).objs.size)))
   { s with heap:=((ap:).push { cls:=.type "tuple",data:=.seq #[.none,.none] }).push { cls:=.type "zip",data:=.fields #[.none,.bool false,.bool false,.ref ((s.heap.push o1).push o2).objs.size,.ref (ap:).objs.size] } }):=by
  refine .of_wp λA R s h=>?_;obtain ⟨hp,g,d,tk,os⟩:=s;obtain ⟨q1,q2,h⟩:=h;have hsub:=sub_zip;have W1:∀ (A:Around) (E:Value->Shared->Prop) (Q:Value->Shared->Prop),Q (.ref hp.objs.size) ⟨hp.push o1,g,d,tk,os⟩->wpAny (model P w) A (pyIter v1) Q E ⟨hp,g,d,tk,os⟩:=λA E Q q=>I1.2 A E _ Q q1 q;have W2:∀ (A:Around) (E:Value->Shared->Prop) (Q:Value->Shared->Prop),Q (.ref (hp.push o1).objs.size) ⟨(hp.push o1).push o2,g,d,tk,os⟩->wpAny (model P w) A (pyIter v2) Q E ⟨hp.push o1,g,d,tk,os⟩:=λA E Q q=>I2.2 A E _ Q (I2.1 _ _ q2) q
  wp_walk using W1 _ _ _,W2 _ _ _
  exact ⟨_,Y,h⟩
 refine callType_newIn PySem.F.called_zip (d:) (by kernel_rfl) (by kernel_rfl) (λobj=>PySem.F.args_object_init_3 obj _ _) PySem.F.entry_zip_new M ⟨c1,c2,?_⟩;generalize hN:s.heap.objs.size=N at *;have z1:(s.heap.push o1).objs.size=N + 1:=by rw [Heap.size_push,hN]
 have z2:((s.heap.push o1).push o2).objs.size=N + 2:=by rw [Heap.size_push,z1]
 generalize hT1:({ cls:=.type "tuple",data:=.seq #[.ref N,.ref (s.heap.push o1).objs.size] }:Obj)=T1;have z3:(((s.heap.push o1).push o2).push T1).objs.size=N + 3:=by rw [Heap.size_push,z2]
 generalize hT2:({ cls:=.type "tuple",data:=.seq #[.none,.none] }:Obj)=T2;have z4:((((s.heap.push o1).push o2).push T1).push T2).objs.size=N + 4:=by rw [Heap.size_push,z3]
 have e1:(s.heap.push o1).get? N=some o1:=by rw [<- hN]; exact Ap _ f1
 have e2:((s.heap.push o1).push o2).get? (N + 1)=some o2:=by rw [<- z1]; exact Ap _ f2
 have e3:(((s.heap.push o1).push o2).push T1).get? (N + 2)=some T1:=by rw [<- z2]; exact Ap _ (by rw [<- hT1]; rfl)
 have e4:((((s.heap.push o1).push o2).push T1).push T2).get? (N + 3)=some T2:=by rw [<- z3]; exact Ap _ (by rw [<- hT2]; rfl)
 rw [z4,z3,z2];generalize hZ:({ cls:=.type "zip",data:=.fields #[.none,.bool false,.bool false,.ref (N + 2),.ref (N + 3)] }:Obj)=Z;have e5:(((((s.heap.push o1).push o2).push T1).push T2).push Z).get? (N + 4)=some Z:=by rw [<- z4]; exact Ap _ (by rw [<- hZ]; rfl)
 refine ⟨⟨_,e5,by rw [<- hZ]⟩,h _ (e5.trans (by rw [<- hZ])) (by
  have:=Ak Z (Ak T2 e3)
  rw [<- hT1,z1] at this
  rw [<- hT1,z1]
  exact this) (by
  have:=Ak Z e4
  rw [<- hT2] at this ⊢
  exact this) (Ak _ (Ak _ (Ak _ (Ak _ e1)))) (Ak _ (Ak _ (Ak _ e2))) λc o x=>Ak _ (Ak _ (Ak _ (Ak _ (Ak _ x))))⟩
end
section
variable {X:Cx} {j5:List (n:)} {σ:List (Option V)} {H:Hp} {s:Shared}
def ZS.iter (I:Inv X j5 σ H s) {S:ZS} {xs:List V} (h:S.has X.K H xs) {v:Value} (r:RelV S.v v):∃ (o:Obj) (C:Heap->Prop),Zg8 X.prog X.w v o C/\C s.heap/\o.isFreed=false/\(∀ (h:Heap) (i:Addr),h.get? i=some o->S.it i 0 h)/\∀ a∈S.ad,a < s.heap.objs.size:=by
 cases S with
 | l a =>
  obtain ⟨its,rv,pl,_⟩:=I.list h;cases r;refine ⟨_,λh=>h.IsList a its.toArray,⟨λh u c=>c.push u,λA E s Q c q=>wpAny_pyIter_list c q⟩,pl.isList,Y,λh i e=>⟨_,e,Y,Y⟩,λb hb=>?_⟩;obtain ⟨o,ho,_⟩:=pl.isList;rw [Af hb];exact Ao ho
 | t a =>
  obtain ⟨its,rv,pl,_⟩:=I.tuple h;cases r;refine ⟨_,λh=>IsTup h a its.toArray,⟨λh u c=>c.keeps λb o e=>Ak _ e,λA E s Q c q=>iter_tuple c q⟩,pl,Y,λh i e=>⟨_,e,Y,Y⟩,λb hb=>?_⟩;rw [Af hb];exact pl.lt
 | s x =>
  obtain ⟨ha,rfl⟩:=h;obtain ⟨t,rfl⟩:=r;exact ⟨_,λ_=>True,⟨λh u c=>trivial,λA E s Q c q=>wpAny_pyIter_ascii ha q⟩,trivial,Y,λh i e=>⟨t,_,e,Y,Y⟩,λb hb=>absurd hb not_mem_nil⟩
def Zq0 {N:Nat} {f g:List Addr} (h1:∀ a∈f,a < N) (h2:∀ a∈g,a < N):ZA (N + 4) (N + 2) (N + 3) N (N + 1) (N :: f) ((N + 1) :: g):=by
 have nf:∀ k,N + k ∉ f:=λk z=>absurd (h1 _ z) (Nat.not_lt.mpr (le_add_right _ _));have ng:∀ k,N + k ∉ g:=λk z=>absurd (h2 _ z) (Nat.not_lt.mpr (le_add_right _ _));have e:∀ {i j:Nat},i≠j->N + i≠N + j:=λh z=>h (Nat.add_left_cancel z);have c1:∀ {k:Nat} {f:List Addr} {i:Addr},N + k≠i->N + k ∉ f->N + k ∉ i :: f:=λh1 h2 z=>by
  rcases Ar z with q | q
  ·exact h1 q
  ·exact h2 q
 exact ⟨e (d:),e (d:),e (i:=0) (d:),e (d:),e (d:),e (j:=0) (d:),e (d:),e (j:=0) (d:),e (d:),e (i:=0) (d:),c1 (e (j:=0) (d:)) (nf 4),c1 (e (d:)) (ng 4),c1 (e (j:=0) (d:)) (nf 3),c1 (e (d:)) (ng 3),c1 (e (j:=0) (d:)) (nf 1),c1 (k:=0) (e (d:)) (ng 0)⟩
def Zta (K:W.Frag) (ta:TA):TI:=λσ H R=>ta σ H λvs H1=>∃ (S T:ZS) (xs ys:List V),vs=[S.v,T.v]/\S.has K H1 xs/\T.has K H1 ys/\R (Itz2 K S T) H1
def Zpx {lw:List Expr} {x1:Nat} {mq p pos:Pos} {l m:Expr} {ta:TA} (hg:Gl X "zip") (hm:X.mg "zip"=none) (ha:PA X [l,m] ta) (hs:starEach [l,m] X.env=[(false,eval l X.env),(false,eval m X.env)]:=by rfl) (nv:starEach [m] X.env=[(false,eval m X.env)]:=by rfl) :
  PI X (.Tuple lw x1 mq) (.Call (.Name "zip" p) [l,m] [] pos) (Zta X.K ta):=by
 intro j5 s σ H R I h;refine Call_ (Wf I hg hm boot_zip (F:));obtain ⟨S,T,xs,ys,e,qz,qy,q⟩:=q1;subst e;obtain ⟨u,v,rfl,ru,rv⟩:=r1.two;obtain ⟨o1,C1,i1,c1,f1,t1,l1⟩:=ZS.iter I1 qz ru;obtain ⟨o2,C2,i2,c2,f2,t2,l2⟩:=ZS.iter I1 qy rv;refine Zmv i1 i2 c1 c2 (λh' z1 z2 z3 z4 z5 z7=>wpAny_pyIter_zip z1 ?_) f1 f2;have I2:Inv X j5 σ H1 { s1 with heap:=h' }:=I1.kept (t':=s1.toks) z7;generalize hN:s1.heap.objs.size=N at *;have n1:N ∉ S.ad:=λz=>Nat.lt_irrefl _ (l1 _ z);have n2:N + 1 ∉ T.ad:=λz=>absurd (l2 _ z) (Nat.not_lt.mpr (le_succ _));refine ⟨N + 4,[N + 4,N + 2,N + 3,N,N + 1],_,_,H1,Y,I2,Zkf S T (N + 4) (N + 2) (N + 3) N (N + 1) (Zq0 l1 l2) n1 n2,⟨z1,z2,⟨_,_,z3⟩,t1 _ _ z4,t2 _ _ z5⟩,λc hc=>?_,q⟩;have hc:s1.heap.objs.size<=c:=by
  have hc:c=N + 4\/c=N + 2\/c=N + 3\/c=N\/c=N + 1:=by simpa using hc
  rw [hN]
  rcases hc with rfl | rfl | rfl | rfl | rfl
  ·exact le_add_right _ _
  ·exact le_add_right _ _
  ·exact le_add_right _ _
  ·exact An _
  ·exact le_add_right _ _
 exact I1.fpOk hc (I1.hok.fresh hc)
def Zod {K:W.Frag} {S T:ZS} {xs ys:List V} {g:TG} {tb:TS} {D:Ends} {σ:St} {H:Hp} (j8:xs.length=ys.length) (Pv:Nat->St->Hp->Prop) (h0:Pv 0 σ H) (hl:∀ i σ H,i<=xs.length->Pv i σ H->S.has K H xs/\T.has K H ys)
  (hs:∀ i x y σ H q,xs[i]?=some x->ys[i]?=some y->H q=none->Pv i σ H->g (.ref q) σ (upd H q (.tup [x,y])) λσ2 H2=>tb { D with nx:=Pv (i + 1),ct:=Pv (i + 1),bk:=D.nx } σ2 H2) (hd:∀ σ H,Pv xs.length σ H->D.nx σ H) :
  ∃ W:Nat->Nat->St->Hp->Prop,(∃ m,W 0 m σ H)/\∀ i m σ H,W i m σ H ->
   ((Itz2 K S T).stop i H/\D.nx σ H)\/((Itz2 K S T).go i H/\∃ N:St->Hp->Prop,(q:)/\∀ x H',(Itz2 K S T).yld i H x H'->g x σ H' λσ2 H2=>tb { D with nx:=N,ct:=N,bk:=D.nx } σ2 H2):=by
 refine (p:);rintro i m σ H ⟨rfl,hi,p⟩;obtain ⟨q1,q2⟩:=hl i σ H hi p;by_cases kl:i < xs.length
 ·have uc:i < ys.length:=by lia
  refine .inr (ac:);obtain ⟨c,u,v,hn,e1,y1,y2,e2⟩:=y;subst e1 e2;exact hs i u v σ H c (y1 xs q1) (y2 ys q2) hn p
 ·have e:i=xs.length:=by lia
  subst e;exact .inl ⟨⟨xs,ys,q1,q2,Y,j8⟩,hd σ H p⟩
end
def Vf {d:Addr} {kvs:List (Key × V)} {o:Obj} {g:TG} {tt:TT} {tb:TB} {R:St->Hp->Prop} {σ:St} {H:Hp} (Pv:Nat->St->Hp->Prop) (h0:Pv 0 σ H) (hl:∀ i σ H,i<=kvs.length->Pv i σ H->H d=some (ar:))
  (hs:∀ (i:Nat) k x σ H q,kvs[i]?=some (k,x)->H q=none->Pv i σ H->g (.ref q) σ (upd H q (.tup [kV k,x])) λσ2 H2=>tt σ2 H2 λb H3=>if b=true then tb σ2 H3 (Pv (i + 1)) else Pv (i + 1) σ2 H3) (hd:∀ σ H,Pv kvs.length σ H->R σ H):Ji (Itm2 d kvs o) g tt tb R σ H:=by
 refine ⟨λi m σ H=>m=kvs.length - i/\i<=kvs.length/\Pv i σ H,⟨kvs.length,by simp,Az _,h0⟩,?_⟩;rintro i m σ H ⟨rfl,hi,p⟩;have q:=hl i σ H hi p;by_cases kl:i < kvs.length
 ·refine .inr ⟨⟨kl,q⟩,Pv (i + 1),λσ' H' p'=>⟨kvs.length - (i + 1),by omega,Y,kl,p'⟩,λx H' y=>?_⟩
  obtain ⟨c,k,v,hn,e1,y,e2⟩:=y;subst e1 e2;exact hs i k v σ H c y hn p
 ·have e:i=kvs.length:=by omega
  subst e;exact .inl ⟨⟨An _,q⟩,hd σ H p⟩
def Zq9 (H0:Hp) (t:TE):TE:=λσ H Q=>t σ H λv H'=>∃ (a:Addr) (o:Obj) (kvs:List (Key × V)),H' a=some (ar:)/\(∀ o u,H0 a≠some (.frz o u))/\Q v (upd H' a (.dK kvs))
def Zif {X:Cx} (h:PE X e t):PE X e (Zq9 X.H₀ t):=by
 intro j5 s σ H Q I hw;refine wpAny_mono (h j5 s σ H _ I hw) (λv s' q=>?_) λ_ _ e=>e;obtain ⟨x,H',I',r,a,o,kvs,e,h0,q⟩:=q;exact ⟨x,_,I'.thaw e h0,r,q⟩
section
variable {X:Cx}
abbrev THs:=Value->TS
def PHs (X:Cx) (hs:List ExceptHandler) (t:THs):Prop :=
 ∀ j5 s σ H (D:Ends) (e T:Addr) (cls a0:Value) (h':Heap),Inv X j5 σ H s->FxOk X j5 H e->FxOk X j5 H T ->
  Heap.FlyingW (PySem.W.hideAll s.heap (e :: T :: frs X.stack)) X.stack e cls a0 h'->s.heap.UpToSlots h'->t cls D σ H->wpAny (e:) X.A (handleBy (.ref e) X.env hs) (SP X j5 D) X.xe { s with heap:=h' }
def Zr4 {hs:List ExceptHandler}:PHs X hs (λ_ _ _ _=>False):=λ_ _ _ _ _ _ _ _ _ _ _ _ _ _ _ z=>z.elim
def Zqf {b₀:Stmt} {ww:List Stmt} {x:Str} {np oh:Pos} {j7:List ExceptHandler} {ts:TS} {tr:THs} {C:Addr} (hg:Gl X x) (hm:X.mg x=some (.ref C)) (hs:∀ e,PSs (Gr X e) (b₀ :: ww) ts) (hr:PHs X j7 tr)
  (hex:X.ex=[]:=by rfl) (hx:X.xe=(λ_ _=>False):=by rfl) (oy:(Z:)=false:=by decide) :
  PHs X (.ExceptHandler (some (.Name x np)) none (b₀ :: ww) oh :: j7) (λcls D σ H=>∃ b,PySem.W.exmOne X.K cls (.ref C)=some b/\if b=true then ts D σ H else tr cls D σ H):=by
 intro j5 s σ H D e T cls a0 h' I fe fT my hsm q;obtain ⟨b,hb,q⟩:=q;have I5:Inv X j5 σ H { s with heap:=h' }:=I.flown hex fe fT my.1 hsm;obtain ⟨ob,hob,hobc⟩:=my.there;refine wpAny_handleBy_cons (codeAny_handlers_test (Vl (X:=Gr X e) (I5.hnd e) hg hm ?_ oy)) (by intro q; cases q);have LT:PySem.W.Looks (e:) h' (typeOf (.ref e)) cls:=by
  have:PySem.W.Looks (e:) h' (typeOf (.ref e)) ob.cls:=(PySem.W.Looks.ld hob).andThen .now
  rw [hobc] at this
  exact this
 refine (PySem.W.exm_one I5.kIn LT hb).here ?_
 cases b with
 | false=>exact hr j5 s σ H D e T cls a0 h' I fe fT my hsm q
 | true =>
  refine codeAny_handlers_suite ?_;refine lands_againW my λh₆ hfl₆ hsm₆=>?_;have I6:Inv X j5 σ H { s with heap:=h₆ }:=I.flown hex fe fT hfl₆.1 (hsm.trans hsm₆);have h6:=hs e j5 _ σ H D (I6.hnd e) q;have xo:(Gr X e).xe=λ_ _=>False:=hx;rw [xo] at h6;refine wpAny_mono h6 (λf s2 q2=>?_) λ_ _ z=>z.elim;exact q2.unhnd I6.ok
def Zsk (tb:TSX) (th:THs):TS:=λD σ H=>tb D (λcls σ' H'=>th cls D σ' H') σ H
def Zpw {body:List Stmt} {h₀:ExceptHandler} {hs:List ExceptHandler} {pos:Pos} {tb:TSX} {th:THs} (hb:PSsX false X body tb) (hh:PHs X (h₀ :: hs) th)
  (hex:X.ex=[]:=by rfl) (t9:∃ o,X.stack=X.env :: o:=by exact ⟨_,Y⟩) (qm:X.env.frame=some X.env.locals:=by rfl) :
  PS X (.Try body (h₀ :: hs) [] [] pos) (Zsk tb th):=by
 intro j5 s σ H D I h;obtain ⟨outer,t9⟩:=t9;refine wpAny_Try_except (wpAny_mono (hb j5 s σ H D _ I h) (λf s1 q=>?_) ?_)
 ·cases f with
  | next=>exact wpAny_execs_nil q
  | ret v=>exact q
  | brk=>exact q
  | cont=>exact q
 ·rintro ev s1 ⟨e,T,cls,a0,σ1,H1,rfl,I1,hx1,fe,fT,hT,q⟩
  obtain ⟨T,rfl⟩:∃ t,T=some t:=by
   cases T with
   | none=>exact absurd (hT Y) Bool.false_ne_true
   | some t=>exact ⟨t,Y⟩
  have fT:=fT T rfl;have wq:=Zr6 I1 hx1;have hA:X.A.frames=some (X.env :: outer):=by rw [I.ok.frames,t9]
  have hf1':Heap.FlyingW (PySem.W.hideAll s1.heap (e :: T :: frs X.stack)) (X.env :: outer) e cls a0 s1.heap:=by
   have:=wq;generalize PySem.W.hideAll s1.heap (e :: T :: frs X.stack)=B at this ⊢;rw [t9] at this;exact this
  refine wpAny_looks_onW hA qm hf1' λh₄ hheld₄ hsm₄=>?_;refine wpAny_landsW hheld₄ λh₅ my hsm₅'=>?_;refine hh j5 s1 σ1 H1 D e T cls a0 h₅ I1 fe fT ?_ (hsm₄.trans hsm₅') q;generalize PySem.W.hideAll s1.heap (e :: T :: frs X.stack)=B at my ⊢;rw [t9];exact my
end
abbrev TBX:=St->Hp->(St->Hp->Prop)->XK->Prop
section
variable {X:Cx} {fr:Bool}
def Zmy (hc:X.calm=true):Xi X (.builtin "max") (λxs H Q=>∃ (p:Addr) (ns:List Int),xs=[.ref p]/\SqT X.K H p (H:)/\0 < ns.length/\∀ m,m∈ns->(∀ a∈ns,a<=m)->Q (.int m) H):=by
 intro j5 s σ H xs us Q I r h;obtain ⟨p,ns,rfl,hq,hn,q⟩:=h;obtain ⟨u,rfl,ru⟩:=Wa r;cases ru;obtain ⟨its,rv,pl,hz⟩:=I.tuple hq;have pl:s.heap.IsTuple p its.toArray:=pl;have lt:p < s.heap.objs.size:=by obtain ⟨o,ho,_⟩:=pl; exact Ao ho
 have j8:its.toArray.size=ns.length:=by have:=rv.length; rw [Ab] at this; simp; lia
 have W:=Zad (j5:=j5) (σ:=σ) (H:=H) (s:=s) rv;refine call_max_walk (wpAny_pyIter_tuple pl ⟨s.heap.objs.size,_,_,_,_,_,_,Y,Walks.tuple (A:=X.A.in1) (show X.A.in1.handled=none from I.ok.hd hc) s.heap.objs.size p (As lt) its.toArray,⟨⟨_,Ap _ Y,Y,Y⟩,pl.push _⟩,?_,by rw [j8]; exact hn,CmpOf.ints_gt (λi=>ns.getD i 0) W,?_⟩)
 ·intro b hb
  show b < (s.heap.push _).objs.size;rw [Heap.size_push]
  rcases Ar hb with rfl | hb
  ·exact lt_succ_self _
  ·rw [Af hb]; exact lt_succ_of_lt lt
 ·intro v h' tk hP hk
  have I1:Inv X j5 σ H { s with heap:=h',toks:=tk }:=I.kept λb o e=>hk b o (a1:) (Ak _ e);rw [j8] at hP;obtain ⟨a1,a2⟩:=argBest_gt (λi=>ns.getD i 0) (ns.length - 1);obtain ⟨t,e⟩:=W _ _ hP;generalize argBest (λi j=>decide (ns.getD i 0 > ns.getD j 0)) (ns.length - 1)=k at a1 a2 e;have sg:k < ns.length:=by lia
  have ek:ns.getD k 0=ns[k]:=by rw [Ad,Ac sg]; rfl
  refine ⟨.int (ns.getD k 0),H,I1,⟨t,e⟩,q _ (by rw [ek]; exact getElem_mem sg) λa ha=>?_⟩;obtain ⟨j,hj,rfl⟩:=mem_iff_getElem.mp ha;have:=a2 j (by lia);have ej:ns.getD j 0=ns[j]:=by rw [Ad,Ac hj]; rfl
  show ns[j]<=ns.getD k 0;rw [<- ej]; exact this
end
def InS (S:List Addr) (H:Hp) (b:Addr):Prop:=b∈S\/∃ a∈S,∃ C fs,H a=some (.ins C b fs)
open Classical in
noncomputable def cutH (S:List Addr) (H:Hp):Hp:=λb=>if InS S H b then none else H b
open Classical in
noncomputable def X6 (S:List Addr) (H H':Hp):Hp:=λb=>if InS S H b then H b else H' b
def Cuts (S:List Addr) (H:Hp):Prop:=∀ a∈S,(∃ xs,H a=some (.lst xs))\/∃ C dx fs,H a=some (.ins C dx fs)
section
variable {S:List Addr} {H H':Hp} {b a:Addr} {o:HO}
def Zbq (h:InS S H b):cutH S H b=none:=by unfold cutH; rw [if_pos h]
def W0 (h:¬ InS S H b):cutH S H b=H b:=by unfold cutH; rw [if_neg h]
def Oj (h:InS S H b):X6 S H H' b=H b:=by unfold X6; rw [if_pos h]
def Wh (h:¬ InS S H b):X6 S H H' b=H' b:=by unfold X6; rw [if_neg h]
def Cuts.mem (c:Cuts S H) (hb:b∈S) (h:H b=some o):(∃ xs,o=.lst xs)\/∃ C dx fs,o=.ins C dx fs:=by
 rcases c b hb with ⟨xs,e⟩ | ⟨C,dx,fs,e⟩ <;> rw [h] at e <;> cases e
 ·exact .inl ⟨_,Y⟩
 ·exact .inr ⟨_,_,_,Y⟩
def Cuts.dict {P:Program} {w:World} {h:Heap} (ok:HOk P w H h) (hb:b ∉ S) (z:InS S H b):∃ a∈S,H b=some (.own a):=by
 rcases z with z | ⟨a,ha,C,fs,e⟩
 ·exact absurd z hb
 ·exact ⟨a,ha,(ok a _ e).1⟩
def Cuts.tup {P:Program} {w:World} {h:Heap} (c:Cuts S H) (ok:HOk P w H h) {xs:List V} (q:H b=some (.tup xs)):¬ InS S H b:=λz=>by
 by_cases hb:b∈S
 ·rcases c.mem hb q with ⟨xs,e⟩ | ⟨C,dx,fs,e⟩ <;> cases e
 ·obtain ⟨a,_,e⟩:=Cuts.dict ok hb z
  rw [q] at e; cases e
def Cuts.some {P:Program} {w:World} {h:Heap} (c:Cuts S H) (ok:HOk P w H h) (z:InS S H b):∃ o,H b=some o:=by
 by_cases hb:b∈S
 ·rcases c b hb with ⟨xs,e⟩ | ⟨C,dx,fs,e⟩ <;> exact ⟨_,e⟩
 ·obtain ⟨a,_,e⟩:=Cuts.dict ok hb z
  exact ⟨_,e⟩
def Zse {u:HO} (h:cutH S H b=some u):¬ InS S H b/\H b=some u:=by
 by_cases z:InS S H b
 ·rw [Zbq z] at h; cases h
 ·exact ⟨z,by rw [W0 z] at h; exact h⟩
def Uf (h:H b=none):cutH S H b=none:=by
 by_cases z:InS S H b
 ·exact Zbq z
 ·rw [W0 z]; exact h
def Yo.ex {P:Program} {w:World} {h:Heap} (x:Yo P w H h b o):∃ ob,h.get? b=some ob:=by
 cases o with
 | lst xs=>obtain ⟨_,_,_,_,e⟩:=x; exact ⟨_,e⟩
 | tup xs=>obtain ⟨_,_,_,o,e,_⟩:=x; exact ⟨_,e⟩
 | dK kvs=>obtain ⟨_,_,_,_,o,_,_,e,_⟩:=x; exact ⟨_,e⟩
 | dT kvs=>obtain ⟨_,_,_,_,o,_,_,e,_⟩:=x; exact ⟨_,e⟩
 | set S n=>obtain ⟨o,_,_,_,e,_⟩:=x; exact ⟨_,e⟩
 | ins C dx fs=>obtain ⟨_,_,_,e,_⟩:=x; exact ⟨_,e⟩
 | own y=>obtain ⟨_,e⟩:=x; exact ⟨_,e⟩
 | xd fs=>obtain ⟨_,⟨_,_,_,e,_⟩,_⟩:=x; exact ⟨_,e⟩
 | rng lo hi=>obtain ⟨_,_,_,e⟩:=x; exact ⟨_,e⟩
 | frz ob u=>obtain ⟨e,_⟩:=x; exact ⟨_,e⟩
 | tbl ps=>exact ⟨_,show h.get? b=some _ from x⟩
 | met f y=>exact ⟨_,show h.get? b=some _ from x⟩
 | ext φ=>exact x.2.1
def Zp3 {P:Program} {w:World} {h:Heap} (c:Cuts S H) (ok:HOk P w H h) {d:Addr} (n:¬ InS S H b) (hd:H d=some (.own b)):¬ InS S H d:=λz=>by
 by_cases hb:d∈S
 ·rcases c.mem hb hd with ⟨xs,e⟩ | ⟨C,dx,fs,e⟩ <;> cases e
 ·obtain ⟨a,ha,e⟩:=Cuts.dict ok hb z
  rw [hd] at e; cases e; exact n (.inl ha)
def Zqq {P:Program} {w:World} {K:W.Frag} {mg:Str->Option Value} {base:Heap} {A:Around} {outer:List Env} {s:Shared} (c:Cuts S H) (e:Env0 P w K mg base A outer s H):Env0 P w K mg base A outer s (cutH S H) :=
 ⟨e.frames,e.mod,λb o q=>⟨(e.bs b o q).1,Uf (e.bs b o q).2⟩,e.bsz,e.funs,λb hb=>Uf (e.frf b hb),λb o q=>by
  obtain ⟨n,q⟩:=Zse q
  exact (e.hok b o q).stay (λ_ _ _ z=>z) (λd hd=>by rw [W0 (Zp3 c e.hok n hd)]; exact hd) λd xs hd=>by rw [W0 (c.tup e.hok hd)]; exact hd,e.bare⟩
def Ziy {P:Program} {w:World} {fs:List Addr} {h h':Heap} (c:Cuts S H) (ok:HOk P w H h) (ff:∀ b∈fs,H b=none) (u:Un fs [] (cutH S H) H' h h') (ok':HOk P w H' h') :
  Un fs [] H (X6 S H H') h h'/\HOk P w (X6 S H H') h'/\∀ b,InS S H b->H' b=none:=by
 have kp:∀ b ob,InS S H b->h.get? b=some ob->h'.get? b=some ob:=λb ob z e=>u.keep b ob e (Zbq z) (λhb=>by
  obtain ⟨o,q⟩:=c.some ok z
  rw [ff b hb] at q; cases q) (λz=>nomatch z);have fr:∀ b,InS S H b->H' b=none:=λb z=>by
  obtain ⟨o,q⟩:=c.some ok z
  obtain ⟨ob,e⟩:=(ok b o q).ex
  exact u.free b ob e (Zbq z) (λz=>nomatch z)
 have tp:∀ b xs,H b=some (.tup xs)->X6 S H H' b=some (.tup xs):=λb xs e=>by
  rw [Wh (c.tup ok e)];exact u.tups b xs (by rw [W0 (c.tup ok e)]; exact e)
 refine ⟨⟨λb o e n=>u.keep b o e (Uf n),λb o e n=>u.slot b o e (Uf n),λb o e n hx=>?_,u.there,tp,λb o v e=>?_,λb ps e=>?_⟩,λb o e=>?_,fr⟩
 ·rw [Wh (λz=>by obtain ⟨o',q⟩:=c.some ok z; rw [n] at q; cases q)]
  exact u.free b o e (Uf n) hx
 ·by_cases z:InS S H b
  ·rw [Oj z]; exact e
  ·rw [Wh z]; exact u.frzs b o v (by rw [W0 z]; exact e)
 ·by_cases z:InS S H b
  ·exact ⟨#[],by rw [Oj z,e]; simp⟩
  ·rw [Wh z]; exact u.tbls b ps (by rw [W0 z]; exact e)
 ·by_cases z:InS S H b
  ·rw [Oj z] at e
   by_cases hb:b∈S
   ·rcases c.mem hb e with ⟨xs,rfl⟩ | ⟨C,dx,fs,rfl⟩
    ·obtain ⟨l,its,n,r,q⟩:=ok b _ e
     exact ⟨l,its,n,r,kp _ _ z q⟩
    ·have hd:InS S H dx:=.inr ⟨b,hb,C,fs,e⟩
     obtain ⟨d,l,ne,q,mA,⟨od,es,ep,q2,c2⟩,r⟩:=ok b _ e;exact ⟨by rw [Oj hd]; exact d,l,ne,kp _ _ z q,mA,⟨od,es,ep,kp _ _ hd q2,c2⟩,r⟩
   ·obtain ⟨a,_,q⟩:=Cuts.dict ok hb z
    rw [e] at q;cases q;obtain ⟨ob,q⟩:=(ok b _ e).ex;exact ⟨ob,kp _ _ z q⟩
  ·rw [Wh z] at e
   exact (ok' b o e).stay (λ_ _ _ q=>q) (λd hd=>by
    rw [Wh (λz=>by rw [fr d z] at hd; cases hd)]; exact hd) λd xs hd=>by
    rw [Wh (λz=>by rw [fr d z] at hd; cases hd)]; exact hd
end
def FnOk.frame {P:Program} {w:World} {K:W.Frag} {mg:Str->Option Value} {base:Heap} {k:Nat} {f:Addr} {fd:FuncData} {ps:List Str} {sp:Sp} (F:(a:) k f fd ps sp) :
  FnOk P w K mg base (CXr P w) k f fd ps (λvs H Q E=>∃ S,Cuts S H/\sp vs (cutH S H) (λv H'=>(∀ b,InS S H b->H' b=none)->Q v (X6 S H H')) (λv o H'=>(∀ b,InS S H b->H' b=none)->E v o (X6 S H H'))):=by
 refine ⟨λvs H Q E q=>?_,λA outer s H args us vs Q E hr he hb hv hs=>?_⟩
 ·obtain ⟨S,_,q⟩:=q
  exact F.len _ _ _ _ q
 ·obtain ⟨S,c,q⟩:=hs
  refine codeAny_mono (F.run A outer s (cutH S H) args us vs _ _ hr (Zqq c he) hb hv q) λr s' z=>?_
  cases r with
  | ok r =>
   cases r with
   | ret u =>
    obtain ⟨v,H',a1,a2,a3,a4,a5,a6⟩:=z;obtain ⟨b1,b2,b3⟩:=Ziy c he.hok he.frf a3 a4;exact ⟨v,_,a1,a2,b1,b2,a5,a6 b3⟩
   | _=>exact z
  | error e =>
   obtain ⟨x,T,cls,a0,H',c1,c2,c3,c4,c5,c6,c7,c8,c9,d1,d2⟩:=z;obtain ⟨b1,b2,b3⟩:=Ziy c he.hok he.frf c4 c5;have no:∀ y,s.heap.get? y=none->H' y=none->X6 S H H' y=none:=λy hy hn=>by
    rw [Wh (λz=>by obtain ⟨o,q⟩:=c.some he.hok z; obtain ⟨ob,q⟩:=(he.hok y o q).ex; rw [hy] at q; cases q)]
    exact hn
   exact ⟨x,T,cls,a0,_,c1,c2,c3,b1,b2,c6,c7,no x c6 c8,no T c7 c9,d1,d2 b3⟩
def Zq8 (H0:Hp) (t:TSX):TSX:=λD R σ H=>t { D with nx:=λσ' H'=>∃ (a:Addr) (o:Obj) (kvs:List (Key × V)),H' a=some (ar:)/\(∀ o u,H0 a≠some (.frz o u))/\D.nx σ' (upd H' a (.dK kvs)) } R σ H
def Zf3 {X:Cx} {xl:Value->Shared->Prop} {R0:Value->St->Hp->Prop} {st:Stmt} {t:TSX} (h:PSL X xl R0 st t):PSL X xl R0 st (Zq8 X.H₀ t):=by
 intro j5 s σ H D I hw;refine wpAny_mono (h j5 s σ H _ I hw) (λf s' q=>?_) λ_ _ e=>e
 cases f with
 | next =>
  obtain ⟨σ',H',I',a,o,kvs,e,h0,q⟩:=q;exact ⟨σ',_,I'.thaw e h0,q⟩
 | ret v=>exact q
 | brk=>exact q
 | cont=>exact q
def Zdi {d:Addr} {kvs:List (Key × V)} {o:Obj} {g:TG} {tb:TSX} {R:Value->St->Hp->Prop} {D:Ends} {σ:St} {H:Hp} (Pv:Nat->St->Hp->Prop) (h0:Pv 0 σ H) (hl:∀ i σ H,i<=kvs.length->Pv i σ H->H d=some (ar:))
  (hs:∀ i k x σ H,kvs[i]?=some (k,x)->Pv i σ H->g x σ H λσ2 H2=>tb { D with nx:=Pv (i + 1),ct:=Pv (i + 1),bk:=D.nx } R σ2 H2) (hd:∀ σ H,Pv kvs.length σ H->D.nx σ H) :
  ∃ W:Nat->Nat->St->Hp->Prop,(∃ m,W 0 m σ H)/\∀ i m σ H,W i m σ H ->
   ((Itv2 d kvs o).stop i H/\D.nx σ H)\/((Itv2 d kvs o).go i H/\∃ N:St->Hp->Prop,(q:)/\∀ x H',(Itv2 d kvs o).yld i H x H'->g x σ H' λσ2 H2=>tb { D with nx:=N,ct:=N,bk:=D.nx } R σ2 H2) :=
 Zgx (tb:=λD' σ' H'=>tb D' R σ' H') Pv h0 hl hs hd
end L2
namespace KT
open PySem L2
def Bd (B:Nat) (v:Nat × Nat):Prop:=1<=v.1/\1<=v.2/\v.1 < 2 ^ B/\v.2 < 2 ^ B
def Bd.low {B:Nat} {g:Int->Nat × Nat} {y:Int} (h:Bd B (g y)):Bd B (lowG g y)/\Val (lowG g y) (g y).1 (g y).2:=by
 have v:=Gp h.1 h.2.1;have l:=Zcn (g y).1 (g y).2;exact ⟨⟨v.p1,v.p2,Nat.lt_of_le_of_lt l.1 h.2.2.1,Nat.lt_of_le_of_lt l.2 h.2.2.2⟩,v⟩
section
variable {M:Lq} {ns ks:List Int} {x y:Int} {a b B:Nat} {g:Int->Nat × Nat}
def Zh4:strG ks (G:) x (lowG g) x=((lowG g x).2,(lowG g x).1):=by unfold strG putG; rw [if_pos rfl]
def Zeu (h:y≠x):strG ks (G:) x (lowG g) y=chN (flg ks (G:) y) (lowG g x) (lowG g y) 4:=by unfold strG putG; rw [if_neg h,Zam]
def Zrj (hx:Bd B (g x)) (hy:Bd B (g y)):Nat.gcd (strG ks (G:) x (lowG g) y).1 (strG ks (G:) x (lowG g) y).2=1/\1<=(strG ks (G:) x (lowG g) y).1/\1<=(strG ks (G:) x (lowG g) y).2:=by
 obtain ⟨_,vx⟩:=hx.low;by_cases c:y=x
 ·subst c
  rw [Zh4];exact ⟨by rw [gcd_comm]; exact vx.co,vx.p2,vx.p1⟩
 ·rw [Zeu c]
  have v:=Zg2 (e:=flg ks (G:) y) hy.low.2 vx.p1 vx.p2 4;exact ⟨v.co,v.p1,v.p2⟩
def Zrk (td:TD M ns) (mv:Mv M ns x a b) (hx:Bd B (g x)) (hy:Bd B (g y)):Bd (3 * B + 2) (strG ks (G:) x (lowG g) y):=by
 obtain ⟨_,p1,p2⟩:=Zrj (ks:=ks) (ns:=ns) (a:=a) (b:=b) hx hy;obtain ⟨lx,vx⟩:=hx.low;obtain ⟨ly,vy⟩:=hy.low;by_cases c:y=x
 ·subst c
  rw [Zh4];exact ⟨lx.2.1,lx.1,Ag lx.2.2.2 (Nat.pow_le_pow_right (d:) (by lia)),Ag lx.2.2.1 (Nat.pow_le_pow_right (d:) (by lia))⟩
 ·rw [Zeu c] at p1 p2 ⊢
  have two:=Zpd td mv ks y;have b0:0 < 2 ^ B:=Nat.two_pow_pos B;have sS:(lowG g x).1 + (lowG g x).2<=2 ^ (B + 1):=by
   have h1:=lx.2.2.1
   have h2:=lx.2.2.2
   rw [Nat.pow_succ]
   lia
  obtain ⟨c1,c2⟩:=Zj8 (e:=flg ks (G:) y) (tu:=lowG g x) (v:=lowG g y) (B:=2 ^ B - 1) (S:=2 ^ (B + 1)) ⟨by have:=ly.2.2.1; lia,by have:=ly.2.2.2; lia⟩ sS Nat.one_le_two_pow 4;have top:(2 ^ B - 1) * (2 ^ (B + 1)) ^ cnN (flg ks (G:) y) 4 < 2 ^ (3 * B + 2):=by
   have e1:(2 ^ B - 1) * (2 ^ (B + 1)) ^ cnN (flg ks (G:) y) 4 < 2 ^ B * (2 ^ (B + 1)) ^ cnN (flg ks (G:) y) 4:=Nat.mul_lt_mul_of_pos_right (by lia) (Nat.pow_pos (Nat.two_pow_pos _))
   refine Ag e1 ?_
   rw [<- Nat.pow_mul,<- Nat.pow_add]
   refine Nat.pow_le_pow_right (d:) ?_
   have:(B + 1) * cnN (flg ks (G:) y) 4<=(B + 1) * 2:=mul_le_mul_left _ two
   lia
  exact ⟨p1,p2,Nat.lt_of_le_of_lt c1 top,Nat.lt_of_le_of_lt c2 top⟩
end
end KT
namespace L2
open PySem PySem.Spec PyProof.Rows PySem.SeqAt
def Zdm {P P':Program} {w w':World} {h:Heap} {a:Addr} {vs:List (Key × Value)} (x:h.DictOf (Z2 P w) a vs) (hk:∀ p∈vs,∃ i:Int,p.1=Sum.inl i):h.DictOf (Z2 P' w') a vs:=by
 obtain ⟨o,es,ep,h1,h2,h3,h4,h5,h6⟩:=x
 have pp:∀ {es:List DictEntry} {vs:List (Key × Value)},Pairs (Z2 P w) es vs->Pairs (Z2 P' w') es vs:=λz=>by
  induction z with
  | nil=>exact .nil
  | cons a b _ ih=>exact .cons a b ih
 have me:∀ {es:List DictEntry} {vs:List (Key × Value)},Pairs (Z2 P w) es vs->∀ e∈es,∃ p∈vs,Vg p.1 e.key=true:=λz=>by
  induction z with
  | nil=>exact λ_ z=>nomatch z
  | cons a b _ ih =>
   intro e he
   rcases Ar he with rfl | he
   ·exact ⟨_,mem_cons_self,a⟩
   ·obtain ⟨p,hp,q⟩:=ih e he
    exact ⟨p,mem_cons_of_mem _ hp,q⟩
 refine ⟨o,es,ep,h1,h2,h3,λe he=>?_,pp h5,h6⟩;obtain ⟨k,q1,q2⟩:=h4 e he;obtain ⟨p,hp,q⟩:=me h5 e (by simpa using he);obtain ⟨i,hi⟩:=hk p hp;have e1:k=p.1:=(Z2 P w).inj e.key k p.1 q1 q;refine ⟨k,q1,?_⟩;rw [q2,e1,hi];rfl
def Ziq {kvs:List (Key × V)} {vs:List (Key × Value)} (r:KV kvs vs) (hk:∀ p∈kvs,∃ i:Int,p.1=Sum.inl i):∀ p∈vs,∃ i:Int,p.1=Sum.inl i:=by
 induction r with
 | nil=>exact λ_ z=>nomatch z
 | cons a _ ih =>
  intro p hp
  rcases Ar hp with rfl | hp
  ·obtain ⟨i,e⟩:=hk _ mem_cons_self
   exact ⟨i,a.1.symm.trans e⟩
  ·exact ih (λp hp=>hk p (mem_cons_of_mem _ hp)) p hp
section
variable {X:Cx} {j5:List (n:)} {σ:St} {H:Hp} {s:Shared}
def W1 (K:W.Frag) (H:Hp) (x y:V):Prop:=(∃ z,x=.str z/\y=.str z)\/(∃ d,DV K H x d/\DV K H y d/\shaped d=true)\/∃ a b ka kb,x=.ref a/\y=.ref b/\Rd H a (.dK ka)/\Rd H b (.dK kb)/\ka.length=kb.length/\(∀ p∈ka,∃ i:Int,p.1=Sum.inl i)/\(∀ p∈kb,∃ i:Int,p.1=Sum.inl i)/\∀ k v,(k,v)∈ka->∃ d y,valV kb k=some y/\DV K H v d/\DV K H y d/\shaped d=true
def W1.eq {A:Around} (I:Inv X j5 σ H s) (hu:A.units + 68 < cLine) {x y:V} {u v:Value} (h:W1 X.K H x y) (rx:RelV x u) (ry:RelV y v):EqAt A.in1 s u v true:=by
 rcases h with ⟨z,rfl,rfl⟩ | ⟨d,hx,hy,sd⟩ | ⟨a,b,ka,kb,rfl,rfl,ha,hb,hl,ia,ib,hk⟩
 ·obtain ⟨t,rfl⟩:=rx
  obtain ⟨t',rfl⟩:=ry;have:=EqAt.str_str (A:=A.in1) (s:=s) z t z t';rw [beq_self_eq_true] at this;exact this
 ·obtain ⟨_,r1⟩:=hx.reads I rx
  obtain ⟨_,r2⟩:=hy.reads I ry;have E:=PySem.W.keq_at (A:=A) r1 r2 sd sd (by simp; lia);rw [<- same_eq_eqv d d (Oy d (canLay_of_shaped sd)),same_self] at E;exact E
 ·cases rx
  cases ry;by_cases e:a=b
  ·rw [e]; exact EqAt.same _
  refine EqAt.of_refs e λprog w E Q q=>?_;obtain ⟨za,sa,va,ra,da⟩:=Jp I.hok ha;obtain ⟨zb,sb,vb,rb,db⟩:=Jp I.hok hb;refine PySem.W.keq_eq (r:=true) sa sb (Zdm da (Ziq ra ia)) (Zdm db (Ziq rb ib)) (by simp; lia) (λ_=>Zgr (A:=A.in1) I (by simp; lia) rb ra hk) ?_;have el:va.length=vb.length:=by rw [<- ra.length,<- rb.length]; exact hl
  rw [el];simpa using q
def alls {n:Nat}:((List.range n).all λ_=>true)=true:=by simp
def W2 (K:W.Frag) (H:Hp) (x y:V):Prop:=W1 K H x y\/∃ a b xs ys,x=.ref a/\y=.ref b/\SqL K H a xs/\SqL K H b ys/\xs.length=ys.length/\∀ (i:Nat) u v,xs[i]?=some u->ys[i]?=some v->W1 K H u v
def W2.eq {A:Around} (I:Inv X j5 σ H s) (hu:A.units + 69 < cLine) {x y:V} {u v:Value} (h:W2 X.K H x y) (rx:RelV x u) (ry:RelV y v):EqAt A.in1 s u v true:=by
 rcases h with h | ⟨a,b,xs,ys,rfl,rfl,ha,hb,hl,hk⟩
 ·exact h.eq I (by lia) rx ry
 ·cases rx
  cases ry;by_cases e:a=b
  ·rw [e]; exact EqAt.same _
  obtain ⟨ia,r1,p1,_⟩:=I.list ha;obtain ⟨ib,r2,p2,_⟩:=I.list hb;have e1:=r1.length;have e2:=r2.length;have:=RcAt.lists (A:=A.in1) (e:=λ_=>true) p1.isList p2.isList (by simp; lia) (by simp; lia) λj h1 h2=>by
   have sk:j < xs.length:=by simp at h1; lia
   have pr:j < ys.length:=by simp at h2; lia
   obtain ⟨w1,g1,q1⟩:=r1.get (Ac sk)
   obtain ⟨w2,g2,q2⟩:=r2.get (Ac pr)
   have e1:ia.toArray[j]=w1:=by simp at h1 ⊢; exact (Aa g1).2
   have e2:ib.toArray[j]=w2:=by simp at h2 ⊢; exact (Aa g2).2
   rw [e1,e2]
   exact (hk j _ _ (Ac sk) (Ac pr)).eq (A:=A.in1) I (by simp; lia) q1 q2
  rw [alls] at this;exact EqAt.of_refs e this
end
section
variable {X:Cx}
def Zlp (hu:X.A.units + 70 < cLine):OpR X (compareOp .NotEq) (λx y H Q=>∃ a b xs ys,x=.ref a/\y=.ref b/\SqT X.K H a xs/\SqT X.K H b ys/\xs.length=ys.length/\(∀ (i:Nat) u v,xs[i]?=some u->ys[i]?=some v->W2 X.K H u v)/\Q (.bl false) H):=by
 intro j5 s σ H x y v u Q I rx ry h;obtain ⟨a,b,xs,ys,rfl,rfl,ha,hb,hl,hk,q⟩:=h;cases rx;cases ry;obtain ⟨ia,r1,p1,_⟩:=I.tuple ha;obtain ⟨ib,r2,p2,_⟩:=I.tuple hb;have l1:=r1.length;have l2:=r2.length;have:=RcNeAt.tuples (A:=X.A) (e:=λ_=>true) p1 p2 (by lia) λj h1 h2=>by
  have sk:j < xs.length:=by simp at h1; lia
  have pr:j < ys.length:=by simp at h2; lia
  obtain ⟨w1,g1,q1⟩:=r1.get (Ac sk)
  obtain ⟨w2,g2,q2⟩:=r2.get (Ac pr)
  have e1:ia.toArray[j]=w1:=by simp at h1 ⊢; exact (Aa g1).2
  have e2:ib.toArray[j]=w2:=by simp at h2 ⊢; exact (Aa g2).2
  rw [e1,e2]
  exact (hk j _ _ (Ac sk) (Ac pr)).eq I (by lia) q1 q2
 rw [alls,show (ia.toArray.size == ib.toArray.size)=true by simp; lia] at this;exact this X.prog X.w X.xe _ ⟨.bl false,H,I,Y,q⟩
def Zrv (hu:X.A.units + 70 < cLine):OpR X (compareOp .NotEq) (λx y H Q=>∃ a b xs ys,x=.ref a/\y=.ref b/\SqL X.K H a xs/\SqL X.K H b ys/\xs.length=ys.length/\(∀ (i:Nat) u v,xs[i]?=some u->ys[i]?=some v->W1 X.K H u v)/\Q (.bl false) H):=by
 intro j5 s σ H x y v u Q I rx ry h;obtain ⟨a,b,xs,ys,rfl,rfl,ha,hb,hl,hk,q⟩:=h;cases rx;cases ry;obtain ⟨ia,r1,p1,_⟩:=I.list ha;obtain ⟨ib,r2,p2,_⟩:=I.list hb;have l1:=r1.length;have l2:=r2.length;have:=RcNeAt.lists (A:=X.A) (e:=λ_=>true) p1.isList p2.isList (by simp; lia) (by lia) λj h1 h2=>by
  have sk:j < xs.length:=by simp at h1; lia
  have pr:j < ys.length:=by simp at h2; lia
  obtain ⟨w1,g1,q1⟩:=r1.get (Ac sk)
  obtain ⟨w2,g2,q2⟩:=r2.get (Ac pr)
  have e1:ia.toArray[j]=w1:=by simp at h1 ⊢; exact (Aa g1).2
  have e2:ib.toArray[j]=w2:=by simp at h2 ⊢; exact (Aa g2).2
  rw [e1,e2]
  exact (hk j _ _ (Ac sk) (Ac pr)).eq I (by lia) q1 q2
 rw [alls] at this;exact this X.prog X.w X.xe _ ⟨.bl false,H,I,Y,q⟩
def Zij:OpR X (compareOp .IsNot) (λx y H Q=>∃ b c,x=.bl b/\y=.bl c/\Q (.bl (!(b == c))) H):=by
 intro j5 s σ H x y v u Q I rx ry h;obtain ⟨b,c,rfl,rfl,q⟩:=h;cases rx;cases ry;refine wpAny_isNot_plain (by cases b <;> cases c <;> rfl) ?_;rw [show (Value.bool b == Value.bool c)=(b == c) by cases b <;> cases c <;> rfl];exact ⟨.bl (!(b == c)),H,I,Y,q⟩
def Room.units70 {k:Nat} {A:Around} (r:Room k A):A.units + 70 < cLine:=by have:=r.un; lia
end
end L2
namespace L2
open PySem PySem.Spec PyProof.Rows
section
variable {X:Cx}
variable {j5:List (n:)} {σ:St} {H:Hp} {s:Shared}
def Zp0 {fr:Bool} {a b:Expr} {op:CmpOp} {ta tb:TEX} {r:R2} {pos:Pos} (ha:PEX fr X a ta) (hb:PEX fr X b tb) (ho:OpR X (compareOp op) r) (hm:behindInMarks op b=false) (hx:X.xe=(λ_ _=>False):=by rfl) :
  PEX fr X (.Compare a [op] [b] pos) (λσ H Q E=>ta σ H (λx H1=>tb σ H1 (λy H2=>r x y H2 Q) E) E):=by
 intro j5 s σ H Q E I h;refine wpAny_Compare1 (wpAny_mono (ha j5 s σ H _ _ I h) (λv s1 zz40=>?_) λ_ _ z=>z) hm;obtain ⟨x,H1,I1,r1,q1⟩:=zz40;refine wpAny_mono (hb j5 s1 σ H1 _ _ I1 q1) (λu s2 zz41=>?_) λ_ _ z=>z;obtain ⟨y,H2,I2,r2,q2⟩:=zz41;have h2:=ho j5 s2 σ H2 x y v u _ I2 r1 r2 q2;rw [hx] at h2;exact wpAny_mono h2 (λ_ _ z=>z) λ_ _ z=>z.elim
end
section
variable {X:Cx} {xl:Value->Shared->Prop} {E:XK} {e:Expr} {es:List Expr} {pos:Pos}
def Zli {fr:Bool} {k:Nat} {f C:Addr} {fd:FuncData} {ps:List Str} {sp:Sp} {ds:List Value} {lg:List V} {m:Str} {kf:Pos} {o:Expr} {ta:TEX} {pl:Sem Bool} (he:PEX fr X o ta) (c:Cls X.K C) (hm:Meth X.K C m f) (F:FnOk X.prog X.w X.K X.mg X.base (CXr X.prog X.w) k f fd ps sp) (hr:Room k X.A) (hb:Wu X.K fd ps ds) (hd:Vals lg ds) (hex:X.ex=[]:=by rfl)
  (ht:eval (.Call (.Attribute o m kf) [] [] pos) X.env=(do
   let ov <- eval o X.env
   standAt kf.atName
   let (f,first) <- holding [ov] (getMethod ov m pl)
   callWith pos f first (backTo pos (starEach [] X.env)) (backToKw pos (keywordEach [] X.env))):=by rfl) :
  PEX fr X (.Call (.Attribute o m kf) [] [] pos) (λσ H Q E=>ta σ H (λx H1=>∃ a dx fs,x=.ref a/\H1 a=some (.ins C dx fs)/\fs.lookup m=none/\sp (x :: lg) H1 Q E) E):=by
 intro j5 s σ H Q E I h;refine PySem.W.methodCall_KW (pl:=pl) (thn (he j5 s σ H _ E I h) λu s1 zz42=>?_) ht;obtain ⟨x,H1,I1,rx,a,dx,fs,ex,ea,l,q⟩:=zz42;subst ex;obtain rfl:u=Value.ref a:=rx;refine Vi I1 ea c hm l ?_;exact PySem.W.callWith_K0 (first:=[.ref a]) I1.kIn hm.kp (Zcc (us:=[.ref a]) (vs:=[.ref a]) F hr hb hd hex I1 (.cons Y .nil) q)
end
end L2
namespace KT
open PySem L2
noncomputable def ctN (xs:List Nat) (p:Nat):Nat:=xs.countP λq=>decide (q=p)
def Jc (x:Nat) (xs:List Nat) (p:Nat):ctN (x :: xs) p=ctN xs p + if x=p then 1 else 0:=by
 unfold ctN;rw [countP_cons];by_cases c:x=p <;> simp [c]
theorem Zbs {M:Lq} (inv:InvM M) (p:Nat):∀ ws:List Nat,(∀ q∈ws,∃ m,M[q]?=some (some m))->lz M ws p=ctN ws p + ctN (ws.map (mtN M)) p
 | [],_=>rfl
 | q :: r,h=>by
  have ih:=Zbs inv p r λz hz=>h z (mem_cons_of_mem _ hz);obtain ⟨m,hm⟩:=h q mem_cons_self;have ne:=(inv q m hm).2;unfold lz at ih ⊢;rw [countP_cons,ih,map_cons,Jc,Jc,Ub hm,Zei ne];lia
def Zp4 {p x y:Nat} (h:y / 3=x / 3) (ne:y≠x):(if x=p then 1 else 0) + (if y=p then 1 else 0)<=((if x=aN p then 1 else 0) + if y=aN p then 1 else 0) + ((if x=bN p then 1 else 0) + if y=bN p then 1 else 0):=by
 have i1:=ind3 p x;have i2:=ind3 p y;rw [h] at i2;by_cases c:x / 3=p / 3
 ·rw [if_pos c] at i1 i2
  by_cases d:x=p
  ·subst d
   rw [if_neg ne] at i2 ⊢;rw [if_pos rfl];lia
  ·by_cases e:y=p
   ·subst e
    rw [if_neg d] at i1 ⊢;rw [if_pos rfl];lia
   ·rw [if_neg d,if_neg e]
    lia
 ·rw [if_neg c] at i1 i2
  lia
theorem Zcr (p:Nat):∀ xs ys:List Nat,xs.length=ys.length->(∀ (i:Nat) x y,xs[i]?=some x->ys[i]?=some y->y / 3=x / 3/\y≠x)->ctN xs p + ctN ys p<=(ctN xs (aN p) + ctN ys (aN p)) + (ctN xs (bN p) + ctN ys (bN p))
 | [],[],_,_=>Az _
 | [],_ :: _,h,_=>by cases h
 | _ :: _,[],h,_=>by cases h
 | x :: xs,y :: ys,h,r=>by
  have ih:=Zcr p xs ys (by simpa using h) λi a b e1 e2=>r (i + 1) a b e1 e2;obtain ⟨r1,r2⟩:=r 0 x y rfl rfl;have:=Zp4 (p:=p) r1 r2;rw [Jc,Jc,Jc,Jc,Jc,Jc];lia
def Zqt {M:Lq} (inv:InvM M) {ws:List Nat} (hP:Pl M ws) (p:Nat):lz M ws p<=lz M ws (aN p) + lz M ws (bN p):=by
 have hl:0 < ws.length:=length_pos_iff.mpr hP.ne;have pm:(rot ws 1).Perm ws:=by
  unfold rot
  refine perm_append_comm.trans ?_
  rw [take_append_drop]
 have e:∀ z,ctN ws z=ctN (rot ws 1) z:=λz=>(pm.countP_eq _).symm;have t:=Zcr p (ws.map (mtN M)) (rot ws 1) (by rw [Ab,pm.length_eq]) λi x y e1 e2=>by
  rw [Ah] at e1
  obtain ⟨q,hq,rfl⟩:=Option.map_eq_some_iff.mp e1
  have hi:=(Aa hq).1
  rw [Za5 (j:=0) hl hi] at e2
  obtain ⟨m,hm⟩:=hP.has q (Au hq)
  rw [Ub hm]
  exact hP.nxt i q y hq e2 m hm
 rw [Zbs inv _ ws hP.has,Zbs inv _ ws hP.has,Zbs inv _ ws hP.has,e,e,e];lia
def Pl.pc {M:Lq} (inv:InvM M) {ws:List Nat} (hP:Pl M ws):PC M λp=>((lz M ws p:Nat):Int):=by
 refine ⟨λp _=>Int.natCast_nonneg _,λp hp=>?_,λp q hp=>?_,λp _=>?_,λp _=>?_⟩
 ·show ((lz M ws p:Nat):Int)=0
  rw [Zqu inv hP.has (by rw [hp]; rfl)];rfl
 ·show ((lz M ws q:Nat):Int)=((lz M ws p:Nat):Int)
  rw [Zok inv hP.has hp]
 ·show (((lz M ws p:Nat):Int) + ((lz M ws (aN p):Nat):Int) + ((lz M ws (bN p):Nat):Int)) % 2=0
  have:=Zqr inv (.inr hP) p;lia
 ·show ((lz M ws p:Nat):Int)<=((lz M ws (aN p):Nat):Int) + ((lz M ws (bN p):Nat):Int)
  have:=Zqt inv hP p;lia
section
variable {α β:Type}
abbrev rp (m:Nat) (l:List α):List α:=(List.replicate m l).flatten
def Zrn (f:α->β) (m:Nat) (l:List α):(rp m l).map f=rp m (l.map f):=by unfold rp; rw [map_flatten,map_replicate]
end
end KT
set_option genInjectivity false
set_option genSizeOf false
namespace KT
open PySem L2
noncomputable def bmV:List Value:=[.type "ValueError",.type "Exception",.type "BaseException",.type "object"]
def FBV:ExcBaseFacts "ValueError" "ValueError.__new__" "ValueError.__init__" bmV:=PySem.F.excBase_ValueError
def map_some {α:Type} {f:α->V} {l:List α} {i:Nat} {y:V} (h:(l.map f)[i]?=some y):∃ q,l[i]?=some q/\y=f q:=by
 rw [Ah] at h
 cases e:l[i]? with
 | none=>rw [e] at h; cases h
 | some q=>rw [e] at h; cases h; exact ⟨q,Y,Y⟩
structure FT (K:W.Frag) (mg:Str->Option Value) (x:Str) (st:Stmt) (ps:List Str) (f:Addr) (d:FuncData):Prop where
 F:Fun K x x st f d
 b:Wu K d ps []
 g:mg x=some (.ref f)
structure FM (K:W.Frag) (C:Addr) (x q:Str) (st:Stmt) (ps:List Str) (f:Addr) (d:FuncData):Prop where
 F:Fun K x q st f d
 b:Wu K d ps []
 m:Meth K C x f
section
variable {X:Cx} {fr:Bool} {j k:Nat} {f:Addr} {fd:FuncData} {ps:List Str} {sp:Sp} {x:Str} {st:Stmt} {p pos:Pos} {e:Expr} {es:List Expr} {t:TA}
def pcT (F:FnOk X.prog X.w X.K X.mg X.base (CXr X.prog X.w) k f fd ps sp) (hr:Room j X.A) (q:FT X.K X.mg x st ps f fd) (ha:PA X (e :: es) t) (hk:k<=j:=by decide) (hg:Gl X x:=by rfl) (oy:(Z:)=false:=by decide) (he:starEach (e :: es) X.env=(a8:) :: starEach es X.env:=by rfl) (lf:(al:).any (·.1)=false:=by rfl) :
  PE X (.Call (.Name x p) (e :: es) [] pos) (Zoq sp [] E0 t):=Zp1 F (hr.mono hk) hg q.g q.F.kp q.b .nil Z1 ha oy he lf
def pxT (F:FnOk X.prog X.w X.K X.mg X.base (CXr X.prog X.w) k f fd ps sp) (hr:Room j X.A) (q:FT X.K X.mg x st ps f fd) (ha:PA X (e :: es) t) (hk:k<=j:=by decide) (hg:Gl X x:=by rfl) (hex:X.ex=[]:=by rfl) (hx:X.xe=(λ_ _=>False):=by rfl) (oy:(Z:)=false:=by decide) (he:starEach (e :: es) X.env=(a8:) :: starEach es X.env:=by rfl) (lf:(al:).any (·.1)=false:=by rfl) :
  PEX fr X (.Call (.Name x p) (e :: es) [] pos) (Zkk sp [] t):=Znm F (hr.mono hk) hg q.g q.F.kp q.b .nil ha hex hx oy he lf
end
def BA (q:Str) (st:Stmt) (ps:List Str):Prop:=∀ (x:Str) (kV k7 pm:Value) (an:Option Addr) (kn ct:Value) (us:List Value),us.length=ps.length->bindArgs (O:) ⟨us,[]⟩=pure (ps.zip us)
def Zip {α:Type} {us:List α} (e:us.length=2):∃ a b,us=[a,b]:=by
 obtain ⟨a,us,rfl⟩:=exists_cons_of_length_eq_add_one e;obtain ⟨b,rfl⟩:=length_eq_one_iff.mp (Nat.succ.inj e);exact ⟨a,b,Y⟩
def Zdd {α:Type} {us:List α} (e:us.length=3):∃ a b c,us=[a,b,c]:=by
 obtain ⟨a,us,rfl⟩:=exists_cons_of_length_eq_add_one e;obtain ⟨b,c,rfl⟩:=Zip (Nat.succ.inj e);exact ⟨a,b,c,Y⟩
def ba1 {ps:List Str} (h:∀ (x:Str) (kV k7 pm:Value) (an:Option Addr) (kn ct:Value) (a:Value),bindArgs (O:) ⟨[a],[]⟩=pure (ps.zip [a])) (hl:ps.length=1):BA q st ps:=λx kV k7 pm an kn ct us e=>by
 rw [hl] at e;obtain ⟨a,rfl⟩:=length_eq_one_iff.mp e;exact h x kV k7 pm an kn ct a
def ba2 {ps:List Str} (h:∀ (x:Str) (kV k7 pm:Value) (an:Option Addr) (kn ct:Value) (a b:Value),bindArgs (O:) ⟨[a,b],[]⟩=pure (ps.zip [a,b])) (hl:ps.length=2):BA q st ps:=λx kV k7 pm an kn ct us e=>by
 rw [hl] at e;obtain ⟨a,b,rfl⟩:=Zip e;exact h x kV k7 pm an kn ct a b
def ba3 {ps:List Str} (h:∀ (x:Str) (kV k7 pm:Value) (an:Option Addr) (kn ct:Value) (a b c:Value),bindArgs (O:) ⟨[a,b,c],[]⟩=pure (ps.zip [a,b,c])) (hl:ps.length=3):BA q st ps:=λx kV k7 pm an kn ct us e=>by
 rw [hl] at e;obtain ⟨a,b,c,rfl⟩:=Zdd e;exact h x kV k7 pm an kn ct a b c
def ba4 {q:Str} {st:Stmt} {ps:List Str} (h:∀ (x:Str) (kV k7 pm:Value) (an:Option Addr) (kn ct:Value) (a b c d:Value),bindArgs (O:) ⟨[a,b,c,d],[]⟩=pure (ps.zip [a,b,c,d])) (hl:ps.length=4):BA q st ps:=λx kV k7 pm an kn ct us e=>by
 rw [hl] at e;obtain ⟨a,us,rfl⟩:=exists_cons_of_length_eq_add_one e;obtain ⟨b,c,d,rfl⟩:=Zdd (Nat.succ.inj e);exact h x kV k7 pm an kn ct a b c d
def ba5 {q:Str} {st:Stmt} {ps:List Str} (h:∀ (x:Str) (kV k7 pm:Value) (an:Option Addr) (kn ct:Value) (a b c d e:Value),bindArgs (O:) ⟨[a,b,c,d,e],[]⟩=pure (ps.zip [a,b,c,d,e])) (hl:ps.length=5):BA q st ps:=λx kV k7 pm an kn ct us e=>by
 rw [hl] at e
 match us,e with
 | [a,b,c,d,e],_=>exact h x kV k7 pm an kn ct a b c d e
section
variable {K:W.Frag} {h:Heap} {mg:Str->Option Value} {C:Addr} {x q:Str} {st:Stmt} {ps:List Str} {f:Addr} {oc:Value} {od an:Option Addr} {sl:Array (Option Value)} {kV k7 pm cd ct:Value}
def FT.of (X:K.In h) (G:h.Ns mainGlobals mg) (B:BA x st ps) (a:PySem.W.nsIn K mainGlobals x=some (some (.ref f))) (l:K.lookup f=some ⟨oc,od,.func (PySem.W.fnOf x x (Xp st) (Y4 st) (Zg st) .none kV k7 pm an cd ct),sl⟩)
  (c:PySem.W.codeIn K cd x=true) (k:PySem.W.keepIn K (.ref f)=true):FT K mg x st ps f (PySem.W.fnOf x x (Xp st) (Y4 st) (Zg st) .none kV k7 pm an cd ct):=⟨Zbl l c k,(Zbl l c k).binds (B x),PySem.W.mg_of X G a⟩
def FM.of (B:BA q st ps) (a:PySem.W.findIn K (.ref C) x=some (some (.ref f))) (i:PySem.W.isFn K (.ref f)=true) (l:K.lookup f=some ⟨oc,od,.func (PySem.W.fnOf x q (Xp st) (Y4 st) (Zg st) .none kV k7 pm an cd ct),sl⟩)
  (c:PySem.W.codeIn K cd q=true) (k:PySem.W.keepIn K (.ref f)=true):FM K C x q st ps f (PySem.W.fnOf x q (Xp st) (Y4 st) (Zg st) .none kV k7 pm an cd ct):=⟨Zbl l c k,(Zbl l c k).binds (B x),⟨a,i,k⟩⟩
end
def top (i:Nat):Stmt:=PySem.Challenge.pw_tentloops_k62_refused_turns_keep.main.body.getD i (.Pass ⟨0,0,0,0⟩)
abbrev Zh7:Stmt:=top 23
abbrev Zfw:Stmt:=top 24
abbrev Za3:Stmt:=top 25
abbrev Zaw:Stmt:=top 26
abbrev Zay:Stmt:=top 27
abbrev Fh:Stmt:=Yk (top 28) 0
abbrev Ff:Stmt:=Yk (top 28) 1
abbrev Kw:Stmt:=Yk (top 28) 3
abbrev Vs:Stmt:=Yk (top 28) 5
abbrev Q9:Stmt:=Yk (top 28) 6
abbrev U8:Stmt:=Yk (top 28) 7
abbrev Ka:Stmt:=Yk (top 28) 8
abbrev Fg:Stmt:=Yk (top 28) 9
abbrev U7:Stmt:=Yk (top 28) 10
abbrev Zaz:Stmt:=top 31
abbrev Fb:Stmt:=top 32
abbrev Zfk:Stmt:=top 33
abbrev Zfl:Stmt:=top 34
abbrev Fd:Stmt:=top 35
abbrev Fe:Stmt:=top 37
abbrev Zc3:Stmt:=top 38
abbrev Zh5:Stmt:=top 39
abbrev O4:Stmt:=top 40
abbrev Zfj:Stmt:=top 41
abbrev Zpq:Stmt:=top 43
abbrev U6:Stmt:=top 44
abbrev O6:Stmt:=top 45
abbrev Ul:Stmt:=top 46
abbrev Uq:Stmt:=top 47
abbrev Qy:Stmt:=top 49
abbrev Zfm:Stmt:=top 50
abbrev Vr:Stmt:=top 52
abbrev Up:Stmt:=top 53
abbrev Za2:Stmt:=top 54
abbrev Ku:Stmt:=top 55
abbrev O7:Stmt:=top 56
abbrev Um:Stmt:=top 57
abbrev Zcw:Stmt:=top 58
abbrev Fa:Stmt:=top 59
abbrev Zcx:Stmt:=top 65
abbrev Zc2:Stmt:=top 66
abbrev Zc4:Stmt:=top 67
abbrev Zax:Stmt:=top 68
abbrev O8:Stmt:=top 69
abbrev Kx:Stmt:=Yk (top 73) 0
abbrev G9:Stmt:=top 74
abbrev U4:Stmt:=top 75
abbrev Uo:Stmt:=top 76
abbrev O5:Stmt:=top 77
abbrev Kv:Stmt:=top 78
abbrev U5:Stmt:=top 79
abbrev Fm:Stmt:=Yk (top 80) 0
abbrev K0:Stmt:=Yk (top 80) 1
abbrev Za4:Stmt:=Yk (top 80) 2
abbrev Fj:Stmt:=Yk (top 80) 3
abbrev Fl:Stmt:=Yk (top 80) 4
abbrev Ky:Stmt:=Yk (top 80) 5
abbrev Fi:Stmt:=Yk (top 80) 6
abbrev Fn:Stmt:=Yk (top 80) 7
abbrev K2:Stmt:=Yk (top 80) 8
abbrev K1:Stmt:=Yk (top 80) 9
abbrev Vt:Stmt:=Yk (top 80) 11
abbrev Kz:Stmt:=Yk (top 80) 12
abbrev Ur:Stmt:=Yk (top 80) 13
abbrev Kb:Stmt:=Yk (top 80) 14
abbrev Fk:Stmt:=Yk (top 80) 15
abbrev Vu:Stmt:=Yk (top 80) 18
abbrev Zfv:Stmt:=top 82
abbrev Fc:Stmt:=top 83
abbrev Zfr:Stmt:=top 84
abbrev Zft:Stmt:=top 85
abbrev Zfq:Stmt:=top 86
abbrev Zfn:Stmt:=top 87
abbrev Za0:Stmt:=top 88
abbrev Zfu:Stmt:=top 89
abbrev Zc0:Stmt:=top 90
abbrev Zcy:Stmt:=top 91
abbrev Zfs:Stmt:=top 92
abbrev Zk3:Stmt:=top 93
abbrev Zfp:Stmt:=top 94
abbrev Zh6:Stmt:=top 95
abbrev Zcz:Stmt:=top 96
abbrev Za1:Stmt:=top 97
abbrev Zc1:Stmt:=top 98
abbrev Zfo:Stmt:=top 99
abbrev Zor:Stmt:=top 100
structure Adr where
 (aa ag ae iW hV fL fM fN cC eA dB bB bq cD cW eB cE fO eC hX ic eE eF gA iX cX ie jx cF cY b9 ce bc ig bC cf fP dC cZ cg gB eG gC gD gE fQ dc bR eI cG ci de dD bf cH dE fR eJ eK dF eO eP dG bS bD dH ck df eQ bE ii eV ij ik il im fS ip gF gG iq jm ir iY d8 fU gH iu jC aJ bF aT gI bG dJ dw ba fV aQ aK bH br:Addr)
 (iZ iw fW fX fY eW eX dM bI bt cI dg eY cJ fZ eZ ix iy fc fg gJ i5 dh iz jy cK di cm cp bg iA bJ cq f6 dO dj cr gK fh gL gM gN f7 dk dP fi cL cv dl dQ bi fj dR f8 fk fo dU ft fw dW bT bK dX cw dm fz bL iB fA iC iD iE iF f9 iG gO gP iH jn iI i6 d9 gc gQ iJ jo:FuncData)
 (fF fG gd jI dY gw fH:Tok)
structure Txt (w:World) (K:W.Frag) (mg:Str->Option Value) (t:Adr):Prop where
 i8:mg "Tent"=some (.ref t.aa)
 ai:Cls K t.aa
 bv:Xj K t.aa "cloths"
 aE:Xj K t.aa "names_at"
 aL:Xj K t.aa "spots"
 dZ:Xj K t.aa "mates"
 bM:mg "Scene"=some (.ref t.ag)
 af:Cls K t.ag
 al:Xj K t.ag "tent"
 aj:Xj K t.ag "threads"
 ak:Xj K t.ag "pools"
 aq:Xj K t.ag "worths"
 jz:mg "Hall"=some (.ref t.ae)
 ac:Cls K t.ae
 bU:Xj K t.ae "began"
 ah:Xj K t.ae "scene"
 av:Xj K t.ae "standing"
 aF:Xj K t.ae "undone"
 gZ:FT K mg "after" Zh7 ["place"] t.iW t.iZ
 gf:FT K mg "before" Zfw ["place"] t.hV t.iw
 aB:FT K mg "cloth_of" Za3 ["place"] t.fL t.fW
 gh:FT K mg "spots_of" Zaw ["names_at"] t.fM t.fX
 gj:FT K mg "mates_of" Zay ["spots","count"] t.fN t.fY
 cM:FM K t.aa "__init__" "Tent.__init__" Fh ["self","rows"] t.cC t.eW
 aG:FM K t.aa "rows" "Tent.rows" Ff ["self"] t.eA t.eX
 aM:FM K t.aa "seams" "Tent.seams" Kw ["self"] t.dB t.dM
 az:FM K t.aa "has_place" "Tent.has_place" Vs ["self","place"] t.bB t.bI
 ax:FM K t.aa "look_place" "Tent.look_place" Q9 ["self","place"] t.bq t.bt
 au:FM K t.aa "seam_at" "Tent.seam_at" U8 ["self","place"] t.cD t.cI
 ay:FM K t.aa "places" "Tent.places" Ka ["self","seam"] t.cW t.dg
 aH:FM K t.aa "mate" "Tent.mate" Fg ["self","place"] t.eB t.eY
 ao:FM K t.aa "sort_of" "Tent.sort_of" U7 ["self","seam"] t.cE t.cJ
 gk:FT K mg "look_way" Zaz ["way"] t.fO t.fZ
 cN:FT K mg "look_free" Fb ["tent","seam"] t.eC t.eZ
 d0:FT K mg "square" Zfk ["tent","seam"] t.hX t.ix
 gm:FT K mg "shifts" Zfl ["tent","seam","way"] t.ic t.iy
 fB:FT K mg "exchanged" Fd ["tent","seam","way"] t.eE t.fc
 fC:FT K mg "crossable" Fe ["tent","place"] t.eF t.fg
 gR:FT K mg "follows" Zc3 ["tent","ahead","place"] t.gA t.gJ
 i9:FT K mg "plain" Zh5 ["tent","word"] t.iX t.i5
 bw:FT K mg "look_thread" O4 ["tent","word"] t.cX t.dh
 gn:FT K mg "turned" Zfj ["word","by"] t.ie t.iz
 jN:FT K mg "tally" Zpq ["tent","word"] t.jx t.jy
 cO:FT K mg "look_numbers" U6 ["tent","counts"] t.cF t.cK
 dn:FT K mg "look_counts" O6 ["tent","counts"] t.cY t.di
 cx:FT K mg "number_behind" Ul ["tent","counts","seam"] t.b9 t.cm
 cy:FT K mg "counts_behind" Uq ["tent","counts","seam"] t.ce t.cp
 bj:FT K mg "crossing_between" Qy ["own","entry","leaving"] t.bc t.bg
 iK:FT K mg "pulled" Zfm ["tent","seam","way","word"] t.ig t.iA
 bO:FT K mg "common_measure" Vr ["one","other"] t.bC t.bJ
 cz:FT K mg "look_fraction" Up ["top","bottom"] t.cf t.cq
 bV:FT K mg "fraction" Za2 ["top","bottom"] t.fP t.f6
 bW:FT K mg "sewn_seams" Ku ["tent"] t.dC t.dO
 dq:FT K mg "even_worths" O7 ["tent"] t.cZ t.dj
 cA:FT K mg "lowest_worths" Um ["tent","worths"] t.cg t.cr
 gS:FT K mg "product" Zcw ["one","other"] t.gB t.gK
 fD:FT K mg "stretched" Fa ["tent","worths","seam"] t.eG t.fh
 gT:FT K mg "made_of" Zcx ["text","signs"] t.gC t.gL
 gU:FT K mg "is_name" Zc2 ["text"] t.gD t.gM
 ee:FT K mg "figures" Zc4 ["number"] t.gE t.gN
 bn:FT K mg "row_text" Zax ["words"] t.fQ t.f7
 du:FT K mg "counts_text" O8 ["counts"] t.dc t.dk
 aC:FM K t.ag "__init__" "Scene.__init__" Kx ["self","tent","threads","pools","worths"] t.bR t.dP
 bu:FT K mg "with_item" G9 ["table","name","value"] t.eI t.fi
 bo:FT K mg "without_item" U4 ["table","name"] t.cG t.cL
 aY:FT K mg "look_new_name" Uo ["scene","name"] t.ci t.cv
 bz:FT K mg "look_length" O5 ["word"] t.de t.dl
 bX:FT K mg "look_parts" Kv ["parts"] t.dD t.dQ
 cP:FT K mg "turned_scene" U5 ["scene","seam","way"] t.bf t.bi
 fE:FM K t.ae "__init__" "Hall.__init__" Fm ["self","rows"] t.cH t.fj
 ap:FM K t.ae "enter" "Hall.enter" K0 ["self","text","scene"] t.dE t.dR
 bp:FM K t.ae "lay" "Hall.lay" Za4 ["self","name","word"] t.fR t.f8
 aU:FM K t.ae "pour" "Hall.pour" Fj ["self","name","counts"] t.eJ t.fk
 aV:FM K t.ae "lift" "Hall.lift" Fl ["self","name"] t.eK t.fo
 aO:FM K t.ae "weigh" "Hall.weigh" Ky ["self","seam","top","bottom"] t.dF t.dU
 cQ:FM K t.ae "turn" "Hall.turn" Fi ["self","seam","way"] t.eO t.ft
 aI:FM K t.ae "back" "Hall.back" Fn ["self"] t.eP t.fw
 bY:FM K t.ae "again" "Hall.again" K2 ["self"] t.dG t.dW
 aP:FM K t.ae "deeds" "Hall.deeds" K1 ["self"] t.bS t.bT
 aA:FM K t.ae "tent_rows" "Hall.tent_rows" Vt ["self"] t.bD t.bK
 bZ:FM K t.ae "names" "Hall.names" Kz ["self"] t.dH t.dX
 aZ:FM K t.ae "families" "Hall.families" Ur ["self"] t.ck t.cw
 bA:FM K t.ae "thread" "Hall.thread" Kb ["self","name"] t.df t.dm
 cR:FM K t.ae "pool" "Hall.pool" Fk ["self","name"] t.eQ t.fz
 aS:FM K t.ae "fractions" "Hall.fractions" Vu ["self"] t.bE t.bL
 aW:FT K mg "_law_cell" Zfv ["_law_script","_law_at"] t.ii t.iB
 cS:FT K mg "_law_numbers" Fc ["_law_cell_here","_law_many"] t.eV t.fA
 iL:FT K mg "_law_sewn" Zfr ["_law_nums","_law_many","_law_share"] t.ij t.iC
 iM:FT K mg "_law_rows" Zft ["_law_mates","_law_start","_law_step"] t.ik t.iD
 iN:FT K mg "_law_tent" Zfq ["_law_script"] t.il t.iE
 iO:FT K mg "_law_walk" Zfn ["_law_mates","_law_nums"] t.im t.iF
 gq:FT K mg "_law_thread" Za0 ["_law_script","_law_at","_law_mates"] t.fS t.f9
 d6:FT K mg "_law_free" Zfu ["_law_mates"] t.ip t.iG
 gV:FT K mg "_law_named" Zc0 ["_law_rows_here","_law_counts"] t.gF t.gO
 gW:FT K mg "_law_tally" Zcy ["_law_mates","_law_word"] t.gG t.gP
 gr:FT K mg "_law_seam" Zfs ["_law_rows_here","_law_place"] t.iq t.iH
 jp:FT K mg "_law_do" Zk3 ["_law_hall","_law_deed"] t.jm t.jn
 d7:FT K mg "_law_told" Zfp ["_law_hall","_law_deed"] t.ir t.iI
 ja:FT K mg "_law_way" Zh6 ["_law_left"] t.iY t.i6
 gX:FT K mg "_law_shift" Zcz ["_law_mates","_law_rows_here","_law_goals_here"] t.d8 t.d9
 gs:FT K mg "_law_around" Za1 ["_law_mates","_law_place"] t.fU t.gc
 gY:FT K mg "_law_goals" Zc1 ["_law_mates","_law_place","_law_left"] t.gH t.gQ
 cT:FT K mg "_law_view" Zfo ["_law_hall"] t.iu t.iJ
 jD:FT K mg "law" Zor ["_law_script"] t.jC t.jo
 jb:Mk K t.aa t.cC
 bP:Mk K t.ag t.bR
 jA:Mk K t.ae t.cH
 fI:mg "GREATEST_NAME"=some (.int 9999 t.fF)
 fJ:mg "SMALL_LETTERS"=some (.str (Str.ofString "abcdefghijklmnopqrstuvwxyz") t.fG)
 gu:mg "LONGEST_NAME"=some (.int 8 t.gd)
 jq:mg "PART"=some (.int 1000000000000000000000000000000000000000000000000000000000000 t.jI)
 jc:mg "WRITTEN_AT_ONCE"=some (.int 60 t.dY)
 gy:mg "MOST_PLACES"=some (.int 400 t.gw)
 fK:mg "GREATEST_PART"=some (.int 1000000000000000000000000000000000000000000000000000000000000 t.fH)
 eg:mg "CONTRARY_WAYS"=some (.ref t.aJ)
 eu:Zby w K t.aJ [(Sum.inr "left",.str "right"),(Sum.inr "right",.str "left")]
 bl:∀ (s:Shared) (u:Value),BindsTo s t.jo ⟨[u],[]⟩ [("_law_script",u)]
 jr:mg "all"=none
 jE:mg "any"=none
 dz:mg "dict"=none
 iP:mg "enumerate"=none
 g9:mg "isinstance"=none
 am:mg "len"=none
 b6:mg "list"=none
 jd:mg "max"=none
 jL:mg "min"=none
 aD:mg "range"=none
 gv:mg "reversed"=none
 bQ:mg "sorted"=none
 jF:mg "str"=none
 jG:mg "sum"=none
 je:mg "tuple"=none
 js:mg "zip"=none
 iS:mg "NoPlace"=some (.ref t.bF)
 jf:ExcK K t.bF bmV "ValueError.__new__"
 jg:mg "NoSeam"=some (.ref t.aT)
 jt:ExcK K t.aT bmV "ValueError.__new__"
 jJ:mg "Rim"=some (.ref t.gI)
 jM:ExcK K t.gI bmV "ValueError.__new__"
 jh:mg "Locked"=some (.ref t.bG)
 ju:ExcK K t.bG bmV "ValueError.__new__"
 jv:mg "NoWay"=some (.ref t.dJ)
 jB:ExcK K t.dJ bmV "ValueError.__new__"
 iQ:mg "NoThread"=some (.ref t.dw)
 iT:ExcK K t.dw bmV "ValueError.__new__"
 gz:mg "NoFraction"=some (.ref t.ba)
 hG:ExcK K t.ba bmV "ValueError.__new__"
 jH:mg "NoWorths"=some (.ref t.fV)
 jK:ExcK K t.fV bmV "ValueError.__new__"
 iU:mg "TooMany"=some (.ref t.aQ)
 ji:ExcK K t.aQ bmV "ValueError.__new__"
 iR:mg "TooGreat"=some (.ref t.aK)
 iV:ExcK K t.aK bmV "ValueError.__new__"
 jk:mg "NoDeed"=some (.ref t.bH)
 jw:ExcK K t.bH bmV "ValueError.__new__"
 hJ:mg "TentError"=some (.ref t.br)
 cU:PySem.W.exmOne K (.ref t.aQ) (.ref t.br)=some true
 cB:PySem.W.exmOne K (.ref t.aK) (.ref t.br)=some true
 cV:PySem.W.exmOne K (.ref t.bH) (.ref t.br)=some true
def Same.add (s:Same H H1) (hp:H p=none):Same H (upd H1 p o):=λb u e=>by rw [Zd (Zi e hp)]; exact s b u e
def Same.new {H:Hp} {p:Addr} {o:HO} (hp:H p=none):Same H (upd H p o):=Same.add (Same.refl H) hp
def Yc (ue:St->Hp->Prop) (ht:∀ nx:St->Hp->Prop,(∀ σ H,ue σ H->nx σ H)->t { D with nx:=nx } σ H) (hu:∀ σ H,ue σ H->u D σ H):tSeq t u D σ H:=ht (u D) hu
def Zx (ht:∀ nx:St->Hp->Prop,(∀ σ H,u D σ H->nx σ H)->t { D with nx:=nx } σ H):tSeq t u D σ H:=ht (u D) λ_ _ h=>h
def Zgp (xs:List Int) (y:Int):xs.map V.int ++ [V.int y]=(xs ++ [y]).map V.int:=by simp
def getI {ns:List Int} (h:n < ns.length):(H:)[n]?=some (V.int (ns.getD n 0)):=by
 rw [Ah,Ac h,Ad,Ac h];rfl
noncomputable def cell (ns:List Int) (n:Int):Int:=if n < ns.length then ns.getD n.toNat 0 else if ns.length=0 then 31 * n + 7 else ns.getD (n % ns.length).toNat 0 % 1000003 + 101 * n
def Zpm (K:W.Frag):Sp:=λvs H Q _=>∃ (a:Addr) (ns:List Int) (n:Int),vs=[.ref a,.int n]/\SqL K H a (H:)/\ns.length<=63/\0<=n/\n < 1000000/\Q (.int (cell ns n)) H
def Zja:Sp:=λvs H Q _=>∃ (c:Int) (n:Nat),vs=[.int c,.int n]/\n<=60/\∀ (p:Addr) (xs:List Int) (H':Hp),Same H H'->H p=none->H' p=some (.lst (xs.map V.int))->xs.length=n->(∀ x∈xs,0<=x/\x < 1009)->Q (.ref p) H'
section
variable {P:Program} {w:World} {K:W.Frag} {mg:Str->Option Value} {base:Heap} {t:Adr}
def Zk1:FnScope ["_law_script","_law_at"] ["_law_script","_law_at"] (Zg Zfv):=Am
def W9 (T:Txt w K mg t):(a:) 1 t.ii t.iB ["_law_script","_law_at"] (Zpm K):=by
 refine T.aW.F.aR Zk1 (b:)
 ·obtain ⟨a,ns,n,rfl,hS,hl,h0,h1,k⟩:=h
  refine ⟨_,(Ze (Z9 (Zq Qs (pv 1) (k:) (Zr _)) (Zh (Zl (Zv Z0 (pv 0) (pv 1) (j:)))) Zz)
   (Ze (Z9 (Zq Yw (k:) Zf (Zr _)) (Zh (Zl (Zj Yl (Zj We Zf (pv 1)) Zf))) Zz)
   (Zh (Zl (Zj Yl (Zj Z6 (Zv Z0 (pv 0) (Zj Z6 (pv 1) (k:)) (j:)) Zf) (Zj We Zf (pv 1))))))),?_⟩;have el:((H:).length:Int)=ns.length:=by simp
  refine ⟨_,Y,_,Y,a,_,Y,.inl hS,_,_,Y,Y,_,Y,?_⟩;rw [el];refine ite2 (λh=>?_) (λh=>?_)
  ·have h:n < ns.length:=by simpa using h
   have e:cell ns n=ns.getD n.toNat 0:=if_pos h;have en:n=(n.toNat:Int):=by lia
   have ei:atI (H:) n=some (V.int (ns.getD n.toNat 0)):=by rw [en]; exact Xq (getI (n:=n.toNat) (by lia))
   rw [e] at k;exact ⟨_,Y,_,Y,a,_,_,_,Y,Y,hS,ei,k⟩
  ·have h:¬ n < ns.length:=by simpa using h
   have e:cell ns n=if ns.length=0 then 31 * n + 7 else ns.getD (n % ns.length).toNat 0 % 1000003 + 101 * n:=if_neg h
   refine ⟨_,Y,a,_,Y,.inl hS,Y,_,Y,?_⟩;rw [el];refine ite2 (λg=>?_) (λg=>?_)
   ·have g:ns.length=0:=by simpa using g
    refine ⟨_,Y,_,_,Y,Y,.inl ⟨by decide,by decide⟩,_,_,Y,Y,?_⟩;rw [if_pos g] at e;rw [e] at k; exact k
   ·have g:¬ ns.length=0:=by simpa using g
    have gp:(0:Int) < ns.length:=by lia
    rw [if_neg g] at e;have m0:=Int.emod_nonneg n (show (ns.length:Int)≠0 by lia);have m1:=Int.emod_lt_of_pos n gp;refine ⟨_,Y,_,Y,_,Y,a,_,Y,.inl hS,_,_,Y,Y,(by rw [el]; exact gp),a,_,_,_,Y,Y,hS,(?_:atI _ _=some (V.int (ns.getD (n % ns.length).toNat 0))),_,_,Y,Y,(by show (0:Int) < 1000003; decide),_,rfl,_,_,rfl,rfl,.inl ⟨by decide,by decide⟩,_,_,rfl,rfl,?_⟩
    ·rw [el]
     have en:n % (ns.length:Int)=((n % (ns.length:Int)).toNat:Int):=by lia
     rw [en];exact Xq (getI (by lia))
    ·rw [e] at k; exact k
def Wk:FnScope ["_law_cell_here","_law_many","_law_row","_law_rest","_law_seed"] ["_law_cell_here","_law_many"] (Zg Fc):=Am
def Gd (T:Txt w K mg t):(a:) 1 t.eV t.fA ["_law_cell_here","_law_many"] Zja:=by
 refine T.cS.F.aR Wk (b:)
 ·obtain ⟨c,n,rfl,hn60,k⟩:=h
  refine ⟨_,(Ze (Zs (i:=2) Wk.nd Y (Or.inl Y) (Yr Zc))
   (Ze (Zs (i:=3) Wk.nd rfl (g:) (Zj V4 (pv 0) (Zj Zlo Zf Zf)))
   (Ze (Vx PassesOwn.never (PW.pt (K5 (Zq Ut (pv 3) Zf (Zr _)) (Oa (Zq Qs (Zn Zm (by rfl) T.am PySem.boot_len (U:)) (pv 1) (Zr _))))) (Ze (Z8 (X5 PySem.F.plainAttrs_list PySem.F.slot_list_append PySem.F.type_list_append Y6 (pv 2) (Za (Zj Z6 (pv 3) Zf) Zc)))
   (Zh (Zs (i:=3) Wk.nd rfl (g:) (Zj Y7 (pv 3) Zf)))))
   (Ze (Zs (i:=4) Wk.nd rfl (g:) (Zj Z6 (pv 0) Zf))
   (Ze (Vx PassesOwn.never (Zq Qs (Zn Zm (by rfl) T.am PySem.boot_len (U:)) (pv 1) (Zr _)) (Ze (Zs (i:=4) Wk.nd rfl (g:) (Zj Z6 (Zj Yl (Zj Yl (Zj We (pv 4) Zf) Zf) (Zn Zm (by rfl) T.am PySem.boot_len (U:))) Zf))
   (Zh (Z8 (X5 PySem.F.plainAttrs_list PySem.F.slot_list_append PySem.F.type_list_append Y6 (pv 2) (Za (Zj Z6 (Zj Y7 (Zj Z6 (Zj We (pv 4) Zf) Zf) Zf) Zf) Zc))))))
   (Zh (Zl (pv 2)))))))),?_⟩;refine ⟨Az _,λr ox=>?_⟩;refine ⟨_,Y,_,_,Y,Y,⟨by decide,by decide,by decide⟩,_,_,Y,Y,?_⟩;show tSeq (Zak _ _) _ _ _ _;refine Yc (λσ H1=>∃ (xs:List Int) (j7:Int),σ=[some (.int c),some (.int n),some (.ref r),some (.int j7),none]/\Same H H1/\H1 r=some (.lst (xs.map V.int))/\xs.length<=n/\(∀ x∈xs,0<=x/\x < 1009)) (ab:) ?_
  ·refine ⟨λm σ H1=>∃ (xs:List Int) (j7:Int),m=n - xs.length/\σ=[some (.int c),some (.int n),some (.ref r),some (.int j7),none]/\Same H H1/\H1 r=some (.lst (xs.map V.int))/\xs.length<=n/\(∀ x∈xs,0<=x/\x < 1009),
    ⟨n,[],_,rfl,rfl,Same.new ox,Zb,Az _,λx hx=>absurd hx (by simp)⟩,?_⟩
   rintro m σ H1 ⟨xs,j7,rfl,rfl,sm,h1,hl,hx⟩;have el:((xs.map V.int).length:Int)=xs.length:=by simp
   refine ⟨_,Y,_,_,Y,Y,_,Y,?_⟩;refine ite2 (λ_=>?_) (λ_=>?_)
   ·refine ⟨_,Y,r,_,Y,.inl (SqL.of h1),_,Y,_,_,Y,Y,_,Y,?_⟩
    rw [el];refine ite2 (λg=>?_) (λ_=>?_)
    ·have g:(xs.length:Int) < n:=by simpa using g
     refine ⟨_,λσ' H' h=>h,?_⟩;refine ⟨_,Y,.inl ⟨Y,_,SqL.of h1⟩,_,Y,_,_,Y,Y,(by show (0:Int) < 1009; decide),r,_,_,rfl,rfl,h1,(by rw [Ab]; exact Zt (by lia)),?_⟩;refine ⟨_,Y,_,_,Y,Y,⟨by decide,by decide⟩,?_⟩;refine ⟨n - (xs ++ [j7 % 1009]).length,?_,xs ++ [j7 % 1009],_,Y,Y,Same.add sm ox,?_,?_,?_⟩
     ·rw [Ae,At]; lia
     ·rw [Zb,<- Zgp]
     ·rw [Ae,At]; lia
     ·intro x hm
      rcases mem_append.mp hm with z | z
      ·exact hx x z
      ·have:x=j7 % 1009:=by simpa using z
       subst this;lia
    ·exact kh _ _ ⟨xs,j7,Y,sm,h1,hl,hx⟩
   ·exact kh _ _ ⟨xs,j7,Y,sm,h1,hl,hx⟩
  rintro σ H1 ⟨xs,j7,rfl,sm,h1,hl,hx⟩;refine ⟨_,Y,_,_,Y,Y,(by show (0:Int) < 2147483629; decide),?_⟩;show tSeq (Zak _ _) _ _ _ _;refine Yc (λσ H1=>∃ (xs:List Int) (j7 qa:Int),σ=[some (.int c),some (.int n),some (.ref r),some (.int j7),some (.int qa)]/\Same H H1/\H1 r=some (.lst (xs.map V.int))/\xs.length=n/\(∀ x∈xs,0<=x/\x < 1009)) (ab:) ?_
  ·refine ⟨λm σ H1=>∃ (xs:List Int) (j7 qa:Int),m=n - xs.length/\σ=[some (.int c),some (.int n),some (.ref r),some (.int j7),some (.int qa)]/\Same H H1/\H1 r=some (.lst (xs.map V.int))/\xs.length<=n/\(∀ x∈xs,0<=x/\x < 1009),
    ⟨n - xs.length,xs,j7,_,rfl,rfl,sm,h1,hl,hx⟩,?_⟩
   clear h1 hl hx sm xs j7;rintro m σ H1 ⟨xs,j7,qa,rfl,rfl,sm,h1,hl,hx⟩;have el:((xs.map V.int).length:Int)=xs.length:=by simp
   refine ⟨_,Y,r,_,Y,.inl (SqL.of h1),_,Y,_,_,Y,Y,_,Y,?_⟩;rw [el];refine ite2 (λg=>?_) (λg=>?_)
   ·have g:(xs.length:Int) < n:=by simpa using g
    refine ⟨_,λσ' H' h=>h,?_⟩;refine ⟨_,Y,_,_,Y,Y,.inr ⟨by decide,by decide⟩,_,_,Y,Y,_,Y,r,_,Y,.inl (SqL.of h1),_,_,Y,Y,_,_,Y,Y,(by show (0:Int) < 2147483647; decide),?_⟩;obtain ⟨y,hy⟩:∃ y,y=(qa * 48271 + 12345 + ((xs.map V.int).length:Int)) % 2147483647 * 69621 % 2147483629 / 7 % 1009:=⟨_,rfl⟩;refine ⟨_,Y,.inl ⟨Y,_,SqL.of h1⟩,_,Y,_,_,Y,Y,.inr ⟨by decide,by decide⟩,_,_,Y,Y,(by show (0:Int) < 2147483629; decide),_,_,rfl,rfl,⟨by decide,by decide⟩,_,_,rfl,rfl,(by show (0:Int) < 1009; decide),r,_,_,rfl,rfl,h1,(by rw [Ab]; exact Zt (by lia)),?_⟩;refine ⟨n - (xs ++ [y]).length,?_,xs ++ [y],_,_,Y,Y,Same.add sm ox,?_,?_,?_⟩
    ·rw [Ae,At]; lia
    ·rw [Zb,<- Zgp,hy]
    ·rw [Ae,At]; lia
    ·intro x hm
     rcases mem_append.mp hm with z | z
     ·exact hx x z
     ·have:x=y:=by simpa using z
      rw [this,hy];exact ⟨Int.emod_nonneg _ (d:),Int.emod_lt_of_pos _ (d:)⟩
   ·have g:¬ (xs.length:Int) < n:=by simpa using g
    exact kh _ _ ⟨xs,j7,qa,Y,sm,h1,by lia,hx⟩
  rintro σ H1 ⟨xs,j7,qa,rfl,sm,h1,hl,hx⟩;exact ⟨_,Y,k r xs H1 sm ox h1 hl hx⟩
def Zpi (K:W.Frag):Sp:=λvs H Q _=>∃ (a:Addr) (xs:List Int) (n:Nat) (sh:Int),vs=[.ref a,.int n,.int sh]/\H a=some (.lst (xs.map V.int))/\xs.length=60/\(∀ x∈xs,0<=x/\x < 1009)/\1<=n/\n<=14 /\
 ∀ (p:Addr) (M:Lq) (H':Hp),Same H H'->H p=none->H' p=some (aw:)->M.length=3 * n->(V:)->Q (.ref p) H'
def map_set {α:Type} (f:α->V) (l:List α) (i:Nat) (x:α):(l.map f).set i (f x)=(l.set i x).map f:=by rw [List.map_set]
def Wm (h:i < n):ixN n (i:Int)=some i:=by
 unfold ixN;simp;lia
theorem Zmj {α β:Type} (f:α->β):∀ (l:List α) (i:Nat),(l.map f).eraseIdx i=(l.eraseIdx i).map f
 | [],_=>rfl
 | _ :: _,0=>rfl
 | a :: r,i + 1=>by rw [map_cons,eraseIdx_cons_succ,Zmj f r i,eraseIdx_cons_succ,map_cons]
def natV (F:List Nat) (i:Nat):(F.map λ(j:Nat)=>V.int j)[i]?=(F[i]?).map λ(j:Nat)=>V.int j:=Ah ..
def Wq:FnScope ["_law_nums","_law_many","_law_share","_law_mates","_law_free_here","_law_at","_law_one","_law_pick","_law_other"] ["_law_nums","_law_many","_law_share"] (Zg Zfr):=Am
def Zlw (T:Txt w K mg t):(a:) 1 t.ij t.iC ["_law_nums","_law_many","_law_share"] (Zpi K):=by
 refine T.iL.F.aR Wq (b:)
 ·obtain ⟨a,xs,n,sh,rfl,ha,hl,hx,h1,h2,k⟩:=h
  refine ⟨_,(Ze (Zs (i:=3) Wq.nd Y (Or.inl Y) (Zj Od (Yr (Za Wl Zc)) (Zj We Zf (pv 1))))
   (Ze (Zs (i:=4) Wq.nd rfl (g:) (K7 rfl T.b6 rfl T.aD rfl (Za (Zj We Zf (pv 1)) Zc)))
   (Ze (Zs (i:=5) Wq.nd rfl (g:) Zf)
   (Ze (Vx PassesOwn.never (Zq Ut (Zn Zm (by rfl) T.am PySem.boot_len (Za (pv 4) Zc)) Zf (Zr _)) (Ze (Zs (i:=6) Wq.nd rfl (g:) (X5 PySem.F.plainAttrs_list PySem.F.slot_list_pop PySem.F.type_list_pop Zgm (pv 4) (Za Zf Zc)))
   (Ze (Zs (i:=7) Wq.nd rfl (g:) (Zv Z0 (pv 0) (pv 5) (j:)))
   (Ze (Zs (i:=5) Wq.nd rfl (g:) (Zj Yl (pv 5) Zf))
   (Zh (Z9 (Zq Zot (Zj Z6 (pv 7) Zf) (pv 2) (Zr _)) (Ze (Zs (i:=8) Wq.nd rfl (g:) (X5 PySem.F.plainAttrs_list PySem.F.slot_list_pop PySem.F.type_list_pop Zgm (pv 4) (Za (Zj Z6 (Zj Y7 (pv 7) Zf) (Zn Zm (by rfl) T.am PySem.boot_len (Za (pv 4) Zc))) Zc)))
   (Ze (Xt (pv 8) (J5 (pv 3) (pv 6) Xy))
   (Zh (Xt (pv 6) (J5 (pv 3) (pv 8) Xy))))) Zz))))))
   (Zh (Zl (pv 3))))))),?_⟩;refine ⟨(by show 1<=sizeLine; decide),λq hq=>?_⟩;refine ⟨_,Y,_,_,Y,Y,.inl ⟨by decide,by decide⟩,q,_,_,Y,Y,Zb,(by lia),(by lia),?_,λm hm=>?_⟩
  ·have:(3 * (n:Int)).toNat=3 * n:=by lia
   show 1 * (3 * (n:Int)).toNat<=sizeLine;rw [this,sizeLine_eq]; lia
  have eN:(3 * (n:Int)).toNat=3 * n:=by lia
  have eM:(List.replicate (3 * (n:Int)).toNat [V.non]).flatten=(List.replicate (3 * n) (none:Option Nat)).map mV:=by
   rw [eN,flatten_replicate_singleton,map_replicate];rfl
  refine ⟨_,Y,_,_,Y,Y,.inl ⟨by decide,by decide⟩,3 * n,(congrArg (λz=>[V.int z]) (by lia:(3 * (n:Int))=((3 * n:Nat):Int))),by lia,λf hf=>?_⟩;have ux:f≠m:=λz=>by rw [z,Zb] at hf; cases hf
  have ql:H m=none:=by
   have:m≠q:=λz=>by rw [z,Zb] at hm; cases hm
   rw [Zd this] at hm; exact hm
  have qo:H f=none:=by
   rw [Zd ux] at hf;have:f≠q:=λz=>by rw [z,Zb] at hf; cases hf
   rw [Zd this] at hf; exact hf
  have sm0:Same H (upd (upd (upd H q (.lst [.non])) m (.lst (List.replicate (3 * (n:Int)).toNat [V.non]).flatten)) f (.lst ((List.range (3 * n)).map λ(i:Nat)=>V.int i))):=Same.add (Same.add (Same.new hq) ql) qo;show tSeq (Zak _ _) _ _ _ _;refine Yc (λσ H1=>∃ (M:Lq) (v4 v5 v6 v7 v8:Option V),σ=[some (.ref a),some (.int n),some (.int sh),some (.ref m),v4,v5,v6,v7,v8]/\Same H H1/\H1 m=some (aw:)/\M.length=3 * n/\∀ (i j:Nat),M[i]?=some (some j)->M[j]?=some (some i)/\i≠j) (ab:) ?_
  ·refine ⟨λc σ H1=>∃ (F:List Nat) (M:Lq) (at':Nat) (v6 v7 v8:Option V),c=F.length/\σ=[some (.ref a),some (.int n),some (.int sh),some (.ref m),some (.ref f),some (.int at'),v6,v7,v8]/\Same H H1/\H1 m=some (aw:)/\H1 f=some (.lst (F.map λ(i:Nat)=>V.int i))/\SewOk (3 * n) F M/\at' + F.length<=3 * n,
    ⟨_,List.range (3 * n),List.replicate (3 * n) none,0,none,none,none,rfl,rfl,sm0,?_,Zb,SewOk.start _,by simp⟩,?_⟩
   ·rw [Zd ux.symm,Zb,eM]
   rintro c σ H1 ⟨F,M,at',v6,v7,v8,rfl,rfl,sm,g1,g2,hs,hat⟩;refine ⟨_,Y,f,_,Y,.inl (SqL.of g2),_,_,Y,Y,_,Y,?_⟩;rw [Ab];refine ite2 (λg=>?_) (λg=>?_)
   ·have g:1 < F.length:=by have:=of_decide_eq_true g; lia
    obtain ⟨one,F',rfl⟩:∃ one F',F=one :: F':=by
     cases F with
     | nil=>simp at g
     | cons a b=>exact ⟨a,b,Y⟩
    rw [length_cons] at g hat;refine ⟨_,λσ' H' h=>h,?_⟩;refine ⟨_,Y,.inl ⟨Y,_,SqL.of g2⟩,f,_,0,0,V.int one,Y,Y,g2,by decide,by decide,(by simp [seqIndex?]),Y,?_⟩;have e0:((one :: F').map λ(i:Nat)=>V.int i).eraseIdx 0=F'.map λ(i:Nat)=>V.int i:=rfl;rw [e0];have g2':(upd H1 f (.lst (F'.map λ(i:Nat)=>V.int i))) f=some (.lst (F'.map λ(i:Nat)=>V.int i)):=Zb;have g1':(upd H1 f (.lst (F'.map λ(i:Nat)=>V.int i))) m=some (aw:):=by rw [Zd ux.symm]; exact g1
    have sm':Same H (upd H1 f (.lst (F'.map λ(i:Nat)=>V.int i))):=Same.add sm qo;generalize upd H1 f (.lst (F'.map λ(i:Nat)=>V.int i))=H2 at g1' g2' sm' ⊢;have uh:at' < xs.length:=by lia
    refine ⟨_,Y,_,Y,a,_,_,_,Y,Y,SqL.of (sm' _ _ ha),Xq (getI uh),?_⟩;obtain ⟨p0,p1⟩:=hx _ (getElem_mem uh);have ep:xs.getD at' 0=xs[at']:=by rw [Ad,Ac uh]; rfl
    rw [ep];generalize xs[at']=k9 at p0 p1 ⊢;refine ⟨_,Y,_,_,Y,Y,?_⟩;refine ⟨_,Y,_,_,Y,Y,(by show (0:Int) < 7; decide),_,rfl,_,_,rfl,rfl,_,rfl,?_⟩;refine ite2 (λ_=>?_) (λ_=>?_)
    ·-- other=free.pop(..)
     have hF:(0:Int) < F'.length:=by lia
     have k0:=Int.emod_nonneg (k9 / 7) (show (F'.length:Int)≠0 by lia);have k1:=Int.emod_lt_of_pos (k9 / 7) hF;obtain ⟨kk,ye⟩:∃ kk:Nat,k9 / 7 % (F'.length:Int)=kk:=⟨_,(Int.toNat_of_nonneg k0).symm⟩;have lp:kk < F'.length:=by lia
     refine ⟨_,Y,.inl ⟨Y,_,SqL.of g2'⟩,_,Y,_,_,Y,Y,⟨by decide,by decide⟩,_,Y,f,_,Y,.inl (SqL.of g2'),_,_,Y,Y,(by rw [Ab]; exact hF),f,_,_,kk,V.int F'[kk],Y,Y,g2',?_,?_,?_,?_,?_⟩
     ·rw [Ab,ye]; lia
     ·rw [Ab,ye]; lia
     ·rw [Ab,ye]; simp [seqIndex?]; lia
     ·rw [natV,Ac lp]; rfl
     have e1:(F'.map λ(i:Nat)=>V.int i).eraseIdx kk=(F'.eraseIdx kk).map λ(i:Nat)=>V.int i:=by rw [Zmj]
     rw [e1];have hp:=hs.pair (Ac lp);have l1:one < M.length:=by rw [hs.len]; exact (hs.free one mem_cons_self).1
     have l2:F'[kk] < M.length:=by rw [hs.len]; exact (hs.free _ (mem_cons_of_mem _ (getElem_mem lp))).1
     have g1'':(upd H2 f (.lst ((F'.eraseIdx kk).map λ(i:Nat)=>V.int i))) m=some (aw:):=by rw [Zd ux.symm]; exact g1'
     refine ⟨_,Y,_,Y,_,Y,m,_,_,one,Y,Y,g1'',(by rw [Ab]; exact Wm l1),?_⟩;refine ⟨_,Y,_,Y,_,Y,m,_,_,F'[kk],Y,Y,Zb,(by rw [length_set,Ab]; exact Wm l2),?_⟩;refine ⟨(F'.eraseIdx kk).length,?_,F'.eraseIdx kk,(M.set one (some F'[kk])).set F'[kk] (some one),at' + 1,_,_,_,Y,Y,Same.add (Same.add (Same.add sm' qo) ql) ql,?_,?_,hp,?_⟩
     ·rw [length_eraseIdx_of_lt lp,length_cons]; lia
     ·rw [Zb]
      show some (HO.lst (((M.map mV).set one (mV (some F'[kk]))).set F'[kk] (mV (some one))))=_;rw [map_set,map_set]
     ·rw [Zd ux,Zd ux,Zb]
     ·rw [length_eraseIdx_of_lt lp]; lia
    ·exact ⟨F'.length,by rw [length_cons]; lia,F',M,at' + 1,_,_,_,rfl,rfl,sm',g1',g2',hs.skip,by lia⟩
   ·exact kh _ _ ⟨M,_,_,_,_,_,Y,sm,g1,hs.len,hs.inv⟩
  rintro σ H1 ⟨M,v4,v5,v6,v7,v8,rfl,sm,g1,zq,yf⟩;exact ⟨_,Y,k m M H1 sm ql g1 zq yf⟩
noncomputable def figS (i:Int):Str:=Txt.join (Str.ofString "") [(Str.ofString (toString i))]
def Zjf:Sp:=λvs H Q _=>∃ i:Int,vs=[.int i]/\0<=i/\i < 1000000000000000000000000000000000000000000000000000000000000/\∀ H',Same H H'->Q (.str (figS i)) H'
noncomputable def mdL (x y:Str):List Bool:=x.cps.toList.map λc=>Txt.contains y ⟨#[c]⟩
def Zjb:Sp:=λvs H Q _=>∃ x y:Str,vs=[.str x,.str y]/\x.cps.all (· < 128)=true/\x.cps.size<=900/\∀ H',Same H H'->Q (.bl ((mdL x y).all id)) H'
def Ztp:(10:Int) ^ 60=1000000000000000000000000000000000000000000000000000000000000:=by decide
def Zsh:(2:Nat) ^ 200=1606938044258990275541962092341162602522202993782792835301376:=by decide
def Zco {i:Int} (h0:0<=i) (h1:i < 1000000000000000000000000000000000000000000000000000000000000):(Str.ofString (toString i)).length<=60:=PyProof.Rows.toString_length_le h0 (d:) (by rw [Ztp]; exact h1)
def Zn0 {x:Str} {g:TG} {tt:TT} {tb:TB} {R:St->Hp->Prop} {σ:St} {H:Hp} (Pv:Nat->St->Hp->Prop) (h0:Pv 0 σ H)
  (hs:∀ (i:Nat) c σ H,x.cps[i]?=some c->Pv i σ H->g (.str ⟨#[c]⟩) σ H λσ2 H2=>tt σ2 H2 λb H3=>if b=true then tb σ2 H3 (Pv (i + 1)) else Pv (i + 1) σ2 H3) (hd:∀ σ H,Pv x.cps.size σ H->R σ H):Ji (Its x) g tt tb R σ H:=by
 refine ⟨λi m σ H=>m=x.cps.size - i/\i<=x.cps.size/\Pv i σ H,⟨x.cps.size,by simp,Az _,h0⟩,?_⟩;rintro i m σ H ⟨rfl,hi,p⟩;by_cases kl:i < x.cps.size
 ·refine .inr ⟨kl,Pv (i + 1),λσ' H' p'=>⟨x.cps.size - (i + 1),by lia,Y,kl,p'⟩,λy H' z=>?_⟩
  obtain ⟨e,c,hc,ec⟩:=z;subst e ec;exact hs i c σ _ hc p
 ·have e:i=x.cps.size:=by lia
  subst e;exact .inl ⟨An _,hd σ H p⟩
def Ov:FnScope ["number","parts"] ["number"] (Zg Zc4):=Am
def Zbc (T:Txt w K mg t):(a:) 1 t.gE t.gN ["number"] Zjf:=by
 refine T.ee.F.aR Ov (b:)
 ·obtain ⟨i,rfl,h0,h1,k⟩:=h
  have hu:=Xb hr;refine ⟨_,(Ze (Zs (i:=1) Ov.nd Y (Or.inl Y) (Yr Zc))
   (Ze (Vx PassesOwn.never (Zq Zot (pv 0) (Jw (v:=.int 1000000000000000000000000000000000000000000000000000000000000) rfl T.jq ⟨_,rfl⟩) (Zr _)) (Ze Znj
   (Zh (Zrq (i:=0) Ov.nd rfl (g:) (Jw (v:=.int 1000000000000000000000000000000000000000000000000000000000000) rfl T.jq ⟨_,rfl⟩) Zn7))))
   (Ze (Z8 (X5 PySem.F.plainAttrs_list PySem.F.slot_list_append PySem.F.type_list_append Y6 (pv 1) (Za (Ys Zg4 (by rfl) T.jF PySem.Pv.boot_str (Za (pv 0) Zc)) Zc)))
   (Zh (Zl (Zjm rfl T.gv (by rfl) Z5 (v:))))))),?_⟩
  refine Zx λk6 j6=>?_;refine ⟨Az _,λp hp=>?_⟩;refine j6 _ _ ?_;have s1:Same H (upd H p (.lst [])):=Same.new hp;have h2:(upd H p (.lst [])) p=some (.lst []):=Zb;generalize upd H p (.lst [])=H1 at s1 h2 ⊢
  try dsimp only [Zo]
  refine Yc (λσ H'=>σ=[some (.int i),some (.ref p)]/\H'=H1) (ab:) ?_
  ·refine ⟨λm σ H'=>σ=[some (.int i),some (.ref p)]/\H'=H1,⟨0,Y,Y⟩,?_⟩
   rintro m σ H' ⟨rfl,rfl⟩;refine ⟨_,Y,_,_,Y,Y,_,Y,?_⟩;rw [decide_eq_false (by lia)];exact iteF (kh _ _ ⟨Y,Y⟩)
  rintro σ H' ⟨rfl,rfl⟩;have yw:i.natAbs.log2 < 1920:=by
   rcases eq_zero_or_pos i.natAbs with z | z
   ·rw [z]; decide
   ·exact (Nat.log2_lt (by lia)).mpr (Ag (by rw [Zsh]; lia:i.natAbs < 2 ^ 200) (Nat.pow_le_pow_right (d:) (d:)))
  have j8:(Str.ofString (toString i)).length<=60:=Zco h0 h1;refine Zx λk6 j6=>?_;refine ⟨_,Y,.inl ⟨Y,_,SqL.of h2⟩,_,Y,i,Y,yw,p,_,_,Y,Y,h2,Zt (d:),?_⟩;refine j6 _ _ ?_;refine ⟨_,Y,_,Y,p,[(Str.ofString (toString i))],Y,SqL.of Zb,by decide,(by show ((Str.ofString (toString i)).length + 0) + 1<=1048576; lia),?_⟩;exact k _ (Same.add s1 hp)
def Zji:FnScope ["text","signs"] ["text","signs"] (Zg Zcx):=Am
def Zjp (T:Txt w K mg t):(a:) 1 t.gC t.gL ["text","signs"] Zjb:=by
 refine T.gT.F.aR Zji (b:)
 ·obtain ⟨x,y,rfl,hx,hz,k⟩:=h
  refine ⟨_,(Zh (Zl (Zn (Zah Y) (by rfl) T.jr PyProof.Rows.boot_all (Za (Yv (ts:=["sign"]) (fv:=[("signs",1)]) (c:) rfl (Zrt (pv 0)) (λ_ _ _ _=>(Zk (i:=0) (show List.Nodup (["sign","signs"]:List Str) from by decide +kernel) rfl (g:) (I:))) (ah:) (N:) (λ_ _ _ _ _ _=>Yj (Jf Zrw (pv 0) (pv 1) (am:)))) Zc)))),?_⟩;refine ⟨_,Y,x,Y,hx,λD hD=>?_⟩;refine Zn0 (λi σ H6=>∃ v,σ=[v,some (.str y)]/\Same H H6/\H6 D=some (.lst (((mdL x y).take i).map V.bl))) (ag:) ?_ ?_
  ·rintro i c σ H6 hc ⟨v,rfl,s6,h6⟩
   have hil:i < x.cps.size:=(Array.getElem?_eq_some_iff.mp hc).1;have hm:(mdL x y)[i]?=some (Txt.contains y ⟨#[c]⟩):=by
    unfold mdL
    rw [Ah,Array.getElem?_toList,hc]
    rfl
   dsimp only [Zo,tYes];rw [if_pos rfl];refine ⟨_,Y,_,Y,_,_,Y,Y,_,h6,by rw [Ab,Ai]; exact Zt (by lia),_,Y,Same.add s6 hD,?_⟩;rw [Zb,Aw,hm,Aj];rfl
  ·rintro σ H6 ⟨v,rfl,s6,h6⟩
   have hl:(mdL x y).length=x.cps.size:=by unfold mdL; rw [Ab,Array.length_toList]
   rw [<- hl,take_length] at h6;exact ⟨D,_,Y,SqL.of h6,k _ s6⟩
def J9 (Pv:Nat->St->Hp->Prop) (h0:Pv 0 σ H)
  (hs:∀ (i:Nat) σ H,i < n->Pv i σ H->g (.int (lo + i)) σ H λσ2 H2=>tt σ2 H2 λb H3=>if b=true then tb σ2 H3 (Pv (i + 1)) else Pv (i + 1) σ2 H3) (hd:∀ σ H,Pv n σ H->R σ H):Ji (Itr lo n) g tt tb R σ H:=by
 refine (ba:);rintro i m σ H ⟨rfl,hi,p⟩;by_cases kl:i < n
 ·refine .inr (az:)
  obtain ⟨e,y⟩:=y;subst e y;exact hs i σ _ kl p
 ·have e:i=n:=by lia
  subst e;exact .inl ⟨An _,hd σ H p⟩
def Ym {xs:List V} (Pv:Nat->St->Hp->Prop) (h0:Pv 0 σ H) (hl:∀ i σ H,i<=xs.length->Pv i σ H->SqL K H a xs)
  (hs:∀ (i:Nat) x σ H,xs[i]?=some x->Pv i σ H->g x σ H λσ2 H2=>tt σ2 H2 λb H3=>if b=true then tb σ2 H3 (Pv (i + 1)) else Pv (i + 1) σ2 H3) (hd:∀ σ H,Pv xs.length σ H->R σ H):Ji (Itl K a) g tt tb R σ H:=by
 refine (p:);rintro i m σ H ⟨rfl,hi,p⟩;have q:=hl i σ H hi p;by_cases kl:i < xs.length
 ·refine .inr (M:)
  obtain ⟨e,y⟩:=y;subst e;exact hs i x σ _ (y xs q) p
 ·have e:i=xs.length:=by lia
  subst e;exact .inl ⟨⟨xs,q,An _⟩,hd σ H p⟩
def Oz {xs:List V} (Pv:Nat->St->Hp->Prop) (h0:Pv 0 σ H) (hl:∀ i σ H,i<=xs.length->Pv i σ H->SqT K H a xs)
  (hs:∀ (i:Nat) x σ H,xs[i]?=some x->Pv i σ H->g x σ H λσ2 H2=>tt σ2 H2 λb H3=>if b=true then tb σ2 H3 (Pv (i + 1)) else Pv (i + 1) σ2 H3) (hd:∀ σ H,Pv xs.length σ H->R σ H):Ji (Itt K a) g tt tb R σ H:=by
 refine (p:);rintro i m σ H ⟨rfl,hi,p⟩;have q:=hl i σ H hi p;by_cases kl:i < xs.length
 ·refine .inr (M:)
  obtain ⟨e,y⟩:=y;subst e;exact hs i x σ _ (y xs q) p
 ·have e:i=xs.length:=by lia
  subst e;exact .inl ⟨⟨xs,q,An _⟩,hd σ H p⟩
noncomputable def row3 (ns:List Int) (k:Nat):List V:=[.int (ns.getD (3 * k) 0),.int (ns.getD (3 * k + 1) 0),.int (ns.getD (3 * k + 2) 0)]
def Yq (H:Hp) (r:Addr) (ns:List Int):Prop:=∃ ts:List Addr,H r=some (z:)/\ns.length=3 * ts.length/\∀ (k:Nat) (t:Addr),ts[k]?=some t->H t=some (.tup (row3 ns k))
def Yq.same (h:Yq H r ns) (s:Same H H'):Yq H' r ns:=by
 obtain ⟨ts,h1,h2,h3⟩:=h;exact ⟨ts,s _ _ h1,h2,λk t e=>s _ _ (h3 k t e)⟩
def Zpk:Sp:=λvs H Q _=>∃ (a:Addr) (M:Lq) (n:Nat) (st sp:Int),vs=[.ref a,.int st,.int sp]/\H a=some (aw:)/\M.length=3 * n/\1<=n/\n<=14/\(V:)/\sp∈Oq /\
 ∀ (p:Addr) (H':Hp),Same H H'->H p=none->Yq H' p (flat M st sp)->Q (.ref p) H'
def G6 {t:Int} (h:t∈Oq):-(2 ^ 64) < t/\t < 2 ^ 64:=by
 simp only [Oq,mem_cons,not_mem_nil,or_false] at h
 rcases h with rfl | rfl | rfl | rfl | rfl | rfl | rfl | rfl <;> decide
def Zrz {M:Lq} {i:Nat} (h:i < M.length):atI (M.map mV) (0 + (i:Int))=some (mV M[i]):=by
 rw [Int.zero_add];exact Xq (by rw [Ah,Ac h]; rfl)
def Uj:FnScope ["_law_mates","_law_start","_law_step","_law_flat","_law_at","_law_mate"] ["_law_mates","_law_start","_law_step"] (Zg Zft):=Am
def Zlx (T:Txt w K mg t):(a:) 1 t.ik t.iD ["_law_mates","_law_start","_law_step"] Zpk:=by
 refine T.iM.F.aR Uj (b:)
 ·obtain ⟨a,M,n,st,sp,rfl,ha,hM,h1,h2,hi,mm,k⟩:=h
  refine ⟨_,(Ze (Zs (i:=3) Uj.nd Y (Or.inr Y) (Yr Zc))
   (Ze (Xr PassesOwn.never rfl (Xw rfl T.aD (Za (k:) Zc)) (Zk (i:=4) Uj.nd rfl (g:)) (Ze (Zs (i:=5) Uj.nd rfl (g:) (Zv Z0 (pv 0) (pv 4) (j:)))
   (Zh (Z9 (PW.pt (K5 (Zq Ql (pv 5) Wl (Zr _)) (Oa (Zq Qs (pv 5) (pv 4) (Zr _))))) (Zh (Z8 (X5 PySem.F.plainAttrs_list PySem.F.slot_list_append PySem.F.type_list_append Y6 (pv 3) (Za (Zv Z0 (pv 3) (pv 5) (j:)) Zc)))) (Zh (Z8 (X5 PySem.F.plainAttrs_list PySem.F.slot_list_append PySem.F.type_list_append Y6 (pv 3) (Za (Zj Z6 (Zj Yl (pv 1) (Zj We (pv 2) (pv 4))) Zf) Zc))))))))
   (Zh (Zl (Yv (ts:=["_law_k"]) (fv:=[("_law_flat",3)]) (c:) rfl (Xw rfl T.aD (Za (Zj Y7 (k:) Zf) Zc)) (λ_ _ _ _=>(Zk (i:=0) (show List.Nodup (["_law_k","_law_flat"]:List Str) from by decide +kernel) rfl (g:) (I:))) (ah:) (N:) (λ_ _ _ _ _ _=>Yj (Xg (Za (Zv (X2 K) (pv 1) (Zj We Zf (pv 0)) (j:)) (Za (Zv (X2 K) (pv 1) (Zj Yl (Zj We Zf (pv 0)) Zf) (j:)) (Za (Zv (X2 K) (pv 1) (Zj Yl (Zj We Zf (pv 0)) Zf) (j:)) Zc)))))))))),?_⟩;refine ⟨Az _,λf hf=>?_⟩;have eL:(ao:).toNat=M.length:=by simp
  have wu:(upd H f (.lst [])) a=some (aw:):=by rw [Zd (Zi ha hf)]; exact ha
  dsimp only [Zo];show tSeq (tFor _ _ _) _ _ _ _;refine Yc (λσ H1=>∃ (v4 v5:Option V),σ=[some (.ref a),some (.int st),some (.int sp),some (.ref f),v4,v5]/\Same H H1/\H1 f=some (.lst ((flat M st sp).map V.int))) (ab:) ?_
  ·refine ⟨_,Y,a,_,Y,.inl (SqL.of wu),_,Y,by lia,by rw [Ab]; lia,?_⟩
   rw [eL];refine Jx (n:=M.length) (λi σ H1=>∃ (v4 v5:Option V),σ=[some (.ref a),some (.int st),some (.int sp),some (.ref f),v4,v5]/\Same H H1/\H1 f=some (.lst (((List.range i).map λi=>nm st sp (rep M i)).map V.int))) ⟨none,none,Y,Same.new hf,Zb⟩ ?_ ?_
   ·rintro i σ H1 kl ⟨v4,v5,rfl,sm,nj⟩
    refine ⟨_,Y,_,Y,a,_,_,_,Y,Y,SqL.of (sm _ _ ha),Zrz kl,?_⟩;have lc:∀ x:Int,x=nm st sp (rep M i)->(upd H1 f (.lst (((List.range i).map λi=>nm st sp (rep M i)).map V.int ++ [V.int x]))) f=some (.lst (((List.range (i + 1)).map λi=>nm st sp (rep M i)).map V.int)):=λx hx=>by
     rw [Zb,hx,range_succ]
     simp
    have j8:(((List.range i).map λi=>nm st sp (rep M i)).map V.int).length < sizeLine:=by
     rw [Ab,Ab,length_range]; exact Zt (by lia)
    refine ⟨_,Y,Y,_,Y,?_⟩
    cases e:M[i] with
    | none =>
     have er:rep M i=i:=by unfold rep; rw [Ac kl,e]
     refine iteF ?_;refine iteF ?_;refine ⟨_,Y,.inl ⟨Y,_,SqL.of nj⟩,_,Y,_,Y,_,Y,_,_,Y,Y,.inl (G6 mm),_,_,Y,Y,_,_,Y,Y,(by show (0:Int) < 10000; decide),f,_,_,rfl,rfl,nj,j8,?_⟩;exact ⟨_,_,Y,Same.add sm hf,lc _ (by rw [er]; unfold nm; rw [Int.zero_add])⟩
    | some j =>
     have hMi:M[i]?=some (some j):=by rw [Ac kl,e]
     refine iteT ?_;refine ⟨_,Y,_,Y,_,_,Y,Y,_,Y,?_⟩;refine ite2 (λg=>?_) (λg=>?_)
     ·have g:j < i:=by have:=of_decide_eq_true g; lia
      have er:rep M i=j:=by unfold rep; rw [hMi]; exact if_pos g
      have erj:rep M j=j:=by unfold rep; rw [(hi i j hMi).1]; exact if_neg (by lia)
      have ej:atI (((List.range i).map λi=>nm st sp (rep M i)).map V.int) (j:Int)=some (V.int (nm st sp (rep M i))):=by
       refine Xq ?_;rw [Ah,Ah,getElem?_range g,er];show some (V.int (nm st sp (rep M j)))=_;rw [erj]
      refine ⟨_,Y,.inl ⟨Y,_,SqL.of nj⟩,_,Y,_,Y,f,_,_,_,Y,Y,SqL.of nj,ej,f,_,_,Y,Y,nj,j8,?_⟩;exact ⟨_,_,Y,Same.add sm hf,lc _ Y⟩
     ·have g:¬ j < i:=by
       have:¬ ((j:Int) < 0 + (i:Int)):=λz=>g (decide_eq_true z);lia
      have er:rep M i=i:=by unfold rep; rw [hMi]; exact if_neg g
      refine ⟨_,Y,.inl ⟨Y,_,SqL.of nj⟩,_,Y,_,Y,_,Y,_,_,Y,Y,.inl (G6 mm),_,_,Y,Y,_,_,Y,Y,(by show (0:Int) < 10000; decide),f,_,_,rfl,rfl,nj,j8,?_⟩;exact ⟨_,_,Y,Same.add sm hf,lc _ (by rw [er]; unfold nm; rw [Int.zero_add])⟩
   ·rintro σ H1 ⟨v4,v5,rfl,sm,nj⟩
    exact kh _ _ ⟨v4,v5,Y,sm,nj⟩
  rintro σ H1 ⟨v4,v5,rfl,sm,nj⟩;refine ⟨_,Y,a,_,Y,.inl (SqL.of (sm _ _ ha)),_,_,Y,Y,⟨by decide,by decide⟩,_,Y,by rw [Ab]; lia,by rw [Ab]; lia,λD hD=>?_⟩;have eD:((ao:) / 3).toNat=n:=by rw [Ab,hM]; lia
  have z9:H D=none:=sm.free hD;have hfD:f≠D:=λz=>by rw [z] at nj; rw [hD] at nj; cases nj
  have hlf:(flat M st sp).length=3 * n:=by unfold flat; simp [hM]
  show Ji (Itr 0 ((ao:) / 3).toNat) _ _ _ _ _ _;rw [eD];refine J9 (λi σ H2=>∃ (ts:List Addr) (v:Option V),σ=[v,some (.ref f)]/\Same H H2/\H2 D=some (z:)/\ts.length=i/\H2 f=some (.lst ((flat M st sp).map V.int))/\∀ (k:Nat) (t:Addr),ts[k]?=some t->H2 t=some (.tup (row3 (flat M st sp) k)))
   ⟨[],none,rfl,Same.add sm z9,Zb,rfl,by rw [Zd hfD]; exact nj,λk t z=>by simp at z⟩ ?_ ?_
  ·rintro i σ H2 kl ⟨ts,v,rfl,qi,g1,lm,g2,g3⟩
   have at':∀ (c:Nat) (z:Int),c < 3->z=3 * (0 + (i:Int)) + c->atI ((flat M st sp).map V.int) z=some (V.int ((flat M st sp).getD (3 * i + c) 0)):=λc z hc hz=>by
    have e:z=((3 * i + c:Nat):Int):=by lia
    rw [e];exact Xq (getI (by lia))
   dsimp only [Zo,tYes];rw [if_pos rfl];refine ⟨_,Y,_,Y,_,_,Y,Y,.inl ⟨by decide,by decide⟩,f,_,_,_,Y,Y,SqL.of g2,at' 0 _ (d:) (by simp),?_⟩;refine ⟨_,Y,_,Y,_,_,Y,Y,.inl ⟨by decide,by decide⟩,_,_,Y,Y,f,_,_,_,Y,Y,SqL.of g2,at' 1 _ (d:) Y,?_⟩;refine ⟨_,Y,_,Y,_,_,Y,Y,.inl ⟨by decide,by decide⟩,_,_,Y,Y,f,_,_,_,Y,Y,SqL.of g2,at' 2 _ (d:) Y,?_⟩;refine ⟨(by show 3<=sizeLine; decide),λq hq=>?_⟩;have hqD:q≠D:=λz=>by rw [z,g1] at hq; cases hq
   have hqf:q≠f:=λz=>by rw [z,g2] at hq; cases hq
   have xw:H q=none:=qi.free hq;refine ⟨_,by rw [Zd (Ne.symm hqD)]; exact g1,(by rw [Ab]; exact Zt (by lia)),ts ++ [q],_,Y,Same.add (Same.add qi xw) z9,?_,?_,?_,?_⟩
   ·rw [Zb]; simp
   ·rw [Ae,At,lm]
   ·rw [Zd hfD,Zd (Ne.symm hqf)]; exact g2
   ·intro k t z
    by_cases hk:k < ts.length
    ·rw [Av hk] at z
     have g:=g3 k t z;rw [Zd (λe=>by rw [e,g1] at g; cases g),Zd (Zi g hq)];exact g
    ·have vg:k=ts.length:=by
      have:=(Aa z).1;rw [Ae,At] at this;lia
     subst vg;have:t=q:=by simpa using z.symm
     subst this;rw [Zd hqD,Zb,lm];rfl
  ·rintro σ H2 ⟨ts,v,rfl,qi,g1,lm,g2,g3⟩
   exact k D H2 qi z9 ⟨ts,g1,by rw [hlf,lm],g3⟩
noncomputable def isN (x:Str):Bool:=decide (1<=(x.length:Int)) && decide ((x.length:Int)<=8) && (mdL x (Str.ofString "abcdefghijklmnopqrstuvwxyz")).all id
def Zjd:Sp:=λvs H Q _=>∃ x:Str,vs=[.str x]/\x.cps.all (· < 128)=true/\x.cps.size<=900/\∀ H',Same H H'->Q (.bl (isN x)) H'
noncomputable def wV:Str ⊕ Int->V
 | .inl x=>.str x
 | .inr i=>.int i
noncomputable def wS:Str ⊕ Int->Str
 | .inl x=>x
 | .inr i=>figS i
def wOk:Str ⊕ Int->Prop
 | .inl _=>True
 | .inr i=>0<=i/\i < 1000000000000000000000000000000000000000000000000000000000000
theorem Zkl {B:Nat}:∀ {l:List (Str ⊕ Int)},(∀ x∈l,(wS x).length<=B)->((l.map wS).map (·.length)).sum<=B * l.length
 | [],_=>An _
 | x :: l,h=>by
  have h1:=h x mem_cons_self;have h2:=Zkl (l:=l) λy hy=>h y (mem_cons_of_mem _ hy);rw [map_cons,map_cons,sum_cons,length_cons,Nat.mul_add];lia
def Zbn {i:Int} (h0:0<=i) (h1:i < 1000000000000000000000000000000000000000000000000000000000000):(figS i).length<=60:=by
 have e:figS i=Str.ofString (toString i):=rfl;rw [e];exact Zco h0 h1
def Zqw (i:Int):Asc (figS i):=Asc.join λy hy=>by rw [Af hy]; exact Asc.num i
def Zha:Sp:=λvs H Q _=>∃ (a:Addr) (ws:List (Str ⊕ Int)),vs=[.ref a]/\H a=some (.lst (ws.map wV))/\ws.length<=900/\(∀ x∈ws,wOk x)/\((ws.map wS).map (·.length)).sum + ws.length<=1048576/\∀ H',Same H H'->Q (.str (Txt.join (Str.ofString " ") (ws.map wS))) H'
def Zjj:FnScope ["text"] ["text"] (Zg Zc2):=Am
def Zju (T:Txt w K mg t):(a:) 2 t.gD t.gM ["text"] Zjd:=by
 refine T.gU.F.aR Zjj (b:)
 ·obtain ⟨x,rfl,hx,hz,k⟩:=h
  refine ⟨_,(Zh (Zl (Zf8 (Zf7 Zjn Zjn Zf (Zn Zg5 (by rfl) T.am PySem.boot_len (Za (pv 0) Zc)) (Jw (v:=.int 8) Y T.gu ⟨_,Y⟩)) (Zf6 (pcT (Zjp T) hr T.gT (Za (pv 0) (Za (Jw (v:=.str (Str.ofString "abcdefghijklmnopqrstuvwxyz")) rfl T.fJ ⟨_,rfl⟩) Zc))))))),?_⟩;have hs:x.length=x.cps.size:=rfl;refine ⟨_,Y,x,Y,by rw [sizeLine_eq]; lia,_,_,rfl,rfl,_,rfl,?_⟩;unfold isN at k;refine ite2 (λz=>?_) (λz=>?_)
  ·refine ⟨_,_,Y,Y,_,Y,?_⟩
   refine ite2 (λz2=>?_) (λz2=>?_)
   ·refine ⟨_,Y,x,_,Y,hx,hz,λH' s'=>?_⟩
    have:=k H' s';rw [z,z2,Bool.true_and,Bool.true_and] at this;exact this
   ·have:=k H (Same.refl _)
    rw [Bool.eq_false_iff.mpr z2,Bool.and_false,Bool.false_and] at this;exact this
  ·refine ⟨_,Y,iteF ?_⟩
   have:=k H (Same.refl _);rw [Bool.eq_false_iff.mpr z,Bool.false_and,Bool.false_and] at this;exact this
def Zhh:FnScope ["words"] ["words"] (Zg Zax):=Am
def Qt (T:Txt w K mg t):(a:) 2 t.fQ t.f7 ["words"] Zha:=by
 refine T.bn.F.aR Zhh (b:)
 ·obtain ⟨a,ws,rfl,ha,hl,hw,hsum,k⟩:=h
  refine ⟨_,(Zh (Zl (X5 PySem.F.plainAttrs_str PySem.F.slot_str_join PySem.F.type_str_join Zio Z5 (Za (Yv (ts:=["word"]) (fv:=[]) (s:) rfl (Yx (pv 0)) (λ_ _ _ _=>(Zk (i:=0) (show List.Nodup (["word"]:List Str) from by decide +kernel) rfl (g:) (I:))) (ah:) (N:) (λ_ _ _ _ _ _=>Yj (F2 (J2 (Zn (Zg6 K) (by rfl) T.g9 PyProof.Rows.boot_isinstance (Za (pv 0) (Za (Zp2 (v:=.ty "str") (by rfl) T.jF PySem.Pv.boot_str rfl) Zc)))) (pv 0) (pcT (Zbc T) hr T.ee (Za (pv 0) Zc))))) Zc)))),?_⟩;refine ⟨Y,_,Y,a,Y,⟨_,SqL.of ha⟩,λD hD=>?_⟩;refine Ym (xs:=ws.map wV) (λi σ H6=>∃ v,σ=[v]/\Same H H6/\H6 D=some (.lst (((ws.take i).map wS).map V.str))) (ag:) ?_ ?_ ?_
  ·rintro i σ H6 _ ⟨v,rfl,s6,_⟩
   exact SqL.of (s6 _ _ ha)
  ·rintro i y σ H6 hy ⟨v,rfl,s6,h6⟩
   rw [Ah] at hy;obtain ⟨x,hx,rfl⟩:=Option.map_eq_some_iff.mp hy;have hil:i < ws.length:=(Aa hx).1;have ok:=hw x (Au hx);have lt:(((ws.take i).map wS).map V.str).length < sizeLine:=by rw [Ab,Ab,Ai]; exact Zt (by lia)
   dsimp only [Zo,tYes];rw [if_pos rfl]
   cases x with
   | inl y =>
    refine ⟨_,Y,_,"str",_,true,rfl,TyOf.str y,Zn3,_,rfl,iteT ?_⟩;refine ⟨_,Y,_,h6,lt,_,Y,Same.add s6 hD,?_⟩;rw [Zb,Aw,hx,Aj,Aj];rfl
   | inr j =>
    refine ⟨_,Y,_,"str",_,false,rfl,TyOf.int j,(by rfl),_,rfl,iteF ?_⟩;refine ⟨_,Y,j,Y,ok.1,ok.2,λH7 s7=>?_⟩;refine ⟨_,s7 _ _ h6,lt,_,Y,Same.add (s6.trans s7) hD,?_⟩;rw [Zb,Aw,hx,Aj,Aj];rfl
  ·rintro σ H6 ⟨v,rfl,s6,h6⟩
   rw [Ab,take_length] at h6;refine ⟨_,D,ws.map wS,Y,Y,SqL.of h6,by decide,?_,k _ s6⟩;rw [Ab];exact hsum
def at4 (h0:0<=i) (h1:i < 4):∃ sh:Int,atI [V.int 0,V.int 0,V.int 1,V.int 3] i=some (V.int sh):=by
 obtain rfl | rfl | rfl | rfl:i=0\/i=1\/i=2\/i=3:=by lia
 all_goals exact ⟨_,Y⟩
def at8 (h0:0<=i) (h1:i < 8):∃ sp:Int,sp∈Oq/\atI [V.int 1,V.int 3,V.int 7,V.int 9,V.int 37,V.int 1009,V.int 3333,V.int 9999] i=some (V.int sp):=by
 obtain rfl | rfl | rfl | rfl | rfl | rfl | rfl | rfl:i=0\/i=1\/i=2\/i=3\/i=4\/i=5\/i=6\/i=7:=by lia
 all_goals exact ⟨_,by decide,Y⟩
def Zph (K:W.Frag):Sp:=λvs H Q _=>∃ (a:Addr) (ns:List Int),vs=[.ref a]/\SqL K H a (H:)/\ns.length<=63 /\
 ∀ (p m r:Addr) (M:Lq) (nms:List Int) (H':Hp),Same H H'->H' p=some (.tup [.ref m,.ref r])->H' m=some (aw:)->Yq H' r nms->TD M nms->M.length<=42->H m=none->H r=none->Q (.ref p) H'
def Wp:FnScope ["_law_script","_law_head","_law_many","_law_names","_law_share","_law_mates","_law_step"] ["_law_script"] (Zg Zfq):=Am
def Zlv (T:Txt w K mg t):(a:) 2 t.il t.iE ["_law_script"] (Zph K):=by
 refine T.iN.F.aR Wp (b:)
 ·obtain ⟨a,ns,rfl,hS,hl,k⟩:=h
  refine ⟨_,(Ze (Zs (i:=1) Wp.nd Y (Or.inl Y) (pcT (W9 T) hr T.aW (Za (pv 0) (Za Zf Zc))))
   (Ze (Zs (i:=2) Wp.nd rfl (g:) (Zj Yl Zf (Zj Z6 (pv 1) Zf)))
   (Ze (Z9 (Zq Yw (Zj Z6 (Zj Y7 (pv 1) Zf) Zf) Zf (Zr _)) (Zh (Zs (i:=2) Wp.nd rfl (g:) (Zj Yl Zf (Zj Z6 (Zj Y7 (pv 1) Zf) Zf)))) Zz)
   (Ze (Zs (i:=3) Wp.nd rfl (g:) (pcT (W9 T) hr T.aW (Za (pv 0) (Za Zf Zc))))
   (Ze (Zs (i:=4) Wp.nd rfl (g:) (Zv Yp (Xg (Za Zf (Za Zf (Za Zf (Za Zf Zc))))) (Zj Z6 (pv 3) Zf) (j:)))
   (Ze (Zs (i:=5) Wp.nd rfl (g:) (pcT (Zlw T) hr T.iL (Za (pcT (Gd T) hr T.cS (Za (pcT (W9 T) hr T.aW (Za (pv 0) (Za Zf Zc))) (Za Zf Zc))) (Za (pv 2) (Za (pv 4) Zc)))))
   (Ze (Zs (i:=6) Wp.nd rfl (g:) (Zv Yp (Xg (Za Zf (Za Zf (Za Zf (Za Zf (Za Zf (Za Zf (Za Zf (Za Zf Zc))))))))) (Zj Z6 (Zj Y7 (pv 3) Zf) Zf) (j:)))
   (Zh (Zl (Xg (Za (pv 5) (Za (pcT (Zlx T) hr T.iM (Za (pv 5) (Za (Zj Z6 (Zj Y7 (pv 3) Zf) Zf) (Za (pv 6) Zc)))) Zc)))))))))))),?_⟩;refine ⟨_,Y,a,ns,0,Y,hS,hl,by decide,by decide,?_⟩;generalize cell ns 0=hd;refine ⟨_,Y,_,_,Y,Y,(by show (0:Int) < 6; decide),_,_,rfl,rfl,?_⟩;dsimp only [Zo];show tSeq (tIfS _ _ _) _ _ _ _;refine Yc (λσ H1=>∃ n:Nat,1<=n/\n<=14/\σ=[some (.ref a),some (.int hd),some (.int n),none,none,none,none]/\H1=H) (ab:) ?_
  ·refine ⟨_,Y,_,_,Y,Y,⟨by decide,by decide⟩,_,_,Y,Y,(by show (0:Int) < 9; decide),rfl,_,rfl,?_⟩
   refine ite2 (λ_=>?_) (λ_=>?_)
   ·refine ⟨_,Y,_,_,Y,Y,⟨by decide,by decide⟩,_,_,Y,Y,(by show (0:Int) < 8; decide),_,_,rfl,rfl,?_⟩
    have e:(7 + hd / 54 % 8:Int)=((7 + (hd / 54 % 8).toNat:Nat):Int):=by lia
    exact kh _ _ ⟨7 + (hd / 54 % 8).toNat,by lia,by lia,by rw [<- e]; rfl,rfl⟩
   ·have e:(1 + hd % 6:Int)=((1 + (hd % 6).toNat:Nat):Int):=by lia
    exact kh _ _ ⟨1 + (hd % 6).toNat,by lia,by lia,by rw [<- e]; rfl,rfl⟩
  rintro σ H1 ⟨n,n1,n2,rfl,rfl⟩;refine ⟨_,Y,a,ns,2,Y,hS,hl,by decide,by decide,?_⟩;generalize cell ns 2=nam;refine ⟨(by show 4<=sizeLine; decide),λq hq=>?_⟩;have m4:0<=nam % 4/\nam % 4 < 4:=by lia
  obtain ⟨sh,esh⟩:=at4 m4.1 m4.2;refine ⟨_,Y,_,_,Y,Y,(by show (0:Int) < 4; decide),q,_,_,_,rfl,rfl,SqT.of Zb,esh,?_⟩;have s1:Same H1 (upd H1 q (.tup [V.int 0,V.int 0,V.int 1,V.int 3])):=Same.new hq;refine ⟨_,Y,a,ns,1,Y,s1.seq hS,hl,by decide,by decide,?_⟩;refine ⟨_,60,Y,by decide,λp xs H2 s2 hp h2 h60 hx=>?_⟩;refine ⟨_,Y,_,Y,p,xs,n,sh,Y,h2,h60,hx,n1,n2,λm M H3 s3 hm hM j8 o0=>?_⟩;have xi:Same H1 H3:=(s1.trans s2).trans s3;have ql:H1 m=none:=(s1.trans s2).free hm;refine ⟨(by show 8<=sizeLine; decide),λq2 rn=>?_⟩;have m8:0<=nam / 4 % 8/\nam / 4 % 8 < 8:=by lia
  obtain ⟨sp,mm,esp⟩:=at8 m8.1 m8.2;refine ⟨_,Y,_,_,Y,Y,⟨by decide,by decide⟩,_,_,Y,Y,(by show (0:Int) < 8; decide),q2,_,_,_,rfl,rfl,SqT.of Zb,esp,?_⟩;have s14:Same H1 (upd H3 q2 (.tup [V.int 1,V.int 3,V.int 7,V.int 9,V.int 37,V.int 1009,V.int 3333,V.int 9999])):=Same.add xi (xi.free rn);have hM4:(upd H3 q2 (.tup [V.int 1,V.int 3,V.int 7,V.int 9,V.int 37,V.int 1009,V.int 3333,V.int 9999])) m=some (aw:):=by rw [Zd (Zi hM rn)]; exact hM
  refine ⟨_,Y,_,Y,_,Y,_,_,Y,Y,⟨by decide,by decide⟩,_,_,Y,Y,(by show (0:Int) < 10000; decide),_,rfl,m,M,n,_,sp,rfl,hM4,j8,n1,n2,o0,mm,λr H5 s5 hr5 ub=>?_⟩;refine ⟨(bb:),λp5 xz=>?_⟩;have s15:=s14.trans s5;have ox:H1 r=none:=s14.free hr5;refine k p5 m r M _ _ (Same.add s15 (s15.free xz)) Zb ?_ (ub.same (Same.new xz)) (Zo5 n1 n2 j8 o0 mm) (by lia) ql ox;rw [Zd (Zi (s5 _ _ hM4) xz)];exact s5 _ _ hM4
noncomputable def spk (ns:List Int) (n:Nat) (f:Int->Addr):List (Key × V):=(keys ns n).map λx=>((Sum.inl x:Key),V.ref (f x))
structure SpotsF (H:Hp) (ns:List Int) (n:Nat) (f:Int->Addr):Prop where
 inj:∀ x∈keys ns n,∀ y∈keys ns n,f x=f y->x=y
 at':∀ x∈keys ns n,H (f x)=some (.lst ((pl ns n x).map nV))
def Zg9:Sp:=λvs H Q _=>∃ (a:Addr) (M:Lq) (ns:List Int),vs=[.ref a]/\H a=some (.lst (H:))/\TD M ns/\ns.length<=120 /\
 ∀ (d:Addr) (f:Int->Addr) (H':Hp),Same H H'->H d=none->H' d=some (.dK (spk ns ns.length f))->SpotsF H' ns ns.length f->(∀ x∈keys ns ns.length,H (f x)=none)->Q (.ref d) H'
def Qr:FnScope ["names_at","spots","place","name"] ["names_at"] (Zg Zaw):=Am
def Zhk (T:Txt w K mg t):(a:) 1 t.fM t.fX ["names_at"] Zg9:=by
 refine T.gh.F.aR Qr (b:)
 ·obtain ⟨a,M,ns,rfl,ha,td,hl,k⟩:=h
  have hu:=Xb hr;refine ⟨_,(Ze (Zs (i:=1) Qr.nd Y (Or.inl Y) Ox)
   (Ze (Xr PassesOwn.never rfl (Zpz rfl T.iP (Za (pv 0) Zc)) (Ww rfl (Zw (Zk (i:=2) Qr.nd rfl (g:)) (Zw (Zk (i:=3) Qr.nd rfl (g:)) Yz))) (Ze (Z9 (PW.pt (Ve (Zq Qs (pv 3) Zf (Zr _)) (Qz (Zq Ut (pv 3) (Jw (v:=.int 9999) rfl T.fI ⟨_,rfl⟩) (Zr _))))) Yy Zz)
   (Ze (Z8 (X5 PySem.F.plainAttrs_list PySem.F.slot_list_append PySem.F.type_list_append Y6 (Znn (pv 1) (pv 3) (Yr Zc) ⟨rfl,rfl,rfl,rfl⟩) (U:)))
   (Zh (Z9 (Zq Ut (Zn Zm (by rfl) T.am PySem.boot_len (Za (Wy hu (pv 1) (pv 3) (j:)) Zc)) Zf (Zr _)) Yy Zz)))))
   (Zh (Zl (pv 1))))),?_⟩
  intro d hd;have hda:a≠d:=Zi ha hd;dsimp only [Zo];show tSeq (tFor _ _ _) _ _ _ _;refine Yc (λσ H1=>∃ (f:Int->Addr) (v2 v3:Option V),σ=[some (.ref a),some (.ref d),v2,v3]/\Same H H1/\H1 d=some (.dK (spk ns ns.length f))/\SpotsF H1 ns ns.length f/\∀ x∈keys ns ns.length,H (f x)=none) (ab:) ?_
  ·refine ⟨_,Y,a,Y,⟨_,SqL.of (by rw [Zd hda]; exact ha)⟩,?_⟩
   have el:(H:).length=ns.length:=by simp
   refine Zoe (xs:=ns.map V.int) (λi σ H1=>∃ (f:Int->Addr) (v2 v3:Option V),σ=[some (.ref a),some (.ref d),v2,v3]/\Same H H1/\H1 d=some (.dK (spk ns i f))/\SpotsF H1 ns i f/\∀ x∈keys ns i,H (f x)=none)
    ⟨λ_=>0,none,none,rfl,Same.new hd,Zb,⟨λx hx=>by simp [keys] at hx,λx hx=>by simp [keys] at hx⟩,λx hx=>by simp [keys] at hx⟩ ?_ ?_ ?_
   ·rintro i σ H1 _ ⟨f,v2,v3,rfl,sm,_⟩
    exact SqL.of (sm _ _ ha)
   ·rintro i x0 σ H1 q hx hq ⟨f,v2,v3,rfl,sm,si,sf,qo⟩
    have hi:i < ns.length:=by rw [<- el]; exact (Aa hx).1
    obtain ⟨x,n9⟩:∃ x,ns[i]?=some x:=⟨_,Ac hi⟩;obtain rfl:x0=V.int x:=by rw [Ah,n9] at hx; exact (Ax hx).symm
    refine ⟨q,_,Y,SqT.of Zb,Y,_,_,Y,_,_,Y,Y,?_⟩;obtain ⟨x0,x1⟩:=td.rng i x n9;refine ⟨_,Y,_,_,Y,Y,_,Y,?_⟩;rw [decide_eq_false (by lia:¬ x < 0)];refine iteF ?_;refine ⟨_,Y,_,_,Y,Y,_,Y,?_⟩;rw [decide_eq_false (by lia:¬ x > 9999)];refine iteF ?_;have hdq:d≠q:=Zi si hq;have pk:(upd H1 q (.tup [.int i,.int x])) d=some (.dK (spk ns i f)):=by rw [Zd hdq]; exact si
    dsimp only [Jo];show tSeq (Zop _) _ _ _ _;refine Yc (λσ H2=>∃ (f:Int->Addr),σ=[some (.ref a),some (.ref d),some (.int i),some (.int x)]/\Same H H2/\H2 d=some (.dK (spk ns (i + 1) f))/\SpotsF H2 ns (i + 1) f/\∀ x∈keys ns (i + 1),H (f x)=none) (λnx2 hnx2=>?_) ?_
    ·refine ⟨_,Y,d,Y,.inl ⟨_,.inl pk⟩,_,Y,Az _,λl zq=>?_⟩
     obtain ⟨hlq,l7⟩:=Y9 zq;have wt:d≠l:=Zi si l7;have uz:(upd (upd H1 q (.tup [.int i,.int x])) l (.lst [])) d=some (.dK (spk ns i f)):=by rw [Zd wt]; exact pk
     have hlk:(spk ns i f).length < sizeLine:=by unfold spk; rw [Ab]; exact Zt (by have:=Ud ns i; lia)
     have xw:H q=none:=sm.free hq;have hl0:H l=none:=sm.free l7;have smq:Same H (upd (upd H1 q (.tup [.int i,.int x])) l (.lst [])):=Same.add (Same.add sm xw) hl0;have pj:(pl ns i x).length < sizeLine:=Zt (by have:=Zf5 td i x; lia);have old:∀ b u,H1 b=some u->(upd (upd H1 q (.tup [.int i,.int x])) l (.lst [])) b=some u:=λb u e=>by rw [Zd (Zi e l7),Zd (Zi e hq)]; exact e
     refine ⟨spk ns i f,Sum.inl x,uz,hlk,Y,λv hv=>?_,λhv=>?_⟩
     ·-- the name stands already
      have uw:x∈keys ns i:=by
       unfold spk at hv;rw [Jd] at hv;by_cases c:x∈keys ns i
       ·exact c
       ·rw [if_neg c] at hv; cases hv
      obtain rfl:v=V.ref (f x):=by
       unfold spk at hv;rw [Jd,if_pos uw] at hv;exact (Ax hv).symm
      have ek:keys ns (i + 1)=keys ns i:=by rw [Wr n9,if_pos uw]
      have vi:=old _ _ (sf.at' x uw);refine ⟨.inl ⟨Y,_,SqL.of vi⟩,_,Y,f x,_,_,Y,Y,vi,by rw [Ab]; exact pj,hnx2 _ _ ⟨f,Y,Same.add smq (qo x uw),?_,⟨?_,?_⟩,?_⟩⟩
      ·have:d≠f x:=λz=>by rw [<- z,uz] at vi; cases vi
       rw [Zd this,uz];unfold spk;rw [ek]
      ·rw [ek]; exact sf.inj
      ·intro y hy
       rw [ek] at hy;by_cases c:y=x
       ·subst c
        rw [Zb,Zie n9,Aj];rfl
       ·have:f y≠f x:=λz=>c (sf.inj y hy x uw z)
        rw [Zd this,old _ _ (sf.at' y hy),Zf4 (by rw [n9]; intro z; cases z; exact c Y)]
      ·rw [ek]; exact qo
     ·-- a new name
      have uw:x ∉ keys ns i:=by
       intro c;unfold spk at hv;rw [Jd,if_pos c] at hv;cases hv
      have ek:keys ns (i + 1)=keys ns i ++ [x]:=by rw [Wr n9,if_neg uw]
      have ep:putK (spk ns i f) (Sum.inl x) (V.ref l)=spk ns (i + 1) (λy=>if y=x then l else f y):=by
       unfold spk;rw [Zce uw,ek,Aj];congr 1
       ·apply map_congr_left
        intro y hy;dsimp only;rw [if_neg (λ(z:y=x)=>uw (z ▸ hy))]
       ·simp
      rw [ep];have yd:(upd (upd (upd H1 q (.tup [.int i,.int x])) l (.lst [])) d (.dK (spk ns (i + 1) (λy=>if y=x then l else f y)))) l=some (.lst []):=by rw [Zd (Ne.symm wt),Zb]
      refine ⟨.inl ⟨Y,_,SqL.of yd⟩,_,Y,l,_,_,Y,Y,yd,by decide,hnx2 _ _ ⟨λy=>if y=x then l else f y,Y,Same.add (Same.add smq hd) hl0,?_,⟨?_,?_⟩,?_⟩⟩
      ·rw [Zd wt,Zb]
      ·intro y hy z hz e
       rw [ek,mem_append,mem_singleton] at hy hz;by_cases c1:y=x
       ·by_cases c2:z=x
        ·rw [c1,c2]
        ·have uu:=hz.resolve_right c2
         simp only [c1,c2,if_true,if_false] at e;exact absurd (sf.at' z uu) (by rw [<- e,l7]; intro w; cases w)
       ·have nk:=hy.resolve_right c1
        by_cases c2:z=x
        ·simp only [c1,c2,if_true,if_false] at e
         exact absurd (sf.at' y nk) (by rw [e,l7]; intro w; cases w)
        ·have uu:=hz.resolve_right c2
         simp only [c1,c2,if_false] at e;exact sf.inj y nk z uu e
      ·intro y hy
       rw [ek,mem_append,mem_singleton] at hy;by_cases c:y=x
       ·subst c
        simp only [if_true];rw [Zb,Zie n9,Zrr uw];rfl
       ·have nk:=hy.resolve_right c
        have e1:=sf.at' y nk;have n1:f y≠l:=Zi e1 l7;have n2:f y≠d:=λz=>by rw [z,si] at e1; cases e1
        simp only [c,if_false];rw [Zd n1,Zd n2,old _ _ e1,Zf4 (by rw [n9]; intro z; cases z; exact c Y)]
      ·intro y hy
       rw [ek,mem_append,mem_singleton] at hy;by_cases c:y=x
       ·simp only [c,if_true]; exact hl0
       ·simp only [c,if_false]; exact qo y (hy.resolve_right c)
    rintro σ H2 ⟨f',rfl,qi,hd4,sf2,hf2⟩;have hx3:x∈keys ns (i + 1):=Y2.mpr ⟨i,by lia,n9⟩;have hg:valV (spk ns (i + 1) f') (Sum.inl x)=some (V.ref (f' x)):=by unfold spk; rw [Jd,if_pos hx3]
    refine ⟨_,Y,_,Y,d,_,Y,?_,f' x,_,Y,.inl (SqL.of (sf2.at' x hx3)),_,_,Y,Y,_,Y,?_⟩
    ·exact .inl ⟨_,Sum.inl x,.inl hd4,Y,hg.symm⟩
    have h2:=Zf5 td (i + 1) x;rw [decide_eq_false (by rw [Ab]; lia:¬ ((((pl ns (i + 1) x).map nV).length:Nat):Int) > 2)];refine iteF ?_;exact ⟨f',_,_,Y,qi,hd4,sf2,hf2⟩
   ·rintro σ H1 ⟨f,v2,v3,rfl,sm,si,sf,qo⟩
    rw [el] at si sf qo;exact kh _ _ ⟨f,v2,v3,Y,sm,si,sf,qo⟩
  rintro σ H1 ⟨f,v2,v3,rfl,sm,si,sf,qo⟩;exact ⟨_,Y,k d f H1 sm hd si sf qo⟩
def Zhb:Sp:=λvs H Q _=>∃ (d:Addr) (M:Lq) (ns:List Int) (f:Int->Addr),vs=[.ref d,.int ns.length]/\H d=some (.dK (spk ns ns.length f))/\SpotsF H ns ns.length f/\TD M ns/\ns.length<=120 /\
 ∀ (m:Addr) (o:Obj) (H':Hp),(∀ b u,b≠d->H b=some u->H' b=some u)->H m=none->H' m=some (aw:)->H' d=some (.frz o (.dK (spk ns ns.length f)))->Q (.ref m) H'
def Ux:FnScope ["spots","count","mates","pair"] ["spots","count"] (Zg Zay):=Am
def Zhl (T:Txt w K mg t):(a:) 1 t.fN t.fY ["spots","count"] Zhb:=by
 refine T.gj.F.aR Ux (b:)
 ·obtain ⟨d,M,ns,f,rfl,hd,sf,td,hl,k⟩:=h
  refine ⟨_,(Ze (Zs (i:=2) Ux.nd Y (Or.inl Y) (Zj Od (Yr (Za Wl Zc)) (pv 1)))
   (Ze (Xr PassesOwn.never rfl (Zch (pv 0) ⟨rfl,rfl,rfl⟩) (Zk (i:=3) Ux.nd rfl (g:)) (Zh (Z9 (Zq Yw (Zn Zm (by rfl) T.am PySem.boot_len (Za (pv 3) Zc)) Zf (Zr _)) (Ze (Xt (Zv Z0 (pv 3) Zf (j:)) (J5 (pv 2) (Zv Z0 (pv 3) Zf (j:)) Xy))
   (Zh (Xt (Zv Z0 (pv 3) Zf (j:)) (J5 (pv 2) (Zv Z0 (pv 3) Zf (j:)) Xy)))) Zz)))
   (Zh (Zl (pv 2))))),?_⟩;refine ⟨(by show 1<=sizeLine; decide),λq hq=>?_⟩;refine ⟨_,Y,q,_,_,Y,Y,Zb,by lia,by lia,?_,λm hm=>?_⟩
  ·have:((ns.length:Nat):Int).toNat=ns.length:=by lia
   show 1 * ((ns.length:Nat):Int).toNat<=sizeLine;rw [this,sizeLine_eq]; lia
  obtain ⟨hmq,ql⟩:=Y9 hm;have eM:(List.replicate ((ns.length:Nat):Int).toNat [V.non]).flatten=(part M ns []).map mV:=by
   have:((ns.length:Nat):Int).toNat=M.length:=by rw [<- td.len]; lia
   rw [this,flatten_replicate_singleton,Znp td,map_replicate]
   rfl
  rw [eM];have hdm:d≠m:=Zi hd ql;have hdq:d≠q:=Zi hd hq;dsimp only [Zo];show tSeq (tFor _ _ _) _ _ _ _;refine Yc (λσ H1=>∃ (o:Obj) (v:Option V),σ=[some (.ref d),some (.int ns.length),some (.ref m),v]/\(∀ b u,b≠d->H b=some u->H1 b=some u)/\H1 m=some (aw:)/\H1 d=some (.frz o (.dK (spk ns ns.length f)))) (ab:) ?_
  ·refine ⟨_,Y,d,_,Y,.inl ⟨by rw [Zd hdm,Zd hdq]; exact hd,λo=>?_⟩⟩
   refine Zgx (λj σ H1=>∃ (v:Option V),σ=[some (.ref d),some (.int ns.length),some (.ref m),v]/\(∀ b u,b≠d->H b=some u->H1 b=some u)/\H1 m=some (.lst ((part M ns ((af:).take j)).map mV))/\H1 d=some (.frz o (.dK (spk ns ns.length f))))
    ⟨none,rfl,λb u hb e=>?_,?_,Zb⟩ ?_ ?_ ?_
   ·rw [Zd hb,Zd (Zi e ql),Zd (Zi e hq)]; exact e
   ·rw [Zd (Ne.symm hdm),Zb]
    rfl
   ·rintro j σ H1 _ ⟨v,rfl,old,h1,h2⟩
    exact h2
   ·rintro j k0 x0 σ H1 hk ⟨v,rfl,old,h1,h2⟩
    obtain ⟨x,hx,rfl⟩:∃ x,(keys ns ns.length)[j]?=some x/\x0=V.ref (f x):=by
     unfold spk at hk;rw [Ah] at hk
     cases e:(keys ns ns.length)[j]? with
     | none=>rw [e] at hk; cases hk
     | some x=>rw [e] at hk; cases hk; exact ⟨x,Y,Y⟩
    have hm1:x∈keys ns ns.length:=Au hx;have et:(af:).take (j + 1)=(af:).take j ++ [x]:=by
     rw [Aw,hx]; rfl
    have vi:=sf.at' x hm1;have hfd:f x≠d:=λz=>by rw [z,hd] at vi; cases vi
    have wq:=old _ _ hfd vi;dsimp only [Zo];refine ⟨_,Y,f x,_,Y,.inl (SqL.of wq),Y,_,Y,?_⟩
    rcases Vy td hm1 with ⟨a,e,ea,ma⟩ | ⟨a,b,kz,e,ea,eb,ma,mb⟩
    ·rw [e] at wq ⊢
     refine iteF ?_;refine ⟨_,Y,old,?_,h2⟩;rw [et,Zno td e ma];exact h1
    ·rw [e] at wq ⊢
     refine iteT ?_;have la:a < (part M ns ((af:).take j)).length:=by rw [Wg]; exact (Aa ma).1
     have lb:b < (part M ns ((af:).take j)).length:=by rw [Wg]; exact (Aa mb).1
     have ux:f x≠m:=Zi vi ql;refine ⟨_,Y,f x,_,_,_,Y,Y,SqL.of wq,Y,?_⟩;refine ⟨_,Y,_,Y,f x,_,_,_,Y,Y,SqL.of wq,Y,m,_,_,a,Y,Y,h1,(by rw [Ab]; exact Wm la),?_⟩;have hf2:(upd H1 m (.lst (((part M ns ((af:).take j)).map mV).set a (nV b)))) (f x)=some (.lst ([a,b].map nV)):=by rw [Zd ux]; exact wq
     refine ⟨_,Y,f x,_,_,_,Y,Y,SqL.of hf2,Y,?_⟩;refine ⟨_,Y,_,Y,f x,_,_,_,Y,Y,SqL.of hf2,Y,m,_,_,b,Y,Y,Zb,(by rw [length_set,Ab]; exact Wm lb),?_⟩;refine ⟨_,Y,λc u hc ec=>?_,?_,?_⟩
     ·have:c≠m:=Zi ec ql
      rw [Zd this,Zd this];exact old c u hc ec
     ·rw [Zb,et,Zlm td e kz ma mb]
      show some (HO.lst ((((part M ns ((af:).take j)).map mV).set a (mV (some b))).set b (mV (some a))))=_;rw [map_set,map_set]
     ·rw [Zd hdm,Zd hdm]; exact h2
   ·rintro σ H1 ⟨v,rfl,old,h1,h2⟩
    refine kh _ _ ⟨o,v,Y,old,?_,h2⟩;have:(af:).take (spk ns ns.length f).length=keys ns ns.length:=by
     unfold spk; rw [Ab,take_length]
    rw [this,Znq td] at h1;exact h1
  rintro σ H1 ⟨o,v,rfl,old,h1,h2⟩;exact ⟨_,Y,k m o H1 old ql h1 h2⟩
noncomputable def Wc (cl na sp mt:Addr):List (Str × V):=putF "mates" (.ref mt) (putF "spots" (.ref sp) (putF "names_at" (.ref na) (putF "cloths" (.ref cl) [])))
theorem Xk (f:Str) (v:V):∀ fs:List (Str × V),(putF f v fs).length<=fs.length + 1
 | []=>by simp [putF]
 | (g,x) :: r=>by
  have:=Xk f v r;unfold putF;split
  ·simp
  ·simp only [length_cons]; lia
def s_cn:¬ ("cloths":Str)="names_at":=by decide
def s_cs:¬ ("cloths":Str)="spots":=by decide
def s_cm:¬ ("cloths":Str)="mates":=by decide
def s_ns:¬ ("names_at":Str)="spots":=by decide
def s_nm:¬ ("names_at":Str)="mates":=by decide
def s_sm:¬ ("spots":Str)="mates":=by decide
def Zmi (cl na sp mt:Addr):(Wc cl na sp mt).lookup ("cloths":Str)=some (.ref cl):=by
 unfold Wc; rw [Z7,if_neg s_cm,Z7,if_neg s_cs,Z7,if_neg s_cn,Z7,if_pos rfl]
def Zgy (cl na sp mt:Addr):(Wc cl na sp mt).lookup ("names_at":Str)=some (.ref na):=by
 unfold Wc; rw [Z7,if_neg s_nm,Z7,if_neg s_ns,Z7,if_pos rfl]
def Zag (cl na sp mt:Addr):(Wc cl na sp mt).lookup ("spots":Str)=some (.ref sp):=by
 unfold Wc; rw [Z7,if_neg s_sm,Z7,if_pos rfl]
def Zog (cl na sp mt:Addr):(Wc cl na sp mt).lookup ("mates":Str)=some (.ref mt):=by
 unfold Wc; rw [Z7,if_pos rfl]
def Yu (cl na sp mt:Addr) {m:Str} (h:m≠"cloths"/\m≠"names_at"/\m≠"spots"/\m≠"mates":=by decide):(Wc cl na sp mt).lookup m=none:=by
 obtain ⟨h1,h2,h3,h4⟩:=h;unfold Wc; rw [Z7,if_neg h4,Z7,if_neg h3,Z7,if_neg h2,Z7,if_neg h1]; rfl
structure TentB (C:Addr) (H:Hp) (p:Addr) (M:Lq) (ns:List Int) (dx cl na sp mt:Addr) (o:Obj) (f:Int->Addr):Prop where
 ins:H p=some (.ins C dx (Wc cl na sp mt))
 rows:Yq H cl ns
 names:H na=some (.lst (H:))
 spots:H sp=some (.frz o (.dK (spk ns ns.length f)))
 mates:H mt=some (aw:)
 at':∀ x∈keys ns ns.length,H (f x)=some (.lst ((pl ns ns.length x).map nV))
def Z3 (C:Addr) (H:Hp) (p:Addr) (M:Lq) (ns:List Int):Prop:=∃ dx cl na sp mt o f,TentB C H p M ns dx cl na sp mt o f
def Z3.same (h:Z3 C H p M ns) (s:Same H H'):Z3 C H' p M ns:=by
 obtain ⟨dx,cl,na,sp,mt,o,f,b⟩:=h;exact ⟨dx,cl,na,sp,mt,o,f,s _ _ b.ins,b.rows.same s,s _ _ b.names,s _ _ b.spots,s _ _ b.mates,λx hx=>s _ _ (b.at' x hx)⟩
def Zeq {ns:List Int} {n:Nat} (h:ns.length=3 * n) (hk:k < n):(ns.take (3 * k)).map V.int ++ row3 ns k=(ns.take (3 * (k + 1))).map V.int:=by
 have e:ns.take (3 * (k + 1))=ns.take (3 * k) ++ [ns.getD (3 * k) 0,ns.getD (3 * k + 1) 0,ns.getD (3 * k + 2) 0]:=by
  have l0:3 * k < ns.length:=by lia
  have l1:3 * k + 1 < ns.length:=by lia
  have l2:3 * k + 2 < ns.length:=by lia
  have g:∀ i,i < ns.length->ns[i]?=some (ns.getD i 0):=λi hi=>by rw [Ad,Ac hi]; rfl
  rw [show 3 * (k + 1)=3 * k + 1 + 1 + 1 by lia,Aw,Aw,Aw,g _ l0,g _ l1,g _ l2,append_assoc,append_assoc];rfl
 rw [e,Aj];rfl
def Ze4 (C:Addr):Sp:=λvs H Q _=>∃ (p r dx:Addr) (M:Lq) (ns:List Int),vs=[.ref p,.ref r]/\H p=some (.ins C dx [])/\Yq H r ns/\TD M ns/\ns.length<=120 /\
 ∀ (H':Hp),(∀ b u,b≠p->H b=some u->H' b=some u)->Z3 C H' p M ns->Q .non H'
def Zfg:FnScope ["self","rows"] ["self","rows"] (Zg Fh):=Am
def Gf (T:Txt w K mg t):(a:) 2 t.cC t.eW ["self","rows"] (Ze4 t.aa):=by
  refine T.cM.F.aR Zfg (b:)
  · obtain ⟨p,r,dx,M,ns,rfl,hp,⟨ts,nh,hr2,hr3⟩,td,hl,k⟩:=h
    refine ⟨_,(Ze (Z9 (J3 (Qf (pv 1) (λ_=>rfl))) Yy Zz)
      (Ze (Xs (pv 0) (Yv (ts:=["row"]) (fv:=[]) (s:) rfl (Yx (pv 1)) (λ_ _ _ _=>(Zk (i:=0) (show List.Nodup (["row"]:List Str) from by decide +kernel) rfl (g:) (I:))) (ah:) (N:) (λ_ _ _ _ _ _=>Yj (Ys (Oo K) (by rfl) T.je PySem.Pv.boot_tuple (Za (pv 0) Zc)))) rfl)
      (Ze (Xs (pv 0) (Yv (ts:=["row","name"]) (fv:=[]) (s:) rfl (Yx (as:)) (λ_ _ _ _=>(Zk (i:=0) (show List.Nodup (["row","name"]:List Str) from by decide +kernel) rfl (g:) (I:))) (ah:) (N:) (λ_ _ _ _ _ _=>Zll rfl rfl (Zci K (pv 0)) (Zk (i:=1) (show List.Nodup (["row","name"]:List Str) from by decide +kernel) rfl (g:) (I:)) Yi (pv 1))) rfl)
      (Ze (Xs (pv 0) (pcT (Zhk T) hr T.gh (Za (as:) Zc)) rfl)
      (Zh (Xs (pv 0) (pcT (Zhl T) hr T.gj (Za (as:) (Za (Zn Zm (by rfl) T.am PySem.boot_len (Za (as:) Zc)) Zc))) rfl)))))),?_⟩;obtain ⟨n,n1,n2,hn⟩:=td.n;have vf:ns.length=3 * n:=by rw [td.len,hn]
    have wl:ts.length=n:=by lia
    have hrp:r≠p:=λz=>by rw [z,hp] at nh; cases nh
    refine ⟨_,Y,true,.inl ⟨_,SqL.of nh,?_⟩,?_⟩
    · cases ts with
      | nil=>simp at wl; lia
      | cons _ _=>rfl
    refine iteF ?_;dsimp only [Jo];refine ⟨_,Y,r,Y,⟨_,SqL.of nh⟩,λD hD=>?_⟩;have hDp:D≠p:=λz=>by rw [z,hp] at hD; cases hD
    refine Ym (xs:=ts.map V.ref) (λi σ H1=>∃ (v:Option V),σ=[v]/\Same H H1/\H1 D=some (.lst ((ts.take i).map V.ref))) (ag:) ?_ ?_ ?_
    · rintro i σ H1 _ ⟨v,rfl,sm,h1⟩
      exact SqL.of (sm _ _ nh)
    · rintro i x σ H1 hx ⟨v,rfl,sm,h1⟩
      dsimp only [Zo,tYes];rw [if_pos rfl];obtain ⟨tt,ht,rfl⟩:=map_some hx;refine ⟨_,Y,tt,_,Y,.inr ⟨SqT.of (sm _ _ (hr3 i tt ht)),_,h1,(by rw [Ab,Ai]; exact Zt (by lia)),_,Y,Same.add sm hD,?_⟩⟩;rw [Zb,Aw,ht,Aj];rfl
    rintro σ H1 ⟨v,rfl,sm1,h1⟩;rw [Ab,take_length] at h1;have hp1:=sm1 _ _ hp;refine ⟨_,Y,p,_,dx,_,Y,hp1,T.ai,T.bv,by decide,?_⟩;have yp:∀ b u,b≠p->H b=some u->(upd H1 p (.ins t.aa dx (r:))) b=some u:=λb u hb e=>by rw [Zd hb]; exact sm1 b u e
    have lq:(upd H1 p (.ins t.aa dx (r:))) D=some (z:):=by rw [Zd hDp]; exact h1
    have pj:(upd H1 p (.ins t.aa dx (r:))) p=some (.ins t.aa dx (r:)):=Zb
    have xu:∀ (k:Nat) (q:Addr),ts[k]?=some q->(upd H1 p (.ins t.aa dx (r:))) q=some (.tup (row3 ns k)):=λk q e=>by
      have e1:=hr3 k q e;have:q≠p:=λz=>by rw [z,hp] at e1; cases e1
      exact yp q _ this e1
    generalize upd H1 p (.ins t.aa dx (putF "cloths" (.ref D) []))=H2 at yp lq pj xu ⊢;refine ⟨_,Y,p,_,dx,_,_,Y,pj,T.ai,T.bv,Y,D,Y,⟨_,SqL.of lq⟩,λN hN=>?_⟩;have hND:N≠D:=λz=>by rw [z,lq] at hN; cases hN
    have hNp:N≠p:=λz=>by rw [z,pj] at hN; cases hN
    refine Ym (xs:=ts.map V.ref) (λi σ H3=>∃ (v v':Option V),σ=[v,v']/\Same H2 H3/\H3 N=some (.lst ((ns.take (3 * i)).map V.int))) ⟨none,none,Y,Same.new hN,Zb⟩ ?_ ?_ ?_
    · rintro i σ H3 _ ⟨v,v',rfl,sm,h3⟩
      exact SqL.of (sm _ _ lq)
    · rintro i x σ H3 hx ⟨v,v',rfl,sm,h3⟩
      dsimp only [Zo,tYes];rw [if_pos rfl];obtain ⟨tt,ht,rfl⟩:=map_some hx;have hi:i < n:=by rw [<- wl]; exact (Aa ht).1
      refine ⟨_,Y,tt,Y,⟨_,SqT.of (sm _ _ (xu i tt ht))⟩,?_⟩;refine Oz (xs:=row3 ns i) (λj σ H4=>∃ (v':Option V),σ=[some (.ref tt),v']/\Same H2 H4/\H4 N=some (.lst ((ns.take (3 * i)).map V.int ++ (row3 ns i).take j))) ⟨v',Y,sm,by rw [h3,take_zero,append_nil]⟩ ?_ ?_ ?_
      · rintro j σ H4 _ ⟨v',rfl,sm,h4⟩
        exact SqT.of (sm _ _ (xu i tt ht))
      · rintro j x σ H4 hx ⟨v',rfl,sm,h4⟩
        dsimp only [Zo,tYes];rw [if_pos rfl];refine ⟨_,Y,_,h4,?_,_,Y,Same.add sm hN,?_⟩
        · rw [Ae,Ab,Ai,Ai]
          exact Zt (by have:(row3 ns i).length=3:=rfl; lia)
        · rw [Zb,Aw,hx,<- append_assoc]
          rfl
      · rintro σ H4 ⟨v',rfl,sm,h4⟩
        refine ⟨_,_,Y,sm,?_⟩;rw [h4,take_length,Zeq vf hi]
    rintro σ H3 ⟨v,v',rfl,sm3,h3⟩;have yz:ns.take (3 * (ts.map V.ref).length)=ns:=by rw [Ab,wl,<- vf,take_length]
    rw [yz] at h3;have hp3:=sm3 _ _ pj;refine ⟨_,rfl,p,_,dx,_,rfl,hp3,T.ai,T.aE,(by have h1:=Xk "cloths" (.ref D) []; simp only [length_nil] at h1; lia),?_⟩;have old4:∀ b u,b≠p->H2 b=some u->(upd H3 p (.ins t.aa dx (i:))) b=some u:=λb u hb e=>by rw [Zd hb]; exact sm3 b u e
    have hN4:(upd H3 p (.ins t.aa dx (i:))) N=some (.lst (H:)):=by rw [Zd hNp]; exact h3
    have hp4:(upd H3 p (.ins t.aa dx (i:))) p=some (.ins t.aa dx (i:)):=Zb;generalize upd H3 p (.ins t.aa dx (putF "names_at" (.ref N) (putF "cloths" (.ref D) [])))=H4 at old4 hN4 hp4 ⊢;have lk1:(i:).lookup ("names_at":Str)=some (.ref N):=by rw [Z7,if_pos rfl]
    refine ⟨_,Y,p,_,dx,_,_,Y,hp4,T.ai,T.aE,lk1,N,M,ns,Y,hN4,td,hl,λd f H5 sm5 hd5 hd5' sf qo=>?_⟩;have xz:=sm5 _ _ hp4;refine ⟨_,rfl,p,_,dx,_,rfl,xz,T.ai,T.aL,(by have h1:=Xk "cloths" (.ref D) []; have h2:=Xk "names_at" (.ref N) (r:); simp only [length_nil] at h1; lia),?_⟩;have hdp:d≠p:=λz=>by rw [z,hp4] at hd5; cases hd5
    have hfp:∀ x∈keys ns ns.length,f x≠p:=λx hx z=>by have:=qo x hx; rw [z,hp4] at this; cases this
    have yo:∀ b u,b≠p->H4 b=some u->(upd H5 p (.ins t.aa dx (putF "spots" (.ref d) (i:)))) b=some u:=λb u hb e=>by rw [Zd hb]; exact sm5 b u e
    have rq:(upd H5 p (.ins t.aa dx (putF "spots" (.ref d) (i:)))) p=some (.ins t.aa dx (putF "spots" (.ref d) (i:))):=Zb;have zy:(upd H5 p (.ins t.aa dx (putF "spots" (.ref d) (i:)))) d=some (.dK (spk ns ns.length f)):=by rw [Zd hdp]; exact hd5'
    have sf6:SpotsF (upd H5 p (.ins t.aa dx (putF "spots" (.ref d) (i:)))) ns ns.length f:=⟨sf.inj,λx hx=>by rw [Zd (hfp x hx)]; exact sf.at' x hx⟩;generalize upd H5 p (.ins t.aa dx (putF "spots" (.ref d) (putF "names_at" (.ref N) (putF "cloths" (.ref D) []))))=H6 at yo rq zy sf6 ⊢;have lk2:(putF "spots" (.ref d) (i:)).lookup ("spots":Str)=some (.ref d):=by rw [Z7,if_pos rfl]
    have lk3:(putF "spots" (.ref d) (i:)).lookup ("names_at":Str)=some (.ref N):=by rw [Z7,if_neg s_ns,Z7,if_pos rfl]
    have hN6:=yo _ _ hNp hN4;have eln:(((H:).length:Nat):Int)=(ns.length:Nat):=by rw [Ab]
    refine ⟨_,Y,p,_,dx,_,_,Y,rq,T.ai,T.aL,lk2,_,Y,p,_,dx,_,_,Y,rq,T.ai,T.aE,lk3,N,_,Y,.inl (SqL.of hN6),d,M,ns,f,(by rw [eln]; rfl),zy,sf6,td,hl,λm o H7 old7 hm7 hmm yg=>?_⟩;have hpd:p≠d:=Ne.symm hdp;have zn:=old7 _ _ hpd rq;refine ⟨_,rfl,p,_,dx,_,rfl,zn,T.ai,T.dZ,(by have h1:=Xk "cloths" (.ref D) []; have h2:=Xk "names_at" (.ref N) (r:); have h3:=Xk "spots" (.ref d) (i:); simp only [length_nil] at h1; lia),?_⟩;have hmp:m≠p:=λz=>by rw [z,rq] at hm7; cases hm7
    have dN:N≠d:=λz=>by rw [z,zy] at hN6; cases hN6
    have yn:∀ b u,b≠p->b≠d->H6 b=some u->(upd H7 p (.ins t.aa dx (Wc D N d m))) b=some u:=λb u hb hbd e=>by rw [Zd hb]; exact old7 b u hbd e
    have old46:∀ b u,b≠p->H4 b=some u->H6 b=some u/\b≠d:=λb u hb e=>⟨yo b u hb e,λz=>by rw [z,hd5] at e; cases e⟩;have uf:∀ b u,b≠p->H2 b=some u->(upd H7 p (.ins t.aa dx (Wc D N d m))) b=some u:=λb u hb e=>by
      obtain ⟨e6,hbd⟩:=old46 b u hb (old4 b u hb e)
      exact yn b u hb hbd e6
    refine k _ (λb u hb e=>uf b u hb (yp b u hb e)) ⟨dx,D,N,d,m,o,f,Zb,⟨ts,uf _ _ hDp lq,by lia,λk q e=>?_⟩,?_,?_,?_,?_⟩
    · have e1:=xu k q e
      exact uf q _ (λz=>by rw [z,pj] at e1; cases e1) e1
    · exact yn _ _ hNp dN hN6
    · rw [Zd hdp]; exact yg
    · rw [Zd hmp]; exact hmm
    · intro x hx
      have e1:=sf6.at' x hx;exact yn _ _ (hfp x hx) (λz=>by rw [z,zy] at e1; cases e1) e1
noncomputable def Yd (ns:List Int) (x:Int):Str:=match pl ns ns.length x with
 | [a,b]=>if a / 3=b / 3 then "locked" else "free"
 | _=>"rim"
def Znb:Sp:=λvs H Q _=>∃ p:Int,vs=[.int p]/\Q (.int (after p)) H
def Zkx:Sp:=λvs H Q _=>∃ p:Int,vs=[.int p]/\Q (.int (Zu p)) H
def Zhf:Sp:=λvs H Q _=>∃ p:Int,vs=[.int p]/\Q (.int (p / 3)) H
def Ze2 (C:Addr):Sp:=λvs H Q _=>∃ (p:Addr) (M:Lq) (ns:List Int),vs=[.ref p]/\Z3 C H p M ns /\
 ∀ (l:Addr) (ts:List Addr),H l=none->ns.length=3 * ts.length->(∀ (k:Nat) (t:Addr),ts[k]?=some t->H t=some (.tup (row3 ns k)))->Q (.ref l) (upd H l (z:))
def Zdz (C:Addr):Sp:=λvs H Q _=>∃ (p:Addr) (M:Lq) (ns:List Int),vs=[.ref p]/\Z3 C H p M ns/\ns.length < 64 /\
 ∀ (l:Addr) (out:List Int),H l=none->out.Perm (af:)->out.Pairwise (·<=·)->Q (.ref l) (upd H l (.lst (out.map V.int)))
def Gw (C:Addr):Sp:=λvs H Q _=>∃ (p:Addr) (M:Lq) (ns:List Int) (x:Int),vs=[.ref p,.int x]/\Z3 C H p M ns/\Q (.bl (decide (0<=x/\x < ns.length))) H
def Km (C EP:Addr):Sp:=λvs H Q E=>∃ (p:Addr) (M:Lq) (ns:List Int) (x:Int),vs=[.ref p,.int x]/\Z3 C H p M ns/\(0<=x/\x < ns.length->Q .non H)/\(¬ (0<=x/\x < ns.length)->E (.ref EP) none H)
def Zaq (C EP:Addr):Sp:=λvs H Q E=>∃ (p:Addr) (M:Lq) (ns:List Int) (x:Int),vs=[.ref p,.int x]/\Z3 C H p M ns/\(∀ (i:Nat) (y:Int),x=i->ns[i]?=some y->Q (.int y) H)/\(¬ (0<=x/\x < ns.length)->E (.ref EP) none H)
def Ze3 (C EP:Addr):Sp:=λvs H Q E=>∃ (p:Addr) (M:Lq) (ns:List Int) (x:Int),vs=[.ref p,.int x]/\Z3 C H p M ns/\M.length=ns.length/\(∀ (i:Nat) (y:Option Nat),x=i->M[i]?=some y->Q (mV y) H)/\(¬ (0<=x/\x < ns.length)->E (.ref EP) none H)
def Zb4 (C ES:Addr):Sp:=λvs H Q E=>∃ (p:Addr) (M:Lq) (ns:List Int) (x:Int),vs=[.ref p,.int x]/\Z3 C H p M ns/\(x∈keys ns ns.length->∀ l,H l=none->Q (.ref l) (upd H l (.lst ((pl ns ns.length x).map nV))))/\(x ∉ keys ns ns.length->E (.ref ES) none H)
def Zap (C ES:Addr):Sp:=λvs H Q E=>∃ (p:Addr) (M:Lq) (ns:List Int) (x:Int),vs=[.ref p,.int x]/\Z3 C H p M ns/\TD M ns/\(x∈keys ns ns.length->∀ H',Same H H'->Q (.str (Yd ns x)) H')/\(x ∉ keys ns ns.length->E (.ref ES) none H)
def Znf:FnScope ["place"] ["place"] (Zg Zh7):=Am
def Zgf (T:Txt w K mg t):(a:) 1 t.iW t.iZ ["place"] Znb:=by
 refine T.gZ.F.aR Znf (b:)
 ·obtain ⟨p,rfl,k⟩:=h
  refine ⟨_,(Zh (Zl (F2 (Zq Yw (Zj Z6 (pv 0) Zf) Zf (Zr _)) (Zj V4 (pv 0) Zf) (Zj Yl (pv 0) Zf)))),?_⟩;refine ⟨_,Y,_,_,Y,Y,(an:),rfl,_,rfl,?_⟩;refine ite2 (λh=>?_) (λh=>?_)
  ·have h:p % 3=2:=by simpa using h
   refine ⟨_,Y,_,_,Y,Y,?_⟩;have e:after p=p - 2:=if_pos h;rw [e] at k; exact k
  ·have h:¬ p % 3=2:=by simpa using h
   refine ⟨_,Y,_,_,Y,Y,?_⟩;have e:after p=p + 1:=if_neg h;rw [e] at k; exact k
def Zk2:FnScope ["place"] ["place"] (Zg Zfw):=Am
def Zda (T:Txt w K mg t):(a:) 1 t.hV t.iw ["place"] Zkx:=by
 refine T.gf.F.aR Zk2 (b:)
 ·obtain ⟨p,rfl,k⟩:=h
  refine ⟨_,(Zh (Zl (F2 (Zq Yw (Zj Z6 (pv 0) Zf) Zf (Zr _)) (Zj Yl (pv 0) Zf) (Zj V4 (pv 0) Zf)))),?_⟩;refine ⟨_,Y,_,_,Y,Y,(an:),rfl,_,rfl,?_⟩;refine ite2 (λh=>?_) (λh=>?_)
  ·have h:p % 3=0:=by simpa using h
   refine ⟨_,Y,_,_,Y,Y,?_⟩;have e:Zu p=p + 2:=if_pos h;rw [e] at k; exact k
  ·have h:¬ p % 3=0:=by simpa using h
   refine ⟨_,Y,_,_,Y,Y,?_⟩;have e:Zu p=p - 1:=if_neg h;rw [e] at k; exact k
def Zhj:FnScope ["place"] ["place"] (Zg Za3):=Am
def Xx (T:Txt w K mg t):(a:) 1 t.fL t.fW ["place"] Zhf:=by
 refine T.aB.F.aR Zhj (b:)
 ·obtain ⟨p,rfl,k⟩:=h
  refine ⟨_,(Zh (Zl (Zj Y7 (pv 0) Zf))),?_⟩;exact ⟨_,Y,_,_,Y,Y,⟨by decide,by decide⟩,k⟩
def Zfe:FnScope ["self"] ["self"] (Zg Ff):=Am
def V7 (T:Txt w K mg t):(a:) 1 t.eA t.eX ["self"] (Ze2 t.aa):=by
 refine T.aG.F.aR Zfe (b:)
 ·obtain ⟨p,M,ns,rfl,⟨dx,cl,na,sp,mt,o,f,b⟩,k⟩:=h
  refine ⟨_,(Zh (Zl (Ys X3 (by rfl) T.b6 PySem.Pv.boot_list (Za (Zp (pv 0) Y) Zc)))),?_⟩;obtain ⟨ts,h1,h2,h3⟩:=b.rows;exact ⟨_,Y,p,_,dx,_,_,Y,b.ins,T.ai,T.bv,Zmi ..,cl,_,Y,.inl (SqL.of h1),λl hl=>k l ts hl h2 h3⟩
def Zd6:FnScope ["self"] ["self"] (Zg Kw):=Am
def Ke (T:Txt w K mg t):(a:) 1 t.dB t.dM ["self"] (Zdz t.aa):=by
 refine T.aM.F.aR Zd6 (b:)
 ·obtain ⟨p,M,ns,rfl,⟨dx,cl,na,sp,mt,o,f,b⟩,h64,k⟩:=h
  refine ⟨_,(Zh (Zl (Zn (Qc Y) (by rfl) T.bQ PyProof.Rows.boot_sorted (Za (Zp (pv 0) Y) Zc)))),?_⟩;refine ⟨_,rfl,p,_,dx,_,_,rfl,b.ins,T.ai,T.aL,Zag ..,sp,_,keys ns ns.length,rfl,.inr ⟨o,b.spots⟩,?_,by have:=Ud ns ns.length; lia,k⟩;unfold spk; rw [map_map]; rfl
def Gz:FnScope ["self","place"] ["self","place"] (Zg Vs):=Am
def Va (T:Txt w K mg t):(a:) 1 t.bB t.bI ["self","place"] (Gw t.aa):=by
 refine T.az.F.aR Gz (b:)
 ·obtain ⟨p,M,ns,x,rfl,⟨dx,cl,na,sp,mt,o,f,b⟩,k⟩:=h
  refine ⟨_,(Zh (Zl (Zf7 Zjn Qs Zf (pv 1) (Zn Zm (by rfl) T.am PySem.boot_len (Za (Zp (pv 0) Y) Zc))))),?_⟩;refine ⟨_,Y,_,_,Y,Y,_,Y,?_⟩;refine ite2 (λh=>?_) (λh=>?_)
  ·have h:0<=x:=of_decide_eq_true h
   refine ⟨_,Y,p,_,dx,_,_,Y,b.ins,T.ai,T.aE,Zgy ..,na,_,Y,.inl (SqL.of b.names),_,_,Y,Y,?_⟩;have:decide (x < (((H:).length:Nat):Int))=decide (0<=x/\x < (ns.length:Int)):=by rw [Ab]; simp [h]
   show Q (V.bl (decide (x < (((H:).length:Nat):Int)))) H;rw [this]; exact k
  ·have h:¬ 0<=x:=λz=>h (decide_eq_true z)
   have:decide (0<=x/\x < (ns.length:Int))=false:=decide_eq_false λz=>h z.1;rw [this] at k; exact k
def Kr:FnScope ["self","place"] ["self","place"] (Zg Q9):=Am
def Q1 (T:Txt w K mg t):(a:) 2 t.bq t.bt ["self","place"] (Km t.aa t.bF):=by
 refine T.ax.F.aX Kr (b:)
 ·obtain ⟨p,M,ns,x,rfl,ta,k1,k2⟩:=h
  obtain ⟨dx,cl,na,sp,mt,o,f,b⟩:=id ta;refine ⟨_,(Z4 (W6 (J3 (J2 (Yf (pv 0) T.ai T.az.m (Va T) (ai:) T.az.b .nil Z1 (v:)))) (Z4 (Xu T.jf FBV Y T.iS Y (Za Z5 Zc))) X1)),?_⟩;refine ⟨_,Y,p,dx,_,Y,b.ins,Yu _ _ _ _,_,Y,p,M,ns,x,Y,ta,_,Y,?_⟩;by_cases c:0<=x/\x < (ns.length:Int)
  ·rw [decide_eq_true c]
   exact iteF (k1 c)
  ·rw [decide_eq_false c]
   exact iteT ⟨by decide,k2 c⟩
def Zav:FnScope ["self","place"] ["self","place"] (Zg U8):=Am
def J7 (T:Txt w K mg t):(a:) 3 t.cD t.cI ["self","place"] (Zaq t.aa t.bF):=by
 refine T.au.F.aX Zav (b:)
 ·obtain ⟨p,M,ns,x,rfl,ta,k1,k2⟩:=h
  obtain ⟨dx,cl,na,sp,mt,o,f,b⟩:=id ta;refine ⟨_,(Zy (W7 (Vz (pv 0) T.ai T.ax.m (Q1 T) (ai:) T.ax.b .nil (v:)))
   (Z4 (Ye (Zl (Zv Z0 (as:) (pv 1) (j:)))))),?_⟩
  refine ⟨_,Y,p,dx,_,Y,b.ins,Yu _ _ _ _,_,Y,p,M,ns,x,Y,ta,λc=>?_,k2⟩;have hi:x.toNat < ns.length:=by lia
  obtain ⟨y,hy⟩:∃ y,ns[x.toNat]?=some y:=⟨_,Ac hi⟩;have ex:x=(x.toNat:Int):=by lia
  refine ⟨_,Y,p,_,dx,_,_,Y,b.ins,T.ai,T.aE,Zgy ..,_,Y,na,_,_,_,Y,Y,SqL.of b.names,(by rw [ex]; exact Y1 hy),k1 _ _ ex hy⟩
def Zff:FnScope ["self","place"] ["self","place"] (Zg Fg):=Am
def V8 (T:Txt w K mg t):(a:) 3 t.eB t.eY ["self","place"] (Ze3 t.aa t.bF):=by
 refine T.aH.F.aX Zff (b:)
 ·obtain ⟨p,M,ns,x,rfl,ta,j8,k1,k2⟩:=h
  obtain ⟨dx,cl,na,sp,mt,o,f,b⟩:=id ta;refine ⟨_,(Zy (W7 (Vz (pv 0) T.ai T.ax.m (Q1 T) (ai:) T.ax.b .nil (v:)))
   (Z4 (Ye (Zl (Zv Z0 (as:) (pv 1) (j:)))))),?_⟩
  refine ⟨_,Y,p,dx,_,Y,b.ins,Yu _ _ _ _,_,Y,p,M,ns,x,Y,ta,λc=>?_,k2⟩;have hi:x.toNat < M.length:=by lia
  obtain ⟨y,hy⟩:∃ y,M[x.toNat]?=some y:=⟨_,Ac hi⟩;have ex:x=(x.toNat:Int):=by lia
  refine ⟨_,Y,p,_,dx,_,_,Y,b.ins,T.ai,T.dZ,Zog ..,_,Y,mt,_,_,_,Y,Y,SqL.of b.mates,(by rw [ex]; exact Y1 hy),k1 _ _ ex hy⟩
def Zca:FnScope ["self","seam"] ["self","seam"] (Zg Ka):=Am
def Qm (T:Txt w K mg t):(a:) 1 t.cW t.dg ["self","seam"] (Zb4 t.aa t.aT):=by
 refine T.ay.F.aX Zca (b:)
 ·obtain ⟨p,M,ns,x,rfl,ta,k1,k2⟩:=h
  obtain ⟨dx,cl,na,sp,mt,o,f,b⟩:=id ta;have hu:=Xb hr;refine ⟨_,(Zy (W6 (J4 (Q0 hu (pv 1) (Zp (pv 0) Y)) (am:)) (Z4 (Xu T.jt FBV Y T.jg Y (Za Z5 Zc))) X1)
   (Z4 (Ye (Zl (Ys X3 (by rfl) T.b6 PySem.Pv.boot_list (Za (Wy hu (as:) (pv 1) (j:)) Zc)))))),?_⟩
  have hg:DGet H sp (.int x) (if x∈keys ns ns.length then some (V.ref (f x)) else none):=.inl ⟨_,Sum.inl x,.inr ⟨o,b.spots⟩,rfl,by unfold spk; rw [Jd]⟩;refine ⟨_,Y,_,Y,p,_,dx,_,_,Y,b.ins,T.ai,T.aL,Zag ..,sp,_,Y,hg,_,Y,?_⟩;by_cases c:x∈keys ns ns.length
  ·rw [if_pos c] at hg ⊢
   refine iteF ?_;exact ⟨_,Y,p,_,dx,_,_,Y,b.ins,T.ai,T.aL,Zag ..,_,Y,sp,_,Y,hg,f x,_,Y,.inl (SqL.of (b.at' x c)),k1 c⟩
  ·rw [if_neg c] at hg ⊢
   exact iteT ⟨by decide,k2 c⟩
def Uk:FnScope ["self","seam","spots"] ["self","seam"] (Zg U7):=Am
def W3 (T:Txt w K mg t):(a:) 2 t.cE t.cJ ["self","seam"] (Zap t.aa t.aT):=by
 refine T.ao.F.aX Uk (b:)
 ·obtain ⟨p,M,ns,x,rfl,ta,td,k1,k2⟩:=h
  obtain ⟨dx,cl,na,sp,mt,o,f,b⟩:=id ta;refine ⟨_,(Zy (Qg (i:=2) Uk.nd Y (Or.inl Y) (Vz (pv 0) T.ai T.ay.m (Qm T) (ai:) T.ay.b .nil (v:)))
   (Zy (Ye (Z9 (Zq Yw (Zn Zm (by rfl) T.am PySem.boot_len (U:)) Zf (Zr _)) (Zh (Zl Z5)) Zz))
   (Zy (Ye (Z9 (Zq Yw (pcT (Xx T) hr T.aB (Za (Zv Z0 (pv 2) Zf (j:)) Zc)) (pcT (Xx T) hr T.aB (Za (Zv Z0 (pv 2) Zf (j:)) Zc)) (Zr _)) (Zh (Zl Z5)) Zz))
   (Z4 (Ye (Zl Z5)))))),?_⟩
  refine ⟨_,Y,p,dx,_,Y,b.ins,Yu _ _ _ _,_,Y,p,M,ns,x,Y,ta,λc l hl=>?_,k2⟩;have wg:=k1 c _ (Same.new (o:=.lst ((pl ns ns.length x).map nV)) hl);refine ⟨_,Y,l,_,Y,.inl (SqL.of Zb),Y,_,Y,?_⟩
  rcases Vy td c with ⟨a,e,_⟩ | ⟨a,b',kz,e,_⟩
  ·rw [e] at wg ⊢
   refine iteT ?_;have:Yd ns x="rim":=by unfold Yd; rw [e]
   rw [this] at wg;exact wg
  ·rw [e] at wg ⊢
   refine iteF ?_;refine ⟨_,Y,l,_,_,_,Y,Y,SqL.of Zb,Y,_,Y,_,Y,l,_,_,_,Y,Y,SqL.of Zb,Y,_,Y,Y,_,Y,?_⟩;by_cases q:a / 3=b' / 3
   ·have:Yd ns x="locked":=by unfold Yd; rw [e]; exact if_pos q
    rw [this] at wg;rw [decide_eq_true (by congr 1; lia)];exact iteT wg
   ·have:Yd ns x="free":=by unfold Yd; rw [e]; exact if_neg q
    rw [this] at wg;rw [decide_eq_false (λz=>q (by injection z; lia))];exact iteF wg
def Zez (C ES ER EL:Addr):Sp:=λvs H Q E=>∃ (p:Addr) (M:Lq) (ns:List Int) (x:Int),vs=[.ref p,.int x]/\Z3 C H p M ns/\TD M ns /\
 (x∈keys ns ns.length->∀ H',Same H H'->(Yd ns x="rim"->E (.ref ER) none H')/\(Yd ns x="locked"->E (.ref EL) none H')/\(Yd ns x="free"->Q .non H'))/\(x ∉ keys ns ns.length->E (.ref ES) none H)
noncomputable def sqr (a b:Nat):List V:=[.int (after a),.int (Zu a),.int (after b),.int (Zu b)]
def Zkr (C ES ER EL:Addr):Sp:=λvs H Q E=>∃ (p:Addr) (M:Lq) (ns:List Int) (x:Int),vs=[.ref p,.int x]/\Z3 C H p M ns/\TD M ns /\
 (x∈keys ns ns.length->∀ H',Same H H'->(Yd ns x="rim"->E (.ref ER) none H')/\(Yd ns x="locked"->E (.ref EL) none H')/\(∀ a b l,pl ns ns.length x=[a,b]->a < b->M[a]?=some (some b)->a / 3≠b / 3->H l=none->H' l=some (.tup (sqr a b))->Q (.ref l) H'))/\(x ∉ keys ns ns.length->E (.ref ES) none H)
def J0 {M:Lq} {ns:List Int} (td:TD M ns) (hx:x∈keys ns ns.length) :
  (Yd ns x="rim"/\∃ a,pl ns ns.length x=[a]/\M[a]?=some none)\/(Yd ns x="locked"/\∃ a b,a < b/\pl ns ns.length x=[a,b]/\M[a]?=some (some b)/\a / 3=b / 3)\/(Yd ns x="free"/\∃ a b,a < b/\pl ns ns.length x=[a,b]/\M[a]?=some (some b)/\a / 3≠b / 3):=by
 rcases Vy td hx with ⟨a,e,_,ma⟩ | ⟨a,b,kz,e,_,_,ma,_⟩
 ·exact .inl ⟨by unfold Yd; rw [e],a,e,ma⟩
 ·by_cases c:a / 3=b / 3
  ·exact .inr (.inl ⟨by unfold Yd; rw [e]; exact if_pos c,a,b,kz,e,ma,c⟩)
  ·exact .inr (.inr ⟨by unfold Yd; rw [e]; exact if_neg c,a,b,kz,e,ma,c⟩)
def t_rf:¬ (("rim":Str))="free":=by decide
def t_lf:¬ (("locked":Str))="free":=by decide
def t_lr:¬ (("locked":Str))="rim":=by decide
def t_fr:¬ (("free":Str))="rim":=by decide
def t_fl:¬ (("free":Str))="locked":=by decide
def Kk (h:¬ x=y):decide (V.str x=V.str y)=false:=decide_eq_false λz=>h (by injection z)
def Zkm {x:Str}:decide (V.str x=V.str x)=true:=decide_eq_true rfl
def Kp:FnScope ["tent","seam","sort"] ["tent","seam"] (Zg Fb):=Am
def Gb (T:Txt w K mg t):(a:) 3 t.eC t.eZ ["tent","seam"] (Zez t.aa t.aT t.gI t.bG):=by
 refine T.cN.F.aX Kp (b:)
 ·obtain ⟨p,M,ns,x,rfl,ta,td,k1,k2⟩:=h
  obtain ⟨dx,cl,na,sp,mt,o,f,b⟩:=id ta;refine ⟨_,(Zy (Qg (i:=2) Kp.nd Y (Or.inl Y) (Vz (pv 0) T.ai T.ao.m (W3 T) (ai:) T.ao.b .nil (v:)))
   (Zy (W6 (Zq Yw (pv 2) Z5 (Zr _)) (Z4 (Xu T.jM FBV rfl T.jJ rfl (Za Z5 Zc))) X1)
   (Z4 (W6 (Zq Yw (pv 2) Z5 (Zr _)) (Z4 (Xu T.ju FBV rfl T.jh rfl (Za Z5 Zc))) X1)))),?_⟩
  refine ⟨_,Y,p,dx,_,Y,b.ins,Yu _ _ _ _,_,Y,p,M,ns,x,Y,ta,td,λc H' sm=>?_,k2⟩;obtain ⟨j1,j2,j3⟩:=k1 c H' sm;refine ⟨_,Y,Y,_,Y,?_⟩
  rcases J0 td c with ⟨e,_⟩ | ⟨e,_⟩ | ⟨e,_⟩
  ·rw [e,Zkm]
   exact iteT ⟨by decide,j1 e⟩
  ·rw [e,Kk t_lr]
   refine iteF ⟨_,Y,Y,_,Y,?_⟩;rw [Zkm];exact iteT ⟨by decide,j2 e⟩
  ·rw [e,Kk t_fr]
   refine iteF ⟨_,Y,Y,_,Y,?_⟩;rw [Kk t_fl];exact iteF (j3 e)
def Ko:FnScope ["tent","seam","lesser","greater"] ["tent","seam"] (Zg Zfk):=Am
def Ga (T:Txt w K mg t):(a:) 4 t.hX t.ix ["tent","seam"] (Zkr t.aa t.aT t.gI t.bG):=by
 refine T.d0.F.aX Ko (b:)
 ·obtain ⟨p,M,ns,x,rfl,ta,td,k1,k2⟩:=h
  refine ⟨_,(Zy (W7 (pxT (Gb T) hr T.cN (Za (pv 0) (v:))))
   (Zy (Ye (Xt (Yf (pv 0) T.ai T.ay.m (Qm T) (ai:) T.ay.b .nil Z1 (v:)) (Zlg rfl (Zw (Zk (i:=2) Ko.nd rfl (g:)) (Zw (Zk (i:=3) Ko.nd rfl (g:)) Yz)))))
   (Z4 (Ye (Zl (Xg (Za (pcT (Zgf T) hr T.gZ (U:)) (Za (pcT (Zda T) hr T.gf (U:)) (Za (pcT (Zgf T) hr T.gZ (Za (pv 3) Zc)) (Za (pcT (Zda T) hr T.gf (Za (pv 3) Zc)) Zc)))))))))),?_⟩;refine ⟨_,Y,_,Y,p,M,ns,x,Y,ta,td,λc H' sm=>⟨(k1 c H' sm).1,(k1 c H' sm).2.1,λe=>?_⟩,k2⟩;obtain ⟨a,b,kz,ep,em,ne⟩:∃ a b,a < b/\pl ns ns.length x=[a,b]/\M[a]?=some (some b)/\a / 3≠b / 3:=by
   rcases J0 td c with ⟨e',_⟩ | ⟨e',_⟩ | ⟨e',q⟩
   ·exact absurd (e'.symm.trans e) t_rf
   ·exact absurd (e'.symm.trans e) t_lf
   ·exact q
  have w8:=ta.same sm;obtain ⟨dx,cl,na,sp,mt,o,f,B⟩:=id w8;refine ⟨_,Y,p,dx,_,Y,B.ins,Yu _ _ _ _,_,Y,p,M,ns,x,Y,w8,λ_ l hl=>?_,λz=>absurd c z⟩;rw [ep];refine ⟨l,_,Y,SqL.of Zb,Y,_,_,Y,_,_,Y,Y,?_⟩;refine ⟨_,Y,_,Y,?_⟩;refine ⟨_,Y,_,Y,?_⟩;refine ⟨_,Y,_,Y,?_⟩;refine ⟨_,Y,_,Y,?_⟩;refine ⟨(by show 4<=sizeLine; decide),λq hq=>?_⟩;obtain ⟨hql,mn⟩:=Y9 hq;exact (k1 c _ (Same.add (Same.add sm (sm.free hl)) (sm.free mn))).2.2 a b q ep kz em ne (sm.free mn) Zb
def Zpj:Sp:=λvs H Q _=>∃ (r:Addr) (ns:List Int) (i:Nat) (x:Int),vs=[.ref r,.int i]/\Yq H r ns/\ns[i]?=some x/\Q (.int x) H
noncomputable def Jn (M:Lq) (i:Nat):Bool:=match M[i]? with
 | some (some j)=>decide (i < j) && decide (i / 3≠j / 3)
 | _=>false
noncomputable def Uw (M:Lq) (i:Nat):Bool:=match M[i]? with
 | some (some j)=>decide (i < j)
 | _=>false
noncomputable def lowL (M:Lq) (n:Nat):List Nat:=(List.range n).filter (Uw M)
noncomputable def Xo (M:Lq):List Nat:=(List.range M.length).filter (Jn M)
def Zpl:Sp:=λvs H Q _=>∃ (m:Addr) (M:Lq),vs=[.ref m]/\H m=some (aw:)/\M.length<=1000/\(V:) /\
 ∀ (l:Addr) (H':Hp),Same H H'->H l=none->H' l=some (.lst ((Xo M).map nV))->Q (.ref l) H'
def Zky:Sp:=λvs H Q _=>∃ (m:Addr) (M:Lq) (i j:Nat),vs=[.ref m,.int i]/\H m=some (aw:)/\M[i]?=some (some j) /\
 ∀ (l:Addr) (H':Hp),Same H H'->H l=none->H' l=some (.lst (sqr i j))->Q (.ref l) H'
def Zfy {ns:List Int} {i:Nat} (h:Yq H r ns) (hx:ns[i]?=some x):∃ ts:List Addr,∃ q,H r=some (z:)/\ts[i / 3]?=some q/\H q=some (.tup (row3 ns (i / 3)))/\(row3 ns (i / 3))[i % 3]?=some (V.int x):=by
 obtain ⟨ts,h1,h2,h3⟩:=h;have hi:i < ns.length:=(Aa hx).1;have hk:i / 3 < ts.length:=by lia
 refine ⟨ts,ts[i / 3],h1,Ac hk,h3 _ _ (Ac hk),?_⟩;have g:∀ j,ns[j]?=some x->ns.getD j 0=x:=λj hj=>by rw [Ad,hj]; rfl
 have hm:i % 3=0\/i % 3=1\/i % 3=2:=by lia
 rcases hm with m | m | m
 ·have:3 * (i / 3)=i:=by lia
  rw [m]; show some (V.int (ns.getD (3 * (i / 3)) 0))=_; rw [this,g i hx]
 ·have:3 * (i / 3) + 1=i:=by lia
  rw [m]; show some (V.int (ns.getD (3 * (i / 3) + 1) 0))=_; rw [this,g i hx]
 ·have:3 * (i / 3) + 2=i:=by lia
  rw [m]; show some (V.int (ns.getD (3 * (i / 3) + 2) 0))=_; rw [this,g i hx]
def div3 (i:Nat):(i:Int) / 3=((i / 3:Nat):Int):=by lia
def mod3 (i:Nat):(i:Int) % 3=((i % 3:Nat):Int):=by lia
def Zka (i:Nat):(i:Int) - (i:Int) % 3 + ((i:Int) + 1) % 3=after i:=by unfold after; split <;> lia
def Zhy (i:Nat):(i:Int) - (i:Int) % 3 + ((i:Int) + 2) % 3=Zu i:=by unfold Zu; split <;> lia
def sp_law (K:W.Frag):Sp:=λvs H Q _=>∃ (a:Addr) (ns:List Int),vs=[.ref a]/\SqL K H a (H:)/\ns.length<=63/\∀ H',Q (.bl true) H'
def sp_law_start {ns:List Int} (hl:ns.length<=63) (hS:SqL K H a (H:)):sp_law K [.ref a] H (λv _=>v=.bl true) λ_ _ _=>False:=⟨a,ns,rfl,hS,hl,λ_=>rfl⟩
def Yq.copy {ns:List Int} {ts:List Addr} (h1:H r=some (z:)) (h2:ns.length=3 * ts.length) (h3:∀ (k:Nat) (t:Addr),ts[k]?=some t->H t=some (.tup (row3 ns k))) (hl:H l=none):Yq (upd H l (z:)) l ns :=
 ⟨ts,Zb,h2,λk q e=>by rw [Zd (Zi (h3 k q e) hl)]; exact h3 k q e⟩
def Zgv {M:Lq} {i:Nat} (h:i∈Xo M):∃ j,M[i]?=some (some j)/\i < j/\i / 3≠j / 3:=by
 have:=(mem_filter.mp h).2;unfold Jn at this;split at this
 ·rename_i j hj
  simp at this;exact ⟨j,hj,this.1,this.2⟩
 ·cases this
def Zk9 {M:Lq} {ns:List Int} (td:TD M ns) {i j:Nat} {x:Int} (hm:M[i]?=some (some j)) (vh:i < j) (hx:ns[i]?=some x):x∈keys ns ns.length/\pl ns ns.length x=[i,j]:=by
 have hi:i < ns.length:=(Aa hx).1;have hk:x∈keys ns ns.length:=Y2.mpr ⟨i,hi,hx⟩;have mi:i∈pl ns ns.length x:=Xf.mpr ⟨hi,hx⟩;refine ⟨hk,?_⟩
 rcases Vy td hk with ⟨a,e,_,ma⟩ | ⟨a,b,kz,e,_,_,ma,mb⟩
 ·rw [e,mem_singleton] at mi
  subst mi;rw [hm] at ma; cases ma
 ·rw [e] at mi
  rcases Ar mi with z | z
  ·subst z
   rw [hm] at ma;cases ma;exact e
  ·have z:i=b:=by simpa using z
   subst z;rw [hm] at mb;cases mb;lia
def Zm5 {ns:List Int} {ts:List Addr} (g1:H1 r=some (z:)) (g2:ns.length=3 * ts.length) (g3:∀ (k:Nat) (t:Addr),ts[k]?=some t->H1 t=some (.tup (row3 ns k)))
  (l7:H1 l=none) (hx:upd H1 l (z:) x=none) (hdx:upd H1 l (z:) dx=none) :
  Yq (upd (upd (upd H1 l (z:)) dx (.own x)) x (.ins C dx [])) l ns/\Same (upd H1 l (z:)) (upd (upd (upd H1 l (z:)) dx (.own x)) x (.ins C dx [])):=by
 have s:Same (upd H1 l (z:)) (upd (upd (upd H1 l (z:)) dx (.own x)) x (.ins C dx [])):=Same.add (Same.new hdx) hx;exact ⟨(Yq.copy g1 g2 g3 l7).same s,s⟩
def Zct {a b:List Int} (h1:a.Perm c) (h2:b.Perm c) (s1:a.Pairwise (·<=·)) (s2:b.Pairwise (·<=·)):a=b :=
 (h1.trans h2.symm).eq_of_pairwise (λx y _ _ h1 h2=>Int.le_antisymm h1 h2) s1 s2
def Zk0:FnScope ["_law_rows_here","_law_place"] ["_law_rows_here","_law_place"] (Zg Zfs):=Am
def Zc9 (T:Txt w K mg t):(a:) 1 t.iq t.iH ["_law_rows_here","_law_place"] Zpj:=by
 refine T.gr.F.aR Zk0 (b:)
 ·obtain ⟨r,ns,i,x,rfl,nh,hx,k⟩:=h
  refine ⟨_,(Zh (Zl (Zv Yp (Zv Z0 (pv 0) (Zj Y7 (pv 1) Zf) (j:)) (Zj Z6 (pv 1) Zf) (j:)))),?_⟩;obtain ⟨ts,q,e1,e2,e3,e4⟩:=Zfy nh hx;refine ⟨_,Y,_,Y,_,_,Y,Y,⟨by decide,by decide⟩,r,_,_,_,Y,Y,SqL.of e1,(by rw [div3]; exact Y1 e2),_,Y,_,_,Y,Y,(an:),q,_,_,_,rfl,rfl,SqT.of e3,(by rw [mod3]; exact Xq e4),k⟩
def Uy:FnScope ["_law_mates","_law_place","_law_row","_law_side"] ["_law_mates","_law_place"] (Zg Za1):=Am
def Zhp (T:Txt w K mg t):(a:) 1 t.fU t.gc ["_law_mates","_law_place"] Zky:=by
 refine T.gs.F.aR Uy (b:)
 ·obtain ⟨m,M,i,j,rfl,hm,vh,k⟩:=h
  refine ⟨_,(Ze (Zs (i:=2) Uy.nd Y (Or.inl Y) (Yr Zc))
   (Ze (Xr PassesOwn.never rfl (Yx (Yr (Za (pv 1) (Za (Zv Z0 (pv 0) (pv 1) (j:)) Zc)))) (Zk (i:=3) Uy.nd rfl (g:)) (Ze (Z8 (X5 PySem.F.plainAttrs_list PySem.F.slot_list_append PySem.F.type_list_append Y6 (pv 2) (Za (Zj Yl (Zj V4 (pv 3) (Zj Z6 (pv 3) Zf)) (Zj Z6 (Zj Yl (pv 3) Zf) Zf)) Zc)))
   (Zh (Z8 (X5 PySem.F.plainAttrs_list PySem.F.slot_list_append PySem.F.type_list_append Y6 (pv 2) (Za (Zj Yl (Zj V4 (pv 3) (Zj Z6 (pv 3) Zf)) (Zj Z6 (Zj Yl (pv 3) Zf) Zf)) Zc))))))
   (Zh (Zl (pv 2))))),?_⟩;refine ⟨Az _,λr ox=>?_⟩;have hmr:m≠r:=Zi hm ox;dsimp only [Zo];show tSeq (tFor _ _ _) _ _ _ _;refine Yc (λσ H1=>∃ v,σ=[some (.ref m),some (.int i),some (.ref r),v]/\Same H H1/\H1 r=some (.lst (sqr i j))) (ab:) ?_
  ·refine ⟨_,Y,_,Y,_,Y,m,_,_,_,Y,Y,SqL.of (by rw [Zd hmr]; exact hm),Y1 vh,(bb:),λq hq=>?_⟩
   obtain ⟨hqr,xw⟩:=Y9 hq;refine ⟨q,Y,⟨_,SqL.of Zb⟩,?_⟩;refine Zae (xs:=[V.int i,V.int j]) (λn σ H1=>∃ v,σ=[some (.ref m),some (.int i),some (.ref r),v]/\Same H H1/\H1 q=some (.lst [V.int i,V.int j])/\H1 r=some (.lst ((sqr i j).take (2 * n)))) ⟨none,Y,Same.add (Same.new ox) xw,Zb,by rw [Zd (Ne.symm hqr),Zb]; rfl⟩ ?_ ?_ ?_
   ·rintro n σ H1 _ ⟨v,rfl,sm,h1,h2⟩
    exact SqL.of h1
   ·rintro n x σ H1 hx ⟨v,rfl,sm,h1,h2⟩
    have lt:∀ z:Nat,z<=4->((sqr i j).take z).length < sizeLine:=λz hz=>by rw [Ai]; exact Zt (by lia)
    dsimp only [Zo]
    obtain ⟨c,rfl⟩:∃ c:Nat,x=V.int c:=by
     match n,hx with
     | 0,hx=>exact ⟨i,(Ax hx).symm⟩
     | 1,hx=>exact ⟨j,(Ax hx).symm⟩
    refine ⟨_,Y,.inl ⟨Y,_,SqL.of h2⟩,_,Y,_,Y,_,_,Y,Y,(an:),_,_,rfl,rfl,_,rfl,_,_,rfl,rfl,_,_,rfl,rfl,(an:),_,_,rfl,rfl,r,_,_,rfl,rfl,h2,lt _ (by have:=(Aa hx).1; simp at this; lia),?_⟩;refine ⟨_,Y,.inl ⟨Y,_,SqL.of Zb⟩,_,Y,_,Y,_,_,Y,Y,(an:),_,_,rfl,rfl,_,rfl,_,_,rfl,rfl,_,_,rfl,rfl,(an:),_,_,rfl,rfl,r,_,_,rfl,rfl,Zb,?_,?_⟩
    ·rw [Ae,Ai]; exact Zt (by simp [sqr]; lia)
    ·refine ⟨_,Y,Same.add (Same.add sm ox) ox,?_,?_⟩
     ·rw [Zd hqr,Zd hqr]; exact h1
     ·rw [Zb]
      dsimp only;rw [Zka,Zhy]
      match n,hx with
      | 0,hx =>
       have e:i=c:=by have e:=Ax hx; injection e with e; lia
       subst e; rfl
      | 1,hx =>
       have e:j=c:=by have e:=Ax hx; injection e with e; lia
       subst e; rfl
   ·rintro σ H1 ⟨v,rfl,sm,h1,h2⟩
    exact kh _ _ ⟨v,Y,sm,h2⟩
  rintro σ H1 ⟨v,rfl,sm,h2⟩;exact ⟨_,Y,k r H1 sm ox h2⟩
def Zac (M:Lq) (n:Nat):lowL M (n + 1)=if Uw M n=true then lowL M n ++ [n] else lowL M n:=by
 unfold lowL;rw [range_succ,filter_append];by_cases c:Uw M n=true
 ·simp [c]
 ·simp [c]
def Zl7 (M:Lq) (n:Nat):(lowL M n).length<=n:=by
 unfold lowL;exact Nat.le_trans (length_filter_le _ _) (by simp)
def Zoc (M:Lq):(lowL M M.length).filter (Jn M)=Xo M:=by
 unfold lowL Xo;rw [filter_filter];congr 1;funext i;unfold Jn Uw
 cases M[i]? with
 | none=>rfl
 | some o=>cases o with
  | none=>rfl
  | some j=>by_cases c:i < j <;> simp [c]
def Zgz {α:Type} {p:α->Bool} {l:List α} {i:Nat} {x:α} (h:l[i]?=some x):(l.take (i + 1)).filter p=if p x=true then (l.take i).filter p ++ [x] else (l.take i).filter p:=by
 rw [Aw,h,filter_append];by_cases c:p x=true
 ·simp [c]
 ·simp [c]
def Zcv:FnScope ["_law_mates","_law_row"] ["_law_mates"] (Zg Zfu):=Am
def Ge (T:Txt w K mg t):(a:) 1 t.ip t.iG ["_law_mates"] Zpl:=by
  refine T.d6.F.aR Zcv (b:)
  · obtain ⟨m,M,rfl,hm,hl,inv,k⟩:=h
    refine ⟨_,(Ze (Xv (ts:=["_law_p"]) (fv:=[("_law_mates",0)]) (i:=1) (c:) rfl Zcv.nd rfl rfl (by rfl) (Xw rfl T.aD (Za (k:) Zc)) (aj:) (λ_ _ _ _=>(Ju (PW.pt (K5 (Zq Ql (Zv (X2 K) (pv 1) (pv 0) (j:)) Wl (Zr _)) (Oa (Zq Qs (pv 0) (Zv (X2 K) (pv 1) (pv 0) (j:)) (Zr _))))))) (N:) (λ_ _ _ _ _ _=>Yj (pv 0)))
      (Zh (Zl (Yv (ts:=["_law_p"]) (fv:=[("_law_mates",0)]) (c:) rfl (Yx (pv 1)) (aj:) (λ_ _ _ _=>(Ju (Zq Zeh (Zj Y7 (pv 0) Zf) (Zj Y7 (Zv (X2 K) (pv 1) (pv 0) (j:)) Zf) (Zr _)))) (N:) (λ_ _ _ _ _ _=>Yj (pv 0)))))),?_⟩;refine ⟨_,Y,m,_,Y,.inl (SqL.of hm),_,Y,by lia,by rw [Ab]; lia,λD hD=>?_⟩;have eL:(ao:).toNat=M.length:=by simp
    rw [eL];refine J9 (λi σ H1=>∃ v,σ=[v,some (.ref m)]/\Same H H1/\H1 D=some (.lst ((lowL M i).map nV))) (ag:) ?_ ?_
    · rintro i σ H1 kl ⟨v,rfl,sm,h1⟩
      have e0:(0 + (i:Int))=(i:Int):=Int.zero_add _;dsimp only [Zo];rw [e0];obtain ⟨y,hy⟩:∃ y,M[i]?=some y:=⟨_,Ac kl⟩;have at':=Y1 (f:=mV) hy;have lt:((lowL M i).map nV).length < sizeLine:=by rw [Ab]; exact Zt (by have:=Zl7 M i; lia)
      refine ⟨_,Y,_,Y,m,_,_,_,Y,Y,SqL.of (sm _ _ hm),at',Y,_,Y,?_⟩
      cases y with
      | none =>
        refine iteF (iteF ⟨_,Y,sm,?_⟩);rw [h1,Zac,if_neg (by unfold Uw; rw [hy]; simp)]
      | some j =>
        refine iteT ⟨_,Y,_,Y,_,Y,m,_,_,_,Y,Y,SqL.of (sm _ _ hm),at',_,_,Y,Y,_,Y,?_⟩;by_cases c:i < j
        · rw [decide_eq_true (by lia:(i:Int) < (j:Int))]
          refine iteT ⟨_,Y,_,h1,lt,_,Y,Same.add sm hD,?_⟩;rw [Zb,Zac,if_pos (by unfold Uw; rw [hy]; simp [c]),Aj];rfl
        · rw [decide_eq_false (by lia:¬ (i:Int) < (j:Int))]
          refine iteF ⟨_,Y,sm,?_⟩;rw [h1,Zac,if_neg (by unfold Uw; rw [hy]; simp [c])]
    rintro σ H1 ⟨v,rfl,sm,h1⟩;refine ⟨_,Y,D,Y,⟨_,SqL.of h1⟩,λD2 lq=>?_⟩;have hD20:H D2=none:=sm.free lq;refine Ym (xs:=(lowL M M.length).map nV) (λi σ H2=>∃ v,σ=[v,some (.ref m)]/\Same H1 H2/\H2 D2=some (.lst ((((lowL M M.length).take i).filter (Jn M)).map nV))) ⟨none,Y,Same.new lq,Zb⟩ ?_ ?_ ?_
    · rintro i σ H2 _ ⟨v,rfl,qi,h2⟩
      exact SqL.of (qi _ _ h1)
    · rintro i x σ H2 hx ⟨v,rfl,qi,h2⟩
      obtain ⟨p,hp,rfl⟩:=map_some hx;have zm:p∈lowL M M.length:=Au hp
      obtain ⟨j,hj,hpj⟩:∃ j,M[p]?=some (some j)/\p < j:=by
        have:=(mem_filter.mp zm).2;unfold Uw at this;split at this
        · rename_i j hj; exact ⟨j,hj,of_decide_eq_true this⟩
        · cases this
      have lt:((((lowL M M.length).take i).filter (Jn M)).map nV).length < sizeLine:=by
        rw [Ab];exact Zt (by
          have h1:=length_filter_le (Jn M) ((lowL M M.length).take i)
          have h2:=length_take_le i (lowL M M.length)
          have h3:=length_take_le' i (lowL M M.length)
          have h4:=Zl7 M M.length
          lia)
      dsimp only [Zo];refine ⟨_,Y,_,_,Y,Y,⟨by decide,by decide⟩,_,Y,_,Y,m,_,_,_,Y,Y,SqL.of (qi _ _ (sm _ _ hm)),Y1 hj,_,_,Y,Y,⟨by decide,by decide⟩,Y,_,Y,?_⟩;by_cases c:p / 3=j / 3
      · rw [show (!decide (V.int ((p:Int) / 3)=V.int ((j:Int) / 3)))=false by
          rw [show (p:Int) / 3=(j:Int) / 3 by lia]; simp]
        refine iteF ⟨_,Y,qi,?_⟩;rw [h2,Zgz hp,if_neg (by unfold Jn; rw [hj]; simp [c])]
      · rw [show (!decide (V.int ((p:Int) / 3)=V.int ((j:Int) / 3)))=true by
          rw [decide_eq_false (λz=>c (by injection z; lia))]; rfl]
        refine iteT ⟨_,Y,_,h2,lt,_,Y,Same.add qi lq,?_⟩;rw [Zb,Zgz hp,if_pos (by unfold Jn; rw [hj]; simp [c,hpj]),Aj];rfl
    rintro σ H2 ⟨v,rfl,qi,h2⟩;rw [Ab,take_length,Zoc] at h2;exact k D2 H2 (sm.trans qi) hD20 h2
noncomputable def isL (ku:Str):Bool:=decide (ku="left")
def Zhc (EW:Addr):Sp:=λvs H Q E=>∃ ku:Str,vs=[.str ku]/\(ku="left"\/ku="right"->Q .non H)/\(¬ (ku="left"\/ku="right")->E (.ref EW) none H)
structure Wrong (EW ES ER EL:Addr) (M:Lq) (ns:List Int) (x:Int) (ku:Str) (H:Hp) (E:XK) (G:Nat->Nat->Hp->Prop):Prop where
 noway:¬ (ku="left"\/ku="right")->E (.ref EW) none H
 seam:ku="left"\/ku="right"->x ∉ keys ns ns.length->E (.ref ES) none H
 rim:ku="left"\/ku="right"->∀ H',Same H H'->x∈keys ns ns.length->Yd ns x="rim"->E (.ref ER) none H'
 lock:ku="left"\/ku="right"->∀ H',Same H H'->x∈keys ns ns.length->Yd ns x="locked"->E (.ref EL) none H'
 go:ku="left"\/ku="right"->∀ a b H',Same H H'->pl ns ns.length x=[a,b]->a < b->M[a]?=some (some b)->a / 3≠b / 3->G a b H'
def Zks (C EW ES ER EL:Addr):Sp:=λvs H Q E=>∃ (p:Addr) (M:Lq) (ns:List Int) (x:Int) (ku:Str),vs=[.ref p,.int x,.str ku]/\Z3 C H p M ns/\TD M ns /\
 Wrong EW ES ER EL M ns x ku H E λa b H'=>∀ l,H l=none->H' l=some (.dK (glV (isL ku) a b))->Q (.ref l) H'
def Zem (ku:Str):(valV [((Sum.inr "left":Key),V.str "right"),(Sum.inr "right",V.str "left")] (Sum.inr ku)).isSome=true ↔ ku="left"\/ku="right":=by
 unfold valV;by_cases c1:ku="left"
 ·subst c1; simp
 ·by_cases c2:ku="right"
  ·subst c2
   simp [find?_cons];split <;> simp
  ·have n1:¬ (Sum.inr "left":Key)=Sum.inr ku:=λz=>c1 (by injection z with z; exact z.symm)
   have n2:¬ (Sum.inr "right":Key)=Sum.inr ku:=λz=>c2 (by injection z with z; exact z.symm);simp [find?_cons,n1,n2,c1,c2]
def Zhi:FnScope ["way"] ["way"] (Zg Zaz):=Am
def Zhm (T:Txt w K mg t):(a:) 1 t.fO t.fZ ["way"] (Zhc t.dJ):=by
 refine T.gk.F.aX Zhi (b:)
 ·obtain ⟨ku,rfl,k1,k2⟩:=h
  refine ⟨_,(Z4 (W6 (J4 (Zlk (pv 0) (Jw (v:=.ref t.aJ) Y T.eg Y)) (am:)) (Z4 (Xu T.jB FBV Y T.jv Y (Za Z5 Zc))) X1)),?_⟩;refine ⟨_,Y,t.aJ,_,Sum.inr ku,Y,T.eu,Y,_,Y,?_⟩;by_cases c:ku="left"\/ku="right"
  ·rw [(Zem ku).mpr c]
   exact iteF (k1 c)
  ·have:(valV [((Sum.inr "left":Key),V.str "right"),(Sum.inr "right",V.str "left")] (Sum.inr ku)).isSome=false:=by
    rw [Bool.eq_false_iff]; exact λz=>c ((Zem ku).mp z)
   rw [this];exact iteT ⟨by decide,k2 c⟩
def Qx:FnScope ["tent","seam","way","a","b","c","d"] ["tent","seam","way"] (Zg Zfl):=Am
def Zc8 (T:Txt w K mg t):(a:) 5 t.ic t.iy ["tent","seam","way"] (Zks t.aa t.dJ t.aT t.gI t.bG):=by
 refine T.gm.F.aX Qx (b:)
 ·obtain ⟨p,M,ns,x,ku,rfl,ta,td,W⟩:=h
  refine ⟨_,(Zy (W7 (pxT (Zhm T) hr T.gk (U:)))
   (Zy (Zpv (pxT (Ga T) hr T.d0 (Za (pv 0) (v:))) (Ww rfl (Zw (Zk (i:=3) Qx.nd rfl (g:)) (Zw (Zk (i:=4) Qx.nd rfl (g:)) (Zw (Zk (i:=5) Qx.nd rfl (g:)) (Zw (Zk (i:=6) Qx.nd rfl (g:)) Yz))))))
   (Zy (Ye (Z9 (Zq Yw (pv 2) Z5 (Zr _)) (Zh (Zl (Zii (W8 (pv 3) (pv 6) (W8 (pv 6) (pv 5) (W8 (pv 5) (pv 4) (W8 (pv 4) (pv 3) Zic)))) rfl rfl (cons_ne_nil _ _) (d:)))) Zz))
   (Z4 (Ye (Zl (Zii (W8 (pv 3) (pv 4) (W8 (pv 4) (pv 5) (W8 (pv 5) (pv 6) (W8 (pv 6) (pv 3) Zic)))) rfl rfl (cons_ne_nil _ _) (d:)))))))),?_⟩;refine ⟨_,Y,ku,Y,λhw=>?_,W.noway⟩;refine ⟨_,Y,_,Y,p,M,ns,x,Y,ta,td,λc H' sm=>⟨λe=>W.rim hw H' sm c e,λe=>W.lock hw H' sm c e,λa b l e1 e2 e3 e4 e5 e6=>?_⟩,λc=>W.seam hw c⟩;refine ⟨l,_,Y,SqT.of e6,Y,_,_,Y,_,_,Y,_,_,Y,_,_,Y,Y,?_⟩;refine ⟨_,Y,Y,_,Y,?_⟩;by_cases c:ku="left"
  ·have cl:isL ku=true:=decide_eq_true c
   have:=λyl pi=>W.go hw a b yl pi e1 e2 e3 e4;rw [cl] at this;rw [decide_eq_true (show V.str ku=V.str "left" by rw [c])];refine iteT ?_;intro d hd;refine ⟨_,Y,_,Y,_,Y,_,Y,_,Y,_,Y,_,Y,_,Y,Zb,glV true a b,?_,?_,?_⟩
   ·rw [Zgt e4]; rfl
   ·rw [Zgt e4]; show 4<=15; decide
   ·rw [Zgo e4]
    exact this _ (Same.add (Same.add sm (sm.free hd)) (sm.free hd)) d (sm.free hd) Zb
  ·have cl:isL ku=false:=decide_eq_false c
   have:=λyl pi=>W.go hw a b yl pi e1 e2 e3 e4;rw [cl] at this;rw [Kk c];refine iteF ?_;intro d hd;refine ⟨_,Y,_,Y,_,Y,_,Y,_,Y,_,Y,_,Y,_,Y,Zb,glV false a b,?_,?_,?_⟩
   ·rw [Zdh e4]; rfl
   ·rw [Zdh e4]; show 4<=15; decide
   ·rw [Zgo e4]
    exact this _ (Same.add (Same.add sm (sm.free hd)) (sm.free hd)) d (sm.free hd) Zb
noncomputable def wayS (left:Bool):Str:=if left then "left" else "right"
def Zq1 (left:Bool):wayS left="left"\/wayS left="right":=by cases left <;> simp [wayS]
def Zh0 (left:Bool):isL (wayS left)=left:=by cases left <;> decide
def Zrl:Sp:=λvs H Q _=>∃ left:Bool,vs=[.bl left]/\Q (.str (wayS left)) H
def Zm9:Sp:=λvs H Q _=>∃ (m:Addr) (M:Lq) (n i j:Nat) (left:Bool),vs=[.ref m,.int i,.bl left]/\H m=some (aw:)/\M.length=3 * n/\n<=40/\M[i]?=some (some j)/\M[j]?=some (some i)/\i / 3≠j / 3 /\
 ∀ (l:Addr) (H':Hp),Same H H'->H l=none->H' l=some (.lst (((List.range M.length).map λ(z:Nat)=>mvI left i j (z:Int)).map V.int))->Q (.ref l) H'
noncomputable def sqI (i j:Nat):List Int:=[after i,Zu i,after j,Zu j]
noncomputable def gst (left:Bool) (i j n k:Nat):List Int:=(List.range n).map λ(z:Nat)=>if (z:Int)∈(sqI i j).take k then mvI left i j (z:Int) else (z:Int)
def Zn9 (left:Bool) (i j n:Nat):gst left i j n 0=(List.range n).map λ(z:Nat)=>(z:Int):=by unfold gst; simp
def Zqh (left:Bool) (i j n:Nat):gst left i j n 4=(List.range n).map λ(z:Nat)=>mvI left i j (z:Int):=by
 unfold gst;apply map_congr_left;intro z _;by_cases c:(z:Int)∈(sqI i j).take 4
 ·rw [if_pos c]
 ·rw [if_neg c]
  have n1:¬ (z:Int)=after i:=λe=>c (by unfold sqI; simp [e]);have n2:¬ (z:Int)=Zu j:=λe=>c (by unfold sqI; simp [e]);have n3:¬ (z:Int)=after j:=λe=>c (by unfold sqI; simp [e]);have n4:¬ (z:Int)=Zu i:=λe=>c (by unfold sqI; simp [e]);unfold mvI;rw [if_neg n1,if_neg n2,if_neg n3,if_neg n4]
def Zoa {left:Bool} {i j n k q:Nat} (h:(sqI i j)[k]?=some (q:Int)) (hq:q < n):(gst left i j n k).set q (mvI left i j (q:Int))=gst left i j n (k + 1):=by
 apply ext_getElem?;intro z;unfold gst;by_cases c:z=q
 ·subst c
  rw [getElem?_set_self (by simpa using hq),Ah,getElem?_range hq];have:(z:Int)∈(sqI i j).take (k + 1):=by rw [Aw,h]; simp
  simp only [Option.map_some,this,if_true]
 ·rw [getElem?_set_ne (Ne.symm c),Ah,Ah]
  by_cases d:z < n
  ·rw [getElem?_range d]
   have:(z:Int)∈(sqI i j).take (k + 1) ↔ (z:Int)∈(sqI i j).take k:=by
    have c':¬ (z:Int)=(q:Int):=by lia
    rw [Aw,h];simp [c']
   simp only [Option.map_some,this]
  ·rw [Ay (by simpa using d)]
   rfl
def Zsy {i j:Nat} (h:i / 3≠j / 3) (left:Bool) {k:Nat} (hk:k < 4):atI (sqr i j) ((if left then ((k:Int) + 3) % 4 else ((k:Int) + 1) % 4))=some (V.int (mvI left i j ((sqI i j).getD k 0))):=by
 obtain ⟨h1,h2,h3,h4,h5,h6⟩:=Qb h;have hk:k=0\/k=1\/k=2\/k=3:=by lia
 rcases hk with rfl | rfl | rfl | rfl <;> cases left <;> (unfold mvI sqI; simp [h1,h2,h3,h4,h5,h6,Ne.symm h1,Ne.symm h2,Ne.symm h3,Ne.symm h4,Ne.symm h5,Ne.symm h6]; rfl)
def Zsz {i j n k:Nat} (hi:i < 3 * n) (hj:j < 3 * n) (hk:k < 4):∃ q:Nat,(sqI i j)[k]?=some (q:Int)/\q < 3 * n:=by
 obtain ⟨a1,_,a3⟩:=Yt i;obtain ⟨b1,_,b3⟩:=Yn i;obtain ⟨c1,_,c3⟩:=Yt j;obtain ⟨d1,_,d3⟩:=Yn j;have hk:k=0\/k=1\/k=2\/k=3:=by lia
 rcases hk with rfl | rfl | rfl | rfl
 ·exact ⟨(after i).toNat,by show some (after i)=_; rw [Int.toNat_of_nonneg a3],by lia⟩
 ·exact ⟨(Zu i).toNat,by show some (Zu i)=_; rw [Int.toNat_of_nonneg b3],by lia⟩
 ·exact ⟨(after j).toNat,by show some (after j)=_; rw [Int.toNat_of_nonneg c3],by lia⟩
 ·exact ⟨(Zu j).toNat,by show some (Zu j)=_; rw [Int.toNat_of_nonneg d3],by lia⟩
def Wrong.free {EW ES ER EL:Addr} {M:Lq} {ns:List Int} {x:Int} {left:Bool} {H:Hp} {E:XK} {G:Nat->Nat->Hp->Prop} {i j:Nat} (td:TD M ns) (hk:x∈keys ns ns.length) (hp:pl ns ns.length x=[i,j]) (ne:i / 3≠j / 3) (g:∀ H',Same H H'->G i j H'):Wrong EW ES ER EL M ns x (wayS left) H E G:=by
 have es:Yd ns x="free":=by unfold Yd; rw [hp]; exact if_neg ne
 refine ⟨λc=>absurd (Zq1 left) c,λ_ c=>absurd hk c,λ_ H' _ _ e=>absurd (es.symm.trans e) t_fr,λ_ H' _ _ e=>absurd (es.symm.trans e) t_fl,λ_ a b H' s e1 _ _ _=>?_⟩;rw [hp] at e1;cases e1;exact g H' s
def Zne:FnScope ["_law_left"] ["_law_left"] (Zg Zh6):=Am
def Zns (T:Txt w K mg t):(a:) 1 t.iY t.i6 ["_law_left"] Zrl:=by
 refine T.ja.F.aR Zne (b:)
 ·obtain ⟨l,rfl,k⟩:=h
  refine ⟨_,(Ze (Z9 (J2 (pv 0)) (Zh (Zl Z5)) Zz)
   (Zh (Zl Z5))),?_⟩;refine ⟨_,Y,_,Y,?_⟩
  cases l with
  | true=>exact iteT k
  | false=>exact iteF k
def Vd:FnScope ["_law_mates","_law_place","_law_left","_law_around_here","_law_goals_here","_law_k"] ["_law_mates","_law_place","_law_left"] (Zg Zc1):=Am
def Zjt (T:Txt w K mg t):(a:) 2 t.gH t.gQ ["_law_mates","_law_place","_law_left"] Zm9:=by
 refine T.gY.F.aR Vd (b:)
 ·obtain ⟨m,M,n,i,j,left,rfl,hm,hn,hn40,vh,hji,ne,k⟩:=h
  refine ⟨_,(Ze (Zs (i:=3) Vd.nd Y (Or.inl Y) (pcT (Zhp T) hr T.gs (Za (pv 0) (v:))))
   (Ze (Zs (i:=4) Vd.nd rfl (g:) (K7 rfl T.b6 rfl T.aD rfl (Za (k:) Zc)))
   (Ze (Xr PassesOwn.never rfl (Xw rfl T.aD (Za Zf Zc)) (Zk (i:=5) Vd.nd rfl (g:)) (Zh (Z9 (J2 (pv 2)) (Zh (Xt (Zv Z0 (pv 3) (Zj Z6 (Zj Yl (pv 5) Zf) Zf) (j:)) (J5 (pv 4) (Zv Z0 (pv 3) (pv 5) (j:)) Xy))) (Zh (Xt (Zv Z0 (pv 3) (Zj Z6 (Zj Yl (pv 5) Zf) Zf) (j:)) (J5 (pv 4) (Zv Z0 (pv 3) (pv 5) (j:)) Xy))))))
   (Zh (Zl (pv 4)))))),?_⟩;have hi:i < 3 * n:=by rw [<- hn]; exact (Aa vh).1
  have hj:j < 3 * n:=by rw [<- hn]; exact (Aa hji).1
  refine ⟨_,Y,_,Y,m,M,i,j,Y,hm,vh,λar H1 s1 har h1=>?_⟩;refine ⟨_,Y,m,_,Y,.inl (SqL.of (s1 _ _ hm)),M.length,by rw [Ab],by lia,λg hg=>?_⟩;have hag:ar≠g:=Zi h1 hg;have hg0:H g=none:=s1.free hg;dsimp only [Zo];show tSeq (tFor _ _ _) _ _ _ _;refine Yc (λσ H2=>∃ v,σ=[some (.ref m),some (.int i),some (.bl left),some (.ref ar),some (.ref g),v]/\Same H H2/\H2 g=some (.lst ((gst left i j (3 * n) 4).map V.int))) (ab:) ?_
  ·refine ⟨4,Y,by decide,by decide,?_⟩
   refine Jx (n:=4) (λc σ H2=>∃ v,σ=[some (.ref m),some (.int i),some (.bl left),some (.ref ar),some (.ref g),v]/\Same H H2/\H2 ar=some (.lst (sqr i j))/\H2 g=some (.lst ((gst left i j (3 * n) c).map V.int))) ⟨none,Y,Same.add s1 hg0,by rw [Zd hag]; exact h1,?_⟩ ?_ ?_
   ·rw [Zb,Zn9,map_map,hn]
    rfl
   ·rintro c σ H2 hc ⟨v,rfl,s2,h2,h3⟩
    obtain ⟨q,eq,hq⟩:=Zsz hi hj hc;have e1:atI (sqr i j) (0 + (c:Int))=some (V.int q):=by
     rw [Int.zero_add]
     refine Xq ?_
     show ((sqI i j).map V.int)[c]?=_
     rw [Ah,eq]; rfl
    have ed:(sqI i j).getD c 0=(q:Int):=by rw [Ad,eq]; rfl
    have j8:q < ((gst left i j (3 * n) c).map V.int).length:=by rw [Ab]; unfold gst; simpa using hq
    have lc:∀ H3:Hp,Same H H3->H3 ar=some (.lst (sqr i j))->H3 g=some (.lst (((gst left i j (3 * n) c).map V.int).set q (V.int (mvI left i j (q:Int)))))->∃ v,[some (V.ref m),some (.int i),some (.bl left),some (.ref ar),some (.ref g),some (.int (0 + c))]=[some (.ref m),some (.int i),some (.bl left),some (.ref ar),some (.ref g),v]/\Same H H3/\H3 ar=some (.lst (sqr i j))/\H3 g=some (.lst ((gst left i j (3 * n) (c + 1)).map V.int)):=λH3 a1 a2 a3 =>
     ⟨_,rfl,a1,a2,by rw [a3,<- Zoa eq hq,List.map_set]⟩
    have m0:=Zsy ne left hc;rw [ed] at m0;dsimp only [Zo];refine ⟨_,Y,_,Y,?_⟩
    cases left with
    | true =>
     refine iteT ⟨_,Y,_,Y,_,_,Y,Y,_,_,Y,Y,(by show (0:Int) < 4; decide),ar,_,_,_,rfl,rfl,SqL.of h2,(by rw [Int.zero_add]; exact m0),?_⟩;refine ⟨_,Y,_,Y,_,Y,ar,_,_,_,Y,Y,SqL.of h2,e1,g,_,_,q,Y,Y,h3,Wm j8,?_⟩;exact lc _ (Same.add s2 hg0) (by rw [Zd hag]; exact h2) Zb
    | false =>
     refine iteF ⟨_,Y,_,Y,_,_,Y,Y,_,_,Y,Y,(by show (0:Int) < 4; decide),ar,_,_,_,rfl,rfl,SqL.of h2,(by rw [Int.zero_add]; exact m0),?_⟩;refine ⟨_,Y,_,Y,_,Y,ar,_,_,_,Y,Y,SqL.of h2,e1,g,_,_,q,Y,Y,h3,Wm j8,?_⟩;exact lc _ (Same.add s2 hg0) (by rw [Zd hag]; exact h2) Zb
   ·rintro σ H2 ⟨v,rfl,s2,_,h3⟩
    exact kh _ _ ⟨v,Y,s2,h3⟩
  rintro σ H2 ⟨v,rfl,s2,h3⟩;refine ⟨_,Y,k g H2 s2 hg0 ?_⟩;rw [h3,Zqh,hn]
def Zmh {K:W.Frag} {D N:Addr} {ns:List Int} {ts:List Addr} {n:Nat} {H2:Hp} {R:St->Hp->Prop} (lq:H2 D=some (z:)) (xu:∀ (k:Nat) (q:Addr),ts[k]?=some q->H2 q=some (.tup (row3 ns k))) (vf:ns.length=3 * n) (wl:ts.length=n) (n2:n<=40) (hN:H2 N=none)
  (hR:∀ σ H3,Same H2 H3->H3 N=some (.lst (H:))->R σ H3):Ji (Itl K D) (Zo 0) tYes (tGen (iTup K (tVar 0)) (Zo 1) tYes (Zi7 (tVar 1) N)) R [none,none] (upd H2 N (.lst [])):=by
 refine Ym (xs:=ts.map V.ref) (λi σ H3=>∃ (v v':Option V),σ=[v,v']/\Same H2 H3/\H3 N=some (.lst ((ns.take (3 * i)).map V.int))) ⟨none,none,Y,Same.new hN,Zb⟩ ?_ ?_ ?_
 ·rintro i σ H3 _ ⟨v,v',rfl,sm,h3⟩
  exact SqL.of (sm _ _ lq)
 ·rintro i x σ H3 hx ⟨v,v',rfl,sm,h3⟩
  dsimp only [Zo,tYes];rw [if_pos rfl];obtain ⟨tt,ht,rfl⟩:=map_some hx;have hi:i < n:=by rw [<- wl]; exact (Aa ht).1
  refine ⟨_,Y,tt,Y,⟨_,SqT.of (sm _ _ (xu i tt ht))⟩,?_⟩;refine Oz (xs:=row3 ns i) (λj σ H4=>∃ (v':Option V),σ=[some (.ref tt),v']/\Same H2 H4/\H4 N=some (.lst ((ns.take (3 * i)).map V.int ++ (row3 ns i).take j))) ⟨v',Y,sm,by rw [h3,take_zero,append_nil]⟩ ?_ ?_ ?_
  ·rintro j σ H4 _ ⟨v',rfl,sm,h4⟩
   exact SqT.of (sm _ _ (xu i tt ht))
  ·rintro j x σ H4 hx ⟨v',rfl,sm,h4⟩
   dsimp only [Zo,tYes];rw [if_pos rfl];refine ⟨_,Y,_,h4,?_,_,Y,Same.add sm hN,?_⟩
   ·rw [Ae,Ab,Ai,Ai]
    exact Zt (by have:(row3 ns i).length=3:=rfl; lia)
   ·rw [Zb,Aw,hx,<- append_assoc]
    rfl
  ·rintro σ H4 ⟨v',rfl,sm,h4⟩
   refine ⟨_,_,Y,sm,?_⟩;rw [h4,take_length,Zeq vf hi]
 rintro σ H3 ⟨v,v',rfl,sm3,h3⟩;have yz:ns.take (3 * (ts.map V.ref).length)=ns:=by rw [Ab,wl,<- vf,take_length]
 rw [yz] at h3;exact hR _ _ sm3 h3
def Zqp {ns:List Int} {i n:Nat} (hn:ns.length=3 * n) (hi:i < n):cutV (H:) (some (0 + (i:Int) * 3)) (some (0 + (i:Int) * 3 + 3))=row3 ns i:=by
 have e0:(0 + (i:Int) * 3)=((3 * i:Nat):Int):=by lia
 have e3:(0 + (i:Int) * 3 + 3)=((3 * i + 3:Nat):Int):=by lia
 have l0:3 * i < ns.length:=by lia
 have l1:3 * i + 1 < ns.length:=by lia
 have l2:3 * i + 2 < ns.length:=by lia
 unfold cutV;rw [e3,e0,HT.sIx_nat,HT.sIx_nat,Ab,Nat.min_eq_left (by lia),Nat.min_eq_left (by lia),show 3 * i + 3 - 3 * i=3 by lia];have g:∀ k,(hk:k < ns.length)->(H:).drop k=V.int (ns.getD k 0) :: (H:).drop (k + 1):=λk hk=>by
  rw [drop_eq_getElem_cons (by rw [Ab]; exact hk),getElem_map,Ad,Ac hk]
  rfl
 rw [g _ l0,g _ l1,g _ l2];rfl
def Ze0 (C EW ES ER EL:Addr):Sp:=λvs H Q E=>∃ (p:Addr) (M:Lq) (ns:List Int) (x:Int) (ku:Str),vs=[.ref p,.int x,.str ku]/\Z3 C H p M ns/\TD M ns /\
 Wrong EW ES ER EL M ns x ku H E λa b H'=>∀ p',H p'=none->Z3 C H' p' (exM (isL ku) a b M) (exN (isL ku) a b ns)->Q (.ref p') H'
def W4:FnScope ["tent","seam","way","goals","names","place","goal"] ["tent","seam","way"] (Zg Fd):=Am
def Zgd (T:Txt w K mg t):(a:) 6 t.eE t.fc ["tent","seam","way"] (Ze0 t.aa t.dJ t.aT t.gI t.bG):=by
  refine T.fB.F.aX W4 (b:)
  · obtain ⟨p,M,ns,x,ku,rfl,ta,td,W⟩:=h
    refine ⟨_,(Zy (Qg (i:=3) W4.nd Y (Or.inl Y) (pxT (Zc8 T) hr T.gm (Za (pv 0) (Za (pv 1) (U:)))))
      (Zy (Ye (Zs (i:=4) W4.nd rfl (I:) (Yv (ts:=["row","name"]) (fv:=[]) (s:) rfl (Yx (Xa (pv 0) T.ai T.aG.m (V7 T) (ai:) T.aG.b .nil Z1)) (λ_ _ _ _=>(Zk (i:=0) (show List.Nodup (["row","name"]:List Str) from by decide +kernel) rfl (g:) (I:))) (ah:) (N:) (λ_ _ _ _ _ _=>Zll rfl rfl (Zci K (pv 0)) (Zk (i:=1) (show List.Nodup (["row","name"]:List Str) from by decide +kernel) rfl (g:) (I:)) Yi (pv 1)))))
      (Zy (Ye (Xr PassesOwn.never rfl (Qi (pv 3) ⟨rfl,rfl,rfl⟩) (Ww rfl (Zw (Zk (i:=5) W4.nd rfl (g:)) (Zw (Zk (i:=6) W4.nd rfl (g:)) Yz))) (Zh (Xt (Yf (pv 0) T.ai T.au.m (J7 T) (ai:) T.au.b .nil Z1 (Za (pv 5) Zc)) (J5 (pv 4) (pv 6) Xy)))))
      (Z4 (Ye (Zl (Je T.jb (Gf T) (ai:) rfl T.i8 T.cM.b .nil Z1 (Za (Yv (ts:=["k"]) (fv:=[("names",4)]) (c:) rfl (Zle rfl T.aD (Za Zf (Za (Zn Zm (by rfl) T.am PySem.boot_len (Za (pv 4) Zc)) (Za Zf Zc)))) (λ_ _ _ _=>(Zk (i:=0) (show List.Nodup (["k","names"]:List Str) from by decide +kernel) rfl (g:) (I:))) (ah:) (N:) (λ_ _ _ _ _ _=>Yj (Ys (Oo K) (by rfl) T.je PySem.Pv.boot_tuple (Za (V0 (Znc K) (pv 1) (Qh (pv 0)) (Qh (Zj Yl (pv 0) Zf))) Zc)))) Zc)))))))),?_⟩;refine ⟨_,Y,_,Y,_,Y,p,M,ns,x,ku,Y,ta,td,⟨W.noway,W.seam,W.rim,W.lock,λhw i j H1 s1 e1 e2 e3 e4 l hl si=>?_⟩⟩;have g:=λH' s'=>W.go hw i j H' s' e1 e2 e3 e4;generalize isL ku=left at g si;obtain ⟨n,n1,u7,hn⟩:=td.n;have pq:=td.len;have vf:ns.length=3 * n:=by lia
    have hi:i < 3 * n:=by rw [<- hn]; exact (Aa e3).1
    have hj:j < 3 * n:=by rw [<- hn]; exact (Aa (td.inv i j e3).1).1
    have ss:=ta.same s1;obtain ⟨dx,cl,na,sp,mt,o,f,B⟩:=id ss;refine ⟨_,Y,p,dx,_,Y,B.ins,Yu _ _ _ _,p,M,ns,Y,ss,λl2 ts lm j8 h3=>?_⟩;have s2:Same H1 (upd H1 l2 (z:)):=Same.new lm;refine ⟨l2,Y,⟨_,SqL.of Zb⟩,λN hN=>?_⟩;refine Zmh (n:=n) Zb (λk q e=>s2 _ _ (h3 k q e)) vf (by lia) u7 hN λσ3 H3 s3 h3'=>?_;have xi:=s2.trans s3;have hN0:H N=none:=(s1.trans s2).free hN;have uz:=xi _ _ si;have hNl:N≠l:=λz=>by rw [z,uz] at h3'; cases h3'
    clear h3 j8;dsimp only [Zo];show tSeq (tFor _ _ _) _ _ _ _;refine Yc (λσ H4=>∃ v5 v6,σ=[some (.ref p),some (.int x),some (.str ku),some (.ref l),some (.ref N),v5,v6]/\Same H H4/\H4 N=some (.lst ((exN left i j ns).map V.int))) (ab:) ?_
    · refine ⟨_,Y,l,_,Y,.inl ⟨uz,λo=>?_⟩⟩
      refine Zdj (λk σ H4=>∃ v5 v6,σ=[some (.ref p),some (.int x),some (.str ku),some (.ref l),some (.ref N),v5,v6]/\Same H H4/\H4 l=some (.frz o (.dK (glV left i j)))/\H4 N=some (.lst ((nst left i j ns k).map V.int)))
        ⟨_,_,rfl,Same.add (s1.trans xi) hl,Zb,by rw [Zd hNl,Znt]; exact h3'⟩ ?_ ?_ ?_
      · rintro k σ H4 _ ⟨v5,v6,rfl,s4,h4,_⟩
        exact h4
      · rintro k key v σ H4 q hk hq ⟨v5,v6,rfl,s4,h4,h5⟩
        obtain ⟨z,hz,rfl,rfl⟩:∃ z,(Y3 left i j)[k]?=some z/\key=Sum.inl z/\v=V.int (mvI left i j z):=by
          unfold glV at hk;rw [Ah] at hk
          cases e:(Y3 left i j)[k]? with
          | none=>rw [e] at hk; cases hk
          | some z=>rw [e] at hk; cases hk; exact ⟨z,Y,Y,Y⟩
        obtain ⟨z0,z1⟩:=Zqk hi hj hz;obtain ⟨c,rfl⟩:∃ c:Nat,z=c:=⟨z.toNat,by lia⟩;have hc:c < ns.length:=by lia
        have mn:j9 left i j c < ns.length:=by rw [vf]; exact Jl hi hj left (by lia)
        have s5:Same H4 (upd H4 q (.tup [kV (Sum.inl (c:Int)),V.int (mvI left i j c)])):=Same.new hq;have ta4:=(ta.same s4).same s5;obtain ⟨dx4,cl4,na4,sp4,mt4,o4,ff4,B4⟩:=id ta4;have hNq:N≠q:=Zi h5 hq;have hlq:l≠q:=Zi h4 hq;refine ⟨q,_,Y,SqT.of Zb,Y,_,_,Y,_,_,Y,Y,?_⟩;refine ⟨_,Y,p,dx4,_,Y,B4.ins,Yu _ _ _ _,_,Y,p,M,ns,c,Y,ta4,λi' y z1 z2=>?_,λz=>absurd ⟨by lia,by lia⟩ z⟩;obtain rfl:c=i':=by lia
        have ey:ns.getD c 0=y:=by rw [Ad,z2]; rfl
        have j8:((nst left i j ns k).map V.int).length=ns.length:=by unfold nst; simp
        refine ⟨_,Y,_,Y,N,_,_,j9 left i j c,Y,Y,(by rw [Zd hNq]; exact h5),(by rw [j8,<- Jb]; exact Wm mn),?_⟩;refine ⟨_,_,Y,Same.add (Same.add s4 (s4.free hq)) hN0,?_,?_⟩
        · rw [Zd (Ne.symm hNl),Zd hlq]; exact h4
        · rw [Zb,<- Znu e4 hz mn,ey,List.map_set]
      · rintro σ H4 ⟨v5,v6,rfl,s4,h4,h5⟩
        have e:(glV left i j).length=4:=by unfold glV; rw [Ab,Zgw]
        rw [e,Zp9 e4] at h5;exact kh _ _ ⟨_,_,Y,s4,h5⟩
    rintro σ H4 ⟨v5,v6,rfl,s4,h4⟩;have tdx:TD (exM left i j M) (exN left i j ns):=td.ex (by lia) (by lia) e4 left;have wk:(exN left i j ns).length=3 * n:=by rw [Jy]; exact vf
    generalize exN left i j ns=qw at h4 tdx wk g ⊢;refine ⟨_,Y,N,_,Y,.inl (SqL.of h4),n,(by rw [Ab,wk]),by lia,λD hD=>?_⟩;have hND:N≠D:=Zi h4 hD;refine Zhs (λc σ H5=>∃ v ts,σ=[v,some (.ref N)]/\Same H4 H5/\H5 D=some (z:)/\ts.length=c/\∀ (k:Nat) (q:Addr),ts[k]?=some q->H5 q=some (.tup (row3 qw k)))
      ⟨none,[],rfl,Same.new hD,Zb,rfl,λk q e=>by simp at e⟩ ?_ ?_
    · rintro c σ H5 hc ⟨v,ts,rfl,s5,h5,hts,ub⟩
      dsimp only [Zo,tYes];rw [if_pos rfl];have h45:=s5 _ _ h4;refine ⟨_,Y,_,Y,_,Y,_,Y,_,_,Y,Y,_,Y,N,_,Y,SqL.of h45,λq hq=>?_⟩;rw [Zqp wk hc];refine ⟨q,_,Y,.inl ⟨SqL.of Zb,λq2 rn=>?_⟩⟩;obtain ⟨rm,hq2'⟩:=Y9 rn;have hDq:D≠q:=Zi h5 hq;have hDq2:D≠q2:=Zi h5 hq2';have s6:Same H5 (upd (upd H5 q (.lst (row3 qw c))) q2 (.tup (row3 qw c))):=Same.add (Same.new hq) hq2';refine ⟨_,s6 _ _ h5,(by rw [Ab]; exact Zt (by lia)),_,ts ++ [q2],Y,Same.add (s5.trans s6) hD,?_,?_,?_⟩
      · rw [Zb]; simp
      · rw [Ae,At,hts]
      · intro k q3 z
        by_cases hk:k < ts.length
        · rw [Av hk] at z
          have g3:=s6 _ _ (ub k q3 z);rw [Zd (λe=>by rw [e,s6 _ _ h5] at g3; cases g3)];exact g3
        · have vg:k=ts.length:=by
            have:=(Aa z).1;rw [Ae,At] at this;lia
          subst vg;have:q3=q2:=by simpa using z.symm
          subst this;rw [Zd (Ne.symm hDq2),Zb,hts]
    rintro σ H5 ⟨v,ts,rfl,s5,h5,hts,ub⟩;intro y dy hy hdy kr;have s6:Same H5 (upd (upd H5 dy (.own y)) y (.ins t.aa dy [])):=Same.add (Same.new hdy) hy;refine ⟨y,D,dy,_,qw,Y,Zb,⟨ts,s6 _ _ h5,by lia,λk q e=>s6 _ _ (ub k q e)⟩,tdx,by lia,λH7 old ta7=>⟨Y,?_⟩⟩;have s57:Same H5 H7:=λb u e=>old b u (Zi e hy) (s6 b u e);have ur:=(s4.trans s5).trans s57;exact g H7 ur y ((s4.trans s5).free hy) ta7
def Zey:Sp:=λvs H Q _=>∃ (m r g:Addr) (M:Lq) (ns:List Int) (i j:Nat) (left:Bool),vs=[.ref m,.ref r,.ref g]/\H m=some (aw:)/\Yq H r ns/\H g=some (.lst (((List.range M.length).map λ(z:Nat)=>mvI left i j (z:Int)).map V.int))/\TD M ns/\i < M.length/\j < M.length/\i / 3≠j / 3 /\
 ∀ (p m' r':Addr) (H':Hp),Same H H'->H' p=some (.tup [.ref m',.ref r'])->H' m'=some (.lst ((exM left i j M).map mV))->Yq H' r' (exN left i j ns)->Q (.ref p) H'
def Vc:FnScope ["_law_mates","_law_rows_here","_law_goals_here","_law_names","_law_ties","_law_p"] ["_law_mates","_law_rows_here","_law_goals_here"] (Zg Zcz):=Am
def Zjr (T:Txt w K mg t):(a:) 1 t.d8 t.d9 ["_law_mates","_law_rows_here","_law_goals_here"] Zey:=by
 refine T.gX.F.aR Vc (b:)
 ·obtain ⟨m,r,g,M,ns,i,j,left,rfl,hm,hrw,hg,td,hi,hj,ne,k⟩:=h
  refine ⟨_,(Ze (Zs (i:=3) Vc.nd Y (Or.inr Y) (Zj Od (Yr (Za Zf Zc)) (k:)))
   (Ze (Zs (i:=4) Vc.nd rfl (g:) (Zj Od (Yr (Za Wl Zc)) (k:)))
   (Ze (Xr PassesOwn.never rfl (Xw rfl T.aD (Za (k:) Zc)) (Zk (i:=5) Vc.nd rfl (g:)) (Ze (Xt (Zv Yp (Zv Z0 (pv 1) (Zj Y7 (pv 5) Zf) (j:)) (Zj Z6 (pv 5) Zf) (j:)) (J5 (pv 3) (Zv Z0 (pv 2) (pv 5) (j:)) Xy))
   (Zh (Z9 (Zq Ql (Zv Z0 (pv 0) (pv 5) (j:)) Wl (Zr _)) (Zh (Xt (Zv Z0 (pv 2) (Zv Z0 (pv 0) (pv 5) (j:)) (j:)) (J5 (pv 4) (Zv Z0 (pv 2) (pv 5) (j:)) Xy))) Zz))))
   (Zh (Zl (Xg (Za (pv 4) (Za (Yv (ts:=["_law_k"]) (fv:=[("_law_names",3)]) (c:) rfl (Xw rfl T.aD (Za (Zn Zm (by rfl) T.am PySem.boot_len (v:)) Zc)) (λ_ _ _ _=>(Zk (i:=0) (show List.Nodup (["_law_k","_law_names"]:List Str) from by decide +kernel) rfl (g:) (I:))) (ah:) (N:) (λ_ _ _ _ _ _=>Yj (Xg (Za (Zv (X2 K) (pv 1) (Zj We Zf (pv 0)) (j:)) (Za (Zv (X2 K) (pv 1) (Zj Yl (Zj We Zf (pv 0)) Zf) (j:)) (Za (Zv (X2 K) (pv 1) (Zj Yl (Zj We Zf (pv 0)) Zf) (j:)) Zc)))))) Zc)))))))),?_⟩;obtain ⟨n,n1,u7,hn⟩:=td.n;have pq:=td.len;have hi3:i < 3 * n:=by lia
  have hj3:j < 3 * n:=by lia
  have eT:(ao:).toNat=3 * n:=by rw [Ab,hn]; lia
  have rp:∀ v:V,1 * (ao:).toNat<=sizeLine:=λv=>by rw [eT,sizeLine_eq]; lia
  have gp:∀ c,c < M.length->((List.range M.length).map λ(z:Nat)=>mvI left i j (z:Int))[c]?=some ((j9 left i j c:Nat):Int):=λc hc=>by rw [Ah,getElem?_range hc,Jb]; rfl
  refine Zx λk6 j6=>?_;refine ⟨(by show 1<=sizeLine; decide),λq hq=>?_⟩;have s1:Same H (upd H q (.lst [.int 0])):=Same.new hq;refine ⟨_,Y,m,_,Y,.inl (SqL.of (s1 _ _ hm)),q,_,_,Y,Y,Zb,by lia,by rw [Ab]; lia,rp (.int 0),λN hN=>?_⟩;have eN:(List.replicate (ao:).toNat [V.int 0]).flatten=(mfil left i j (3 * n) (E:) 0 0).map V.int:=by
   rw [eT,flatten_replicate_singleton,Zdb,map_replicate]
  rw [eN];have s2:=s1.trans (Same.new (o:=.lst ((mfil left i j (3 * n) (E:) 0 0).map V.int)) hN);have hN0:H N=none:=s1.free hN;have hN2:(upd (upd H q (.lst [.int 0])) N (.lst ((mfil left i j (3 * n) (E:) 0 0).map V.int))) N=some (.lst ((mfil left i j (3 * n) (E:) 0 0).map V.int)):=Zb;generalize upd (upd H q (.lst [.int 0])) N (.lst ((mfil left i j (3 * n) (λz=>ns.getD (j9 (!left) i j z) 0) 0 0).map V.int))=H2 at s2 hN2 ⊢;refine j6 _ _ ?_;refine Zx λk6 j6=>?_;refine ⟨(by show 1<=sizeLine; decide),λq2 rn=>?_⟩;have s3:Same H2 (upd H2 q2 (.lst [.non])):=Same.new rn;refine ⟨_,Y,m,_,Y,.inl (SqL.of (s3 _ _ (s2 _ _ hm))),q2,_,_,Y,Y,Zb,by lia,by rw [Ab]; lia,rp .non,λTT hT=>?_⟩;have eTT:(List.replicate (ao:).toNat [V.non]).flatten=(K:).map mV:=by
   rw [eT,flatten_replicate_singleton,Zdb,map_replicate]
   rfl
  rw [eTT];have s4:=s3.trans (Same.new (o:=.lst ((K:).map mV)) hT);have hT2:(upd (upd H2 q2 (.lst [.non])) TT (.lst ((K:).map mV))) TT=some (.lst ((K:).map mV)):=Zb;generalize upd (upd H2 q2 (.lst [.non])) TT (.lst ((mfil left i j (3 * n) (λz=>(M.getD (j9 (!left) i j z) none).map (j9 left i j)) none 0).map mV))=H4 at s4 hT2 ⊢;refine j6 _ _ ?_
  have hTN:TT≠N:=λz=>by
   have:=s3.free hT;rw [z,hN2] at this; cases this
  have hT0:H TT=none:=s2.free (s3.free hT);have hN4:=s4 _ _ hN2;have m6:=s2.trans s4;dsimp only [Zo];show tSeq (tFor _ _ _) _ _ _ _;refine Yc (λσ H5=>∃ v,σ=[some (.ref m),some (.ref r),some (.ref g),some (.ref N),some (.ref TT),v]/\Same H H5/\H5 N=some (.lst ((exN left i j ns).map V.int))/\H5 TT=some (.lst ((exM left i j M).map mV))) (ab:) ?_
  ·refine ⟨_,Y,m,_,Y,.inl (SqL.of (m6 _ _ hm)),_,Y,by lia,by rw [Ab]; lia,?_⟩
   have eL:(ao:).toNat=M.length:=by simp
   rw [eL];refine Jx (n:=M.length) (λc σ H5=>∃ v,σ=[some (.ref m),some (.ref r),some (.ref g),some (.ref N),some (.ref TT),v]/\Same H H5/\H5 N=some (.lst ((mfil left i j (3 * n) (E:) 0 c).map V.int))/\H5 TT=some (.lst ((mfil left i j (3 * n) (λz=>(M.getD (R:) none).map (j9 left i j)) none c).map mV))) ⟨none,Y,m6,hN4,hT2⟩ ?_ ?_
   ·rintro c σ H5 hc ⟨v,rfl,s5,h5,h6⟩
    dsimp only [Zo];rw [Int.zero_add];have hcn:c < ns.length:=by lia
    obtain ⟨y,hy⟩:∃ y,ns[c]?=some y:=⟨_,Ac hcn⟩;have ey:ns.getD c 0=y:=by rw [Ad,hy]; rfl
    obtain ⟨ts',q,e1,e2,e3,e4⟩:=Zfy (hrw.same s5) hy;have hmc:j9 left i j c < 3 * n:=Jl hi3 hj3 left (by lia);refine ⟨_,Y,_,Y,_,_,Y,Y,⟨by decide,by decide⟩,r,_,_,_,Y,Y,SqL.of e1,(by rw [div3]; exact Y1 e2),_,Y,_,_,Y,Y,(an:),q,_,_,_,rfl,rfl,SqT.of e3,(by rw [mod3]; exact Xq e4),?_⟩;refine ⟨_,Y,_,Y,_,Y,g,_,_,_,Y,Y,SqL.of (s5 _ _ hg),Y1 (gp c hc),N,_,_,j9 left i j c,Y,Y,h5,(by rw [Ab,Zgn]; exact Wm hmc),?_⟩;have eN':((mfil left i j (3 * n) (E:) 0 c).map V.int).set (j9 left i j c) (V.int y)=(mfil left i j (3 * n) (E:) 0 (c + 1)).map V.int:=by
     rw [<- Zdc ne hmc,List.map_set,Xn ne,ey]
    rw [eN'];have s6:Same H (upd H5 N (.lst ((mfil left i j (3 * n) (E:) 0 (c + 1)).map V.int))):=Same.add s5 hN0;have h7:(upd H5 N (.lst ((mfil left i j (3 * n) (E:) 0 (c + 1)).map V.int))) TT=_:=(Zd hTN).trans h6;have h8:(upd H5 N (.lst ((mfil left i j (3 * n) (E:) 0 (c + 1)).map V.int))) N=some (.lst ((mfil left i j (3 * n) (E:) 0 (c + 1)).map V.int)):=Zb;generalize upd H5 N (.lst ((mfil left i j (3 * n) (λz=>ns.getD (j9 (!left) i j z) 0) 0 (c + 1)).map V.int))=H6 at s6 h7 h8 ⊢;obtain ⟨mc,wb⟩:∃ mc,M[c]?=some mc:=⟨_,Ac hc⟩;have eMc:M.getD c none=mc:=by rw [Ad,wb]; rfl
    refine ⟨_,Y,_,Y,m,_,_,_,Y,Y,SqL.of (s6 _ _ hm),Y1 wb,Y,_,Y,?_⟩
    cases mc with
    | none =>
     refine iteF ⟨_,Y,s6,h8,?_⟩;rw [h7,Zl6 ne (by rw [Xn ne,eMc]; rfl)]
    | some b =>
     have hb:b < M.length:=(Aa (td.inv c b wb).1).1;refine iteT ⟨_,Y,_,Y,_,Y,m,_,_,_,Y,Y,SqL.of (s6 _ _ hm),Y1 wb,g,_,_,_,Y,Y,SqL.of (s6 _ _ hg),Y1 (gp b hb),?_⟩;refine ⟨_,Y,_,Y,_,Y,g,_,_,_,Y,Y,SqL.of (s6 _ _ hg),Y1 (gp c hc),TT,_,_,j9 left i j c,Y,Y,h7,(by rw [Ab,Zgn]; exact Wm hmc),?_⟩;refine ⟨_,Y,Same.add s6 hT0,by rw [Zd (Ne.symm hTN)]; exact h8,?_⟩;rw [Zb,<- Zdc ne hmc,List.map_set,Xn ne,eMc];rfl
   ·rintro σ H5 ⟨v,rfl,s5,h5,h6⟩
    rw [hn,Znx hi3 hj3] at h5 h6;refine kh _ _ ⟨_,Y,s5,?_,?_⟩
    ·rw [h5]; unfold exN; rw [pq,hn]
    ·rw [h6]; unfold exM; rw [hn]
  rintro σ H5 ⟨v,rfl,s5,h5,h6⟩;have wk:(exN left i j ns).length=3 * n:=by rw [Jy]; lia
  generalize exN left i j ns=F at h5 wk k ⊢;obtain ⟨ts0,w1,w2,w3⟩:=hrw.same s5;have ets:ts0.length=n:=by lia
  refine ⟨_,Y,_,Y,r,_,Y,.inl (SqL.of w1),_,Y,by lia,by rw [Ab]; lia,λD hD=>?_⟩;have eD:(((ts0.map V.ref).length:Nat):Int).toNat=n:=by rw [Ab]; lia
  rw [eD];have hND:N≠D:=Zi h5 hD;have hTD:TT≠D:=Zi h6 hD;refine J9 (λc σ H6=>∃ (ts:List Addr) (v:Option V),σ=[v,some (.ref N)]/\Same H5 H6/\H6 D=some (z:)/\ts.length=c/\∀ (k:Nat) (t:Addr),ts[k]?=some t->H6 t=some (.tup (row3 F k)))
   ⟨[],none,rfl,Same.new hD,Zb,rfl,λk t z=>by simp at z⟩ ?_ ?_
  ·rintro c σ H6 kl ⟨ts,v,rfl,s6,g1,lm,g3⟩
   have g2:=s6 _ _ h5;have at':∀ (e:Nat) (z:Int),e < 3->z=3 * (0 + (c:Int)) + e->atI (F.map V.int) z=some (V.int (F.getD (3 * c + e) 0)):=λe z he hz=>by
    have e:z=((3 * c + e:Nat):Int):=by lia
    rw [e]
    exact Xq (getI (by lia))
   dsimp only [Zo,tYes];rw [if_pos rfl];refine ⟨_,Y,_,Y,_,_,Y,Y,.inl ⟨by decide,by decide⟩,N,_,_,_,Y,Y,SqL.of g2,at' 0 _ (d:) (by simp),?_⟩;refine ⟨_,Y,_,Y,_,_,Y,Y,.inl ⟨by decide,by decide⟩,_,_,Y,Y,N,_,_,_,Y,Y,SqL.of g2,at' 1 _ (d:) Y,?_⟩;refine ⟨_,Y,_,Y,_,_,Y,Y,.inl ⟨by decide,by decide⟩,_,_,Y,Y,N,_,_,_,Y,Y,SqL.of g2,at' 2 _ (d:) Y,?_⟩;refine ⟨(by show 3<=sizeLine; decide),λq hq=>?_⟩;have hqD:q≠D:=λz=>by rw [z,g1] at hq; cases hq
   have s7:Same H6 (upd H6 q (.tup (row3 F c))):=Same.new hq;refine ⟨_,s7 _ _ g1,(by rw [Ab]; exact Zt (by lia)),ts ++ [q],_,Y,Same.add (s6.trans s7) hD,?_,?_,?_⟩
   ·rw [Zb]; simp
   ·rw [Ae,At,lm]
   ·intro k t z
    by_cases hk:k < ts.length
    ·rw [Av hk] at z
     have g:=s7 _ _ (g3 k t z);rw [Zd (λe=>by rw [e,s7 _ _ g1] at g; cases g)];exact g
    ·have vg:k=ts.length:=by
      have:=(Aa z).1;rw [Ae,At] at this;lia
     subst vg;have:t=q:=by simpa using z.symm
     subst this;rw [Zd hqD,Zb,lm];rfl
  ·rintro σ H6 ⟨ts,v,rfl,s6,g1,lm,g3⟩
   refine ⟨(bb:),λp5 xz=>?_⟩;have s7:=Same.new (o:=.tup [V.ref TT,V.ref D]) xz;refine k p5 TT D _ ((s5.trans s6).trans s7) Zb (s7 _ _ (s6 _ _ h6)) ⟨ts,s7 _ _ g1,by lia,λk t z=>s7 _ _ (g3 k t z)⟩
noncomputable def tp (v:Nat × Nat):HO:=.tup [V.int v.1,V.int v.2]
noncomputable def wD (ks:List Int) (ad:Int->Addr):List (Key × V):=ks.map λx=>((Sum.inl x:Key),V.ref (ad x))
def WAt (H:Hp) (d:Addr) (ks:List Int) (g:Int->Nat × Nat):Prop:=∃ ad:Int->Addr,H d=some (.dK (wD ks ad))/\∀ x∈ks,H (ad x)=some (tp (g x))
def WAt.same {H H':Hp} {d:Addr} {ks:List Int} {g:Int->Nat × Nat} (h:WAt H d ks g) (s:Same H H'):WAt H' d ks g:=by
 obtain ⟨ad,h1,h2⟩:=h;exact ⟨ad,s _ _ h1,λx hx=>s _ _ (h2 x hx)⟩
def WAt.congr {H:Hp} {d:Addr} {ks:List Int} {g g':Int->Nat × Nat} (h:WAt H d ks g) (e:∀ x∈ks,g x=g' x):WAt H d ks g':=by
 obtain ⟨ad,h1,h2⟩:=h;exact ⟨ad,h1,λx hx=>by rw [<- e x hx]; exact h2 x hx⟩
def U1 (ks:List Int) (ad:Int->Addr):(wD ks ad).length=ks.length:=by unfold wD; rw [Ab]
def Zen {ks:List Int} {ad:Int->Addr} {y:Int}:valV (wD ks ad) (Sum.inl y)=if y∈ks then some (V.ref (ad y)) else none:=by unfold wD; rw [Jd]
def Zkd {H:Hp} {d:Addr} {ks:List Int} {ad:Int->Addr} {y:Int} (h:Rd H d (.dK (wD ks ad))) (hy:y∈ks):DGet H d (.int y) (some (V.ref (ad y))):=.inl ⟨_,Sum.inl y,h,rfl,by rw [Zen,if_pos hy]⟩
def Zom {ks:List Int} {ad:Int->Addr} {i:Nat} {k:Key} {v:V} (h:(wD ks ad)[i]?=some (k,v)):∃ y,ks[i]?=some y/\k=Sum.inl y/\v=V.ref (ad y):=by
 unfold wD at h;rw [Ah] at h
 cases e:ks[i]? with
 | none=>rw [e] at h; cases h
 | some z=>rw [e] at h; cases h; exact ⟨z,Y,Y,Y⟩
def WAt.put {H:Hp} {d q:Addr} {ks:List Int} {g:Int->Nat × Nat} {ad:Int->Addr} {y:Int} {v:Nat × Nat} (h1:H d=some (.dK (wD ks ad))) (h2:∀ x∈ks,H (ad x)=some (tp (g x))) (hq:H q=some (tp v)) (hy:y∈ks) :
  WAt (upd H d (.dK (putK (wD ks ad) (Sum.inl y) (V.ref q)))) d ks (putG g y v):=by
 have nd:∀ r u,H r=some (tp u)->r≠d:=λr u h z=>by rw [z,h1] at h; cases h
 refine ⟨λx=>if x=y then q else ad x,?_,λx hx=>?_⟩
 ·rw [Zb]
  unfold wD;rw [Zh8 hy];congr 2;apply map_congr_left;intro x _;by_cases c:x=y
  ·simp [c]
  ·simp [c]
 ·unfold putG
  show upd H d _ (if x=y then q else ad x)=some (tp (if x=y then v else g x));by_cases c:x=y
  ·rw [if_pos c,if_pos c,Zd (nd _ _ hq)]; exact hq
  ·rw [if_neg c,if_neg c,Zd (nd _ _ (h2 x hx))]; exact h2 x hx
def WAt.new {H:Hp} {d q:Addr} {ks:List Int} {g:Int->Nat × Nat} {ad:Int->Addr} {y:Int} {v:Nat × Nat} (h1:H d=some (.dK (wD ks ad))) (h2:∀ x∈ks,H (ad x)=some (tp (g x))) (hq:H q=some (tp v)) (hy:y ∉ ks) :
  WAt (upd H d (.dK (putK (wD ks ad) (Sum.inl y) (V.ref q)))) d (ks ++ [y]) (putG g y v):=by
 have nd:∀ r u,H r=some (tp u)->r≠d:=λr u h z=>by rw [z,h1] at h; cases h
 refine ⟨λx=>if x=y then q else ad x,?_,λx hx=>?_⟩
 ·rw [Zb]
  unfold wD;rw [Zce hy,Aj];congr 3
  ·apply map_congr_left
   intro x hx;have:x≠y:=λz=>hy (z ▸ hx);simp [this]
  ·simp
 ·unfold putG
  show upd H d _ (if x=y then q else ad x)=some (tp (if x=y then v else g x));by_cases c:x=y
  ·rw [if_pos c,if_pos c,Zd (nd _ _ hq)]; exact hq
  ·rw [if_neg c,if_neg c]
   have n9:x∈ks:=by
    rcases mem_append.mp hx with z | z
    ·exact z
    ·exact absurd (Af z) c
   rw [Zd (nd _ _ (h2 x n9))]; exact h2 x n9
def okD (m n:Nat):Prop:=Nat.gcd m n < 2 ^ 8900
def Zp7 {m n:Nat} (hm:1<=m) (h:okD m n):Zel (m:Int) (Nat.gcd m n:Nat)/\Zel (n:Int) (Nat.gcd m n:Nat):=by
 have h1:0 < Nat.gcd m n:=gcd_pos_of_pos_left _ hm;have h3:(((Nat.gcd m n:Nat):Int)).natAbs.log2 < 9000:=by
  refine Ag (log2_lt (k:=8900) ?_ (d:)) (d:)
  rw [Int.natAbs_natCast]
  exact h
 exact ⟨⟨by lia,h3⟩,⟨by lia,h3⟩⟩
def Zly {m n:Nat} (hm:1<=m) (h:m < 2 ^ 8900):okD m n:=Nat.lt_of_le_of_lt (le_of_dvd hm (gcd_dvd_left _ _)) h
def Zkw:Sp:=λvs H Q _=>∃ a b:Nat,vs=[.int a,.int b]/\Q (.int (Nat.gcd a b:Nat)) H
def Fu (EF:Addr):Sp:=λvs H Q E=>∃ a b:Int,vs=[.int a,.int b]/\(1<=a->1<=b->Q .non H)/\(a < 1\/b < 1->E (.ref EF) none H)
def Zhe (EF:Addr):Sp:=λvs H Q E=>∃ a b:Int,vs=[.int a,.int b]/\(∀ m n:Nat,a=m->b=n->1<=m->1<=n->okD m n/\∀ p,H p=none->Q (.ref p) (upd H p (tp (lowN m n))))/\(a < 1\/b < 1->E (.ref EF) none H)
def Zdx (C:Addr):Sp:=λvs H Q _=>∃ (p:Addr) (M:Lq) (ns:List Int),vs=[.ref p]/\Z3 C H p M ns/\TD M ns/\ns.length < 64/\∀ (l:Addr) (H':Hp) (out:List Int),Same H H'->H l=none->H' l=some (.lst (out.map V.int))->out.Pairwise (·<=·)->SwK M ns out->Q (.ref l) H'
def Zb2 (C:Addr):Sp:=λvs H Q _=>∃ (p:Addr) (M:Lq) (ns:List Int),vs=[.ref p]/\Z3 C H p M ns/\TD M ns/\ns.length < 64/\∀ (d:Addr) (H':Hp) (ks:List Int),Same H H'->H d=none->WAt H' d ks (λ_=>(1,1))->SwK M ns ks->Q (.ref d) H'
def Zku (C:Addr):Sp:=λvs H Q _=>∃ (p d:Addr) (M:Lq) (ns ks:List Int) (g:Int->Nat × Nat),vs=[.ref p,.ref d]/\Z3 C H p M ns/\TD M ns/\ns.length < 64/\WAt H d ks g/\SwK M ns ks/\(∀ x∈ks,1<=(g x).1/\1<=(g x).2/\(g x).1 < 2 ^ 8900) /\
 ∀ (d':Addr) (H':Hp),Same H H'->H d'=none->WAt H' d' ks (lowG g)->Q (.ref d') H'
def Zi9:Sp:=λvs H Q _=>∃ (p q:Addr) (v f:Nat × Nat),vs=[.ref p,.ref q]/\H p=some (tp v)/\H q=some (tp f)/\1<=v.1/\1<=v.2/\Nat.gcd v.1 v.2=1/\1<=f.1/\1<=f.2/\v.1 < 2 ^ 60000/\v.2 < 2 ^ 60000/\f.1 < 2 ^ 4000/\f.2 < 2 ^ 4000/\∀ r,H r=none->Q (.ref r) (upd H r (tp (lw2 v f)))
def Zex (C:Addr):Sp:=λvs H Q _=>∃ (p d:Addr) (M:Lq) (ns ks:List Int) (g:Int->Nat × Nat) (x:Int) (a b:Nat),vs=[.ref p,.ref d,.int x]/\Z3 C H p M ns/\TD M ns/\ns.length < 64/\WAt H d ks g/\SwK M ns ks/\(∀ y∈ks,1<=(g y).1/\1<=(g y).2/\(g y).1 < 2 ^ 8900/\(g y).2 < 2 ^ 8900)/\Mv M ns x a b/\(lowG g x).1 < 2 ^ 3999/\(lowG g x).2 < 2 ^ 3999 /\
 ∀ (d':Addr) (H':Hp),Same H H'->H d'=none->WAt H' d' ks (strG ks (G:) x (lowG g))->Q (.ref d') H'
def mulN {m n:Nat} (h1:m < 2 ^ 60000) (h2:n < 2 ^ 60000):IntMulOk (m:Int) (n:Int):=PyProof.Rows.mulOk_of_bits (Zi1 (k:=60000) (by rw [Int.natAbs_natCast]; exact h1) (d:)) (Zi1 (k:=60000) (by rw [Int.natAbs_natCast]; exact h2) (d:)) (d:)
def Zfc {M:Lq} {ns:List Int} (td:TD M ns) {x:Int} (hx:x∈keys ns ns.length):SwN M ns x ↔ Yd ns x≠"rim":=by
 constructor
 ·rintro ⟨p,j,h1,h2⟩ e
  rcases J0 td hx with ⟨_,a,e1,ma⟩ | ⟨e',_⟩ | ⟨e',_⟩
  ·have hp:p∈pl ns ns.length x:=Xf.mpr ⟨(Aa h2).1,h2⟩
   rw [e1,mem_singleton] at hp;rw [hp,ma] at h1;cases h1
  ·exact t_lr (e'.symm.trans e)
  ·exact t_fr (e'.symm.trans e)
 ·intro e
  rcases J0 td hx with ⟨e',_⟩ | ⟨_,a,b,_,e1,ma,_⟩ | ⟨_,a,b,_,e1,ma,_⟩
  ·exact absurd e' e
  ·have hp:a∈pl ns ns.length x:=by rw [e1]; exact mem_cons_self
   exact ⟨a,b,ma,(Xf.mp hp).2⟩
  ·have hp:a∈pl ns ns.length x:=by rw [e1]; exact mem_cons_self
   exact ⟨a,b,ma,(Xf.mp hp).2⟩
def SwK.len {M:Lq} {ns ks:List Int} (sw:SwK M ns ks) (td:TD M ns):ks.length<=ns.length:=by
 have e:ks.Perm ((af:).filter λx=>decide (x∈ks)):=(perm_ext_iff_of_nodup sw.nd ((Qa ns ns.length).filter _)).mpr λx=>by
  rw [mem_filter,decide_eq_true_eq];exact ⟨λh=>⟨((sw.mem x).mp h).key td,h⟩,λh=>h.2⟩
 have h1:=e.length_eq;have h2:=length_filter_le (λx=>decide (x∈ks)) (af:);have h3:=Ud ns ns.length;lia
noncomputable def swB (ns:List Int) (x:Int):Bool:=!decide (V.str (Yd ns x)=V.str "rim")
def Zpb {ns:List Int} {x:Int}:swB ns x=true ↔ Yd ns x≠"rim":=by
 unfold swB;rw [Bool.not_eq_true',decide_eq_false_iff_not];exact ⟨λh e=>h (by rw [e]),λh e=>h (by injection e)⟩
def G5 {α:Type} {f:α->Bool} {l:List α} {i:Nat} {x:α} (h:l[i]?=some x):(l.take (i + 1)).filter f=if f x=true then (l.take i).filter f ++ [x] else (l.take i).filter f:=by
 rw [Aw,h,filter_append];by_cases c:f x=true
 ·simp [c]
 ·simp [c]
def Q8:FnScope ["one","other"] ["one","other"] (Zg Vr):=Am
def G2 (T:Txt w K mg t):(a:) 1 t.bC t.bJ ["one","other"] Zkw:=by
 refine T.bO.F.aR Q8 (b:)
 ·obtain ⟨a,b,rfl,k⟩:=h
  refine ⟨_,(Ze (Vx PassesOwn.never (Qf (pv 1) (λ_=>rfl)) (Zh (Zk7 (i:=0) (j:=1) Y Q8.nd Y Y (d:) Y Y (Za (pv 1) (Za (Zj Z6 (pv 0) (pv 1)) Zc)) (by rfl))))
   (Zh (Zl (pv 0)))),?_⟩;refine ⟨λm σ H1=>∃ a' b':Nat,b'=m/\H1=H/\σ=[some (.int a'),some (.int b')]/\Nat.gcd a' b'=Nat.gcd a b,⟨b,a,b,Y,Y,Y,Y⟩,?_⟩;rintro m σ H1 ⟨a',b',rfl,rfl,rfl,e⟩;refine ⟨_,Y,_,Y,?_⟩;by_cases z:b'=0
  ·subst z
   refine iteF ⟨_,Y,?_⟩;rw [gcd_zero_right] at e;rw [e];exact k
  ·have hz:((b':Int) != 0)=true:=by simp; lia
   rw [hz];refine iteT ⟨_,λσ' H' h=>h,?_⟩;refine ⟨_,Y,_,Y,_,Y,_,_,Y,Y,(by show (0:Int) < b'; lia),_,_,rfl,?_⟩;refine ⟨a' % b',mod_lt _ (by lia),b',a' % b',Y,Y,?_,?_⟩
   ·rw [Int.natCast_emod]; rfl
   ·rw [<- e,gcd_comm a' b',gcd_rec b' a',gcd_comm]
def Fz:FnScope ["top","bottom"] ["top","bottom"] (Zg Up):=Am
def F7 (T:Txt w K mg t):(a:) 1 t.cf t.cq ["top","bottom"] (Fu t.ba):=by
 refine T.cz.F.aX Fz (b:)
 ·obtain ⟨a,b,rfl,k1,k2⟩:=h
  refine ⟨_,(Z4 (W6 (PW.pt (Ve (Zq Qs (pv 0) Zf (Zr _)) (Qz (Zq Qs (pv 1) Zf (Zr _))))) (Z4 (Xu T.hG FBV Y T.gz Y (Za Z5 Zc))) X1)),?_⟩;refine ⟨_,Y,_,_,Y,Y,_,Y,?_⟩;refine ite2 (λc=>?_) (λc=>?_)
  ·have c:a < 1:=by simpa using c
   exact iteT ⟨by decide,k2 (.inl c)⟩
  ·have c:¬ a < 1:=by simpa using c
   refine ⟨_,Y,_,_,Y,Y,_,Y,?_⟩;refine ite2 (λd=>?_) (λd=>?_)
   ·have d:b < 1:=by simpa using d
    exact ⟨by decide,k2 (.inr d)⟩
   ·have d:¬ b < 1:=by simpa using d
    exact k1 (by lia) (by lia)
def G8:FnScope ["top","bottom","measure"] ["top","bottom"] (Zg Za2):=Am
def U0 (T:Txt w K mg t):(a:) 2 t.fP t.f6 ["top","bottom"] (Zhe t.ba):=by
 refine T.bV.F.aX G8 (b:)
 ·obtain ⟨a,b,rfl,k1,k2⟩:=h
  refine ⟨_,(Zy (W7 (pxT (F7 T) hr T.cz (Za (pv 0) (v:))))
   (Zy (Ye (Zs (i:=2) G8.nd rfl (g:) (pcT (G2 T) hr T.bO (Za (pv 0) (v:)))))
   (Z4 (Ye (Zl (Xg (Za (Zj Zgb (pv 0) (pv 2)) (Za (Zj Zgb (pv 1) (pv 2)) Zc)))))))),?_⟩;refine ⟨_,Y,_,Y,a,b,Y,λha hb=>?_,k2⟩;obtain ⟨m,rfl⟩:∃ m:Nat,a=m:=⟨a.toNat,by lia⟩;obtain ⟨n,rfl⟩:∃ n:Nat,b=n:=⟨b.toNat,by lia⟩;obtain ⟨hbg,k⟩:=k1 m n rfl rfl (by lia) (by lia);obtain ⟨g1,g2⟩:=Zp7 (m:=m) (n:=n) (by lia) hbg;refine ⟨_,Y,_,Y,m,n,Y,?_⟩;dsimp only [Zo];refine ⟨_,Y,_,Y,_,_,Y,Y,g1,_,Y,_,Y,_,_,Y,Y,g2,(by show 2<=sizeLine; rw [sizeLine_eq]; decide),λp hp=>?_⟩;exact k p hp
def Zd4:FnScope ["tent"] ["tent"] (Zg Ku):=Am
def Kc (T:Txt w K mg t):(a:) 3 t.dC t.dO ["tent"] (Zdx t.aa):=by
 refine T.bW.F.aR Zd4 (b:)
 ·obtain ⟨p,M,ns,rfl,ta,td,h64,k⟩:=h
  refine ⟨_,(Zh (Zl (Yv (ts:=["seam"]) (fv:=[("tent",0)]) (c:) rfl (Yx (Xa (pv 0) T.ai T.aM.m (Ke T) (ai:) T.aM.b .nil Z1)) (λ_ _ _ _=>(Zk (i:=0) (show List.Nodup (["seam","tent"]:List Str) from by decide +kernel) rfl (g:) (I:))) (λ_ _ _ _=>(Ju (Zq Zeh (Yf (pv 1) T.ai T.ao.m (W3 T) (ai:) T.ao.b .nil Z1 (Za (pv 0) Zc)) Z5 (Zr _)))) (N:) (λ_ _ _ _ _ _=>Yj (pv 0))))),?_⟩;obtain ⟨dx,cl,na,sp,mt,o,ff,b⟩:=id ta;refine ⟨_,Y,p,dx,_,Y,b.ins,Yu _ _ _ _,p,M,ns,Y,ta,h64,λl ks l7 zm l6=>?_⟩;have s1:Same H (upd H l (.lst (ks.map V.int))):=Same.new l7;have h1:(upd H l (.lst (ks.map V.int))) l=some (.lst (ks.map V.int)):=Zb;generalize upd H l (.lst (ks.map V.int))=H1 at s1 h1 ⊢;have lp:ks.length<=64:=by rw [zm.length_eq]; have:=Ud ns ns.length; lia
  refine ⟨l,Y,⟨_,SqL.of h1⟩,λD hD=>?_⟩;refine Ym (xs:=ks.map V.int) (λi σ H3=>∃ v,σ=[v,some (.ref p)]/\Same H1 H3/\H3 D=some (.lst (((ks.take i).filter (swB ns)).map V.int))) (ag:) ?_ ?_ ?_
  ·rintro i σ H3 _ ⟨v,rfl,s3,h3⟩
   exact SqL.of (s3 _ _ h1)
  ·rintro i x σ H3 hx ⟨v,rfl,s3,h3⟩
   obtain ⟨y,hy,rfl⟩:=map_some hx;have uv:y∈keys ns ns.length:=zm.mem_iff.mp (Au hy);have ta3:=(ta.same s1).same s3;obtain ⟨dx,cl,na,sp,mt,o,ff,b⟩:=id ta3;dsimp only [Zo];refine ⟨_,Y,p,dx,_,Y,b.ins,Yu _ _ _ _,_,Y,p,M,ns,y,Y,ta3,td,λ_ H4 s4=>?_,λz=>absurd uv z⟩;refine ⟨Y,_,Y,?_⟩;show if swB ns y=true then _ else _
   have lt:(((ks.take i).filter (swB ns)).map V.int).length < sizeLine:=by
    rw [Ab];have:=length_filter_le (swB ns) (ks.take i);rw [Ai] at this;exact Zt (by lia)
   by_cases c:swB ns y=true
   ·rw [if_pos c]
    refine ⟨_,Y,_,s4 _ _ h3,lt,_,Y,Same.add (s3.trans s4) hD,?_⟩;rw [Zb,G5 hy,if_pos c,Aj];rfl
   ·rw [if_neg c]
    refine ⟨_,Y,s3.trans s4,?_⟩;rw [s4 _ _ h3,G5 hy,if_neg c]
  ·rintro σ H3 ⟨v,rfl,s3,h3⟩
   rw [Ab,take_length] at h3;refine k D H3 _ (s1.trans s3) (s1.free hD) h3 (l6.filter _) ⟨(zm.nodup_iff.mpr (Qa ns ns.length)).filter _,λx=>?_⟩;rw [mem_filter,zm.mem_iff,Zpb];refine ⟨λzz43=>?_,λh=>⟨h.key td,(Zfc td (h.key td)).mp h⟩⟩;obtain ⟨h1,h2⟩:=zz43;exact (Zfc td h1).mpr h2
def Zb8:FnScope ["tent"] ["tent"] (Zg O7):=Am
def Zck (T:Txt w K mg t):(a:) 4 t.cZ t.dj ["tent"] (Zb2 t.aa):=by
 refine T.dq.F.aR Zb8 (b:)
 ·obtain ⟨p,M,ns,rfl,ta,td,h64,k⟩:=h
  have hu:=Xb hr;refine ⟨_,(Zh (Zl (K8 (ts:=["seam"]) (fv:=[]) (s:) rfl (Yx (pcT (Kc T) hr T.bW (Za (pv 0) Zc))) (λ_ _ _ _=>(Zk (i:=0) (show List.Nodup (["seam"]:List Str) from by decide +kernel) rfl (g:) (I:))) (ah:) (N:) (λ_ _ _ _ _ _=>V3 (pv 0) (Xg (Za Zf (Za Zf Zc))))))),?_⟩;refine ⟨_,Y,p,M,ns,Y,ta,td,h64,λl H1 ks s1 l7 h1 _ sw=>?_⟩;have lp:ks.length<=64:=by
   have:=sw.len td
   lia
  refine ⟨l,Y,⟨_,SqL.of h1⟩,λD hD=>?_⟩;refine Ym (xs:=ks.map V.int) (λi σ H3=>∃ v,σ=[v]/\Same H1 H3/\WAt H3 D (ks.take i) λ_=>(1,1)) ⟨none,Y,Same.new hD,λ_=>0,Zb,λx hx=>by simp at hx⟩ ?_ ?_ ?_
  ·rintro i σ H3 _ ⟨v,rfl,s3,h3⟩
   exact SqL.of (s3 _ _ h1)
  ·rintro i x σ H3 hx ⟨v,rfl,s3,ad,h3,h4⟩
   obtain ⟨y,hy,rfl⟩:=map_some hx;dsimp only [Zo,tYes];rw [if_pos rfl];refine ⟨_,Y,(by show 2<=sizeLine; rw [sizeLine_eq]; decide),λq hq=>?_⟩;have sq:Same H3 (upd H3 q (.tup [V.int 1,V.int 1])):=Same.new hq;have mn:(upd H3 q (.tup [V.int 1,V.int 1])) q=some (tp (1,1)):=Zb;have hny:y ∉ ks.take i:=λz=>by
    have hi:i < ks.length:=(Aa hy).1
    have nd:=sw.nd
    rw [<- take_append_drop i ks,nodup_append] at nd
    refine nd.2.2 y z y ?_ Y
    rw [drop_eq_getElem_cons hi,(Aa hy).2]
    exact mem_cons_self
   refine ⟨_,Sum.inl y,Y,sq _ _ h3,(by rw [U1,Ai]; exact Zt (by lia)),_,Y,Same.add (s3.trans sq) hD,?_⟩;rw [Aw,hy];have:=WAt.new (g:=λ_=>(1,1)) (v:=(1,1)) (sq _ _ h3) (λx hx=>sq _ _ (h4 x hx)) mn hny;exact this.congr λx _=>by unfold putG; split <;> rfl
  ·rintro σ H3 ⟨v,rfl,s3,h3⟩
   rw [Ab,take_length] at h3;exact k D H3 ks (s1.trans s3) (s1.free hD) h3 sw
def Fx:FnScope ["tent","worths"] ["tent","worths"] (Zg Um):=Am
def F6 (T:Txt w K mg t):(a:) 4 t.cg t.cr ["tent","worths"] (Zku t.aa):=by
 refine T.cA.F.aR Fx (b:)
 ·obtain ⟨p,d,M,ns,ks,g,rfl,ta,td,h64,wa,sw,ok,k⟩:=h
  have hu:=Xb hr;refine ⟨_,(Ze (Z9 (Zq (Zlq hr.units) (Zn (Qc Y) (by rfl) T.bQ PyProof.Rows.boot_sorted (v:)) (pcT (Kc T) hr T.bW (Za (pv 0) Zc)) (Zr _)) Yy Zz)
   (Zh (Zl (Zif (K8 (ts:=["seam","top","bottom"]) (fv:=[]) (s:) rfl (Qi (pv 1) ⟨rfl,rfl,rfl⟩) (λ_ _ _ _=>(Qj (n:=2) K rfl (Zw (Zk (i:=0) (show List.Nodup (["seam","top","bottom"]:List Str) from by decide +kernel) rfl (g:) (I:)) (Zw (Qj (n:=2) K rfl (Zw (Zk (i:=1) (show List.Nodup (["seam","top","bottom"]:List Str) from by decide +kernel) rfl (g:) (I:)) (Zw (Zk (i:=2) (show List.Nodup (["seam","top","bottom"]:List Str) from by decide +kernel) rfl (g:) (I:)) Yz))) Yz)))) (ah:) (N:) (λ_ _ _ _ _ _=>V3 (pv 0) (pcT (U0 T) hr T.bV (Za (pv 1) (U:))))))))),?_⟩
  obtain ⟨ad,hd,had⟩:=id wa;have lp:ks.length < 64:=by
   have:=sw.len td
   lia
  refine Zx λk6 j6=>?_;refine ⟨_,Y,d,_,ks,Y,.inl hd,(by unfold wD; rw [map_map]; rfl),lp,λl1 k8 l7 u6 u5=>?_⟩;have s1:Same H (upd H l1 (bc:)):=Same.new l7;have h1:(upd H l1 (bc:)) l1=some (bc:):=Zb;generalize upd H l1 (.lst (k8.map V.int))=H1 at s1 h1 ⊢;refine ⟨_,Y,p,M,ns,Y,ta.same s1,td,h64,λl2 H2 vn s2 lm h2 md sw2=>?_⟩;refine ⟨l1,l2,k8,vn,Y,Y,SqL.of (s2 _ _ h1),SqL.of h2,_,Y,?_⟩;obtain rfl:=Zct u6 (sw2.perm sw) u5 md;rw [decide_eq_true rfl];refine iteF ?_
  try dsimp only [Jo]
  refine j6 _ _ ?_;have m7:=s1.trans s2;have pk:=m7 _ _ hd;have had2:∀ x∈ks,H2 (ad x)=some (tp (g x)):=λx hx=>m7 _ _ (had x hx);clear h1 h2 u5 md u6 sw2 lm;refine ⟨_,Y,d,_,Y,.inl ⟨pk,λo=>?_⟩⟩;intro D hD;obtain ⟨p7,lq⟩:=Y9 hD;have hda:∀ x∈ks,ad x≠d:=λx hx z=>by have:=had2 x hx; rw [z,pk] at this; cases this
  refine Vf (λi σ H3=>∃ v0 v1 v2,σ=[v0,v1,v2]/\(∀ b u,b≠d->H2 b=some u->H3 b=some u)/\H3 d=some (.frz o (.dK (wD ks ad)))/\WAt H3 D (ks.take i) (lowG g)) ⟨none,none,none,Y,λb u hb e=>by rw [Zd (Zi e lq),Zd hb]; exact e,by rw [Zd (Ne.symm p7),Zb],λ_=>0,Zb,λx hx=>by simp at hx⟩ ?_ ?_ ?_
  ·rintro i σ H3 _ ⟨v0,v1,v2,rfl,_,e,_⟩
   exact e
  ·rintro i k0 x0 σ H3 q oq hq ⟨v0,v1,v2,rfl,s3,e3,ad3,h3,h4⟩
   obtain ⟨y,hy,rfl,rfl⟩:=Zom oq;have uv:=Au hy;obtain ⟨o1,o2,o3⟩:=ok y uv;have sq:Same H3 (upd H3 q (.tup [kV (Sum.inl y),V.ref (ad y)])):=Same.new hq;have rm:(upd H3 q (.tup [kV (Sum.inl y),V.ref (ad y)])) q=some (.tup [kV (Sum.inl y),V.ref (ad y)]):=Zb;have hay:(upd H3 q (.tup [kV (Sum.inl y),V.ref (ad y)])) (ad y)=some (tp (g y)):=sq _ _ (s3 _ _ (hda y uv) (had2 y uv));generalize upd H3 q (.tup [kV (Sum.inl y),V.ref (ad y)])=H4 at sq rm hay ⊢;dsimp only [Zo];refine ⟨q,_,Y,SqT.of rm,Y,_,_,Y,_,_,Y,⟨ad y,_,Y,SqT.of hay,Y,_,_,Y,_,_,Y,Y,?_⟩⟩;refine ⟨Y,?_⟩;dsimp only [Zo,tYes];rw [if_pos rfl];refine ⟨_,Y,_,Y,_,Y,((g y).1:Int),((g y).2:Int),Y,λm n em en hm hn=>?_,λz=>by lia⟩;obtain rfl:m=(g y).1:=by lia
   obtain rfl:n=(g y).2:=by lia
   refine ⟨Zly hm o3,λr hr=>?_⟩;have sr:Same H4 (upd H4 r (tp (lowN (g y).1 (g y).2))):=Same.new hr;have hny:y ∉ ks.take i:=λz=>by
    have hi:i < ks.length:=(Aa hy).1
    have nd:=sw.nd
    rw [<- take_append_drop i ks,nodup_append] at nd
    refine nd.2.2 y z y ?_ Y
    rw [drop_eq_getElem_cons hi,(Aa hy).2]
    exact mem_cons_self
   have uq:=sq.trans sr;refine ⟨_,Sum.inl y,Y,uq _ _ h3,(by rw [U1,Ai]; exact Zt (by lia)),_,_,_,Y,λb u hb e=>?_,?_,?_⟩
   ·rw [Zd (Zi e lq)]; exact uq _ _ (s3 b u hb e)
   ·rw [Zd (Ne.symm p7)]; exact uq _ _ e3
   ·rw [Aw,hy]
    have:=WAt.new (g:=lowG g) (v:=lowN (g y).1 (g y).2) (uq _ _ h3) (λx hx=>uq _ _ (h4 x hx)) (Zb (H:=H4) (a:=r)) hny;exact this.congr λx _=>by
     unfold putG
     split
     ·rename_i z; rw [z]; rfl
     ·rfl
  ·rintro σ H3 ⟨v0,v1,v2,rfl,s3,e3,w3⟩
   rw [U1,take_length] at w3;refine ⟨d,o,_,e3,(λo' u z=>by have z:H d=some (.frz o' u):=z; rw [hd] at z; cases z),?_⟩;have sF:Same H2 (upd H3 d (.dK (wD ks ad))):=λb u e=>by
    by_cases c:b=d
    ·subst c; rw [pk] at e; rw [Zb]; exact e
    ·rw [Zd c]; exact s3 b u c e
   refine k D _ (m7.trans sF) (m7.free lq) ?_;obtain ⟨ad3,h5,h6⟩:=w3;exact ⟨ad3,by rw [Zd p7]; exact h5,λx hx=>by rw [Zd (λz=>by have:=h6 x hx; rw [z,e3] at this; cases this)]; exact h6 x hx⟩
def Zjh:FnScope ["one","other"] ["one","other"] (Zg Zcw):=Am
def Zjo (T:Txt w K mg t):(a:) 3 t.gB t.gK ["one","other"] Zi9:=by
 refine T.gS.F.aR Zjh (b:)
 ·obtain ⟨p,q,v,f,rfl,hp,hq,v1,v2,co,f1,f2,l1,l2,l3,l4,k⟩:=h
  refine ⟨_,(Zh (Zl (pcT (U0 T) hr T.bV (Za (Zj Zik (Zv Yp (pv 0) Zf (j:)) (ak:)) (Za (Zj Zik (Zv Yp (pv 0) Zf (j:)) (ak:)) Zc))))),?_⟩;have l3':f.1 < 2 ^ 60000:=Ag l3 (Nat.pow_le_pow_right (d:) (d:));have l4':f.2 < 2 ^ 60000:=Ag l4 (Nat.pow_le_pow_right (d:) (d:));refine ⟨_,Y,p,_,_,_,Y,Y,SqT.of hp,Y,_,Y,q,_,_,_,Y,Y,SqT.of hq,Y,_,_,Y,Y,mulN l1 l3',?_⟩;refine ⟨_,Y,p,_,_,_,Y,Y,SqT.of hp,Y,_,Y,q,_,_,_,Y,Y,SqT.of hq,Y,_,_,Y,Y,mulN l2 l4',?_⟩;refine ⟨(v.1:Int) * f.1,(v.2:Int) * f.2,Y,λm n em en hm hn=>?_,λz=>?_⟩
  ·have em:m=v.1 * f.1:=by rw [<- Int.natCast_mul] at em; lia
   have en:n=v.2 * f.2:=by rw [<- Int.natCast_mul] at en; lia
   subst em en;refine ⟨?_,λr hr=>k r hr⟩;refine Nat.lt_of_le_of_lt (Zj2 (f:=f) co f1 f2) ?_
   calc f.1 * f.2 < 2 ^ 4000 * 2 ^ 4000:=mul_lt_mul'' l3 l4
    _=2 ^ 8000:=by rw [<- Nat.pow_add]
    _<=2 ^ 8900:=Nat.pow_le_pow_right (d:) (d:)
  ·exfalso
   have p1:=Nat.mul_pos (Ag Nat.one_pos v1) (Ag Nat.one_pos f1);have p2:=Nat.mul_pos (Ag Nat.one_pos v2) (Ag Nat.one_pos f2);rw [<- Int.natCast_mul,<- Int.natCast_mul] at z;lia
def Xe:FnScope ["tent","worths","seam","behind","top","bottom","more","less","place","factor","name"] ["tent","worths","seam"] (Zg Fa):=Am
def Zgc (T:Txt w K mg t):(a:) 5 t.eG t.fh ["tent","worths","seam"] (Zex t.aa):=by
 refine T.fD.F.aR Xe (b:)
 ·obtain ⟨p,d,M,ns,ks,g,x,a,b,rfl,ta,td,h64,wa,sw,ok,mv,lt1,lt2,k⟩:=h
  have hu:=Xb hr;refine ⟨_,(Ze (Z8 (pcT (Gb T) hr T.cN (Za (pv 0) (U:))))
   (Ze (Zs (i:=3) Xe.nd rfl (g:) (pcT (F6 T) hr T.cA (Za (pv 0) (v:))))
   (Ze (Xt (Wy hu (pv 3) (pv 2) (j:)) (Ww rfl (Zw (Zk (i:=4) Xe.nd rfl (g:)) (Zw (Zk (i:=5) Xe.nd rfl (g:)) Yz))))
   (Ze (Zs (i:=6) Xe.nd rfl (g:) (Xg (Za (Zj Yl (pv 4) (pv 5)) (Za (pv 5) Zc))))
   (Ze (Zs (i:=7) Xe.nd rfl (g:) (Xg (Za (pv 4) (Za (Zj Yl (pv 4) (pv 5)) Zc))))
   (Ze (Xr PassesOwn.never rfl (Zpx rfl T.js (Za (pcT (Ga T) hr T.d0 (Za (pv 0) (U:))) (Za (Yr (Za (pv 6) (Za (pv 7) (Za (pv 6) (Za (pv 7) Zc))))) Zc))) (Ww rfl (Zw (Zk (i:=8) Xe.nd rfl (g:)) (Zw (Zk (i:=9) Xe.nd rfl (g:)) Yz))) (Ze (Zs (i:=10) Xe.nd rfl (g:) (Yf (pv 0) T.ai T.au.m (J7 T) (ai:) T.au.b .nil Z1 (Za (pv 8) Zc)))
   (Zh (Z9 (J4 (Zf9 hu (pv 10) (pv 3)) (am:)) (Zh (Ob hu (pv 3) (pv 10) (pcT (Zjo T) hr T.gS (Za (Wy hu (pv 3) (pv 10) (j:)) (Za (pv 9) Zc))) rfl)) Zz))))
   (Ze (Ob hu (pv 3) (pv 2) (Xg (Za (pv 5) (Za (pv 4) Zc))) rfl)
   (Zh (Zl (pv 3)))))))))),?_⟩
  obtain ⟨ha,hb⟩:=mv.lts td;obtain ⟨n,n1,u7,hn⟩:=td.n;have pq:=td.len;obtain ⟨hk,lf⟩:=Zk9 td mv.hM mv.lt mv.nm;have hs:Yd ns x="free":=by unfold Yd; rw [lf]; exact if_neg mv.ab
  have qj:x∈ks:=(sw.mem x).mpr ⟨a,b,mv.hM,mv.nm⟩;refine Zx λk6 j6=>?_;refine ⟨_,Y,_,Y,p,M,ns,x,Y,ta,td,λ_ H1 s1=>⟨λe=>absurd (hs.symm.trans e) (d:),λe=>absurd (hs.symm.trans e) (d:),λ_=>?_⟩,λz=>absurd hk z⟩;refine j6 _ _ ?_;refine Zx λk6 j6=>?_;refine ⟨_,Y,_,Y,p,d,M,ns,ks,g,Y,ta.same s1,td,h64,wa.same s1,sw,λy hy=>⟨(ok y hy).1,(ok y hy).2.1,(ok y hy).2.2.1⟩,λd' H2 s2 vj w2=>?_⟩;refine j6 _ _ ?_
  try dsimp only [Zo]
  have yh:H d'=none:=s1.free vj;have m7:=s1.trans s2;obtain ⟨ad,e1,e2⟩:=id w2;refine Zx λk6 j6=>?_;refine ⟨_,Y,_,Y,d',_,Y,Zkd (.inl e1) qj,ad x,_,Y,SqT.of (e2 x qj),Y,_,_,Y,_,_,Y,Y,?_⟩;refine j6 _ _ ?_
  try dsimp only [Zo]
  have vx:Val (lowG g x) (g x).1 (g x).2:=Gp (ok x qj).1 (ok x qj).2.1;generalize etu:lowG g x=tu at *;refine Zx λk6 j6=>?_;refine ⟨_,Y,_,Y,_,_,Y,Y,_,Y,(by show 2<=sizeLine; rw [sizeLine_eq]; decide),λmo hmo=>?_⟩;refine j6 _ _ ?_;have s3:Same H2 (upd H2 mo (.tup [V.int ((tu.1:Int) + tu.2),V.int tu.2])):=Same.new hmo;have h3:(upd H2 mo (.tup [V.int ((tu.1:Int) + tu.2),V.int tu.2])) mo=some (tp (tu.1 + tu.2,tu.2)):=by rw [Zb]; unfold tp; rw [Int.natCast_add]
  show tSeq _ _ _ _ (upd H2 mo (.tup [V.int ((tu.1:Int) + tu.2),V.int tu.2]));generalize upd H2 mo (.tup [V.int ((tu.1:Int) + tu.2),V.int tu.2])=H3 at s3 h3 ⊢
  try dsimp only [Zo]
  refine Zx λk6 j6=>?_;refine ⟨_,Y,_,Y,_,Y,_,_,Y,Y,(by show 2<=sizeLine; rw [sizeLine_eq]; decide),λle wp=>?_⟩;refine j6 _ _ ?_;have s4:Same H3 (upd H3 le (.tup [V.int tu.1,V.int ((tu.1:Int) + tu.2)])):=Same.new wp;have h4:(upd H3 le (.tup [V.int tu.1,V.int ((tu.1:Int) + tu.2)])) le=some (tp (tu.1,tu.1 + tu.2)):=by rw [Zb]; unfold tp; rw [Int.natCast_add]
  show tSeq _ _ _ _ (upd H3 le (.tup [V.int tu.1,V.int ((tu.1:Int) + tu.2)]));generalize upd H3 le (.tup [V.int tu.1,V.int ((tu.1:Int) + tu.2)])=H4 at s4 h4 ⊢
  try dsimp only [Zo]
  have s24:=s3.trans s4;have h34:=s4 _ _ h3;have sH4:=m7.trans s24;clear s3 h3 hmo wp;refine Yc (λσ H'=>∃ v8 v9 ph,σ=[some (.ref p),some (.ref d),some (.int x),some (.ref d'),some (.int tu.1),some (.int tu.2),some (.ref mo),some (.ref le),v8,v9,ph]/\Same H H'/\WAt H' d' ks (stG ks (G:) tu (lowG g) 4)) (ab:) ?_
  ·refine ⟨_,Y,_,Y,p,M,ns,x,Y,ta.same sH4,td,λ_ H5 s5=>⟨λe=>absurd (hs.symm.trans e) (d:),λe=>absurd (hs.symm.trans e) (d:),λa' b' sq e1 e2 e3 e4 e5 e6=>?_⟩,λz=>absurd hk z⟩
   rw [lf] at e1;cases e1;refine ⟨_,Y,_,Y,_,Y,_,Y,(by show 4<=sizeLine; rw [sizeLine_eq]; decide),λls hls=>?_⟩;have s6:Same H5 (upd H5 ls (.lst [V.ref mo,V.ref le,V.ref mo,V.ref le])):=Same.new hls;have h6:(upd H5 ls (.lst [V.ref mo,V.ref le,V.ref mo,V.ref le])) ls=some (.lst [V.ref mo,V.ref le,V.ref mo,V.ref le]):=Zb;have e7:=s6 _ _ e6;generalize upd H5 ls (.lst [V.ref mo,V.ref le,V.ref mo,V.ref le])=H6 at s6 h6 e7 ⊢;have tf:=s5.trans s6;refine ⟨.t sq,.l ls,_,_,Y,SqT.of e7,SqL.of h6,?_⟩;refine Zod (xs:=sqr a b) (ys:=[V.ref mo,V.ref le,V.ref mo,V.ref le]) Y (λi σ H'=>∃ v8 v9 ph,σ=[some (.ref p),some (.ref d),some (.int x),some (.ref d'),some (.int tu.1),some (.int tu.2),some (.ref mo),some (.ref le),v8,v9,ph]/\Same H H'/\H' sq=some (.tup (sqr a b))/\H' ls=some (.lst [V.ref mo,V.ref le,V.ref mo,V.ref le])/\H' mo=some (tp (tu.1 + tu.2,tu.2))/\H' le=some (tp (tu.1,tu.1 + tu.2))/\WAt H' d' ks (stG ks (G:) tu (lowG g) i)) ⟨_,_,_,Y,sH4.trans tf,e7,h6,tf _ _ h34,tf _ _ h4,w2.same (s24.trans tf)⟩ ?_ ?_ ?_
   ·rintro i σ H' _ ⟨v8,v9,ph,rfl,_,q1,q2,_⟩
    exact ⟨SqT.of q1,SqL.of q2⟩
   ·rintro i x0 y0 σ H7 q u8 hy0 hq ⟨v8,v9,ph,rfl,s7,q1,q2,q3,q4,w7⟩
    have hi:i < 4:=(Aa u8).1
    obtain ⟨rfl,fa,rfl,hfa⟩:x0=V.int (qh a b i:Nat)/\∃ fa,y0=V.ref fa/\H7 fa=some (tp (frc tu i)):=by
     have:i=0\/i=1\/i=2\/i=3:=by lia
     unfold sqr at u8;rw [Zbx,Zbw,Zbx,Zbw] at u8
     rcases this with rfl | rfl | rfl | rfl
     ·cases u8; cases hy0; exact ⟨Y,mo,Y,q3⟩
     ·cases u8; cases hy0; exact ⟨Y,le,Y,q4⟩
     ·cases u8; cases hy0; exact ⟨Y,mo,Y,q3⟩
     ·cases u8; cases hy0; exact ⟨Y,le,Y,q4⟩
    have sx:Same H7 (upd H7 q (.tup [V.int (qh a b i:Nat),V.ref fa])):=Same.new hq;have hq8:(upd H7 q (.tup [V.int (qh a b i:Nat),V.ref fa])) q=some (.tup [V.int (qh a b i:Nat),V.ref fa]):=Zb;generalize upd H7 q (.tup [V.int (qh a b i:Nat),V.ref fa])=H8 at sx hq8 ⊢;have hpt:qh a b i < M.length:=by rw [hn] at ha hb ⊢; exact Zko ha hb
    have wn:=Zou td hpt;rw [<- Zkn hi] at wn;refine ⟨q,_,Y,SqT.of hq8,Y,_,_,Y,_,_,Y,Y,?_⟩;have s78:=s7.trans sx;have ta8:=ta.same s78;obtain ⟨dx,cl,na,sp,mt,o,ff,B⟩:=id ta8;refine Zx λk6 j6=>?_;refine ⟨_,Y,p,dx,_,Y,B.ins,Yu _ _ _ _,_,Y,p,M,ns,_,Y,ta8,λi' y' z1 z2=>?_,λz=>absurd ⟨by lia,by lia⟩ z⟩;obtain rfl:qh a b i=i':=by lia
    rw [wn] at z2;cases z2;refine j6 _ _ ?_
    try dsimp only [Zo]
    obtain ⟨ad8,e8,e9⟩:=w7.same sx;refine ⟨_,Y,_,Y,d',_,Y,.inl ⟨_,Sum.inl ((G:).getD i 0),.inl e8,Y,Y⟩,_,Y,?_⟩;rw [Zen];generalize hxy:(sqX ns a b).getD i 0=y at *;by_cases hy:y∈ks
    ·rw [if_pos hy]
     refine iteT ?_;have vy:Val (stG ks (G:) tu (lowG g) i y) ((g y).1 * nuN (flg ks (G:) y) tu i) ((g y).2 * deN (flg ks (G:) y) tu i):=by rw [Zam]; exact Zg2 (Gp (ok y hy).1 (ok y hy).2.1) vx.p1 vx.p2 i
     have bd:(stG ks (G:) tu (lowG g) i y).1 < 2 ^ 60000/\(stG ks (G:) tu (lowG g) i y).2 < 2 ^ 60000:=by
      rw [Zam];have l0:=Zcn (g y).1 (g y).2;obtain ⟨c1,c2⟩:=Zj8 (e:=flg ks (G:) y) (tu:=tu) (v:=lowG g y) (B:=2 ^ 8900) (S:=2 ^ 4000) ⟨Nat.le_trans l0.1 (Nat.le_of_lt (ok y hy).2.2.1),Nat.le_trans l0.2 (Nat.le_of_lt (ok y hy).2.2.2)⟩ (by
       have:tu.1 + tu.2 < 2 ^ 3999 + 2 ^ 3999:=add_lt_add lt1 lt2
       rw [show 2 ^ 3999 + 2 ^ 3999=2 ^ 4000 by rw [<- Nat.two_mul,<- pow_succ']] at this
       exact Nat.le_of_lt this) (Nat.one_le_two_pow) i
      have cn:cnN (flg ks (G:) y) i<=4:=by
       have:∀ (e:Nat->Bool) (j:Nat),cnN e j<=j:=λe j=>by
        induction j with
        | zero=>exact An _
        | succ j ih=>unfold cnN; split <;> lia
       have:=this (flg ks (G:) y) i;lia
      have top:2 ^ 8900 * (2 ^ 4000) ^ cnN (flg ks (G:) y) i < 2 ^ 60000:=by
       rw [<- Nat.pow_mul,<- Nat.pow_add];exact Nat.pow_lt_pow_right (d:) (by lia)
      exact ⟨Nat.lt_of_le_of_lt c1 top,Nat.lt_of_le_of_lt c2 top⟩
     obtain ⟨f1,f2⟩:=Zis vx.p1 vx.p2 i;have fl:=Zmg tu i;have fb:tu.1 + tu.2 < 2 ^ 4000:=by
      have:tu.1 + tu.2 < 2 ^ 3999 + 2 ^ 3999:=add_lt_add lt1 lt2
      rw [show 2 ^ 3999 + 2 ^ 3999=2 ^ 4000 by rw [<- Nat.two_mul,<- pow_succ']] at this
      exact this
     refine ⟨_,Y,_,Y,d',_,Y,Zkd (.inl e8) hy,_,Y,ad8 y,fa,_,frc tu i,Y,e9 y hy,sx _ _ hfa,vy.p1,vy.p2,vy.co,f1,f2,bd.1,bd.2,Nat.lt_of_le_of_lt fl.1 fb,Nat.lt_of_le_of_lt fl.2 fb,λr hr=>?_⟩;have sr:Same H8 (upd H8 r (tp (lw2 (stG ks (G:) tu (lowG g) i y) (frc tu i)))):=Same.new hr;have vc:(upd H8 r (tp (lw2 (stG ks (G:) tu (lowG g) i y) (frc tu i)))) r=some (tp (lw2 (stG ks (G:) tu (lowG g) i y) (frc tu i))):=Zb;generalize upd H8 r (tp (lw2 (stG ks (sqX ns a b) tu (lowG g) i y) (frc tu i)))=H9 at sr vc ⊢;have lp:=sw.len td;refine ⟨_,Y,_,Y,d',_,Y,DPut.k (k:=Sum.inl y) (sr _ _ e8) (by rw [U1]; exact Zt (by lia)),?_⟩;have ndt:∀ r u,H9 r=some (.tup u)->r≠d':=λr u h z=>by rw [z,sr _ _ e8] at h; cases h
     have ndl:ls≠d':=λz=>by have:=sr _ _ (sx _ _ q2); rw [z,sr _ _ e8] at this; cases this
     have we:=sx.trans sr;refine ⟨_,_,_,Y,Same.add (s7.trans we) yh,?_,?_,?_,?_,?_⟩
     ·rw [Zd (ndt _ _ (we _ _ q1))]; exact we _ _ q1
     ·rw [Zd ndl]; exact we _ _ q2
     ·rw [Zd (ndt _ _ (we _ _ q3))]; exact we _ _ q3
     ·rw [Zd (ndt _ _ (we _ _ q4))]; exact we _ _ q4
     ·have:=WAt.put (sr _ _ e8) (λx hx=>sr _ _ (e9 x hx)) vc hy
      have est:stG ks (G:) tu (lowG g) (i + 1)=putG (stG ks (G:) tu (lowG g) i) y (lw2 (stG ks (G:) tu (lowG g) i y) (frc tu i)):=by
       conv=>lhs; unfold stG
       rw [hxy,if_pos hy]
      rw [est];exact this
    ·rw [if_neg hy]
     refine iteF ⟨_,_,_,Y,s78,sx _ _ q1,sx _ _ q2,sx _ _ q3,sx _ _ q4,?_⟩;have est:stG ks (G:) tu (lowG g) (i + 1)=stG ks (G:) tu (lowG g) i:=by
      conv=>lhs; unfold stG
      rw [hxy,if_neg hy]
     rw [est];exact w7.same sx
   ·rintro σ H7 ⟨v8,v9,ph,rfl,s7,q1,q2,q3,q4,w7⟩
    exact kh _ _ ⟨_,_,_,Y,s7,w7⟩
  rintro σ H7 ⟨v8,v9,ph,rfl,s7,ad7,e7,e8⟩;have lp:=sw.len td;refine Zx λk6 j6=>?_;refine ⟨_,Y,_,Y,(by show 2<=sizeLine; rw [sizeLine_eq]; decide),λr hr=>?_⟩;have sr:Same H7 (upd H7 r (.tup [V.int tu.2,V.int tu.1])):=Same.new hr;have vc:(upd H7 r (.tup [V.int tu.2,V.int tu.1])) r=some (tp (tu.2,tu.1)):=Zb;refine ⟨_,Y,_,Y,d',_,Y,DPut.k (k:=Sum.inl x) (sr _ _ e7) (by rw [U1]; exact Zt (by lia)),?_⟩;refine j6 _ _ ?_;refine ⟨_,Y,k d' _ (Same.add (s7.trans sr) yh) yh ?_⟩;have:=WAt.put (sr _ _ e7) (λx hx=>sr _ _ (e8 x hx)) vc qj;unfold strG;rw [etu];exact this
def Wb {H:Hp} {p:Addr} {a b:HO}:upd (upd H p a) p b=upd H p b:=by
 funext c;by_cases z:c=p
 ·subst z; rw [Zb,Zb]
 ·rw [Zd z,Zd z,Zd z]
noncomputable def X4 (te th po wo:V):List (Str × V):=putF "worths" wo (putF "pools" po (putF "threads" th (putF "tent" te [])))
noncomputable def Y0 (be sc st un:Addr):List (Str × V):=putF "undone" (.ref un) (putF "standing" (.ref st) (putF "scene" (.ref sc) (putF "began" (.ref be) [])))
structure HallNew (CT CS CH:Addr) (H:Hp) (p:Addr) (M:Lq) (ns:List Int) (dx be sc st un kd th po wo:Addr) (ks:List Int):Prop where
 ins:H p=some (.ins CH dx (Y0 be sc st un))
 tent:Z3 CT H be M ns
 scn:H sc=some (.ins CS kd (X4 (.ref be) (.ref th) (.ref po) (.ref wo)))
 thr:H th=some (.dK [])
 poo:H po=some (.dK [])
 wor:WAt H wo ks λ_=>(1,1)
 sw:SwK M ns ks
 sta:H st=some (.lst [])
 und:H un=some (.lst [])
def OthP (p:Addr) (H H':Hp):Prop:=∀ b u,b≠p->H b=some u->H' b=some u
def OthP.trans {p:Addr} {H H1 H':Hp} (s:OthP p H H1) (s1:OthP p H1 H'):OthP p H H':=λb u hb e=>s1 b u hb (s b u hb e)
def OthP.of {p:Addr} {H H':Hp} (s:Same H H'):OthP p H H':=λb u _ e=>s b u e
def OthP.upd {p:Addr} {H:Hp} {o:HO}:OthP p H (upd H p o):=λb u hb e=>by rw [Zd hb]; exact e
def Xm {H H':Hp} {p C dx:Addr} {fs:List (Str × V)} (hp:H p=some (.ins C dx fs)) (s:OthP p H H') {b:Addr} {u:HO} (e:H b=some u) (hu:∀ C dx fs,u≠.ins C dx fs):H' b=some u :=
 s b u (λz=>by rw [z,hp] at e; exact hu _ _ _ (Ax e).symm) e
def Yq.oth {H H':Hp} {p C dx r:Addr} {fs:List (Str × V)} {ns:List Int} (h:Yq H r ns) (hp:H p=some (.ins C dx fs)) (s:OthP p H H'):Yq H' r ns:=by
 obtain ⟨ts,h1,h2,h3⟩:=h;exact ⟨ts,Xm hp s h1 (X:),h2,λk q e=>Xm hp s (h3 k q e) (X:)⟩
def Z3.oth {C0:Addr} {H H':Hp} {p C dx x:Addr} {fs:List (Str × V)} {M:Lq} {ns:List Int} (h:Z3 C0 H x M ns) (hp:H p=some (.ins C dx fs)) (hx:x≠p) (s:OthP p H H'):Z3 C0 H' x M ns:=by
 obtain ⟨dt,cl,na,sp,mt,o,f,b⟩:=h;exact ⟨dt,cl,na,sp,mt,o,f,s _ _ hx b.ins,b.rows.oth hp s,Xm hp s b.names (X:),Xm hp s b.spots (X:),Xm hp s b.mates (X:),λy hy=>Xm hp s (b.at' y hy) (X:)⟩
def WAt.oth {H H':Hp} {p C dx d:Addr} {fs:List (Str × V)} {ks:List Int} {g:Int->Nat × Nat} (h:WAt H d ks g) (hp:H p=some (.ins C dx fs)) (s:OthP p H H'):WAt H' d ks g:=by
 obtain ⟨ad,h1,h2⟩:=h;exact ⟨ad,Xm hp s h1 (X:),λx hx=>Xm hp s (h2 x hx) (X:)⟩
def O3 (C:Addr):Sp:=λvs H Q _=>∃ (p dx:Addr) (te th po wo:V),vs=[.ref p,te,th,po,wo]/\H p=some (.ins C dx [])/\Q .non (upd H p (.ins C dx (X4 te th po wo)))
def Ze8 (CT CS CH:Addr):Sp:=λvs H Q _=>∃ (p r dx:Addr) (M:Lq) (ns:List Int),vs=[.ref p,.ref r]/\H p=some (.ins CH dx [])/\Yq H r ns/\TD M ns/\ns.length < 64 /\
 ∀ (H':Hp),OthP p H H'->(∃ be sc st un kd th po wo ks,HallNew CT CS CH H' p M ns dx be sc st un kd th po wo ks/\H st=none/\H un=none/\st≠un)->Q .non H'
def Zd7:FnScope ["self","tent","threads","pools","worths"] ["self","tent","threads","pools","worths"] (Zg Kx):=Am
def X9 (T:Txt w K mg t):(a:) 1 t.bR t.dP ["self","tent","threads","pools","worths"] (O3 t.ag):=by
 refine T.aC.F.aR Zd7 (b:)
 ·obtain ⟨p,dx,te,th,po,wo,rfl,hp,k⟩:=h
  refine ⟨_,(Ze (Xs (pv 0) (pv 1) Y)
   (Ze (Xs (pv 0) (pv 2) rfl)
   (Ze (Xs (pv 0) (pv 3) rfl)
   (Zh (Xs (pv 0) (pv 4) rfl))))),?_⟩;have l1:=Xk "tent" te [];have l2:=Xk "threads" th (putF "tent" te []);have l3:=Xk "pools" po (putF "threads" th (putF "tent" te []));rw [length_nil] at l1;refine ⟨_,Y,_,Y,p,_,dx,_,Y,hp,T.af,T.al,by decide,?_⟩;refine ⟨_,Y,_,Y,p,_,dx,_,Y,Zb,T.af,T.aj,by lia,?_⟩;refine ⟨_,Y,_,Y,p,_,dx,_,Y,Zb,T.af,T.ak,by lia,?_⟩;refine ⟨_,Y,_,Y,p,_,dx,_,Y,Zb,T.af,T.aq,by lia,?_⟩;rw [Wb,Wb,Wb];exact k
def Zfi:FnScope ["self","rows"] ["self","rows"] (Zg Fm):=Am
def Zgi (T:Txt w K mg t):(a:) 5 t.cH t.fj ["self","rows"] (Ze8 t.aa t.ag t.ae):=by
 refine T.fE.F.aR Zfi (b:)
 ·obtain ⟨p,r,dx,M,ns,rfl,hp,nh,td,h64,k⟩:=h
  refine ⟨_,(Ze (Xs (pv 0) (Je T.jb (Gf T) (ai:) Y T.i8 T.cM.b .nil Z1 (v:)) Y)
   (Ze (Xs (pv 0) (Je T.bP (X9 T) (ai:) rfl T.bM T.aC.b .nil Z1 (Za (as:) (Za Ox (Za Ox (Za (pcT (Zck T) hr T.dq (Za (as:) Zc)) Zc))))) rfl)
   (Ze (Xs (pv 0) (Yr Zc) rfl)
   (Zh (Xs (pv 0) (Yr Zc) rfl))))),?_⟩;refine ⟨_,Y,?_⟩;intro x dt hx hdt kr;have s0:Same H (upd (upd H dt (.own x)) x (.ins t.aa dt [])):=Same.add (Same.new hdt) hx;refine ⟨x,r,dt,M,ns,Y,Zb,nh.same s0,td,by lia,λH1 old ta=>⟨Y,?_⟩⟩;have s1:Same H H1:=λb u e=>old b u (Zi e hx) (s0 b u e);refine ⟨_,Y,p,_,dx,_,Y,s1 _ _ hp,T.ac,T.bU,by decide,?_⟩;have l1:=Xk "began" (.ref x) [];rw [length_nil] at l1;have hp1:=s1 _ _ hp;have nx:x≠p:=λz=>by rw [z,hp] at hx; cases hx
  have o2:OthP p H1 (upd H1 p (.ins t.ae dx (Q:))):=.upd;have pj:(upd H1 p (.ins t.ae dx (Q:))) p=some (.ins t.ae dx (Q:)):=Zb;have qv:=ta.oth hp1 nx o2;have o02:OthP p H _:=(OthP.of s1).trans o2;generalize upd H1 p (.ins t.ae dx (putF "began" (.ref x) []))=H2 at o2 pj qv o02 ⊢;clear o2 ta old s1 s0 hp1 hdt kr nh;have lk1:(Q:).lookup ("began":Str)=some (.ref x):=by rw [Z7,if_pos rfl]
  refine ⟨_,Y,p,_,dx,_,_,Y,pj,T.ac,T.bU,lk1,?_⟩;intro th xt po vd;obtain ⟨hpt,qe⟩:=Y9 vd;have s3:Same H2 (upd (upd H2 th (.dK [])) po (.dK [])):=Same.add (Same.new xt) qe;have ht3:(upd (upd H2 th (.dK [])) po (.dK [])) th=some (.dK []):=by rw [Zd (Ne.symm hpt),Zb]
  have zk:(upd (upd H2 th (.dK [])) po (.dK [])) po=some (.dK []):=Zb;generalize upd (upd H2 th (.dK [])) po (.dK [])=H3 at s3 ht3 zk ⊢;refine ⟨_,Y,p,_,dx,_,_,Y,s3 _ _ pj,T.ac,T.bU,lk1,x,M,ns,Y,qv.same s3,td,h64,λwo H4 ks s4 hwo w4 sw=>?_⟩;intro sc kd rj yy vz;have s5:Same H4 (upd (upd H4 kd (.own sc)) sc (.ins t.ag kd [])):=Same.add (Same.new yy) rj;refine ⟨sc,kd,_,_,_,_,Y,Zb,Y,?_⟩;rw [Wb];have s6:Same H4 (upd (upd H4 kd (.own sc)) sc (.ins t.ag kd (X4 (.ref x) (.ref th) (.ref po) (.ref wo)))):=Same.add (Same.new yy) rj;have hc6:(upd (upd H4 kd (.own sc)) sc (.ins t.ag kd (X4 (.ref x) (.ref th) (.ref po) (.ref wo)))) sc=some (.ins t.ag kd (X4 (.ref x) (.ref th) (.ref po) (.ref wo))):=Zb;generalize upd (upd H4 kd (.own sc)) sc (.ins t.ag kd (X4 (.ref x) (.ref th) (.ref po) (.ref wo)))=H6 at s6 hc6 ⊢;clear s5;have tf:=s4.trans s6;have s26:=s3.trans tf;have rq:=s26 _ _ pj;have nsc:sc≠p:=λz=>by rw [z,(s3.trans s4) _ _ pj] at rj; cases rj
  refine ⟨_,Y,p,_,dx,_,Y,rq,T.ac,T.ah,by lia,?_⟩;have l2:=Xk "scene" (.ref sc) (Q:);have o7:OthP p H6 (upd H6 p (.ins t.ae dx (C:))):=.upd;have zn:(upd H6 p (.ins t.ae dx (C:))) p=some (.ins t.ae dx (C:)):=Zb;have ta7:=(qv.same s26).oth rq nx o7;have qx:=Xm rq o7 (tf _ _ ht3) (X:);have hq7:=Xm rq o7 (tf _ _ zk) (X:);have w7:=(w4.same s6).oth rq o7;have hc7:=o7 _ _ nsc hc6;have o07:OthP p H _:=(o02.trans (.of s26)).trans o7;generalize upd H6 p (.ins t.ae dx (putF "scene" (.ref sc) (putF "began" (.ref x) [])))=H7 at o7 zn ta7 qx hq7 w7 hc7 o07 ⊢;clear o7 rq s26 tf s6 hc6 s4 w4 s3 ht3 zk qv pj o02 xt vd qe hwo rj yy;refine ⟨Az _,λst l6=>?_⟩
  have hst0:H st=none:=by
   cases e:H st with
   | none=>rfl
   | some u =>
    rw [o07 _ _ (λz=>by rw [z,zn] at l6; cases l6) e] at l6;cases l6
  have s8:Same H7 (upd H7 st (.lst [])):=Same.new l6;have hs8:(upd H7 st (.lst [])) st=some (.lst []):=Zb;generalize upd H7 st (.lst [])=H8 at s8 hs8 ⊢;have xy:=s8 _ _ zn;refine ⟨_,Y,p,_,dx,_,Y,xy,T.ac,T.av,by lia,?_⟩;have l3:=Xk "standing" (.ref st) (C:);have o9:OthP p H8 (upd H8 p (.ins t.ae dx (putF "standing" (.ref st) (C:)))):=.upd;have hp9:(upd H8 p (.ins t.ae dx (putF "standing" (.ref st) (C:)))) p=some (.ins t.ae dx (putF "standing" (.ref st) (C:))):=Zb;have ta9:=(ta7.same s8).oth xy nx o9;have zi:=Xm xy o9 (s8 _ _ qx) (X:);have hq9:=Xm xy o9 (s8 _ _ hq7) (X:);have hs9:=Xm xy o9 hs8 (X:);have w9:=(w7.same s8).oth xy o9;have hc9:=o9 _ _ nsc (s8 _ _ hc7);have o09:OthP p H _:=(o07.trans (.of s8)).trans o9;generalize upd H8 p (.ins t.ae dx (putF "standing" (.ref st) (putF "scene" (.ref sc) (putF "began" (.ref x) []))))=H9 at o9 hp9 ta9 zi hq9 hs9 w9 hc9 o09 ⊢;clear o9 xy s8 hs8 zn ta7 qx hq7 w7 hc7 o07 l6;refine ⟨Az _,λun ou=>?_⟩
  have yr:H un=none:=by
   cases e:H un with
   | none=>rfl
   | some u =>
    rw [o09 _ _ (λz=>by rw [z,hp9] at ou; cases ou) e] at ou;cases ou
  have hsu:st≠un:=λz=>by rw [<- z,hs9] at ou; cases ou
  have sA:Same H9 (upd H9 un (.lst [])):=Same.new ou;have hsA:(upd H9 un (.lst [])) un=some (.lst []):=Zb;generalize upd H9 un (.lst [])=HA at sA hsA ⊢;have xx:=sA _ _ hp9;refine ⟨_,Y,p,_,dx,_,Y,xx,T.ac,T.aF,by lia,?_⟩;have oB:OthP p HA (upd HA p (.ins t.ae dx (Y0 x sc st un))):=.upd;refine k _ ((o09.trans (.of sA)).trans oB) ⟨x,sc,st,un,kd,th,po,wo,ks,⟨Zb,(ta9.same sA).oth xx nx oB,oB _ _ nsc (sA _ _ hc9),Xm xx oB (sA _ _ zi) (X:),Xm xx oB (sA _ _ hq9) (X:),(w9.same sA).oth xx oB,sw,Xm xx oB (sA _ _ hs9) (X:),Xm xx oB hsA (X:)⟩,hst0,yr,hsu⟩
noncomputable def dS (l:List (Str × V)):List (Key × V):=l.map λkv=>((Sum.inr kv.1:Key),kv.2)
def Zmp (l:List (Str × V)):(dS l).length=l.length:=by unfold dS; rw [Ab]
def Zew:Sp:=λvs H Q _=>∃ (d:Addr) (k:Key) (v:V) (l:List (Key × V)),vs=[.ref d,kV k,v]/\H d=some (.dK l)/\l.length<=900/\∀ e:Addr,H e=none->Q (.ref e) (upd H e (.dK (putK l k v)))
def Zan:Sp:=λvs H Q _=>∃ (d:Addr) (x:Str) (l:List (Str × V)),vs=[.ref d,.str x]/\H d=some (.dK (dS l))/\l.length<=900/\(l.map (·.1)).Nodup/\∀ (e:Addr) (H':Hp),Same H H'->H e=none->H' e=some (.dK (dS (l.filter λkv=>decide (kv.1≠x))))->Q (.ref e) H'
def Ztn {l:List (Str × V)} {i:Nat} {k:Key} {v:V} (h:(dS l)[i]?=some (k,v)):∃ kv,l[i]?=some kv/\k=Sum.inr kv.1/\v=kv.2:=by
 unfold dS at h;rw [Ah] at h;obtain ⟨kv,h1,h2⟩:=Option.map_eq_some_iff.mp h;cases h2;exact ⟨kv,h1,Y,Y⟩
def Zsb {l:List (Str × V)} {x:Str} {v:V} (hn:x ∉ l.map (·.1)):putK (dS l) (Sum.inr x) v=dS (l ++ [(x,v)]):=by
 have:((dS l).any λkv=>decide (kv.1=(Sum.inr x:Key)))=false:=by
  rw [any_eq_false];intro kv hk z;unfold dS at hk;obtain ⟨y,hy,rfl⟩:=mem_map.mp hk;have e:=of_decide_eq_true z
  injection e with e
  exact hn (mem_map.mpr ⟨y,hy,e⟩)
 unfold putK;rw [this,if_neg (d:)];unfold dS;rw [Aj];rfl
def Ft (CS:Addr):Sp:=λvs H Q _=>∃ (sc kd th po:Addr) (te wo:V) (x:Str) (kt kp:List (Key × V)),vs=[.ref sc,.str x]/\H sc=some (.ins CS kd (X4 te (.ref th) (.ref po) wo))/\H th=some (.dK kt)/\H po=some (.dK kp)/\x.cps.all (· < 128)=true/\x.cps.size<=900/\isN x=true/\valV kt (Sum.inr x)=none/\valV kp (Sum.inr x)=none/\∀ H',Same H H'->Q .non H'
def Zb1 (EM:Addr):Sp:=λvs H Q E=>∃ (a:Addr) (xs:List V),vs=[.ref a]/\H a=some (.lst xs)/\(xs.length<=400->Q .non H)/\(400 < xs.length->E (.ref EM) none H)
def Zdy (EG:Addr):Sp:=λvs H Q E=>∃ (q:Addr) (v:Nat × Nat),vs=[.ref q]/\H q=some (tp v)/\(v.1<=10 ^ 60->v.2<=10 ^ 60->Q .non H)/\(10 ^ 60 < v.1\/10 ^ 60 < v.2->E (.ref EG) none H)
def Kn:FnScope ["table","name","value","copied"] ["table","name","value"] (Zg G9):=Am
def V5 (T:Txt w K mg t):(a:) 1 t.eI t.fi ["table","name","value"] Zew:=by
 refine T.bu.F.aR Kn (b:)
 ·obtain ⟨d,k,v,l,rfl,hd,hl,q⟩:=h
  have hu:=Xb hr;refine ⟨_,(Ze (Zs (i:=3) Kn.nd Y (Or.inl Y) (Ys Wt (by rfl) T.dz PySem.Pv.boot_dict (Za (pv 0) Zc)))
   (Ze (Ob hu (pv 3) (pv 1) (pv 2) rfl)
   (Zh (Zl (pv 3))))),?_⟩
  refine Zx λk6 j6=>?_;refine ⟨_,Y,d,_,Y,.inl hd,λe he=>?_⟩;refine j6 _ _ ?_;refine ⟨_,Y,_,Y,_,Y,e,_,Y,DPut.k (k:=k) Zb (Zt (by lia)),?_⟩;rw [Wb];exact ⟨_,Y,q e he⟩
def Fy:FnScope ["scene","name"] ["scene","name"] (Zg Uo):=Am
def V6 (T:Txt w K mg t):(a:) 3 t.ci t.cv ["scene","name"] (Ft t.ag):=by
 refine T.aY.F.aR Fy (b:)
 ·obtain ⟨sc,kd,th,po,te,wo,x,kt,kp,rfl,rj,xt,vd,hx,hz,e,hn,hp,k⟩:=h
  have hu:=Xb hr;refine ⟨_,(Ze (Z9 (J3 (J2 (pcT (Zju T) hr T.gU (v:)))) Yy Zz)
   (Zh (Z9 (PW.pt (Ve (J4 (Zf9 hu (pv 1) (as:)) (am:)) (Qz (J4 (Zf9 hu (pv 1) (as:)) (am:))))) Yy Zz))),?_⟩
  refine ⟨_,Y,x,Y,hx,hz,λH1 s1=>⟨_,Y,?_⟩⟩;rw [e];refine iteF ?_;have hsc1:=s1 _ _ rj;refine ⟨_,Y,_,Y,sc,_,kd,_,.ref th,Y,hsc1,T.af,T.aj,Y,th,_,Y,.inl ⟨_,Sum.inr x,.inl (s1 _ _ xt),Y,hn.symm⟩,_,Y,iteF ?_⟩;exact ⟨_,Y,_,Y,sc,_,kd,_,.ref po,Y,hsc1,T.af,T.ak,Y,po,_,Y,.inl ⟨_,Sum.inr x,.inl (s1 _ _ vd),Y,hp.symm⟩,_,Y,iteF (k H1 s1)⟩
def Zb7:FnScope ["word"] ["word"] (Zg O5):=Am
def Of (T:Txt w K mg t):(a:) 1 t.de t.dl ["word"] (Zb1 t.aQ):=by
 refine T.bz.F.aX Zb7 (b:)
 ·obtain ⟨a,xs,rfl,ha,k1,k2⟩:=h
  refine ⟨_,(Z4 (W6 (Zq Ut (k:) (Jw (v:=.int 400) Y T.gy ⟨_,Y⟩) (Zr _)) (Z4 (Xu T.ji FBV Y T.iU Y (Za Z5 Zc))) X1)),?_⟩;refine ⟨_,Y,a,_,Y,.inl (SqL.of ha),_,_,Y,Y,_,Y,?_⟩;by_cases c:xs.length<=400
  ·rw [decide_eq_false (by lia)]
   exact iteF (k1 c)
  ·rw [decide_eq_true (by lia)]
   exact iteT ⟨by decide,k2 (by lia)⟩
def Zd5:FnScope ["parts"] ["parts"] (Zg Kv):=Am
def Kd (T:Txt w K mg t):(a:) 1 t.dD t.dQ ["parts"] (Zdy t.aK):=by
 refine T.bX.F.aX Zd5 (b:)
 ·obtain ⟨q,v,rfl,hq,k1,k2⟩:=h
  refine ⟨_,(Z4 (W6 (Zq Ut (Zn (Zmy Y) (by rfl) T.jd PyProof.Rows.boot_max (Za (pv 0) Zc)) (Jw (v:=.int 1000000000000000000000000000000000000000000000000000000000000) Y T.fK ⟨_,Y⟩) (Zr _)) (Z4 (Xu T.iV FBV Y T.iR Y (Za Z5 Zc))) X1)),?_⟩;refine ⟨_,Y,q,[(v.1:Int),(v.2:Int)],Y,SqT.of hq,(by show 0 < 2; decide),λm hm hmx=>?_⟩;refine ⟨_,_,Y,Y,_,Y,?_⟩;have big:(1000000000000000000000000000000000000000000000000000000000000:Nat)=10 ^ 60:=by decide +kernel
  rw [<- big] at k1 k2;have h1:=hmx (v.1:Int) mem_cons_self;have h2:=hmx (v.2:Int) (mem_cons_of_mem _ mem_cons_self);by_cases c:(1000000000000000000000000000000000000000000000000000000000000:Int) < m
  ·rw [decide_eq_true c]
   refine iteT ⟨by decide,k2 ?_⟩
   rcases Ar hm with rfl | hm
   ·exact .inl (by lia)
   ·rw [Af hm] at c; exact .inr (by lia)
  ·rw [decide_eq_false c]
   exact iteF (k1 (by lia) (by lia))
def Zat:FnScope ["table","name"] ["table","name"] (Zg U4):=Am
def Uu (T:Txt w K mg t):(a:) 1 t.cG t.cL ["table","name"] Zan:=by
 refine T.bo.F.aR Zat (b:)
 ·obtain ⟨d,x,l,rfl,hd,hl,nd,k⟩:=h
  have hu:=Xb hr;refine ⟨_,(Zh (Zl (Zif (K8 (ts:=["key","value"]) (fv:=[("name",1)]) (c:) rfl (Qi (pv 0) ⟨rfl,rfl,rfl⟩) (λ_ _ _ _=>(Qj (n:=2) K rfl (Zw (Zk (i:=0) (show List.Nodup (["key","value","name"]:List Str) from by decide +kernel) rfl (g:) (I:)) (Zw (Zk (i:=1) (show List.Nodup (["key","value","name"]:List Str) from by decide +kernel) rfl (g:) (I:)) Yz)))) (λ_ _ _ _=>(Ju (Zq Zeh (pv 0) (pv 2) (Zr _)))) (N:) (λ_ _ _ _ _ _=>V3 (pv 0) (pv 1)))))),?_⟩;refine ⟨_,Y,d,_,Y,.inl ⟨hd,λo=>?_⟩⟩;intro D hD;obtain ⟨p7,lq⟩:=Y9 hD;have hll:=Zmp l;refine Vf (kvs:=dS l) (λi σ H3=>∃ v0 v1,σ=[v0,v1,some (.str x)]/\(∀ b u,b≠d->H b=some u->H3 b=some u)/\H3 d=some (.frz o (.dK (dS l)))/\H3 D=some (.dK (dS ((l.take i).filter λkv=>decide (kv.1≠x))))) ⟨none,none,Y,λb u hb e=>by rw [Zd (Zi e lq),Zd hb]; exact e,by rw [Zd (Ne.symm p7),Zb],Zb⟩ ?_ ?_ ?_
  ·rintro i σ H3 _ ⟨v0,v1,rfl,_,e,_⟩
   exact e
  ·rintro i k0 x0 σ H3 q oq hq ⟨v0,v1,rfl,s3,e3,h3⟩
   obtain ⟨kv,hkv,rfl,rfl⟩:=Ztn oq;have hil:i < l.length:=(Aa hkv).1;have sq:Same H3 (upd H3 q (.tup [kV (Sum.inr kv.1),kv.2])):=Same.new hq;have rm:(upd H3 q (.tup [kV (Sum.inr kv.1),kv.2])) q=some (.tup [kV (Sum.inr kv.1),kv.2]):=Zb;generalize upd H3 q (.tup [kV (Sum.inr kv.1),kv.2])=H4 at sq rm ⊢;have s4:∀ b u,b≠d->H b=some u->H4 b=some u:=λb u hb e=>sq _ _ (s3 b u hb e);have etk:l.take (i + 1)=l.take i ++ [kv]:=by rw [Aw,hkv]; rfl
   dsimp only [Zo];refine ⟨q,_,Y,SqT.of rm,Y,_,_,Y,_,_,Y,Y,?_⟩;refine ⟨_,Y,_,Y,Y,_,Y,?_⟩;show if (!decide (V.str kv.1=V.str x))=true then _ else _
   by_cases c:kv.1=x
   ·rw [c,decide_eq_true rfl]
    refine iteF ⟨_,_,Y,s4,sq _ _ e3,?_⟩;rw [sq _ _ h3,etk,filter_append];simp [c]
   ·rw [decide_eq_false (λz=>c (by injection z))]
    have yu:kv.1 ∉ ((l.take i).filter λkv=>decide (kv.1≠x)).map (·.1):=λz=>by
     obtain ⟨y,hy,e⟩:=mem_map.mp z;have hy:=(mem_filter.mp hy).1;rw [<- take_append_drop i l,Aj,nodup_append] at nd;refine nd.2.2 y.1 (mem_map.mpr ⟨y,hy,Y⟩) kv.1 ?_ e;rw [drop_eq_getElem_cons hil,(Aa hkv).2];exact mem_cons_self
    refine iteT ⟨_,Y,_,Y,_,Sum.inr kv.1,Y,sq _ _ h3,?_,_,_,Y,λb u hb e=>?_,?_,?_⟩
    ·rw [Zmp]
     have:=length_filter_le (λkv:Str × V=>decide (kv.1≠x)) (l.take i);rw [Ai] at this;exact Zt (by lia)
    ·rw [Zd (Zi e lq)]; exact s4 b u hb e
    ·rw [Zd (Ne.symm p7)]; exact sq _ _ e3
    ·rw [Zb,Zsb yu,etk,filter_append]
     have:[kv].filter (λkv:Str × V=>decide (kv.1≠x))=[kv]:=by simp [c]
     rw [this]
  ·rintro σ H3 ⟨v0,v1,rfl,s3,e3,h3⟩
   rw [hll,take_length] at h3;refine ⟨d,o,_,e3,(λo' u z=>by have z:H d=some (.frz o' u):=z; rw [hd] at z; cases z),?_⟩;have sF:Same H (upd H3 d (.dK (dS l))):=λb u e=>by
    by_cases c:b=d
    ·subst c; rw [hd] at e; rw [Zb]; exact e
    ·rw [Zd c]; exact s3 b u c e
   exact k D _ sF lq (by rw [Zd p7]; exact h3)
def Zth (be sc st un ny:Addr):putF "undone" (.ref ny) (Y0 be sc st un)=Y0 be sc st ny:=by first | rfl | decide
def Zj0 (be sc st un y8:Addr):putF "scene" (.ref y8) (Y0 be sc st un)=Y0 be y8 st un:=by first | rfl | decide
def Zbk (be sc st un:Addr):(Y0 be sc st un).length < 1000:=by
 have:(Y0 be sc st un).length=4:=rfl;lia
def Q6 (CH:Addr):Sp:=λvs H Q _=>∃ (p dx be sc st un y8:Addr) (x:Str) (l:List V),vs=[.ref p,.str x,.ref y8]/\H p=some (.ins CH dx (Y0 be sc st un))/\H st=some (.lst l)/\l.length<=900 /\
 ∀ (q ny:Addr) (H':Hp),H q=none->H ny=none->(∀ b u,b≠p->b≠st->H b=some u->H' b=some u)->H' p=some (.ins CH dx (Y0 be y8 st ny))->H' st=some (.lst (l ++ [.ref q]))->H' q=some (.tup [.str x,.ref sc])->H' ny=some (.lst [])->Q .non H'
def Zd9:FnScope ["self","text","scene"] ["self","text","scene"] (Zg K0):=Am
def Wx (T:Txt w K mg t):(a:) 1 t.dE t.dR ["self","text","scene"] (Q6 t.ae):=by
 refine T.ap.F.aR Zd9 (b:)
 ·obtain ⟨p,dx,be,sc,st,un,y8,x,l,rfl,hp,l6,hl,k⟩:=h
  refine ⟨_,(Ze (Z8 (X5 PySem.F.plainAttrs_list PySem.F.slot_list_append PySem.F.type_list_append Y6 (Zp (pv 0) Y) (Za (Xg (Za (pv 1) (Za (Zp (pv 0) Y) Zc))) Zc)))
   (Ze (Xs (pv 0) (Yr Zc) rfl)
   (Zh (Xs (pv 0) (pv 2) rfl)))),?_⟩;have hps:p≠st:=λz=>by rw [z,l6] at hp; cases hp
  refine Zx λk6 j6=>?_;refine ⟨_,Y,p,_,dx,_,.ref st,Y,hp,T.ac,T.av,Y,.inl ⟨Y,_,SqL.of l6⟩,_,Y,_,Y,p,_,dx,_,.ref sc,Y,hp,T.ac,T.ah,Y,(bb:),λq hq=>?_⟩;have s1:Same H (upd H q (.tup [V.str x,V.ref sc])):=Same.new hq;have h1:(upd H q (.tup [V.str x,V.ref sc])) q=some (.tup [V.str x,V.ref sc]):=Zb;refine ⟨st,_,_,Y,Y,s1 _ _ l6,Zt (by lia),?_⟩;refine j6 _ _ ?_;generalize upd H q (.tup [V.str x,V.ref sc])=H1 at s1 h1 ⊢;have hqs:q≠st:=λz=>by rw [z,l6] at hq; cases hq
  have hqp:q≠p:=λz=>by rw [z,hp] at hq; cases hq
  have p2:(upd H1 st (.lst (l ++ [V.ref q]))) p=some (.ins t.ae dx (Y0 be sc st un)):=by rw [Zd hps]; exact s1 _ _ hp
  have q2:(upd H1 st (.lst (l ++ [V.ref q]))) q=some (.tup [V.str x,V.ref sc]):=by rw [Zd hqs]; exact h1
  have t2:(upd H1 st (.lst (l ++ [V.ref q]))) st=some (.lst (l ++ [V.ref q])):=Zb;have o2:∀ b u,b≠p->b≠st->H b=some u->(upd H1 st (.lst (l ++ [V.ref q]))) b=some u:=λb u _ h2 e=>by rw [Zd h2]; exact s1 _ _ e
  generalize upd H1 st (.lst (l ++ [V.ref q]))=H2 at p2 q2 t2 o2 ⊢;refine Zx λk6 j6=>?_;refine ⟨Az _,λny ou=>?_⟩;have s3:Same H2 (upd H2 ny (.lst [])):=Same.new ou;have u3:(upd H2 ny (.lst [])) ny=some (.lst []):=Zb
  have yr:H ny=none:=by
   cases e:H ny with
   | none=>rfl
   | some u =>
    have hne1:ny≠p:=λz=>by rw [z,p2] at ou; cases ou
    have vz:ny≠st:=λz=>by rw [z,t2] at ou; cases ou
    rw [o2 _ _ hne1 vz e] at ou;cases ou
  refine ⟨_,Y,p,_,dx,_,Y,s3 _ _ p2,T.ac,T.aF,Zbk _ _ _ _,?_⟩;rw [Zth];refine j6 _ _ ?_;have hup:ny≠p:=λz=>by rw [z,p2] at ou; cases ou
  refine ⟨_,Y,_,Y,p,_,dx,_,Y,Zb,T.ac,T.ah,Zbk _ _ _ _,?_⟩;rw [Zj0,Wb];refine k q ny _ hq yr (λb u b1 b2 e=>?_) Zb ?_ ?_ ?_
  ·rw [Zd b1]; exact s3 _ _ (o2 b u b1 b2 e)
  ·rw [Zd (Ne.symm hps)]; exact s3 _ _ t2
  ·rw [Zd hqp]; exact s3 _ _ q2
  ·rw [Zd hup]; exact u3
def Zn1 {ws:List Int}:(((ws.map V.int).length:Nat):Int)=ws.length:=by rw [Ab]
def Zoh (x0:Int) (xr:List Int):cutV ((x0 :: xr).map V.int) (some 1) none=xr.map V.int:=by
 unfold cutV;have e1:HT.sIx ((x0 :: xr).map V.int).length 0 (some ((1:Nat):Int))=1:=by
  rw [HT.sIx_nat,Ab,length_cons]
  lia
 rw [show (some (1:Int))=some ((1:Nat):Int) from rfl,e1,HT.sIx_none,map_cons,drop_succ_cons,drop_zero,length_cons,Nat.add_sub_cancel,take_length]
def Qq {α:Type} {p:α->Bool} {l:List α} {i:Nat} {x:α} (h:l[i]?=some x):(l.take (i + 1)).filter p=if p x=true then (l.take i).filter p ++ [x] else (l.take i).filter p:=by
 rw [Aw,h,filter_append];by_cases c:p x=true
 ·simp [c]
 ·simp [c]
def Zpe:Sp:=λvs H Q _=>∃ (m a:Addr) (M:Lq) (xs:List Int),vs=[.ref m,.ref a]/\H m=some (aw:)/\H a=some (.lst (xs.map V.int))/\xs≠[]/\xs.length<=60/\(∀ x∈xs,0<=x/\x < 1009)/\M.length<=42/\(∃ n,M.length=3 * n)/\(V:) /\
 ∀ (l:Addr) (ws:List Nat) (H':Hp),Same H H'->H l=none->H' l=some (aq:)->ws.length<=60->(ws=[]\/Pl M ws)->Q (.ref l) H'
def Zkq (K:W.Frag):Sp:=λvs H Q _=>∃ (a m:Addr) (sc:List Int) (i:Int) (M:Lq),vs=[.ref a,.int i,.ref m]/\SqL K H a (sc.map V.int)/\sc.length<=63/\0<=i/\i < 1000/\H m=some (aw:)/\M.length<=42/\(∃ n,M.length=3 * n)/\(V:) /\
 ∀ (l:Addr) (ws:List Nat) (H':Hp),Same H H'->H l=none->H' l=some (aq:)->ws.length<=60->(ws=[]\/Pl M ws)->Q (.ref l) H'
noncomputable def lu (M:Lq) (i:Nat):Bool:=match M[i]? with
 | some (some _)=>true
 | _=>false
def Qn {M:Lq}:lu M i=true ↔ ∃ j,M[i]?=some (some j):=by
 unfold lu;split
 ·rename_i j h; exact ⟨λ_=>⟨j,h⟩,λ_=>rfl⟩
 ·rename_i h; exact ⟨λz=>absurd z (d:),λ⟨j,e⟩=>absurd e (h j)⟩
def Wd:FnScope ["_law_mates","_law_nums","_law_spots","_law_row","_law_pick","_law_side","_law_ways","_law_start","_law_stop"] ["_law_mates","_law_nums"] (Zg Zfn):=Am
def Zlu (T:Txt w K mg t):(a:) 1 t.im t.iF ["_law_mates","_law_nums"] Zpe:=by
  refine T.iO.F.aR Wd (b:)
  · obtain ⟨m,a,M,xs,rfl,hm,ha,u8,vp,hx,t7,⟨n,hn⟩,inv,k⟩:=h
    refine ⟨_,(Ze (Xv (ts:=["_law_p"]) (fv:=[("_law_mates",0)]) (i:=2) (c:) rfl Wd.nd rfl rfl (by rfl) (Xw rfl T.aD (Za (k:) Zc)) (aj:) (λ_ _ _ _=>(Ju (Zq Ql (Zv (X2 K) (pv 1) (pv 0) (j:)) Wl (Zr _)))) (N:) (λ_ _ _ _ _ _=>Yj (pv 0)))
      (Ze (Z9 (Zq Yw (Zn Zm (by rfl) T.am PySem.boot_len (U:)) Zf (Zr _)) (Zh (Zl (Yr Zc))) Zz)
      (Ze (Zs (i:=3) Wd.nd rfl (g:) (Yr (Za (Zv Z0 (pv 2) (Zj Z6 (Zv Z0 (pv 1) Zf (j:)) (Zn Zm (by rfl) T.am PySem.boot_len (U:))) (j:)) Zc)))
      (Ze (Xr PassesOwn.never rfl (Yx (V0 U2 (pv 1) (Qh Zf) Zcg)) (Zk (i:=4) Wd.nd rfl (g:)) (Ze (Zs (i:=5) Wd.nd rfl (I:) (Zv Z0 (pv 0) (Zv Z0 (pv 3) (Zs5 Zq6 Zf) (j:)) (j:)))
      (Ze (Xv (ts:=["_law_k"]) (fv:=[("_law_side",5)]) (i:=6) (c:) rfl Wd.nd rfl rfl (by rfl) (Xw rfl T.aD (Za Zf Zc)) (λ_ _ _ _=>(Zk (i:=0) (show List.Nodup (["_law_k","_law_side"]:List Str) from by decide +kernel) rfl (g:) (I:))) (ah:) (N:) (λ_ _ _ _ _ _=>Yj (Zj Yl (Zj V4 (pv 1) (Zj Z6 (pv 1) Zf)) (Zj Z6 (Zj Yl (Zj Yl (pv 1) Zf) (pv 0)) Zf))))
      (Ze (Xv (ts:=["_law_p"]) (fv:=[("_law_mates",0)]) (i:=6) (c:) rfl Wd.nd rfl rfl (by rfl) (Yx (pv 6)) (aj:) (λ_ _ _ _=>(Ju (Zq Ql (Zv (X2 K) (pv 1) (pv 0) (j:)) Wl (Zr _)))) (N:) (λ_ _ _ _ _ _=>Yj (pv 0)))
      (Ze (Z9 (Zq Yw (Zn Zm (by rfl) T.am PySem.boot_len (Za (pv 6) Zc)) Zf (Zr _)) (Zh Znk) Zz)
      (Zh (Z8 (X5 PySem.F.plainAttrs_list PySem.F.slot_list_append PySem.F.type_list_append Y6 (pv 3) (Za (Zv Z0 (pv 6) (Zj Z6 (pv 4) (Zn Zm (by rfl) T.am PySem.boot_len (Za (pv 6) Zc))) (j:)) Zc)))))))))
      (Ze (Xr PassesOwn.never rfl (Xw rfl T.aD (Za (Zn Zm (by rfl) T.am PySem.boot_len (Za (pv 3) Zc)) Zc)) (Zk (i:=7) Wd.nd rfl (g:)) (Zh (Xr PassesOwn.never rfl (Zpy rfl T.gv rfl T.aD (Za (Zj Yl (pv 7) Zf) (Za (Zn Zm (by rfl) T.am PySem.boot_len (Za (pv 3) Zc)) Zc))) (Zk (i:=8) Wd.nd rfl (g:)) (Zh (Z9 (Zq Yw (Zv Z0 (pv 3) (pv 7) (j:)) (Zv Z0 (pv 3) (pv 8) (j:)) (Zr _)) (Zh (Zl (V0 U2 (pv 3) (Qh (pv 7)) (Qh (pv 8))))) Zz)))))
      (Zh (Zl (Yr Zc)))))))),?_⟩;refine Zx λk6 j6=>?_;refine ⟨_,Y,m,_,Y,.inl (SqL.of hm),_,Y,by lia,by rw [Ab]; lia,λD hD=>?_⟩;have eL:(ao:).toNat=M.length:=by simp
    rw [eL];refine J9 (λi σ H1=>∃ v,σ=[v,some (.ref m)]/\Same H H1/\H1 D=some (.lst (((List.range i).filter (lu M)).map nV))) (ag:) ?_ ?_
    · rintro i σ H1 kl ⟨v,rfl,sm,h1⟩
      dsimp only [Zo];rw [Int.zero_add];obtain ⟨y,hy⟩:∃ y,M[i]?=some y:=⟨_,Ac kl⟩;have lt:(((List.range i).filter (lu M)).map nV).length < sizeLine:=by
        rw [Ab]
        have:=length_filter_le (lu M) (List.range i)
        rw [length_range] at this
        exact Zt (by lia)
      refine ⟨_,Y,_,Y,m,_,_,_,Y,Y,SqL.of (sm _ _ hm),Y1 hy,Y,_,Y,?_⟩
      cases y with
      | none =>
        refine iteF ⟨_,Y,sm,?_⟩;rw [h1,range_succ,filter_append];have:lu M i=false:=by rw [Bool.eq_false_iff]; intro z; obtain ⟨j,e⟩:=Qn.mp z; rw [hy] at e; cases e
        simp [this]
      | some j =>
        refine iteT ⟨_,Y,_,h1,lt,_,Y,Same.add sm hD,?_⟩;rw [Zb,range_succ,filter_append];have:lu M i=true:=Qn.mpr ⟨j,hy⟩;simp [this];rfl
    rintro σ H1 ⟨v,rfl,s1,h1⟩;refine j6 _ _ ?_;have mm:∀ p∈(List.range M.length).filter (lu M),∃ j,M[p]?=some (some j):=λp hp=>Qn.mp (mem_filter.mp hp).2;generalize (List.range M.length).filter (lu M)=sps at h1 mm;refine Zx λk6 j6=>?_;refine ⟨_,Y,D,_,Y,.inl (SqL.of h1),Y,_,Y,?_⟩;refine ite2 (λc=>?_) (λc=>?_)
    · exact ⟨Az _,λl hl=>k l [] _ (Same.add s1 (s1.free hl)) (s1.free hl) Zb (Az _) (.inl Y)⟩
    have kr:0 < sps.length:=by
      cases sps with
      | nil=>exact absurd Y c
      | cons _ _=>simp
    dsimp only [Jo];refine j6 _ _ ?_
    obtain ⟨x0,xr,rfl⟩:∃ x0 xr,xs=x0 :: xr:=by
      cases xs with
      | nil=>exact absurd Y u8
      | cons a b=>exact ⟨a,b,Y⟩
    have k0:=Int.emod_nonneg x0 (show (sps.length:Int)≠0 by lia);have k1:=Int.emod_lt_of_pos x0 (show (0:Int) < sps.length by lia);obtain ⟨kk,ye⟩:∃ kk:Nat,x0 % (sps.length:Int)=kk:=⟨_,(Int.toNat_of_nonneg k0).symm⟩;have lp:kk < sps.length:=by lia
    refine Zx λk6 j6=>?_;refine ⟨_,Y,_,Y,a,_,_,_,Y,Y,SqL.of (s1 _ _ ha),(show atI _ ((0:Nat):Int)=_ from Xq Y),_,Y,D,_,Y,.inl (SqL.of h1),_,_,Y,Y,(by rw [Ab]; lia),D,_,_,_,rfl,rfl,SqL.of h1,(by rw [Ab,ye]; exact Y1 (Ac lp)),(by show 1<=sizeLine; decide),λr nh=>?_⟩;refine j6 _ _ ?_;have ox:H r=none:=s1.free nh;obtain ⟨j0,hj0⟩:=mm _ (getElem_mem lp);have ch0:Ch M [sps[kk]]:=Ch.one hj0;generalize sps[kk]=p0 at ch0;have s2:Same H (upd H1 r (.lst [nV p0])):=Same.add s1 ox;have h2:(upd H1 r (.lst [nV p0])) r=some (.lst ([p0].map nV)):=Zb;generalize upd H1 r (.lst [nV p0])=H2 at s2 h2;dsimp only [Zo];show tSeq (tFor _ _ _) _ _ _ _;refine Yc (λσ H3=>∃ (row:List Nat) (v4 v5 v6:Option V),σ=[some (.ref m),some (.ref a),some (.ref D),some (.ref r),v4,v5,v6,none,none]/\Same H H3/\H3 r=some (.lst (row.map nV))/\Ch M row/\row.length<=60) (ab:) ?_
    · refine ⟨_,Y,_,Y,a,_,Y,SqL.of (s2 _ _ ha),λq hq=>?_⟩
      rw [Zoh];have hrq:r≠q:=Zi h2 hq;have xw:H q=none:=s2.free hq;refine ⟨q,Y,⟨_,SqL.of Zb⟩,?_⟩;rw [length_cons] at vp;refine Zae (xs:=xr.map V.int) (λi σ H3=>∃ (row:List Nat) (v4 v5 v6:Option V),σ=[some (.ref m),some (.ref a),some (.ref D),some (.ref r),v4,v5,v6,none,none]/\Same H H3/\H3 q=some (.lst (xr.map V.int))/\H3 r=some (.lst (row.map nV))/\Ch M row/\row≠[]/\row.length<=i + 1)
        ⟨[p0],none,none,none,rfl,Same.add s2 xw,Zb,by rw [Zd hrq]; exact h2,ch0,by simp,by simp⟩ ?_ ?_ ?_
      · rintro i σ H3 _ ⟨row,v4,v5,v6,rfl,s3,h3,_⟩
        exact SqL.of h3
      · rintro i x σ H3 xn ⟨row,v4,v5,v6,rfl,s3,h3,h4,ch,rne,ym⟩
        have hi:i < xr.length:=by have:=(Aa xn).1; rw [Ab] at this; exact this
        obtain ⟨k9,hpk,rfl⟩:∃ k9,xr[i]?=some k9/\x=V.int k9:=by
          rw [Ah,Ac hi] at xn;exact ⟨_,Ac hi,(Ax xn).symm⟩
        obtain ⟨la,hla⟩:∃ la,row.getLast?=some la:=by
          cases e:row.getLast? with
          | none=>exact absurd (getLast?_eq_none_iff.mp e) rne
          | some z=>exact ⟨z,Y⟩
        have hlm:la∈row:=mem_of_getLast? hla;obtain ⟨sd,hsd⟩:=ch.has la hlm;have hsdM:sd < M.length:=(Aa (inv la sd hsd).1).1
        have elast:atI (row.map nV) (-1)=some (nV la):=by
          unfold atI ixN
          have hl:0 < row.length:=by cases row with | nil=>exact absurd rfl rne | cons _ _=>simp
          rw [if_neg (d:),if_pos (by rw [Ab]; lia)];show ((row.map nV)[((-1:Int) + (row.map nV).length).toNat]?)=_;rw [Ab,show ((-1:Int) + (row.length:Int)).toNat=row.length - 1 by lia,Ah,<- getLast?_eq_getElem?,hla];rfl
        dsimp only [Zo];refine Zx λk6 j6=>?_;refine ⟨_,Y,_,Y,_,Y,r,_,_,_,Y,Y,SqL.of h4,elast,m,_,_,_,Y,Y,SqL.of (s3 _ _ hm),Y1 hsd,?_⟩;refine j6 _ _ ?_;refine Zx λk6 j6=>?_;refine ⟨2,Y,by decide,by decide,λW hW=>?_⟩;have hW0:H W=none:=s3.free hW;have hWr:r≠W:=Zi h4 hW;have hWq:q≠W:=Zi h3 hW;refine J9 (n:=2) (λc σ H5=>∃ v,σ=[v,some (nV sd)]/\Same H3 H5/\H5 W=some (.lst (([ko sd 1,ko sd 2].take c).map nV))) ⟨none,Y,Same.new hW,Zb⟩ ?_ ?_
        · rintro c σ H5 hc ⟨v,rfl,s5,h5⟩
          dsimp only [Zo,tYes];rw [if_pos rfl];refine ⟨_,Y,_,Y,_,_,Y,Y,(an:),_,_,rfl,rfl,_,rfl,_,_,rfl,rfl,_,rfl,_,_,rfl,rfl,_,_,rfl,rfl,(an:),_,_,rfl,rfl,_,h5,?_,_,rfl,Same.add s5 hW,?_⟩
          · rw [Ab,Ai]; exact Zt (by lia)
          · rw [Zb]
            have hc:c=0\/c=1:=by lia
            have e:∀ k:Nat,(sd:Int) - (sd:Int) % 3 + ((sd:Int) + 1 + (0 + (k:Int))) % 3=((ko sd (k + 1):Nat):Int):=λk=>by unfold ko; omega
            rcases hc with rfl | rfl
            · show some (HO.lst ([] ++ [V.int ((sd:Int) - (sd:Int) % 3 + ((sd:Int) + 1 + (0 + ((0:Nat):Int))) % 3)]))=_
              rw [e 0]; rfl
            · show some (HO.lst ([nV (ko sd 1)] ++ [V.int ((sd:Int) - (sd:Int) % 3 + ((sd:Int) + 1 + (0 + ((1:Nat):Int))) % 3)]))=_
              rw [e 1]; rfl
        rintro σ H5 ⟨v,rfl,s5,h5⟩;refine j6 _ _ ?_;have h5:H5 W=some (.lst ([ko sd 1,ko sd 2].map nV)):=h5;have sl:∀ c,ko sd c < M.length:=λc=>by rw [hn]; exact Zpn (by lia)
        refine Zx λk6 j6=>?_;refine ⟨_,Y,W,Y,⟨_,SqL.of h5⟩,λW2 hW2=>?_⟩;have s35:=s3.trans s5;refine Ym (xs:=[ko sd 1,ko sd 2].map nV) (λc σ H6=>∃ v,σ=[v,some (.ref m)]/\Same H5 H6/\H6 W2=some (.lst ((([ko sd 1,ko sd 2].take c).filter (lu M)).map nV))) ⟨none,Y,Same.new hW2,Zb⟩ ?_ ?_ ?_
        · rintro c σ H6 _ ⟨v,rfl,s6,h6⟩
          exact SqL.of (s6 _ _ h5)
        · rintro c x σ H6 hxc ⟨v,rfl,s6,h6⟩
          obtain ⟨p,hp,rfl⟩:=map_some hxc;have hpM:p < M.length:=by
            have:=Au hp
            rcases Ar this with rfl | z
            · exact sl 1
            · rw [Af z]; exact sl 2
          obtain ⟨y,hy⟩:∃ y,M[p]?=some y:=⟨_,Ac hpM⟩;dsimp only [Zo];refine ⟨_,Y,_,Y,m,_,_,_,Y,Y,SqL.of (s6 _ _ (s35 _ _ hm)),Y1 hy,Y,_,Y,?_⟩
          cases y with
          | none =>
            refine iteF ⟨_,Y,s6,?_⟩;have:lu M p=false:=by rw [Bool.eq_false_iff]; intro z; obtain ⟨j,e⟩:=Qn.mp z; rw [hy] at e; cases e
            rw [h6,Qq hp,if_neg (by rw [this]; decide)]
          | some jj =>
            refine iteT ⟨_,Y,_,h6,?_,_,Y,Same.add s6 hW2,?_⟩
            · rw [Ab]
              have h1:=length_filter_le (lu M) ([ko sd 1,ko sd 2].take c);have h2:([ko sd 1,ko sd 2].take c).length<=2:=by rw [Ai]; exact Nat.min_le_right _ _
              exact Zt (by lia)
            · rw [Zb,Qq hp,if_pos (Qn.mpr ⟨jj,hy⟩),Aj]
              rfl
        rintro σ H6 ⟨v,rfl,s6,h6⟩;refine j6 _ _ ?_;have h6:H6 W2=some (.lst (([ko sd 1,ko sd 2].filter (lu M)).map nV)):=h6;have hws:∀ p∈[ko sd 1,ko sd 2].filter (lu M),(∃ j,M[p]?=some (some j))/\p / 3=sd / 3/\p≠sd:=λp hp=>by
          obtain ⟨z1,z2⟩:=mem_filter.mp hp
          refine ⟨Qn.mp z2,?_,?_⟩
          · rcases Ar z1 with rfl | z
            · exact Zfb _ _
            · rw [Af z]; exact Zfb _ _
          · rcases Ar z1 with rfl | z
            · unfold ko; omega
            · rw [Af z]; unfold ko; omega
        generalize [ko sd 1,ko sd 2].filter (lu M)=wys at h6 hws;have s36:=s5.trans s6;have yj:=s36 _ _ h4;have h3':=s36 _ _ h3;have s06:=s3.trans s36;refine Zx λk6 j6=>?_;refine ⟨_,Y,W2,_,Y,.inl (SqL.of h6),Y,_,Y,?_⟩;refine ite2 (λc=>?_) (λc=>?_)
        · exact kh _ _ ⟨row,_,_,_,Y,s06,yj,ch,by lia⟩
        have hwp:0 < wys.length:=by
          cases wys with
          | nil=>exact absurd Y c
          | cons _ _=>simp
        dsimp only [Jo];refine j6 _ _ ?_;have c0:=Int.emod_nonneg k9 (show (wys.length:Int)≠0 by lia);have c1:=Int.emod_lt_of_pos k9 (show (0:Int) < wys.length by lia);obtain ⟨cc,hcc⟩:∃ cc:Nat,k9 % (wys.length:Int)=cc:=⟨_,(Int.toNat_of_nonneg c0).symm⟩;have qp:cc < wys.length:=by lia
        obtain ⟨w1,w2,w3⟩:=hws _ (getElem_mem qp);have qf:=Ac qp;refine ⟨_,Y,.inl ⟨Y,_,SqL.of yj⟩,_,Y,_,Y,_,Y,W2,_,Y,.inl (SqL.of h6),_,_,Y,Y,(by rw [Ab]; lia),W2,_,_,_,rfl,rfl,SqL.of h6,(by rw [Ab,hcc]; exact Y1 qf),r,_,_,Y,Y,yj,(by rw [Ab]; exact Zt (by lia)),?_⟩;refine ⟨row ++ [wys[cc]],_,_,_,Y,Same.add s06 ox,?_,?_,ch.snoc hla hsd w2 w3 w1,by simp,by rw [Ae,At]; lia⟩
        · rw [Zd (Ne.symm hrq)]; exact h3'
        · rw [Zb,Aj]; rfl
      · rintro σ H3 ⟨row,v4,v5,v6,rfl,s3,h3,h4,ch,rne,ym⟩
        rw [Ab] at ym;exact kh _ _ ⟨row,_,_,_,Y,s3,h4,ch,by lia⟩
    rintro σ H3 ⟨row,v4,v5,v6,rfl,s3,h3,ch,ym⟩;show tSeq (tFor _ _ _) _ _ _ _;refine Yc (λσ H4=>H4=H3) (ab:) ?_
    · refine ⟨_,Y,r,_,Y,.inl (SqL.of h3),_,Y,by lia,by rw [Ab]; lia,?_⟩
      have eR:(((row.map nV).length:Nat):Int).toNat=row.length:=by simp
      rw [eR];refine Jx (n:=row.length) (λi σ H4=>∃ v7 v8,σ=[some (.ref m),some (.ref a),some (.ref D),some (.ref r),v4,v5,v6,v7,v8]/\H4=H3) ⟨_,_,Y,Y⟩ ?_ ?_
      · rintro i σ H4 hi ⟨v7,v8,rfl,rfl⟩
        dsimp only [Zo];rw [Int.zero_add];refine ⟨_,Y,_,_,Y,Y,_,Y,r,_,Y,.inl (SqL.of h3),((i + 1:Nat):Int),row.length - (i + 1),?_,by lia,by lia,?_⟩
        · rw [Ab]
          show [V.int ((i:Int) + 1),V.int (row.length:Int)]=_;rw [show ((i:Int) + 1)=((i + 1:Nat):Int) by lia,show (row.length:Int)=((i + 1:Nat):Int) + ((row.length - (i + 1):Nat):Int) by lia]
        refine Zj3 (n:=row.length - (i + 1)) (λc σ H5=>∃ v8,σ=[some (.ref m),some (.ref a),some (.ref D),some (.ref r),v4,v5,v6,some (.int i),v8]/\H5=H4) ⟨_,Y,Y⟩ ?_ ?_
        · rintro c σ H4 hc ⟨v8,rfl,rfl⟩
          obtain ⟨e,he,hie,hel⟩:∃ e:Nat,((i + 1:Nat):Int) + ((row.length - (i + 1):Nat):Int) - 1 + (c:Int) * -1=(e:Int)/\i < e/\e < row.length:=⟨row.length - 1 - c,by lia,by lia,by lia⟩;dsimp only [Zo];rw [he];have gi:=Ac hi;have ge:=Ac hel;refine ⟨_,Y,_,Y,r,_,_,_,Y,Y,SqL.of h3,Y1 gi,_,Y,_,Y,r,_,_,_,Y,Y,SqL.of h3,Y1 ge,Y,_,Y,?_⟩;refine ite2 (λz=>?_) (λz=>?_)
          · have z:nV row[i]=nV row[e]:=of_decide_eq_true z
            have z:row[i]=row[e]:=by unfold nV at z; injection z with z; lia
            refine ⟨_,Y,_,Y,_,Y,_,Y,_,Y,r,_,Y,SqL.of h3,λl hl=>?_⟩;have ec:cutV (row.map nV) (some (i:Int)) (some (e:Int))=((row.drop i).take (e - i)).map nV:=by
              unfold cutV
              rw [HT.sIx_nat,HT.sIx_nat,Ab,Nat.min_eq_left (by lia),Nat.min_eq_left (by lia),map_take,map_drop]
            rw [ec];refine k l _ _ (Same.add s3 (s3.free hl)) (s3.free hl) Zb ?_ (.inr (ch.cut hie gi (by rw [ge,z])));rw [Ai,length_drop]; lia
          · exact ⟨_,Y,Y⟩
        · rintro σ H4 ⟨v8,rfl,rfl⟩
          exact ⟨_,_,Y,Y⟩
      · rintro σ H4 ⟨v7,v8,rfl,rfl⟩
        exact kh _ _ Y
    · rintro σ H4 rfl
      exact ⟨Az _,λl hl=>k l [] _ (Same.add s3 (s3.free hl)) (s3.free hl) Zb (Az _) (.inl Y)⟩
noncomputable def Uh (ws:List Int) (by':Int):List Int:=rot ws (by' % ws.length).toNat
def Zkp:Sp:=λvs H Q _=>∃ (a:Addr) (ws:List Int) (b:Int),vs=[.ref a,.int b]/\H a=some (.lst (ws.map V.int))/\ws.length<=100000/\∀ (l:Addr) (H':Hp),Same H H'->H l=none->H' l=some (.lst ((Uh ws b).map V.int))->Q (.ref l) H'
def Ze1 (C:Addr):Sp:=λvs H Q _=>∃ (p:Addr) (M:Lq) (ns:List Int) (x:Int),vs=[.ref p,.int x]/\Z3 C H p M ns/\M.length=ns.length/\Q (.bl (Wn M x)) H
def Zje (C:Addr):Sp:=λvs H Q _=>∃ (p:Addr) (M:Lq) (ns:List Int) (a x:Int),vs=[.ref p,.int a,.int x]/\Z3 C H p M ns/\M.length=ns.length/\Wn M a=true/\Q (.bl (Jh M a x)) H
def Zm7 (C:Addr):Sp:=λvs H Q _=>∃ (p a:Addr) (M:Lq) (ns ws:List Int),vs=[.ref p,.ref a]/\Z3 C H p M ns/\M.length=ns.length/\H a=some (.lst (ws.map V.int))/\ws.length<=100000/\∀ H',Same H H'->Q (.bl (Jk M ws)) H'
def Zb0 (C EN:Addr):Sp:=λvs H Q E=>∃ (p a:Addr) (M:Lq) (ns ws:List Int),vs=[.ref p,.ref a]/\Z3 C H p M ns/\M.length=ns.length/\H a=some (.lst (ws.map V.int))/\ws.length<=100000/\∀ H',Same H H'->(Jk M ws=true->Q .non H')/\(Jk M ws=false->E (.ref EN) none H')
def Zar {n:Nat} (h:n<=100000):n<=sizeLine:=by rw [sizeLine_eq]; lia
def Zoi {ws:List Int} (h:s<=ws.length):cutV (ws.map V.int) (some (s:Int)) none=(ws.drop s).map V.int:=by
 unfold cutV;rw [HT.sIx_nat,HT.sIx_none,Ab,Nat.min_eq_left h,map_drop,take_of_length_le];rw [length_drop,Ab];exact An _
def Zsd {ws:List Int} (h:s<=ws.length):cutV (ws.map V.int) none (some (s:Int))=(ws.take s).map V.int:=by
 unfold cutV;rw [HT.sIx_none,HT.sIx_nat,Ab,Nat.min_eq_left h,drop_zero,Nat.sub_zero,map_take]
def G7:FnScope ["_law_script","_law_at","_law_mates","_law_cell_here"] ["_law_script","_law_at","_law_mates"] (Zg Za0):=Am
def Zhn (T:Txt w K mg t):(a:) 2 t.fS t.f9 ["_law_script","_law_at","_law_mates"] (Zkq K):=by
 refine T.gq.F.aR G7 (b:)
 ·obtain ⟨a,m,sc,i,M,rfl,hS,hl,i0,i1,hm,t7,hn,inv,k⟩:=h
  refine ⟨_,(Ze (Zs (i:=3) G7.nd Y (Or.inl Y) (pcT (W9 T) hr T.aW (Za (pv 0) (v:))))
   (Zh (Zl (pcT (Zlu T) hr T.iO (Za (pv 2) (Za (pcT (Gd T) hr T.cS (Za (Zj Y7 (pv 3) Zf) (Za (Zj Yl Zf (Zj Z6 (pv 3) Zf)) Zc))) Zc)))))),?_⟩;refine ⟨_,Y,_,Y,a,sc,i,Y,hS,hl,i0,by lia,?_⟩;dsimp only [Zo];generalize cell sc i=c;have m0:0<=c % 50:=Int.emod_nonneg _ (d:);have m1:c % 50 < 50:=Int.emod_lt_of_pos _ (d:);have e:(4 + c % 50:Int)=((4 + (c % 50).toNat:Nat):Int):=by lia
  refine ⟨_,Y,_,Y,_,_,Y,Y,⟨by decide,by decide⟩,_,Y,_,_,Y,Y,(by show (0:Int) < 50; decide),_,_,rfl,rfl,_,4 + (c % 50).toNat,(by rw [<- e]; rfl),by lia,λp xs H1 s1 hp h1 wk hx=>?_⟩;refine ⟨m,p,M,xs,Y,s1 _ _ hm,h1,λz=>by rw [z] at wk; simp at wk; lia,by lia,hx,t7,hn,inv,λl ws H2 s2 lm h2 hw lf=>k l ws H2 (s1.trans s2) (s1.free lm) h2 hw lf⟩
def Zcu:FnScope ["word","by","start"] ["word","by"] (Zg Zfj):=Am
def Zc7 (T:Txt w K mg t):(a:) 1 t.ie t.iz ["word","by"] Zkp:=by
 refine T.gn.F.aR Zcu (b:)
 ·obtain ⟨a,ws,b,rfl,ha,hl,k⟩:=h
  refine ⟨_,(Ze (Z9 (J3 (Qf (pv 0) (λ_=>rfl))) (Zh (Zl (Yr Zc))) Zz)
   (Ze (Zs (i:=2) Zcu.nd rfl (g:) (Zj Z6 (pv 1) (k:)))
   (Zh (Zl (Zj Zls (V0 U2 (pv 0) (Qh (pv 2)) Zcg) (V0 U2 (pv 0) Zcg (Qh (pv 2)))))))),?_⟩;refine Zx λk6 j6=>?_;refine ⟨_,Y,_,.inl ⟨_,SqL.of ha,Y⟩,?_⟩;by_cases kr:ws=[]
  ·subst kr
   exact iteT ⟨Az _,λl zq=>k l _ (Same.new zq) zq (by rw [Zb]; unfold Uh rot; simp)⟩
  ·have e:(!(ws.map V.int).isEmpty)=true:=by cases ws with | nil=>exact absurd rfl kr | cons _ _=>rfl
   have hp:0 < ws.length:=by cases ws with | nil=>exact absurd rfl kr | cons _ _=>simp
   rw [e];refine iteF ?_;dsimp only [Jo];refine j6 _ _ ?_;have k0:=Int.emod_nonneg b (show (ws.length:Int)≠0 by lia);have k1:=Int.emod_lt_of_pos b (show (0:Int) < ws.length by lia);obtain ⟨st,l6⟩:∃ st:Nat,b % (ws.length:Int)=st:=⟨_,(Int.toNat_of_nonneg k0).symm⟩;have zj:st<=ws.length:=by lia
   have et:Uh ws b=ws.drop st ++ ws.take st:=by unfold Uh rot; rw [l6,Int.toNat_natCast]
   refine ⟨_,Y,_,Y,a,_,Y,.inl (SqL.of ha),_,_,Y,Y,(by rw [Ab]; lia),?_⟩;dsimp only [Zo];rw [Zn1,l6];refine ⟨_,Y,_,Y,_,Y,a,_,Y,SqL.of ha,λl1 h1=>?_⟩;rw [Zoi zj];have s1:Same H (upd H l1 (.lst ((ws.drop st).map V.int))):=Same.new h1;refine ⟨_,Y,_,Y,_,Y,a,_,Y,SqL.of (s1 _ _ ha),λl2 h2=>?_⟩;rw [Zsd zj];obtain ⟨vz,pr⟩:=Y9 h2;refine ⟨l1,l2,_,_,Y,Y,by rw [Zd (Ne.symm vz),Zb],Zb,?_,λl3 h3=>?_⟩
   ·rw [Ab,Ab,length_drop,Ai]; exact Zar (by lia)
   ·have s3:=Same.add (o:=.lst ((ws.take st).map V.int)) s1 pr
    refine k l3 _ (Same.add s3 (s3.free h3)) (s3.free h3) ?_;rw [Zb,et,Aj]
def Zfd:FnScope ["tent","place"] ["tent","place"] (Zg Fe):=Am
def Zge (T:Txt w K mg t):(a:) 4 t.eF t.fg ["tent","place"] (Ze1 t.aa):=by
 refine T.fC.F.aR Zfd (b:)
 ·obtain ⟨p,M,ns,x,rfl,ta,pq,k⟩:=h
  obtain ⟨dx,cl,na,sp,mt,o,f,b⟩:=id ta;refine ⟨_,(Zh (Zl (Zf8 (Yf (pv 0) T.ai T.az.m (Va T) (ai:) T.az.b .nil Z1 (v:)) (Zf6 (Jf Ql (Yf (pv 0) T.ai T.aH.m (V8 T) (ai:) T.aH.b .nil Z1 (v:)) Wl (Zr _)))))),?_⟩;refine ⟨_,Y,p,dx,_,Y,b.ins,Yu _ _ _ _,_,Y,p,M,ns,x,Y,ta,_,Y,?_⟩;by_cases c:0<=x/\x < (ns.length:Int)
  ·rw [decide_eq_true c]
   refine iteT ⟨_,Y,p,dx,_,Y,b.ins,Yu _ _ _ _,_,Y,p,M,ns,x,Y,ta,pq,λi y e1 e2=>?_,λz=>absurd c z⟩;refine ⟨Y,?_⟩
   have:Wn M x=!decide (mV y=.non):=by
    unfold Wn;rw [e1,Int.toNat_natCast,Ad,e2,decide_eq_true (show (0:Int)<=i/\(i:Int) < M.length by lia)];cases y <;> rfl
   rw [this] at k;exact k
  ·rw [decide_eq_false c]
   have:Wn M x=false:=by unfold Wn; rw [decide_eq_false (by lia)]; rfl
   rw [this] at k;exact iteF k
def Zau:FnScope ["tent","ahead","place","entry"] ["tent","ahead","place"] (Zg Zc3):=Am
def Zjv (T:Txt w K mg t):(a:) 4 t.gA t.gJ ["tent","ahead","place"] (Zje t.aa):=by
 refine T.gR.F.aR Zau (b:)
 ·obtain ⟨p,M,ns,a,x,rfl,ta,pq,hc,k⟩:=h
  obtain ⟨dx,cl,na,sp,mt,o,f,b⟩:=id ta;refine ⟨_,(Ze (Zs (i:=3) Zau.nd Y (Or.inl Y) (Yf (pv 0) T.ai T.aH.m (V8 T) (ai:) T.aH.b .nil Z1 (v:)))
   (Zh (Zl (Zf8 (Jf Yw (pcT (Xx T) hr T.aB (U:)) (pcT (Xx T) hr T.aB (Za (pv 3) Zc)) (Zr _)) (Zf6 (Jf Zeh (pv 2) (pv 3) (Zr _))))))),?_⟩
  obtain ⟨nh,hs1⟩:=Bool.and_eq_true_iff.mp hc;have nh:=of_decide_eq_true nh;obtain ⟨m,hm⟩:=Option.isSome_iff_exists.mp hs1;have hal:a.toNat < M.length:=by lia
  have ha:M[a.toNat]?=some (some m):=by rw [Ad,Ac hal] at hm; rw [Ac hal]; exact congrArg some hm
  have ef:Jh M a x=(decide (x / 3=(m:Int) / 3) && !decide (x=(m:Int))):=by unfold Jh; rw [hm]
  rw [ef] at k;refine ⟨_,Y,p,dx,_,Y,b.ins,Yu _ _ _ _,_,Y,p,M,ns,a,Y,ta,pq,λi y e1 e2=>?_,λz=>absurd (show 0<=a/\a < (ns.length:Int) by lia) z⟩;have:i=a.toNat:=by lia
  subst this;rw [ha] at e2;cases e2;refine ⟨_,Y,_,Y,_,Y,_,Y,Y,_,Y,?_⟩;have dI:∀ u v:Int,decide (V.int u=V.int v)=decide (u=v):=λu v=>by
   by_cases z:u=v
   ·subst z; simp
   ·rw [decide_eq_false z,decide_eq_false (λy=>z (by injection y))]
  rw [dI];by_cases z:x / 3=(m:Int) / 3
  ·rw [decide_eq_true z] at k ⊢
   refine iteT ⟨_,Y,_,Y,Y,?_⟩;show Q (.bl (!decide (V.int x=V.int (m:Int)))) H;rw [dI];exact k
  ·rw [decide_eq_false z] at k ⊢
   exact iteF k
def Znd:FnScope ["tent","word"] ["tent","word"] (Zg Zh5):=Am
def Znr (T:Txt w K mg t):(a:) 5 t.iX t.i5 ["tent","word"] (Zm7 t.aa):=by
  refine T.i9.F.aR Znd (b:)
  · obtain ⟨p,a,M,ns,ws,rfl,ta,pq,ha,hl,k⟩:=h
    refine ⟨_,(Ze (Z9 (PW.pt (Ve (J3 (Qf (pv 1) (λ_=>rfl))) (Qz (J3 (J2 (Zn (Zah Y) (by rfl) T.jr PyProof.Rows.boot_all (Za (Yv (ts:=["place"]) (fv:=[("tent",0)]) (c:) rfl (Yx (pv 1)) (λ_ _ _ _=>(Zk (i:=0) (show List.Nodup (["place","tent"]:List Str) from by decide +kernel) rfl (g:) (I:))) (ah:) (N:) (λ_ _ _ _ _ _=>Yj (pcT (Zge T) hr T.fC (Za (pv 1) (Za (pv 0) Zc))))) Zc))))))) (Zh (Zl Us)) Zz)
      (Zh (Zl (Zn (Zah rfl) (by rfl) T.jr PyProof.Rows.boot_all (Za (Yv (ts:=["ahead","place"]) (fv:=[("tent",0)]) (c:) rfl (Zlc rfl T.js (Za (pv 1) (Za (pcT (Zc7 T) hr T.gn (Za (pv 1) (Za Zf Zc))) Zc))) (λ_ _ _ _=>(Qj (n:=2) K rfl (Zw (Zk (i:=0) (show List.Nodup (["ahead","place","tent"]:List Str) from by decide +kernel) rfl (g:) (I:)) (Zw (Zk (i:=1) (show List.Nodup (["ahead","place","tent"]:List Str) from by decide +kernel) rfl (g:) (I:)) Yz)))) (ah:) (N:) (λ_ _ _ _ _ _=>Yj (pcT (Zjv T) hr T.gR (Za (pv 2) (Za (pv 0) (v:)))))) Zc))))),?_⟩;refine Zx λk6 j6=>?_;refine ⟨_,Y,_,.inl ⟨_,SqL.of ha,Y⟩,?_⟩;by_cases kr:ws=[]
    · subst kr
      exact iteT (k _ (Same.refl _))
    · have e:(!(ws.map V.int).isEmpty)=true:=by cases ws with | nil=>exact absurd rfl kr | cons _ _=>rfl
      have e':(!ws.isEmpty)=true:=by cases ws with | nil=>exact absurd rfl kr | cons _ _=>rfl
      have hp:0 < ws.length:=by cases ws with | nil=>exact absurd rfl kr | cons _ _=>simp
      rw [e];refine iteF ?_;refine ⟨_,Y,a,Y,⟨_,SqL.of ha⟩,λD hD=>?_⟩;refine Ym (xs:=ws.map V.int) (λi σ H1=>∃ v,σ=[v,some (.ref p)]/\Same H H1/\H1 D=some (.lst (((ws.take i).map (Wn M)).map V.bl))) (ag:) ?_ ?_ ?_
      · rintro i σ H1 _ ⟨v,rfl,sm,h1⟩
        exact SqL.of (sm _ _ ha)
      · rintro i x σ H1 hx ⟨v,rfl,sm,h1⟩
        obtain ⟨y,hy,rfl⟩:=map_some hx;dsimp only [Zo,tYes];rw [if_pos rfl];refine ⟨_,Y,_,Y,p,M,ns,y,Y,ta.same sm,pq,_,h1,?_,_,Y,Same.add sm hD,?_⟩
        · rw [Ab,Ab,Ai,sizeLine_eq]; lia
        · rw [Zb,Aw,hy,Aj,Aj]; rfl
      rintro σ H1 ⟨v,rfl,s1,h1⟩;rw [Ab,take_length] at h1;refine ⟨D,_,Y,SqL.of h1,_,Y,?_⟩;by_cases hc:(ws.map (Wn M)).all id=true
      · rw [hc]
        refine iteF ?_;dsimp only [Jo];refine j6 _ _ ?_;refine ⟨_,Y,_,Y,a,ws,1,Y,s1 _ _ ha,hl,λtl H2 s2 htl h2=>?_⟩;have l9:=s1.trans s2;have et:Uh ws 1=rot ws (1 % ws.length):=by
          unfold Uh
          congr 1
        rw [et] at h2;have hrl:(rot ws (1 % ws.length)).length=ws.length:=Jt ws (Nat.le_of_lt (mod_lt _ hp));have hcr:∀ y∈ws,Wn M y=true:=λy hy=>all_eq_true.mp hc _ (mem_map.mpr ⟨y,hy,rfl⟩);have ep:Jk M ws=(J6 M ws (rot ws (1 % ws.length))).all id:=by unfold Jk; rw [e',hc]; rfl
        have k':=λH' s'=>k H' s';rw [ep] at k';generalize rot ws (1 % ws.length)=vs at h2 hrl k';refine ⟨a,tl,_,_,Y,SqL.of (l9 _ _ ha),SqL.of h2,λD2 lq=>?_⟩;refine Znz (xs:=ws.map V.int) (ys:=vs.map V.int) (by rw [Ab,Ab,hrl]) (λi σ H3=>∃ v v',σ=[v,v',some (.ref p)]/\Same H2 H3/\H3 D2=some (.lst (((J6 M ws vs).take i).map V.bl))) ⟨none,none,Y,Same.new lq,Zb⟩ ?_ ?_ ?_
        · rintro i σ H3 _ ⟨v,v',rfl,s3,h3⟩
          exact ⟨SqL.of (s3 _ _ (l9 _ _ ha)),SqL.of (s3 _ _ h2)⟩
        · rintro i x y σ H3 q hx hy hq ⟨v,v',rfl,s3,h3⟩
          obtain ⟨x',n9,rfl⟩:=map_some hx;obtain ⟨y',nk,rfl⟩:=map_some hy;have s4:Same H3 (upd H3 q (.tup [V.int x',V.int y'])):=Same.new hq;refine ⟨q,_,Y,SqT.of Zb,Y,_,_,Y,_,_,Y,Y,?_⟩;dsimp only [tYes];rw [if_pos rfl];refine ⟨_,Y,_,Y,_,Y,p,M,ns,x',y',Y,((ta.same l9).same s3).same s4,pq,hcr x' (Au n9),_,s4 _ _ h3,?_,_,_,Y,Same.add (s3.trans s4) lq,?_⟩
          · rw [Ab,Ai]
            have:(J6 M ws vs).length<=ws.length:=by unfold J6; rw [Ab,length_zip]; lia
            rw [sizeLine_eq]; lia
          · have:(J6 M ws vs)[i]?=some (Jh M x' y'):=by
              unfold J6;rw [Ah,getElem?_zip_eq_some (z:=(x',y')) |>.mpr ⟨n9,nk⟩];rfl
            rw [Zb,Aw,this,Aj];rfl
        rintro σ H3 ⟨v,v',rfl,s3,h3⟩;have lf:(J6 M ws vs).length=ws.length:=by unfold J6; rw [Ab,length_zip]; lia
        rw [Ab,take_of_length_le (Nat.le_of_eq lf)] at h3;exact ⟨D2,_,Y,SqL.of h3,k' _ (l9.trans s3)⟩
      · have hc:(ws.map (Wn M)).all id=false:=by rw [Bool.eq_false_iff]; exact hc
        rw [hc];have ep:Jk M ws=false:=by unfold Jk; rw [hc]; simp
        have:=k _ s1;rw [ep] at this;exact iteT this
def Zb6:FnScope ["tent","word"] ["tent","word"] (Zg O4):=Am
def Oe (T:Txt w K mg t):(a:) 6 t.cX t.dh ["tent","word"] (Zb0 t.aa t.dw):=by
 refine T.bw.F.aX Zb6 (b:)
 ·obtain ⟨p,a,M,ns,ws,rfl,ta,pq,ha,hl,k⟩:=h
  refine ⟨_,(Z4 (W6 (J3 (J2 (pcT (Znr T) hr T.i9 (Za (pv 0) (v:))))) (Z4 (Xu T.iT FBV Y T.iQ Y (Za Z5 Zc))) X1)),?_⟩;refine ⟨_,Y,_,Y,p,a,M,ns,ws,Y,ta,pq,ha,hl,λH' s'=>⟨_,Y,?_⟩⟩;obtain ⟨k1,k2⟩:=k H' s'
  cases e:Jk M ws with
  | true=>exact iteF (k1 e)
  | false=>exact iteT ⟨by decide,k2 e⟩
noncomputable def dI (ks:List Int) (f:Int->Int):List (Key × V):=ks.map λx=>((Sum.inl x:Key),V.int (f x))
def Zmq (h:y∈ks):valV (dI ks f) (Sum.inl y)=some (V.int (f y)):=by unfold dI; rw [Jd,if_pos h]
def Zmr (h:y∈ks):putK (dI ks f) (Sum.inl y) (V.int v)=dI ks λx=>if x=y then v else f x:=by
 unfold dI;rw [Zh8 h];apply map_congr_left;intro x _;by_cases c:x=y
 ·simp [c]
 ·simp [c]
def Zsc (h:y ∉ ks):putK (dI ks f) (Sum.inl y) (V.int v)=dI (ks ++ [y]) λx=>if x=y then v else f x:=by
 unfold dI;rw [Zce h,Aj];congr 1
 ·apply map_congr_left
  intro x hx;have:x≠y:=λz=>h (z ▸ hx);simp [this]
 ·simp
def Zms {ks:List Int}:(dI ks f).length=ks.length:=by unfold dI; simp
noncomputable def crP (M:Lq) (ws:List Nat) (p:Nat):Int:=((ws.countP λq=>decide (q=p\/M[q]?=some (some p)):Nat):Int)
def Zol {α:Type} {f:α->Bool} {l:List α} {i:Nat} {x:α} (h:l[i]?=some x):(l.take (i + 1)).countP f=(l.take i).countP f + if f x=true then 1 else 0:=by
 rw [Aw,h,countP_append];simp [countP_cons]
def Zoj {M:Lq} {ws:List Nat} {i q m:Nat} (h:ws[i]?=some q) (hm:M[q]?=some (some m)) (ne:q≠m) (p:Nat):crP M (ws.take (i + 1)) p=if p=m then crP M (ws.take i) m + 1 else if p=q then crP M (ws.take i) q + 1 else crP M (ws.take i) p:=by
 unfold crP;rw [Zol h];by_cases c:p=m
 ·subst c
  rw [if_pos rfl,if_pos (decide_eq_true (.inr hm))];lia
 ·rw [if_neg c]
  by_cases d:p=q
  ·subst d
   rw [if_pos rfl,if_pos (decide_eq_true (.inl rfl))];lia
  ·rw [if_neg d,if_neg]
   ·lia
   ·intro z
    rcases of_decide_eq_true z with e | e
    ·exact d e.symm
    ·rw [hm] at e; cases e; exact c Y
noncomputable def rowI (n:Nat) (f:Nat->Int):List V:=(List.range n).map λp=>V.int (f p)
def W5 (n:Nat) (f:Nat->Int):(rowI n f).length=n:=by unfold rowI; simp
def U9 (h:p < n):(rowI n f)[p]?=some (V.int (f p)):=by unfold rowI; rw [Ah,getElem?_range h]; rfl
def Zfz:(rowI n f).set p (V.int v)=rowI n λq=>if q=p then v else f q:=by
 apply ext_getElem?;intro i;by_cases hi:i < n
 ·rw [U9 hi,getElem?_set,W5]
  by_cases c:p=i
  ·subst c; simp [hi]
  ·rw [if_neg c,U9 hi,if_neg (λz=>c z.symm)]
 ·rw [Ay (by rw [length_set,W5]; lia),Ay (by rw [W5]; lia)]
def Zjk (h:∀ p,f p=g p):rowI n f=rowI n g:=by unfold rowI; exact map_congr_left λp _=>by rw [h p]
def Zm8:Sp:=λvs H Q _=>∃ (r c:Addr) (ns:List Int) (f:Nat->Int),vs=[.ref r,.ref c]/\Yq H r ns/\ns.length<=1000/\H c=some (.lst (rowI ns.length f)) /\
 ∀ (l:Addr) (g:Int->Int) (H':Hp),Same H H'->H l=none->H' l=some (.dK (dI (af:) g))->(∀ x∈keys ns ns.length,∃ p,ns[p]?=some x/\g x=f p)->Q (.ref l) H'
theorem Oh (ns:List Int):∀ n,(keys ns n).length<=n
 | 0=>An _
 | n + 1=>by
  have ih:=Oh ns n
  cases h:ns[n]? with
  | none =>
   have:keys ns (n + 1)=keys ns n:=by
    show (A:)=_;rw [h]
   rw [this]; lia
  | some x =>
   rw [Wr h];split
   ·lia
   ·rw [Ae,At]; lia
def Ou:FnScope ["_law_rows_here","_law_counts","_law_due","_law_p"] ["_law_rows_here","_law_counts"] (Zg Zc0):=Am
def Zjs (T:Txt w K mg t):(a:) 1 t.gF t.gO ["_law_rows_here","_law_counts"] Zm8:=by
 refine T.gV.F.aR Ou (b:)
 ·obtain ⟨r,c,ns,f,rfl,nh,hl,hc,k⟩:=h
  have hu:=Xb hr;refine ⟨_,(Ze (Zs (i:=2) Ou.nd Y (Or.inl Y) Ox)
   (Ze (Xr PassesOwn.never rfl (Xw rfl T.aD (Za (Zn Zm (by rfl) T.am PySem.boot_len (v:)) Zc)) (Zk (i:=3) Ou.nd rfl (g:)) (Zh (Ob hu (pv 2) (Zv Yp (Zv Z0 (pv 0) (Zj Y7 (pv 3) Zf) (j:)) (Zj Z6 (pv 3) Zf) (j:)) (Zv Z0 (pv 1) (pv 3) (j:)) rfl)))
   (Zh (Zl (pv 2))))),?_⟩
  intro d hd;have s1:Same H (upd H d (.dK [])):=Same.new hd;dsimp only [Zo];show tSeq (tFor _ _ _) _ _ _ _;refine Yc (λσ H'=>∃ (g:Int->Int) (v:Option V),σ=[some (.ref r),some (.ref c),some (.ref d),v]/\Same H H'/\H' d=some (.dK (dI (af:) g))/\∀ x∈keys ns ns.length,∃ p,ns[p]?=some x/\g x=f p) (ab:) ?_
  ·refine ⟨_,Y,c,_,Y,.inl (SqL.of (s1 _ _ hc)),_,Y,by rw [W5]; lia,by rw [W5]; lia,?_⟩
   have eL:((((rowI ns.length f).length:Nat):Int)).toNat=ns.length:=by rw [W5,Int.toNat_natCast]
   rw [eL];refine Jx (n:=ns.length) (λi σ H'=>∃ (g:Int->Int) (v:Option V),σ=[some (.ref r),some (.ref c),some (.ref d),v]/\Same H H'/\H' d=some (.dK (dI (keys ns i) g))/\∀ x∈keys ns i,∃ p,ns[p]?=some x/\g x=f p) ⟨λ_=>0,_,Y,s1,Zb,λx hx=>by simp [keys] at hx⟩ ?_ ?_
   ·rintro i σ H' hi ⟨g,v,rfl,s2,pk,hg⟩
    dsimp only [Zo];rw [Int.zero_add];obtain ⟨y,hy⟩:∃ y,ns[i]?=some y:=⟨_,Ac hi⟩;obtain ⟨ts',q,e1,e2,e3,e4⟩:=Zfy (nh.same s2) hy;have zz:=s2 _ _ hc;refine ⟨_,Y,_,Y,c,_,_,_,Y,Y,SqL.of zz,Xq (U9 hi),_,Y,?_⟩;refine ⟨_,Y,_,Y,_,_,Y,Y,⟨by decide,by decide⟩,r,_,_,_,Y,Y,SqL.of e1,(by rw [div3]; exact Y1 e2),_,Y,_,_,Y,Y,(an:),q,_,_,_,rfl,rfl,SqT.of e3,(by rw [mod3]; exact Xq e4),?_⟩;refine ⟨d,_,Y,DPut.k (k:=Sum.inl y) pk (by rw [Zms]; exact Zt (by have:=Oh ns i; lia)),?_⟩;refine ⟨λx=>if x=y then f i else g x,_,Y,Same.add s2 hd,?_,?_⟩
    ·rw [Zb,Wr hy]
     by_cases z:y∈keys ns i
     ·rw [if_pos z,Zmr z]
     ·rw [if_neg z,Zsc z]
    ·intro x hx
     by_cases z:x=y
     ·subst z
      exact ⟨i,hy,if_pos Y⟩
     ·have:x∈keys ns i:=by
       rw [Wr hy] at hx;split at hx
       ·exact hx
       ·rcases mem_append.mp hx with q' | q'
        ·exact q'
        ·exact absurd (Af q') z
      obtain ⟨p,h1,h2⟩:=hg x this;exact ⟨p,h1,by show (if x=y then f i else g x)=f p; rw [if_neg z]; exact h2⟩
   ·rintro σ H' ⟨g,v,rfl,s2,pk,hg⟩
    exact kh _ _ ⟨g,v,Y,s2,pk,hg⟩
  ·rintro σ H' ⟨g,v,rfl,s2,pk,hg⟩
   exact ⟨_,Y,k d g H' s2 hd pk hg⟩
structure OkC (M:Lq) (ns:List Int) (g:Int->Int):Prop where
 nn:∀ x∈keys ns ns.length,0<=g x
 rim:∀ (i:Nat) (x:Int),M[i]?=some none->ns[i]?=some x->g x=0
 even:∀ k,3 * k + 2 < ns.length->(g (ns.getD (3 * k) 0) + g (ns.getD (3 * k + 1) 0) + g (ns.getD (3 * k + 2) 0)) % 2=0
 tri:∀ k,3 * k + 2 < ns.length->g (ns.getD (3 * k) 0)<=g (ns.getD (3 * k + 1) 0) + g (ns.getD (3 * k + 2) 0)/\g (ns.getD (3 * k + 1) 0)<=g (ns.getD (3 * k) 0) + g (ns.getD (3 * k + 2) 0)/\g (ns.getD (3 * k + 2) 0)<=g (ns.getD (3 * k) 0) + g (ns.getD (3 * k + 1) 0)
def Ztq (H H':Hp):Prop:=∀ b u,(∀ kvs,u≠.dK kvs)->H b=some u->H' b=some u
def Z3.sameD (h:Z3 C H p M ns) (s:Ztq H H'):Z3 C H' p M ns:=by
 obtain ⟨dx,cl,na,sp,mt,o,f,b⟩:=h;obtain ⟨ts,r1,r2,r3⟩:=b.rows;exact ⟨dx,cl,na,sp,mt,o,f,s _ _ (λ_ z=>nomatch z) b.ins,⟨ts,s _ _ (λ_ z=>nomatch z) r1,r2,λk t e=>s _ _ (λ_ z=>nomatch z) (r3 k t e)⟩,s _ _ (λ_ z=>nomatch z) b.names,s _ _ (λ_ z=>nomatch z) b.spots,s _ _ (λ_ z=>nomatch z) b.mates,λx hx=>s _ _ (λ_ z=>nomatch z) (b.at' x hx)⟩
def X7 (H:Hp) (c:Addr) (ns:List Int) (g:Int->Int):Prop:=∃ ks:List Int,H c=some (.dK (dI ks g))/\ks.Perm (af:)
def X7.same (h:X7 H c ns g) (s:Same H H'):X7 H' c ns g:=by
 obtain ⟨ks,h1,h2⟩:=h;exact ⟨ks,s _ _ h1,h2⟩
def Zro {M:Lq} {ns:List Int} (td:TD M ns) (hx:x∈keys ns ns.length) (h:Yd ns x="rim"):∃ a:Nat,M[a]?=some none/\ns[a]?=some x:=by
 rcases J0 td hx with ⟨_,a,e,ma⟩ | ⟨e,_⟩ | ⟨e,_⟩
 ·refine ⟨a,ma,?_⟩
  have:a∈pl ns ns.length x:=by rw [e]; exact mem_singleton.mpr Y
  unfold pl at this;exact of_decide_eq_true (mem_filter.mp this).2
 ·rw [h] at e; exact absurd e (d:)
 ·rw [h] at e; exact absurd e (d:)
noncomputable def g3 (ns:List Int) (g:Int->Int) (k:Nat):List Int:=[g (ns.getD (3 * k) 0),g (ns.getD (3 * k + 1) 0),g (ns.getD (3 * k + 2) 0)]
def Zbg {ns:List Int} (h:i < ns.length):ns.getD i 0∈keys ns ns.length:=by
 have e:ns[i]?=some (ns.getD i 0):=by rw [Ad,Ac h]; rfl
 exact Y2.mpr ⟨i,h,e⟩
def Ztj {ns:List Int} {j:Nat} (h:(row3 ns i)[j]?=some x):∃ z,(3 * i + 2 < ns.length->z∈keys ns ns.length)/\x=V.int z/\(g3 ns g i)[j]?=some (g z):=by
 match j,h with
 | 0,h=>cases h; exact ⟨_,λh=>Zbg (by lia),Y,Y⟩
 | 1,h=>cases h; exact ⟨_,λh=>Zbg (by lia),Y,Y⟩
 | 2,h=>cases h; exact ⟨_,λh=>Zbg h,Y,Y⟩
 | j + 3,h=>simp [row3] at h
def Zmf {us:List Addr} (h:some (HO.lst (us.map V.ref))=some (HO.lst ((g3 ns g k).map V.int))):False:=by
 injection h with h
 injection h with h
 cases us with
 | nil=>cases h
 | cons a r=>injection h with h _; cases h
def Gv (h:H c=some (.dK (dI ks g))) (hz:z∈ks):DGet H c (.int z) (some (.int (g z))):=.inl ⟨_,Sum.inl z,.inl h,rfl,(Zmq hz).symm⟩
def Zdw (n:Nat):(List.replicate n false).any id=false:=by
 induction n with
 | zero=>rfl
 | succ n ih=>rw [replicate_succ,any_cons,ih]; rfl
structure OkN (M:Lq) (ns:List Int) (g:Int->Int):Prop where
 nn:∀ x∈keys ns ns.length,0<=g x
 rim:∀ (i:Nat) (x:Int),M[i]?=some none->ns[i]?=some x->g x=0
def Zhd (C:Addr):Sp:=λvs H Q _=>∃ (p c:Addr) (M:Lq) (ns:List Int) (g:Int->Int),vs=[.ref p,.ref c]/\Z3 C H p M ns/\TD M ns/\ns.length < 64/\X7 H c ns g/\OkN M ns g/\∀ H',Same H H'->Q .non H'
def Zao (C:Addr):Sp:=λvs H Q _=>∃ (p c:Addr) (M:Lq) (ns:List Int) (g:Int->Int),vs=[.ref p,.ref c]/\Z3 C H p M ns/\TD M ns/\ns.length < 64/\X7 H c ns g/\OkC M ns g/\∀ H',Same H H'->Q .non H'
def J1:FnScope ["tent","counts","seam","number"] ["tent","counts"] (Zg U6):=Am
def Zbb (T:Txt w K mg t):(a:) 3 t.cF t.cK ["tent","counts"] (Zhd t.aa):=by
 refine T.cO.F.aR J1 (b:)
 ·obtain ⟨p,c,M,ns,g,rfl,ta,td,h64,⟨ks,hc,ky⟩,ok,k⟩:=h
  refine ⟨_,(Ze (Z9 (Zq (Zlq hr.units) (Zn (Qc Y) (by rfl) T.bQ PyProof.Rows.boot_sorted (v:)) (Xa (pv 0) T.ai T.aM.m (Ke T) (ai:) T.aM.b .nil Z1) (Zr _)) Yy Zz)
   (Zh (Zcf (Xr PassesOwn.never rfl (Qi (pv 1) ⟨rfl,rfl,rfl⟩) (Ww rfl (Zw (Zk (i:=2) J1.nd rfl (g:)) (Zw (Zk (i:=3) J1.nd rfl (g:)) Yz))) (Ze (Z9 (Zq Qs (pv 3) Zf (Zr _)) Yy Zz)
   (Zh (Z9 (PW.pt (K5 (Zq Ut (pv 3) Zf (Zr _)) (Oa (Zq Yw (Yf (pv 0) T.ai T.ao.m (W3 T) (ai:) T.ao.b .nil Z1 (U:)) Z5 (Zr _))))) Yy Zz))))))),?_⟩;refine Zx λk6 j6=>?_;have lp:ks.length < 64:=by have h1:=ky.length_eq; have h2:=Oh ns ns.length; lia
  refine ⟨_,Y,c,_,ks,Y,.inl hc,(by unfold dI; rw [map_map]; rfl),lp,λl1 k8 l7 u6 u5=>?_⟩;have s1:Same H (upd H l1 (bc:)):=Same.new l7;have ss:=ta.same s1;obtain ⟨dx,cl,na,sp,mt,o,f,B⟩:=id ss;refine ⟨_,Y,p,dx,_,Y,B.ins,Yu _ _ _ _,p,M,ns,Y,ss,h64,λl2 vn lm pm2 md=>?_⟩;have s2:Same (upd H l1 (bc:)) (upd (upd H l1 (bc:)) l2 (.lst (vn.map V.int))):=Same.new lm;refine ⟨l1,l2,k8,vn,Y,Y,SqL.of (s2 _ _ Zb),SqL.of Zb,_,Y,?_⟩;obtain rfl:=Zct (u6.trans ky) pm2 u5 md;rw [decide_eq_true rfl];refine iteF ?_;have m7:=s1.trans s2;generalize upd (upd H l1 (.lst (k8.map V.int))) l2 (.lst (k8.map V.int))=H2 at m7 ⊢;clear B ss s1 s2 u6 u5 pm2 md l7 lm
  try dsimp only [Jo]
  refine j6 _ _ ?_;have zz:=m7 _ _ hc;have qv:=ta.same m7;refine ⟨_,Y,c,_,Y,.inl ⟨zz,λo=>?_⟩⟩;refine Zdj (λi σ H9=>∃ v2 v3:Option V,σ=[some (.ref p),some (.ref c),v2,v3]/\(∀ b u,b≠c->H2 b=some u->H9 b=some u)/\H9 c=some (.frz o (.dK (dI ks g)))) ⟨none,none,Y,λb u hb e=>by rw [Zd hb]; exact e,Zb⟩ ?_ ?_ ?_
  ·rintro i σ H9 _ ⟨v2,v3,rfl,_,e⟩
   exact e
  ·rintro i k0 x0 σ H9 q oq hq ⟨v2,v3,rfl,s9,h9⟩
   obtain ⟨y,hy,rfl,rfl⟩:∃ y,y∈ks/\k0=Sum.inl y/\x0=V.int (g y):=by
    unfold dI at oq;rw [Ah] at oq
    cases e:ks[i]? with
    | none=>rw [e] at oq; cases oq
    | some z=>rw [e] at oq; cases oq; exact ⟨z,Au e,Y,Y⟩
   have nk:y∈keys ns ns.length:=ky.mem_iff.mp hy;have sq:Same H9 (upd H9 q (.tup [kV (Sum.inl y),V.int (g y)])):=Same.new hq;have taq:Z3 t.aa (upd H9 q (.tup [kV (Sum.inl y),V.int (g y)])) p M ns:=(qv.sameD (λb u hu e=>s9 b u (λz=>by rw [z,zz] at e; cases e; exact hu _ Y) e)).same sq;refine ⟨q,_,Y,SqT.of Zb,Y,_,_,Y,_,_,Y,Y,?_⟩;refine Zx λk6 j6=>?_;refine ⟨_,Y,_,_,Y,Y,_,Y,?_⟩;rw [decide_eq_false (show ¬ g y < 0 from by have:=ok.nn y nk; lia)];refine iteF ?_
   try dsimp only [Jo]
   refine j6 _ _ ?_;refine ⟨_,Y,_,_,Y,Y,_,Y,?_⟩;have nx9:∀ H',Same (upd H9 q (.tup [kV (Sum.inl y),V.int (g y)])) H'->∃ v2 v3:Option V,[some (.ref p),some (.ref c),some (V.int y),some (V.int (g y))]=[some (.ref p),some (.ref c),v2,v3]/\(∀ b u,b≠c->H2 b=some u->H' b=some u)/\H' c=some (.frz o (.dK (dI ks g))):=λH' s'=>⟨_,_,rfl,λb u hb e=>s' _ _ (sq _ _ (s9 b u hb e)),s' _ _ (sq _ _ h9)⟩;refine ite2 (λz=>?_) (λ_=>iteF (nx9 _ (Same.refl _)));have hg0:0 < g y:=of_decide_eq_true z;obtain ⟨dx,cl,na,sp,mt,o',f,B⟩:=id taq;refine ⟨_,Y,p,dx,_,Y,B.ins,Yu _ _ _ _,_,Y,p,M,ns,y,Y,taq,td,λ_ H' s'=>?_,λz=>absurd nk z⟩;refine ⟨Y,_,Y,?_⟩;by_cases e:Yd ns y="rim"
   ·obtain ⟨a,ma,na⟩:=Zro td nk e
    have:=ok.rim a y ma na;lia
   ·rw [Kk e]
    exact iteF (nx9 H' s')
  ·rintro σ H9 ⟨v2,v3,rfl,s9,h9⟩
   refine ⟨c,o,_,h9,λo' u z=>?_,?_⟩
   ·have z:H c=some (.frz o' u):=z
    rw [hc] at z; cases z
   ·refine k _ λb u e=>?_
    by_cases hb:b=c
    ·subst hb
     rw [Zb];rw [hc] at e; exact e
    ·rw [Zd hb]
     exact s9 b u hb (m7 b u e)
def U3:FnScope ["tent","counts","triples"] ["tent","counts"] (Zg O6):=Am
def Zcj (T:Txt w K mg t):(a:) 4 t.cY t.di ["tent","counts"] (Zao t.aa):=by
  refine T.dn.F.aR U3 (b:)
  · obtain ⟨p,c,M,ns,g,rfl,ta,td,h64,qg,ok,k⟩:=h
    have hu:=Xb hr;refine ⟨_,(Ze (Z8 (pcT (Zbb T) hr T.cO (Za (pv 0) (v:))))
      (Ze (Xv (ts:=["row"]) (fv:=[("counts",1)]) (i:=2) (c:) rfl U3.nd rfl rfl (by rfl) (Yx (Xa (pv 0) T.ai T.aG.m (V7 T) (ai:) T.aG.b .nil Z1)) (λ_ _ _ _=>(Zk (i:=0) (show List.Nodup (["row","counts"]:List Str) from by decide +kernel) rfl (g:) (I:))) (ah:) (N:) (λ_ _ _ _ _ _=>Yj (Yv (ts:=["seam"]) (fv:=[("counts",1)]) (c:) rfl (Zci K (pv 0)) (λ_ _ _ _=>(Zk (i:=0) (show List.Nodup (["seam","counts"]:List Str) from by decide +kernel) rfl (g:) (I:))) (ah:) (N:) (λ_ _ _ _ _ _=>Yj (Wy hu (pv 1) (pv 0) (j:))))))
      (Ze (Z9 (J2 (Zn (Zdq rfl) (by rfl) T.jE PyProof.Rows.boot_any (Za (Yv (ts:=["triple"]) (fv:=[]) (s:) rfl (Yx (pv 2)) (λ_ _ _ _=>(Zk (i:=0) (show List.Nodup (["triple"]:List Str) from by decide +kernel) rfl (g:) (I:))) (ah:) (N:) (λ_ _ _ _ _ _=>Yj (Jf Yw (Zj Z6 (Zn (Zbv K rfl) (by rfl) T.jG PyProof.Rows.boot_sum (Za (pv 0) Zc)) Zf) Zf (Zr _)))) Zc))) Yy Zz)
      (Zh (Z9 (J2 (Zn (Zdq rfl) (by rfl) T.jE PyProof.Rows.boot_any (Za (Yv (ts:=["triple"]) (fv:=[]) (s:) rfl (Yx (pv 2)) (λ_ _ _ _=>(Zk (i:=0) (show List.Nodup (["triple"]:List Str) from by decide +kernel) rfl (g:) (I:))) (ah:) (N:) (λ_ _ _ _ _ _=>Yj (Jf Ut (Zj We Zf (Zn (Zj9 K rfl) (by rfl) T.jd PyProof.Rows.boot_max (Za (pv 0) Zc))) (Zn (Zbv K rfl) (by rfl) T.jG PyProof.Rows.boot_sum (Za (pv 0) Zc)) (Zr _)))) Zc))) Yy Zz))))),?_⟩
    refine Zx λk6 j6=>?_;refine ⟨_,Y,_,Y,p,c,M,ns,g,Y,ta,td,h64,qg,⟨ok.nn,ok.rim⟩,λH1 s1=>?_⟩;refine j6 _ _ ?_;have ss:=ta.same s1;have hc1:=qg.same s1;obtain ⟨n,n1,u7,hn⟩:=td.n;have pq:=td.len;refine Zx λk6 j6=>?_;obtain ⟨dx,cl,na,sp,mt,o,f,B⟩:=id ss;refine ⟨_,Y,p,dx,_,Y,B.ins,Yu _ _ _ _,p,M,ns,Y,ss,λlr ts hlr ts1 ts2=>?_⟩;have s2:Same H1 (upd H1 lr (z:)):=Same.new hlr;have h2:(upd H1 lr (z:)) lr=some (z:):=Zb;have h2t:∀ (k:Nat) (t:Addr),ts[k]?=some t->(upd H1 lr (z:)) t=some (.tup (row3 ns k)):=λk t e=>s2 _ _ (ts2 k t e);generalize upd H1 lr (.lst (ts.map V.ref))=H2 at s2 h2 h2t ⊢;refine ⟨lr,Y,⟨_,SqL.of h2⟩,λD hD=>?_⟩;obtain ⟨ks,zz,ky⟩:=hc1.same s2;clear B ts2 hlr;have m7:=s1.trans s2;have wl:ts.length=n:=by lia
    refine Ym (xs:=ts.map V.ref) (λi σ H3=>∃ (v:Option V) (us:List Addr),σ=[v,some (.ref c)]/\Same H2 H3/\H3 D=some (.lst (us.map V.ref))/\us.length=i/\∀ (k:Nat) (u:Addr),us[k]?=some u->H3 u=some (.lst ((g3 ns g k).map V.int))) ⟨none,[],Y,Same.new hD,Zb,Y,λk u e=>by simp at e⟩ ?_ ?_ ?_
    · rintro i σ H3 _ ⟨v,us,rfl,sm,_⟩
      exact SqL.of (sm _ _ h2)
    · rintro i y σ H3 hy ⟨v,us,rfl,sm,h3,hu3,xq⟩
      obtain ⟨q,hq,rfl⟩:=map_some hy;have hi:i < n:=by rw [<- wl]; exact (Aa hq).1
      dsimp only [Zo,tYes];rw [if_pos rfl];have zk:=sm _ _ (h2t i q hq);refine ⟨_,Y,q,Y,⟨_,SqT.of zk⟩,λD2 lq=>?_⟩;refine Oz (xs:=row3 ns i) (λj σ H4=>∃ (v':Option V),σ=[v',some (.ref c)]/\Same H3 H4/\H4 D2=some (.lst (((g3 ns g i).take j).map V.int))) ⟨none,Y,Same.new lq,Zb⟩ ?_ ?_ ?_
      · rintro j σ H4 _ ⟨v',rfl,uo,h4⟩
        exact SqT.of (uo _ _ zk)
      · rintro j x σ H4 hx ⟨v',rfl,uo,h4⟩
        dsimp only [Zo,tYes];rw [if_pos rfl];obtain ⟨z,hz,rfl,hg⟩:=Ztj (g:=g) hx;have hzk:z∈ks:=ky.mem_iff.mpr (hz (by lia));refine ⟨_,Y,_,Y,c,_,Y,Gv (uo _ _ (sm _ _ zz)) hzk,?_⟩;refine ⟨_,h4,?_,_,Y,Same.add uo lq,?_⟩
        · rw [Ab,Ai]
          exact Zt (by have:(g3 ns g i).length=3:=rfl; lia)
        · rw [Zb,Aw,hg]
          simp
      · rintro σ H4 ⟨v',rfl,uo,h4⟩
        have yj:H4 D2=some (.lst ((g3 ns g i).map V.int)):=h4;refine ⟨_,uo _ _ h3,(by rw [Ab]; exact Zt (by lia)),_,us ++ [D2],Y,Same.add (sm.trans uo) hD,?_,?_,?_⟩
        · rw [Zb]; simp
        · rw [Ae,At,hu3]
        · intro k u z
          by_cases hk:k < us.length
          · rw [Av hk] at z
            have gg:=uo _ _ (xq k u z);rw [Zd (λe=>by rw [e,uo _ _ h3] at gg; exact Zmf gg)];exact gg
          · have vg:k=us.length:=by
              have:=(Aa z).1;rw [Ae,At] at this;lia
            subst vg;have:u=D2:=by simpa using z.symm
            subst this;rw [hu3,Zd (λe=>by rw [e,uo _ _ h3] at yj; exact Zmf yj)];exact yj
    rintro σ H3 ⟨v,us,rfl,sm,h3,hu3,xq⟩;refine j6 _ _ ?_
    try dsimp only [Zo]
    have qp:∀ k,k < us.length->3 * k + 2 < ns.length:=λk hk=>by rw [hu3,Ab] at hk; lia
    have hul:us.length<=1000:=by rw [hu3,Ab]; lia
    clear h2 h2t hD;refine Zx λk6 j6=>?_;refine ⟨_,Y,D,Y,⟨_,SqL.of h3⟩,λD1 z8=>?_⟩;refine Ym (xs:=us.map V.ref) (λi σ H4=>∃ (v:Option V),σ=[v]/\Same H3 H4/\H4 D1=some (.lst ((List.replicate i false).map V.bl))) ⟨none,Y,Same.new z8,Zb⟩ ?_ ?_ ?_
    · rintro i σ H4 _ ⟨v,rfl,s4,_⟩
      exact SqL.of (s4 _ _ h3)
    · rintro i y σ H4 hy ⟨v,rfl,s4,h4⟩
      obtain ⟨u,hu0,rfl⟩:=map_some hy;have hi:i < us.length:=(Aa hu0).1;dsimp only [Zo,tYes];rw [if_pos rfl];refine ⟨_,Y,u,_,Y,SqL.of (s4 _ _ (xq i u hu0)),_,_,Y,Y,(by show (0:Int) < 2; decide),rfl,?_⟩;have e:(g3 ns g i).sum % 2=0:=by
        have:=ok.even i (qp i hi)
        simp only [g3,sum_cons,sum_nil]
        lia
      refine ⟨_,h4,(by rw [Ab,length_replicate]; exact Zt (by lia)),_,Y,Same.add s4 z8,?_⟩;rw [Zb,replicate_succ',Aj];show some (HO.lst (_ ++ [V.bl (decide (V.int ((g3 ns g i).sum % 2)=V.int 1))]))=_;rw [e];rfl
    rintro σ H4 ⟨v,rfl,s4,h4⟩;refine ⟨D1,_,Y,SqL.of h4,_,Y,?_⟩;rw [Zdw];refine iteF ?_
    try dsimp only [Jo]
    refine j6 _ _ ?_;have h34:=s4 _ _ h3;have hus4:∀ (k:Nat) (u:Addr),us[k]?=some u->H4 u=some (.lst ((g3 ns g k).map V.int)):=λk u e=>s4 _ _ (xq k u e);have s14:=m7.trans (sm.trans s4);clear h3 xq h4 s4 z8;refine ⟨_,Y,D,Y,⟨_,SqL.of h34⟩,λD1 z8=>?_⟩;refine Ym (xs:=us.map V.ref) (λi σ H5=>∃ (v:Option V),σ=[v]/\Same H4 H5/\H5 D1=some (.lst ((List.replicate i false).map V.bl))) ⟨none,Y,Same.new z8,Zb⟩ ?_ ?_ ?_
    · rintro i σ H5 _ ⟨v,rfl,s5,_⟩
      exact SqL.of (s5 _ _ h34)
    · rintro i y σ H5 hy ⟨v,rfl,s5,h5⟩
      obtain ⟨u,hu0,rfl⟩:=map_some hy;have hi:i < us.length:=(Aa hu0).1;dsimp only [Zo,tYes];rw [if_pos rfl];have hu5:=s5 _ _ (hus4 i u hu0);refine ⟨_,Y,u,_,Y,SqL.of hu5,(by show 0 < 3; decide),λm hm hmx=>?_⟩;refine ⟨_,_,Y,Y,(by show CMul 2 m; exact .inl ⟨by decide,by decide⟩),_,Y,u,_,Y,SqL.of hu5,_,_,Y,Y,?_⟩;have e:¬ (g3 ns g i).sum < 2 * m:=by
        obtain ⟨t1,t2,t3⟩:=ok.tri i (qp i hi)
        simp only [g3,sum_cons,sum_nil]
        simp only [g3,mem_cons,not_mem_nil,or_false] at hm
        rcases hm with rfl | rfl | rfl <;> lia
      refine ⟨_,h5,(by rw [Ab,length_replicate]; exact Zt (by lia)),_,Y,Same.add s5 z8,?_⟩;rw [Zb,replicate_succ',Aj];show some (HO.lst (_ ++ [V.bl (decide ((g3 ns g i).sum < 2 * m))]))=_;rw [decide_eq_false e];rfl
    rintro σ H5 ⟨v,rfl,s5,h5⟩;refine ⟨D1,_,Y,SqL.of h5,_,Y,?_⟩;rw [Zdw];refine iteF ?_;exact k _ (s14.trans s5)
def K9 {α:Type} {x y:α} {i:Nat} (h:[x][i]?=some y):i=0/\y=x:=by
 cases i with
 | zero=>cases h; exact ⟨Y,Y⟩
 | succ i=>cases h
structure Sd where
 (M:Lq) (ns:List Int) (tw:Option (List Nat)) (q:Option (Int->Int)) (ks:List Int) (g:Int->Nat × Nat)
noncomputable def thS (tw:Option (List Nat)) (a:Addr):List (Str × V):=match tw with | none=>[] | some _=>[(Str.ofString "most",.ref a)]
noncomputable def poS (q:Option (Int->Int)) (c:Addr):List (Str × V):=match q with | none=>[] | some _=>[(Str.ofString "part",.ref c)]
structure ScC (CT:Addr) (H:Hp) (te th po wo a c:Addr) (d:Sd):Prop where
 thr:H th=some (.dK (dS (thS d.tw a)))
 wrd:∀ ws,d.tw=some ws->H a=some (aq:)
 poo:H po=some (.dK (dS (poS d.q c)))
 cnt:∀ f,d.q=some f->X7 H c d.ns f
 ten:Z3 CT H te d.M d.ns
 wor:WAt H wo d.ks d.g
def ScC.same {CT:Addr} {H H':Hp} {te th po wo a c:Addr} {d:Sd} (h:ScC CT H te th po wo a c d) (s:Same H H'):ScC CT H' te th po wo a c d :=
 ⟨s _ _ h.thr,λy hy=>s _ _ (h.wrd y hy),s _ _ h.poo,λy hy=>(h.cnt y hy).same s,h.ten.same s,h.wor.same s⟩
def Sc (CT CS:Addr) (H:Hp) (sc:Addr) (d:Sd):Prop:=∃ (kd te th po wo a c:Addr),H sc=some (.ins CS kd (a9:))/\ScC CT H te th po wo a c d
def Sc.same {CT CS:Addr} {H H':Hp} {sc:Addr} {d:Sd} (h:Sc CT CS H sc d) (s:Same H H'):Sc CT CS H' sc d:=by
 obtain ⟨a,b,c,e,f,g,i,hi,h⟩:=h;exact ⟨a,b,c,e,f,g,i,s _ _ hi,h.same s⟩
def Stk (CT CS:Addr) (H:Hp):List Addr->List (aa:)->Prop
 | [],[]=>True
 | q :: qs,d :: ds=>(∃ s:Addr,H q=some (.tup [.str d.1,.ref s])/\Sc CT CS H s d.2)/\Stk CT CS H qs ds
 | _,_=>False
theorem Stk.same {CT CS:Addr} {H H':Hp} (s:Same H H'):∀ {qs:List Addr} {ds:List (aa:)},Stk CT CS H qs ds->Stk CT CS H' qs ds
 | [],[],_=>True.intro
 | [],_ :: _,h=>h.elim
 | _ :: _,[],h=>h.elim
 | q :: qs,d :: ds,h=>by
  obtain ⟨⟨a,h1,h2⟩,h3⟩:=h;exact ⟨⟨a,s _ _ h1,h2.same s⟩,Stk.same s h3⟩
theorem Stk.len {CT CS:Addr} {H:Hp}:∀ {qs:List Addr} {ds:List (aa:)},Stk CT CS H qs ds->qs.length=ds.length
 | [],[],_=>rfl
 | [],_ :: _,h=>h.elim
 | _ :: _,[],h=>h.elim
 | q :: qs,d :: ds,h=>by rw [length_cons,length_cons,Stk.len h.2]
structure HallB (CT CS CH:Addr) (H H0:Hp) (p dx be sc st un:Addr) (qs us:List Addr) (d:Sd) (S U:List (aa:)):Prop where
 ins:H p=some (.ins CH dx (Y0 be sc st un))
 own:H dx=some (.own p)
 sta:H st=some (.lst (qs.reverse.map V.ref))
 und:H un=some (.lst (us.reverse.map V.ref))
 low:Same H0 H
 out:∀ b∈[p,dx,st,un],H0 b=none
 su:st≠un
 cur:Sc CT CS H0 sc d
 stk:Stk CT CS H0 qs S
 unk:Stk CT CS H0 us U
def Ya (CT CS CH:Addr) (H H0:Hp) (p:Addr) (d:Sd) (S U:List (aa:)):Prop:=∃ (dx be sc st un:Addr) (qs us:List Addr),HallB CT CS CH H H0 p dx be sc st un qs us d S U
def HallB.same {CT CS CH:Addr} {H H' H0:Hp} {p dx be sc st un:Addr} {qs us:List Addr} {d:Sd} {S U:List (aa:)} (B:HallB CT CS CH H H0 p dx be sc st un qs us d S U) (s:Same H H'):HallB CT CS CH H' H0 p dx be sc st un qs us d S U :=
 ⟨s _ _ B.ins,s _ _ B.own,s _ _ B.sta,s _ _ B.und,B.low.trans s,B.out,B.su,B.cur,B.stk,B.unk⟩
def Ya.same {CT CS CH:Addr} {H H' H0:Hp} {p:Addr} {d:Sd} {S U:List (aa:)} (h:Ya CT CS CH H H0 p d S U) (s:Same H H'):Ya CT CS CH H' H0 p d S U:=by
 obtain ⟨dx,be,sc,st,un,qs,us,B⟩:=h;exact ⟨dx,be,sc,st,un,qs,us,B.same s⟩
def Ya.low {CT CS CH:Addr} {H H0:Hp} {p:Addr} {d:Sd} {S U:List (aa:)} (h:Ya CT CS CH H H0 p d S U):Same H0 H:=by
 obtain ⟨dx,be,sc,st,un,qs,us,B⟩:=h;exact B.low
noncomputable def Rs (H:Hp) (L:List Addr):Hp:=λb=>if b∈L then none else H b
def Rs.at {H:Hp} {L:List Addr} {b:Addr} {u:HO} (e:H b=some u) (h:b ∉ L):Rs H L b=some u:=by unfold Rs; rw [if_neg h]; exact e
def Rs.le {H:Hp} {L:List Addr}:Same (Rs H L) H:=λb u e=>by
 unfold Rs at e;split at e
 ·cases e
 ·exact e
def Rs.out {H:Hp} {L:List Addr} {b:Addr} (h:b∈L):Rs H L b=none:=by unfold Rs; rw [if_pos h]
def Rs.no {H:Hp} {L:List Addr} {b:Addr} (h:H b=none):Rs H L b=none:=by unfold Rs; split; rfl; exact h
def Vk {H H':Hp} {L:List Addr} (s:Same H H') (h:∀ b∈L,H b=none):Same H (Rs H' L):=λb u e=>Rs.at (s b u e) λz=>by rw [h b z] at e; cases e
def Ws {H H':Hp} {b c:Addr} {u:HO} (s:Same H H') (hb:H b=some u) (hc:H' c=none):c≠b:=λz=>by rw [z,s _ _ hb] at hc; cases hc
section
variable {CT CS CH:Addr} {H H0 H':Hp} {p dx be sc st un b:Addr} {qs us:List Addr} {d:Sd} {S U:List (aa:)}
def HallB.fresh (B:HallB CT CS CH H H0 p dx be sc st un qs us d S U) (s:Same H H') (h:H' b=none):b ∉ [p,dx,st,un]:=λz=>by
 rcases Ar z with rfl | z
 ·exact Ws s B.ins h Y
 ·rcases Ar z with rfl | z
  ·exact Ws s B.own h Y
  ·rcases Ar z with rfl | z
   ·exact Ws s B.sta h Y
   ·rw [Af z] at h; exact Ws s B.und h Y
def HallB.np (B:HallB CT CS CH H H0 p dx be sc st un qs us d S U):H0 p=none:=B.out _ mem_cons_self
def HallB.nst (B:HallB CT CS CH H H0 p dx be sc st un qs us d S U):H0 st=none:=B.out _ (by simp)
def HallB.nun (B:HallB CT CS CH H H0 p dx be sc st un qs us d S U):H0 un=none:=B.out _ (by simp)
end
noncomputable def Nw (H H0 H7:Hp):Hp:=λb=>match H b with | none=>H7 b | some _=>H0 b
def Nw.new {H H0 H7:Hp} {b:Addr} {u:HO} (h:H b=none) (e:H7 b=some u):Nw H H0 H7 b=some u:=by unfold Nw; rw [h]; exact e
def Nw.old {H H0 H7:Hp} (s:Same H0 H):Same H0 (Nw H H0 H7):=λb u e=>by unfold Nw; rw [s b u e]; exact e
def Nw.le {H H0 H7:Hp} (s0:Same H0 H) (s:Same H H7):Same (Nw H H0 H7) H7:=λb u e=>by
 unfold Nw at e
 cases z:H b with
 | none=>rw [z] at e; exact e
 | some v=>rw [z] at e; exact s _ _ (s0 _ _ e)
def Ya.more {CT CS CH:Addr} {H H' H0:Hp} {p:Addr} {d:Sd} {S U:List (aa:)} (h:Ya CT CS CH H H0 p d S U) (s:Same H H'):∃ km,Same H0 km/\Ya CT CS CH H' km p d S U/\∀ b u,H' b=some u->H b=none->km b=some u:=by
 obtain ⟨dx,be,sc,st,un,qs,us,B⟩:=h;have s0:Same H0 (Rs H' [p,dx,st,un]):=Vk (B.low.trans s) B.out;exact ⟨_,s0,⟨dx,be,sc,st,un,qs,us,s _ _ B.ins,s _ _ B.own,s _ _ B.sta,s _ _ B.und,Rs.le,λ_=>Rs.out,B.su,B.cur.same s0,B.stk.same s0,B.unk.same s0⟩,λb u e' e=>Rs.at e' (B.fresh (Same.refl _) e)⟩
def HallB.entr {CT CS CH:Addr} {H H0 H8:Hp} {p dx be sc st un x:Addr} {qs us:List Addr} {d d':Sd} {S U:List (aa:)} {rr:Str} {Q:VK} {E:XK} (B:HallB CT CS CH H H0 p dx be sc st un qs us d S U) (wf:Same H H8) (hl:S.length<=800) (s0:Same H0 (Rs H8 [p,dx,st,un])) (C:Sc CT CS (Rs H8 [p,dx,st,un]) x d')
  (k:∀ H' km,Same H0 km->Ya CT CS CH H' km p d' ((rr,d) :: S) []->Q .non H'):Q6 CH [.ref p,.str rr,.ref x] H8 Q E:=by
 have hq:=B.stk.len;refine ⟨p,dx,be,sc,st,un,x,rr,qs.reverse.map V.ref,Y,wf _ _ B.ins,wf _ _ B.sta,by rw [Ab,length_reverse]; lia,λq ny H9 hq hu o9 p9 st9 q9 u9=>?_⟩;have s1:Same (Rs H8 [p,dx,st,un]) (upd (Rs H8 [p,dx,st,un]) q (.tup [.str rr,.ref sc])):=Same.new (Rs.no hq);have s01:=s0.trans s1;have fq:=B.fresh wf hq;have fu:=B.fresh wf hu;have nd:dx≠p:=λz=>by have:=B.own; rw [z,B.ins] at this; cases this
 have ns:dx≠st:=λz=>by have:=B.own; rw [z,B.sta] at this; cases this
 refine k H9 _ s01 ⟨dx,be,x,st,ny,q :: qs,[],p9,o9 _ _ nd ns (wf _ _ B.own),?_,u9,λb u e=>?_,λb hb=>?_,λz=>fu (by simp [z]),C.same s1,⟨⟨sc,Zb,B.cur.same s01⟩,B.stk.same s01⟩,True.intro⟩
 ·rw [st9,reverse_cons,Aj]; rfl
 ·by_cases z:b=q
  ·subst z; rw [Zb] at e; rw [<- e]; exact q9
  ·rw [Zd z] at e
   have hb:=Rs.le b u e;refine o9 b u (λz=>?_) (λz=>?_) hb
   ·rw [z,Rs.out (by simp)] at e; cases e
   ·rw [z,Rs.out (by simp)] at e; cases e
 ·have hb':b∈[p,dx,st,un]\/b=ny:=by
   rcases Ar hb with rfl | hb
   ·exact .inl (by simp)
   ·rcases Ar hb with rfl | hb
    ·exact .inl (by simp)
    ·rcases Ar hb with rfl | hb
     ·exact .inl (by simp)
     ·exact .inr (Af hb)
  rcases hb' with hb | rfl
  ·rw [Zd (λz:b=q=>fq (z ▸ hb)),Rs.out hb]
  ·rw [Zd (λz=>by rw [z,q9] at u9; cases u9),Rs.no hu]
def HallB.deed {CT CS CH:Addr} {H H0 H7:Hp} {p dx be sc st un te th po wo a c:Addr} {qs us:List Addr} {d d':Sd} {S U:List (aa:)} {rr:Str} {Q:VK} {E:XK} (B:HallB CT CS CH H H0 p dx be sc st un qs us d S U) (s:Same H H7) (hl:S.length<=800) (C:ScC CT (Nw H H0 H7) te th po wo a c d')
  (k:∀ H' km,Same H0 km->Ya CT CS CH H' km p d' ((rr,d) :: S) []->Q .non H') :
  ∀ x dy,H7 x=none->H7 dy=none->dy≠x->O3 CS [.ref x,.ref te,.ref th,.ref po,.ref wo] (upd (upd H7 dy (.own x)) x (.ins CS dy [])) (λv H8=>v=.non/\Q6 CH [.ref p,.str rr,.ref x] H8 Q E) E:=by
 intro x dy hx hy kr;refine ⟨x,dy,_,_,_,_,Y,Zb,Y,?_⟩;rw [Wb];have s8:Same H7 (upd (upd H7 dy (.own x)) x (.ins CS dy (a9:))):=Same.add (Same.new hy) hx;have c8:(upd (upd H7 dy (.own x)) x (.ins CS dy (a9:))) x=some (.ins CS dy (a9:)):=Zb;generalize upd (upd H7 dy (.own x)) x (.ins CS dy (X4 (.ref te) (.ref th) (.ref po) (.ref wo)))=H8 at s8 c8 ⊢;have no:∀ {b u},b∈[p,dx,st,un]->H b=some u->Nw H H0 H7 b=none:=λhb e=>by unfold Nw; rw [e]; exact B.out _ hb
 have sN:Same (Nw H H0 H7) (Rs H8 [p,dx,st,un]):=Vk ((Nw.le B.low s).trans s8) λb hb=>by
  rcases Ar hb with rfl | h
  ·exact no hb B.ins
  ·rcases Ar h with rfl | h
   ·exact no hb B.own
   ·rcases Ar h with rfl | h
    ·exact no hb B.sta
    ·exact no hb ((Af h) ▸ B.und)
 exact B.entr (s.trans s8) hl ((Nw.old B.low).trans sN) ⟨dy,te,th,po,wo,a,c,Rs.at c8 (B.fresh s hx),C.same sN⟩ k
def Zr5 {be sc st un cl na sp mt:Addr}:Y0 be sc st un≠Wc cl na sp mt:=λe=>by
 have e1:(Y0 be sc st un).map (·.1)=(Wc cl na sp mt).map (·.1):=by rw [e]
 have e2:(Y0 be sc st un).map (·.1)=(Y0 0 0 0 0).map (·.1):=rfl;have e3:(Wc cl na sp mt).map (·.1)=(Wc 0 0 0 0).map (·.1):=rfl;rw [e2,e3] at e1;exact absurd e1 (d:)
def okK:HO->Prop
 | .ins _ _ _=>False
 | .own _=>False
 | .lst []=>False
 | _=>True
def Gn {α:Type} {g:α->V} {xs:List α} (h:xs≠[]):okK (.lst (xs.map g)):=by
 cases xs with
 | nil=>exact absurd Y h
 | cons _ _=>exact True.intro
def Zsj {M:Lq} {ns:List Int} (td:TD M ns):ns≠[]:=λz=>by
 obtain ⟨n,h1,_,h2⟩:=td.n;have:=td.len;rw [z,length_nil] at this;lia
def HallNew.hall {CT CS CH:Addr} {H H1:Hp} {p dx be sc st un kd th po wo:Addr} {M:Lq} {ns ks:List Int} (td:TD M ns) (h:HallNew CT CS CH H p M ns dx be sc st un kd th po wo ks) (su:st≠un) (s:∀ b u,b≠p->H1 b=some u->H b=some u) (ow:H dx=some (.own p)) (h1:H1 p=none) (hx:H1 dx=none) (h2:H1 st=none) (h3:H1 un=none):∃ H0,Same H1 H0/\Ya CT CS CH H H0 p ⟨M,ns,none,none,ks,λ_=>(1,1)⟩ [] []:=by
 have kr:=Zsj td
 have s1:Same H1 (Rs H [p,dx,st,un]):=λb u e=>Rs.at (s b u (λz=>by rw [z,h1] at e; cases e) e) λz=>by
  rcases Ar z with rfl | z
  ·rw [h1] at e; cases e
  ·rcases Ar z with rfl | z
   ·rw [hx] at e; cases e
   ·rcases Ar z with rfl | z
    ·rw [h2] at e; cases e
    ·rw [Af z,h3] at e; cases e
 have all:∀ {b:Addr} {u:HO},b∈[p,dx,st,un]->H b=some u->u=.ins CH dx (Y0 be sc st un)\/u=.own p\/u=.lst []:=λ{b u} z e=>by
  rcases Ar z with rfl | z
  ·rw [h.ins] at e; exact .inl (Ax e).symm
  ·rcases Ar z with rfl | z
   ·rw [ow] at e; exact .inr (.inl (Ax e).symm)
   ·rcases Ar z with rfl | z
    ·rw [h.sta] at e; exact .inr (.inr (Ax e).symm)
    ·rw [Af z,h.und] at e; exact .inr (.inr (Ax e).symm)
 have kp:∀ {b:Addr} {u:HO},H b=some u->okK u->Rs H [p,dx,st,un] b=some u:=λ{b u} e c=>Rs.at e λz=>by
  rcases all z e with rfl | rfl | rfl <;> exact c
 have ki:∀ {b C d:Addr} {f:List (Str × V)},H b=some (.ins C d f)->(∀ be sc st un,f≠Y0 be sc st un)->Rs H [p,dx,st,un] b=some (.ins C d f):=λ{b C d f} e c=>Rs.at e λz=>by
  rcases all z e with z | z | z <;> cases z
  exact c _ _ _ _ Y
 obtain ⟨dt,cl,na,sp,mt,o,f,B⟩:=h.tent;obtain ⟨ts,r1,r2,r3⟩:=B.rows;obtain ⟨aw,w1,w2⟩:=h.wor;refine ⟨_,s1,dx,be,sc,st,un,[],[],h.ins,ow,h.sta,h.und,Rs.le,λ_=>Rs.out,su,⟨kd,be,th,po,wo,0,0,ki h.scn ?_,kp h.thr True.intro,(λ_ z=>nomatch z),kp h.poo True.intro,(λ_ z=>nomatch z),?_,aw,kp w1 True.intro,λx hx=>kp (w2 x hx) True.intro⟩,True.intro,True.intro⟩
 ·intro be sc st un e
  have e1:=congrArg (List.map (·.1)) e;have e2:(Y0 be sc st un).map (·.1)=(Y0 0 0 0 0).map (·.1):=rfl;rw [e2] at e1;exact absurd e1 (by show (X4 (.int 0) (.int 0) (.int 0) (.int 0)).map (·.1)≠_; decide)
 ·refine ⟨dt,cl,na,sp,mt,o,f,ki B.ins (λ_ _ _ _=>(Zr5).symm),⟨ts,kp r1 (Gn λz=>?_),r2,λk q e=>kp (r3 k q e) True.intro⟩,kp B.names (Gn kr),kp B.spots True.intro,kp B.mates (Gn λz=>?_),λy hy=>kp (B.at' y hy) (Gn λz=>?_)⟩
  ·rw [z,length_nil] at r2
   exact kr (eq_nil_of_length_eq_zero r2)
  ·have:=td.len
   have z:M=[]:=z;rw [z] at this;exact kr (eq_nil_of_length_eq_zero this)
  ·obtain ⟨i,hi,hx⟩:=Y2.mp hy
   have:=Xf.mpr ⟨hi,hx⟩;rw [z] at this;cases this
def Go (ws:List Nat):ws.map nV=(wI ws).map V.int:=by rw [map_map]; rfl
def Zai (ws:List Nat):(wI ws).length=ws.length:=by simp
def Zhg (CT CS CH:Addr):Sp:=λvs H Q _=>∃ (p a:Addr) (H0:Hp) (M:Lq) (ns ks:List Int) (g:Int->Nat × Nat) (ws:List Nat),vs=[.ref p,.str (t:),.ref a]/\Ya CT CS CH H H0 p ⟨M,ns,none,none,ks,g⟩ [] []/\TD M ns/\ns.length<=1000/\H a=some (aq:)/\ws.length<=400/\Pl M ws /\
 ∀ rr H' km,Same H0 km->Ya CT CS CH H' km p ⟨M,ns,some ws,none,ks,g⟩ [(rr,⟨M,ns,none,none,ks,g⟩)] []->Q .non H'
def Ze7 (CT CS CH:Addr):Sp:=λvs H Q _=>∃ (p:Addr) (H0:Hp) (M:Lq) (ns ks:List Int) (g:Int->Nat × Nat) (ws:List Nat) (f:Int->Int) (S U:List (aa:)),vs=[.ref p,.str (D:)]/\Ya CT CS CH H H0 p ⟨M,ns,some ws,some f,ks,g⟩ S U/\S.length<=800 /\
 ∀ rr H' km,Same H0 km->Ya CT CS CH H' km p ⟨M,ns,some ws,none,ks,g⟩ ((rr,⟨M,ns,some ws,some f,ks,g⟩) :: S) []->Q .non H'
def Zid {H:Hp} {po c:Addr} {q:Option (Int->Int)} (h:H po=some (.dK (dS (poS q c)))):DGet H po (.str (D:)) (q.map λ_=>V.ref c):=by
 refine .inl ⟨_,Sum.inr (D:),.inl h,rfl,?_⟩;cases q <;> rfl
def Zo4 {H:Hp} {th a:Addr} {tw:Option (List Nat)} (h:H th=some (.dK (dS (thS tw a)))):DGet H th (.str (t:)) (tw.map λ_=>V.ref a):=by
 refine .inl ⟨_,Sum.inr (t:),.inl h,rfl,?_⟩;cases tw <;> rfl
def Uz:FnScope ["self","name","word","now","threads"] ["self","name","word"] (Zg Za4):=Am
def Fo (T:Txt w K mg t):(a:) 7 t.fR t.f8 ["self","name","word"] (Zhg t.aa t.ag t.ae):=by
 refine T.bp.F.aR Uz (b:)
 ·obtain ⟨p,a,H0,M,ns,ks,g,ws,rfl,⟨dx,be,sc,st,un,qs,us,B⟩,td,yc,ha,zf,hP,k⟩:=h
  obtain ⟨kd,te,th,po,wo,a0,c0,i0,C0⟩:=B.cur;have C:=C0.same B.low;have i1:=B.low _ _ i0;have hu:=Xb hr;refine ⟨_,(Ze (Zs (i:=3) Uz.nd Y (Or.inl Y) (Zp (pv 0) Y))
   (Ze (Z8 (pcT (V6 T) hr T.aY (Za (pv 3) (v:))))
   (Ze (Z8 (pcT (Oe T) hr T.bw (Za (Zp (pv 3) rfl) (U:))))
   (Ze (Z8 (pcT (Of T) hr T.bz (U:)))
   (Ze (Zs (i:=4) Uz.nd rfl (g:) (pcT (V5 T) hr T.bu (Za (Zp (pv 3) rfl) (Za (pv 1) (Za (Ys X3 (by rfl) T.b6 PySem.Pv.boot_list (U:)) Zc)))))
   (Zh (Z8 (Yf (pv 0) T.ac T.ap.m (Wx T) (ai:) T.ap.b .nil Z1 (Za (pcT (Qt T) hr T.bn (Za (Zj Zls (Yr (Za Z5 (v:))) (pv 2)) Zc)) (Za (Je T.bP (X9 T) (ai:) rfl T.bM T.aC.b .nil Z1 (Za (Zp (pv 3) rfl) (Za (pv 4) (Za (Zp (pv 3) rfl) (Za (Zp (pv 3) rfl) Zc))))) Zc)))))))))),?_⟩
  refine ⟨_,Y,p,_,dx,_,.ref sc,Y,B.ins,T.ac,T.ah,Y,?_⟩;refine ⟨_,Y,_,Y,sc,kd,th,po,_,_,Str.ofString "most",_,_,rfl,i1,C.thr,C.poo,by decide +kernel,by decide,by decide +kernel,rfl,rfl,λH1 s1=>?_⟩;refine ⟨_,Y,sc,_,kd,_,.ref te,Y,s1 _ _ i1,T.af,T.al,Y,_,Y,te,a,M,ns,wI ws,Y,C.ten.same s1,td.len.symm,(by rw [<- Go]; exact s1 _ _ ha),by rw [Zai]; lia,λH2 s2=>⟨λ_=>?_,λe=>absurd (Zc6.mpr hP) (by rw [e]; decide)⟩⟩;have l9:=s1.trans s2;refine ⟨_,Y,a,_,Y,l9 _ _ ha,λ_=>?_,λz=>absurd z (by rw [Ab]; lia)⟩;have uk:∀ i∈ws,i < 1000:=λi hi=>by
   obtain ⟨m,hm⟩:=hP.has i hi
   have:=(Aa hm).1
   have:=td.len
   lia
  refine ⟨_,Y,sc,_,kd,_,.ref th,Y,l9 _ _ i1,T.af,T.aj,Y,_,Y,_,Y,a,_,Y,.inl (SqL.of (l9 _ _ ha)),λw' xp=>?_⟩;have s3:Same H2 (upd H2 w' (aq:)):=Same.new xp;have w3:(upd H2 w' (aq:)) w'=some (aq:):=Zb;generalize upd H2 w' (.lst (ws.map nV))=H3 at s3 w3 ⊢;refine ⟨th,Sum.inr (t:),.ref w',[],rfl,s3 _ _ (l9 _ _ C.thr),Az _,λw6 vt=>?_⟩;have s4:Same H3 (upd H3 w6 (.dK (dS (thS (some ws) w')))):=Same.new vt;have h4:(upd H3 w6 (.dK (dS (thS (some ws) w')))) w6=some (.dK (dS (thS (some ws) w'))):=Zb;show tSeq _ _ _ _ (upd H3 w6 (.dK (dS (thS (some ws) w'))));generalize upd H3 w6 (.dK (dS (thS (some ws) w')))=H4 at s4 h4 ⊢;have nz:=l9.trans s3;have m6:=nz.trans s4;have w4:=s4 _ _ w3;refine ⟨_,Y,p,dx,_,Y,m6 _ _ B.ins,Y,?_⟩;refine ⟨_,Y,(bb:),λtm lm=>?_⟩;have s5:Same H4 (upd H4 tm (.lst [V.str (Str.ofString "lay"),V.str (t:)])):=Same.new lm;have c5:(upd H4 tm (.lst [V.str (Str.ofString "lay"),V.str (t:)])) tm=some (.lst [V.str (Str.ofString "lay"),V.str (t:)]):=Zb;generalize upd H4 tm (.lst [V.str (Str.ofString "lay"),V.str (Str.ofString "most")])=H5 at s5 c5 ⊢;refine ⟨_,Y,tm,a,_,_,Y,Y,c5,s5 _ _ (m6 _ _ ha),by rw [Ab,sizeLine_eq]; show 2 + ws.length<=_; lia,λc hc=>?_⟩;have s6:=Same.new (o:=.lst ([V.str (Str.ofString "lay"),V.str (t:)] ++ ws.map nV)) hc;have hit:∀ y∈([.inl (Str.ofString "lay"),.inl (t:)] ++ ws.map (λi=>.inr (i:Int)):List (Str ⊕ Int)),y=.inl (Str.ofString "lay")\/y=.inl (t:)\/∃ i∈ws,y=.inr (i:Int):=λy hy=>by
   rcases mem_append.mp hy with z | z
   ·rcases Ar z with rfl | z
    ·exact .inl Y
    ·exact .inr (.inl (Af z))
   ·obtain ⟨i,hi,rfl⟩:=mem_map.mp z
    exact .inr (.inr ⟨i,hi,Y⟩)
  refine ⟨c,[.inl (Str.ofString "lay"),.inl (t:)] ++ ws.map (λi=>.inr (i:Int)),rfl,by rw [Zb,Aj,map_map]; rfl,by rw [Ae,Ab]; show 2 + ws.length<=900; lia,λy hy=>?_,?_,λH7 s7=>?_⟩
  ·rcases hit y hy with rfl | rfl | ⟨i,hi,rfl⟩
   ·exact True.intro
   ·exact True.intro
   ·exact ⟨Int.natCast_nonneg _,Int.lt_trans (Int.ofNat_lt.mpr (uk i hi)) (d:)⟩
  ·have:=Zkl (B:=60) (l:=[.inl (Str.ofString "lay"),.inl (t:)] ++ ws.map (λi=>.inr (i:Int))) λy hy=>by
    rcases hit y hy with rfl | rfl | ⟨i,hi,rfl⟩
    ·show (Str.ofString "lay").length<=60
     decide
    ·show (t:).length<=60
     decide
    ·exact Zbn (Int.natCast_nonneg _) (Int.lt_trans (Int.ofNat_lt.mpr (uk i hi)) (d:))
   have hl:([.inl (Str.ofString "lay"),.inl (t:)] ++ ws.map (λi=>.inr (i:Int)):List (Str ⊕ Int)).length=2 + ws.length:=by rw [Ae,Ab]; rfl
   rw [hl] at this ⊢;lia
  have p4:=s5.trans (s6.trans s7);have ur:=m6.trans p4;have i7:=ur _ _ i1;generalize Txt.join (Str.ofString " ") _=rr;refine ⟨_,Y,sc,_,kd,_,.ref te,Y,i7,T.af,T.al,Y,_,Y,_,Y,sc,_,kd,_,.ref po,Y,i7,T.af,T.ak,Y,_,Y,sc,_,kd,_,.ref wo,Y,i7,T.af,T.aq,Y,?_⟩;have O:=Nw.old (H7:=H7) B.low;have C7:=C0.same O;exact B.deed (d':=⟨M,ns,some ws,none,ks,g⟩) ur (Az _) (a:=w') (c:=c0) ⟨Nw.new (nz.free vt) (p4 _ _ h4),λy hy=>(by cases hy; exact Nw.new (l9.free xp) (p4 _ _ w4)),C7.poo,C7.cnt,C7.ten,C7.wor⟩ (k rr)
def Vp:FnScope ["self","name","now","threads","pools"] ["self","name"] (Zg Fl):=Am
def Gh (T:Txt w K mg t):(a:) 3 t.eK t.fo ["self","name"] (Ze7 t.aa t.ag t.ae):=by
 refine T.aV.F.aR Vp (b:)
 ·obtain ⟨p,H0,M,ns,ks,g,ws,f,S,U,rfl,⟨dx,be,sc,st,un,qs,us,B⟩,hS,k⟩:=h
  obtain ⟨kd,te,th,po,wo,a0,c0,i0,C0⟩:=B.cur;have C:=C0.same B.low;have i1:=B.low _ _ i0;have hu:=Xb hr;refine ⟨_,(Ze (Zs (i:=2) Vp.nd Y (Or.inl Y) (Zp (pv 0) Y))
   (Ze (Z9 (PW.pt (K5 (J4 (Q0 hu (pv 1) (Zp (pv 2) rfl)) (am:)) (Oa (J4 (Q0 hu (pv 1) (Zp (pv 2) rfl)) (am:))))) Yy Zz)
   (Ze (Zk7 (i:=3) (j:=4) rfl Vp.nd rfl rfl (d:) rfl rfl (Za (pcT (Uu T) hr T.bo (Za (Zp (pv 2) rfl) (v:))) (Za (pcT (Uu T) hr T.bo (Za (Zp (pv 2) rfl) (v:))) Zc)) (by rfl))
   (Zh (Z8 (Yf (pv 0) T.ac T.ap.m (Wx T) (ai:) T.ap.b .nil Z1 (Za (pcT (Qt T) hr T.bn (Za (Yr (Za Z5 (v:))) Zc)) (Za (Je T.bP (X9 T) (ai:) rfl T.bM T.aC.b .nil Z1 (Za (Zp (pv 2) rfl) (Za (pv 3) (Za (pv 4) (Za (Zp (pv 2) rfl) Zc))))) Zc)))))))),?_⟩
  refine ⟨_,Y,p,_,dx,_,.ref sc,Y,B.ins,T.ac,T.ah,Y,?_⟩;refine ⟨_,Y,_,Y,sc,_,kd,_,.ref th,Y,i1,T.af,T.aj,Y,th,_,Y,.inl ⟨_,Sum.inr (D:),.inl C.thr,rfl,rfl⟩,_,rfl,iteT ⟨_,rfl,_,rfl,sc,_,kd,_,.ref po,rfl,i1,T.af,T.ak,rfl,po,_,rfl,Zid C.poo,_,rfl,iteF ?_⟩⟩;refine ⟨_,Y,sc,_,kd,_,.ref th,Y,i1,T.af,T.aj,Y,_,Y,th,Str.ofString "part",thS (some ws) a0,rfl,C.thr,(by show 1<=900; decide),(by show ([Str.ofString "most"]:List Str).Nodup; decide),λw6 H1 s1 vt h1=>?_⟩;refine ⟨_,Y,sc,_,kd,_,.ref po,Y,s1 _ _ i1,T.af,T.ak,Y,_,Y,po,Str.ofString "part",poS (some f) c0,rfl,s1 _ _ C.poo,(by show 1<=900; decide),(by show ([Str.ofString "part"]:List Str).Nodup; decide),λxk H4 s4 qe h4=>?_⟩;have h1:H1 w6=some (.dK (dS (thS (some ws) a0))):=h1;have h4:H4 xk=some (.dK (dS (poS none c0))):=h4;have m6:=s1.trans s4;refine ⟨_,_,Y,_,Y,p,dx,_,Y,m6 _ _ B.ins,Y,?_⟩;refine ⟨_,Y,(bb:),λtm lm=>?_⟩;have s6:=Same.new (o:=.lst [V.str (Str.ofString "lift"),V.str (D:)]) lm;refine ⟨tm,[.inl (Str.ofString "lift"),.inl (D:)],rfl,Zb,(by show 2<=900; decide),λy hy=>?_,(d:),λH7 s7=>?_⟩
  ·rcases Ar hy with rfl | hy
   ·exact True.intro
   ·rw [Af hy]; exact True.intro
  have p4:=s6.trans s7;have ur:=m6.trans p4;have i7:=ur _ _ i1;generalize Txt.join (Str.ofString " ") _=rr;refine ⟨_,Y,sc,_,kd,_,.ref te,Y,i7,T.af,T.al,Y,_,Y,_,Y,_,Y,sc,_,kd,_,.ref wo,Y,i7,T.af,T.aq,Y,?_⟩;have O:=Nw.old (H7:=H7) B.low;have C7:=C0.same O;exact B.deed (d':=⟨M,ns,some ws,none,ks,g⟩) ur hS (a:=a0) (c:=c0) ⟨Nw.new vt ((s4.trans p4) _ _ h1),C7.wrd,Nw.new (s1.free qe) (p4 _ _ h4),(λ_ z=>nomatch z),C7.ten,C7.wor⟩ (k rr)
noncomputable def cntS (g:Int->Int) (x:Int):Str:=(Str.empty ++ (toString x:Str)) ++ (Str.ofString ":") ++ figS (g x)
def Zb3:Sp:=λvs H Q _=>∃ (c:Addr) (ks:List Int) (g:Int->Int),vs=[.ref c]/\H c=some (.dK (dI ks g))/\ks.length < 64/\(∀ x∈ks,0<=x/\x<=9999/\0<=g x/\g x < 1000000000000000000000000000000000000000000000000000000000000)/\∀ (H':Hp) (r:Str),Same H H'->Asc r->r.length<=5000->Q (.str r) H'
def Ziz {g:Int->Int} {x:Int} (h:0<=x/\x<=9999/\0<=g x/\g x < 1000000000000000000000000000000000000000000000000000000000000):(cntS g x).length<=71:=by
 unfold cntS;rw [Op,Op,Op];have h1:=Zbn h.2.2.1 h.2.2.2;have h2:(toString x:Str).length<=10:=PySem.W.KT.len_num h.1 (by lia);have h3:Str.empty.length=0:=rfl;have h4:(Str.ofString ":").length=1:=by decide
 lia
def Zqx (g:Int->Int) (x:Int):Asc (cntS g x):=by
 unfold cntS;refine (Asc.app (Asc.app (λc hc=>?_) (Asc.num x)) (λc hc=>?_)).app (Zqw _)
 ·have hc:c∈([]:List Nat):=hc; cases hc
 ·revert c hc; show ∀ c∈[58],c < 128; decide
def Zb9:FnScope ["counts"] ["counts"] (Zg O8):=Am
def Zcl (T:Txt w K mg t):(a:) 2 t.dc t.dk ["counts"] Zb3:=by
 refine T.du.F.aR Zb9 (b:)
 ·obtain ⟨c,ks,g,rfl,hc,hl,hk,k⟩:=h
  have hu:=Xb hr;refine ⟨_,(Zh (Zl (X5 PySem.F.plainAttrs_str PySem.F.slot_str_join PySem.F.type_str_join Zio Z5 (Za (Yv (ts:=["seam"]) (fv:=[("counts",0)]) (c:) rfl (Yx (Zn (Qc rfl) (by rfl) T.bQ PyProof.Rows.boot_sorted (Za (pv 0) Zc))) (λ_ _ _ _=>(Zk (i:=0) (show List.Nodup (["seam","counts"]:List Str) from by decide +kernel) rfl (g:) (I:))) (ah:) (N:) (λ_ _ _ _ _ _=>Yj (Zig (Za9 (pv 0) (Za8 (Zrs (pcT (Zbc T) hr T.ee (Za (Wy hu (pv 1) (pv 0) (j:)) Zc)) Zlb)))))) Zc)))),?_⟩;refine ⟨Y,_,Y,c,_,ks,Y,.inl hc,(by unfold dI; rw [map_map]; rfl),hl,λl1 k8 l7 u6 u5=>?_⟩;have s1:Same H (upd H l1 (bc:)):=Same.new l7;have h1:(upd H l1 (bc:)) l1=some (bc:):=Zb;generalize upd H l1 (.lst (k8.map V.int))=H1 at s1 h1 ⊢;have hol:k8.length < 64:=by rw [u6.length_eq]; exact hl
  refine ⟨l1,Y,⟨_,SqL.of h1⟩,λD hD=>?_⟩;refine Ym (xs:=k8.map V.int) (λi σ H6=>∃ v,σ=[v,some (.ref c)]/\Same H1 H6/\H6 D=some (.lst (((k8.take i).map (cntS g)).map V.str))) (ag:) ?_ ?_ ?_
  ·rintro i σ H6 _ ⟨v,rfl,s6,_⟩
   exact SqL.of (s6 _ _ h1)
  ·rintro i y σ H6 hy ⟨v,rfl,s6,h6⟩
   rw [Ah] at hy;obtain ⟨x,hx,rfl⟩:=Option.map_eq_some_iff.mp hy;have qj:x∈ks:=u6.mem_iff.mp (Au hx);have ok:=hk x qj;have hx10:(toString x:Str).length<=10:=PySem.W.KT.len_num ok.1 (by lia);dsimp only [Zo,tYes];rw [if_pos rfl];have yw:x.natAbs.log2 < 1920:=by
    rcases eq_zero_or_pos x.natAbs with z | z
    ·rw [z]; decide
    ·exact (Nat.log2_lt (by lia)).mpr (Ag (by lia:x.natAbs < 2 ^ 20) (Nat.pow_le_pow_right (d:) (d:)))
   have cl:=Ziz ok;have e58:(Str.ofString ":").length=1:=by decide
   have l1':(Str.empty ++ (toString x:Str)).length<=10:=by rw [Op]; have e:Str.empty.length=0:=rfl; lia
   have tm:((Str.empty ++ (toString x:Str)) ++ (Str.ofString ":")).length<=11:=by rw [Op]; lia
   refine ⟨_,Y,x,Y,yw,by rw [sizeLine_eq]; lia,by rw [sizeLine_eq]; exact Nat.le_trans tm (d:),?_⟩;refine ⟨_,Y,_,Y,c,_,Y,Gv (s6 _ _ (s1 _ _ hc)) qj,g x,Y,ok.2.2.1,ok.2.2.2,λH7 s7=>?_⟩;have fl:=Zbn ok.2.2.1 ok.2.2.2;refine ⟨_,Y,by rw [sizeLine_eq]; lia,(show (cntS g x).length<=sizeLine by rw [sizeLine_eq]; lia),(show (cntS g x).length<=sizeLine by rw [sizeLine_eq]; lia),?_⟩;refine ⟨_,s7 _ _ h6,by rw [Ab,Ab,Ai]; exact Zt (by lia),_,Y,Same.add (s6.trans s7) hD,?_⟩;rw [Zb,Aw,hx,Aj,Aj];rfl
  ·rintro σ H6 ⟨v,rfl,s6,h6⟩
   rw [Ab,take_length] at h6;have sm:=Zh3 (B:=71) (l:=k8.map (cntS g)) λy hy=>by
    obtain ⟨x,hx,rfl⟩:=mem_map.mp hy
    exact Ziz (hk x (u6.mem_iff.mp hx))
   have jl:=Zn5 (Str.ofString " ") (k8.map (cntS g));have e1:(Str.ofString " ").length=1:=by decide
   rw [Ab] at sm jl;rw [e1] at jl;refine ⟨_,D,k8.map (cntS g),Y,Y,SqL.of h6,by decide,by rw [Ab]; lia,k _ _ (s1.trans s6) (Asc.joinS (λc hc=>by have hc:c∈[32]:=hc; rw [Af hc]; decide) λy hy=>?_) (by lia)⟩;obtain ⟨x,hx,rfl⟩:=mem_map.mp hy;exact Zqx g x
def Ze5 (CT CS CH:Addr):Sp:=λvs H Q _=>∃ (p c:Addr) (H0:Hp) (M:Lq) (ns ks:List Int) (g:Int->Nat × Nat) (ws:List Nat) (f:Int->Int) (S U:List (aa:)),vs=[.ref p,.str (D:),.ref c]/\Ya CT CS CH H H0 p ⟨M,ns,some ws,none,ks,g⟩ S U/\TD M ns/\ns.length < 64/\S.length<=800/\X7 H c ns f/\OkC M ns f/\(∀ y∈keys ns ns.length,f y < 1000000000000000000000000000000000000000000000000000000000000) /\
 ∀ rr H' km,Same H0 km->Ya CT CS CH H' km p ⟨M,ns,some ws,some f,ks,g⟩ ((rr,⟨M,ns,some ws,none,ks,g⟩) :: S) []->Q .non H'
def Zd0 (CT CS CH:Addr):Sp:=λvs H Q _=>∃ (p:Addr) (x:Int) (H0:Hp) (d:Sd) (S U:List (aa:)),vs=[.ref p,.int x,.int 1000000000000000000000000000000000000000000000000000000000000,.int 1]/\Ya CT CS CH H H0 p d S U/\TD d.M d.ns/\S.length<=800/\SwK d.M d.ns d.ks/\d.ns.length < 64/\x∈d.ks /\
 ∀ rr H' km,Same H0 km->Ya CT CS CH H' km p ⟨d.M,d.ns,d.tw,d.q,d.ks,putG d.g x (w:)⟩ ((rr,d) :: S) []->Q .non H'
def Zpa {M:Lq} {ns ks:List Int} (td:TD M ns) (sw:SwK M ns ks) {x:Int} (h:x∈ks):x∈keys ns ns.length/\Yd ns x≠"rim":=by
 obtain ⟨p,j,h1,h2⟩:=(sw.mem x).mp h;have hp:p < ns.length:=(Aa h2).1;have hk:x∈keys ns ns.length:=Y2.mpr ⟨p,hp,h2⟩;refine ⟨hk,λe=>?_⟩;unfold Yd at e
 rcases Vy td hk with ⟨a,ea,_,ma⟩ | ⟨a,b,kz,eb,_⟩
 ·have:=Xf.mpr ⟨hp,h2⟩
  rw [ea,mem_singleton] at this;subst this;rw [h1] at ma; cases ma
 ·rw [eb] at e
  dsimp only at e;split at e <;> exact absurd e (d:)
def Vo:FnScope ["self","name","counts","now","pools"] ["self","name","counts"] (Zg Fj):=Am
def Gg (T:Txt w K mg t):(a:) 5 t.eJ t.fk ["self","name","counts"] (Ze5 t.aa t.ag t.ae):=by
 refine T.aU.F.aR Vo (b:)
 ·obtain ⟨p,c,H0,M,ns,ks',g,ws,f,S,U,rfl,⟨dx,be,sc,st,un,qs,us,B⟩,td,h64,hS,⟨ks,hc,ky⟩,okc,gb,k⟩:=h
  obtain ⟨kd,te,th,po,wo,a0,c0,i0,C0⟩:=B.cur;have C:=C0.same B.low;have i1:=B.low _ _ i0;have hu:=Xb hr;refine ⟨_,(Ze (Zs (i:=3) Vo.nd Y (Or.inl Y) (Zp (pv 0) Y))
   (Ze (Z8 (pcT (V6 T) hr T.aY (Za (pv 3) (v:))))
   (Ze (Z8 (pcT (Zcj T) hr T.dn (Za (Zp (pv 3) rfl) (U:))))
   (Ze (Zs (i:=4) Vo.nd rfl (g:) (pcT (V5 T) hr T.bu (Za (Zp (pv 3) rfl) (Za (pv 1) (Za (Ys Wt (by rfl) T.dz PySem.Pv.boot_dict (U:)) Zc)))))
   (Zh (Z8 (Yf (pv 0) T.ac T.ap.m (Wx T) (ai:) T.ap.b .nil Z1 (Za (pcT (Qt T) hr T.bn (Za (Yr (Za Z5 (Za (pv 1) (Za (pcT (Zcl T) hr T.du (U:)) Zc)))) Zc)) (Za (Je T.bP (X9 T) (ai:) rfl T.bM T.aC.b .nil Z1 (Za (Zp (pv 3) rfl) (Za (Zp (pv 3) rfl) (Za (pv 4) (Za (Zp (pv 3) rfl) Zc))))) Zc))))))))),?_⟩
  refine ⟨_,Y,p,_,dx,_,.ref sc,Y,B.ins,T.ac,T.ah,Y,?_⟩;refine ⟨_,Y,_,Y,sc,kd,th,po,_,_,Str.ofString "part",_,_,rfl,i1,C.thr,C.poo,by decide +kernel,by decide,by decide +kernel,rfl,rfl,λH1 s1=>?_⟩;refine ⟨_,Y,sc,_,kd,_,.ref te,Y,s1 _ _ i1,T.af,T.al,Y,_,Y,te,c,M,ns,f,Y,C.ten.same s1,td,h64,⟨ks,s1 _ _ hc,ky⟩,okc,λH2 s2=>?_⟩;have l9:=s1.trans s2;refine ⟨_,Y,sc,_,kd,_,.ref po,Y,l9 _ _ i1,T.af,T.ak,Y,_,Y,_,Y,c,_,Y,.inl (l9 _ _ hc),λw' xp=>?_⟩;have s3:Same H2 (upd H2 w' (.dK (dI ks f))):=Same.new xp;have w3:(upd H2 w' (.dK (dI ks f))) w'=some (.dK (dI ks f)):=Zb;generalize upd H2 w' (.dK (dI ks f))=H3 at s3 w3 ⊢;refine ⟨po,Sum.inr (D:),.ref w',[],rfl,s3 _ _ (l9 _ _ C.poo),Az _,λxk qe=>?_⟩;have s4:Same H3 (upd H3 xk (.dK (dS (poS (some f) w')))):=Same.new qe;have h4:(upd H3 xk (.dK (dS (poS (some f) w')))) xk=some (.dK (dS (poS (some f) w'))):=Zb;show tSeq _ _ _ _ (upd H3 xk (.dK (dS (poS (some f) w'))));generalize upd H3 xk (.dK (dS (poS (some f) w')))=H4 at s4 h4 ⊢;have nz:=l9.trans s3;have m6:=nz.trans s4;have w4:=s4 _ _ w3;refine ⟨_,Y,p,dx,_,Y,m6 _ _ B.ins,Y,?_⟩;have ye:∀ y∈ks,0<=y/\y<=9999/\0<=f y/\f y < 1000000000000000000000000000000000000000000000000000000000000:=λy hy=>by
   have nk:=ky.mem_iff.mp hy
   obtain ⟨i,_,hi⟩:=Y2.mp nk
   exact ⟨(td.rng i y hi).1,(td.rng i y hi).2,okc.nn y nk,gb y nk⟩
  have lp:ks.length < 64:=by have h1:=ky.length_eq; have h2:=Oh ns ns.length; lia
  refine ⟨_,Y,_,Y,c,ks,f,Y,m6 _ _ hc,lp,ye,λH5 r5 s5 a5 l5=>?_⟩;refine ⟨(by show 3<=sizeLine; decide),λtm lm=>?_⟩;have s6:=Same.new (o:=.lst [V.str (Str.ofString "pour"),V.str (D:),V.str r5]) lm;refine ⟨tm,[.inl (Str.ofString "pour"),.inl (D:),.inl r5],rfl,Zb,(by show 3<=900; decide),λy hy=>?_,?_,λH7 s7=>?_⟩
  ·rcases Ar hy with rfl | hy
   ·exact True.intro
   ·rcases Ar hy with rfl | hy
    ·exact True.intro
    ·rw [Af hy]; exact True.intro
  ·show (4 + (4 + (r5.length + 0))) + 3<=1048576
   lia
  have p4:=s5.trans (s6.trans s7);have ur:=m6.trans p4;have i7:=ur _ _ i1;generalize Txt.join (Str.ofString " ") _=rr;refine ⟨_,Y,sc,_,kd,_,.ref te,Y,i7,T.af,T.al,Y,_,Y,sc,_,kd,_,.ref th,Y,i7,T.af,T.aj,Y,_,Y,_,Y,sc,_,kd,_,.ref wo,Y,i7,T.af,T.aq,Y,?_⟩;have O:=Nw.old (H7:=H7) B.low;have C7:=C0.same O;exact B.deed (d':=⟨M,ns,some ws,some f,ks',g⟩) ur hS (a:=a0) (c:=w') ⟨C7.thr,C7.wrd,Nw.new (nz.free qe) (p4 _ _ h4),λy hy=>(by cases hy; exact ⟨ks,Nw.new (l9.free xp) (p4 _ _ w4),ky⟩),C7.ten,C7.wor⟩ (k rr)
def Wv:FnScope ["self","seam","top","bottom","now","parts","worths","text"] ["self","seam","top","bottom"] (Zg Ky):=Am
def Kf (T:Txt w K mg t):(a:) 3 t.dF t.dU ["self","seam","top","bottom"] (Zd0 t.aa t.ag t.ae):=by
 refine T.aO.F.aR Wv (b:)
 ·obtain ⟨p,x,H0,d,S,U,rfl,⟨dx,be,sc,st,un,qs,us,B⟩,td,hS,sw,h64,hx,k⟩:=h
  obtain ⟨kd,te,th,po,wo,a0,c0,i0,C0⟩:=B.cur;have C:=C0.same B.low;have i1:=B.low _ _ i0;have hu:=Xb hr;refine ⟨_,(Ze (Zs (i:=4) Wv.nd Y (Or.inl Y) (Zp (pv 0) Y))
   (Ze (Z9 (Zq Yw (Yf (Zp (pv 4) rfl) T.ai T.ao.m (W3 T) (ai:) T.ao.b .nil Z1 (v:)) Z5 (Zr _)) Yy Zz)
   (Ze (Zs (i:=5) Wv.nd rfl (g:) (pcT (U0 T) hr T.bV (Za (pv 2) (Za (pv 3) Zc))))
   (Ze (Z8 (pcT (Kd T) hr T.bX (Za (pv 5) Zc)))
   (Ze (Zs (i:=6) Wv.nd rfl (g:) (pcT (V5 T) hr T.bu (Za (Zp (pv 4) rfl) (Za (pv 1) (Za (pv 5) Zc)))))
   (Ze (Zs (i:=7) Wv.nd rfl (g:) (Zig (Za8 (Za9 (pv 1) (Za8 (Za9 (Zv Yp (pv 5) Zf (j:)) (Za8 (Za9 (Zv Yp (pv 5) Zf (j:)) Zlb))))))))
   (Zh (Z8 (Yf (pv 0) T.ac T.ap.m (Wx T) (ai:) T.ap.b .nil Z1 (Za (pv 7) (Za (Je T.bP (X9 T) (ai:) rfl T.bM T.aC.b .nil Z1 (Za (Zp (pv 4) rfl) (Za (Zp (pv 4) rfl) (Za (Zp (pv 4) rfl) (Za (pv 6) Zc))))) Zc))))))))))),?_⟩
  refine ⟨_,Y,p,_,dx,_,.ref sc,Y,B.ins,T.ac,T.ah,Y,?_⟩;obtain ⟨hk,hrim⟩:=Zpa td sw hx;obtain ⟨dt,cl,na,sp,mt,o,f,BT⟩:=id C.ten;refine ⟨_,Y,sc,_,kd,_,.ref te,Y,i1,T.af,T.al,Y,te,dt,_,Y,BT.ins,Yu _ _ _ _,_,Y,te,d.M,d.ns,x,Y,C.ten,td,λ_ H1 s1=>?_,λz=>absurd hk z⟩;refine ⟨Y,_,Y,?_⟩;rw [decide_eq_false (λz=>hrim (by injection z))];refine iteF ?_;refine ⟨_,Y,_,Y,_,_,Y,λm n ea eb _ _=>?_,λz=>absurd z (by lia)⟩;have ea:m=1000000000000000000000000000000000000000000000000000000000000:=by lia
  have eb:n=1:=by lia
  subst ea eb;refine ⟨Zly (d:) (by decide +kernel),λq hq=>?_⟩;rw [show lowN 1000000000000000000000000000000000000000000000000000000000000 1=(w:) by decide +kernel];have s2:Same H1 (upd H1 q (tp (w:))):=Same.new hq;have q2:(upd H1 q (tp (w:))) q=some (tp (w:)):=Zb;generalize hv:((1000000000000000000000000000000000000000000000000000000000000,1):Nat × Nat)=v at *;generalize upd H1 q (tp v)=H2 at s2 q2 ⊢;have l9:=s1.trans s2;refine ⟨_,Y,q,v,Y,q2,λ_ _=>?_,λz=>absurd z (by rw [<- hv]; decide +kernel)⟩;obtain ⟨aw,v1,v2⟩:=C0.wor;have w1:=B.low _ _ v1;have lp:d.ks.length<=900:=by have:=sw.len td; lia
  refine ⟨_,Y,sc,_,kd,_,.ref wo,Y,l9 _ _ i1,T.af,T.aq,Y,_,Y,_,Y,wo,Sum.inl x,.ref q,wD d.ks aw,Y,l9 _ _ w1,by rw [U1]; exact lp,λwc yq=>?_⟩;have s3:Same H2 (upd H2 wc (.dK (putK (wD d.ks aw) (Sum.inl x) (V.ref q)))):=Same.new yq;have w3:(upd H2 wc (.dK (putK (wD d.ks aw) (Sum.inl x) (V.ref q)))) wc=some (.dK (putK (wD d.ks aw) (Sum.inl x) (V.ref q))):=Zb;generalize upd H2 wc (.dK (putK (wD d.ks aw) (Sum.inl x) (V.ref q)))=H3 at s3 w3 ⊢;have nz:=l9.trans s3;have q3:=s3 _ _ q2;have xr:=td.rng;obtain ⟨i,hi,xn⟩:=Y2.mp hk;have xr:=xr i x xn;have x1:x.natAbs.log2 < 1920:=Nat.lt_trans (log2_lt (k:=14) (by show _ < 16384; lia) (d:)) (d:);have x2:(toString x:Str).length<=60:=Zco xr.1 (Int.lt_of_le_of_lt xr.2 (d:));have a1:((v.1:Nat):Int).natAbs.log2 < 1920:=by rw [<- hv]; decide +kernel
  have a2:(toString ((v.1:Nat):Int):Str).length<=61:=by rw [<- hv]; decide +kernel
  have b1:((v.2:Nat):Int).natAbs.log2 < 1920:=by rw [<- hv]; decide +kernel
  have b2:(toString ((v.2:Nat):Int):Str).length<=61:=by rw [<- hv]; decide +kernel
  have l0:Str.empty.length=0:=rfl;have l1:(Str.ofString "weigh ").length=6:=by decide
  have l2:(Str.ofString " ").length=1:=by decide
  have l3:(Str.ofString "/").length=1:=by decide
  have ln:∀ {n:Nat},n<=1000->n<=sizeLine:=λh=>by rw [sizeLine_eq]; lia
  refine ⟨ln ?_,_,Y,x,Y,x1,ln ?_,ln ?_,_,Y,q,_,_,_,Y,Y,SqT.of q3,Y,v.1,Y,a1,ln ?_,ln ?_,_,Y,q,_,_,_,Y,Y,SqT.of q3,Y,v.2,Y,b1,ln ?_,ln ?_,?_⟩
  iterate 7
   ·simp only [Str.length_append]
    lia
  try dsimp only [Zo]
  generalize (_:Str) ++ _=rr;have i7:=nz _ _ i1;refine ⟨_,Y,p,dx,_,Y,nz _ _ B.ins,Y,?_⟩;refine ⟨_,Y,_,Y,sc,_,kd,_,.ref te,Y,i7,T.af,T.al,Y,_,Y,sc,_,kd,_,.ref th,Y,i7,T.af,T.aj,Y,_,Y,sc,_,kd,_,.ref po,Y,i7,T.af,T.ak,Y,_,Y,?_⟩;have O:=Nw.old (H7:=H3) B.low;have C7:=C0.same O;subst hv;refine B.deed (d':=⟨d.M,d.ns,d.tw,d.q,d.ks,putG d.g x _⟩) nz hS (a:=a0) (c:=c0) ⟨C7.thr,C7.wrd,C7.poo,C7.cnt,C7.ten,?_⟩ (k rr);have W:=WAt.put (d:=wc) (H:=upd (Nw H H0 H3) wc (.dK (wD d.ks aw))) (ad:=aw) (q:=q) (v:=(w:)) (g:=d.g) Zb (λy hy=>?_) (by rw [Zd]; exact Nw.new (s1.free hq) q3; exact λz=>by rw [z] at q3; rw [q3] at w3; cases w3) hx
  ·rw [Wb] at W
   have e:upd (Nw H H0 H3) wc (.dK (putK (wD d.ks aw) (Sum.inl x) (V.ref q)))=Nw H H0 H3:=by
    funext b;by_cases z:b=wc
    ·subst z; rw [Zb]; exact (Nw.new (l9.free yq) w3).symm
    ·rw [Zd z]
   rw [e] at W;exact W
  ·rw [Zd (λz=>by have:=B.low _ _ (v2 y hy); rw [z,l9.free yq] at this; cases this)]
   exact Nw.old B.low _ _ (v2 y hy)
def Zof (l:List Nat):(l.map nV).all Vj=true:=by rw [all_eq_true]; intro v hv; obtain ⟨x,_,rfl⟩:=mem_map.mp hv; rfl
def Ziu {x y:Nat}:eqV (nV y) (nV x)=decide (y=x):=by
 show decide ((y:Int)=(x:Int))=_;by_cases z:y=x
 ·subst z; simp
 ·rw [decide_eq_false z,decide_eq_false (by lia)]
def Zqe {x:Nat} {l:List Nat}:inV (nV x) (l.map nV)=decide (x∈l):=by
 unfold inV;rw [any_map,Bool.eq_iff_iff,any_eq_true,decide_eq_true_eq];constructor
 ·rintro ⟨y,hy,e⟩
  have e:eqV (nV y) (nV x)=true:=e;rw [Ziu,decide_eq_true_eq] at e;rw [<- e]; exact hy
 ·intro h
  refine ⟨x,h,?_⟩;show eqV (nV x) (nV x)=true;rw [Ziu,decide_eq_true rfl]
def dN {a b:Nat}:decide (V.int (a:Int)=V.int (b:Int))=decide (a=b):=by
 by_cases z:a=b
 ·subst z; simp
 ·rw [decide_eq_false z,decide_eq_false (λy=>z (by injection y with y; lia))]
def dN3 {a b:Nat}:decide (V.int ((a:Int) / 3)=V.int ((b:Int) / 3))=decide (a / 3=b / 3):=by
 rw [div3,div3]; exact dN
def Zni (ks:List Nat):(rot ks (1 % ks.length)).length=ks.length:=by
 by_cases z:ks.length=0
 ·have:ks=[]:=length_eq_zero_iff.mp z
  subst this; rfl
 ·exact Jt _ (Nat.le_of_lt (mod_lt _ (by lia)))
def Zsi (ks:List Nat):(Uh (wI ks) 1).map V.int=(rot ks (1 % ks.length)).map nV:=by
 rw [Go];congr 1;unfold Uh;rw [Zai,show (1 % (ks.length:Int)).toNat=1 % ks.length by
  rw [show (1:Int)=((1:Nat):Int) from rfl,<- Int.natCast_emod,Int.toNat_natCast]]
 unfold rot wI;rw [Aj,map_drop,map_take]
def Zbz {left:Bool} {a b z:Nat}:(valV (glV left a b) (Sum.inl (z:Int))).getD (nV z)=nV (j9 left a b z):=by
 rw [show nV z=V.int (z:Int) from rfl,Zq5,<- Jb]; rfl
def Zo2 {left:Bool} {a b z:Nat}:(valV (glV left a b) (Sum.inl (z:Int))).getD (mV (some z))=nV (j9 left a b z):=Zbz
def Zn4 {a b q:Nat}:(!decide (q∈[a,b]))=Xl a b q:=by
 unfold Xl;by_cases h1:q=a
 ·subst h1; simp
 ·by_cases h2:q=b
  ·subst h2; simp
  ·simp [h1,h2]
def Zna:Sp:=λvs H Q _=>∃ (o:Addr) (a b e f:Nat),vs=[.ref o,.int e,.int f]/\H o=some (.lst ([a,b].map nV))/\∀ (l:Addr) (H':Hp),Same H H'->H' l=some (.lst ((Q3 a b e f).map nV))->Q (.ref l) H'
def Zkt (C:Addr):Sp:=λvs H Q _=>∃ (p wd:Addr) (M:Lq) (ns:List Int) (x:Int) (left:Bool) (a b:Nat) (ws:List Nat),vs=[.ref p,.int x,.str (wayS left),.ref wd]/\Z3 C H p M ns/\TD M ns/\x∈keys ns ns.length/\pl ns ns.length x=[a,b]/\a / 3≠b / 3/\H wd=some (aq:)/\ws.length<=1000/\Pl M ws /\
 ∀ (l:Addr) (H':Hp),Same H H'->H l=none->H' l=some (.lst ((Y5 M left a b (Xh (Wi a b ws))).map nV))->Q (.ref l) H'
def Ki:FnScope ["own","entry","leaving"] ["own","entry","leaving"] (Zg Qy):=Am
def Kj (T:Txt w K mg t):(a:) 2 t.bc t.bg ["own","entry","leaving"] Zna:=by
 refine T.bj.F.aR Ki (b:)
 ·obtain ⟨o,a,b,e,f,rfl,ho,k⟩:=h
  refine ⟨_,(Ze (Z9 (Zq Yw (pcT (Xx T) hr T.aB (v:)) (pcT (Xx T) hr T.aB (U:)) (Zr _)) (Zh (Zl (Yr Zc))) Zz)
   (Zh (Zl (Yv (ts:=["place"]) (fv:=[("entry",1)]) (c:) rfl (Yx (pv 0)) (λ_ _ _ _=>(Zk (i:=0) (show List.Nodup (["place","entry"]:List Str) from by decide +kernel) rfl (g:) (I:))) (λ_ _ _ _=>(Ju (Zq Yw (pcT (Xx T) hr T.aB (Za (pv 0) Zc)) (pcT (Xx T) hr T.aB (v:)) (Zr _)))) (N:) (λ_ _ _ _ _ _=>Yj (pv 0)))))),?_⟩;refine ⟨_,Y,_,Y,_,Y,_,Y,Y,_,Y,?_⟩;rw [dN3];unfold Q3 at k;by_cases z:e / 3=f / 3
  ·rw [if_pos z] at k
   rw [decide_eq_true z];exact iteT ⟨Az _,λl hl=>k l _ (Same.new hl) Zb⟩
  ·rw [if_neg z] at k
   rw [decide_eq_false z];refine iteF ?_;dsimp only [Jo];refine ⟨_,Y,o,Y,⟨_,SqL.of ho⟩,λD hD=>?_⟩;refine Ym (xs:=[a,b].map nV) (λi σ H1=>∃ v,σ=[v,some (.int e)]/\Same H H1/\H1 D=some (.lst ((([a,b].take i).filter λq=>decide (q / 3=e / 3)).map nV))) (ag:) ?_ ?_ ?_
   ·rintro i σ H1 _ ⟨v,rfl,sm,h1⟩
    exact SqL.of (sm _ _ ho)
   ·rintro i y σ H1 hy ⟨v,rfl,sm,h1⟩
    obtain ⟨q,hq,rfl⟩:=map_some hy;have hi:i < 2:=(Aa hq).1;have lt:((([a,b].take i).filter λq=>decide (q / 3=e / 3)).map nV).length < sizeLine:=by
     rw [Ab]
     have h1:=length_filter_le (λq=>decide (q / 3=e / 3)) ([a,b].take i)
     rw [Ai] at h1
     exact Zt (by lia)
    dsimp only [Zo];refine ⟨_,Y,_,Y,_,Y,_,Y,Y,_,Y,?_⟩;show if decide (V.int ((q:Int) / 3)=V.int ((e:Int) / 3))=true then _ else _
    rw [dN3];by_cases c:q / 3=e / 3
    ·rw [decide_eq_true c]
     refine iteT ⟨_,Y,_,h1,lt,_,Y,Same.add sm hD,?_⟩;rw [Zb,Qq hq,if_pos (decide_eq_true c),Aj]; rfl
    ·rw [decide_eq_false c]
     refine iteF ⟨_,Y,sm,?_⟩;rw [h1,Qq hq,if_neg (by rw [decide_eq_false c]; decide)]
   rintro σ H1 ⟨v,rfl,sm,h1⟩;exact k D H1 sm h1
def Wo:FnScope ["tent","seam","way","word","goals","own","kept","told","ahead","following","entry"] ["tent","seam","way","word"] (Zg Zfm):=Am
def Zlt (T:Txt w K mg t):(a:) 7 t.ig t.iA ["tent","seam","way","word"] (Zkt t.aa):=by
  refine T.iK.F.aX Wo (b:)
  · obtain ⟨p,wd,M,ns,x,left,a,b,ws,rfl,ta,td,hk,lf,kz,hw,zf,hP,k⟩:=h
    have hu:=Xb hr;have pq:M.length=ns.length:=td.len.symm;refine ⟨_,(Zy (Qg (i:=4) Wo.nd Y (Or.inl Y) (pxT (Zc8 T) hr T.gm (Za (pv 0) (Za (pv 1) (U:)))))
      (Zy (W7 (pxT (Oe T) hr T.bw (Za (pv 0) (Za (pv 3) Zc))))
      (Zy (Ye (Zs (i:=5) Wo.nd rfl (I:) (Yf (pv 0) T.ai T.ay.m (Qm T) (ai:) T.ay.b .nil Z1 (v:))))
      (Zy (Ye (Xv (ts:=["place"]) (fv:=[("own",5)]) (i:=6) (c:) rfl Wo.nd rfl rfl (by rfl) (Yx (pv 3)) (λ_ _ _ _=>(Zk (i:=0) (show List.Nodup (["place","own"]:List Str) from by decide +kernel) rfl (g:) (I:))) (λ_ _ _ _=>(Ju (Zq (Zeb K) (pv 0) (pv 1) (am:)))) (N:) (λ_ _ _ _ _ _=>Yj (pv 0))))
      (Zy (Ye (Zs (i:=7) Wo.nd rfl (g:) (Yr Zc)))
      (Zy (Ye (Xr PassesOwn.never rfl (Zlc rfl T.js (Za (pv 6) (Za (pcT (Zc7 T) hr T.gn (Za (pv 6) (Za Zf Zc))) Zc))) (Ww rfl (Zw (Zk (i:=8) Wo.nd rfl (g:)) (Zw (Zk (i:=9) Wo.nd rfl (g:)) Yz))) (Ze (Zs (i:=10) Wo.nd rfl (g:) (Yf (pv 0) T.ai T.aH.m (V8 T) (ai:) T.aH.b .nil Z1 (Za (pv 8) Zc)))
      (Ze (Z8 (X5 PySem.F.plainAttrs_list PySem.F.slot_list_append PySem.F.type_list_append Y6 (pv 7) (Za (F3 hu (pv 4) (pv 8) (pv 8) ⟨rfl,rfl,rfl,rfl⟩) Zc)))
      (Zh (Z8 (X5 PySem.F.plainAttrs_list PySem.F.slot_list_extend PySem.F.type_list_extend Zl5 (pv 7) (Za (pcT (Kj T) hr T.bj (Za (pv 5) (Za (F3 hu (pv 4) (pv 10) (pv 10) ⟨rfl,rfl,rfl,rfl⟩) (Za (F3 hu (pv 4) (pv 9) (pv 9) ⟨rfl,rfl,rfl,rfl⟩) Zc)))) Zc))))))))
      (Z4 (Ye (Zl (pv 7)))))))))),?_⟩
    refine ⟨_,Y,_,Y,_,Y,p,M,ns,x,wayS left,Y,ta,td,Wrong.free td hk lf kz λH1 s1 d yh hd=>?_⟩;rw [Zh0] at hd;refine ⟨_,Y,_,Y,p,wd,M,ns,wI ws,Y,ta.same s1,pq,by rw [s1 _ _ hw,Go],by rw [Zai]; lia,λH2 s2=>⟨λ_=>?_,λz=>absurd ((Zc6.mpr hP).symm.trans z) (d:)⟩⟩;have l9:=s1.trans s2;have pk:=s2 _ _ hd;have qv:=ta.same l9;obtain ⟨dx,cl,na,sp,mt',oo,ff,bb⟩:=id qv;refine ⟨_,Y,p,dx,_,Y,bb.ins,Yu _ _ _ _,_,Y,p,M,ns,x,Y,qv,λ_ o ho=>?_,λz=>absurd hk z⟩;rw [lf];have nz:Same H (upd H2 o (.lst ([a,b].map nV))):=Same.add l9 (l9.free ho);have uz:(upd H2 o (.lst ([a,b].map nV))) d=some (.dK (glV left a b)):=by rw [Zd (Zi pk ho)]; exact pk
    have r6:(upd H2 o (.lst ([a,b].map nV))) o=some (.lst ([a,b].map nV)):=Zb;generalize upd H2 o (.lst ([a,b].map nV))=H3 at nz uz r6;clear bb qv l9 pk s2 hd s1;dsimp only [Zo];refine ⟨_,Y,wd,Y,⟨_,SqL.of (nz _ _ hw)⟩,λD hD=>?_⟩;refine Ym (xs:=ws.map nV) (λi σ H4=>∃ v,σ=[v,some (.ref o)]/\Same H3 H4/\H4 D=some (.lst (((ws.take i).filter (Xl a b)).map nV))) (ag:) ?_ ?_ ?_
    · rintro i σ H4 _ ⟨v,rfl,sm,h4⟩
      exact SqL.of (sm _ _ (nz _ _ hw))
    · rintro i y σ H4 hy ⟨v,rfl,sm,h4⟩
      obtain ⟨q,hq,rfl⟩:=map_some hy;have hi:i < ws.length:=(Aa hq).1;have lt:(((ws.take i).filter (Xl a b)).map nV).length < sizeLine:=by
        rw [Ab]
        have h1:=length_filter_le (Xl a b) (ws.take i)
        rw [Ai] at h1
        exact Zt (by lia)
      dsimp only [Zo];refine ⟨_,Y,_,Y,o,_,Y,.inl (SqL.of (sm _ _ r6)),Y,Zof _,_,Y,?_⟩;show if (if true=true then !inV (nV q) ([a,b].map nV) else inV (nV q) ([a,b].map nV))=true then _ else _
      rw [if_pos rfl,Zqe,Zn4]
      cases hb:Xl a b q with
      | true =>
        refine iteT ⟨_,Y,_,h4,lt,_,Y,Same.add sm hD,?_⟩;rw [Zb,Qq hq,if_pos hb,Aj]; rfl
      | false =>
        refine iteF ⟨_,Y,sm,?_⟩;rw [h4,Qq hq,if_neg (by rw [hb]; decide)]
    rintro σ H4 ⟨v,rfl,uq,h4⟩;rw [Ab,take_length] at h4;have lp:(Wi a b ws).length<=1000:=Nat.le_trans (length_filter_le _ _) zf;have hkm:∀ q∈Wi a b ws,q∈ws:=λq hq=>(mem_filter.mp hq).1;have h4:H4 D=some (.lst ((Wi a b ws).map nV)):=h4;generalize Wi a b ws=ks at h4 lp hkm k;have m6:=nz.trans uq;have hd4:=uq _ _ uz;have ho4:=uq _ _ r6;dsimp only [Zo];refine ⟨Az _,λtl htl=>?_⟩;have vq:=m6.free htl;have hot:o≠tl:=Zi ho4 htl;have hDt:D≠tl:=Zi h4 htl;have s05:Same H (upd H4 tl (.lst [])):=Same.add m6 vq;have ua:Same H4 (upd H4 tl (.lst [])):=Same.new htl;have h5t:(upd H4 tl (.lst [])) tl=some (.lst ((Y5 M left a b ((Xh ks).take 0)).map nV)):=Zb;generalize upd H4 tl (.lst [])=H5 at s05 ua h5t;have hd5:=ua _ _ hd4;have ho5:=ua _ _ ho4;have hk5:=ua _ _ h4;clear ua hd4 ho4 h4 uq uz r6 nz m6 hD;dsimp only [Zo];refine ⟨_,Y,_,Y,D,wI ks,1,Y,by rw [hk5,Go],by rw [Zai]; lia,λtr H6 s6 htr h6=>?_⟩;rw [Zsi] at h6;have hrt:tr≠tl:=λz=>by rw [z,h5t] at htr; cases htr
    have hrl:=Zni ks;have wx:∀ (i h f:Nat),ks[i]?=some h->(rot ks (1 % ks.length))[i]?=some f->(Xh ks)[i]?=some (h,f):=λi h f e1 e2=>by unfold Xh; rw [getElem?_zip_eq_some]; exact ⟨e1,e2⟩
    have hpl2:=Zln ks;generalize rot ks (1 % ks.length)=vs at h6 hrl wx;have zy:=s6 _ _ hd5;have ho6:=s6 _ _ ho5;have hk6:=s6 _ _ hk5;refine ⟨D,tr,_,_,Y,SqL.of hk6,SqL.of h6,?_⟩;refine Zql (xs:=ks.map nV) (ys:=vs.map nV) (by rw [Ab,Ab,hrl]) (λi σ H7=>∃ (v8 v9 ph:Option V),σ=[some (.ref p),some (.int x),some (.str (wayS left)),some (.ref wd),some (.ref d),some (.ref o),some (.ref D),some (.ref tl),v8,v9,ph]/\Same H H7/\H7 d=some (.dK (glV left a b))/\H7 o=some (.lst ([a,b].map nV))/\H7 D=some (.lst (ks.map nV))/\H7 tr=some (.lst (vs.map nV))/\H7 tl=some (.lst ((Y5 M left a b ((Xh ks).take i)).map nV))) ⟨none,none,none,Y,s05.trans s6,zy,ho6,hk6,h6,s6 _ _ h5t⟩ ?_ ?_ ?_
    · rintro i σ H7 _ ⟨v8,v9,ph,rfl,s7,hd7,ho7,hk7,wm,qx⟩
      exact ⟨SqL.of hk7,SqL.of wm⟩
    · rintro i y z σ H7 q hy hz hq ⟨v8,v9,ph,rfl,s7,hd7,ho7,hk7,wm,qx⟩
      obtain ⟨hh,hhe,rfl⟩:=map_some hy;obtain ⟨f,hfe,rfl⟩:=map_some hz;have hi:i < ks.length:=(Aa hhe).1;obtain ⟨m,hm⟩:=hP.has hh (hkm hh (Au hhe));have hhM:hh < M.length:=(Aa hm).1;have emt:mtN M hh=m:=by unfold mtN; rw [Ad,hm]; rfl
      have j8:=Zc5 M left a b ((Xh ks).take i);rw [Ai] at j8;have qp:=Zbr a b (j9 left a b m) (j9 left a b f);have sq:Same H7 (upd H7 q (.tup [nV hh,nV f])):=Same.new hq;have s8:=s7.trans sq;have hq8:(upd H7 q (.tup [nV hh,nV f])) q=some (.tup [nV hh,nV f]):=Zb;have zx:=sq _ _ hd7;have ho8:=sq _ _ ho7;have hk8:=sq _ _ hk7;have hr8:=sq _ _ wm;have ht8:=sq _ _ qx;generalize upd H7 q (.tup [nV hh,nV f])=H8 at s8 hq8 zx ho8 hk8 hr8 ht8;clear sq hd7 ho7 hk7 wm qx s7 hq;refine ⟨q,_,Y,SqT.of hq8,Y,_,_,Y,_,_,Y,Y,?_⟩;have ta8:=ta.same s8;obtain ⟨dx,cl,na,sp,mt',oo,ff,bb⟩:=id ta8;refine ⟨_,Y,p,dx,_,Y,bb.ins,Yu _ _ _ _,_,Y,p,M,ns,hh,Y,ta8,pq,λi' y e1 e2=>?_,λz=>absurd (show (0:Int)<=hh/\(hh:Int) < ns.length by lia) z⟩;have:i'=hh:=by lia
      subst this;rw [hm] at e2;cases e2;refine ⟨_,Y,.inl ⟨Y,_,SqL.of ht8⟩,_,Y,d,Y,.inl ⟨_,.inl zx⟩,_,Y,_,Y,_,DGet.k (k:=Sum.inl (i':Int)) zx,tl,_,_,Y,Y,ht8,(by rw [Ab,sizeLine_eq]; lia),?_⟩;rw [Zbz];have s9:Same H (upd H8 tl (x:)):=Same.add s8 vq;have zi:(upd H8 tl (x:)) tl=some (.lst ((Y5 M left a b ((Xh ks).take i) ++ [j9 left a b i']).map nV)):=by rw [Zb,Aj]; rfl
      have hdt:d≠tl:=λz=>by rw [z,ht8] at zx; cases zx
      have zw:(upd H8 tl (x:)) d=some (.dK (glV left a b)):=by rw [Zd hdt]; exact zx
      have ho9:(upd H8 tl (x:)) o=some (.lst ([a,b].map nV)):=by rw [Zd hot]; exact ho8
      have hk9:(upd H8 tl (x:)) D=some (.lst (ks.map nV)):=by rw [Zd hDt]; exact hk8
      have vc:(upd H8 tl (x:)) tr=some (.lst (vs.map nV)):=by rw [Zd hrt]; exact hr8
      show _;generalize upd H8 tl (.lst ((Y5 M left a b ((Xh ks).take i)).map nV ++ [nV (j9 left a b i')]))=H9 at s9 zi zw ho9 hk9 vc;refine ⟨_,Y,.inl ⟨Y,_,SqL.of zi⟩,_,Y,_,Y,d,Y,.inl ⟨_,.inl zw⟩,_,Y,_,Y,_,DGet.k (k:=Sum.inl (m:Int)) zw,_,Y,d,Y,.inl ⟨_,.inl zw⟩,_,Y,_,Y,_,DGet.k (k:=Sum.inl (f:Int)) zw,?_⟩;rw [Zo2,Zbz];refine ⟨o,a,b,j9 left a b m,j9 left a b f,Y,ho9,λl HA sA hA=>?_⟩;refine ⟨tl,l,_,_,Y,Y,sA _ _ zi,hA,?_,?_⟩
      · rw [Ab,Ab,Ae,At,sizeLine_eq]; lia
      · refine ⟨_,_,_,Y,Same.add (s9.trans sA) vq,by rw [Zd hdt]; exact sA _ _ zw,by rw [Zd hot]; exact sA _ _ ho9,by rw [Zd hDt]; exact sA _ _ hk9,by rw [Zd hrt]; exact sA _ _ vc,?_⟩
        rw [Zb,Zjl (wx i _ f hhe hfe),<- Aj];unfold Jj;rw [emt,append_assoc];rfl
    · rintro σ H7 ⟨v8,v9,ph,rfl,s7,hd7,ho7,hk7,wm,qx⟩
      rw [Ab,take_of_length_le (by lia)] at qx;exact ⟨_,Y,k tl H7 s7 vq qx⟩
def Mv.two {M:Lq} {ns:List Int} {x:Int} {a b:Nat} (h:Mv M ns x a b) (td:TD M ns):x∈keys ns ns.length/\pl ns ns.length x=[a,b]:=Zk9 td h.hM h.lt h.nm
def Qo {ns:List Int} (h:i < ns.length):ns[i]?=some (ns.getD i 0):=by rw [Ad,Ac h]; rfl
def Zs6 (pc:PC M f) (nm:Nm ns f g) (td:TD M ns):OkC M ns g:=by
 have hl:=td.len;refine ⟨λx hx=>?_,λi x h1 h2=>?_,λk hk=>?_,λk hk=>?_⟩
 ·obtain ⟨i,hi,e⟩:=Y2.mp hx
  rw [nm i x e];exact pc.nn i (by lia)
 ·rw [nm i x h2]
  exact pc.rim i h1
 ·rw [nm _ _ (Qo (show 3 * k < ns.length by lia)),nm _ _ (Qo (show 3 * k + 1 < ns.length by lia)),nm _ _ (Qo hk)]
  have:=pc.even (3 * k) (by lia);rw [show aN (3 * k)=3 * k + 1 by rw [Q5,if_neg (by lia)],show bN (3 * k)=3 * k + 2 by rw [Q4,if_pos (by lia)]] at this;exact this
 ·rw [nm _ _ (Qo (show 3 * k < ns.length by lia)),nm _ _ (Qo (show 3 * k + 1 < ns.length by lia)),nm _ _ (Qo hk)]
  have t1:=pc.tri (3 * k) (by lia);have t2:=pc.tri (3 * k + 1) (by lia);have t3:=pc.tri (3 * k + 2) (by lia);rw [show aN (3 * k)=3 * k + 1 by rw [Q5,if_neg (by lia)],show bN (3 * k)=3 * k + 2 by rw [Q4,if_pos (by lia)]] at t1;rw [show aN (3 * k + 1)=3 * k + 2 by rw [Q5,if_neg (by lia)],show bN (3 * k + 1)=3 * k by rw [Q4,if_neg (by lia)]; lia] at t2;rw [show aN (3 * k + 2)=3 * k by rw [Q5,if_pos (by lia)]; lia,show bN (3 * k + 2)=3 * k + 1 by rw [Q4,if_neg (by lia)]; lia] at t3;exact ⟨by lia,by lia,by lia⟩
noncomputable def n4 (f:Nat->Int) (a b:Nat):List Int:=[f (aN a),f (bN a),f (aN b),f (bN b)]
def Zs8 {f:Nat->Int} {a b n j:Nat} {x:V} (ha:a < 3 * n) (hb:b < 3 * n) (h:(sqr a b)[j]?=some x):∃ z:Nat,z < 3 * n/\x=.int z/\(n4 f a b)[j]?=some (f z):=by
 obtain ⟨a1,a2⟩:=Os ha;obtain ⟨b1,b2⟩:=Os hb;unfold sqr at h;rw [Zbx,Zbw,Zbx,Zbw] at h
 match j,h with
 | 0,h=>cases h; exact ⟨_,a1,Y,Y⟩
 | 1,h=>cases h; exact ⟨_,a2,Y,Y⟩
 | 2,h=>cases h; exact ⟨_,b1,Y,Y⟩
 | 3,h=>cases h; exact ⟨_,b2,Y,Y⟩
 | j + 4,h=>simp at h
noncomputable def gx (g:Int->Int) (x v:Int):Int->Int:=λy=>if y=x then v else g y
def Fs (C:Addr):Sp:=λvs H Q _=>∃ (p c:Addr) (M:Lq) (ns:List Int) (f:Nat->Int) (g:Int->Int) (x:Int) (a b:Nat),vs=[.ref p,.ref c,.int x]/\Z3 C H p M ns/\TD M ns/\X7 H c ns g/\Nm ns f g/\Mv M ns x a b/\∀ H',Same H H'->Q (.int (bh f a b)) H'
def Fv (C:Addr):Sp:=λvs H Q _=>∃ (p c:Addr) (M:Lq) (ns:List Int) (f:Nat->Int) (g:Int->Int) (x:Int) (a b:Nat),vs=[.ref p,.ref c,.int x]/\Z3 C H p M ns/\TD M ns/\X7 H c ns g/\Nm ns f g/\Mv M ns x a b /\
 ∀ (l:Addr) (H':Hp),Same H H'->H l=none->(∀ left,X7 H' l (exN left a b ns) (gx g x (bh f a b)))->Q (.ref l) H'
def Xz:FnScope ["tent","counts","seam","a","b","c","d"] ["tent","counts","seam"] (Zg Ul):=Am
def F5 (T:Txt w K mg t):(a:) 5 t.b9 t.cm ["tent","counts","seam"] (Fs t.aa):=by
  refine T.cx.F.aR Xz (b:)
  · obtain ⟨p,c,M,ns,f,g,x,a,b,rfl,ta,td,qg,nm,mv,k⟩:=h
    have hu:=Xb hr;refine ⟨_,(Ze (Xt (Yv (ts:=["place"]) (fv:=[("counts",1),("tent",0)]) ⟨rfl,by decide +kernel,by decide +kernel,Yb (by rfl),⟨⟨rfl,rfl,Or.inl rfl⟩,⟨rfl,rfl,Or.inl rfl⟩,trivial⟩⟩ rfl (Zld (pcT (Ga T) hr T.d0 (Za (pv 0) (U:)))) (λ_ _ _ _=>(Zk (i:=0) (show List.Nodup (["place","counts","tent"]:List Str) from by decide +kernel) rfl (g:) (I:))) (ah:) (N:) (λ_ _ _ _ _ _=>Yj (Wy hu (pv 1) (Yf (pv 2) T.ai T.au.m (J7 T) (ai:) T.au.b .nil Z1 (Za (pv 0) Zc)) (j:)))) (Zlg rfl (Zw (Zk (i:=3) Xz.nd rfl (g:)) (Zw (Zk (i:=4) Xz.nd rfl (g:)) (Zw (Zk (i:=5) Xz.nd rfl (g:)) (Zw (Zk (i:=6) Xz.nd rfl (g:)) Yz))))))
      (Zh (Zl (Zj V4 (Zn (Zdp rfl) (by rfl) T.jd PyProof.Rows.boot_max (Za (Zj Yl (pv 3) (pv 5)) (Za (Zj Yl (pv 4) (pv 6)) Zc))) (Wy hu (pv 1) (pv 2) (j:)))))),?_⟩
    obtain ⟨hk,lf⟩:=mv.two td;obtain ⟨n,n1,u7,hn⟩:=td.n;have hl:=td.len;obtain ⟨ha,hb⟩:=mv.lts td;have hs:Yd ns x="free":=by unfold Yd; rw [lf]; exact if_neg mv.ab
    refine Zx λk6 j6=>?_;refine ⟨_,Y,_,Y,p,M,ns,x,Y,ta,td,λ_ H1 s1=>⟨λe=>absurd (hs.symm.trans e) (d:),λe=>absurd (hs.symm.trans e) (d:),λa' b' l e1 e2 e3 e4 l7 hH=>?_⟩,λz=>absurd hk z⟩;rw [lf] at e1
    injection e1 with e5 e6
    injection e6 with e6 _
    subst e5;subst e6;have ss:=ta.same s1;obtain ⟨ks,hc1,ky⟩:=qg.same s1;refine ⟨l,Y,⟨_,SqT.of hH⟩,λD hD=>?_⟩;refine Oz (xs:=sqr a b) (λj σ H2=>∃ (v:Option V),σ=[v,some (.ref c),some (.ref p)]/\Same H1 H2/\H2 D=some (.lst (((n4 f a b).take j).map V.int))) (ag:) ?_ ?_ ?_
    · rintro j σ H2 _ ⟨v,rfl,s2,_⟩
      exact SqT.of (s2 _ _ hH)
    · rintro j y σ H2 hy ⟨v,rfl,s2,h2⟩
      dsimp only [Zo,tYes];rw [if_pos rfl];obtain ⟨z,hz,rfl,hf⟩:=Zs8 (f:=f) (n:=n) (by lia) (by lia) hy;have qv:=ss.same s2;obtain ⟨dx,cl,na,sp,mt,o,ff,B⟩:=id qv;have uu:z < ns.length:=by lia
      have ey:=Qo uu;have hzk:ns.getD z 0∈ks:=ky.mem_iff.mpr (Zbg uu);refine ⟨_,Y,_,Y,p,dx,_,Y,B.ins,Yu _ _ _ _,_,Y,p,M,ns,z,Y,qv,λi y e1 e2=>?_,λq=>absurd ⟨by lia,by lia⟩ q⟩;obtain rfl:z=i:=by lia
      rw [ey] at e2
      injection e2 with e2
      subst e2;refine ⟨c,_,Y,Gv (s2 _ _ hc1) hzk,?_⟩;refine ⟨_,h2,?_,_,Y,Same.add s2 hD,?_⟩
      · rw [Ab,Ai]
        exact Zt (by have:(n4 f a b).length=4:=rfl; lia)
      · rw [Zb,Aw,hf,nm _ _ ey]
        simp
    rintro σ H2 ⟨v,rfl,s2,h2⟩;have pr:H2 D=some (.lst ((n4 f a b).map V.int)):=h2;refine ⟨D,_,Y,SqL.of pr,Y,_,_,Y,_,_,Y,_,_,Y,_,_,Y,Y,?_⟩;refine j6 _ _ ?_;have qj:x∈ks:=ky.mem_iff.mpr hk;refine ⟨_,Y,_,Y,_,_,Y,Y,_,Y,_,Y,_,_,Y,Y,_,_,Y,_,Y,_,Y,c,_,Y,Gv (s2 _ _ hc1) qj,_,_,Y,Y,?_⟩;rw [nm a x mv.nm];exact k H2 (s1.trans s2)
def Vn:FnScope ["tent","counts","seam","behind"] ["tent","counts","seam"] (Zg Uq):=Am
def F8 (T:Txt w K mg t):(a:) 6 t.ce t.cp ["tent","counts","seam"] (Fv t.aa):=by
 refine T.cy.F.aR Vn (b:)
 ·obtain ⟨p,c,M,ns,f,g,x,a,b,rfl,ta,td,qg,nm,mv,k⟩:=h
  have hu:=Xb hr;refine ⟨_,(Ze (Zs (i:=3) Vn.nd Y (Or.inl Y) (Ys Wt (by rfl) T.dz PySem.Pv.boot_dict (v:)))
   (Ze (Ob hu (pv 3) (pv 2) (pcT (F5 T) hr T.cx (Za (pv 0) (Za (pv 1) (U:)))) rfl)
   (Zh (Zl (pv 3))))),?_⟩
  obtain ⟨hk,lf⟩:=mv.two td;obtain ⟨ks,hc,ky⟩:=id qg;refine Zx λk6 j6=>?_;refine ⟨_,Y,c,_,Y,.inl hc,λd hd=>?_⟩;refine j6 _ _ ?_;have s1:Same H (upd H d (.dK (dI ks g))):=Same.new hd;have h1:(upd H d (.dK (dI ks g))) d=some (.dK (dI ks g)):=Zb;generalize upd H d (.dK (dI ks g))=H1 at s1 h1 ⊢
  try dsimp only [Zo]
  refine Zx λk6 j6=>?_;have qj:x∈ks:=ky.mem_iff.mpr hk;refine ⟨_,Y,_,Y,_,Y,p,c,M,ns,f,g,x,a,b,Y,ta.same s1,td,qg.same s1,nm,mv,λH2 s2=>?_⟩;have h2:=s2 _ _ h1;refine ⟨_,Y,_,Y,d,_,Y,DPut.k (k:=Sum.inl x) h2 (by rw [Zms]; exact Zt (by have h3:=ky.length_eq; have h4:=Oh ns ns.length; obtain ⟨n,n1,u7,hn⟩:=td.n; have:=td.len; lia)),?_⟩;refine j6 _ _ ?_;refine ⟨_,Y,k d _ (Same.add (s1.trans s2) hd) hd λleft=>⟨ks,?_,ky.trans (Zqb td mv.hM mv.ab left)⟩⟩;rw [Zb,Zmr qj];rfl
def OkF (v:Nat × Nat):Prop:=1<=v.1/\1<=v.2/\v.1<=10 ^ 60/\v.2<=10 ^ 60
def OkF.bd {v:Nat × Nat} (h:OkF v):Bd 200 v:=⟨h.1,h.2.1,Nat.lt_of_le_of_lt h.2.2.1 (by decide +kernel),Nat.lt_of_le_of_lt h.2.2.2 (by decide +kernel)⟩
structure OkD (M:Lq) (ns:List Int) (ws:List Nat) (ks:List Int) (g:Int->Nat × Nat):Prop where
 td:TD M ns
 h64:ns.length < 64
 pl:Pl M ws
 len:ws.length<=400
 sw:SwK M ns ks
 fr:∀ y∈ks,OkF (g y)
def Zcs (t:Adr):Sp:=λvs H Q E=>∃ (sc kd te th po wo a c:Addr) (M:Lq) (ns ks:List Int) (g:Int->Nat × Nat) (ws:List Nat) (f:Int->Int) (x:Int) (left:Bool) (pa pb:Nat),vs=[.ref sc,.int x,.str (wayS left)]/\H sc=some (.ins t.ag kd (a9:))/\ScC t.aa H te th po wo a c ⟨M,ns,some ws,some f,ks,g⟩/\OkD M ns ws ks g/\Mv M ns x pa pb /\
 (∀ H',Same H H'->E (.ref t.aQ) none H')/\(∀ H',Same H H'->E (.ref t.aK) none H') /\
 ∀ r H' ml f' g',Same H H'->Sc t.aa t.ag H' r ⟨exM left pa pb M,exN left pa pb ns,some ml,some f',ks,g'⟩->OkD (exM left pa pb M) (exN left pa pb ns) ml ks g'->Q (.ref r) H'
def Js {t u:TSX} {D:Ends} {R:Value->St->Hp->Prop} {σ:St} {H:Hp} (ue:St->Hp->Prop) (ht:∀ nx:St->Hp->Prop,(∀ σ H,ue σ H->nx σ H)->t { D with nx:=nx } R σ H) (hu:∀ σ H,ue σ H->u D R σ H):Zi6 t u D R σ H:=ht (u D R) hu
def Zaj {H H3:Hp} {d:Addr} {kvs:List (Key × V)} (hd:H d=some (.dK kvs)) (s:∀ b u,b≠d->H b=some u->H3 b=some u):Same H (upd H3 d (.dK kvs)):=λb u e=>by
 by_cases z:b=d
 ·subst z; rw [hd] at e; rw [Zb]; exact e
 ·rw [Zd z]; exact s b u z e
def Xd:FnScope ["scene","seam","way","tent","threads","word","pools","worths","parts"] ["scene","seam","way"] (Zg U5):=Am
def Zba (T:Txt w K mg t):(a:) 8 t.bf t.bi ["scene","seam","way"] (Zcs t):=by
  refine T.cP.F.okL Xd (λvs H Q E h=>?_) (b:)
  · obtain ⟨sc,kd,te,th,po,wo,a,c,M,ns,ks,g,ws,f,x,left,pa,pb,rfl,_⟩:=h
    rfl
  · obtain ⟨sc,kd,te,th,po,wo,a,c,M,ns,ks,g,ws,f,x,left,pa,pb,rfl,rj,C,O,mv,kE1,kE2,kQ⟩:=h
    have td:=O.td;have hu:=Xb hr;obtain ⟨hk,lf⟩:=mv.two td;refine ⟨_,(λ_ L=>(Jv (Vv L (Qg (i:=3) Xd.nd Y (Or.inl Y) (pxT (Zgd T) hr T.fB (Za (Zp (pv 0) Y) (Za (pv 1) (U:))))))
      (Jv (Vv L (Ye (Zcf (K6 (ts:=["name","word"]) (fv:=[("seam",1),("way",2),("scene",0)]) (i:=4) ⟨rfl,by decide +kernel,by decide +kernel,Yb (by rfl),⟨⟨rfl,rfl,Or.inl rfl⟩,⟨rfl,rfl,Or.inl rfl⟩,⟨rfl,rfl,Or.inl rfl⟩,trivial⟩⟩ rfl Xd.nd rfl rfl (by rfl) (Qi (as:) ⟨rfl,rfl,rfl⟩) (λ_ _ _ _=>(Qj (n:=2) K rfl (Zw (Zk (i:=0) (show List.Nodup (["name","word","seam","way","scene"]:List Str) from by decide +kernel) rfl (g:) (I:)) (Zw (Zk (i:=1) (show List.Nodup (["name","word","seam","way","scene"]:List Str) from by decide +kernel) rfl (g:) (I:)) Yz)))) (ah:) (N:) (λ_ _ _ _ _ _=>V3 (pv 0) (pcT (Zlt T) hr T.iK (Za (Zih K (pv 4) rfl) (Za (pv 2) (Za (pv 3) (v:))))))))))
      (Jv (Zf3 (Zia L rfl (Zch (pv 4) ⟨rfl,rfl,rfl⟩) (Zk (i:=5) Xd.nd rfl (g:)) (F1 (Vv L (W7 (pxT (Of T) hr T.bz (Za (pv 5) Zc)))))))
      (Jv (Vv L (Ye (Zcf (K6 (ts:=["name","counts"]) (fv:=[("seam",1),("scene",0)]) (i:=6) ⟨rfl,by decide +kernel,by decide +kernel,Yb (by rfl),⟨⟨rfl,rfl,Or.inl rfl⟩,⟨rfl,rfl,Or.inl rfl⟩,trivial⟩⟩ rfl Xd.nd rfl rfl (by rfl) (Qi (as:) ⟨rfl,rfl,rfl⟩) (λ_ _ _ _=>(Qj (n:=2) K rfl (Zw (Zk (i:=0) (show List.Nodup (["name","counts","seam","scene"]:List Str) from by decide +kernel) rfl (g:) (I:)) (Zw (Zk (i:=1) (show List.Nodup (["name","counts","seam","scene"]:List Str) from by decide +kernel) rfl (g:) (I:)) Yz)))) (ah:) (N:) (λ_ _ _ _ _ _=>V3 (pv 0) (pcT (F8 T) hr T.cy (Za (Zih K (pv 3) rfl) (Za (pv 1) (U:)))))))))
      (Jv (Vv L (Ye (Zs (i:=7) Xd.nd rfl (g:) (pcT (Zgc T) hr T.fD (Za (as:) (Za (as:) (v:)))))))
      (Jv (Zf3 (Zia L rfl (Zch (pv 7) ⟨rfl,rfl,rfl⟩) (Zk (i:=8) Xd.nd rfl (g:)) (F1 (Vv L (W7 (pxT (Kd T) hr T.bX (Za (pv 8) Zc)))))))
      (F1 (Vv L (Ye (Zl (Je T.bP (X9 T) (ai:) rfl T.bM T.aC.b .nil Z1 (Za (pv 3) (Za (pv 4) (Za (pv 6) (Za (pv 7) Zc)))))))))))))))),?_⟩
    refine Js (λσ H'=>∃ p3:Addr,σ=[some (.ref sc),some (.int x),some (.str (wayS left)),some (.ref p3),none,none,none,none,none]/\Same H H'/\Z3 t.aa H' p3 (exM left pa pb M) (exN left pa pb ns)) (ab:) ?_
    · refine ⟨_,Y,sc,_,kd,_,.ref te,Y,rj,T.af,T.al,Y,_,Y,_,Y,te,M,ns,x,wayS left,Y,C.ten,td,Wrong.free td hk lf mv.ab λH' s' p' hp' w8=>?_⟩
      rw [Zh0] at w8;exact kh _ _ ⟨p',Y,s',w8⟩
    rintro σ H1 ⟨p3,rfl,s1,w8⟩;have C1:=C.same s1;have i1:=s1 _ _ rj;obtain ⟨ml,ews⟩:∃ ml,ml=Y5 M left pa pb (Xh (Wi pa pb ws)):=⟨_,rfl⟩;have hP':Pl (exM left pa pb M) ml:=ews ▸ O.pl.pull td mv.hM mv.ab;refine Js (λσ H'=>∃ (D l:Addr),σ=[some (.ref sc),some (.int x),some (.str (wayS left)),some (.ref p3),some (.ref D),none,none,none,none]/\Same H1 H'/\H1 D=none/\H' D=some (.dK (dS (thS (some ml) l)))/\H' l=some (.lst (ml.map nV))) (ab:) ?_
    · refine ⟨_,Y,sc,_,kd,_,.ref th,Y,i1,T.af,T.aj,Y,th,_,Y,.inl ⟨C1.thr,λo=>?_⟩⟩
      intro D hD;obtain ⟨p7,lq⟩:=Y9 hD;refine Vf (kvs:=dS (thS (some ws) a)) (λi σ H3=>∃ v0 v1,σ=[v0,v1,some (.int x),some (.str (wayS left)),some (.ref sc)]/\(∀ b u,b≠th->H1 b=some u->H3 b=some u)/\H3 th=some (.frz o (.dK (dS (thS (some ws) a))))/\(i=0->H3 D=some (.dK []))/\(i=1->∃ l,H3 D=some (.dK (dS (thS (some ml) l)))/\H3 l=some (.lst (ml.map nV)))) ⟨none,none,Y,λb u hb e=>by rw [Zd (Zi e lq),Zd hb]; exact e,by rw [Zd (Ne.symm p7),Zb],λ_=>Zb,λz=>nomatch z⟩ ?_ ?_ ?_
      · rintro i σ H3 _ ⟨v0,v1,rfl,_,e,_⟩
        exact e
      · rintro i k0 x0 σ H3 q oq hq ⟨v0,v1,rfl,s3,e3,hD3,_⟩
        obtain ⟨rfl,e⟩:=K9 (x:=((Sum.inr (t:):Key),V.ref a)) oq;cases e;have sq:Same H3 (upd H3 q (.tup [kV (Sum.inr (t:)),.ref a])):=Same.new hq;have rm:(upd H3 q (.tup [kV (Sum.inr (t:)),.ref a])) q=some (.tup [kV (Sum.inr (t:)),.ref a]):=Zb;generalize upd H3 q (.tup [kV (Sum.inr (Str.ofString "most")),.ref a])=H4 at sq rm ⊢;have s4:∀ b u,b≠th->H1 b=some u->H4 b=some u:=λb u hb e=>sq _ _ (s3 b u hb e);have ne:∀ {b:Addr} {u:HO},H1 b=some u->(∀ kvs,u≠.dK kvs)->H4 b=some u:=λ{b u} e hu=>s4 b u (λz=>by rw [z,C1.thr] at e; cases e; exact hu _ Y) e;have ta4:Z3 t.aa H4 te M ns:=C1.ten.sameD λb u hu e=>ne e hu;dsimp only [Zo];refine ⟨q,_,Y,SqT.of rm,Y,_,_,Y,_,_,Y,Y,?_⟩;dsimp only [Zo,tYes];rw [if_pos rfl];refine ⟨_,rfl,_,rfl,sc,_,kd,_,.ref te,rfl,ne i1 (λ_ z=>nomatch z),T.af,T.al,rfl,_,rfl,_,rfl,_,rfl,te,a,M,ns,x,left,pa,pb,ws,rfl,ta4,td,hk,lf,mv.ab,ne (C1.wrd ws rfl) (λ_ z=>nomatch z),by have:=O.len; lia,O.pl,λl H5 s5 hl h5=>?_⟩;refine ⟨[],Sum.inr (t:),rfl,s5 _ _ (sq _ _ (hD3 rfl)),by decide,_,_,rfl,λb u hb e=>?_,?_,λz=>(nomatch z),λ_=>⟨l,Zb,?_⟩⟩
        · rw [Zd (Zi e lq)]; exact s5 _ _ (s4 b u hb e)
        · rw [Zd (Ne.symm p7)]; exact s5 _ _ (sq _ _ e3)
        · rw [Zd,h5,ews]
          intro z;rw [z,sq _ _ (hD3 rfl)] at hl; cases hl
      · rintro σ H3 ⟨v0,v1,rfl,s3,e3,_,h3⟩
        obtain ⟨l,hD3,hl3⟩:=h3 rfl;refine ⟨th,o,_,e3,(λo' u z=>by have z:H th=some (.frz o' u):=z; rw [C.thr] at z; cases z),?_⟩;exact kh _ _ ⟨D,l,Y,Zaj C1.thr s3,lq,by rw [Zd p7]; exact hD3,by rw [Zd (λz=>by rw [z,e3] at hl3; cases hl3)]; exact hl3⟩
    rintro σ H2 ⟨D,l,rfl,s2,hD,h2,lm⟩;have hlD:l≠D:=λz=>by rw [z,h2] at lm; cases lm
    have z9:H D=none:=s1.free hD;refine Js (λσ H'=>∃ v,σ=[some (.ref sc),some (.int x),some (.str (wayS left)),some (.ref p3),some (.ref D),v,none,none,none]/\Same H2 H'/\ml.length<=400) (ab:) ?_
    · refine ⟨_,Y,D,_,Y,.inl ⟨h2,λo=>?_⟩⟩
      refine Zdi (kvs:=dS (thS (some ml) l)) (λi σ H3=>∃ v,σ=[some (.ref sc),some (.int x),some (.str (wayS left)),some (.ref p3),some (.ref D),v,none,none,none]/\(∀ b u,b≠D->H2 b=some u->H3 b=some u)/\H3 D=some (.frz o (.dK (dS (thS (some ml) l))))/\(i=1->ml.length<=400)) ⟨none,Y,λb u hb e=>by rw [Zd hb]; exact e,Zb,λz=>nomatch z⟩ ?_ ?_ ?_
      · rintro i σ H3 _ ⟨v,rfl,_,e,_⟩
        exact e
      · rintro i k0 x0 σ H3 oq ⟨v,rfl,s3,e3,_⟩
        obtain ⟨rfl,e⟩:=K9 (x:=((Sum.inr (t:):Key),V.ref l)) oq;cases e;refine ⟨_,Y,l,_,Y,s3 _ _ hlD lm,λwp=>⟨_,Y,s3,e3,λ_=>by simpa using wp⟩,λ_=>kE1 _ λb u e=>s3 b u (Zi e z9) (s2 _ _ (s1 _ _ e))⟩
      · rintro σ H3 ⟨v,rfl,s3,e3,h1⟩
        exact ⟨D,o,_,e3,(λo' u z=>by have z:H D=some (.frz o' u):=z; rw [z9] at z; cases z),kh _ _ ⟨v,rfl,Zaj h2 s3,h1 rfl⟩⟩
    rintro σ H3 ⟨v5,rfl,s3,wp⟩;have xi:=s2.trans s3;have nz:=s1.trans xi;have C3:=C.same nz;have i3:=nz _ _ rj;obtain ⟨f',ef⟩:∃ f',f'=gx f x (bh (λi=>f (ns.getD i 0)) pa pb):=⟨_,rfl⟩;have nm:Nm ns (λi=>f (ns.getD i 0)) f:=λp y e=>by show f y=f (ns.getD p 0); rw [Ad,e]; rfl
    have hcpo:c≠po:=λz=>by
      obtain ⟨kk,e,_⟩:=C.cnt f rfl;have e2:=C.poo;rw [<- z,e] at e2
      injection e2 with e2
      injection e2 with e2
      cases kk with
      | nil=>cases e2
      | cons y r =>
        injection e2 with e2 _
        injection e2 with e2 _
        cases e2
    refine Js (λσ H'=>∃ (D2 l2:Addr),σ=[some (.ref sc),some (.int x),some (.str (wayS left)),some (.ref p3),some (.ref D),v5,some (.ref D2),none,none]/\Same H3 H'/\H' D2=some (.dK (dS (poS (some f') l2)))/\X7 H' l2 (exN left pa pb ns) f') (ab:) ?_
    · refine ⟨_,Y,sc,_,kd,_,.ref po,Y,i3,T.af,T.ak,Y,po,_,Y,.inl ⟨C3.poo,λo=>?_⟩⟩
      intro D2 hD;obtain ⟨p7,lq⟩:=Y9 hD;refine Vf (kvs:=dS (poS (some f) c)) (λi σ H4=>∃ v0 v1,σ=[v0,v1,some (.int x),some (.ref sc)]/\(∀ b u,b≠po->H3 b=some u->H4 b=some u)/\H4 po=some (.frz o (.dK (dS (poS (some f) c))))/\(i=0->H4 D2=some (.dK []))/\(i=1->∃ l2,H4 D2=some (.dK (dS (poS (some f') l2)))/\X7 H4 l2 (exN left pa pb ns) f'/\l2≠po)) ⟨none,none,Y,λb u hb e=>by rw [Zd (Zi e lq),Zd hb]; exact e,by rw [Zd (Ne.symm p7),Zb],λ_=>Zb,λz=>nomatch z⟩ ?_ ?_ ?_
      · rintro i σ H4 _ ⟨v0,v1,rfl,_,e,_⟩
        exact e
      · rintro i k0 x0 σ H4 q oq hq ⟨v0,v1,rfl,s4,e4,hD4,_⟩
        obtain ⟨rfl,e⟩:=K9 (x:=((Sum.inr (D:):Key),V.ref c)) oq;cases e;have sq:Same H4 (upd H4 q (.tup [kV (Sum.inr (D:)),.ref c])):=Same.new hq;have rm:(upd H4 q (.tup [kV (Sum.inr (D:)),.ref c])) q=some (.tup [kV (Sum.inr (D:)),.ref c]):=Zb;generalize upd H4 q (.tup [kV (Sum.inr (Str.ofString "part")),.ref c])=H5 at sq rm ⊢;have s5:∀ b u,b≠po->H3 b=some u->H5 b=some u:=λb u hb e=>sq _ _ (s4 b u hb e);have ne:∀ {b:Addr} {u:HO},H3 b=some u->(∀ kvs,u≠.dK kvs)->H5 b=some u:=λ{b u} e hu=>s5 b u (λz=>by rw [z,C3.poo] at e; cases e; exact hu _ Y) e;have ta5:Z3 t.aa H5 te M ns:=C3.ten.sameD λb u hu e=>ne e hu;have ct5:X7 H5 c ns f:=by obtain ⟨kk,e,pm⟩:=C3.cnt f rfl; exact ⟨kk,s5 _ _ hcpo e,pm⟩
        dsimp only [Zo];refine ⟨q,_,Y,SqT.of rm,Y,_,_,Y,_,_,Y,Y,?_⟩;dsimp only [Zo,tYes];rw [if_pos rfl];refine ⟨_,Y,_,Y,sc,_,kd,_,.ref te,Y,ne i3 (λ_ z=>nomatch z),T.af,T.al,Y,_,Y,_,Y,te,c,M,ns,_,f,x,pa,pb,Y,ta5,td,ct5,nm,mv,λl2 H6 s6 hl h6=>?_⟩;have h6:=h6 left;rw [<- ef] at h6;have hDl:l2≠D2:=λz=>by rw [z,sq _ _ (hD4 rfl)] at hl; cases hl
        refine ⟨[],Sum.inr (D:),rfl,s6 _ _ (sq _ _ (hD4 rfl)),by decide,_,_,rfl,λb u hb e=>?_,?_,λz=>(nomatch z),λ_=>⟨l2,Zb,?_,λz=>by rw [z,sq _ _ e4] at hl; cases hl⟩⟩
        · rw [Zd (Zi e lq)]; exact s6 _ _ (s5 b u hb e)
        · rw [Zd (Ne.symm p7)]; exact s6 _ _ (sq _ _ e4)
        · obtain ⟨kk,e,pm⟩:=h6
          exact ⟨kk,by rw [Zd hDl]; exact e,pm⟩
      · rintro σ H4 ⟨v0,v1,rfl,s4,e4,_,h4⟩
        obtain ⟨l2,hD4,⟨kk,e,pm⟩,hn⟩:=h4 rfl;refine ⟨po,o,_,e4,(λo' u z=>by have z:H po=some (.frz o' u):=z; rw [C.poo] at z; cases z),?_⟩;exact kh _ _ ⟨D2,l2,Y,Zaj C3.poo s4,by rw [Zd p7]; exact hD4,kk,by rw [Zd hn]; exact e,pm⟩
    rintro σ H4 ⟨D2,l2,rfl,s4,h4,hc4⟩;have m6:=nz.trans s4;have C4:=C.same m6;have i4:=m6 _ _ rj;have bd:∀ y∈ks,Bd 200 (g y):=λy hy=>(O.fr y hy).bd;have up:∀ {n:Nat},n < 2 ^ 200->n < 2 ^ 8900/\n < 2 ^ 3999:=λh=>⟨Ag h (Nat.pow_le_pow_right (d:) (d:)),Ag h (Nat.pow_le_pow_right (d:) (d:))⟩;have qj:x∈ks:=(O.sw.mem x).mpr ⟨pa,pb,mv.hM,mv.nm⟩;have bx:=bd x qj;refine Js (λσ H'=>∃ d':Addr,σ=[some (.ref sc),some (.int x),some (.str (wayS left)),some (.ref p3),some (.ref D),v5,some (.ref D2),some (.ref d'),none]/\Same H4 H'/\H4 d'=none/\WAt H' d' ks (strG ks (sqX ns pa pb) x (lowG g))) (ab:) ?_
    · exact ⟨_,Y,sc,_,kd,_,.ref te,Y,i4,T.af,T.al,Y,_,Y,sc,_,kd,_,.ref wo,Y,i4,T.af,T.aq,Y,_,Y,te,wo,M,ns,ks,g,x,pa,pb,Y,C4.ten,td,O.h64,C4.wor,O.sw,λy hy=>⟨(bd y hy).1,(bd y hy).2.1,(up (bd y hy).2.2.1).1,(up (bd y hy).2.2.2).1⟩,mv,(up bx.low.1.2.2.1).2,(up bx.low.1.2.2.2).2,λd' H' s' vj xp=>kh _ _ ⟨d',Y,s',vj,xp⟩⟩
    rintro σ H5 ⟨d',rfl,s5,vj,ad,w1,w2⟩;have yh:H d'=none:=m6.free vj;have wne:∀ y∈ks,ad y≠d':=λy hy z=>by have:=w2 y hy; rw [z,w1] at this; cases this
    have pos:∀ y∈ks,1<=(strG ks (sqX ns pa pb) x (lowG g) y).1/\1<=(strG ks (sqX ns pa pb) x (lowG g) y).2:=λy hy=>by
      have:=Zrk (ks:=ks) (B:=200) td mv bx (bd y hy);exact ⟨this.1,this.2.1⟩
    refine Js (λσ H'=>∃ v,σ=[some (.ref sc),some (.int x),some (.str (wayS left)),some (.ref p3),some (.ref D),v5,some (.ref D2),some (.ref d'),v]/\Same H5 H'/\∀ y∈ks,OkF (strG ks (sqX ns pa pb) x (lowG g) y)) (ab:) ?_
    · refine ⟨_,Y,d',_,Y,.inl ⟨w1,λo=>?_⟩⟩
      refine Zdi (kvs:=wD ks ad) (λi σ H6=>∃ v,σ=[some (.ref sc),some (.int x),some (.str (wayS left)),some (.ref p3),some (.ref D),v5,some (.ref D2),some (.ref d'),v]/\(∀ b u,b≠d'->H5 b=some u->H6 b=some u)/\H6 d'=some (.frz o (.dK (wD ks ad)))/\∀ y∈ks.take i,OkF (strG ks (sqX ns pa pb) x (lowG g) y)) ⟨none,Y,λb u hb e=>by rw [Zd hb]; exact e,Zb,λy hy=>by cases hy⟩ ?_ ?_ ?_
      · rintro i σ H6 _ ⟨v,rfl,_,e,_⟩
        exact e
      · rintro i k0 x0 σ H6 oq ⟨v,rfl,s6,e6,zc⟩
        obtain ⟨y,hy,rfl,rfl⟩:=Zom oq;have uv:=Au hy;refine ⟨_,Y,ad y,_,Y,s6 _ _ (wne y uv) (w2 y uv),λq1 q2=>⟨_,Y,s6,e6,λz hz=>?_⟩,λ_=>kE2 _ λb u e=>s6 b u (Zi e yh) (s5 _ _ (m6 _ _ e))⟩;rw [Aw,hy] at hz
        rcases mem_append.mp hz with hz | hz
        · exact zc z hz
        · rw [Af hz]
          exact ⟨(pos y uv).1,(pos y uv).2,q1,q2⟩
      · rintro σ H6 ⟨v,rfl,s6,e6,zc⟩
        rw [show (wD ks ad).length=ks.length by unfold wD; rw [Ab],take_length] at zc;exact ⟨d',o,_,e6,(λo' u z=>by have z:H d'=some (.frz o' u):=z; rw [yh] at z; cases z),kh _ _ ⟨v,rfl,Zaj w1 s6,zc⟩⟩
    rintro σ H6 ⟨v8,rfl,s6,zc⟩;have tf:=s5.trans s6;refine ⟨_,Y,_,Y,_,Y,_,Y,λr dr hr hdr kr=>⟨r,dr,_,_,_,_,Y,Zb,Y,?_⟩⟩;rw [Wb];have s7:Same H6 (upd (upd H6 dr (.own r)) r (.ins t.ag dr (X4 (.ref p3) (.ref D) (.ref D2) (.ref d')))):=Same.add (Same.new hdr) hr;have r7:(upd (upd H6 dr (.own r)) r (.ins t.ag dr (X4 (.ref p3) (.ref D) (.ref D2) (.ref d')))) r=some (.ins t.ag dr (X4 (.ref p3) (.ref D) (.ref D2) (.ref d'))):=Zb;generalize upd (upd H6 dr (.own r)) r (.ins t.ag dr (X4 (.ref p3) (.ref D) (.ref D2) (.ref d')))=H7 at s7 r7 ⊢;have p4:=tf.trans s7;have xg:=s4.trans p4;have xh:=s3.trans xg;have s17:=s2.trans xh;exact kQ r H7 ml f' _ (s1.trans s17) ⟨dr,p3,D,D2,d',l,l2,r7,xh _ _ h2,λy hy=>(by cases hy; exact xh _ _ lm),p4 _ _ h4,λy hy=>(by cases hy; exact hc4.same p4),w8.same s17,ad,(s6.trans s7) _ _ w1,λy hy=>(s6.trans s7) _ _ (w2 y hy)⟩ ⟨mv.td td,by rw [Jy]; exact O.h64,hP',wp,SwK.ex td mv left O.sw,zc⟩
def Wj (t:Adr):Sp:=λvs H Q E=>∃ (p:Addr) (H0:Hp) (M:Lq) (ns ks:List Int) (g:Int->Nat × Nat) (ws:List Nat) (f:Int->Int) (S U:List (aa:)) (x:Int) (left:Bool) (pa pb:Nat),vs=[.ref p,.int x,.str (wayS left)]/\Ya t.aa t.ag t.ae H H0 p ⟨M,ns,some ws,some f,ks,g⟩ S U/\OkD M ns ws ks g/\Mv M ns x pa pb/\S.length<=800 /\
 (∀ v H' km,(v=.ref t.aQ\/v=.ref t.aK)->Same H0 km->Ya t.aa t.ag t.ae H' km p ⟨M,ns,some ws,some f,ks,g⟩ S U->E v none H') /\
 ∀ rr ml f' g' H' km,Same H0 km->Ya t.aa t.ag t.ae H' km p ⟨exM left pa pb M,exN left pa pb ns,some ml,some f',ks,g'⟩ ((rr,⟨M,ns,some ws,some f,ks,g⟩) :: S) []->OkD (exM left pa pb M) (exN left pa pb ns) ml ks g'->Q .non H'
def Kt {L:List Addr} {H H':Hp} (s:Same (cutH L H) H'):Same H (X6 L H H'):=λb u e=>by
 by_cases z:InS L H b
 ·rw [Oj z]; exact e
 ·rw [Wh z]; exact s _ _ (by rw [W0 z]; exact e)
def HallB.at {CT CS CH:Addr} {H H0 H':Hp} {p dx be sc st un:Addr} {qs us:List Addr} {d:Sd} {S U:List (aa:)} (B:HallB CT CS CH H H0 p dx be sc st un qs us d S U) (s:Same H H'):Same H0 (Rs H' [p,dx,st,un])/\Ya CT CS CH H' (Rs H' [p,dx,st,un]) p d S U:=by
 have s0:Same H0 (Rs H' [p,dx,st,un]):=Vk (B.low.trans s) B.out;exact ⟨s0,dx,be,sc,st,un,qs,us,s _ _ B.ins,s _ _ B.own,s _ _ B.sta,s _ _ B.und,Rs.le,λ_=>Rs.out,B.su,B.cur.same s0,B.stk.same s0,B.unk.same s0⟩
def HallB.cut {CT CS CH:Addr} {H H0:Hp} {p dx be sc st un:Addr} {qs us:List Addr} {d:Sd} {S U:List (aa:)} (B:HallB CT CS CH H H0 p dx be sc st un qs us d S U):Cuts [p,st,un] H/\(∀ b,InS [p,st,un] H b->b∈[p,dx,st,un])/\Same H0 (cutH [p,st,un] H) /\
  ∀ H1,Same (cutH [p,st,un] H) H1->(∀ b,InS [p,st,un] H b->H1 b=none)->Same H (X6 [p,st,un] H H1)/\Same H1 (Rs (X6 [p,st,un] H H1) [p,dx,st,un]):=by
 have inL:∀ b∈[p,dx,st,un],InS [p,st,un] H b:=λb hb=>by
  rcases Ar hb with rfl | hb
  ·exact .inl (by simp)
  ·rcases Ar hb with rfl | hb
   ·exact .inr ⟨p,by simp,_,_,B.ins⟩
   ·rcases Ar hb with rfl | hb
    ·exact .inl (by simp)
    ·exact .inl (by simp [Af hb])
 have inR:∀ b,InS [p,st,un] H b->b∈[p,dx,st,un]:=λb hb=>by
  rcases hb with hb | ⟨a,ha,C,fs,e⟩
  ·rcases Ar hb with rfl | hb
   ·simp
   ·exact mem_cons_of_mem _ (mem_cons_of_mem _ hb)
  ·rcases Ar ha with rfl | ha
   ·rw [B.ins] at e; cases e; simp
   ·rcases Ar ha with rfl | ha
    ·rw [B.sta] at e; cases e
    ·rw [Af ha,B.und] at e; cases e
 refine ⟨λa ha=>?_,inR,λb u e=>?_,λH1 s1 hn=>⟨Kt s1,λb u e=>?_⟩⟩
 ·rcases Ar ha with rfl | ha
  ·exact .inr ⟨_,_,_,B.ins⟩
  ·rcases Ar ha with rfl | ha
   ·exact .inl ⟨_,B.sta⟩
   ·exact .inl ⟨_,(Af ha) ▸ B.und⟩
 ·rw [W0 (λz=>by rw [B.out b (inR b z)] at e; cases e)]; exact B.low _ _ e
 ·have hb:b ∉ [p,dx,st,un]:=λz=>by rw [hn b (inL b z)] at e; cases e
  exact Rs.at (by rw [Wh (λz=>hb (inR b z))]; exact e) hb
def Ks:FnScope ["self","seam","way","behind"] ["self","seam","way"] (Zg Fi):=Am
def F4 (T:Txt w K mg t):(a:) 8 t.bf t.bi ["scene","seam","way"] (λvs H Q E=>∃ S,Cuts S H/\Zcs t vs (cutH S H) (λv H'=>(∀ b,InS S H b->H' b=none)->Q v (X6 S H H')) (λv o H'=>(∀ b,InS S H b->H' b=none)->E v o (X6 S H H'))):=(Zba T).frame
def Zgg (T:Txt w K mg t):(a:) 9 t.eO t.ft ["self","seam","way"] (Wj t):=by
 refine T.cQ.F.aX Ks (b:)
 ·obtain ⟨p,H0,M,ns,ks,g,ws,f,S,U,x,left,pa,pb,rfl,⟨dx,be,sc,st,un,qs,us,B⟩,O,mv,hS,kE,kQ⟩:=h
  obtain ⟨kd,te,th,po,wo,a0,c0,i0,C0⟩:=B.cur;have hu:=Xb hr;refine ⟨_,(Zy (Qg (i:=3) Ks.nd Y (Or.inl Y) (pxT (F4 T) hr T.cP (Za (Zp (pv 0) Y) (Za (pv 1) (U:)))))
   (Z4 (Ye (Z8 (Yf (pv 0) T.ac T.ap.m (Wx T) (ai:) T.ap.b .nil Z1 (Za (pcT (Qt T) hr T.bn (Za (Yr (Za Z5 (Za (pv 1) (U:)))) Zc)) (Za (pv 3) Zc))))))),?_⟩
  obtain ⟨cu,_,sc0,cj⟩:=B.cut;have hA:Ya t.aa t.ag t.ae H H0 p ⟨M,ns,some ws,some f,ks,g⟩ S U:=⟨dx,be,sc,st,un,qs,us,B⟩;refine ⟨_,Y,p,_,dx,_,.ref sc,Y,B.ins,T.ac,T.ah,Y,_,Y,_,Y,[p,st,un],cu,?_⟩;refine ⟨sc,kd,te,th,po,wo,a0,c0,M,ns,ks,g,ws,f,x,left,pa,pb,Y,sc0 _ _ i0,C0.same sc0,O,mv,λH1 s1 _=>kE _ _ _ (.inl Y) (Same.refl _) (hA.same (Kt s1)),λH1 s1 _=>kE _ _ _ (.inr Y) (Same.refl _) (hA.same (Kt s1)),λr H1 ml f' g' s1 S1 O' hn=>?_⟩;obtain ⟨sJ,sR⟩:=cj H1 s1 hn;generalize X6 [p,st,un] H H1=J at sJ sR ⊢;have hp:=sJ _ _ B.ins;refine ⟨_,Y,p,dx,_,Y,hp,Y,?_⟩;refine ⟨_,Y,_,Y,(by show 3<=sizeLine; decide),λl2 lm=>?_⟩;have s6:=Same.new (o:=.lst [V.str (Str.ofString "turn"),V.int x,V.str (wayS left)]) lm;obtain ⟨hk,_⟩:=mv.two O.td;obtain ⟨i,hi,xn⟩:=Y2.mp hk;have xr:=O.td.rng i x xn;have vp:=Int.lt_of_le_of_lt xr.2 (by decide:(9999:Int) < 1000000000000000000000000000000000000000000000000000000000000);refine ⟨l2,[.inl (Str.ofString "turn"),.inr x,.inl (wayS left)],rfl,Zb,(by show 3<=900; decide),λy hy=>?_,?_,λH8 s8=>?_⟩
  ·rcases Ar hy with rfl | hy
   ·exact True.intro
   ·rcases Ar hy with rfl | hy
    ·exact ⟨xr.1,vp⟩
    ·rw [Af hy]; exact True.intro
  ·have h1:=Zbn xr.1 vp
   have h2:(wayS left).length<=5:=by cases left <;> decide
   show (4 + ((figS x).length + ((wayS left).length + 0))) + 3<=1048576;lia
  generalize Txt.join (Str.ofString " ") _=rr;have sJ8:=s6.trans s8;have wf:=sJ.trans sJ8;have sr8:Same (Rs J [p,dx,st,un]) (Rs H8 [p,dx,st,un]):=Vk (Rs.le.trans sJ8) λb hb=>Rs.out hb;refine ⟨_,Y,?_⟩;exact B.entr (E:=E0) wf hS (Vk (B.low.trans wf) B.out) (S1.same (sR.trans sr8)) λH' km z1 z2=>kQ rr ml f' g' H' km z1 z2 O'
def Zoy (H:Hp) (st:Addr) (ds:List Str):Prop:=∃ qs:List Addr,H st=some (.lst (qs.map V.ref))/\qs.length=ds.length/\∀ (i:Nat) (q:Addr) (x:Str),qs[i]?=some q->ds[i]?=some x->∃ v,H q=some (.tup [.str x,v])
def Zd2 (CH:Addr):Sp:=λvs H Q _=>∃ (p dx be sc st un:Addr) (ds:List Str),vs=[.ref p]/\H p=some (.ins CH dx (Y0 be sc st un))/\Zoy H st ds/\ds.length<=900/\∀ (l:Addr) (H':Hp),Same H H'->H l=none->H' l=some (.lst (ds.map V.str))->Q (.ref l) H'
def Zea:FnScope ["self"] ["self"] (Zg K1):=Am
def Zed (T:Txt w K mg t):(a:) 1 t.bS t.bT ["self"] (Zd2 t.ae):=by
 refine T.aP.F.aR Zea (b:)
 ·obtain ⟨p,dx,be,sc,st,un,ds,rfl,hp,⟨qs,d1,d2,d3⟩,hl,k⟩:=h
  refine ⟨_,(Zh (Zl (Yv (ts:=["text","earlier"]) (fv:=[]) (s:) rfl (Yx (as:)) (λ_ _ _ _=>(Qj (n:=2) K rfl (Zw (Zk (i:=0) (show List.Nodup (["text","earlier"]:List Str) from by decide +kernel) rfl (g:) (I:)) (Zw (Zk (i:=1) (show List.Nodup (["text","earlier"]:List Str) from by decide +kernel) rfl (g:) (I:)) Yz)))) (ah:) (N:) (λ_ _ _ _ _ _=>Yj (pv 0))))),?_⟩;refine ⟨_,Y,p,_,dx,_,.ref st,Y,hp,T.ac,T.av,Y,st,Y,⟨_,SqL.of d1⟩,λD hD=>?_⟩;refine Ym (xs:=qs.map V.ref) (λi σ H6=>∃ v v',σ=[v,v']/\Same H H6/\H6 D=some (.lst ((ds.take i).map V.str))) ⟨none,none,Y,Same.new hD,Zb⟩ ?_ ?_ ?_
  ·rintro i σ H6 _ ⟨v,v',rfl,s6,_⟩
   exact SqL.of (s6 _ _ d1)
  ·rintro i y σ H6 hy ⟨v,v',rfl,s6,h6⟩
   rw [Ah] at hy;obtain ⟨q,hq,rfl⟩:=Option.map_eq_some_iff.mp hy;have hil:i < qs.length:=(Aa hq).1;obtain ⟨x,hx⟩:∃ x,ds[i]?=some x:=⟨_,Ac (by lia)⟩;obtain ⟨e,he⟩:=d3 i q x hq hx;dsimp only [Zo];refine ⟨q,_,Y,SqT.of (s6 _ _ he),Y,_,_,Y,_,_,Y,Y,?_⟩;dsimp only [Zo,tYes];rw [if_pos rfl];refine ⟨_,Y,_,h6,by rw [Ab,Ai]; exact Zt (by lia),_,_,Y,Same.add s6 hD,?_⟩;rw [Zb,Aw,hx,Aj];rfl
  ·rintro σ H6 ⟨v,v',rfl,s6,h6⟩
   rw [Ab,d2,take_length] at h6;exact k D H6 s6 hD h6
noncomputable def txs (S:List (aa:)):List Str:=(S.map (·.1)).reverse
structure VwB (H:Hp) (v r tt q fr l:Addr) (d:Sd) (S:List (aa:)):Prop where
 tup:H v=some (.tup [.ref r,.ref tt,.ref q,.ref fr,.ref l])
 rows:Yq H r d.ns
 thr:∃ (a:Addr) (ws:List Nat),d.tw=some ws/\H tt=some (.lst [.ref a])/\H a=some (aq:)
 poo:(d.q=none/\H q=some (.lst []))\/∃ (c:Addr) (f:Int->Int),d.q=some f/\H q=some (.lst [.ref c])/\X7 H c d.ns f
 wor:WAt H fr d.ks d.g
 ded:H l=some (.lst ((txs S).map V.str))
def Vw (H:Hp) (v:Addr) (d:Sd) (S:List (aa:)):Prop:=∃ r tt q fr l:Addr,VwB H v r tt q fr l d S
def Vw.same {H H':Hp} {v:Addr} {d:Sd} {S:List (aa:)} (h:Vw H v d S) (s:Same H H'):Vw H' v d S:=by
 obtain ⟨r,tt,q,fr,l,h⟩:=h;refine ⟨r,tt,q,fr,l,s _ _ h.tup,h.rows.same s,?_,?_,h.wor.same s,s _ _ h.ded⟩
 ·obtain ⟨a,ws,e,h1,h2⟩:=h.thr
  exact ⟨a,ws,e,s _ _ h1,s _ _ h2⟩
 ·rcases h.poo with ⟨e,h1⟩ | ⟨c,f,e,h1,h2⟩
  ·exact .inl ⟨e,s _ _ h1⟩
  ·exact .inr ⟨c,f,e,s _ _ h1,h2.same s⟩
def Zq3 {K:W.Frag} {H:Hp} {a b:Addr} {ns:List Int} (ha:H a=some (.tup (H:))) (hb:H b=some (.tup (H:))) (h:SeqAt.shaped (.tuple (ns.map PyData.int))=true):W1 K H (.ref a) (.ref b) :=
 .inr (.inl ⟨_,.tup (SqT.of ha) (DVs.ints ns),.tup (SqT.of hb) (DVs.ints ns),h⟩)
def Zo1 {K:W.Frag} {H:Hp} {a b:Addr} {ns:List Int} (ha:H a=some (.lst (H:))) (hb:H b=some (.lst (H:))):W1 K H (.ref a) (.ref b) :=
 .inr (.inl ⟨_,.lst (SqL.of ha) (DVs.ints ns),.lst (SqL.of hb) (DVs.ints ns),PySem.W.ke_shaped_ints ns⟩)
def Zq4 {K:W.Frag} {H:Hp} {a b:Addr} {ns:List Int} {f:Int->Int} (ha:X7 H a ns f) (hb:X7 H b ns f):W1 K H (.ref a) (.ref b):=by
 obtain ⟨ka,ea,pa⟩:=ha;obtain ⟨kb,eb,pb⟩:=hb;refine .inr (.inr ⟨a,b,_,_,Y,Y,.inl ea,.inl eb,?_,λp hp=>?_,λp hp=>?_,λk v hk=>?_⟩)
 ·unfold dI
  rw [Ab,Ab,pa.length_eq,pb.length_eq]
 ·unfold dI at hp; obtain ⟨x,_,rfl⟩:=mem_map.mp hp; exact ⟨x,Y⟩
 ·unfold dI at hp; obtain ⟨x,_,rfl⟩:=mem_map.mp hp; exact ⟨x,Y⟩
 ·unfold dI at hk
  obtain ⟨x,hx,e⟩:=mem_map.mp hk;cases e;exact ⟨_,_,Zmq (pb.mem_iff.mpr (pa.mem_iff.mp hx)),.int _,.int _,Y⟩
def Zq2 {K:W.Frag} {H:Hp} {a b:Addr} {ks:List Int} {g:Int->Nat × Nat} (ha:WAt H a ks g) (hb:WAt H b ks g):W1 K H (.ref a) (.ref b):=by
 obtain ⟨ka,ea,pa⟩:=ha;obtain ⟨kb,eb,pb⟩:=hb;refine .inr (.inr ⟨a,b,_,_,Y,Y,.inl ea,.inl eb,?_,λp hp=>?_,λp hp=>?_,λk v hk=>?_⟩)
 ·unfold wD
  rw [Ab,Ab]
 ·unfold wD at hp; obtain ⟨x,_,rfl⟩:=mem_map.mp hp; exact ⟨x,Y⟩
 ·unfold wD at hp; obtain ⟨x,_,rfl⟩:=mem_map.mp hp; exact ⟨x,Y⟩
 ·unfold wD at hk
  obtain ⟨x,hx,e⟩:=mem_map.mp hk;cases e;exact ⟨.tuple [.int (g x).1,.int (g x).2],_,Zen.trans (if_pos hx),.tup (SqT.of (pa x hx)) (.cons (.int _) (.cons (.int _) .nil)),.tup (SqT.of (pb x hx)) (.cons (.int _) (.cons (.int _) .nil)),by simp [SeqAt.shaped,PyData.canLay0,PyData.canLayAll0,PyData.depth,PyData.depthAll]⟩
def Zk4 {K:W.Frag} {H:Hp} {a b:Addr} {ns:List Int} (ha:Yq H a ns) (hb:Yq H b ns):∃ xs ys,SqL K H a xs/\SqL K H b ys/\xs.length=ys.length/\∀ (i:Nat) u v,xs[i]?=some u->ys[i]?=some v->W1 K H u v:=by
 obtain ⟨ta,e1,l1,q1⟩:=ha;obtain ⟨tb,e2,l2,q2⟩:=hb;refine ⟨_,_,SqL.of e1,SqL.of e2,by rw [Ab,Ab]; lia,λi u v hu hv=>?_⟩;obtain ⟨x,hx,rfl⟩:=map_some hu;obtain ⟨y,hy,rfl⟩:=map_some hv;exact Zq3 (ns:=[ns.getD (3 * i) 0,ns.getD (3 * i + 1) 0,ns.getD (3 * i + 2) 0]) (q1 i x hx) (q2 i y hy) (by simp [SeqAt.shaped,PyData.canLay0,PyData.canLayAll0,PyData.depth,PyData.depthAll])
def Zo0 {K:W.Frag} {H:Hp} {a b:Addr} {ns:List Int} (ha:Yq H a ns) (hb:Yq H b ns):W2 K H (.ref a) (.ref b):=by
 obtain ⟨xs,ys,h1,h2,h3,h4⟩:=Zk4 (K:=K) ha hb;exact .inr ⟨a,b,xs,ys,Y,Y,h1,h2,h3,h4⟩
def Zke {K:W.Frag} {H:Hp} {a b:Addr} {x y:V} (ha:H a=some (.lst [x])) (hb:H b=some (.lst [y])) (h:W1 K H x y):W2 K H (.ref a) (.ref b) :=
 .inr ⟨a,b,_,_,rfl,rfl,SqL.of ha,SqL.of hb,rfl,λi u v hu hv=>by
  cases i with
  | zero=>cases hu; cases hv; exact h
  | succ i=>cases hu⟩
def Zh1 {K:W.Frag} {H:Hp} {a b:Addr} {ds:List Str} (ha:H a=some (.lst (ds.map V.str))) (hb:H b=some (.lst (ds.map V.str))):W2 K H (.ref a) (.ref b) :=
 .inr ⟨a,b,_,_,rfl,rfl,SqL.of ha,SqL.of hb,rfl,λi u v hu hv=>by
  obtain ⟨x,hx,rfl⟩:=map_some hu;obtain ⟨y,hy,rfl⟩:=map_some hv;rw [hx] at hy; cases hy
  exact .inl ⟨x,Y,Y⟩⟩
def Vw.alike {K:W.Frag} {H:Hp} {v v':Addr} {d:Sd} {S:List (aa:)} (h:Vw H v d S) (h':Vw H v' d S):∃ a b xs ys,V.ref v=.ref a/\V.ref v'=.ref b/\SqT K H a xs/\SqT K H b ys/\xs.length=ys.length/\∀ (i:Nat) x y,xs[i]?=some x->ys[i]?=some y->W2 K H x y:=by
 obtain ⟨r,tt,q,fr,l,h⟩:=h;obtain ⟨r',tt',q',fr',l',h'⟩:=h';refine ⟨v,v',_,_,Y,Y,SqT.of h.tup,SqT.of h'.tup,Y,λi x y hx hy=>?_⟩
 match i,hx,hy with
 | 0,rfl,rfl=>exact Zo0 h.rows h'.rows
 | 1,rfl,rfl =>
  obtain ⟨a,ws,e,h1,h2⟩:=h.thr;obtain ⟨b,us,e',h3,h4⟩:=h'.thr;rw [e] at e'; cases e';exact Zke h1 h3 (Zo1 (ns:=wI ws) (by rw [<- Go]; exact h2) (by rw [<- Go]; exact h4))
 | 2,rfl,rfl =>
  rcases h.poo with ⟨e,h1⟩ | ⟨c,f,e,h1,h2⟩
  ·rcases h'.poo with ⟨_,h3⟩ | ⟨c',f',e',_⟩
   ·exact Zh1 (ds:=[]) h1 h3
   ·rw [e] at e'; cases e'
  ·rcases h'.poo with ⟨e',_⟩ | ⟨c',f',e',h3,h4⟩
   ·rw [e] at e'; cases e'
   ·rw [e] at e'; cases e'
    exact Zke h1 h3 (Zq4 h2 h4)
 | 3,rfl,rfl=>exact .inl (Zq2 h.wor h'.wor)
 | 4,rfl,rfl=>exact Zh1 h.ded h'.ded
 | i + 5,hx,_=>cases hx
def Zb5 (CT CS CH:Addr):Sp:=λvs H Q _=>∃ (p:Addr) (H0:Hp) (d:Sd) (S U:List (aa:)) (ws:List Nat),vs=[.ref p,.str (t:)]/\Ya CT CS CH H H0 p d S U/\d.tw=some ws/\∀ l,H l=none->Q (.ref l) (upd H l (aq:))
def Ze6 (CT CS CH:Addr):Sp:=λvs H Q _=>∃ (p:Addr) (H0:Hp) (d:Sd) (S U:List (aa:)) (f:Int->Int),vs=[.ref p,.str (D:)]/\Ya CT CS CH H H0 p d S U/\d.q=some f/\∀ (l:Addr) (ks:List Int),H l=none->ks.Perm (keys d.ns d.ns.length)->Q (.ref l) (upd H l (.dK (dI ks f)))
def Zd1 (CT CS CH:Addr):Sp:=λvs H Q _=>∃ (p:Addr) (H0:Hp) (d:Sd) (S U:List (aa:)) (ws:List Nat),vs=[.ref p]/\Ya CT CS CH H H0 p d S U/\d.tw=some ws/\∀ l,H l=none->Q (.ref l) (upd H l (.lst [.str (t:)]))
def Fw (CT CS CH:Addr):Sp:=λvs H Q _=>∃ (p:Addr) (H0:Hp) (d:Sd) (S U:List (aa:)),vs=[.ref p]/\Ya CT CS CH H H0 p d S U/\(d.q=none->∀ l,H l=none->Q (.ref l) (upd H l (.lst [])))/\∀ f,d.q=some f->∀ l,H l=none->Q (.ref l) (upd H l (.lst [.str (D:)]))
def Gx (CT CS CH:Addr):Sp:=λvs H Q _=>∃ (p:Addr) (H0:Hp) (d:Sd) (S U:List (aa:)),vs=[.ref p]/\Ya CT CS CH H H0 p d S U /\
 ∀ (l:Addr) (H':Hp),Same H H'->H l=none->Yq H' l d.ns->Q (.ref l) H'
def Gy (CT CS CH:Addr):Sp:=λvs H Q _=>∃ (p:Addr) (H0:Hp) (d:Sd) (S U:List (aa:)),vs=[.ref p]/\Ya CT CS CH H H0 p d S U/\∀ (l:Addr) (H':Hp),Same H H'->WAt H' l d.ks d.g->Q (.ref l) H'
def Zkv (CT CS CH:Addr):Sp:=λvs H Q _=>∃ (p:Addr) (H0:Hp) (d:Sd) (S U:List (aa:)),vs=[.ref p]/\Ya CT CS CH H H0 p d S U/\S.length<=900/\∀ (l:Addr) (H':Hp),Same H H'->H l=none->H' l=some (.lst ((txs S).map V.str))->Q (.ref l) H'
def Zpf (CT CS CH:Addr):Sp:=λvs H Q _=>∃ (p:Addr) (H0:Hp) (d:Sd) (S U:List (aa:)) (ws:List Nat),vs=[.ref p]/\Ya CT CS CH H H0 p d S U/\d.tw=some ws/\S.length<=900/\∀ (v:Addr) (H' km:Hp),Same H0 km->Ya CT CS CH H' km p d S U->Vw km v d S->Q (.ref v) H'
def okV:HO->Prop
 | .ins _ _ _=>False
 | .own _=>False
 | .lst _=>False
 | _=>True
def HallB.kind {CT CS CH:Addr} {H H0 H':Hp} {p dx be sc st un b:Addr} {u:HO} {qs us:List Addr} {d:Sd} {S U:List (aa:)} (B:HallB CT CS CH H H0 p dx be sc st un qs us d S U) (s:Same H H') (e:H' b=some u) (c:okV u):b ∉ [p,dx,st,un]:=λz=>by
 rcases Ar z with rfl | z
 ·rw [s _ _ B.ins] at e; cases e; exact c
 ·rcases Ar z with rfl | z
  ·rw [s _ _ B.own] at e; cases e; exact c
  ·rcases Ar z with rfl | z
   ·rw [s _ _ B.sta] at e; cases e; exact c
   ·rw [Af z,s _ _ B.und] at e; cases e; exact c
theorem Stk.at {CT CS:Addr} {H:Hp}:∀ {qs:List Addr} {S:List (aa:)},Stk CT CS H qs S->∀ (i:Nat) (q:Addr) (e:Str × Sd),qs[i]?=some q->S[i]?=some e->∃ s,H q=some (.tup [.str e.1,s])
 | [],[],_,i,q,e,h,_=>by cases h
 | [],_ :: _,h,_,_,_,_,_=>h.elim
 | _ :: _,[],h,_,_,_,_,_=>h.elim
 | q0 :: qs,d :: ds,h,i,q,e,h1,h2=>by
  cases i with
  | zero=>cases h1; cases h2; obtain ⟨⟨s,a,_⟩,_⟩:=h; exact ⟨_,a⟩
  | succ i=>exact Stk.at h.2 i q e h1 h2
def HallB.deeds {CT CS CH:Addr} {H H0:Hp} {p dx be sc st un:Addr} {qs us:List Addr} {d:Sd} {S U:List (aa:)} (B:HallB CT CS CH H H0 p dx be sc st un qs us d S U):Zoy H st (txs S):=by
 have hl:=B.stk.len;refine ⟨qs.reverse,B.sta,by unfold txs; rw [length_reverse,length_reverse,Ab]; exact hl,λi q x h1 h2=>?_⟩;unfold txs at h2;have hi:i < qs.length:=by have:=(Aa h1).1; rw [length_reverse] at this; exact this
 rw [getElem?_reverse hi] at h1;rw [getElem?_reverse (by rw [Ab]; lia),Ab,Ah,<- hl] at h2;obtain ⟨e,he,rfl⟩:=Option.map_eq_some_iff.mp h2;obtain ⟨s,q⟩:=B.stk.at _ _ _ h1 he;exact ⟨s,B.low _ _ q⟩
def Zcb:FnScope ["self","name"] ["self","name"] (Zg Kb):=Am
def Zcm (T:Txt w K mg t):(a:) 1 t.df t.dm ["self","name"] (Zb5 t.aa t.ag t.ae):=by
 refine T.bA.F.aR Zcb (b:)
 ·obtain ⟨p,H0,d,S,U,ws,rfl,⟨dx,be,sc,st,un,qs,us,B⟩,e,k⟩:=h
  have hu:=Xb hr;obtain ⟨kd,te,th,po,wo,a0,c0,i0,C⟩:=B.cur;have C:=C.same B.low;have i1:=B.low _ _ i0;refine ⟨_,(Ze (Z9 (J4 (Q0 hu (pv 1) (Zp (Zp (pv 0) Y) Y)) (am:)) Yy Zz)
   (Zh (Zl (Ys X3 (by rfl) T.b6 PySem.Pv.boot_list (Za (Wy hu (Zp (as:) rfl) (pv 1) (j:)) Zc))))),?_⟩
  have g:=Zo4 C.thr;rw [e] at g;refine ⟨_,Y,_,Y,p,_,dx,_,.ref sc,Y,B.ins,T.ac,T.ah,Y,sc,_,kd,_,.ref th,Y,i1,T.af,T.aj,Y,th,_,Y,g,_,Y,iteF ?_⟩;exact ⟨_,Y,p,_,dx,_,.ref sc,Y,B.ins,T.ac,T.ah,Y,sc,_,kd,_,.ref th,Y,i1,T.af,T.aj,Y,_,Y,th,_,Y,g,a0,_,Y,.inl (SqL.of (C.wrd _ e)),k⟩
def Zfh:FnScope ["self","name"] ["self","name"] (Zg Fk):=Am
def Zgh (T:Txt w K mg t):(a:) 1 t.eQ t.fz ["self","name"] (Ze6 t.aa t.ag t.ae):=by
 refine T.cR.F.aR Zfh (b:)
 ·obtain ⟨p,H0,d,S,U,f,rfl,⟨dx,be,sc,st,un,qs,us,B⟩,e,k⟩:=h
  have hu:=Xb hr;obtain ⟨kd,te,th,po,wo,a0,c0,i0,C⟩:=B.cur;have C:=C.same B.low;have i1:=B.low _ _ i0;refine ⟨_,(Ze (Z9 (J4 (Q0 hu (pv 1) (Zp (Zp (pv 0) Y) Y)) (am:)) Yy Zz)
   (Zh (Zl (Ys Wt (by rfl) T.dz PySem.Pv.boot_dict (Za (Wy hu (Zp (as:) rfl) (pv 1) (j:)) Zc))))),?_⟩
  have g:=Zid C.poo;rw [e] at g;obtain ⟨ks,hc,pm⟩:=C.cnt f e;refine ⟨_,Y,_,Y,p,_,dx,_,.ref sc,Y,B.ins,T.ac,T.ah,Y,sc,_,kd,_,.ref po,Y,i1,T.af,T.ak,Y,po,_,Y,g,_,Y,iteF ?_⟩;exact ⟨_,Y,p,_,dx,_,.ref sc,Y,B.ins,T.ac,T.ah,Y,sc,_,kd,_,.ref po,Y,i1,T.af,T.ak,Y,_,Y,po,_,Y,g,c0,_,Y,.inl hc,λl hl=>k l ks hl pm⟩
def Zd8:FnScope ["self"] ["self"] (Zg Kz):=Am
def Zec (T:Txt w K mg t):(a:) 1 t.dH t.dX ["self"] (Zd1 t.aa t.ag t.ae):=by
 refine T.bZ.F.aR Zd8 (b:)
 ·obtain ⟨p,H0,d,S,U,ws,rfl,⟨dx,be,sc,st,un,qs,us,B⟩,e,k⟩:=h
  obtain ⟨kd,te,th,po,wo,a0,c0,i0,C⟩:=B.cur;have C:=C.same B.low;have i1:=B.low _ _ i0;refine ⟨_,(Zh (Zl (Zn (Kh Y) (by rfl) T.bQ PyProof.Rows.boot_sorted (Za (Zp (Zp (pv 0) Y) Y) Zc)))),?_⟩;have xt:=C.thr;rw [e] at xt;refine ⟨_,Y,p,_,dx,_,.ref sc,Y,B.ins,T.ac,T.ah,Y,sc,_,kd,_,.ref th,Y,i1,T.af,T.aj,Y,th,_,[Str.ofString "most"],rfl,.inl xt,rfl,by show 1 < 64; decide,λq out hq hp _=>?_⟩;rw [perm_singleton.mp hp];exact k q hq
def F0:FnScope ["self"] ["self"] (Zg Ur):=Am
def F9 (T:Txt w K mg t):(a:) 1 t.ck t.cw ["self"] (Fw t.aa t.ag t.ae):=by
 refine T.aZ.F.aR F0 (b:)
 ·obtain ⟨p,H0,d,S,U,rfl,⟨dx,be,sc,st,un,qs,us,B⟩,k1,k2⟩:=h
  obtain ⟨kd,te,th,po,wo,a0,c0,i0,C⟩:=B.cur;have C:=C.same B.low;have i1:=B.low _ _ i0;refine ⟨_,(Zh (Zl (Zn (Kh Y) (by rfl) T.bQ PyProof.Rows.boot_sorted (Za (Zp (Zp (pv 0) Y) Y) Zc)))),?_⟩;have vd:=C.poo
  cases e:d.q with
  | none =>
   rw [e] at vd;refine ⟨_,Y,p,_,dx,_,.ref sc,Y,B.ins,T.ac,T.ah,Y,sc,_,kd,_,.ref po,Y,i1,T.af,T.ak,Y,po,_,[],Y,.inl vd,Y,by show 0 < 64; decide,λq out hq hp _=>?_⟩;rw [perm_nil.mp hp];exact k1 e q hq
  | some f =>
   rw [e] at vd;refine ⟨_,Y,p,_,dx,_,.ref sc,Y,B.ins,T.ac,T.ah,Y,sc,_,kd,_,.ref po,Y,i1,T.af,T.ak,Y,po,_,[Str.ofString "part"],rfl,.inl vd,rfl,by show 1 < 64; decide,λq out hq hp _=>?_⟩;rw [perm_singleton.mp hp];exact k2 f e q hq
def G0:FnScope ["self"] ["self"] (Zg Vt):=Am
def Vb (T:Txt w K mg t):(a:) 2 t.bD t.bK ["self"] (Gx t.aa t.ag t.ae):=by
 refine T.aA.F.aR G0 (b:)
 ·obtain ⟨p,H0,d,S,U,rfl,⟨dx,be,sc,st,un,qs,us,B⟩,k⟩:=h
  obtain ⟨kd,te,th,po,wo,a0,c0,i0,C⟩:=B.cur;have C:=C.same B.low;have i1:=B.low _ _ i0;refine ⟨_,(Zh (Zl (Xa (Zp (Zp (pv 0) Y) Y) T.ai T.aG.m (V7 T) (ai:) T.aG.b .nil Z1))),?_⟩;obtain ⟨dt,cl,na,sp,mt,o,f,BT⟩:=id C.ten;exact ⟨_,Y,p,_,dx,_,.ref sc,Y,B.ins,T.ac,T.ah,Y,sc,_,kd,_,.ref te,Y,i1,T.af,T.al,Y,te,dt,_,Y,BT.ins,Yu _ _ _ _,te,d.M,d.ns,Y,C.ten,λl ts hl h1 h2=>k l _ (Same.new hl) hl ⟨ts,Zb,h1,λi q e=>Same.new hl _ _ (h2 i q e)⟩⟩
def G1:FnScope ["self"] ["self"] (Zg Vu):=Am
def G3 (T:Txt w K mg t):(a:) 1 t.bE t.bL ["self"] (Gy t.aa t.ag t.ae):=by
 refine T.aS.F.aR G1 (b:)
 ·obtain ⟨p,H0,d,S,U,rfl,⟨dx,be,sc,st,un,qs,us,B⟩,k⟩:=h
  obtain ⟨kd,te,th,po,wo,a0,c0,i0,C⟩:=B.cur;have C:=C.same B.low;have i1:=B.low _ _ i0;obtain ⟨aw,w1,w2⟩:=C.wor;refine ⟨_,(Zh (Zl (Ys Wt (by rfl) T.dz PySem.Pv.boot_dict (Za (Zp (Zp (pv 0) Y) Y) Zc)))),?_⟩;exact ⟨_,Y,p,_,dx,_,.ref sc,Y,B.ins,T.ac,T.ah,Y,sc,_,kd,_,.ref wo,Y,i1,T.af,T.aq,Y,wo,_,Y,.inl w1,λl hl=>k l _ (Same.new hl) ⟨aw,Zb,λx hx=>Same.new hl _ _ (w2 x hx)⟩⟩
def Og (T:Txt w K mg t):(a:) 1 t.bS t.bT ["self"] (Zkv t.aa t.ag t.ae):=(Zed T).imp λvs H Q E h=>by
 obtain ⟨p,H0,d,S,U,rfl,⟨dx,be,sc,st,un,qs,us,B⟩,hl,k⟩:=h;exact ⟨p,dx,be,sc,st,un,txs S,Y,B.ins,B.deeds,by unfold txs; rw [length_reverse,Ab]; exact hl,λl H' s n e=>k l H' s n e⟩
def Kq:FnScope ["_law_hall","_law_threads","_law_pools"] ["_law_hall"] (Zg Zfo):=Am
def Uv (T:Txt w K mg t):(a:) 3 t.iu t.iJ ["_law_hall"] (Zpf t.aa t.ag t.ae):=by
  refine T.cT.F.aR Kq (b:)
  · obtain ⟨p,H0,d,S,U,ws,rfl,hA,e,hl,k⟩:=h
    obtain ⟨dx,be,sc,st,un,qs,us,B⟩:=id hA;refine ⟨_,(Ze (Xv (ts:=["_law_name"]) (fv:=[("_law_hall",0)]) (i:=1) (c:) rfl Kq.nd rfl rfl (by rfl) (Yx (Xa (pv 0) T.ac T.bZ.m (Zec T) (ai:) T.bZ.b .nil Z1)) (λ_ _ _ _=>(Zk (i:=0) (show List.Nodup (["_law_name","_law_hall"]:List Str) from by decide +kernel) rfl (g:) (I:))) (ah:) (N:) (λ_ _ _ _ _ _=>Yj (Ys (Zeg K) (by rfl) T.b6 PySem.Pv.boot_list (Za (Yf (pv 1) T.ac T.bA.m (Zcm T) (ai:) T.bA.b .nil Z1 (Za (pv 0) Zc)) Zc))))
      (Ze (Xv (ts:=["_law_name"]) (fv:=[("_law_hall",0)]) (i:=2) (c:) rfl Kq.nd rfl rfl (by rfl) (Yx (Xa (pv 0) T.ac T.aZ.m (F9 T) (ai:) T.aZ.b .nil Z1)) (λ_ _ _ _=>(Zk (i:=0) (show List.Nodup (["_law_name","_law_hall"]:List Str) from by decide +kernel) rfl (g:) (I:))) (ah:) (N:) (λ_ _ _ _ _ _=>Yj (Ys Wt (by rfl) T.dz PySem.Pv.boot_dict (Za (Yf (pv 1) T.ac T.cR.m (Zgh T) (ai:) T.cR.b .nil Z1 (Za (pv 0) Zc)) Zc))))
      (Zh (Zl (Xg (Za (Xa (pv 0) T.ac T.aA.m (Vb T) (ai:) T.aA.b .nil Z1) (Za (pv 1) (Za (pv 2) (Za (Xa (pv 0) T.ac T.aS.m (G3 T) (ai:) T.aS.b .nil Z1) (Za (Xa (pv 0) T.ac T.aP.m (Og T) (ai:) T.aP.b .nil Z1) Zc)))))))))),?_⟩
    refine Yc (λσ H'=>∃ tt a:Addr,σ=[some (.ref p),some (.ref tt),none]/\Same H H'/\(H tt=none/\H a=none)/\H' tt=some (.lst [.ref a])/\H' a=some (aq:)) (ab:) ?_
    · refine ⟨_,Y,p,dx,_,Y,B.ins,Y,p,H0,d,S,U,ws,Y,hA,e,λl l7=>?_⟩
      have s1:Same H (upd H l (.lst [.str (t:)])):=Same.new l7;have h1:(upd H l (.lst [.str (t:)])) l=some (.lst [.str (t:)]):=Zb;generalize upd H l (.lst [.str (Str.ofString "most")])=H1 at s1 h1 ⊢;refine ⟨l,Y,⟨_,SqL.of h1⟩,λD hD=>?_⟩;refine Ym (xs:=[.str (t:)]) (λi σ H6=>∃ v,σ=[v,some (.ref p)]/\Same H1 H6/\(i=0->H6 D=some (.lst []))/\(i=1->∃ a,H a=none/\H6 D=some (.lst [.ref a])/\H6 a=some (aq:))) ⟨none,rfl,Same.new hD,λ_=>Zb,λz=>nomatch z⟩ ?_ ?_ ?_
      · rintro i σ H6 _ ⟨v,rfl,s6,_⟩
        exact SqL.of (s6 _ _ h1)
      · rintro i y σ H6 hy ⟨v,rfl,s6,h6,_⟩
        obtain ⟨rfl,rfl⟩:=K9 hy;dsimp only [Zo,tYes];rw [if_pos rfl];have y9:=s1.trans s6;have hA6:=hA.same y9;refine ⟨_,Y,p,dx,_,Y,y9 _ _ B.ins,Y,_,Y,p,H0,d,S,U,ws,Y,hA6,e,λa1 wu=>?_⟩;refine ⟨a1,_,Y,.inl (SqL.of Zb),λa2 sj=>?_⟩;have s7:=(Same.new (o:=.lst (ws.map nV)) wu).trans (Same.new (o:=.lst (ws.map nV)) sj);have h7:(upd (upd H6 a1 (aq:)) a2 (aq:)) a2=some (aq:):=Zb;have hD7:=s7 _ _ (h6 rfl);have nD:a2≠D:=λz=>by rw [z,Same.new wu _ _ (h6 rfl)] at sj; cases sj
        have na2:H a2=none:=(y9.trans (Same.new wu)).free sj;generalize upd (upd H6 a1 (.lst (ws.map nV))) a2 (.lst (ws.map nV))=H7 at s7 h7 hD7 ⊢;exact ⟨_,hD7,by decide,_,Y,Same.add (s6.trans s7) hD,(λz=>nomatch z),λ_=>⟨a2,na2,Zb,by rw [Zd nD]; exact h7⟩⟩
      · rintro σ H6 ⟨v,rfl,s6,_,h6⟩
        obtain ⟨a,na,sk,pr⟩:=h6 rfl;exact kh _ _ ⟨D,a,Y,s1.trans s6,⟨s1.free hD,na⟩,sk,pr⟩
    rintro σ H2 ⟨tt,a,rfl,s2,⟨nt,na⟩,ht,ha⟩;have B2:=s2 _ _ B.ins;have hA2:=hA.same s2;refine Yc (λσ H'=>∃ q:Addr,σ=[some (.ref p),some (.ref tt),some (.ref q)]/\Same H2 H'/\H2 q=none/\((d.q=none/\H' q=some (.lst []))\/∃ (c:Addr) (f:Int->Int),d.q=some f/\H' q=some (.lst [.ref c])/\X7 H' c d.ns f)) (ab:) ?_
    · refine ⟨_,Y,p,dx,_,Y,B2,Y,p,H0,d,S,U,Y,hA2,λe l l7=>?_,λf e l l7=>?_⟩
      · have s1:Same H2 (upd H2 l (.lst [])):=Same.new l7
        have h1:(upd H2 l (.lst [])) l=some (.lst []):=Zb;generalize upd H2 l (.lst [])=H1 at s1 h1 ⊢;refine ⟨l,Y,⟨_,SqL.of h1⟩,λD hD=>?_⟩;refine Ym (xs:=[]) (λi σ H6=>∃ v,σ=[v,some (.ref p)]/\Same H1 H6/\H6 D=some (.lst [])) (ag:) ?_ ?_ ?_
        · rintro i σ H6 _ ⟨v,rfl,s6,_⟩
          exact SqL.of (s6 _ _ h1)
        · rintro i y σ H6 hy _
          cases hy
        · rintro σ H6 ⟨v,rfl,s6,h6⟩
          exact kh _ _ ⟨D,Y,s1.trans s6,s1.free hD,.inl ⟨e,h6⟩⟩
      · have s1:Same H2 (upd H2 l (.lst [.str (D:)])):=Same.new l7
        have h1:(upd H2 l (.lst [.str (D:)])) l=some (.lst [.str (D:)]):=Zb;generalize upd H2 l (.lst [.str (Str.ofString "part")])=H1 at s1 h1 ⊢;refine ⟨l,Y,⟨_,SqL.of h1⟩,λD hD=>?_⟩;refine Ym (xs:=[.str (D:)]) (λi σ H6=>∃ v,σ=[v,some (.ref p)]/\Same H1 H6/\(i=0->H6 D=some (.lst []))/\(i=1->∃ c,H6 D=some (.lst [.ref c])/\X7 H6 c d.ns f)) ⟨none,rfl,Same.new hD,λ_=>Zb,λz=>nomatch z⟩ ?_ ?_ ?_
        · rintro i σ H6 _ ⟨v,rfl,s6,_⟩
          exact SqL.of (s6 _ _ h1)
        · rintro i y σ H6 hy ⟨v,rfl,s6,h6,_⟩
          obtain ⟨rfl,rfl⟩:=K9 hy;dsimp only [Zo,tYes];rw [if_pos rfl];have y9:=s1.trans s6;refine ⟨_,Y,p,dx,_,Y,y9 _ _ B2,Y,_,Y,p,H0,d,S,U,f,Y,hA2.same y9,e,λa1 ks wu pm=>?_⟩;refine ⟨a1,_,Y,.inl Zb,λa2 sj=>?_⟩;have s7:=(Same.new (o:=.dK (dI ks f)) wu).trans (Same.new (o:=.dK (dI ks f)) sj);have h7:(upd (upd H6 a1 (.dK (dI ks f))) a2 (.dK (dI ks f))) a2=some (.dK (dI ks f)):=Zb;have hD7:=s7 _ _ (h6 rfl);have nD:a2≠D:=λz=>by rw [z,Same.new wu _ _ (h6 rfl)] at sj; cases sj
          generalize upd (upd H6 a1 (.dK (dI ks f))) a2 (.dK (dI ks f))=H7 at s7 h7 hD7 ⊢;exact ⟨_,hD7,by decide,_,Y,Same.add (s6.trans s7) hD,(λz=>nomatch z),λ_=>⟨a2,Zb,ks,by rw [Zd nD]; exact h7,pm⟩⟩
        · rintro σ H6 ⟨v,rfl,s6,_,h6⟩
          obtain ⟨c,sk,pr⟩:=h6 rfl;exact kh _ _ ⟨D,Y,s1.trans s6,s1.free hD,.inr ⟨c,f,e,sk,pr⟩⟩
    rintro σ H3 ⟨q,rfl,s3,nq,hq⟩;have B3:=s3 _ _ B2;have hA3:=hA2.same s3;refine ⟨_,Y,p,dx,_,Y,B3,Y,p,H0,d,S,U,Y,hA3,λr H4 s4 nr hr4=>?_⟩;refine ⟨_,Y,_,Y,_,Y,p,dx,_,Y,s4 _ _ B3,Y,p,H0,d,S,U,Y,hA3.same s4,λfr H5 s5 hf5=>?_⟩;have s45:=s4.trans s5;refine ⟨_,Y,p,dx,_,Y,s45 _ _ B3,Y,p,H0,d,S,U,Y,hA3.same s45,hl,λl H6 s6 nl hl6=>?_⟩;refine ⟨(by show 5<=sizeLine; decide),λv hv=>?_⟩;have s7:=Same.new (o:=.tup [.ref r,.ref tt,.ref q,.ref fr,.ref l]) hv;have s36:=s45.trans s6;have xg:=s36.trans s7;have xh:=s3.trans xg;have s23:=s2.trans s3;have sF:=s2.trans xh;have h7:(upd H6 v (.tup [.ref r,.ref tt,.ref q,.ref fr,.ref l])) v=some (.tup [.ref r,.ref tt,.ref q,.ref fr,.ref l]):=Zb;have wm:=(hr4.same (s5.trans s6)).same s7;have hf7:=(hf5.same s6).same s7;have hl7:=s7 _ _ hl6;have qx:=xh _ _ ht;have ha7:=xh _ _ ha;generalize upd H6 v (.tup [.ref r,.ref tt,.ref q,.ref fr,.ref l])=HF at xg sF h7 wm hf7 hl7 qx ha7 ⊢;have s0:Same H0 (Rs HF [p,dx,st,un]):=Vk (B.low.trans sF) B.out;have nu:∀ {b u},H b=none->HF b=some u->Rs HF [p,dx,st,un] b=some u:=λn e=>Rs.at e (B.fresh (Same.refl _) n);have ki:∀ {b u},HF b=some u->okV u->Rs HF [p,dx,st,un] b=some u:=λe c=>Rs.at e (B.kind sF e c);refine k v HF _ s0 ⟨dx,be,sc,st,un,qs,us,sF _ _ B.ins,sF _ _ B.own,sF _ _ B.sta,sF _ _ B.und,Rs.le,λ_=>Rs.out,B.su,B.cur.same s0,B.stk.same s0,B.unk.same s0⟩ ⟨r,tt,q,fr,l,ki h7 True.intro,?_,⟨a,ws,e,nu nt qx,nu na ha7⟩,?_,?_,nu ((s23.trans s45).free nl) hl7⟩
    · obtain ⟨ts,e1,e2,e3⟩:=wm
      exact ⟨ts,nu (s23.free nr) e1,e2,λi t' z=>ki (e3 i t' z) True.intro⟩
    · rcases hq with ⟨e',h⟩ | ⟨c,f,e',h,kk,h',pm⟩
      · exact .inl ⟨e',nu (s2.free nq) (xg _ _ h)⟩
      · exact .inr ⟨c,f,e',nu (s2.free nq) (xg _ _ h),kk,ki (xg _ _ h') True.intro,pm⟩
    · obtain ⟨aw,w1,w2⟩:=hf7
      exact ⟨aw,ki w1 True.intro,λx hx=>ki (w2 x hx) True.intro⟩
def Ze9 (CT CS CH:Addr):Sp:=λvs H Q _=>∃ (p:Addr) (H0:Hp) (d:Sd) (e:Str × Sd) (S U:List (aa:)),vs=[.ref p]/\Ya CT CS CH H H0 p d (e :: S) U/\U.length<=800/\∀ H' km,Same H0 km->Ya CT CS CH H' km p e.2 S ((e.1,d) :: U)->Q .non H'
def X8 (CT CS CH EN:Addr):Sp:=λvs H Q E=>∃ (p:Addr) (H0:Hp) (d:Sd) (S U:List (aa:)),vs=[.ref p]/\Ya CT CS CH H H0 p d S U/\S.length<=800/\(U=[]->E (.ref EN) none H)/\∀ e U',U=e :: U'->∀ H' km,Same H0 km->Ya CT CS CH H' km p e.2 ((e.1,d) :: S) U'->Q .non H'
def Ow {qs:List Addr} {q:Addr}:((q :: qs).reverse.map V.ref)[((q :: qs).reverse.map V.ref).length - 1]?=some (V.ref q)/\((q :: qs).reverse.map V.ref).dropLast=qs.reverse.map V.ref:=by
 rw [reverse_cons,Aj];refine ⟨?_,dropLast_concat⟩;rw [Ae];show (_ ++ [V.ref q])[_ + 1 - 1]?=_;rw [Nat.add_sub_cancel,getElem?_append_right (An _),Nat.sub_self];rfl
def HallB.moved {CT CS CH:Addr} {H H0 H4:Hp} {p dx be sc st un q2 s:Addr} {q:Addr} {qs us:List Addr} {d:Sd} {e:Str × Sd} {S U:List (aa:)} (B:HallB CT CS CH H H0 p dx be sc st un (q :: qs) us d (e :: S) U) (hs:Sc CT CS H0 s e.2) (h2:H q2=none) (e4:H4=upd (upd (upd (upd H st (.lst (qs.reverse.map V.ref))) q2 (.tup [.str e.1,.ref sc])) un (.lst (us.reverse.map V.ref ++ [.ref q2]))) p (.ins CH dx (Y0 be s st un))):∃ km,Same H0 km/\HallB CT CS CH H4 km p dx be s st un qs (q2 :: us) e.2 S ((e.1,d) :: U):=by
 have n1:q2≠p:=Ws (Same.refl _) B.ins h2;have n2:q2≠st:=Ws (Same.refl _) B.sta h2;have n3:q2≠un:=Ws (Same.refl _) B.und h2;have n4:st≠p:=λz=>by have:=B.sta; rw [z,B.ins] at this; cases this
 have n5:un≠p:=λz=>by have:=B.und; rw [z,B.ins] at this; cases this
 have h0:H0 q2=none:=B.low.free h2;have s1:Same H0 (upd H0 q2 (.tup [.str e.1,.ref sc])):=Same.new h0;subst e4;have d1:dx≠p:=λz=>by have:=B.own; rw [z,B.ins] at this; cases this
 have d2:dx≠st:=λz=>by have:=B.own; rw [z,B.sta] at this; cases this
 have d3:dx≠un:=λz=>by have:=B.own; rw [z,B.und] at this; cases this
 have d4:dx≠q2:=(Ws (Same.refl _) B.own h2).symm;refine ⟨_,s1,Zb,by rw [Zd d1,Zd d3,Zd d4,Zd d2]; exact B.own,?_,?_,λb u e=>?_,λb hb=>?_,B.su,hs.same s1,B.stk.2.same s1,⟨⟨sc,Zb,B.cur.same s1⟩,B.unk.same s1⟩⟩
 ·rw [Zd n4,Zd B.su,Zd (Ne.symm n2),Zb]
 ·rw [Zd n5,Zb,reverse_cons,Aj]; rfl
 ·by_cases z:b=q2
  ·subst z
   rw [Zb] at e;rw [Zd n1,Zd n3,Zb];exact e
  ·rw [Zd z] at e
   rw [Zd (λz=>by rw [z,B.np] at e; cases e),Zd (λz=>by rw [z,B.nun] at e; cases e),Zd z,Zd (λz=>by rw [z,B.nst] at e; cases e)];exact B.low b u e
 ·rw [Zd (λz:b=q2=>B.fresh (Same.refl _) h2 (z ▸ hb))]; exact B.out b hb
def HallB.flip {CT CS CH:Addr} {H H0:Hp} {p dx be sc st un:Addr} {qs us:List Addr} {d:Sd} {S U:List (aa:)} (B:HallB CT CS CH H H0 p dx be sc st un qs us d S U) {H':Hp} (e:∀ b,b≠p->H' b=H b) (hp:H' p=some (.ins CH dx (Y0 be sc un st))):HallB CT CS CH H' H0 p dx be sc un st us qs d U S:=by
 have n4:st≠p:=λz=>by have:=B.sta; rw [z,B.ins] at this; cases this
 have n5:un≠p:=λz=>by have:=B.und; rw [z,B.ins] at this; cases this
 have d1:dx≠p:=λz=>by have:=B.own; rw [z,B.ins] at this; cases this
 exact ⟨hp,by rw [e _ d1]; exact B.own,by rw [e _ n5]; exact B.und,by rw [e _ n4]; exact B.sta,λb u z=>by rw [e _ (λy=>by rw [y,B.np] at z; cases z)]; exact B.low b u z,λb hb=>B.out b (by simp only [mem_cons] at hb ⊢; rcases hb with h | h | h | h | h <;> simp [h]),B.su.symm,B.cur,B.unk,B.stk⟩
def Vq:FnScope ["self","text","earlier"] ["self"] (Zg Fn):=Am
def V9 (T:Txt w K mg t):(a:) 1 t.eP t.fw ["self"] (Ze9 t.aa t.ag t.ae):=by
 refine T.aI.F.aR Vq (b:)
 ·obtain ⟨p,H0,d,e,S,U,rfl,⟨dx,be,sc,st,un,qs,us,B⟩,hU,k⟩:=h
  refine ⟨_,(Ze (Z9 (J3 (Qf (Zp (pv 0) Y) (λ_=>rfl))) Yy Zz)
   (Ze (Xt (Zlj PySem.F.plainAttrs_list PySem.F.slot_list_pop PySem.F.type_list_pop Zl4 (as:)) (Ww rfl (Zw (Zk (i:=1) Vq.nd rfl (g:)) (Zw (Zk (i:=2) Vq.nd rfl (g:)) Yz))))
   (Ze (Z8 (X5 PySem.F.plainAttrs_list PySem.F.slot_list_append PySem.F.type_list_append Y6 (as:) (Za (Xg (Za (pv 1) (Za (as:) Zc))) Zc)))
   (Zh (Xs (pv 0) (pv 2) rfl))))),?_⟩
  cases qs with
  | nil=>exact B.stk.elim
  | cons q qs =>
  obtain ⟨⟨s1,hq,hs⟩,_⟩:=id B.stk;have hul:=B.unk.len;have hq1:q≠st:=λz=>by rw [z,B.nst] at hq; cases hq
  have hqH:=B.low _ _ hq;have n4:p≠st:=λz=>by have:=B.sta; rw [<- z,B.ins] at this; cases this
  refine ⟨_,Y,p,_,dx,_,.ref st,Y,B.ins,T.ac,T.av,Y,_,.inl ⟨_,SqL.of B.sta,Y⟩,?_⟩;rw [show ((q :: qs).reverse.map V.ref).isEmpty=false by rw [reverse_cons,Aj]; cases qs.reverse <;> rfl];refine iteF ?_;refine ⟨_,Y,p,_,dx,_,.ref st,Y,B.ins,T.ac,T.av,Y,.inl ⟨Y,_,SqL.of B.sta⟩,st,_,_,Y,Y,B.sta,Ow.1,?_⟩;rw [Ow.2];have p1:(upd H st (.lst (qs.reverse.map V.ref))) p=some (.ins t.ae dx (Y0 be sc st un)):=by rw [Zd n4]; exact B.ins
  have u1:(upd H st (.lst (qs.reverse.map V.ref))) un=some (.lst (us.reverse.map V.ref)):=by rw [Zd (Ne.symm B.su)]; exact B.und
  have q1:(upd H st (.lst (qs.reverse.map V.ref))) q=some (.tup [.str e.1,.ref s1]):=by rw [Zd hq1]; exact hqH
  refine ⟨q,_,Y,SqT.of q1,Y,_,_,Y,_,_,Y,Y,?_⟩;refine ⟨_,Y,p,_,dx,_,.ref un,Y,p1,T.ac,T.aF,Y,.inl ⟨Y,_,SqL.of u1⟩,_,Y,_,Y,p,_,dx,_,.ref sc,Y,p1,T.ac,T.ah,Y,(bb:),λq2 rn=>?_⟩;obtain ⟨n2,h2⟩:=Y9 rn;have sq:Same _ (upd (upd H st (.lst (qs.reverse.map V.ref))) q2 (.tup [V.str e.1,V.ref sc])):=Same.new rn;have n5:p≠un:=λz=>by have:=B.und; rw [<- z,B.ins] at this; cases this
  refine ⟨un,_,_,Y,Y,sq _ _ u1,Zt (by rw [Ab,length_reverse]; lia),?_⟩;refine ⟨_,Y,_,Y,p,_,dx,_,Y,(by rw [Zd n5]; exact sq _ _ p1),T.ac,T.ah,Zbk _ _ _ _,?_⟩;rw [Zj0];obtain ⟨km,s0,B'⟩:=B.moved hs h2 rfl;exact k _ km s0 ⟨_,_,_,_,_,_,_,B'⟩
def Q7:FnScope ["self","text","later"] ["self"] (Zg K2):=Am
def Zee (T:Txt w K mg t):(a:) 1 t.dG t.dW ["self"] (X8 t.aa t.ag t.ae t.bH):=by
 refine T.bY.F.aX Q7 (b:)
 ·obtain ⟨p,H0,d,S,U,rfl,⟨dx,be,sc,st,un,qs,us,B⟩,hU,kE,k⟩:=h
  refine ⟨_,(Zy (W6 (J3 (Qf (Zp (pv 0) Y) (λ_=>rfl))) (Z4 (Xu T.jw FBV Y T.jk Y (Za Z5 Zc))) X1)
   (Zy (Ye (Xt (Zlj PySem.F.plainAttrs_list PySem.F.slot_list_pop PySem.F.type_list_pop Zl4 (as:)) (Ww rfl (Zw (Zk (i:=1) Q7.nd rfl (g:)) (Zw (Zk (i:=2) Q7.nd rfl (g:)) Yz)))))
   (Zy (Ye (Z8 (X5 PySem.F.plainAttrs_list PySem.F.slot_list_append PySem.F.type_list_append Y6 (as:) (Za (Xg (Za (pv 1) (Za (as:) Zc))) Zc))))
   (Z4 (Ye (Xs (pv 0) (pv 2) rfl)))))),?_⟩
  cases us with
  | nil =>
   refine ⟨_,Y,p,_,dx,_,.ref un,Y,B.ins,T.ac,T.aF,Y,_,.inl ⟨_,SqL.of B.und,Y⟩,iteT ⟨by decide,kE ?_⟩⟩
   cases U with
   | nil=>rfl
   | cons _ _=>exact B.unk.elim
  | cons q us =>
  cases U with
  | nil=>exact B.unk.elim
  | cons e U =>
  have k:=k e U rfl;obtain ⟨⟨s1,hq,hs⟩,_⟩:=id B.unk;have hul:=B.stk.len;have hq1:q≠un:=λz=>by rw [z,B.nun] at hq; cases hq
  have hqH:=B.low _ _ hq;have n4:p≠un:=λz=>by have:=B.und; rw [<- z,B.ins] at this; cases this
  refine ⟨_,Y,p,_,dx,_,.ref un,Y,B.ins,T.ac,T.aF,Y,_,.inl ⟨_,SqL.of B.und,Y⟩,?_⟩;rw [show ((q :: us).reverse.map V.ref).isEmpty=false by rw [reverse_cons,Aj]; cases us.reverse <;> rfl];refine iteF ?_;refine ⟨_,Y,p,_,dx,_,.ref un,Y,B.ins,T.ac,T.aF,Y,.inl ⟨Y,_,SqL.of B.und⟩,un,_,_,Y,Y,B.und,Ow.1,?_⟩;rw [Ow.2];have p1:(upd H un (.lst (us.reverse.map V.ref))) p=some (.ins t.ae dx (Y0 be sc st un)):=by rw [Zd n4]; exact B.ins
  have u1:(upd H un (.lst (us.reverse.map V.ref))) st=some (.lst (qs.reverse.map V.ref)):=by rw [Zd B.su]; exact B.sta
  have q1:(upd H un (.lst (us.reverse.map V.ref))) q=some (.tup [.str e.1,.ref s1]):=by rw [Zd hq1]; exact hqH
  refine ⟨q,_,Y,SqT.of q1,Y,_,_,Y,_,_,Y,Y,?_⟩;refine ⟨_,Y,p,_,dx,_,.ref st,Y,p1,T.ac,T.av,Y,.inl ⟨Y,_,SqL.of u1⟩,_,Y,_,Y,p,_,dx,_,.ref sc,Y,p1,T.ac,T.ah,Y,(bb:),λq2 rn=>?_⟩;obtain ⟨n2,h2⟩:=Y9 rn;have sq:Same _ (upd (upd H un (.lst (us.reverse.map V.ref))) q2 (.tup [V.str e.1,V.ref sc])):=Same.new rn;have n5:p≠st:=λz=>by have:=B.sta; rw [<- z,B.ins] at this; cases this
  refine ⟨st,_,_,Y,Y,sq _ _ u1,Zt (by rw [Ab,length_reverse]; lia),?_⟩;refine ⟨_,Y,_,Y,p,_,dx,_,Y,(by rw [Zd n5]; exact sq _ _ p1),T.ac,T.ah,Zbk _ _ _ _,?_⟩;rw [Zj0];have BF:=B.flip (H':=upd H p (.ins t.ae dx (Y0 be sc un st))) (λb hb=>Zd hb) Zb;have n6:q2≠p:=Ws (Same.refl _) B.ins h2;obtain ⟨km,s0,B'⟩:=BF.moved hs (by rw [Zd n6]; exact h2) Y;refine k _ km s0 ⟨_,_,_,_,_,_,_,B'.flip (λb hb=>?_) Zb⟩;rw [Zd hb,Zd hb];unfold upd;rw [if_neg hb]
def Zs0 (t:Adr):Sp:=λvs H Q E=>∃ (p dd dx be sc st un:Addr),vs=[.ref p,.ref dd]/\H p=some (.ins t.ae dx (Y0 be sc st un)) /\
  ((∃ (x:Int) (left:Bool),H dd=some (.tup [.str (Str.ofString "turn"),.int x,.str (wayS left)])/\Wj t [.ref p,.int x,.str (wayS left)] H Q E) \/
   (H dd=some (.tup [.str (Str.ofString "again")])/\X8 t.aa t.ag t.ae t.bH [.ref p] H Q E))
def Zpg (t:Adr):Sp:=λvs H Q _=>∃ (p dd dx be sc st un:Addr),vs=[.ref p,.ref dd]/\H p=some (.ins t.ae dx (Y0 be sc st un)) /\
  ((∃ (x:Int) (left:Bool),H dd=some (.tup [.str (Str.ofString "turn"),.int x,.str (wayS left)])/\Wj t [.ref p,.int x,.str (wayS left)] H (λv H'=>Q (.bl (decide (v=.non))) H') (λ_ _ H'=>Q .non H')) \/
   (H dd=some (.tup [.str (Str.ofString "again")])/\X8 t.aa t.ag t.ae t.bH [.ref p] H (λv H'=>Q (.bl (decide (v=.non))) H') (λ_ _ H'=>Q .non H')))
def Zpp:FnScope ["_law_hall","_law_deed"] ["_law_hall","_law_deed"] (Zg Zk3):=Am
def Zp5 (T:Txt w K mg t):(a:) 10 t.jm t.jn ["_law_hall","_law_deed"] (Zs0 t):=by
 refine T.jp.F.aX Zpp (b:)
 ·obtain ⟨p,dd,dx,be,sc,st,un,rfl,hp,h⟩:=h
  refine ⟨_,(Zy (Ye (Z9 (Zq Yw (ak:) Z5 (Zr _)) (Zh (Zl (Yf (pv 0) T.ac T.bp.m (Fo T) (ai:) T.bp.b .nil Z1 (Za (ak:) (Za (Ys X3 (by rfl) T.b6 PySem.Pv.boot_list (Za (ak:) Zc)) Zc))))) Zz))
   (Zy (Ye (Z9 (Zq Yw (ak:) Z5 (Zr _)) (Zh (Zl (Yf (pv 0) T.ac T.aU.m (Gg T) (ai:) T.aU.b .nil Z1 (Za (ak:) (Za (Ys Wt (by rfl) T.dz PySem.Pv.boot_dict (Za (ak:) Zc)) Zc))))) Zz))
   (Zy (Ye (Z9 (Zq Yw (ak:) Z5 (Zr _)) (Zh (Zl (Yf (pv 0) T.ac T.aV.m (Gh T) (ai:) T.aV.b .nil Z1 (Za (ak:) Zc)))) Zz))
   (Zy (Ye (Z9 (Zq Yw (ak:) Z5 (Zr _)) (Zh (Zl (Yf (pv 0) T.ac T.aO.m (Kf T) (ai:) T.aO.b .nil Z1 (Za (ak:) (Za (ak:) (Za (ak:) Zc)))))) Zz))
   (Zy (W6 (Zq Yw (ak:) Z5 (Zr _)) (Z4 (Zh9 (Vz (pv 0) T.ac T.cQ.m (Zgg T) (ai:) T.cQ.b .nil (Za (ak:) (Za (ak:) Zc))))) X1)
   (Zy (Ye (Z9 (Zq Yw (ak:) Z5 (Zr _)) (Zh (Zl (Xa (pv 0) T.ac T.aI.m (V9 T) (ai:) T.aI.b .nil Z1))) Zz))
   (Z4 (Zh9 (Zli (Zlh (pv 0)) T.ac T.bY.m (Zee T) (ai:) T.bY.b .nil))))))))),?_⟩
  rcases h with ⟨x,left,hd,h⟩ | ⟨hd,h⟩
  ·skip
   refine (y:);refine (y:);refine (y:);refine (y:);exact ⟨_,Y,dd,_,0,_,Y,Y,SqT.of hd,Y,Y,_,Y,iteT ⟨_,Y,p,dx,_,Y,hp,Y,_,Y,dd,_,1,_,Y,Y,SqT.of hd,Y,_,Y,dd,_,2,_,Y,Y,SqT.of hd,Y,h⟩⟩
  ·skip
   refine (y:);refine (y:);refine (y:);refine (y:);refine (y:);refine (y:);exact ⟨_,Y,p,dx,_,Y,hp,Y,h⟩
def Wj.mono {vs:List V} {H:Hp} {Q Q':VK} {E E':XK} (hq:∀ v H',Q v H'->Q' v H') (he:∀ v o H',(v=.ref t.aQ\/v=.ref t.aK)->E v o H'->E' v o H') (h:Wj t vs H Q E):Wj t vs H Q' E':=by
 obtain ⟨p,H0,M,ns,ks,g,ws,f,S,U,x,left,pa,pb,e,hA,O,mv,hS,kE,kQ⟩:=h;exact ⟨p,H0,M,ns,ks,g,ws,f,S,U,x,left,pa,pb,e,hA,O,mv,hS,λv H' km hv s a=>he _ _ _ hv (kE v H' km hv s a),λrr ml f' g' H' km s a o=>hq _ _ (kQ rr ml f' g' H' km s a o)⟩
def X8.mono {CT CS CH EN:Addr} {vs:List V} {H:Hp} {Q Q':VK} {E E':XK} (hq:∀ v H',Q v H'->Q' v H') (he:∀ o H',E (.ref EN) o H'->E' (.ref EN) o H') (h:X8 CT CS CH EN vs H Q E):X8 CT CS CH EN vs H Q' E':=by
 obtain ⟨p,H0,d,S,U,e,hA,hS,kE,kQ⟩:=h;exact ⟨p,H0,d,S,U,e,hA,hS,λz=>he _ _ (kE z),λe' U' z H' km s a=>hq _ _ (kQ e' U' z H' km s a)⟩
def Ui:FnScope ["_law_hall","_law_deed","_law_told_here"] ["_law_hall","_law_deed"] (Zg Zfp):=Am
def Gc (T:Txt w K mg t):(a:) 11 t.ir t.iI ["_law_hall","_law_deed"] (Zpg t):=by
 refine T.d7.F.aR Ui (b:)
 ·obtain ⟨p,dd,dx,be,sc,st,un,rfl,hp,h⟩:=h
  refine ⟨_,(Ze (Zs (i:=2) Ui.nd Y (Or.inl Y) Us)
   (Ze (Zpw (Z4 (Qg (i:=2) Ui.nd rfl (g:) (Zp0 (pxT (Zp5 T) hr T.jp (Za (pv 0) (v:))) (Zlh Wl) Zlr (Zr _)))) (Zqf rfl T.hJ (λ_=>(Zh (Zs (i:=2) Ui.nd rfl (g:) Wl))) Zr4))
   (Zh (Zl (pv 2))))),?_⟩;refine ⟨_,Y,_,Y,p,dd,dx,be,sc,st,un,Y,hp,?_⟩
  rcases h with ⟨x,left,hd,h⟩ | ⟨hd,h⟩
  ·refine .inl ⟨x,left,hd,h.mono (λv H' q=>?_) λv o H' hv q=>?_⟩
   ·exact ⟨Y,_,Y,q⟩
   ·rcases hv with rfl | rfl
    ·exact ⟨true,T.cU,iteT ⟨_,Y,q⟩⟩
    ·exact ⟨true,T.cB,iteT ⟨_,Y,q⟩⟩
  ·exact .inr ⟨hd,h.mono (λv H' q=>⟨Y,_,Y,q⟩) λo H' q=>⟨true,T.cV,iteT ⟨_,Y,q⟩⟩⟩
def Zqs (hP:Pl M ws) (p:Nat):crP M ws p=((lz M ws p:Nat):Int):=by
 unfold crP lz;congr 1;refine countP_congr λq hq=>?_;obtain ⟨m,e⟩:=hP.has q hq;rw [decide_eq_true_eq,decide_eq_true_eq,Ub e,e];constructor
 ·rintro (z | z)
  ·exact .inl z
  ·cases z; exact .inr Y
 ·rintro (z | z)
  ·exact .inl z
  ·rw [z]; exact .inr Y
def Zsg (M:Lq) (ws:List Nat) (p:Nat):crP M ws p<=ws.length:=Int.ofNat_le.mpr countP_le_length
def Zsf {M:Lq} (inv:InvM M) {ws:List Nat} (hP:Pl M ws):PC M (crP M ws):=by
 rw [show crP M ws=λp=>((lz M ws p:Nat):Int) from funext (Zqs hP)];exact hP.pc inv
def Pl.wind {M:Lq} {ws vs:List Nat} {m s:Nat} (h:Pl M ws) (hl:vs.length=m * ws.length) (kr:vs≠[]) (hg:∀ k,k < vs.length->vs[k]?=ws[(k + s) % ws.length]?):Pl M vs:=by
 have dv:ws.length ∣ vs.length:=⟨m,by rw [hl,Nat.mul_comm]⟩
 have hp:0 < vs.length:=by cases vs with | nil=>exact absurd rfl kr | cons _ _=>simp
 refine ⟨kr,λp hm=>?_,λk a p ha hp' m' se=>?_⟩
 ·obtain ⟨k,hk,e⟩:=mem_iff_getElem.mp hm
  have:=hg k hk;rw [Ac hk,e] at this;exact h.has p (Au this.symm)
 ·have hk:k < vs.length:=(Aa ha).1
  rw [hg k hk] at ha;rw [hg _ (mod_lt _ hp)] at hp';refine h.nxt ((k + s) % ws.length) a p ha ?_ m' se;rw [<- hp'];congr 1;rw [mod_add_mod,<- mod_add_mod ((k + 1) % vs.length),mod_mod_of_dvd _ dv,mod_add_mod];congr 1;lia
def Pl.rep {M:Lq} {ws:List Nat} {m:Nat} (h:Pl M ws) (hm:0 < m):Pl M (List.replicate m ws).flatten:=by
 have hl:=Zf0 ws m;have hw0:0 < ws.length:=length_pos_iff.mpr h.ne;have hp:=Nat.mul_pos hm hw0;refine h.wind (m:=m) (s:=0) hl (λz=>?_) λk hk=>?_
 ·rw [z] at hl; rw [<- hl] at hp; exact absurd hp (Nat.lt_irrefl _)
 ·rw [hl] at hk; rw [Zf1 ws m k hk]; rfl
def Zqj {M:Lq} {a b:Nat} (h:M[a]?=some (some b)) (lt:a < b) (ne:a / 3≠b / 3):a∈Xo M:=by
 refine mem_filter.mpr ⟨mem_range.mpr (Aa h).1,?_⟩;unfold Jn;rw [h];simp [lt,ne]
def Zjc:Sp:=λvs H Q _=>∃ (m a:Addr) (M:Lq) (ws:List Nat),vs=[.ref m,.ref a]/\H m=some (aw:)/\M.length<=1000/\(V:)/\H a=some (aq:)/\Pl M ws /\
 ∀ (l:Addr) (H':Hp),Same H H'->H l=none->H' l=some (.lst (rowI M.length (crP M ws)))->Q (.ref l) H'
def Ot:FnScope ["_law_mates","_law_word","_law_counts","_law_p"] ["_law_mates","_law_word"] (Zg Zcy):=Am
def Zjq (T:Txt w K mg t):(a:) 1 t.gG t.gP ["_law_mates","_law_word"] Zjc:=by
 refine T.gW.F.aR Ot (b:)
 ·obtain ⟨m,a,M,ws,rfl,hm,hl,inv,ha,hP,k⟩:=h
  refine ⟨_,(Ze (Zs (i:=2) Ot.nd Y (Or.inl Y) (Zj Od (Yr (Za Zf Zc)) (k:)))
   (Ze (Xr PassesOwn.never rfl (Yx (pv 1)) (Zk (i:=3) Ot.nd rfl (g:)) (Ze (Zib (pv 2) (pv 3) Zgu Zf Zmb Xy)
   (Zh (Zib (pv 2) (Zv Z0 (pv 0) (pv 3) (j:)) Zgu Zf Zmb Xy))))
   (Zh (Zl (pv 2))))),?_⟩;refine Zx λk6 j6=>?_;refine ⟨(by show 1<=sizeLine; decide),λz hz=>?_⟩;have sz:Same H (upd H z (.lst [.int 0])):=Same.new hz;refine ⟨_,Y,m,_,Y,.inl (SqL.of (sz _ _ hm)),z,_,_,Y,Y,Zb,by lia,by rw [Ab]; lia,?_,λc hc=>?_⟩
  ·show 1 * _<=_
   rw [Ab,Int.toNat_natCast,Nat.one_mul];exact Zar (by lia)
  refine j6 _ _ ?_;dsimp only [Zo];have e0:(List.replicate ((ao:)).toNat [V.int 0]).flatten=rowI M.length (crP M (ws.take 0)):=by
   rw [Ab,Int.toNat_natCast,flatten_replicate_singleton]
   unfold rowI crP
   apply ext_getElem?
   intro i
   rw [Ah,getElem?_replicate]
   by_cases hi:i < M.length
   ·rw [if_pos hi,getElem?_range hi]; rfl
   ·rw [if_neg hi,Ay (by rw [length_range]; lia)]; rfl
  rw [e0];have om:=Same.add (o:=.lst (rowI M.length (crP M (ws.take 0)))) sz (sz.free hc);have hc0:=sz.free hc;have h1:(upd (upd H z (.lst [.int 0])) c (.lst (rowI M.length (crP M (ws.take 0))))) c=some (.lst (rowI M.length (crP M (ws.take 0)))):=Zb;generalize upd (upd H z (.lst [.int 0])) c (.lst (rowI M.length (crP M (ws.take 0))))=H1 at om h1 ⊢;refine Yc (λσ H'=>σ.getD 2 none=some (.ref c)/\Same H H'/\H' c=some (.lst (rowI M.length (crP M ws)))) (ab:) ?_
  ·refine ⟨_,Y,a,Y,⟨_,SqL.of (om _ _ ha)⟩,?_⟩
   refine Zae (xs:=ws.map nV) (λi σ H2=>∃ v,σ=[some (.ref m),some (.ref a),some (.ref c),v]/\Same H H2/\H2 c=some (.lst (rowI M.length (crP M (ws.take i))))) ⟨_,Y,om,h1⟩ ?_ ?_ ?_
   ·rintro i σ H2 _ ⟨v,rfl,s2,h2⟩
    exact SqL.of (s2 _ _ ha)
   ·rintro i x σ H2 hx ⟨v,rfl,s2,h2⟩
    obtain ⟨q,hq,rfl⟩:=map_some hx;obtain ⟨mt,hmt⟩:=hP.has q (Au hq);obtain ⟨hmb,kr⟩:=inv q mt hmt;have hqM:q < M.length:=(Aa hmt).1;have htM:mt < M.length:=(Aa hmb).1;dsimp only [Zo];refine Zx λk6 j6=>?_;refine ⟨_,Y,_,Y,c,_,q,_,Y,Y,SqL.of h2,U9 hqM,_,_,Y,Y,c,_,_,q,Y,Y,h2,(by rw [W5]; exact Wm hqM),?_⟩;refine j6 _ _ ?_;rw [Zfz];have s3:=Same.add (o:=.lst (av:)) s2 hc0;have h3:(upd H2 c (.lst (av:))) c=some (.lst (av:)):=Zb;generalize upd H2 c (.lst (rowI M.length λp=>if p=q then crP M (ws.take i) q + 1 else crP M (ws.take i) p))=H3 at s3 h3 ⊢;refine ⟨_,Y,_,Y,_,Y,m,_,_,_,Y,Y,SqL.of (s3 _ _ hm),Y1 hmt,c,_,mt,_,Y,Y,SqL.of h3,U9 htM,_,_,Y,Y,c,_,_,mt,Y,Y,h3,(by rw [W5]; exact Wm htM),?_⟩;refine ⟨_,Y,Same.add s3 hc0,?_⟩;rw [Zb,Zfz];congr 2;refine Zjk λp=>?_;rw [Zoj hq hmt kr p,if_neg (Ne.symm kr)]
   ·rintro σ H2 ⟨v,rfl,s2,h2⟩
    rw [Ab,take_length] at h2;exact kh _ _ ⟨Y,s2,h2⟩
  ·rintro σ H2 ⟨e,s2,h2⟩
   have e2:∃ u,σ[2]?=some (some u)/\u=V.ref c:=by
    cases z:σ[2]? with
    | none=>rw [Ad,z] at e; cases e
    | some y=>rw [Ad,z] at e; cases e; exact ⟨_,Y,Y⟩
   obtain ⟨u,e3,rfl⟩:=e2;exact ⟨_,e3,k c H2 s2 hc0 h2⟩
structure Own (K:W.Frag) (H:Hp) (a m r:Addr) (sc:List Int) (M:Lq) (ns:List Int):Prop where
 seq:SqL K H a (sc.map V.int)
 hm:H m=some (aw:)
 hr:Yq H r ns
def Own.same {K:W.Frag} {H H':Hp} {a m r:Addr} {sc:List Int} {M:Lq} {ns:List Int} (h:Own K H a m r sc M ns) (s:Same H H'):Own K H' a m r sc M ns:=⟨s.seq h.seq,s _ _ h.hm,h.hr.same s⟩
def Zil:OkF (1,1):=⟨An _,An _,by decide +kernel,by decide +kernel⟩
def Zp6:OkF (w:):=⟨by decide,An _,by decide +kernel,by decide +kernel⟩
def X0:FnScope ["_law_script","_law_mates","_law_rows_here","_law_hall","_law_word","_law_free_here","_law_at","_law_behind","_law_ahead","_law_cell_here","_law_place","_law_told_here"] ["_law_script"] (Zg Zor):=Am
def Zho (T:Txt w K mg t):(a:) 1 t.d8 t.d9 ["_law_mates","_law_rows_here","_law_goals_here"] (λvs H Q E=>∃ S,Cuts S H/\Zey vs (cutH S H) (λv H'=>(∀ b,InS S H b->H' b=none)->Q v (X6 S H H')) (λv o H'=>(∀ b,InS S H b->H' b=none)->E v o (X6 S H H'))):=(Zjr T).frame
def ok_law (T:Txt w K mg t):(a:) 12 t.jC t.jo ["_law_script"] (sp_law K):=by
 refine T.jD.F.aR X0 (λ_ A _ _ H vs Q E hr h=>?_)
 ·obtain ⟨a,sc,rfl,hS,hl,k⟩:=h
  have hu:=Xb hr;have kk:∀ (b:Bool) H',b=true->Q (.bl b) H':=λb H' e=>by rw [e]; exact k H'
  refine ⟨_,(Ze (Xt (pcT (Zlv T) hr T.iN (Za (pv 0) Zc)) (Ww Y (Zw (Zk (i:=1) X0.nd Y (Or.inl Y)) (Zw (Zk (i:=2) X0.nd Y (Or.inl Y)) Yz))))
   (Ze (Zs (i:=3) X0.nd rfl (g:) (Je T.jA (Zgi T) (ai:) rfl T.jz T.fE.b .nil Z1 (Za (Ys X3 (by rfl) T.b6 PySem.Pv.boot_list (U:)) Zc)))
   (Ze (Zs (i:=4) X0.nd rfl (g:) (pcT (Zhn T) hr T.gq (Za (pv 0) (Za Zf (v:)))))
   (Ze (Zs (i:=5) X0.nd rfl (g:) (pcT (Ge T) hr T.d6 (v:)))
   (Ze (Z9 (PW.pt (Ve (Zq Yw (Zn Zm (by rfl) T.am PySem.boot_len (Za (pv 4) Zc)) Zf (Zr _)) (Qz (Zq Yw (Zn Zm (by rfl) T.am PySem.boot_len (Za (pv 5) Zc)) Zf (Zr _))))) (Zh (Zl (Jf (Zrx hr.units) (Xa (pv 3) T.ac T.aP.m (Og T) (ai:) T.aP.b .nil Z1) (Yr Zc) (Zr _)))) Zz)
   (Ze (Z8 (Yf (pv 3) T.ac T.bp.m (Fo T) (ai:) T.bp.b .nil Z1 (Za Z5 (Za (Zj Od (pv 4) (Zj Y7 Zf (Zn Zm (by rfl) T.am PySem.boot_len (Za (pv 4) Zc)))) Zc))))
   (Ze (Z8 (Yf (pv 3) T.ac T.aU.m (Gg T) (ai:) T.aU.b .nil Z1 (Za Z5 (Za (pcT (Zjs T) hr T.gV (Za (pv 2) (Za (pcT (Zjq T) hr T.gW (Za (pv 1) (Za (pv 4) Zc))) Zc))) Zc))))
   (Ze (Z9 (Zq Yw (Zj Z6 (pcT (W9 T) hr T.aW (Za (pv 0) (Za Zf Zc))) Zf) Zf (Zr _)) (Zh (Z8 (Yf (pv 3) T.ac T.aO.m (Kf T) (ai:) T.aO.b .nil Z1 (Za (pcT (Zc9 T) hr T.gr (Za (pv 2) (Za (Zv Z0 (pv 5) (Zj Z6 (Zj Y7 (pcT (W9 T) hr T.aW (Za (pv 0) (Za Zf Zc))) Zf) (Zn Zm (by rfl) T.am PySem.boot_len (Za (pv 5) Zc))) (j:)) Zc))) (Za (Zj Zlo Zf Zf) (Za Zf Zc)))))) Zz)
   (Ze (Xr PassesOwn.never rfl (Zlf rfl T.aD (Za Zf (Za (Zn (Zmx rfl) (by rfl) T.jL PyProof.Rows.boot_min (Za Zf (Za (Zn (Zdp rfl) (by rfl) T.jd PyProof.Rows.boot_max (Za Zf (Za (k:) Zc))) Zc))) Zc))) (Zk (i:=6) X0.nd rfl (g:)) (Ze (Z8 (Yf (pv 3) T.ac T.aV.m (Gh T) (ai:) T.aV.b .nil Z1 (Za Z5 Zc)))
   (Ze (Zs (i:=7) X0.nd rfl (g:) (pcT (Uv T) hr T.cT (Za (pv 3) Zc)))
   (Ze (Z8 (Xa (pv 3) T.ac T.aI.m (V9 T) (ai:) T.aI.b .nil Z1))
   (Ze (Zs (i:=8) X0.nd rfl (g:) (pcT (Uv T) hr T.cT (Za (pv 3) Zc)))
   (Ze (Zs (i:=5) X0.nd rfl (g:) (pcT (Ge T) hr T.d6 (v:)))
   (Ze (Zs (i:=9) X0.nd rfl (g:) (pcT (W9 T) hr T.aW (Za (pv 0) (Za (pv 6) Zc))))
   (Ze (Zs (i:=10) X0.nd rfl (g:) (Zv Z0 (pv 5) (Zj Z6 (Zj Y7 (pv 9) Zf) (Zn Zm (by rfl) T.am PySem.boot_len (Za (pv 5) Zc))) (j:)))
   (Ze (Zs (i:=11) X0.nd rfl (g:) (pcT (Gc T) hr T.d7 (Za (pv 3) (Za (Xg (Za Z5 (Za (pcT (Zc9 T) hr T.gr (Za (pv 2) (Za (pv 10) Zc))) (Za (pcT (Zns T) hr T.ja (Za (Jf Yw (Zj Z6 (pv 9) Zf) Zf (Zr _)) Zc)) Zc)))) Zc))))
   (Ze (Z9 (Zq Zlr (pv 11) Wl (Zr _)) (Ze (Z9 (PW.pt (Ve (Zq (Zlp hr.units70) (pcT (Uv T) hr T.cT (Za (pv 3) Zc)) (pv 8) (Zr _)) (Ve (Zq Zij (pcT (Gc T) hr T.d7 (Za (pv 3) (Za (Xg (Za Z5 Zc)) Zc))) Us (Zr _)) (Qz (Zq (Zlp hr.units70) (pcT (Uv T) hr T.cT (Za (pv 3) Zc)) (pv 7) (Zr _)))))) (Zh (Zl Us)) Zz)
   (Zh (Z8 (Xa (pv 3) T.ac T.aI.m (V9 T) (ai:) T.aI.b .nil Z1)))) (Ze (Z9 (PW.pt (Ve (Zq Zij (pv 11) Us (Zr _)) (Qz (Zq Ql (pcT (Gc T) hr T.d7 (Za (pv 3) (Za (Xg (Za Z5 Zc)) Zc))) Wl (Zr _))))) (Zh (Zl Us)) Zz)
   (Zh (Xt (pcT (Zho T) hr T.gX (Za (pv 1) (Za (pv 2) (Za (pcT (Zjt T) hr T.gY (Za (pv 1) (Za (pv 10) (Za (Jf Yw (Zj Z6 (pv 9) Zf) Zf (Zr _)) Zc)))) Zc)))) (Ww rfl (Zw (Zk (i:=1) X0.nd rfl (g:)) (Zw (Zk (i:=2) X0.nd rfl (g:)) Yz)))))))
   (Zh (Z9 (PW.pt (Ve (Zq Yw (Zn Zm (by rfl) T.am PySem.boot_len (Za (pcT (Ge T) hr T.d6 (v:)) Zc)) Zf (Zr _)) (Qz (Zq (Zrv hr.units70) (Xa (pv 3) T.ac T.aA.m (Vb T) (ai:) T.aA.b .nil Z1) (pv 2) (Zr _))))) (Zh (Zl Us)) Zz))))))))))))
   (Zh (Zl Us))))))))))),?_⟩;refine Zx λk6 j6=>?_;refine ⟨_,Y,a,sc,Y,hS,hl,λp m r M ns H1 sm1 hp hm nh td t7 ql ox=>?_⟩;refine ⟨p,_,Y,SqT.of hp,Y,_,_,Y,_,_,Y,Y,?_⟩;refine j6 _ _ ?_;obtain ⟨ts,g1,g2,g3⟩:=id nh;have h64:ns.length < 64:=by rw [td.len]; lia
  refine Zx λk6 j6=>?_;refine ⟨_,Y,r,_,Y,.inl (SqL.of g1),λl l7=>?_⟩;intro x dx hx hdx kr;obtain ⟨rl2,s2⟩:=Zm5 (C:=t.ae) g1 g2 g3 l7 hx hdx;have m7:=(Same.new (o:=.lst (ts.map V.ref)) l7).trans s2;refine ⟨x,l,dx,M,ns,Y,Zb,rl2,td,h64,λH3 old hn=>⟨Y,?_⟩⟩;obtain ⟨be,sc0,st,un,kd,th,po,wo,ks,hn,n1,n2,su⟩:=hn;obtain ⟨H0,xj,ha⟩:=HallNew.hall td hn su (λb u hb e=>old b u hb (m7 b u e)) (old _ _ kr (by rw [Zd kr]; exact Zb)) (Y9 hx).2 (Y9 hdx).2 (m7.free n1) (m7.free n2);have sw:=hn.sw;refine j6 _ _ ?_
  try dsimp only [Zo]
  have O:Own K H0 a m r sc M ns:=⟨xj.seq (sm1.seq hS),xj _ _ hm,nh.same xj⟩;clear old rl2 s2 m7 g1 g2 g3 nh hm ox ql hp sm1 hx hdx kr l7 hS hn n1 n2 su xj;refine Zx λk6 j6=>?_;refine ⟨_,Y,_,Y,a,m,sc,3,M,Y,ha.low.seq O.seq,hl,by decide,by decide,ha.low _ _ O.hm,t7,⟨_,td.n.choose_spec.2.2⟩,td.inv,λw1 ws H4 s4 hw1 h4 l1 p1=>?_⟩;refine j6 _ _ ?_
  try dsimp only [Zo]
  obtain ⟨km,z1,ha,nw⟩:=ha.more s4;have h1:=nw w1 _ h4 hw1;replace O:=O.same z1;clear nw z1 h4 hw1 s4;refine Zx λk6 j6=>?_;refine ⟨_,Y,m,M,Y,ha.low _ _ O.hm,by lia,td.inv,λfl H5 s5 nj h5=>?_⟩;refine j6 _ _ ?_
  try dsimp only [Zo]
  obtain ⟨km,z1,ha,nw⟩:=ha.more s5;have hf:=nw fl _ h5 nj;replace O:=O.same z1;replace h1:=z1 _ _ h1;clear nw z1 h5 nj s5;refine Yc (λσ H'=>σ=[some (.ref a),some (.ref m),some (.ref r),some (.ref x),some (.ref w1),some (.ref fl),none,none,none,none,none,none]/\H'=H5/\Pl M ws/\Xo M≠[]) (ab:) ?_
  ·refine ⟨_,Y,w1,_,Y,.inl (SqL.of (ha.low _ _ h1)),Y,_,Y,?_⟩
   refine (λR=>ite2 (λz=>iteT R) (λz=>⟨_,Y,fl,_,Y,.inl (SqL.of (ha.low _ _ hf)),Y,_,Y,ite2 (λz'=>R) (λz'=>?on)⟩)) ?none
   case none =>
    obtain ⟨dx,be,om,st,un,qs,us,B⟩:=id ha;refine ⟨_,Y,x,dx,_,Y,B.ins,Y,x,_,_,_,_,Y,ha,Az _,λl H' s' n' e'=>⟨Az _,λq hq=>?_⟩⟩;exact ⟨l,q,[],[],Y,Y,SqL.of (Same.new hq _ _ e'),SqL.of Zb,k _⟩
   case on =>
    refine kh _ _ ⟨Y,Y,p1.resolve_left λe=>z (by subst e; rfl),λe=>z' (by rw [e]; rfl)⟩
  rintro σ H6 ⟨rfl,rfl,hP,qm⟩;have hwp:0 < ws.length:=length_pos_iff.mpr hP.ne;refine Zx λk6 j6=>?_;obtain ⟨dx,be,om,st,un,qs,us,B⟩:=id ha;have hm4:(400:Int) / ((ws.map nV).length:Nat)=((400 / ws.length:Nat):Int):=by rw [Ab]; rfl
  have yv:400 / ws.length * ws.length<=400:=div_mul_le_self _ _;have oh:0 < 400 / ws.length:=div_pos (by lia) hwp;have wy:=div_le_self 400 ws.length;generalize 400 / ws.length=m4 at hm4 yv oh wy;refine ⟨_,Y,x,dx,_,Y,B.ins,Y,_,Y,_,Y,w1,_,Y,.inl (SqL.of (ha.low _ _ h1)),_,_,Y,Y,⟨by rw [Ab]; lia,by rw [Ab]; lia⟩,?_⟩;refine ⟨w1,(m4:Int),_,Y,congrArg V.int hm4,ha.low _ _ h1,by lia,by lia,by rw [Int.toNat_natCast,Ab,Nat.mul_comm,sizeLine_eq]; lia,λp hp=>?_⟩;rw [Int.toNat_natCast,show (List.replicate m4 (ws.map nV)).flatten=(rp m4 ws).map nV from (Zrn nV m4 ws).symm];have sp:=Same.new (o:=.lst ((rp m4 ws).map nV)) hp;have hP4:Pl M (rp m4 ws):=hP.rep oh;have yd:(rp m4 ws).length<=400:=by rw [show (rp m4 ws).length=m4 * ws.length from Zf0 ws m4]; exact yv
  generalize rp m4 ws=WS at sp hP4 yd ⊢;refine ⟨x,p,km,M,ns,ks,_,WS,Y,ha.same sp,td,by lia,Zb,yd,hP4,λrr HX rh z1 z2=>?_⟩;refine j6 _ _ ?_
  try dsimp only [Zo]
  replace ha:Ya t.aa t.ag t.ae HX rh x ⟨M,ns,some WS,none,ks,λ_=>(1,1)⟩ [(rr,⟨M,ns,none,none,ks,λ_=>(1,1)⟩)] []:=z2;replace O:=O.same z1;replace h1:=z1 _ _ h1;replace hf:=z1 _ _ hf;clear z1 z2 sp hp B hm4 yv oh wy;refine Zx λk6 j6=>?_;obtain ⟨dx,be,om,st,un,qs,us,B⟩:=id ha;have lo:=ha.low;refine ⟨_,Y,x,dx,_,Y,B.ins,Y,_,Y,_,Y,_,Y,m,w1,M,ws,Y,lo _ _ O.hm,by lia,td.inv,lo _ _ h1,hP,λc Hc s1 hc t5=>?_⟩;have lo1:=lo.trans s1;rw [<- td.len] at t5;refine ⟨r,c,ns,crP M ws,Y,O.hr.same lo1,by lia,t5,λl f Hd s2 hld hfd hxf=>?_⟩;have m7:=s1.trans s2;have pc:=Zsf td.inv hP;have nm:=Nm.of td pc hxf;refine ⟨x,l,rh,M,ns,ks,_,WS,f,_,_,Y,ha.same m7,td,h64,by show 1<=800; decide,⟨_,hfd,List.Perm.refl _⟩,Zs6 pc nm td,λy hy=>?_,λrr' HX rh z1 z2=>?_⟩
  ·obtain ⟨q,_,e⟩:=hxf y hy
   rw [e];exact Int.lt_of_le_of_lt (Zsg M ws q) (Int.lt_of_le_of_lt (Int.ofNat_le.mpr l1) (d:))
  refine j6 _ _ ?_
  try dsimp only [Zo]
  replace O:=O.same z1;replace hf:=z1 _ _ hf;obtain ⟨S,eS⟩:∃ S,S=[(rr',(⟨M,ns,some WS,none,ks,λ_=>(1,1)⟩:Sd)),(rr,⟨M,ns,none,none,ks,λ_=>(1,1)⟩)]:=⟨_,rfl⟩;replace ha:Ya t.aa t.ag t.ae HX rh x ⟨M,ns,some WS,some f,ks,λ_=>(1,1)⟩ S []:=by rw [eS]; exact z2
  have hS2:S.length<=2:=by rw [eS]; exact An _
  clear z1 z2 m7 s1 s2 lo lo1 hc t5 pc nm hxf hfd B eS h1;have zr:(Xo M).length≠0:=λz=>qm (eq_nil_of_length_eq_zero z);refine Yc (λσ H'=>∃ (H0:Hp) (g:Int->Nat × Nat) (S:List (aa:)),σ=[some (.ref a),some (.ref m),some (.ref r),some (.ref x),some (.ref w1),some (.ref fl),none,none,none,none,none,none]/\Own K H0 a m r sc M ns/\Ya t.aa t.ag t.ae H' H0 x ⟨M,ns,some WS,some f,ks,g⟩ S []/\S.length<=3/\∀ y∈ks,OkF (g y)) (ab:) ?_
  ·refine ⟨_,Y,a,sc,4,Y,ha.low.seq O.seq,hl,by decide,by decide,_,_,Y,Y,(by show (0:Int) < 2; decide),rfl,_,rfl,ite2 (λ_=>?_) (λ_=>kh _ _ ⟨_,_,_,rfl,O,ha,by lia,λ_ _=>Zil⟩)⟩
   have k0:=Int.emod_nonneg (cell sc 4 / 2) (show ((Xo M).length:Int)≠0 by lia);have k1:=Int.emod_lt_of_pos (cell sc 4 / 2) (show (0:Int) < (Xo M).length by lia);obtain ⟨kq,hkq⟩:∃ kq:Nat,cell sc 4 / 2 % ((Xo M).length:Int)=kq:=⟨_,(Int.toNat_of_nonneg k0).symm⟩;have lp:kq < (Xo M).length:=by lia
   have qf:=Ac lp;obtain ⟨j,hj,hqj,qp⟩:=Zgv (getElem_mem lp);generalize (Xo M)[kq]=q at hj hqj qp qf;have hqn:q < ns.length:=by rw [td.len]; exact (Aa hj).1
   obtain ⟨tj,wn⟩:∃ z,ns[q]?=some z:=⟨_,Ac hqn⟩;obtain ⟨dx,be,om,st,un,qs,us,B⟩:=id ha;have lo:=ha.low;have p60:(10:Int) ^ (60:Int).toNat=1000000000000000000000000000000000000000000000000000000000000:=by decide +kernel
   refine ⟨_,Y,x,dx,_,Y,B.ins,Y,_,Y,_,Y,_,Y,a,sc,4,Y,lo.seq O.seq,hl,by decide,by decide,?_⟩;refine ⟨_,_,Y,Y,⟨by decide,by decide⟩,_,Y,fl,_,Y,.inl (SqL.of (lo _ _ hf)),_,_,Y,Y,(by rw [Ab]; lia),fl,_,_,_,rfl,rfl,SqL.of (lo _ _ hf),(by rw [Ab,hkq]; exact Y1 qf),?_⟩;refine ⟨r,ns,q,tj,Y,O.hr.same lo,wn,?_⟩;refine ⟨_,_,Y,Y,⟨by decide,by decide,by decide⟩,?_⟩;refine ⟨x,tj,_,_,_,_,congrArg (λz=>[V.ref x,V.int tj,V.int z,V.int 1]) p60,ha,td,by lia,sw,h64,(sw.mem tj).mpr ⟨q,j,hj,wn⟩,λrr HX km z1 z2=>kh _ _ ⟨km,_,_,Y,O.same z1,z2,by show _ + 1<=3; lia,λy hy=>?_⟩⟩;unfold putG;by_cases z:y=tj
   ·rw [if_pos z]; exact Zp6
   ·rw [if_neg z]; exact Zil
  rintro σ H7 ⟨H0,g,S,rfl,O,ha,hS3,fr⟩;have OD:OkD M ns WS ks g:=⟨td,h64,hP4,yd,sw,fr⟩
  try dsimp only [Zo]
  show tSeq (tFor _ _ _) _ _ _ _;refine Yc (λσ H4=>True) (ab:) ?_
  ·have hmx:∀ z:Int,0<=z->z<=63->8<=(if (if z > 8 then z else 8) < 11 then (if z > 8 then z else 8) else 11)/\(if (if z > 8 then z else 8) < 11 then (if z > 8 then z else 8) else 11)<=11:=λz h0 h1=>by
    split <;> split <;> lia
   have hz:=hmx (((sc.map V.int).length:Nat):Int) (by lia) (by rw [Ab]; lia);refine ⟨_,Y,a,_,Y,.inl (ha.low.seq O.seq),_,_,Y,_,_,Y,_,_,Y,⟨by decide,by decide,by lia,by lia⟩,?_⟩;generalize (if (if (((sc.map V.int).length:Nat):Int) > 8 then (((sc.map V.int).length:Nat):Int) else 8) < 11 then (if (((sc.map V.int).length:Nat):Int) > 8 then (((sc.map V.int).length:Nat):Int) else 8) else 11)=top at hz;refine Jx (n:=(top - 5).toNat) (λc σ H4=>∃ (m r:Addr) (M:Lq) (ns ks:List Int) (WS:List Nat) (f:Int->Int) (g:Int->Nat × Nat) (S U:List (aa:)) (H0:Hp) (v5 v6 v7 v8 v9 ph v11:Option V),σ=[some (.ref a),some (.ref m),some (.ref r),some (.ref x),some (.ref w1),v5,v6,v7,v8,v9,ph,v11]/\Own K H0 a m r sc M ns/\Ya t.aa t.ag t.ae H4 H0 x ⟨M,ns,some WS,some f,ks,g⟩ S U/\OkD M ns WS ks g/\M.length<=42/\S.length<=3 + c/\Xo M≠[])
    ⟨m,r,M,ns,ks,WS,f,g,S,[],H0,_,_,_,_,_,_,_,rfl,O,ha,OD,t7,by lia,qm⟩ ?_ ?_
   ·clear O ha OD t7 hS3 qm fr td h64 sw hP yd hP4 hf zr hS2
    rintro c σ H4 hc ⟨m,r,M,ns,ks,WS,f,g,S,U,H0,v5,v6,v7,v8,v9,ph,v11,rfl,O,ha,OD,t7,hSl,qm⟩;have td:=OD.td;obtain ⟨n,n1,u7,hn⟩:=td.n;have zr:(Xo M).length≠0:=λz=>qm (eq_nil_of_length_eq_zero z)
    try dsimp only [Zo]
    refine Zx λk6 j6=>?_;obtain ⟨dx,be,om,st,un,qs,us,B⟩:=id ha;refine ⟨_,Y,x,dx,_,Y,B.ins,Y,x,H0,M,ns,ks,g,WS,f,S,U,Y,ha,by lia,λrr HX km z1 z2=>?_⟩;refine j6 _ _ ?_
    try dsimp only [Zo]
    replace O:=O.same z1;clear ha B z1;refine Zx λk6 j6=>?_;refine ⟨_,Y,x,km,_,_,_,WS,Y,z2,Y,by show S.length + 1<=900; lia,λvb HY rh y1 ha ul=>?_⟩;refine j6 _ _ ?_
    try dsimp only [Zo]
    replace O:=O.same y1;clear z2 y1;refine Zx λk6 j6=>?_;obtain ⟨dx,be,om,st,un,qs,us,B⟩:=id ha;refine ⟨_,Y,x,dx,_,Y,B.ins,Y,x,rh,_,_,S,[],Y,ha,Az _,λHZ H03 y1 y2=>?_⟩;refine j6 _ _ ?_
    try dsimp only [Zo]
    replace O:=O.same y1;replace ul:=ul.same y1;clear ha B y1;refine Zx λk6 j6=>?_;refine ⟨_,Y,x,H03,_,_,_,WS,Y,y2,Y,by lia,λva HW H04 y1 ha y6=>?_⟩;refine j6 _ _ ?_
    try dsimp only [Zo]
    replace O:=O.same y1;replace ul:=ul.same y1;clear y2 y1;refine Zx λk6 j6=>?_;refine ⟨_,Y,m,M,Y,ha.low _ _ O.hm,by lia,td.inv,λfl H5 s5 nj h5=>?_⟩;refine j6 _ _ ?_
    try dsimp only [Zo]
    obtain ⟨H05,z1,ha,nw⟩:=ha.more s5;have hf:=nw fl _ h5 nj;replace O:=O.same z1;replace ul:=ul.same z1;replace y6:=y6.same z1;clear nw z1 h5 nj s5;refine Zx λk6 j6=>?_;refine ⟨_,Y,_,Y,a,sc,_,Y,ha.low.seq O.seq,hl,by lia,by lia,?_⟩;refine j6 _ _ ?_
    try dsimp only [Zo]
    generalize cell sc (5 + (c:Int))=k9;have k0:=Int.emod_nonneg (k9 / 2) (show ((Xo M).length:Int)≠0 by lia);have k1:=Int.emod_lt_of_pos (k9 / 2) (show (0:Int) < (Xo M).length by lia);obtain ⟨kq,hkq⟩:∃ kq:Nat,k9 / 2 % ((Xo M).length:Int)=kq:=⟨_,(Int.toNat_of_nonneg k0).symm⟩;have lp:kq < (Xo M).length:=by lia
    have qf:=Ac lp;obtain ⟨j,hj,hqj,qp⟩:=Zgv (getElem_mem lp);generalize (Xo M)[kq]=q at hj hqj qp qf;have hqM:q < M.length:=(Aa hj).1;have hjM:j < M.length:=(Aa (td.inv q j hj).1).1;have hqn:q < ns.length:=by rw [td.len]; exact hqM
    obtain ⟨tj,wn⟩:∃ z,ns[q]?=some z:=⟨_,Ac hqn⟩;have mv:Mv M ns tj q j:=⟨hj,hqj,wn,qp⟩;refine Zx λk6 j6=>?_;refine ⟨_,Y,_,Y,_,_,Y,Y,⟨by decide,by decide⟩,_,Y,fl,_,Y,.inl (SqL.of (ha.low _ _ hf)),_,_,Y,Y,(by rw [Ab]; lia),fl,_,_,_,rfl,rfl,SqL.of (ha.low _ _ hf),(by rw [Ab,hkq]; exact Y1 qf),?_⟩;refine j6 _ _ ?_
    try dsimp only [Zo]
    obtain ⟨left,wz⟩:∃ left,decide (V.int (k9 % 2)=V.int 0)=left:=⟨_,rfl⟩;obtain ⟨dL,edL⟩:∃ dL:Sd,dL=⟨M,ns,some WS,none,ks,g⟩:=⟨_,rfl⟩;obtain ⟨dA,edA⟩:∃ dA:Sd,dA=⟨M,ns,some WS,some f,ks,g⟩:=⟨_,rfl⟩;refine Yc (λσ H'=>(σ=[some (.ref a),some (.ref m),some (.ref r),some (.ref x),some (.ref w1),some (.ref fl),some (.int (5 + (c:Int))),some (.ref vb),some (.ref va),some (.int k9),some (.int q),some .non]/\∃ H0,Ya t.aa t.ag t.ae H' H0 x dA S [(rr,dL)]/\Same H05 H0)\/(σ=[some (.ref a),some (.ref m),some (.ref r),some (.ref x),some (.ref w1),some (.ref fl),some (.int (5 + (c:Int))),some (.ref vb),some (.ref va),some (.int k9),some (.int q),some (.bl true)]/\∃ (H0:Hp) (r2:Str) (yk:List Nat) (f':Int->Int) (g':Int->Nat × Nat),Ya t.aa t.ag t.ae H' H0 x ⟨exM left q j M,exN left q j ns,some yk,some f',ks,g'⟩ ((r2,dA) :: S) []/\OkD (exM left q j M) (exN left q j ns) yk ks g'/\Same H05 H0)) (ab:) ?_
    ·refine ⟨_,Y,_,Y,_,Y,r,ns,q,tj,Y,O.hr.same ha.low,wn,?_⟩
     refine ⟨_,Y,_,_,Y,Y,(by show (0:Int) < 2; decide),rfl,_,rfl,?_⟩;refine ⟨(by show 3<=sizeLine; decide),λdd yg=>?_⟩;obtain ⟨dx,be,om,st,un,qs,us,B⟩:=id ha;have sd:=Same.new (o:=.tup [V.str (Str.ofString "turn"),V.int tj,V.str (wayS (decide (V.int (k9 % 2)=V.int 0)))]) yg;refine ⟨x,dd,dx,be,om,st,un,Y,sd _ _ B.ins,.inl ⟨tj,_,Zb,x,H05,M,ns,ks,g,WS,f,S,_,tj,_,q,j,Y,ha.same sd,OD,mv,by lia,λv H' km _ s' A=>?_,λr2 yk f' g' H' km s' A O'=>?_⟩⟩
     ·exact kh _ _ (.inl ⟨Y,km,by rw [edA,edL]; exact A,s'⟩)
     ·rw [wz] at A O'
      exact kh _ _ (.inr ⟨Y,km,r2,yk,f',g',by rw [edA]; exact A,O',s'⟩)
    rintro σ H' h;refine Yc (λσ H'=>∃ (m r:Addr) (M:Lq) (ns:List Int) (WS:List Nat) (f:Int->Int) (g:Int->Nat × Nat) (S U:List (aa:)) (H0:Hp),σ=[some (.ref a),some (.ref m),some (.ref r),some (.ref x),some (.ref w1),some (.ref fl),some (.int (5 + (c:Int))),some (.ref vb),some (.ref va),some (.int k9),some (.int q),σ.getD 11 none]/\Own K H0 a m r sc M ns/\Ya t.aa t.ag t.ae H' H0 x ⟨M,ns,some WS,some f,ks,g⟩ S U/\OkD M ns WS ks g/\M.length<=42/\S.length<=3 + (c + 1)/\Xo M≠[]) (ab:) ?_
    ·rcases h with ⟨rfl,H06,ha,s6⟩ | ⟨rfl,H06,r2,yk,f',g',ha,OD',s6⟩
     ·have ul:=ul.same s6
      have y6:=y6.same s6;have O:=O.same s6;rw [<- edL,<- edA] at ul;rw [<- edA] at y6;have twA:dA.tw=some WS:=by rw [edA]
      have twL:dL.tw=some WS:=by rw [edL]
      refine ⟨_,Y,Y,_,Y,iteT ?_⟩;refine Yc (λσ H'=>σ=[some (.ref a),some (.ref m),some (.ref r),some (.ref x),some (.ref w1),some (.ref fl),some (.int (5 + (c:Int))),some (.ref vb),some (.ref va),some (.int k9),some (.int q),some .non]/\∃ (H0:Hp) (r2:Str),Ya t.aa t.ag t.ae H' H0 x dL ((r2,dA) :: S) []/\Same H06 H0) (ab:) ?_
      ·refine ⟨_,Y,x,H06,dA,S,_,WS,Y,ha,twA,by lia,λv1 HY H07 y1 ha V1=>?_⟩
       obtain ⟨a1,b1,xs,ys,e1,e2,t1,t2,le,pw⟩:=Vw.alike (K:=K) (V1.same ha.low) ((y6.same y1).same ha.low);refine ⟨_,Y,a1,b1,xs,ys,e1,e2,t1,t2,le,pw,_,Y,iteF ?_⟩;refine ⟨_,Y,(by show 1<=sizeLine; decide),λdd yg=>?_⟩;obtain ⟨dx,be,om,st,un,qs,us,B⟩:=id ha;have sd:=Same.new (o:=.tup [V.str (Str.ofString "again")]) yg;refine ⟨x,dd,dx,be,om,st,un,Y,sd _ _ B.ins,.inr ⟨Zb,x,H07,dA,S,_,Y,ha.same sd,by lia,(λz=>nomatch z),λe U' eU H' km s' A=>?_⟩⟩;cases eU;refine ⟨_,_,Y,Y,_,Y,iteF ?_⟩;refine ⟨_,Y,x,km,dL,_,[],WS,Y,A,twL,by show S.length + 1<=900; lia,λv2 HZ H08 y2 sj V2=>?_⟩;obtain ⟨a2,b2,xs2,ys2,e3,e4,t3,t4,le2,pw2⟩:=Vw.alike (K:=K) (V2.same sj.low) ((ul.same (y1.trans (s'.trans y2))).same sj.low);exact ⟨_,Y,a2,b2,xs2,ys2,e3,e4,t3,t4,le2,pw2,_,Y,iteF (kh _ _ ⟨Y,H08,_,sj,y1.trans (s'.trans y2)⟩)⟩
      rintro σ H8 ⟨rfl,H08,r2,ha8,s8⟩;obtain ⟨dx,be,om,st,un,qs,us,B⟩:=id ha8;exact ⟨_,Y,x,dx,_,Y,B.ins,Y,x,H08,dL,(r2,dA),S,[],Y,ha8,Az _,λHZ H09 y1 y2=>kh _ _ ⟨m,r,M,ns,WS,f,g,S,_,H09,Y,O.same (s8.trans y1),by rw [edA] at y2; exact y2,OD,t7,by lia,qm⟩⟩
     ·have O:=O.same s6
      refine ⟨_,Y,Y,_,Y,iteF ?_⟩;obtain ⟨n',n1',n40',hn'⟩:=td.n;refine Yc (λσ H'=>σ=[some (.ref a),some (.ref m),some (.ref r),some (.ref x),some (.ref w1),some (.ref fl),some (.int (5 + (c:Int))),some (.ref vb),some (.ref va),some (.int k9),some (.int q),some (.bl true)]/\∃ H0,Ya t.aa t.ag t.ae H' H0 x ⟨exM left q j M,exN left q j ns,some yk,some f',ks,g'⟩ ((r2,dA) :: S) []/\Same H06 H0) (ab:) ?_
      ·refine ⟨_,Y,true,true,Y,Y,_,Y,iteF ?_⟩
       refine ⟨_,Y,(by show 1<=sizeLine; decide),λdd yg=>?_⟩;obtain ⟨dx,be,om,st,un,qs,us,B⟩:=id ha;have sd:=Same.new (o:=.tup [V.str (Str.ofString "again")]) yg;refine ⟨x,dd,dx,be,om,st,un,Y,sd _ _ B.ins,.inr ⟨Zb,x,H06,_,_,_,Y,ha.same sd,by show S.length + 1<=800; lia,λ_=>?_,λe U' eU=>nomatch eU⟩⟩;exact ⟨Y,_,Y,iteF (kh _ _ ⟨Y,H06,ha.same sd,Same.refl _⟩)⟩
      rintro σ H8 ⟨rfl,H08,ha8,s8⟩;have O:=O.same s8;refine ⟨_,Y,_,Y,_,Y,_,Y,_,Y,_,_,Y,Y,(by show (0:Int) < 2; decide),rfl,m,M,n',q,j,_,rfl,ha8.low _ _ O.hm,hn',n40',hj,(td.inv q j hj).1,qp,λgl H9 s9 hgl h9=>?_⟩;rw [wz] at h9;obtain ⟨dx,be,om,st,un,qs,us,B8⟩:=id ha8;have B:=B8.same s9;obtain ⟨cu,inR,sc0,cj⟩:=B.cut;have O9:=O.same sc0;have hgl0:cutH [x,st,un] H9 gl=some (.lst (((List.range M.length).map λ(z:Nat)=>mvI left q j (z:Int)).map V.int)):=by
       rw [W0 (λz=>?_)]
       ·exact h9
       ·exact B8.fresh (Same.refl _) hgl (inR gl z)
      refine ⟨[x,st,un],cu,m,r,gl,M,ns,q,j,left,Y,O9.hm,O9.hr,hgl0,td,hqM,hjM,qp,λp9 m9 r9 HA sA hp9 hm9 vc hnA=>?_⟩;obtain ⟨sJ,sR⟩:=cj HA sA hnA;obtain ⟨s0,haJ⟩:=B.at sJ;have hp9':=Rs.le _ _ (sR _ _ hp9);refine ⟨p9,_,Y,SqT.of hp9',Y,_,_,Y,_,_,Y,Y,?_⟩;refine kh _ _ ⟨m9,r9,exM left q j M,exN left q j ns,yk,f',g',(r2,dA) :: S,[],_,Y,⟨s0.seq O.seq,sR _ _ hm9,vc.same sR⟩,haJ,OD',by rw [Vm]; exact t7,by show S.length + 1<=3 + (c + 1); lia,λz=>?_⟩;have:=Zqj (mv.ex (left:=left) td).hM hqj qp;rw [z] at this; cases this
    rintro σ H9 ⟨m,r,M,ns,WS,f,g,S,U,H0,eσ,O,ha,OD,t7,hSl,qm⟩;generalize σ.getD 11 none=v11 at eσ;subst eσ;have lo:=ha.low;refine ⟨_,Y,m,M,Y,lo _ _ O.hm,by lia,OD.td.inv,λfl2 H10 xj nj h10=>?_⟩;refine ⟨fl2,_,Y,.inl (SqL.of h10),Y,_,Y,?_⟩;refine ite2 (λz=>?_) (λ_=>?_)
    ·have z:=of_decide_eq_true z
     rw [Ab] at z
     injection z with z
     exact absurd (eq_nil_of_length_eq_zero (by lia)) qm
    have ha:=ha.same xj;obtain ⟨dx,be,om,st,un,qs,us,B⟩:=id ha;refine ⟨_,Y,x,dx,_,Y,B.ins,Y,x,H0,_,S,U,Y,ha,λl H11 s11 n11 hr11=>?_⟩;obtain ⟨xs,ys,q1,q2,le,pw⟩:=Zk4 (K:=K) hr11 (O.hr.same (lo.trans (xj.trans s11)));exact ⟨_,Y,l,r,xs,ys,Y,Y,q1,q2,le,pw,_,Y,iteF ⟨m,r,M,ns,ks,WS,f,g,S,U,H0,_,_,_,_,_,_,_,Y,O,ha.same s11,OD,t7,by lia,qm⟩⟩
   ·rintro σ H4 ⟨m,r,M,ns,ks,WS,f,g,S,U,H0,v5,v6,v7,v8,v9,ph,v11,rfl,_⟩
    exact kh _ _ True.intro
  ·rintro σ H4 _
   exact k _
end
end KT
open PySem PySem.W PyProof.Rows
namespace PySem.W.Fast
def Z:=True
def tw5858274563094149770:=Z
def tw5113682001776106541:=Z
def tw7526430238150318732:=Z
def tw14434081798204147016:=Z
def tw17733788581776909897:=Z
def tw4505904463641553922:=Z
def tw12789851105474776676:=Z
def tw9098945143623954620:=Z
def tw2830691556033825933:=Z
def tw16594167150571745175:=Z
def tw15615522098906386610:=Z
def tw12560875820412064189:=Z
def tw15985241231605330124:=Z
def tw14512774070842161627:=Z
def tw6882044225715902263:=Z
def tw16398024261379645748:=Z
def tw16070037678737372965:=Z
def tw12631066775471677227:=Z
def tw17925641945000581219:=Z
def tw10464028747644755907:=Z
def tw8883067821127523683:=Z
def tw2516756986750123963:=Z
def tw972225359476073633:=Z
def tw16219622744966555041:=Z
def tw18272737626223726671:=Z
def tw1557472521613999628:=Z
def tw5309236615179658018:=Z
def tw3402682083846472456:=Z
def tw9070207928962831707:=Z
def tw17081259690657449154:=Z
def tw6232549410087410900:=Z
def tw11425813719284883500:=Z
def tw7080591337296567864:=Z
def tw17204744379501391684:=Z
def tw13280094035290966334:=Z
def tw1209700260011474618:=Z
def tw7396734776764491100:=Z
def tw10947481418451328314:=Z
def tw5899456260898574129:=Z
def tw15613608879642322132:=Z
def tw16451807257507997313:=Z
def tw8519613288030672821:=Z
def tw15125244311090672157:=Z
def tw13761940543861866899:=Z
def tw11510254872403644120:=Z
def tw11382412680874877329:=Z
def tw17126996488203467192:=Z
def tw5734253250858020564:=Z
def tw2866340914391515121:=Z
def tw15847013011322615436:=Z
def tw6817756318596234542:=Z
def tw1535595328972626373:=Z
def tw8871545631614974724:=Z
def tw4438252049574945816:=Z
def tw2737361674329503641:=Z
def tw9565161854035520348:=Z
def tw14226946722742575057:=Z
def tw18094608291558349956:=Z
def tw14313339253453961562:=Z
def tw1569048036190435988:=Z
def tw5406813957221425808:=Z
def tw24993731048914839:=Z
def tw2883256227690565714:=Z
def tw3542380881821051733:=Z
def tw16194504295519613808:=Z
def tw4442852910737326563:=Z
def tw10646641995344684360:=Z
def tw17873330908142083522:=Z
def tw17598170489452448359:=Z
def tw828237260563330328:=Z
def tw6383063059207490549:=Z
def tw4188624166987221543:=Z
def tw778730179714743772:=Z
def tw4393264846892426750:=Z
def tw5076844413611227394:=Z
def tw2383721864051883848:=Z
def tw17050417369567970398:=Z
def tw4996399284777920573:=Z
def tw15123435850615973453:=Z
def tw12713097963858904991:=Z
def tw10703306469699744502:=Z
def tw15491568745264214435:=Z
def tw14591096715842056167:=Z
def tw8835245469864862700:=Z
def tw6108977341799052039:=Z
def tw18260151988444007207:=Z
def tw3718683686926959174:=Z
def tw6132242089074959396:=Z
def tw13994471683167005922:=Z
def tw10292417404894554553:=Z
def tw6719072967922999443:=Z
def tw7375171572846505070:=Z
def tw3956847181482832270:=Z
def tw17154738414254591174:=Z
def tw9682300004124924314:=Z
def tw11498659882032113528:=Z
def tw8476392914881795257:=Z
def tw6328816564228970779:=Z
def tw6024616280275673758:=Z
def tw6262545437367591074:=Z
def tw8550830904531293167:=Z
def tw16140785077254013581:=Z
def tw16934887224733976444:=Z
def tw5000061602055233858:=Z
def tw8559973771470965573:=Z
def tw6253865192492079326:=Z
def tw10766743460378413286:=Z
def tw3736060748007084118:=Z
def tw12662415516712300844:=Z
def tw13604176492290982677:=Z
def tw15889626979860655366:=Z
def tw1522421177443169857:=Z
def tw12058622023854014352:=Z
def tw17059681566562657371:=Z
def tw2332983139641033216:=Z
def tw13483835836145743553:=Z
def tw16706595020205296476:=Z
def tw10684341731829274862:=Z
def tw10198672546756709428:=Z
def tw7017361890327726004:=Z
def tw4406983280544627057:=Z
def tw11901818355064079066:=Z
def tw7860411587783139252:=Z
def tw14309827656116447744:=Z
def tw12119289900088655098:=Z
def tw17296992645636014984:=Z
def tw1622766049518130218:=Z
def tw6511302301502846710:=Z
def tw17465981203559425992:=Z
def tw12177739004778830591:=Z
def tw9726412533666505892:=Z
def tw4643629994920876236:=Z
def tw4076118936827452281:=Z
def tw7947492999408007107:=Z
def tw8896831204711984977:=Z
def tw2317190023296129743:=Z
def tw17462110402852399188:=Z
def tw10608162025259202332:=Z
def tw2296608809704520532:=Z
def tw5644576977269111212:=Z
def tw3002516761940175352:=Z
def tw12984082739134732626:=Z
def tw8754600527226137546:=Z
def tw14331010265604917880:=Z
def tw9326225432321348638:=Z
def tw11857968696749037535:=Z
def tw2300864424798129849:=Z
def tw2397234338905746767:=Z
def tw18400939113579070098:=Z
def tw4108569581440575377:=Z
def tw17786982923749928527:=Z
def tw16322411695399497866:=Z
def tw15198512376737250654:=Z
def tw14481696228745037339:=Z
def tw7146350403529549437:=Z
def tw3797414919391025034:=Z
def tw3716436303188540394:=Z
def tw11994762734761655049:=Z
def tw9811769486214692049:=Z
def tw12796701161814347546:=Z
def tw1434599504011644673:=Z
def tw11095509044992357724:=Z
def tw10900117672139765907:=Z
def tw196096088429597929:=Z
def tw6280771643692098505:=Z
def tw8744284932598260322:=Z
def tw7120823934828794803:=Z
def tw6976091352207714688:=Z
def tw8947865458102841166:=Z
def tw12596686086476850444:=Z
def tw7921009705494800900:=Z
def tw13211793410682717634:=Z
def tw696940299198911705:=Z
def tw3851457302341105315:=Z
def tw7636033068100825053:=Z
def tw3933078743912221702:=Z
def tw15931758415096348506:=Z
def tw7732552564112663079:=Z
def tw15425475937881941979:=Z
def tw2778886438876615764:=Z
def tw15571272414632163501:=Z
def tw17229081349912084622:=Z
def tw12001339182150034140:=Z
def tw3456772183528579180:=Z
def tw11066590152713893781:=Z
def tw6017476417409798619:=Z
def tw6918594447565350905:=Z
def tw3125115035919749354:=Z
def tw6110278534179305721:=Z
def tw5815484693477653871:=Z
def tw15168188971170690250:=Z
def tw14731896340656303573:=Z
def tw13776079931948175365:=Z
def tw4987658322858210618:=Z
def tw16558414880614824867:=Z
def tw15705399988974494204:=Z
def tw5531817022671726780:=Z
def tw15021262274735090826:=Z
def tw12451642227264313042:=Z
def tw15054634723821720270:=Z
def tw16961866171903892314:=Z
def tw14314300213533196660:=Z
def tw12013932688045621102:=Z
def tw8197070298828225761:=Z
def tw7541803871223171943:=Z
def tw9781199744833349551:=Z
def tw8415127870525666867:=Z
def tw5803074588485103024:=Z
def tw15897977226072751804:=Z
def tw17284183721558755337:=Z
def tw14541091173971149523:=Z
def tw4898001832324044393:=Z
def tw17106668829933126595:=Z
def tw15227987908024796164:=Z
def tw16438824254266128305:=Z
def tw1062547710550201686:=Z
def tw16484066039369519583:=Z
def tw15080738647509285223:=Z
def tw18046600350050428667:=Z
def tw11864696896934740159:=Z
def tw2049663452955544540:=Z
def tw8610052298255526197:=Z
def tw8522662714671088776:=Z
def tw16479885863985770080:=Z
def tw5365691549719121677:=Z
def tw10152488998916051949:=Z
def tw7967627457985944327:=Z
def tw824324710840355004:=Z
def tw2968179696917488898:=Z
def tw9819037321071039357:=Z
def tw10504005911685454025:=Z
def tw2951532172710226079:=Z
def tw12525881859244803126:=Z
def tw16682681008220104767:=Z
def tw1985346950446887661:=Z
def tw8893281172967938517:=Z
def tw3750038980779350297:=Z
def tw11633598659290674227:=Z
def tw8813714033699644111:=Z
def tw2424832833053308032:=Z
def tw1585738313212666713:=Z
def tw13998884997174370843:=Z
def tw7010716628271003970:=Z
def tw17605247546883622665:=Z
def tw16150338825891727337:=Z
def tw16234368283843905925:=Z
def tw9885310576266735501:=Z
def tw7996476821548363997:=Z
def tw1421211699242758401:=Z
def tw2115682977011119621:=Z
def tw6627479763807420906:=Z
def tw5890543197199024877:=Z
def tw17172771484268084305:=Z
def tw15008191404391347609:=Z
def tw15357359251916129151:=Z
def tw10032339193050583950:=Z
def tw13773772466734042771:=Z
def tw11065984370975081794:=Z
def tw11584415798719414460:=Z
def tw12923565344422831222:=Z
def tw2459068812993503690:=Z
def tw3217340830140943581:=Z
def tw10975899698680909202:=Z
def tw15390882270781945463:=Z
def tw14526552125553717775:=Z
def tw12729798987719390009:=Z
def tw1760250482982639877:=Z
def tw10523130634091834929:=Z
def tw1308896329591738383:=Z
def tw10185649304699672621:=Z
def tw8941639225638754507:=Z
def tw7770919645057928525:=Z
def tw9892251146958283931:=Z
def tw11152094648650140017:=Z
def tw10187393400854906916:=Z
def tw10106902248748353363:=Z
def tw16169161721612211496:=Z
def tw16350820085327916639:=Z
def tw5161182290425484382:=Z
def tw16464154579472186975:=Z
def tw12263260764420046004:=Z
def tw439843640061566375:=Z
def tw13189470126621044877:=Z
def tw4832756129630838769:=Z
def tw2855699430928086141:=Z
def tw2805612585140696449:=Z
def tw14599526795117087256:=Z
def tw14542200073045975409:=Z
def tw11006996652974981051:=Z
def tw11018890982572290551:=Z
def tw4934608417186643653:=Z
def tw2731402770693082792:=Z
def tw2704570400331573436:=Z
def tw5891505034228011581:=Z
def tw8802581039184068277:=Z
def tw14956755597214063078:=Z
def tw12808260205833876775:=Z
def tw8076190474958502021:=Z
def tw9767257926706420453:=Z
def tw1981500780649942403:=Z
def tw14514739948710672978:=Z
def tw17950560198227347378:=Z
def tw11076576217077619883:=Z
def tw4442047087418528322:=Z
def tw6677932898607816838:=Z
def tw4912135522344906077:=Z
def tw9193803981674128322:=Z
def tw9526910052833526739:=Z
def tw10416415911995590461:=Z
def tw4052839641260928728:=Z
def tw15738189758060208883:=Z
def tw9985152673706837073:=Z
def tw9923859477013080251:=Z
def tw8592000992339507635:=Z
def tw8040496536555531891:=Z
def tw7238161581878641899:=Z
def tw3962783305324641649:=Z
def tw2415288828230575813:=Z
def tw18141052470705098869:=Z
def tw18061915681523940622:=Z
def tw1626268540324639340:=Z
def tw15533034055011909437:=Z
def tw14508044580006653827:=Z
def tw14452946208303600697:=Z
def tw13518185725239921210:=Z
def tw1194933932111244836:=Z
def tw11061680223788131232:=Z
def tw402662069908319006:=Z
def tw11439731442266801545:=Z
def tw5968274936669865699:=Z
def tw13861714708220803162:=Z
def tw16022012511358634710:=Z
def tw9390770857844452932:=Z
def tw13332912141851357470:=Z
def tw16017388376628394208:=Z
def tw9642571003149491538:=Z
def tw1277145593658530563:=Z
def tw14066406102326684929:=Z
def tw6312293318014275357:=Z
def tw12963016487754103272:=Z
def tw7829917536729331971:=Z
def tw5819084063322859092:=Z
def tw2779132601245300701:=Z
def tw11281671940507675047:=Z
def tw13824546253974879754:=Z
def tw13702412480239093052:=Z
def tw9983164423380130036:=Z
def tw1430305656632636439:=Z
def tw7878994025637115760:=Z
def tw14847669936176189859:=Z
def tw12466162444481502859:=Z
def tw9911877866595176502:=Z
def tw9549265721901928567:=Z
def tw7539052836588373404:=Z
def tw13180863610560769468:=Z
def tw6437300195388067020:=Z
def tw8316961188895993224:=Z
def tw4301374851780082293:=Z
def tw15270323841979272598:=Z
def tw6323730424567455143:=Z
def tw7353189616350891597:=Z
def tw4561414320274721242:=Z
def tw9422102370101747562:=Z
def tw1770399500406742534:=Z
def tw5528079193644438341:=Z
def tw14216505803693216915:=Z
def tw11136464233630614508:=Z
def tw969704756000631015:=Z
def tw10473959553557253634:=Z
def tw406207735456228589:=Z
def tw17801419257453074942:=Z
def tw15639688898095033032:=Z
def tw11028714147169376373:=Z
def tw7744438075355042588:=Z
def tw6438754480797755892:=Z
def tw3313625341074507434:=Z
def tw14322009775509118269:=Z
def tw3233708824740332437:=Z
def tw13656687430244102107:=Z
def tw168375039815402397:=Z
def tw14218239718393291741:=Z
def tw10960379787837874607:=Z
def tw18273754672908610951:=Z
def tw14180410529390815602:=Z
def tw11597228474100756465:=Z
def tw8603436452320001665:=Z
def tw358218772368431927:=Z
def tw4251641948843005594:=Z
def tw17551013850612397607:=Z
def tw9619459115753779707:=Z
def tw17229408376796802642:=Z
def tw6960511839998396672:=Z
def tw4748723827706566058:=Z
def tw11058525926754538574:=Z
def tw10387319556185721112:=Z
def tw40933591967469469:=Z
def tw3826684903404204552:=Z
def tw2285566382077498152:=Z
def tw381046886945358993:=Z
def tw331246465325259180:=Z
def tw14664438790962552267:=Z
def tw14245731634198638390:=Z
def tw1038802111972042075:=Z
def tw5512949266078847594:=Z
def tw4314772236734599402:=Z
def tw2098628408833001523:=Z
def tw6055446463734941693:=Z
def tw16067706951478296831:=Z
def tw12230080962398184147:=Z
def tw1217821391921992075:=Z
def tw2631171676073279947:=Z
def tw13878972507508414195:=Z
def tw11836110779305515755:=Z
def tw9687786630325033375:=Z
def tw8458689014521631258:=Z
def tw16745176287438488179:=Z
def tw15032923791725031423:=Z
def tw11490972684689092789:=Z
def tw15516680822956396089:=Z
def tw9210807276397798070:=Z
def tw3376965355715245622:=Z
def tw840718939349417029:=Z
def tw16106336543980875008:=Z
def tw9070516210529378719:=Z
def tw565655903661569741:=Z
def tw5612498743707283047:=Z
def tw3964997253177685364:=Z
def tw2840278065011272237:=Z
def tw16355030324192601209:=Z
def tw13462705777606034728:=Z
def tw3211262186888572238:=Z
def tw1998649154731477870:=Z
def tw1581090346714119177:=Z
def tw16108470378931254379:=Z
def tw8950484284223117250:=Z
def tw2716832131785727662:=Z
def tw15135535457233005845:=Z
def tw17809061684703597600:=Z
def tw4667576520748842892:=Z
def tw13532187392056218140:=Z
def tw16178515975814032108:=Z
def tw2186695970677688377:=Z
def tw17244668260627460770:=Z
def tw14935102964518499848:=Z
def tw1441705764431345640:=Z
def tw11888778452006390952:=Z
def tw2594965309178824559:=Z
def tw5001225862862384108:=Z
def tw3774419461955738738:=Z
def tw18153515671407468013:=Z
def tw1373625884433544693:=Z
def tw8605058292964386917:=Z
def tw4752432129413120822:=Z
def tw11217389256614161207:=Z
def tw9150069914439908736:=Z
def tw201847751068773614:=Z
def tw15799524650064860324:=Z
def tw12635782744281176146:=Z
def tw11657223133286890595:=Z
def tw7061137721870932229:=Z
def tw14082149341377375945:=Z
def tw12472714686503725940:=Z
def tw1217510220033419344:=Z
def tw11902466801262425269:=Z
def tw7424471088708599704:=Z
def tw7753535550302078414:=Z
def tw633870946970076706:=Z
def tw14677416583465392072:=Z
def tw6959495308668750312:=Z
def tw4585475486222464755:=Z
def tw9385868222438112748:=Z
def tw4953997162758041705:=Z
def tw3006670894391037484:=Z
def tw2938803507398419434:=Z
def tw2388371697927873653:=Z
def tw1838828560084837423:=Z
def tw18299119630190432406:=Z
def tw10996284720359621176:=Z
def tw10583064232143846554:=Z
def tw2805317083415135727:=Z
def tw17092987520769994589:=Z
def tw14301522023014881476:=Z
def tw14740635792642764494:=Z
def tw8285286912435010964:=Z
def tw8153735044339475136:=Z
def tw11441207760956679692:=Z
def tw9768125817828471425:=Z
def tw5543091220149987428:=Z
def tw1304742440594919513:=Z
def tw6613967692988627759:=Z
def tw14352462150618490511:=Z
def tw1400266072877757314:=Z
def tw1089477162442074564:=Z
def tw17515136882032523754:=Z
def tw16714141832846543431:=Z
def tw14839255495936293756:=Z
def tw5164685016738769551:=Z
def tw34633685035723475:=Z
def tw2389846149788884401:=Z
def tw12721944798022622575:=Z
end PySem.W.Fast
set_option maxRecDepth 100000 in
set_option maxHeartbeats 0 in
theorem PySem.Challenge.cw_tentloops_k62_refused_turns_keep_holds : PySem.Challenge.rw_tentloops_k62_refused_turns_keep.Holds := by
 w_on; o_law; k_head; (case hw=>w_witness2)
 k_fill
 refine L2.walk_r (l:=PySem.Challenge.rw_tentloops_k62_refused_turns_keep) (k:=12) (spl:=KT.sp_law) rfl rfl ⟨rfl,by decide,by decide⟩ (fun w h Y=>PySem.W.kIn_of Y) (fun K H a ns hl hS=>KT.sp_law_start hl hS) ?F
 case F =>
  intro w mg fa h KX G hmg
  have T:∃ t,KT.Txt w (L2.KOf KX) mg t:=by
   dsimp only [L2.KOf]
   refine' ⟨⟨_,_,_,_,_,_,_,_,_,_,_,_,_,_,_,_,_,_,_,_,_,_,_,_,_,_,_,_,_,_,_,_,_,_,_,_,_,_,_,_,_,_,_,_,_,_,_,_,_,_,_,_,_,_,_,_,_,_,_,_,_,_,_,_,_,_,_,_,_,_,_,_,_,_,_,_,_,_,_,_,_,_,_,_,_,_,_,_,_,_,_,_,_,_,_,_,_,_,_,_,_,_,_,_,_,_,_,_,_,_,_,_,_,_,_,_,_,_,_,_,_,_,_,_,_,_,_,_,_,_,_,_,_,_,_,_,_,_,_,_,_,_,_,_,_,_,_,_,_,_,_,_,_,_,_,_,_,_,_,_,_,_,_,_,_,_,_,_,_,_,_,_,_,_,_,_,_,_,_,_,_,_,_,_,_,_,_,_,_,_,_,_,_,_,_⟩,⟨mg_of KX G ?_,⟨?_,?_,?_,?_⟩,?_,?_,?_,?_,mg_of KX G ?_,⟨?_,?_,?_,?_⟩,?_,?_,?_,?_,mg_of KX G ?_,⟨?_,?_,?_,?_⟩,?_,?_,?_,?_,KT.FT.of KX G (KT.ba1 (fun _ _ _ _ _ _ _ _=>rfl) rfl) ?_ ?_ ?_ ?_,KT.FT.of KX G (KT.ba1 (fun _ _ _ _ _ _ _ _=>rfl) rfl) ?_ ?_ ?_ ?_,KT.FT.of KX G (KT.ba1 (fun _ _ _ _ _ _ _ _=>rfl) rfl) ?_ ?_ ?_ ?_,KT.FT.of KX G (KT.ba1 (fun _ _ _ _ _ _ _ _=>rfl) rfl) ?_ ?_ ?_ ?_,KT.FT.of KX G (KT.ba2 (fun _ _ _ _ _ _ _ _ _=>rfl) rfl) ?_ ?_ ?_ ?_,KT.FM.of (KT.ba2 (fun _ _ _ _ _ _ _ _ _=>rfl) rfl) ?_ ?_ ?_ ?_ ?_,KT.FM.of (KT.ba1 (fun _ _ _ _ _ _ _ _=>rfl) rfl) ?_ ?_ ?_ ?_ ?_,KT.FM.of (KT.ba1 (fun _ _ _ _ _ _ _ _=>rfl) rfl) ?_ ?_ ?_ ?_ ?_,KT.FM.of (KT.ba2 (fun _ _ _ _ _ _ _ _ _=>rfl) rfl) ?_ ?_ ?_ ?_ ?_,KT.FM.of (KT.ba2 (fun _ _ _ _ _ _ _ _ _=>rfl) rfl) ?_ ?_ ?_ ?_ ?_,KT.FM.of (KT.ba2 (fun _ _ _ _ _ _ _ _ _=>rfl) rfl) ?_ ?_ ?_ ?_ ?_,KT.FM.of (KT.ba2 (fun _ _ _ _ _ _ _ _ _=>rfl) rfl) ?_ ?_ ?_ ?_ ?_,KT.FM.of (KT.ba2 (fun _ _ _ _ _ _ _ _ _=>rfl) rfl) ?_ ?_ ?_ ?_ ?_,KT.FM.of (KT.ba2 (fun _ _ _ _ _ _ _ _ _=>rfl) rfl) ?_ ?_ ?_ ?_ ?_,KT.FT.of KX G (KT.ba1 (fun _ _ _ _ _ _ _ _=>rfl) rfl) ?_ ?_ ?_ ?_,KT.FT.of KX G (KT.ba2 (fun _ _ _ _ _ _ _ _ _=>rfl) rfl) ?_ ?_ ?_ ?_,KT.FT.of KX G (KT.ba2 (fun _ _ _ _ _ _ _ _ _=>rfl) rfl) ?_ ?_ ?_ ?_,KT.FT.of KX G (KT.ba3 (fun _ _ _ _ _ _ _ _ _ _=>rfl) rfl) ?_ ?_ ?_ ?_,KT.FT.of KX G (KT.ba3 (fun _ _ _ _ _ _ _ _ _ _=>rfl) rfl) ?_ ?_ ?_ ?_,KT.FT.of KX G (KT.ba2 (fun _ _ _ _ _ _ _ _ _=>rfl) rfl) ?_ ?_ ?_ ?_,KT.FT.of KX G (KT.ba3 (fun _ _ _ _ _ _ _ _ _ _=>rfl) rfl) ?_ ?_ ?_ ?_,KT.FT.of KX G (KT.ba2 (fun _ _ _ _ _ _ _ _ _=>rfl) rfl) ?_ ?_ ?_ ?_,KT.FT.of KX G (KT.ba2 (fun _ _ _ _ _ _ _ _ _=>rfl) rfl) ?_ ?_ ?_ ?_,KT.FT.of KX G (KT.ba2 (fun _ _ _ _ _ _ _ _ _=>rfl) rfl) ?_ ?_ ?_ ?_,KT.FT.of KX G (KT.ba2 (fun _ _ _ _ _ _ _ _ _=>rfl) rfl) ?_ ?_ ?_ ?_,KT.FT.of KX G (KT.ba2 (fun _ _ _ _ _ _ _ _ _=>rfl) rfl) ?_ ?_ ?_ ?_,KT.FT.of KX G (KT.ba2 (fun _ _ _ _ _ _ _ _ _=>rfl) rfl) ?_ ?_ ?_ ?_,KT.FT.of KX G (KT.ba3 (fun _ _ _ _ _ _ _ _ _ _=>rfl) rfl) ?_ ?_ ?_ ?_,KT.FT.of KX G (KT.ba3 (fun _ _ _ _ _ _ _ _ _ _=>rfl) rfl) ?_ ?_ ?_ ?_,KT.FT.of KX G (KT.ba3 (fun _ _ _ _ _ _ _ _ _ _=>rfl) rfl) ?_ ?_ ?_ ?_,KT.FT.of KX G (KT.ba4 (fun _ _ _ _ _ _ _ _ _ _ _=>rfl) rfl) ?_ ?_ ?_ ?_,KT.FT.of KX G (KT.ba2 (fun _ _ _ _ _ _ _ _ _=>rfl) rfl) ?_ ?_ ?_ ?_,KT.FT.of KX G (KT.ba2 (fun _ _ _ _ _ _ _ _ _=>rfl) rfl) ?_ ?_ ?_ ?_,KT.FT.of KX G (KT.ba2 (fun _ _ _ _ _ _ _ _ _=>rfl) rfl) ?_ ?_ ?_ ?_,KT.FT.of KX G (KT.ba1 (fun _ _ _ _ _ _ _ _=>rfl) rfl) ?_ ?_ ?_ ?_,KT.FT.of KX G (KT.ba1 (fun _ _ _ _ _ _ _ _=>rfl) rfl) ?_ ?_ ?_ ?_,KT.FT.of KX G (KT.ba2 (fun _ _ _ _ _ _ _ _ _=>rfl) rfl) ?_ ?_ ?_ ?_,KT.FT.of KX G (KT.ba2 (fun _ _ _ _ _ _ _ _ _=>rfl) rfl) ?_ ?_ ?_ ?_,KT.FT.of KX G (KT.ba3 (fun _ _ _ _ _ _ _ _ _ _=>rfl) rfl) ?_ ?_ ?_ ?_,KT.FT.of KX G (KT.ba2 (fun _ _ _ _ _ _ _ _ _=>rfl) rfl) ?_ ?_ ?_ ?_,KT.FT.of KX G (KT.ba1 (fun _ _ _ _ _ _ _ _=>rfl) rfl) ?_ ?_ ?_ ?_,KT.FT.of KX G (KT.ba1 (fun _ _ _ _ _ _ _ _=>rfl) rfl) ?_ ?_ ?_ ?_,KT.FT.of KX G (KT.ba1 (fun _ _ _ _ _ _ _ _=>rfl) rfl) ?_ ?_ ?_ ?_,KT.FT.of KX G (KT.ba1 (fun _ _ _ _ _ _ _ _=>rfl) rfl) ?_ ?_ ?_ ?_,KT.FM.of (KT.ba5 (fun _ _ _ _ _ _ _ _ _ _ _ _=>rfl) rfl) ?_ ?_ ?_ ?_ ?_,KT.FT.of KX G (KT.ba3 (fun _ _ _ _ _ _ _ _ _ _=>rfl) rfl) ?_ ?_ ?_ ?_,KT.FT.of KX G (KT.ba2 (fun _ _ _ _ _ _ _ _ _=>rfl) rfl) ?_ ?_ ?_ ?_,KT.FT.of KX G (KT.ba2 (fun _ _ _ _ _ _ _ _ _=>rfl) rfl) ?_ ?_ ?_ ?_,KT.FT.of KX G (KT.ba1 (fun _ _ _ _ _ _ _ _=>rfl) rfl) ?_ ?_ ?_ ?_,KT.FT.of KX G (KT.ba1 (fun _ _ _ _ _ _ _ _=>rfl) rfl) ?_ ?_ ?_ ?_,KT.FT.of KX G (KT.ba3 (fun _ _ _ _ _ _ _ _ _ _=>rfl) rfl) ?_ ?_ ?_ ?_,KT.FM.of (KT.ba2 (fun _ _ _ _ _ _ _ _ _=>rfl) rfl) ?_ ?_ ?_ ?_ ?_,KT.FM.of (KT.ba3 (fun _ _ _ _ _ _ _ _ _ _=>rfl) rfl) ?_ ?_ ?_ ?_ ?_,KT.FM.of (KT.ba3 (fun _ _ _ _ _ _ _ _ _ _=>rfl) rfl) ?_ ?_ ?_ ?_ ?_,KT.FM.of (KT.ba3 (fun _ _ _ _ _ _ _ _ _ _=>rfl) rfl) ?_ ?_ ?_ ?_ ?_,KT.FM.of (KT.ba2 (fun _ _ _ _ _ _ _ _ _=>rfl) rfl) ?_ ?_ ?_ ?_ ?_,KT.FM.of (KT.ba4 (fun _ _ _ _ _ _ _ _ _ _ _=>rfl) rfl) ?_ ?_ ?_ ?_ ?_,KT.FM.of (KT.ba3 (fun _ _ _ _ _ _ _ _ _ _=>rfl) rfl) ?_ ?_ ?_ ?_ ?_,KT.FM.of (KT.ba1 (fun _ _ _ _ _ _ _ _=>rfl) rfl) ?_ ?_ ?_ ?_ ?_,KT.FM.of (KT.ba1 (fun _ _ _ _ _ _ _ _=>rfl) rfl) ?_ ?_ ?_ ?_ ?_,KT.FM.of (KT.ba1 (fun _ _ _ _ _ _ _ _=>rfl) rfl) ?_ ?_ ?_ ?_ ?_,KT.FM.of (KT.ba1 (fun _ _ _ _ _ _ _ _=>rfl) rfl) ?_ ?_ ?_ ?_ ?_,KT.FM.of (KT.ba1 (fun _ _ _ _ _ _ _ _=>rfl) rfl) ?_ ?_ ?_ ?_ ?_,KT.FM.of (KT.ba1 (fun _ _ _ _ _ _ _ _=>rfl) rfl) ?_ ?_ ?_ ?_ ?_,KT.FM.of (KT.ba2 (fun _ _ _ _ _ _ _ _ _=>rfl) rfl) ?_ ?_ ?_ ?_ ?_,KT.FM.of (KT.ba2 (fun _ _ _ _ _ _ _ _ _=>rfl) rfl) ?_ ?_ ?_ ?_ ?_,KT.FM.of (KT.ba1 (fun _ _ _ _ _ _ _ _=>rfl) rfl) ?_ ?_ ?_ ?_ ?_,KT.FT.of KX G (KT.ba2 (fun _ _ _ _ _ _ _ _ _=>rfl) rfl) ?_ ?_ ?_ ?_,KT.FT.of KX G (KT.ba2 (fun _ _ _ _ _ _ _ _ _=>rfl) rfl) ?_ ?_ ?_ ?_,KT.FT.of KX G (KT.ba3 (fun _ _ _ _ _ _ _ _ _ _=>rfl) rfl) ?_ ?_ ?_ ?_,KT.FT.of KX G (KT.ba3 (fun _ _ _ _ _ _ _ _ _ _=>rfl) rfl) ?_ ?_ ?_ ?_,KT.FT.of KX G (KT.ba1 (fun _ _ _ _ _ _ _ _=>rfl) rfl) ?_ ?_ ?_ ?_,KT.FT.of KX G (KT.ba2 (fun _ _ _ _ _ _ _ _ _=>rfl) rfl) ?_ ?_ ?_ ?_,KT.FT.of KX G (KT.ba3 (fun _ _ _ _ _ _ _ _ _ _=>rfl) rfl) ?_ ?_ ?_ ?_,KT.FT.of KX G (KT.ba1 (fun _ _ _ _ _ _ _ _=>rfl) rfl) ?_ ?_ ?_ ?_,KT.FT.of KX G (KT.ba2 (fun _ _ _ _ _ _ _ _ _=>rfl) rfl) ?_ ?_ ?_ ?_,KT.FT.of KX G (KT.ba2 (fun _ _ _ _ _ _ _ _ _=>rfl) rfl) ?_ ?_ ?_ ?_,KT.FT.of KX G (KT.ba2 (fun _ _ _ _ _ _ _ _ _=>rfl) rfl) ?_ ?_ ?_ ?_,KT.FT.of KX G (KT.ba2 (fun _ _ _ _ _ _ _ _ _=>rfl) rfl) ?_ ?_ ?_ ?_,KT.FT.of KX G (KT.ba2 (fun _ _ _ _ _ _ _ _ _=>rfl) rfl) ?_ ?_ ?_ ?_,KT.FT.of KX G (KT.ba1 (fun _ _ _ _ _ _ _ _=>rfl) rfl) ?_ ?_ ?_ ?_,KT.FT.of KX G (KT.ba3 (fun _ _ _ _ _ _ _ _ _ _=>rfl) rfl) ?_ ?_ ?_ ?_,KT.FT.of KX G (KT.ba2 (fun _ _ _ _ _ _ _ _ _=>rfl) rfl) ?_ ?_ ?_ ?_,KT.FT.of KX G (KT.ba3 (fun _ _ _ _ _ _ _ _ _ _=>rfl) rfl) ?_ ?_ ?_ ?_,KT.FT.of KX G (KT.ba1 (fun _ _ _ _ _ _ _ _=>rfl) rfl) ?_ ?_ ?_ ?_,KT.FT.of KX G (KT.ba1 (fun _ _ _ _ _ _ _ _=>rfl) rfl) ?_ ?_ ?_ ?_,⟨?_,?_,?_,?_⟩,⟨?_,?_,?_,?_⟩,⟨?_,?_,?_,?_⟩,mg_of KX G ?_,mg_of KX G ?_,mg_of KX G ?_,mg_of KX G ?_,mg_of KX G ?_,mg_of KX G ?_,mg_of KX G ?_,mg_of KX G ?_,L2.kdict_mk2 ?_ ?_ ?_ (by decide) ?_,fun s u=>.of_eq rfl,mg_none_of KX G ?_,mg_none_of KX G ?_,mg_none_of KX G ?_,mg_none_of KX G ?_,mg_none_of KX G ?_,mg_none_of KX G ?_,mg_none_of KX G ?_,mg_none_of KX G ?_,mg_none_of KX G ?_,mg_none_of KX G ?_,mg_none_of KX G ?_,mg_none_of KX G ?_,mg_none_of KX G ?_,mg_none_of KX G ?_,mg_none_of KX G ?_,mg_none_of KX G ?_,mg_of KX G ?_,⟨?_⟩,mg_of KX G ?_,⟨?_⟩,mg_of KX G ?_,⟨?_⟩,mg_of KX G ?_,⟨?_⟩,mg_of KX G ?_,⟨?_⟩,mg_of KX G ?_,⟨?_⟩,mg_of KX G ?_,⟨?_⟩,mg_of KX G ?_,⟨?_⟩,mg_of KX G ?_,⟨?_⟩,mg_of KX G ?_,⟨?_⟩,mg_of KX G ?_,⟨?_⟩,mg_of KX G ?_,?_,?_,?_⟩⟩
   any_goals first | k_is | k_exc | rfl | kernel_rfl
  obtain ⟨t,T⟩:=T
  have e0:=hmg.symm.trans T.jD.g
  cases e0
  refine' ⟨_,?b,fun base kb nb=>KT.ok_law T⟩
  exact T.bl
#print axioms PySem.Challenge.cw_tentloops_k62_refused_turns_keep_holds
