import PyProof.Rows.All
import Wide.All
import OpenK.AllK
import Wide.FinOn
import Lean
import PyProof.EqAt
import PyProof.EqKinds
import PyProof.TupleCall
import PySem.Challenge.RW_tentloops_k68_great_numbers_written
set_option Elab.async false
set_option linter.all false
set_option autoImplicit true
set_option relaxedAutoImplicit true
set_option maxRecDepth 100000
open List
open Nat
universe u v
set_option hygiene false
set_option compiler.extract_closed false
set_option maxHeartbeats 4000000
local macro_rules|`((a:))=>`(FnOk P w K mg base (CXr P w))|`((b:))=>`(λ_ _ _ _ H vs Q E hr h=>?_)|`((c:))=>`(model X.prog X.w)|`((d:))=>`(by decide)|`((e:))=>`(Zx X (blkN ts fv) scope C s₀ H₀ ex)|`((f:))=>`(.ListComp nu (⟨t0,i0,f0,0⟩::l8) scope pos)|`((g:))=>`(⟨rfl,by decide+kernel,by decide+kernel,Yc (by rfl),⟨⟨rfl,rfl,Or.inl rfl⟩,trivial⟩⟩)|`((h:))=>`((envOfC qual scope s.heap.objs.size f cd::outer))|`((i:))=>`(putF "names_at" (.ref N) (putF "cloths" (.ref D) []))|`((j:))=>`(Addr×Obj)|`((k:))=>`(forIn f0 true λc r=>if r=true then do let ok<-isTrue c env (eval c env);pure (ForInStep.yield ok)else pure (ForInStep.yield r))|`((l:))=>`(⟨rfl,by decide+kernel,by decide+kernel,Yc (by rfl),trivial⟩)|`((m:))=>`(putF "cloths" (.ref D) [])|`((n:))=>`(by decide+kernel)|`((o:))=>`(λ_ _=>rfl)|`((p:))=>`((∀σ' H',N σ' H'->∃m',m'<m/\W (i+1) m' σ' H'))|`((q:))=>`(upd H2 s2.heap.objs.size (.lst []))|`((r:))=>`(Str.ofString "great")|`((s:))=>`(keys ns ns.length)|`((t:))=>`(λ_ _ _ z=>nomatch z)|`((u:))=>`(Builtin.Range.rangeFitsLong a&&Builtin.Range.rangeFitsLong b&&Builtin.Range.rangeFitsLong 1&&Builtin.Range.rangeFitsLong (-1)&&Builtin.Range.rangeFitsLong (a-1)&&Builtin.Range.rangeFitsLong (Builtin.Range.rangeSize a b 1))|`((v:))=>`(s.heap.objs.size+1)|`((w:))=>`(backTo pos (starEach es X.env))|`((x:))=>`(I7.pin (b,o) (mem_append_right _ (mem_append_right _ (Xw hb e))))|`((y:))=>`(.DictComp kx vx (⟨t0,i0,f0,0⟩::l8) scope pos)|`((z:))=>`(cxOf (CXr P w) P w K mg base N qual (Zf st) f mh A outer s H E)|`((A:))=>`(blkN ts fv)|`((B:))=>`(⟨rfl,I.turned (t':=s.toks) (λb o hb e=>eb b o hb e) f0 f1 f3 f4 f5⟩)|`((C:))=>`(.ref s.heap.objs.size)|`((D:))=>`(Za (pv 0) Zb)|`((E:))=>`(match ns[n]? with|some x=>if x∈keys ns n then keys ns n else keys ns n++[x]|none=>keys ns n)|`((F:))=>`(k==NameKind.free&&env.scope.kind == .function&&env.kindOf n==some .cell)|`((G:))=>`(putF "scene" (.ref sc) (putF "began" (.ref x) []))|`((H:))=>`(envOfC qual scope s.heap.objs.size f cd)|`((I:))=>`((false,eval e X.env))|`((J:))=>`(x==("__debug__":Str))|`((K:))=>`(⟨λi m σ H=>m=xs.length-i/\i<=xs.length/\Pv i σ H,⟨xs.length,by simp,Az _,h0⟩,?_⟩)|`((L:))=>`(.lst (ts.map V.ref))|`((M:))=>`(Str.ofString " ")|`((N:))=>`(.ListComp nu [⟨t0,i0,f0,0⟩,⟨t1,i1,f1,0⟩] scope pos)|`((O:))=>`(s2.heap.push {cls:=.type "list",data:=.seq ([]:List Value).toArray})|`((P:))=>`(Za (pv 1) Zb)|`((Q:))=>`(.compLoop e d (.ref it) md X.env)|`((R:))=>`(⟨⟨xs,xs[i],q,by simp[mr]⟩,Pv (i+1),λσ' H' p'=>⟨xs.length-(i+1),by lia,Y,mr,p'⟩,λx H' y=>?_⟩)|`((S:))=>`(.Call (.Name x p) (e::es) [] pos)|`((T:))=>`(ns.map V.int)|`((U:))=>`(PySem.W.fnOf x q (Xu st) (Yw st) (Zf st) .none kV nk pm an mh ct)|`((V:))=>`(putF "began" (.ref x) [])|`((W:))=>`(λz=>nomatch z)|`((X:))=>`(Yg I q (by simp))|`((Y:))=>`(.frz o (.dK kvs))|`((Z:))=>`(Za (pv 2) Zb)|`((aa:))=>`(model P w)|`((ab:))=>`(.ref s2.heap.objs.size)|`((ac:))=>`(λ_ _ _=>rfl)|`((ad:))=>`(s1.heap.push {cls:=.type "range",data:=.fields #[.int i t,.int (i+n) t',.int 1 s1.toks]})|`((ae:))=>`(model prog w)|`((af:))=>`(forIn ifs true λc r=>if r=true then do let ok<-isTrue c X.env (eval c X.env);pure (ForInStep.yield ok)else pure (ForInStep.yield r))|`((ag:))=>`(λ_ _ _ _=>Yh)|`((ah:))=>`(λnx mq=>?_)|`((ai:))=>`(hr.mono (d:))|`((aj:))=>`(⟨f0,As (Ao eo),I4.ok.exfs b hb,.inl hb,(I4.ok.exf b hb).2,λp hp=>absurd (show p∈([]:List (j:))from hp) (by simp)⟩)|`((ak:))=>`(λ_ _ _ _=>(pgN 0 nd2))|`((al:))=>`(⟨o,e,λv z=>by rw[d]at z;cases z⟩)|`((am:))=>`(A.deeper (envOfC qual (Zf st) s.heap.objs.size f mh))|`((an:))=>`(λcls _ H'=>E cls none H')|`((ao:))=>`(by with_unfolding_all rfl)|`((ap:))=>`(⟨m',hm,i+1,σ7,H7,I7.unpinned,T.keep _ _ _ qk λb hb o e=>(x:).1,λb hb=>?_,w7⟩)|`((aq:))=>`(((s.heap.push o1).push o2).push {cls:=.type "tuple",data:=.seq #[.ref s.heap.objs.size,.ref (s.heap.push o1).objs.size]})|`((ar:))=>`(λ_ _ _ _=>(pgN 0 (nd1 _)))|`((as:))=>`(wpAny_pure ?_)|`((au:))=>`(wpAny_pyIter_list pl.isList ⟨s.heap.objs.size,_,_,_,_,_,λi=>bs.getD i true,Y,Walks.list (A:=X.A.in1) (show X.A.in1.handled=none from I.ok.hd hc) s.heap.objs.size p ne its.toArray,⟨⟨_,Ap _ Y,Y,Y⟩,pl.isList.push _⟩,?_,?_⟩)|`((av:))=>`(rowI M.length λp=>if p=q then crP M (ws.take i) q+1 else crP M (ws.take i) p)|`((aw:))=>`(pcT (Wt T) hr T.aZ (Za (pv 0) (Za Zd Zb)))|`((ax:))=>`(cxOf (CXr P w) P w K mg base N qual scope f cd A outer s H E)|`((ay:))=>`([oR a,oR m,oR r,oR x,oR w1,oR pn,oI F,oR cd,oS (cntT g out),oI s,oI u,oI v,none])|`((az:))=>`(λ_ _=>False)|`((a0:))=>`(⟨none,Y,Same.new hD,Zc⟩)|`((a1:))=>`(show false=true from hs)|`((a2:))=>`(EP X j' σ Q)|`((a3:))=>`(.ins t.ai dy (X7 (.ref te) (.ref ui) (.ref qm) (.ref qb)))|`((a4:))=>`((∀b o,s.heap.get? b=some o->h'.get? b=some o))|`((a5:))=>`(λz=>absurd (Ao e) (by rw[Af z];exact Nat.lt_irrefl _))|`((a6:))=>`([V.str (Str.ofString "pool"),V.str (r:)])|`((a7:))=>`(Zx X (A:) scope s3.heap.objs.size s3 (q:) fp)|`((a8:))=>`(.compLoop (f:) 0 (.ref it) (.ref D) (e:).env)|`((a9:))=>`(⟨e,T,cls,a0,σ2,H2,h1,h2.pins_of (λp hp=>absurd hp (by simp)),h3,h4.none,λt ht=>(h5 t ht).none,h7,h6⟩)|`((ba:))=>`(PySem.W.hideAll s'.heap ((e::T.toList)++frs (h:)))|`((bb:))=>`(λz=>hc (by simp[z]))|`((bc:))=>`(s.heap.push {cls:=.type "list",data:=.seq ([]:List Value).toArray})|`((bd:))=>`(([Str.ofString "left",Str.ofString "right"]:List Str))|`((be:))=>`(Str.ofString "pool")|`((bf:))=>`(wpAny_attempt (wpAny_callSpecial?_slot (name:=Str.ofString "__next__") hT PySem.F.slot_zip_next (wpAny_call_entry PySem.F.slot_zip_next hT PySem.F.entry_zip_next ?_ (PySem.F.args_zip_next_1 _))))|`((bg:))=>`((∀b∈fp,H' b=none))|`((bh:))=>`(Y7 (v:=.int 1000000000000000000000000000000000000000000000000000000000000) rfl T.kf ⟨_,rfl⟩)|`((bi:))=>`(⟨λi m σ H=>m=kvs.length-i/\i<=kvs.length/\Pv i σ H,⟨kvs.length,by simp,Az _,h0⟩,?_⟩)|`((bj:))=>`(Str.ofString "\n")|`((bk:))=>`(wpAny_callSpecial?_slot (name:=Str.ofString "__next__") hit.typeIs slot_tupleiter_next (wpAny_call_entry slot_tupleiter_next hit.typeIs entry_tupleiter_next ?_ (args_tupleiter_next _)))|`((bl:))=>`(⟨⟨mr,q⟩,Pv (i+1),λσ' H' p'=>⟨kvs.length-(i+1),by lia,Y,mr,p'⟩,λx H' y=>?_⟩)|`((bm:))=>`(ha j' s σ H _ I h)|`((bn:))=>`(.compLoop (f:) 0 (.ref it) (.ref D) env)|`((bo:))=>`(Wa PySem.F.plainAttrs_str PySem.F.slot_str_split PySem.F.type_str_split Qi (pv 0) (Za Zk Zb))|`((bp:))=>`(upd H1 p (.ins t.aa dx (m:)))|`((bq:))=>`((∀(i j:Nat),M[i]?=some (some j)->M[j]?=some (some i)/\i≠j))|`((br:))=>`(λr s'=>r=.ok (.ret (.bool true))/\OldK s₁.heap s'.heap/\s'.os=s₁.os/\AllBare s'.gens)|`((bs:))=>`(wpAny_attempt (wpAny_callSpecial?_slot (name:=Str.ofString "__next__") hTy PySem.F.sti_next (wpAny_call_entry PySem.F.sti_next hTy PySem.F.sti_entry ?_ (PySem.F.sti_args _))))|`((bt:))=>`(Zn Z6 (pv 1) Zk (Zm _))|`((bu:))=>`(ns.length/3)|`((bv:))=>`(Za Zk Zb)|`((bw:))=>`(wpAny_attempt (wpAny_callSpecial?_slot (name:=Str.ofString "__next__") hT PySem.F.sti_next (wpAny_call_entry PySem.F.sti_next hT PySem.F.sti_entry ?_ (PySem.F.sti_args _))))|`((bx:))=>`(.lst (M.map mV))|`((bz:))=>`(he j' s σ H _ I h)|`((b0:))=>`(cntT g out)|`((b1:))=>`(([]:List Value))|`((b2:))=>`(.lst ((o6 x).map V.str))|`((b3:))=>`(.dK (putK (wD ks aw) (Sum.inl x) (V.ref q)))|`((b4:))=>`(Za (Zr Xf (pv 3) Zd (o:)) (Za (Zr Xf (pv 3) Zd (o:)) Zb))|`((b5:))=>`(A.under (.builtin "type.__call__" ⟨.ref C::us,kw⟩))|`((b6:))=>`(.ins t.ai mo (X7 (.ref x) (.ref th) (.ref po) (.ref wo)))|`((b7:))=>`(⟨λD σ H'=>t D (λcls _ H''=>E cls none H'') σ H',λj' s' σ' H' D I hD=>?_,q⟩)
abbrev Lq:=List (Option Nat)
theorem Y{α:Sort v}{a:α}:a=a:=rfl
def An(n:Nat):n<=n:=Nat.le_refl n
def Ao{h:PySem.Heap}{a:PySem.Addr}{o:PySem.Obj}:h.get? a=some o->a<h.objs.size:=PySem.Heap.lt_size
def Ap(h:PySem.Heap){o:PySem.Obj}:o.isFreed=false->(h.push o).get? h.objs.size=some o:=PySem.Heap.get?_push_size h
def Aq{α:Type u}{a:List α}:a.toArray.size=a.length:=size_toArray
def Ar{α:Type u}{b:α}{l:List α}{a:α}:a∈b::l->a=b\/a∈l:=mem_cons.mp
def As{a b:Nat}:a<b->a≠b:=ne_of_lt
def At{α:Type u}{a:α}:[a].length=1:=length_singleton
def Au{α:Type u}{l:List α}{i:Nat}{a:α}:l[i]?=some a->a∈l:=mem_of_getElem?
def Av{α:Type u}{l k:List α}{i:Nat}:i<l.length->(l++k)[i]?=l[i]?:=getElem?_append_left
def Aw{α:Type u}{l:List α}{i:Nat}:l.take (i+1)=l.take i++l[i]?.toList:=take_add_one
def Ax{α:Type u}{a b:α}:some a=some b->a=b:=Option.some.inj
def Ay{α:Type u}{l:List α}{i:Nat}:l.length<=i->l[i]?=none:=getElem?_eq_none
def Az(n:Nat):0<=n:=zero_le n
def Aa{α:Type u}{i:Nat}{a:α}{l:List α}:l[i]?=some a->∃h:i<l.length,l[i]=a:=List.getElem?_eq_some_iff.mp
def Ab{α:Type u}{β:Type v}{as:List α}(f:α->β):(as.map f).length=as.length:=length_map f
def Ac{α:Type u}{l:List α}{i:Nat}(h:i<l.length):l[i]?=some l[i]:=getElem?_eq_getElem h
def Ad{α:Type u}{l:List α}{i:Nat}{a:α}:l.getD i a=l[i]?.getD a:=getD_eq_getElem?_getD
def Ae{α:Type u}{as bs:List α}:(as++bs).length=as.length+bs.length:=length_append
def Af{α:Type u}{a b:α}:a∈[b]->a=b:=mem_singleton.mp
def Ag{n m k:Nat}:n<m->m<=k->n<k:=Nat.lt_of_lt_of_le
def Ah{α:Type u}{β:Type v}{f:α->β}{l:List α}{i:Nat}:(l.map f)[i]?=(l[i]?).map f:=getElem?_map
def Ai{α:Type u}{i:Nat}{l:List α}:(l.take i).length=min i l.length:=length_take
def Aj{α:Type u}{β:Type v}{f:α->β}{l₁ l₂:List α}:(l₁++l₂).map f=l₁.map f++l₂.map f:=map_append
def Ak{h:PySem.Heap}{a:PySem.Addr}{o':PySem.Obj}(o:PySem.Obj)(e:h.get? a=some o'):(h.push o).get? a=some o':=PySem.Heap.get?_push_of_some o e
def Al{α β:Type}{M:PySem.Model}{A:PySem.Around}{E:PySem.Value->PySem.Shared->Prop}{s:PySem.Shared}{m:PySem.Sem α}{f:α->PySem.Sem β}{Q:β->PySem.Shared->Prop}(h:PySem.wpAny M A m (λa s'=>PySem.wpAny M A (f a) Q E s') E s):PySem.wpAny M A (m>>=f) Q E s:=PySem.wpAny_bind h
namespace KX
set_option genSizeOf false
set_option genInjectivity false
variable{A B C D F G H I J K L M N O Q R S:Type}
inductive E2(P:A->B->Prop):Prop|mk (a b)(_:P a b):E2 P
inductive E3(P:A->B->C->Prop):Prop|mk (a b c)(_:P a b c):E3 P
inductive E4(P:A->B->C->D->Prop):Prop|mk (a b c d)(_:P a b c d):E4 P
inductive E5(P:A->B->C->D->F->Prop):Prop|mk (a b c d e)(_:P a b c d e):E5 P
inductive E6(P:A->B->C->D->F->G->Prop):Prop|mk (a b c d e f)(_:P a b c d e f):E6 P
inductive E7(P:A->B->C->D->F->G->H->Prop):Prop|mk (a b c d e f g)(_:P a b c d e f g):E7 P
inductive E8(P:A->B->C->D->F->G->H->I->Prop):Prop|mk (a b c d e f g h)(_:P a b c d e f g h):E8 P
inductive E9(P:A->B->C->D->F->G->H->I->J->Prop):Prop|mk (a b c d e f g h i)(_:P a b c d e f g h i):E9 P
inductive E10(P:A->B->C->D->F->G->H->I->J->K->Prop):Prop|mk (a b c d e f g h i j)(_:P a b c d e f g h i j):E10 P
inductive E11(P:A->B->C->D->F->G->H->I->J->K->L->Prop):Prop|mk (a b c d e f g h i j k)(_:P a b c d e f g h i j k):E11 P
inductive E12(P:A->B->C->D->F->G->H->I->J->K->L->M->Prop):Prop|mk (a b c d e f g h i j k l)(_:P a b c d e f g h i j k l):E12 P
inductive E13(P:A->B->C->D->F->G->H->I->J->K->L->M->N->Prop):Prop|mk (a b c d e f g h i j k l m)(_:P a b c d e f g h i j k l m):E13 P
inductive E17(P:A->B->C->D->F->G->H->I->J->K->L->M->N->O->Q->R->S->Prop):Prop|mk (a b c d e f g h i j k l m n o p q)(_:P a b c d e f g h i j k l m n o p q):E17 P
inductive A3(a b c:Prop):Prop|mk:a->b->c->A3 a b c
inductive A4(a b c d:Prop):Prop|mk:a->b->c->d->A4 a b c d
inductive A5(a b c d e:Prop):Prop|mk:a->b->c->d->e->A5 a b c d e
inductive A6(a b c d e f:Prop):Prop|mk:a->b->c->d->e->f->A6 a b c d e f
inductive A7(a b c d e f g:Prop):Prop|mk:a->b->c->d->e->f->g->A7 a b c d e f g
inductive A8(a b c d e f g h:Prop):Prop|mk:a->b->c->d->e->f->g->h->A8 a b c d e f g h
inductive A9(a b c d e f g h i:Prop):Prop|mk:a->b->c->d->e->f->g->h->i->A9 a b c d e f g h i
inductive A10(a b c d e f g h i j:Prop):Prop|mk:a->b->c->d->e->f->g->h->i->j->A10 a b c d e f g h i j
inductive A11(a b c d e f g h i j k:Prop):Prop|mk:a->b->c->d->e->f->g->h->i->j->k->A11 a b c d e f g h i j k
inductive A12(a b c d e f g h i j k l:Prop):Prop|mk:a->b->c->d->e->f->g->h->i->j->k->l->A12 a b c d e f g h i j k l
open Lean in
def ex(xs:Syntax)(b:Term):MacroM Term:=do
 let x:=xs[0]
 let bs:Array (Syntax×Option Syntax):=if x.getKind==``Lean.unbracketedExplicitBinders then x[0].getArgs.map λi=>(i,if x[1].isNone then none else some x[1][1])else x.getArgs.foldl (λa y=>a++y[1].getArgs.map λi=>(i,some y[3])) #[]
 if bs.size<2 then Macro.throwUnsupported
 let mut c:Array Term:=#[]
 let mut t:Term:=b
 for _ in [:23] do
  match t with
  |`($p/\$q)=>c:=c.push p;t:=q
  |_=>break
 c:=c.push t
 let mut e:Term:=b
 if c.size≥3 then e:=Syntax.mkApp (mkIdent (.mkStr `_root_.KX s!"A{c.size}")) c
 for (i,y) in bs.reverse do
  let i:Term:=⟨if i[0].isIdent then i[0]else mkIdent `_x⟩
  e←match y with
   |none=>`(fun $i=>$e)
   |some y=>`(fun ($i : $(⟨y⟩))=>$e)
 return Syntax.mkApp (mkIdent (.mkStr `_root_.KX s!"E{bs.size}")) #[e]
end KX
local macro_rules|`(∃ $xs:explicitBinders,$b)=>KX.ex xs b
set_option maxHeartbeats 4000000
namespace L2
open PySem PySem.Spec PyProof.Rows
abbrev Key:=Sum Int Str
noncomputable def Ov:Key->Value->Bool
 | .inl k,v=>Value.isInt k v
 | .inr x,v=>Value.isStrOf x v
noncomputable def keyH(w:World):Key->Int
 | .inl k=>hashInt k
 | .inr x=>hashStr w x
theorem Xm:∀{k:Key}{v:Value},Ov k v=true->(∃i t,k=Sum.inl i/\v=Value.int i t)\/(∃x t,k=Sum.inr x/\v=Value.str x t)
 | .inl i,v,h=>by
  obtain⟨t,e⟩:=Value.isInt_shape (k:=i) (v:=v) h;exact .inl ⟨i,t,Y,e⟩
 | .inr x,v,h=>by
  obtain⟨t,e⟩:=Value.isStrOf_shape (x:=x) (v:=v) h;exact .inr ⟨x,t,Y,e⟩
def Zmv(i:Int)(t:Tok):Ov (.inl i) (.int i t)=true:=by simp[Ov,Value.isInt]
def Yy(x:Str)(t:Tok):Ov (.inr x) (.str x t)=true:=by simp[Ov,Value.isStrOf]
def Ztd(a b:Int):decide ((Sum.inl a:Key)=Sum.inl b)=(a==b):=by
 by_cases e:a=b
 ·subst e;simp
 ·have h:¬(Sum.inl a:Key)=Sum.inl b:=λq=>e (Sum.inl.inj q)
  rw[decide_eq_false h];exact(beq_eq_false_iff_ne.mpr e).symm
def Zta(a b:Str):decide ((Sum.inr a:Key)=Sum.inr b)=decide (a=b):=by
 by_cases e:a=b
 ·subst e;simp
 ·have h:¬(Sum.inr a:Key)=Sum.inr b:=λq=>e (Sum.inr.inj q)
  rw[decide_eq_false h,decide_eq_false e]
def Ztc(a:Int)(b:Str):decide ((Sum.inl a:Key)=Sum.inr b)=false:=decide_eq_false (λq=>nomatch q)
def Ztb(a:Str)(b:Int):decide ((Sum.inr a:Key)=Sum.inl b)=false:=decide_eq_false (λq=>nomatch q)
noncomputable def Yj(prog:Program)(w:World):PySem.KeyKind prog w Key where
 is:=Ov
 hash:=keyH w
 inj:=λv a b ha hb=>by
  rcases Xm ha with ⟨i,t,rfl,rfl⟩|⟨x,t,rfl,rfl⟩
  ·rcases Xm hb with ⟨j,u,rfl,e⟩|⟨y,u,rfl,e⟩
   ·injection e with e1 _;rw[e1]
   ·exact nomatch e
  ·rcases Xm hb with ⟨j,u,rfl,e⟩|⟨y,u,rfl,e⟩
   ·exact nomatch e
   ·injection e with e1 _;rw[e1]
 byValue:=λk v h=>by
  rcases Xm h with ⟨i,t,rfl,rfl⟩|⟨x,t,rfl,rfl⟩<;>rfl
 pyHash:=λhv h=>by
  rcases Xm hv with ⟨i,t,rfl,rfl⟩|⟨x,t,rfl,rfl⟩
  ·exact wpAny_pyHash_int h
  ·exact wpAny_pyHash_str h
 eqBool:=λhu hv h=>by
  rcases Xm hu with ⟨i,t,rfl,rfl⟩|⟨x,t,rfl,rfl⟩
  ·rcases Xm hv with ⟨j,u,rfl,rfl⟩|⟨y,u,rfl,rfl⟩
   ·rw[Ztd]at h;exact wpAny_eqBool_int h
   ·rw[Ztc]at h;exact SeqAt.EqAt.int_str i t y u _ _ _ _ h
  ·rcases Xm hv with ⟨j,u,rfl,rfl⟩|⟨y,u,rfl,rfl⟩
   ·rw[Ztb]at h;exact SeqAt.EqAt.str_int x t j u _ _ _ _ h
   ·rw[Zta]at h;exact wpAny_eqBool_str h
 «strs»:=λk x t v h=>by
  rcases Xm h with ⟨i,u,rfl,e⟩|⟨y,u,rfl,e⟩
  ·exact nomatch e
  ·injection e with e1 _
   subst e1;cases v<;>rfl
def Zie(prog:Program)(w:World)(i:Int)(t:Tok):(Yj prog w).is (.inl i) (.int i t)=true:=Zmv i t
def Zid(prog:Program)(w:World)(x:Str)(t:Tok):(Yj prog w).is (.inr x) (.str x t)=true:=Yy x t
inductive V where
 |non|bl (b:Bool)|int (i:Int)|str (x:Str)|byt (b:Array UInt8)|flt (b:UInt64)|ref (a:Addr)|ty (n:String)
 deriving DecidableEq
set_option genInjectivity false
set_option genSizeOf false
def RelV:V->Value->Prop
 | .non,u=>u=Value.none
 | .bl b,u=>u=Value.bool b
 | .int i,u=>∃t,u=Value.int i t
 | .str x,u=>∃t,u=Value.str x t
 | .byt b,u=>∃t,u=Value.bytes b t
 | .flt b,u=>∃t,u=Value.float b t
 | .ref a,u=>u=Value.ref a
 | .ty n,u=>u=Value.type n
abbrev Vals:List V->List Value->Prop:=Paired RelV
def Vals.length{xs:List V}{us:List Value}(r:Vals xs us):xs.length=us.length:=Paired.length r
theorem Vals.get:∀{xs:List V}{us:List Value}{i:Nat}{x:V},Vals xs us->xs[i]?=some x->∃u,us[i]?=some u/\RelV x u
 |_,_,_,_,.nil,e=>by simp at e
 |_,_,0,_,.cons r _,e=>by simp at e;subst e;exact⟨_,Y,r⟩
 |_,_,i+1,x,.cons _ t,e=>by
  obtain⟨u,h1,h2⟩:=Vals.get (i:=i) (x:=x) t (by simpa using e);exact⟨u,by simpa using h1,h2⟩
theorem Vals.set(r:RelV x u):∀{xs:List V}{us:List Value}(i:Nat),Vals xs us->Vals (xs.set i x) (us.set i u)
 |_,_,_,.nil=>.nil
 |_,_,0,.cons _ t=>.cons r t
 |_,_,i+1,.cons q t=>.cons q (Vals.set r i t)
theorem Vals.append:∀{xs ys:List V}{us ws:List Value},Vals xs us->Vals ys ws->Vals (xs++ys) (us++ws)
 |_,_,_,_,.nil,s=>s
 |_,_,_,_,.cons r t,s=>.cons r (Vals.append t s)
theorem Vals.take:∀{xs:List V}{us:List Value}(n:Nat),Vals xs us->Vals (xs.take n) (us.take n)
 |_,_,0,_=>.nil
 |_,_,_+1,.nil=>.nil
 |_,_,n+1,.cons r t=>.cons r (Vals.take n t)
theorem Vals.drop:∀{xs:List V}{us:List Value}(n:Nat),Vals xs us->Vals (xs.drop n) (us.drop n)
 |_,_,0,r=>r
 |_,_,_+1,.nil=>.nil
 |_,_,n+1,.cons _ t=>Vals.drop n t
def RelO:Option V->Option Value->Prop
 |some v,some u=>RelV v u
 |none,none=>True
 |_,_=>False
def KV{κ:Type}:List (κ×V)->List (κ×Value)->Prop:=Paired λ(p:κ×V)(q:κ×Value)=>p.1=q.1/\RelV p.2 q.2
noncomputable def kV:Key->V
 | .inl i=>.int i
 | .inr x=>.str x
inductive HO where
 /-- a list -/
 |lst (xs:List V)
 /-- a tuple (never changes) -/
 |tup (xs:List V)
 /-- a dict whose keys are ints and texts;one whose keys are tuples of ints and texts (the empty one is both) -/
 |dK (kvs:List (Key×V))|dT (kvs:List (List Key×V))
 /-- a set of ints: its members,its size -/
 |set (S:Int->Bool) (n:Nat)
 /-- an instance of the class at C,its dict at dx,its attributes -/
 |ins (C dx:Addr) (fs:List (Str×V))
 /-- the dict of the instance at x -/
 |own (x:Addr)
 /-- the dict of an exception -/
 |xd (fs:List (Str×V))
 /-- a bound method,f of x -/
 |met (f x:Addr)
 /-- a range object lo,lo+1,.. below hi -/
 |rng (lo hi:Int)
 /-- a thing that is known to the object (the script;a dict while a loop walks it): read,never written while it is so -/
 |frz (o:Obj) (u:HO)
 /-- a code object's table -/
 |tbl (ps:Array Value)
 /-- any other thing,by what is true of its one object (a def of one's own: SetO a S n:=HO.ext λh=>..) -/
 |ext (φ:Heap->Prop)
abbrev Hp:=Addr->Option HO
noncomputable def upd(H:Hp)(a:Addr)(o:HO):Hp:=λb=>if b=a then some o else H b
def Zc:upd H a o a=some o:=by unfold upd;rw[if_pos rfl]
def Ze(h:b≠a):upd H a o b=H b:=by unfold upd;rw[if_neg h]
def Zup{H:Hp}(h:H a=some o)(h':H b=some u)(d:o≠u):a≠b:=by
 intro e;subst e;rw[h]at h';exact d (Ax h')
def Zi{H:Hp}(h:H a=some o)(h':H b=none):a≠b:=by
 intro e;subst e;rw[h]at h';cases h'
section
variable(P:Program)(w:World)
def Yn(H:Hp)(h:Heap)(a:Addr):HO->Prop
 | .lst xs=>xs.length<=sizeLine/\∃(its:List Value)(n:Nat),Vals xs its/\h.get? a=some {cls:=.type "list",data:=.seq its.toArray n}
 | .tup xs=>xs.length<=sizeLine/\∃its:List Value,Vals xs its/\IsTup h a its.toArray
 | .dK kvs=>kvs.length<=sizeLine/\(a==sysModules)=false/\∃vs,KV kvs vs/\h.DictOf (Yj P w) a vs
 | .dT kvs=>kvs.length<=sizeLine/\(a==sysModules)=false/\∃xs:List (List Key×Addr×Value),
   Paired (λ(p:List Key×V)(q:List Key×Addr×Value)=>p.1=q.1/\H q.2.1=some (.tup (p.1.map kV))/\RelV p.2 q.2.2) kvs xs/\
   ∃o es ep,h.get? a=some o/\o.ExactDict/\o.data=.dict es ep/\es.toList=xs.map (entryOfKey (tupleKind (Yj P w)))/\(xs.map (·.1)).Nodup
 | .set S n=>h.SetOf (intKind P w) a S n
 | .ins C dx fs=>H dx=some (.own a)/\fs.length<=1000/\dx≠a/\h.get? a=some (PySem.W.instObj C dx)/\
   ∃mA,h.Ns1 dx mA/\(∀f,RelO (fs.lookup f) (mA f))/\PySem.Within mA (fs.map (·.1))
 | .own _=>∃o,h.get? a=some o
 | .xd fs=>∃mA,h.Ns1 a mA/\∀f,RelO (fs.lookup f) (mA f)
 | .rng lo hi=>∃t u v,h.get? a=some {cls:=.type "range",data:=.fields #[.int lo t,.int hi u,.int 1 v]}
 | .frz o u=>h.get? a=some o/\Yn H h a u
 | .tbl ps=>h.get? a=some {cls:=.none,data:=.fields ps}
 | .met f x=>h.get? a=some (PySem.W.methodObj (.ref f) (.ref x))
 | .ext φ=>φ h/\(∃o,h.get? a=some o)/\∀h1 h2:Heap,φ h1->(∀o,h1.get? a=some o->h2.get? a=some o)->φ h2
def HOk(H:Hp)(h:Heap):Prop:=∀a o,H a=some o->Yn P w H h a o
end
section
variable{P:Program}{w:World}{H H':Hp}{h h':Heap}{a:Addr}{o:HO}
def Yn.lt(x:Yn P w H h a o):a<h.objs.size:=by
 cases o with
 |lst xs=>obtain⟨_,_,_,_,e⟩:=x;exact Ao e
 |tup xs=>obtain⟨_,_,_,p⟩:=x;exact p.lt
 |dK kvs=>obtain⟨_,_,_,_,o,_,_,e,_⟩:=x;exact Ao e
 |dT kvs=>obtain⟨_,_,_,_,o,_,_,e,_⟩:=x;exact Ao e
 |set S n=>obtain⟨o,_,_,_,e,_⟩:=x;exact Ao e
 |ins C dx fs=>obtain⟨_,_,_,e,_⟩:=x;exact Ao e
 |own y=>obtain⟨_,e⟩:=x;exact Ao e
 |xd fs=>obtain⟨_,⟨_,_,_,e,_⟩,_⟩:=x;exact Ao e
 |rng lo hi=>obtain⟨_,_,_,e⟩:=x;exact Ao e
 |frz ob u=>obtain⟨e,_⟩:=x;exact Ao e
 |tbl ps=>exact Ao (show h.get? a=some _ from x)
 |met f y=>exact Ao (show h.get? a=some _ from x)
 |ext φ=>obtain⟨_,⟨_,e⟩,_⟩:=x;exact Ao e
theorem Paired.mapP{α β:Type}{F G:α->β->Prop}:∀{l₁:List α}{l₂:List β},Paired F l₁ l₂->(∀a b,F a b->G a b)->Paired G l₁ l₂
 |_,_,.nil,_=>.nil
 |_,_,.cons r t,f=>.cons (f _ _ r) (Paired.mapP t f)
def Yn.stay(x:Yn P w H h a o)(k:∀b u,(b=a\/H b=some (.own a))->h.get? b=some u->h'.get? b=some u)
  (ho:∀b,H b=some (.own a)->H' b=some (.own a)) (ht:∀b xs,H b=some (.tup xs)->H' b=some (.tup xs)):Yn P w H' h' a o:=by
 induction o with
 |lst xs=>obtain⟨z,its,n,r,e⟩:=x;exact⟨z,its,n,r,k _ _ (.inl Y) e⟩
 |tup xs=>obtain⟨z,its,r,ob,e,c⟩:=x;exact⟨z,its,r,ob,k _ _ (.inl Y) e,c⟩
 |dK kvs=>obtain⟨z,y,vs,r,ob,es,ep,e,c⟩:=x;exact⟨z,y,vs,r,ob,es,ep,k _ _ (.inl Y) e,c⟩
 |dT kvs=>
  obtain⟨z,y,xs,r,ob,es,ep,e,c,c1,c2,c3⟩:=x;exact⟨z,y,xs,Paired.mapP r λp q z=>⟨z.1,ht _ _ z.2.1,z.2.2⟩,ob,es,ep,k _ _ (.inl Y) e,c,c1,c2,c3⟩
 |set S n=>obtain⟨ob,es,ep,t,e,c⟩:=x;exact⟨ob,es,ep,t,k _ _ (.inl Y) e,c⟩
 |ins C dx fs=>
  obtain⟨d,z,ne,e,mA,⟨od,es,ep,e2,c⟩,r⟩:=x;exact⟨ho _ d,z,ne,k _ _ (.inl Y) e,mA,⟨od,es,ep,k _ _ (.inr d) e2,c⟩,r⟩
 |own y=>obtain⟨ob,e⟩:=x;exact⟨ob,k _ _ (.inl Y) e⟩
 |xd fs=>obtain⟨mA,⟨od,es,ep,e,c⟩,r⟩:=x;exact⟨mA,⟨od,es,ep,k _ _ (.inl Y) e,c⟩,r⟩
 |rng lo hi=>obtain⟨t,u,v,e⟩:=x;exact⟨t,u,v,k _ _ (.inl Y) e⟩
 |frz ob u ih=>obtain⟨e,q⟩:=x;exact⟨k _ _ (.inl Y) e,ih q⟩
 |tbl ps=>
  have e:h.get? a=some {cls:=.none,data:=.fields ps}:=x;show h'.get? a=some {cls:=.none,data:=.fields ps};exact k a _ (.inl Y) e
 |met f y=>
  have e:h.get? a=some (PySem.W.methodObj (.ref f) (.ref y)):=x;show h'.get? a=some (PySem.W.methodObj (.ref f) (.ref y));exact k a _ (.inl Y) e
 |ext φ=>obtain⟨p,⟨o,e⟩,st⟩:=x;exact⟨st _ _ p λo q=>k _ _ (.inl Y) q,⟨o,k _ _ (.inl Y) e⟩,st⟩
def HOk.lt(x:HOk P w H h)(e:H a=some o):a<h.objs.size:=(x a o e).lt
def HOk.fresh(x:HOk P w H h)(e:h.objs.size<=a):H a=none:=by
 cases q:H a with
 |none=>rfl
 |some u=>exact absurd (Ag (x.lt q) e) (Nat.lt_irrefl _)
def HOk.kept(x:HOk P w H h)(k:∀b u,h.get? b=some u->h'.get? b=some u):HOk P w H h':=λa o e=>
 (x a o e).stay (λb u _ q=>k b u q) (λ_ q=>q) λ_ _ q=>q
def HOk.laid(x:HOk P w H h)(k:∀b u,h.get? b=some u->h'.get? b=some u)(hp:h.objs.size<=a)(new:Yn P w (upd H a o) h' a o):HOk P w (upd H a o) h':=λb u e=>by
 have hn:=x.fresh hp;by_cases hb:b=a
 ·subst hb;rw[Zc]at e;cases e;exact new
 ·rw[Ze hb]at e
  exact(x b u e).stay (λc v _ q=>k c v q) (λc q=>by rw[Ze (Zi q hn)];exact q) λc xs q=>by rw[Ze (Zi q hn)];exact q
end
def Rd(H:Hp)(a:Addr)(u:HO):Prop:=H a=some u\/∃o,H a=some (.frz o u)
def Rd.ok{P:Program}{w:World}{H:Hp}{h:Heap}{a:Addr}{u:HO}(r:Rd H a u)(x:HOk P w H h):Yn P w H h a u:=by
 rcases r with r|⟨o,r⟩
 ·exact x a u r
 ·obtain⟨_,q⟩:=x a _ r
  exact q
def Mut:Option HO->Prop
 |some (.lst _)=>True
 |some (.dK _)=>True
 |some (.dT _)=>True
 |some (.set _ _)=>True
 |some (.ins _ _ _)=>True
 |some (.ext _)=>True
 |_=>False
section
variable{P:Program}{w:World}{H:Hp}{h h':Heap}{x e:Addr}{o':HO}
def HOk.write(ok:HOk P w H h)(mu:Mut (H x))(he:e=x\/H e=some (.own x))(k:∀b u,b≠e->h.get? b=some u->h'.get? b=some u)(heo:∃u,h'.get? e=some u)
  (new:Yn P w (upd H x o') h' x o'):HOk P w (upd H x o') h':=λb u q=>by
 have uc:∀c y,H c=some (.own y)->c≠x:=λc y r z=>by subst z;rw[r]at mu;exact mu
 have rq:∀c xs,H c=some (.tup xs)->c≠x:=λc xs r z=>by subst z;rw[r]at mu;exact mu
 by_cases hb:b=x
 ·subst hb;rw[Zc]at q;cases q;exact new
 ·rw[Ze hb]at q
  by_cases yo:b=e
  ·have q':H b=some (.own x):=by
    rcases he with z|z
    ·exact absurd (yo.trans z) hb
    ·rw[yo];exact z
   rw[q]at q';cases q';obtain⟨v,hv⟩:=heo;exact⟨v,by rw[yo];exact hv⟩
  ·refine(ok b u q).stay (λc v hc r=>k c v ?_ r) (λc r=>by rw[Ze (uc c b r)];exact r) λc xs r=>by rw[Ze (rq c xs r)];exact r
   rcases hc with rfl|hc
   ·exact yo
   ·rintro rfl
    rcases he with z|z
    ·exact uc c b hc z
    ·rw[hc]at z;cases z;exact hb Y
end
structure Un(fs ex:List Addr)(H H':Hp)(h h':Heap):Prop where
 keep:∀b o,h.get? b=some o->H b=none->b∉fs->b∉ex->h'.get? b=some o
 slot:∀b o,h.get? b=some o->H b=none->b∈fs->b∉ex->∃sl,h'.get? b=some {o with slots:=sl}
 free:∀b o,h.get? b=some o->H b=none->b∉ex->H' b=none
 there:∀b o,h.get? b=some o->b∉ex->∃o',h'.get? b=some o'
 tups:∀b xs,H b=some (.tup xs)->H' b=some (.tup xs)
 frzs:∀b o u,H b=some (.frz o u)->H' b=some (.frz o u)
 tbls:∀b ps,H b=some (.tbl ps)->∃uw,H' b=some (.tbl (ps++uw))
section
variable{fs fs' ex ex':List Addr}{H H1 H2:Hp}{h h1 h2 h':Heap}{a x e:Addr}{o:HO}
def Un.any(u:Un fs ex H H1 h h1)(q:h.get? b=some ob)(n:H b=none)(hx:b∉ex):∃sl,h1.get? b=some {ob with slots:=sl}:=by
 by_cases hb:b∈fs
 ·exact u.slot b ob q n hb hx
 ·exact⟨ob.slots,u.keep b ob q n hb hx⟩
def Un.kept(k:∀b u,h.get? b=some u->h'.get? b=some u):Un fs ex H H h h':=
 ⟨λb ob q _ _ _=>k b ob q,λb ob q _ _ _=>⟨ob.slots,k b ob q⟩,λ_ _ _ n _=>n,λb ob q _=>⟨ob,k b ob q⟩,λ_ _ q=>q,λ_ _ _ q=>q,λ_ ps q=>⟨#[],by rw[q];simp⟩⟩
def Un.refl:Un fs ex H H h h:=Un.kept λ_ _ q=>q
def Un.laid(k:∀b u,h.get? b=some u->h'.get? b=some u)(hp:h.objs.size<=a)(hn:H a=none):Un fs ex H (upd H a o) h h' where
 keep:=λb u q _ _ _=>k b u q
 slot:=λb u q _ _ _=>⟨u.slots,k b u q⟩
 free:=λb u q n _=>by rw[Ze (As (Ag (Ao q) hp))];exact n
 there:=λb u q _=>⟨u,k b u q⟩
 tups:=λb xs q=>by rw[Ze (Zi q hn)];exact q
 frzs:=λb u xs q=>by rw[Ze (Zi q hn)];exact q
 tbls:=λb ps q=>⟨#[],by rw[Ze (Zi q hn),q];simp⟩
def Un.write(mu:Mut (H x))(he:e=x\/H e=some (.own x))(k:∀b u,b≠e->h.get? b=some u->h'.get? b=some u)(heo:∃u,h'.get? e=some u):Un fs ex H (upd H x o) h h':=by
 have hx:∀b,H b=none->b≠x:=λb n z=>by subst z;rw[n]at mu;exact mu
 have hb:∀b,H b=none->b≠e:=λb n z=>by
  subst z
  rcases he with r|r
  ·exact hx b n r
  ·rw[n]at r;cases r
 have hm:∀b u,H b=some u->¬Mut (some u)->b≠x:=λb u q nm z=>by subst z;rw[q]at mu;exact nm mu
 refine⟨λb u q n _ _=>k b u (hb b n) q,λb u q n _ _=>⟨u.slots,k b u (hb b n) q⟩,λb u q n _=>by rw[Ze (hx b n)];exact n,λb u q _=>?_,
  λb xs q=>by rw[Ze (hm b _ q λz=>z)];exact q,λb u xs q=>by rw[Ze (hm b _ q λz=>z)];exact q,λb ps q=>⟨#[],by rw[Ze (hm b _ q λz=>z),q];simp⟩⟩;by_cases yo:b=e
 ·subst yo;exact heo
 ·exact⟨u,k b u yo q⟩
end
noncomputable def tq(h:Heap)(H:Hp):List Addr:=(List.range h.objs.size).filter λa=>(H a).isSome
noncomputable def hidT(h:Heap)(H:Hp):Heap:=PySem.W.hideAll h (tq h H)
def Zm2(h:Heap)(H:Hp):(hidT h H).objs.size=h.objs.size:=PySem.W.hideAll_size _ _
def Zpe{h:Heap}(e:h.get? b=some o)(n:H b=none):(hidT h H).get? b=some o:=
 PySem.W.hideAll_get _ e λhm=>by
  have q:(H b).isSome=true:=(mem_filter.mp hm).2;rw[n]at q;simp at q
def Zrf{h:Heap}(e:(hidT h H).get? b=some o):h.get? b=some o/\H b=none:=by
 have e':h.get? b=some o:=PySem.W.of_hideAll (tq h H) e;refine⟨e',?_⟩
 cases q:H b with
 |none=>rfl
 |some x=>
  have hm:b∈tq h H:=mem_filter.mpr ⟨mem_range.mpr (Ao e'),by simp[q]⟩;have z:(hidT h H).get? b=none:=PySem.W.hideAll_none (tq h H) hm;rw[z]at e;cases e
noncomputable def Zrz(g h:Heap)(L:Addr):List (j:):=(List.range h.objs.size).filterMap λa=>if a=L\/(g.get? a).isSome=true then none else(h.get? a).map λo=>(a,o)
noncomputable def l8(g h:Heap)(L d:Addr):List (j:):=(Zrz g h L).filter λp=>decide (p.1≠d)
structure Mod(K:W.Frag)(mg:Str->Option Value)(base:Heap):Prop where
 kin:K.In base
 glob:base.Ns mainGlobals mg
 blt:∃mb,base.Ns builtinsNs mb/\∀x:Str,x≠"__name__"->mb x=bootBuiltins x
 nolimit:base.NoLimit
structure Cx where
 prog:Program
 w:World
 K:PySem.W.Frag
 mg:Str->Option Value
 base:Heap
 A:Around
 N:List Str
 s₀:Shared
 H₀:Hp
 env:Env
 outer:List Env
 stack:List Env
 ex:List Addr
 fn:Str->Bool
 calm:Bool
 pn:List (j:)
 xe:Value->Shared->Prop
def frs(l:List Env):List Addr:=l.filterMap (·.frame)
abbrev Cx.fs(X:Cx):List Addr:=frs X.outer
def Vis(sc:Scope)(x:Str):Prop:=sc.names.lookup x=some .local\/sc.names.lookup x=some .cell\/sc.names.lookup x=some .free
def Loc(sc:Scope)(x:Str):Prop:=sc.names.lookup x=some .local\/sc.names.lookup x=some .cell
def Look(env:Env)(h:Heap)(m:Str->Option Value)(x:Str)(u:Value):Prop:=
 (env.kindOf x=some .local/\m x=some u)\/((env.kindOf x=some .cell\/env.kindOf x=some .free)/\∃c,env.cells.lookup x=some c/\h.IsCell c (some u))
structure Cx.Ok(X:Cx):Prop where
 mod:Mod X.K X.mg X.base
 kind:X.env.scope.kind=.function
 glob:X.env.globals=mainGlobals
 blt:X.env.builtins=builtinsNs
 above:X.s₀.heap.objs.size<=X.env.locals
 inj:∀x y c,X.env.cells.lookup x=some c->X.env.cells.lookup y=some c->x=y
 has:∀x,(X.env.kindOf x=some .cell\/X.env.kindOf x=some .free)->∃c,X.env.cells.lookup x=some c
 cab:∀x c,X.fn x=true->X.env.cells.lookup x=some c->X.s₀.heap.objs.size<=c
 hd:X.calm=true->X.A.handled=none
 frames:X.A.frames=some X.stack
 stk:X.stack=X.outer\/(X.stack=X.env::X.outer/\X.env.frame=some X.env.locals)
 exf:∀b∈X.ex,b≠X.env.locals/\∀x c,X.env.cells.lookup x=some c->c≠b
 bs:∀b o,X.base.get? b=some o->X.s₀.heap.get? b=some o/\X.H₀ b=none
 bsz:X.base.objs.size<=X.s₀.heap.objs.size
 noex:∀b o,X.base.get? b=some o->b∉X.ex
 exfs:∀b∈X.ex,b∉X.fs
 funs:X.s₀.heap.FunFrames X.base X.outer
 frf:∀b∈X.fs,X.H₀ b=none
structure Inv(X:Cx)(j':List (j:))(σ:List (Option V))(H:Hp)(s:Shared):Prop where
 ok:X.Ok
 os:s.os=X.s₀.os
 bare:AllBare s.gens
 base:Un X.fs X.ex X.H₀ H X.s₀.heap s.heap
 loc:∃m,s.heap.Ns X.env.locals m/\∀(i:Nat)(x:Str)(v:V),X.N[i]?=some x->σ[i]?=some (some v)->Vis X.env.scope x->∃u,RelV v u/\Look X.env s.heap m x u
 cell:∀x c,X.env.cells.lookup x=some c->∃v,s.heap.IsCell c v
 free:H X.env.locals=none
 freeC:∀x c,X.env.cells.lookup x=some c->H c=none
 pin:∀p∈X.pn++j',s.heap.get? p.1=some p.2/\H p.1=none/\p.1≠X.env.locals/\p.1∉X.fs/\∀v,p.2.data≠.cell v
 hok:HOk X.prog X.w H s.heap
 len:σ.length=X.N.length
section
variable{X:Cx}{j':List (j:)}{σ:List (Option V)}{H H':Hp}{s:Shared}{h':Heap}
def Cx.Ok.nofr(ok:X.Ok)(e:X.base.get? b=some o):b∉X.fs:=λhb=>by
 have:=(ok.funs.mem hb).1;rw[e]at this;cases this
def Inv.bs(I:Inv X j' σ H s):∀b o,X.base.get? b=some o->s.heap.get? b=some o/\H b=none:=λb o e=>
 ⟨I.base.keep b o (I.ok.bs b o e).1 (I.ok.bs b o e).2 (I.ok.nofr e) (I.ok.noex b o e),I.base.free b o (I.ok.bs b o e).1 (I.ok.bs b o e).2 (I.ok.noex b o e)⟩
def Inv.bk(I:Inv X j' σ H s):∀b o,X.base.get? b=some o->s.heap.get? b=some o:=λb o e=>(I.bs b o e).1
def Inv.mod(I:Inv X j' σ H s):Mod X.K X.mg X.base:=I.ok.mod
def Inv.kIn(I:Inv X j' σ H s):X.K.In s.heap:=I.ok.mod.kin.keeps I.bk
def Inv.lt(I:Inv X j' σ H s):X.env.locals<s.heap.objs.size:=let⟨_,hn,_⟩:=I.loc;hn.lt
def Inv.sz(I:Inv X j' σ H s):X.s₀.heap.objs.size<=s.heap.objs.size:=Nat.le_trans I.ok.above (Nat.le_of_lt I.lt)
def Inv.nofs(I:Inv X j' σ H s){a:Addr}(h:s.heap.objs.size<=a):a∉X.fs:=λhb=>by
 obtain⟨_,o,ho,_⟩:=I.ok.funs.mem hb;exact absurd (Ag (Ao ho) (Nat.le_trans I.sz h)) (Nat.lt_irrefl _)
def Inv.cne(I:Inv X j' σ H s):∀x c,X.env.cells.lookup x=some c->c≠X.env.locals:=λx c e z=>by
 obtain⟨v,o,ho,hd⟩:=I.cell x c e;obtain⟨m,⟨o',es,ep,t6,hd',_⟩,_⟩:=I.loc;rw[z,t6]at ho;cases ho;rw[hd']at hd;cases hd
def Inv.funs(I:Inv X j' σ H s):s.heap.FunFrames X.base X.outer:=by
 have all:∀(l:List Env),(∀b∈frs l,b∈X.fs)->X.s₀.heap.FunFrames X.base l->s.heap.FunFrames X.base l:=by
  intro l
  induction l with
  |nil=>intro _ _;trivial
  |cons env r ih=>
   intro hs hl;obtain⟨hk,⟨L,o,hf,hn,ho,hd⟩,hr⟩:=hl;have hL:L∈X.fs:=hs L (by unfold frs;rw[filterMap_cons,hf];exact mem_cons_self);obtain⟨sl,e⟩:=I.base.slot L o ho (I.ok.frf L hL) hL λz=>I.ok.exfs L z hL;exact⟨hk,⟨L,_,hf,hn,e,hd⟩,ih (λb hb=>hs b (by unfold frs;rw[filterMap_cons,hf];exact mem_cons_of_mem _ hb)) hr⟩
 exact all X.outer (λ_ hb=>hb) I.ok.funs
def Inv.stack(I:Inv X j' σ H s):s.heap.FunFrames X.base X.stack:=by
 rcases I.ok.stk with e|⟨e,hf⟩
 ·rw[e];exact I.funs
 ·rw[e]
  obtain⟨m,hn,_⟩:=I.loc;refine .cons (by rw[I.ok.kind];decide) hf hn ?_ I.funs;exact Heap.get?_none_of_le (Nat.le_trans I.ok.bsz I.ok.above)
def Inv.stkSub(I:Inv X j' σ H s):∀b∈frs X.stack,b∈X.env.locals::X.fs:=λb hb=>by
 rcases I.ok.stk with e|⟨e,hf⟩
 ·rw[e]at hb;exact mem_cons_of_mem _ hb
 ·rw[e]at hb
  unfold frs at hb;rw[filterMap_cons,hf]at hb;exact hb
def Inv.stkFree(I:Inv X j' σ H s):∀b∈frs X.stack,H b=none:=λb hb=>by
 rcases Ar (I.stkSub b hb)with e|hb
 ·rw[e];exact I.free
 ·obtain⟨_,o,ho,_⟩:=I.ok.funs.mem hb
  exact I.base.free b o ho (I.ok.frf b hb) λz=>I.ok.exfs b z hb
def Inv.step{g':Array GenState}{t':Nat}{d':Drawn}{ch:List Addr}(I:Inv X j' σ H s)
  (qp:∀b∈ch,(b∈X.ex\/X.s₀.heap.objs.size<=b)/\b≠X.env.locals/\(∀x c,X.env.cells.lookup x=some c->c≠b)/\∀p∈X.pn++j',p.1≠b)
  (keep:∀b o,b≠X.env.locals->b∉X.fs->b∉ch->s.heap.get? b=some o->H b=none->h'.get? b=some o)
  (slot:∀b o,b≠X.env.locals->b∈X.fs->b∉ch->s.heap.get? b=some o->H b=none->∃sl,h'.get? b=some {o with slots:=sl}) (free:∀b o,b∉ch->s.heap.get? b=some o->H b=none->H' b=none)
  (there:∀b o,b∉ch->s.heap.get? b=some o->∃o',h'.get? b=some o')
  (tups:∀b xs,H b=some (.tup xs)->H' b=some (.tup xs)) (frzs:∀b o u,H b=some (.frz o u)->H' b=some (.frz o u)) (tbls:∀b ps,H b=some (.tbl ps)->∃uw,H' b=some (.tbl (ps++uw)))
  (ns:∀m,s.heap.Ns X.env.locals m->h'.Ns X.env.locals m) (hok:HOk X.prog X.w H' h') (hg:AllBare g'):
  Inv X j' σ H' {s with heap:=h',gens:=g',drawn:=d',toks:=t' }:=by
 have neL:∀b o,X.s₀.heap.get? b=some o->b≠X.env.locals:=λb o e=>As (Ag (Ao e) I.ok.above);have neC:∀b o,X.s₀.heap.get? b=some o->b∉X.ex->b∉ch:=λb o e hx hb=>by
  rcases(qp b hb).1 with z|z
  ·exact hx z
  ·exact absurd (Ag (Ao e) z) (Nat.lt_irrefl _)
 have re:∀x c,X.env.cells.lookup x=some c->∀v,s.heap.IsCell c v->h'.IsCell c v:=λx c e v ⟨o,ho,hd⟩=>by
  have nch:c∉ch:=λz=>(qp c z).2.2.1 x c e rfl;by_cases hc:c∈X.fs
  ·obtain⟨sl,q⟩:=slot c o (I.cne x c e) hc nch ho (I.freeC x c e)
   exact⟨_,q,hd⟩
  ·exact⟨o,keep c o (I.cne x c e) hc nch ho (I.freeC x c e),hd⟩
 refine⟨I.ok,I.os,hg,⟨λb o e n hb hx=>?_,λb o e n hb hx=>?_,λb o e n hx=>?_,λb o e hx=>?_,λb xs e=>tups b xs (I.base.tups b xs e),λb o xs e=>frzs b o xs (I.base.frzs b o xs e),λb ps e=>?_⟩,?_,λx c e=>?_,?_,λx c e=>?_,λp hp=>?_,hok,I.len⟩
 ·exact keep b o (neL b o e) hb (neC b o e hx) (I.base.keep b o e n hb hx) (I.base.free b o e n hx)
 ·obtain⟨sl,e1⟩:=I.base.slot b o e n hb hx
  obtain⟨sl',e2⟩:=slot b _ (neL b o e) hb (neC b o e hx) e1 (I.base.free b o e n hx);exact⟨sl',e2⟩
 ·obtain⟨o',e1⟩:=I.base.there b o e hx
  exact free b o' (neC b o e hx) e1 (I.base.free b o e n hx)
 ·obtain⟨o',e1⟩:=I.base.there b o e hx
  exact there b o' (neC b o e hx) e1
 ·obtain⟨m1,e1⟩:=I.base.tbls b ps e
  obtain⟨m2,e2⟩:=tbls b _ e1;exact⟨m1++m2,by rw[e2,Array.append_assoc]⟩
 ·obtain⟨m,hn,hl⟩:=I.loc
  refine⟨m,ns m hn,λi x v e1 e2 e3=>?_⟩;obtain⟨u,r,l⟩:=hl i x v e1 e2 e3;refine⟨u,r,?_⟩
  rcases l with l|⟨k,c,e,z⟩
  ·exact .inl l
  ·exact .inr ⟨k,c,e,re x c e _ z⟩
 ·obtain⟨v,z⟩:=I.cell x c e
  exact⟨v,re x c e v z⟩
 ·obtain⟨m,⟨o,_,_,ho,_⟩,_⟩:=I.loc
  exact free _ o (λz=>(qp _ z).2.1 Y) ho I.free
 ·obtain⟨v,o,ho,hd⟩:=I.cell x c e
  exact free c o (λz=>(qp c z).2.2.1 x c e Y) ho (I.freeC x c e)
 ·obtain⟨e,n,ne,nf,d⟩:=I.pin p hp
  have nch:p.1∉ch:=λz=>(qp p.1 z).2.2.2 p hp rfl;exact⟨keep p.1 p.2 ne nf nch e n,free p.1 p.2 nch e n,ne,nf,d⟩
def Inv.un{t':Nat}(I:Inv X j' σ H s)(u:Un X.fs [] H H' s.heap h')(hok:HOk X.prog X.w H' h'):Inv X j' σ H' {s with heap:=h',toks:=t' }:=by
 obtain ⟨m,⟨o,es,ep,ho,r⟩,_⟩:=id I.loc;obtain ⟨sl,hL⟩:=u.any ho I.free (by simp);exact I.step (g':=s.gens) (d':=s.drawn) (ch:=[]) (λ_ z=>nomatch z) (λb o _ hb _ e n=>u.keep b o e n hb (by simp)) (λb o _ hb _ e n=>u.slot b o e n hb (by simp)) (λb o _ e n=>u.free b o e n (by simp)) (λb o _ e=>u.there b o e (by simp)) u.tups u.frzs u.tbls (λm' hm=>by
  obtain⟨o',yq,ep',t6,r'⟩:=hm
  rw[ho]at t6;cases t6
  exact⟨_,yq,ep',hL,r'⟩) hok I.bare
def Inv.call{t':Nat}{d':Drawn}(I:Inv X j' σ H s)(u:Un (frs X.stack) ch H H' s.heap h')(hok:HOk X.prog X.w H' h')(hg:AllBare g')
  (qp:∀b∈ch,(b∈X.ex\/X.s₀.heap.objs.size<=b)/\b≠X.env.locals/\(∀x c,X.env.cells.lookup x=some c->c≠b)/\∀p∈X.pn++j',p.1≠b):
  Inv X j' σ H' {s with heap:=h',gens:=g',drawn:=d',toks:=t' }:=by
 obtain ⟨m,⟨o,es,ep,ho,r⟩,_⟩:=id I.loc;obtain ⟨sl,hL⟩:=u.any ho I.free λz=>(qp _ z).2.1 rfl;exact I.step (ch:=ch) qp (λb o hL hb hc e n=>u.keep b o e n (λz=>(Ar (I.stkSub b z)).elim hL hb) hc) (λb o _ _ hc e n=>u.any e n hc) (λb o hc e n=>u.free b o e n hc) (λb o hc e=>u.there b o e hc) u.tups u.frzs u.tbls (λm' hm=>by
  obtain⟨o',yq,ep',t6,r'⟩:=hm
  rw[ho]at t6;cases t6
  exact⟨_,yq,ep',hL,r'⟩) hok hg
def Inv.turned{t':Nat}(I:Inv X j' σ H s)(k:∀b o,b≠it->s.heap.get? b=some o->h'.get? b=some o)(hn:H it=none)(hL:it≠X.env.locals)
  (h1:it∈X.ex\/X.s₀.heap.objs.size<=it) (h2:∀x c,X.env.cells.lookup x=some c->c≠it) (h3:∀p∈X.pn++j',p.1≠it):Inv X j' σ H {s with heap:=h',toks:=t' }:=by
 have nit:∀b u,H b=some u->b≠it:=λb u e z=>by rw[z,hn]at e;cases e
 refine I.step (g':=s.gens) (d':=s.drawn) (ch:=[it]) (λb hb=>?_) (λb o _ _ hc e _=>k b o (bb:) e) (λb o _ _ hc e _=>⟨o.slots,k b o (bb:) e⟩) (λ_ _ _ _ n=>n)
  (λb o hc e=>⟨o,k b o (bb:) e⟩) (λ_ _ e=>e) (λ_ _ _ e=>e) (λb ps e=>⟨#[],by rw[e];simp⟩) (λm hm=>?_) (λb u e=>?_) I.bare
 ·have e:b=it:=by simpa using hb
  subst e;exact⟨h1,hL,h2,h3⟩
 ·obtain⟨o,es,ep,ho,r⟩:=hm
  exact⟨o,es,ep,k _ o (Ne.symm hL) ho,r⟩
 ·refine(I.hok b u e).stay (λc v hc q=>k c v ?_ q) (λ_ q=>q) λ_ _ q=>q
  rcases hc with z|z
  ·rw[z];exact nit b u e
  ·exact nit c _ z
def Inv.tok(I:Inv X j' σ H s)(t:Nat):Inv X j' σ H {s with toks:=t}:=I.un (h':=s.heap) (t':=t) Un.refl I.hok
def Inv.kept{t':Nat}(I:Inv X j' σ H s)(k:∀b u,s.heap.get? b=some u->h'.get? b=some u):Inv X j' σ H {s with heap:=h',toks:=t' }:=I.un (Un.kept k) (I.hok.kept k)
def Inv.laid{t':Nat}(I:Inv X j' σ H s)(k:∀b u,s.heap.get? b=some u->h'.get? b=some u)(hp:s.heap.objs.size<=a)(new:Yn X.prog X.w (upd H a o) h' a o):
  Inv X j' σ (upd H a o) {s with heap:=h',toks:=t' }:=I.un (Un.laid k hp (I.hok.fresh hp)) (I.hok.laid k hp new)
def Inv.write{t':Nat}(I:Inv X j' σ H s)(mu:Mut (H x))(he:e=x\/H e=some (.own x))(k:∀b u,b≠e->s.heap.get? b=some u->h'.get? b=some u)(heo:∃u,h'.get? e=some u)
  (new:Yn X.prog X.w (upd H x o) h' x o):Inv X j' σ (upd H x o) {s with heap:=h',toks:=t' }:=I.un (Un.write mu he k heo) (I.hok.write mu he k heo new)
def Inv.pins_of(I:Inv X j' σ H s)(h:∀p∈pins',s.heap.get? p.1=some p.2/\H p.1=none/\p.1≠X.env.locals/\p.1∉X.fs/\∀v,p.2.data≠.cell v):Inv X pins' σ H s:=
 ⟨I.ok,I.os,I.bare,I.base,I.loc,I.cell,I.free,I.freeC,λp hp=>(mem_append.mp hp).elim (λz=>I.pin p (mem_append_left _ z)) (h p),I.hok,I.len⟩
def Zgx{N:List Str}(hN:N.Nodup){i j:Nat}(a:N[i]?=some x)(b:N[j]?=some x):i=j:=by
 obtain⟨h1,e1⟩:=Aa a;obtain⟨h2,e2⟩:=Aa b;exact(getElem_inj hN).mp (e1.trans e2.symm)
def Kg(I:Inv X j' σ H s)(hN:X.N.Nodup)(hi:X.N[i]?=some x)(hx:Loc X.env.scope x)(r:RelV v u)
  (h:∀s',Inv X j' (σ.set i (some v)) H s'->(∃a,Heap.SameBut a s.heap s'.heap/\(a=X.env.locals\/X.env.cells.lookup x=some a))->Q () s') (hf:X.fn x=true\/X.env.scope.names.lookup x=some .local:=by first|exact .inl rfl|exact .inr rfl|assumption):wpAny M A (storeName X.env x u) Q E s:=by
 obtain⟨m,hn,hl⟩:=id I.loc;have u6:(X.env.scope.kind == .class||(X.env.scope.kind == .module&&X.env.locals != X.env.globals))=false:=by rw[I.ok.kind];rfl
 have hiσ:i<σ.length:=by rw[I.len];exact(Aa hi).1
 have cne:=I.cne
 have tj:∀{a:Addr}{h':Heap},(∃o,s.heap.get? a=some o/\H a=none)->Heap.SameBut a s.heap h'->HOk X.prog X.w H h':=λ{a h'}ha hs b ob e=>by
  obtain⟨_,_,xu⟩:=ha;refine(I.hok b ob e).stay (λc w' hc q=>(hs.2 c ?_).trans q) (λ_ q=>q) λ_ _ q=>q;rintro rfl
  rcases hc with rfl|hc
  ·rw[xu]at e;cases e
  ·rw[xu]at hc;cases hc
 rcases hx with hk|hk
 ·refine wpAny_storeName_local hk hn (λh' hn' hs=>?_) u6
  obtain⟨oL,_,_,wm,_⟩:=id hn;refine h _ ⟨I.ok,I.os,I.bare,⟨λb o e n hb hx=>?_,λb o e n hb hx=>?_,I.base.free,λb o e hx=>?_,I.base.tups,I.base.frzs,I.base.tbls⟩,⟨_,hn',λj y v' e1 e2 e3=>?_⟩,λy c e=>?_,I.free,I.freeC,λp hp=>?_,tj ⟨oL,wm,I.free⟩ hs,by simpa using I.len⟩ ⟨_,hs,.inl Y⟩
  ·exact(hs.2 b (As (Ag (Ao e) I.ok.above))).trans (I.base.keep b o e n hb hx)
  ·obtain⟨sl,e1⟩:=I.base.slot b o e n hb hx
   exact⟨sl,(hs.2 b (As (Ag (Ao e) I.ok.above))).trans e1⟩
  ·obtain⟨o',e1⟩:=I.base.there b o e hx
   exact⟨o',(hs.2 b (As (Ag (Ao e) I.ok.above))).trans e1⟩
  ·by_cases hj:j=i
   ·subst hj
    rw[hi]at e1;cases e1;rw[getElem?_set_self hiσ]at e2;cases e2;exact⟨u,r,.inl ⟨hk,by simp⟩⟩
   ·rw[getElem?_set_ne (Ne.symm hj)]at e2
    obtain⟨u',r',q⟩:=hl j y v' e1 e2 e3;refine⟨u',r',?_⟩
    rcases q with ⟨k,e⟩|⟨k,c,e,z⟩
    ·refine .inl ⟨k,?_⟩
     have:y≠x:=λe=>hj (Zgx hN e1 (e▸hi));simp[this,e]
    ·exact .inr ⟨k,c,e,z.sameBut hs (cne y c e)⟩
  ·obtain⟨w',z⟩:=I.cell y c e
   exact⟨w',z.sameBut hs (cne y c e)⟩
  ·obtain⟨e,n,ne,nf,d⟩:=I.pin p hp
   exact⟨(hs.2 p.1 ne).trans e,n,ne,nf,d⟩
 ·have hfn:X.fn x=true:=by
   rcases hf with z|z
   ·exact z
   ·rw[z]at hk;cases hk
  obtain⟨c,hc⟩:=I.ok.has x (.inl hk);obtain⟨w',z⟩:=I.cell x c hc;refine wpAny_storeName_cell I.ok.kind hk hc z (λh' yn hs=>?_);obtain⟨oc,hoc,hocd⟩:=id z;refine h {s with heap:=h' } ⟨I.ok,I.os,I.bare,⟨λb o e n hb hx=>?_,λb o e n hb hx=>?_,I.base.free,λb o e hx=>?_,I.base.tups,I.base.frzs,I.base.tbls⟩,⟨m,hn.sameBut hs (Ne.symm (cne x c hc)),λj y v' e1 e2 e3=>?_⟩,λy c' e=>?_,I.free,I.freeC,λp hp=>?_,tj ⟨oc,hoc,I.freeC x c hc⟩ hs,by simpa using I.len⟩ ⟨c,hs,.inr hc⟩
  ·exact(hs.2 b (As (Ag (Ao e) (I.ok.cab x c hfn hc)))).trans (I.base.keep b o e n hb hx)
  ·obtain⟨sl,e1⟩:=I.base.slot b o e n hb hx
   exact⟨sl,(hs.2 b (As (Ag (Ao e) (I.ok.cab x c hfn hc)))).trans e1⟩
  ·obtain⟨o',e1⟩:=I.base.there b o e hx
   exact⟨o',(hs.2 b (As (Ag (Ao e) (I.ok.cab x c hfn hc)))).trans e1⟩
  ·by_cases hj:j=i
   ·subst hj
    rw[hi]at e1;cases e1;rw[getElem?_set_self hiσ]at e2;cases e2;exact⟨u,r,.inr ⟨.inl hk,c,hc,yn⟩⟩
   ·rw[getElem?_set_ne (Ne.symm hj)]at e2
    obtain⟨u',r',q⟩:=hl j y v' e1 e2 e3;refine⟨u',r',?_⟩
    rcases q with q|⟨k,c',e,z'⟩
    ·exact .inl q
    ·refine .inr ⟨k,c',e,z'.sameBut hs ?_⟩
     rintro rfl;exact hj (Zgx hN e1 (I.ok.inj _ _ _ e hc▸hi))
  ·by_cases hcc:c'=c
   ·subst hcc;exact⟨_,yn⟩
   ·obtain⟨w2,z2⟩:=I.cell y c' e
    exact⟨w2,z2.sameBut hs hcc⟩
  ·obtain⟨e,n,ne,nf,d⟩:=I.pin p hp
   refine⟨(hs.2 p.1 ?_).trans e,n,ne,nf,d⟩;intro q;rw[q,hoc]at e;have q':oc=p.2:=Ax e;exact d w' (by rw[<-q'];exact hocd)
def Js{M:Model}{A:Around}{E:Value->Shared->Prop}{i:Nat}{x:Str}{v:V}{u:Value}{Q:Unit->Shared->Prop}(I:Inv X j' σ H s)(hN:X.N.Nodup)(hi:X.N[i]?=some x)(hx:Loc X.env.scope x)(r:RelV v u)
  (h:∀s',Inv X j' (σ.set i (some v)) H s'->Q () s') (hf:X.fn x=true\/X.env.scope.names.lookup x=some .local:=by first|exact .inl rfl|exact .inr rfl|assumption):wpAny M A (storeName X.env x u) Q E s:=
 Kg I hN hi hx r (λs' I' _=>h s' I') hf
def Inv.call'{s':Shared}(I:Inv X j' σ H s)(ho:s'.os=s.os)(u:Un (frs X.stack) ch H H' s.heap s'.heap)(hok:HOk X.prog X.w H' s'.heap)(hg:AllBare s'.gens)
  (qp:∀b∈ch,(b∈X.ex\/X.s₀.heap.objs.size<=b)/\b≠X.env.locals/\(∀x c,X.env.cells.lookup x=some c->c≠b)/\∀p∈X.pn++j',p.1≠b):Inv X j' σ H' s':=by
 obtain⟨h',g',d',t',o'⟩:=s';have e:o'=s.os:=ho;subst e;exact I.call (g':=g') (t':=t') (d':=d') u hok hg qp
end
abbrev XK:=Value->Option Addr->Hp->Prop
abbrev St:=List (Option V)
abbrev VK:=V->Hp->Prop
abbrev TE:=St->Hp->VK->Prop
abbrev TT:=St->Hp->(Bool->Hp->Prop)->Prop
abbrev TA:=St->Hp->(List V->Hp->Prop)->Prop
structure Ends where
 nx:St->Hp->Prop
 rt:VK
 bk:St->Hp->Prop:=λ_ _=>False
 ct:St->Hp->Prop:=λ_ _=>False
abbrev TS:=Ends->St->Hp->Prop
def EP(X:Cx)(j':List (j:))(σ:St)(Q:VK)(u:Value)(s':Shared):Prop:=∃v H',Inv X j' σ H' s'/\RelV v u/\Q v H'
def TP(X:Cx)(j':List (j:))(σ:St)(Q:Bool->Hp->Prop)(b:Bool)(s':Shared):Prop:=∃H',Inv X j' σ H' s'/\Q b H'
def AP(X:Cx)(j':List (j:))(σ:St)(Q:List V->Hp->Prop)(us:List Value)(s':Shared):Prop:=∃vs H',Inv X j' σ H' s'/\Vals vs us/\Q vs H'
def SP(X:Cx)(j':List (j:))(D:Ends)(f:Flow)(s':Shared):Prop:=
 match f with
 | .next=>∃σ' H',Inv X j' σ' H' s'/\D.nx σ' H'
 | .brk=>∃σ' H',Inv X j' σ' H' s'/\D.bk σ' H'
 | .cont=>∃σ' H',Inv X j' σ' H' s'/\D.ct σ' H'
 | .ret u=>∃v σ' H',Inv X j' σ' H' s'/\RelV v u/\D.rt v H'
def PE(X:Cx)(e:Expr)(t:TE):Prop:=
 ∀(j':List (j:))(s:Shared)(σ:St)(H:Hp)(Q:VK),Inv X j' σ H s->t σ H Q->wpAny (c:) X.A (eval e X.env) (a2:) X.xe s
def PT(X:Cx)(e:Expr)(t:TT):Prop:=
 ∀(j':List (j:))(s:Shared)(σ:St)(H:Hp)(Q:Bool->Hp->Prop),Inv X j' σ H s->t σ H Q->wpAny (c:) X.A (isTrue e X.env (eval e X.env)) (TP X j' σ Q) X.xe s
def PW(X:Cx)(e:Expr)(t:TT):Prop:=
 ∀(pq:Sem Value)(j':List (j:))(s:Shared)(σ:St)(H:Hp)(Q:Bool->Hp->Prop),Inv X j' σ H s->t σ H Q->wpAny (c:) X.A (isTrue e X.env pq) (TP X j' σ Q) X.xe s
def PW.pt{X:Cx}{e:Expr}{t:TT}(h:PW X e t):PT X e t:=h _
def PA(X:Cx)(es:List Expr)(t:TA):Prop:=
 ∀(pos:Pos)(j':List (j:))(s:Shared)(σ:St)(H:Hp)(Q:List V->Hp->Prop),Inv X j' σ H s->t σ H Q->wpAny (c:) X.A (spliced (w:)) (AP X j' σ Q) X.xe s
def PS(X:Cx)(st:Stmt)(t:TS):Prop:=
 ∀(j':List (j:))(s:Shared)(σ:St)(H:Hp)(D:Ends),Inv X j' σ H s->t D σ H->wpAny (c:) X.A (exec st X.env) (SP X j' D) X.xe s
def PSs(X:Cx)(st:List Stmt)(t:TS):Prop:=
 ∀(j':List (j:))(s:Shared)(σ:St)(H:Hp)(D:Ends),Inv X j' σ H s->t D σ H->wpAny (c:) X.A (execs st X.env) (SP X j' D) X.xe s
def thn{α:Type}{t:Sem α}{Q Q':α->Shared->Prop}{M:Model}{A:Around}{E:Value->Shared->Prop}{s:Shared}(h:wpAny M A t Q E s)(hQ:∀a s,Q a s->Q' a s):wpAny M A t Q' E s:=wpAny_mono h hQ λ_ _ x=>x
section
variable{X:Cx}
def MVar(o:Option (Option V))(H:Hp)(Q:VK):Prop:=match o with|some (some v)=>Q v H|_=>False
def MVar.ex{o:Option (Option V)}{H:Hp}{Q:VK}(h:MVar o H Q):∃v,o=some (some v)/\Q v H:=match o,h with|some (some v),h=>⟨v,rfl,h⟩
def MVar.of{o:Option (Option V)}{H:Hp}{Q:VK}{v:V}(e:o=some (some v))(h:Q v H):MVar o H Q:=by subst e;exact h
def tVar(i:Nat):TE:=λσ H Q=>MVar σ[i]? H Q
def tC(v:V):TE:=λ_ H Q=>Q v H
def Zl4(hN:X.N[i]?=some x)(hv:Vis X.env.scope x)(hd:(J:)=false:=by decide)(oo:(x==("__classdict__":Str))=false:=by decide):PE X (.Name x pos) (tVar i):=by
 intro j' s σ H Q I h;obtain⟨v,e,h⟩:=h.ex;obtain⟨m,hn,hl⟩:=I.loc;obtain⟨u,r,l⟩:=hl i x v hN e hv;have m9:EP X j' σ Q u s:=⟨v,H,I,r,h⟩
 rcases l with ⟨hk,hm⟩|⟨hk,c,hc,hcell⟩
 ·exact wpAny_Name (wpAny_loadName_local I.ok.kind hk hn hm m9) hd
 ·rcases hk with hk|hk
  ·exact wpAny_Name (wpAny_loadName_cell I.ok.kind hk hc hcell m9) hd
  ·exact wpAny_Name (wpAny_loadName_free I.ok.kind hk hc hcell m9 oo) hd
def Zd{i j pos}:PE X (.Constant (.int i) j pos) (tC (.int i)):=λ_ _ _ H _ I h=>wpAny_Constant_int ⟨.int i,H,I.tok _,⟨_,rfl⟩,h⟩
def Wh{b j pos}:PE X (.Constant (.bool b) j pos) (tC (.bl b)):=λ_ _ _ H _ I h=>Constant_bool ⟨.bl b,H,I,rfl,h⟩
def U0{j pos}:PE X (.Constant .none j pos) (tC .non):=λ_ _ _ H _ I h=>Constant_none ⟨.non,H,I,rfl,h⟩
def Zk{x j pos}:PE X (.Constant (.str x) j pos) (tC (.str x)):=λ_ _ _ H _ I h=>Calls.Constant_str ⟨.str x,H,I.tok _,⟨_,rfl⟩,h⟩
def Gl(X:Cx)(x:Str):Prop:=X.env.kindOf x=some .globalImplicit
def Jf(I:Inv X j' σ H s)(hg:Gl X x)(hm:X.mg x=some u)(h:Q u s)
  (hd:(J:)=false:=by decide):wpAny (c:) X.A (eval (.Name x pos) X.env) Q E s:=
 Calls.Name_function_global I.ok.kind hg (Calls.loadGlobal_global (by rw[I.ok.glob];exact I.mod.glob.keeps I.bk) hm h) hd
def Ja{E:Value->Shared->Prop}{j':List (j:)}{s:Shared}{σ:St}{H:Hp}{x:Str}{u:Value}{pos:Pos}{Q:Value->Shared->Prop}(I:Inv X j' σ H s)(hg:Gl X x)(hm:X.mg x=none)(hv:bootBuiltins x=some u)(h:Q u s)
  (hn:x≠"__name__":=by decide) (hd:(J:)=false:=by decide):wpAny (c:) X.A (eval (.Name x pos) X.env) Q E s:=by
 obtain⟨mb,h1,h2⟩:=I.mod.blt;exact Calls.Name_function_global I.ok.kind hg (Calls.loadGlobal_builtin (by rw[I.ok.glob];exact I.mod.glob.keeps I.bk) hm (by rw[I.ok.blt];exact h1.keeps I.bk) ((h2 x hn).trans hv) h) hd
def Y7(hg:Gl X x)(hm:X.mg x=some u)(r:RelV v u)(hd:(J:)=false:=by decide):PE X (.Name x pos) (tC v):=
 λ_ _ _ H _ I h=>Jf I hg hm ⟨v,H,I,r,h⟩ hd
def U1(hg:Gl X x)(hm:X.mg x=none)(hv:bootBuiltins x=some u)(r:RelV v u)(hn:x≠"__name__":=by decide)(hd:(J:)=false:=by decide):PE X (.Name x pos) (tC v):=
 λ_ _ _ H _ I h=>Ja I hg hm hv ⟨v,H,I,r,h⟩ hn hd
variable{a b:Expr}{ta tb:TE}{pos:Pos}
def PC(X:Cx)(op:CmpOp)(a b:Expr)(t:TE):Prop:=
 ∀(j':List (j:))(s:Shared)(σ:St)(H:Hp)(Q:VK),Inv X j' σ H s->t σ H Q ->
  wpAny (c:) X.A (eval a X.env) (λv s₁=>wpAny (c:) X.A (eval b X.env) (λu s₂=>wpAny (c:) X.A (compareOp op v u) (a2:) X.xe s₂) X.xe s₁) X.xe s
def MB(Q:Bool->Hp->Prop)(x:V)(H:Hp):Prop:=match x with| .bl c=>Q c H|_=>False
def MB.ex{Q:Bool->Hp->Prop}{x:V}{H:Hp}(h:MB Q x H):∃c,x=.bl c/\Q c H:=match x,h with| .bl c,h=>⟨c,rfl,h⟩
def tB(t:TE):TT:=λσ H Q=>t σ H (MB Q)
def Zs1{op:CmpOp}{t:TE}(h:PC X op a b t)(h1:behindInMarks op b=false:=by first|exact nobehind _ (d:) (d:)|rfl):PE X (.Compare a [op] [b] pos) t:=λj' s σ H Q I hw=>wpAny_Compare1 (h j' s σ H Q I hw) h1
def Uy{op:CmpOp}{t:TE}(h:PC X op a b t)(h1:behindInMarks op b=false:=by first|exact nobehind _ (d:) (d:)|rfl):PT X (.Compare a [op] [b] pos) (tB t):=by
 intro j' s σ H Q I hw;refine wpAny_isTrue_Compare1 (thn (h j' s σ H _ I hw) λv s1 h1=>thn h1 λu s2 h2=>thn h2 λc s3 zz0=>?_) h1;obtain⟨x,H1,I1,r1,q1⟩:=zz0;obtain⟨d,rfl,q⟩:=MB.ex q1;cases r1;exact wpAny_truthy_bool ⟨H1,I1,q⟩
def Xn{e:Expr}{t:TE}(h:PE X e t)(he:∀pq,isTrue e X.env pq=(do let v<-pq;standAt e.pos;holding [v] (truthy v)):=by intro _;rfl):PT X e (tB t):=by
 intro j' s σ H Q I hw;refine isTrue_plain (thn (h j' s σ H _ I hw) λv s1 zz1=>?_) (he _);obtain⟨x,H1,I1,r1,q1⟩:=zz1;obtain⟨d,rfl,q⟩:=MB.ex q1;cases r1;exact wpAny_truthy_bool ⟨H1,I1,q⟩
variable{tA tB':TT}{l8:List Expr}
def kAnd(u:TT)(σ:St)(Q:Bool->Hp->Prop)(c:Bool)(H:Hp):Prop:=if c=true then u σ H Q else Q false H
def tAnd(t u:TT):TT:=λσ H Q=>t σ H (kAnd u σ Q)
def kOr(u:TT)(σ:St)(Q:Bool->Hp->Prop)(c:Bool)(H:Hp):Prop:=if c=true then Q true H else u σ H Q
def tOr(t u:TT):TT:=λσ H Q=>t σ H (kOr u σ Q)
def kNot(Q:Bool->Hp->Prop)(c:Bool)(H:Hp):Prop:=Q (!c) H
def tNot(t:TT):TT:=λσ H Q=>t σ H (kNot Q)
def Vi(ha:PT X a tA):PW X (.BoolOp .And [a] pos) tA:=by
 intro wh j' s σ H Q I h;refine isTrue_and (thn (ha j' s σ H Q I h) λc s1 e=>?_)
 cases c with
 |true=>exact isTrue_and_nil e
 |false=>exact e
def Wj(ha:PT X a tA):PW X (.BoolOp .Or [a] pos) tA:=by
 intro wh j' s σ H Q I h;refine isTrue_or (thn (ha j' s σ H Q I h) λc s1 e=>?_)
 cases c with
 |false=>exact isTrue_or_nil e
 |true=>exact e
def Ux(ha:PT X a tA)(hb:PW X (.BoolOp .And (b::l8) pos) tB'):PW X (.BoolOp .And (a::b::l8) pos) (tAnd tA tB'):=by
 intro wh j' s σ H Q I h;refine isTrue_and (thn (bm:) λc s1 me=>?_);obtain⟨H1,I1,q1⟩:=me
 cases c with
 |true=>exact hb wh j' s1 σ H1 Q I1 q1
 |false=>exact⟨H1,I1,q1⟩
def Je(ha:PT X a tA)(hb:PW X (.BoolOp .Or (b::l8) pos) tB'):PW X (.BoolOp .Or (a::b::l8) pos) (tOr tA tB'):=by
 intro wh j' s σ H Q I h;refine isTrue_or (thn (bm:) λc s1 me=>?_);obtain⟨H1,I1,q1⟩:=me
 cases c with
 |true=>exact⟨H1,I1,q1⟩
 |false=>exact hb wh j' s1 σ H1 Q I1 q1
def Xi(ha:PT X a tA):PT X (.UnaryOp .Not a pos) (tNot tA):=by
 intro j' s σ H Q I h;exact isTrue_not (ha j' s σ H (λc H1=>Q (!c) H1) I h)
def Zud(ta tb:TE):TE:=λσ H Q=>ta σ H λx H1=>∃c,x=.bl c/\if c=true then tb σ H1 Q else Q (.bl false) H1
def tOrV(ta tb:TE):TE:=λσ H Q=>ta σ H λx H1=>∃c,x=.bl c/\if c=true then Q (.bl true) H1 else tb σ H1 Q
def Zt4(ta:TE):TE:=λσ H Q=>ta σ H λx H1=>∃c,x=.bl c/\Q (.bl (!c)) H1
def Vx{op}{t:TE}(h:PE X a t):PE X (.BoolOp op [a] pos) t:=λj' s σ H Q I hw=>BoolOp_one (h j' s σ H Q I hw)
def Vz(ha:PE X a ta)(hb:PE X (.BoolOp .And (b::l8) pos) tb):PE X (.BoolOp .And (a::b::l8) pos) (Zud ta tb):=by
 intro j' s σ H Q I h;refine BoolOp_and (thn (bm:) λv s1 me=>?_);obtain⟨x,H1,I1,r1,q1⟩:=me;obtain⟨c,rfl,q1⟩:=q1;cases r1;refine wpAny_truthy_bool ?_
 cases c with
 |true=>exact hb j' s1 σ H1 Q I1 q1
 |false=>exact⟨.bl false,H1,I1,Y,q1⟩
def Zun(ha:PE X a ta)(hb:PE X (.BoolOp .Or (b::l8) pos) tb):PE X (.BoolOp .Or (a::b::l8) pos) (tOrV ta tb):=by
 intro j' s σ H Q I h;refine BoolOp_or (thn (bm:) λv s1 me=>?_);obtain⟨x,H1,I1,r1,q1⟩:=me;obtain⟨c,rfl,q1⟩:=q1;cases r1;refine wpAny_truthy_bool ?_
 cases c with
 |false=>exact hb j' s1 σ H1 Q I1 q1
 |true=>exact⟨.bl true,H1,I1,Y,q1⟩
def Zl5(ha:PE X a ta):PE X (.UnaryOp .Not a pos) (Zt4 ta):=by
 intro j' s σ H Q I h;refine UnaryOp_ (thn (bm:) λv s1 me=>?_);obtain⟨x,H1,I1,r1,q1⟩:=me;obtain⟨c,rfl,q1⟩:=q1;cases r1;exact not_of (wpAny_truthy_bool ⟨.bl (!c),H1,I1,Y,q1⟩)
def tIf(t:TT)(ta tb:TE):TE:=λσ H Q=>t σ H λc H1=>if c=true then ta σ H1 Q else tb σ H1 Q
def Zad{c:Expr}(hc:PT X c tA)(ha:PE X a ta)(hb:PE X b tb):PE X (.IfExp c a b pos) (tIf tA ta tb):=by
 intro j' s σ H Q I h;refine wpAny_IfExp (thn (hc j' s σ H _ I h) λd s1 me=>?_);obtain⟨H1,I1,q1⟩:=me
 cases d with
 |true=>exact ha j' s1 σ H1 Q I1 q1
 |false=>exact hb j' s1 σ H1 Q I1 q1
end
def SqL(K:W.Frag)(H:Hp)(a:Addr)(xs:List V):Prop:=
 Rd H a (.lst xs)\/
  ∃(o:Obj)(its:Array Value)(n:Nat),K.lookup a=some o/\o.cls=.type "list"/\o.dict=none/\o.data=.seq its n/\its.size<=sizeLine/\Vals xs its.toList
def SqT(K:W.Frag)(H:Hp)(a:Addr)(xs:List V):Prop:=
 Rd H a (.tup xs)\/
  ∃(o:Obj)(its:Array Value)(n:Nat),K.lookup a=some o/\o.cls=.type "tuple"/\o.data=.seq its n/\its.size<=sizeLine/\Vals xs its.toList
noncomputable def absV:Value->Option V
 | .none=>some .non
 | .bool b=>some (.bl b)
 | .int i _=>some (.int i)
 | .str x _=>some (.str x)
 | .bytes b _=>some (.byt b)
 | .float b _=>some (.flt b)
 | .ref a=>some (.ref a)
 | .type n=>some (.ty n)
 |_=>none
def RelV.abs(r:RelV x u):absV u=some x:=by
 cases x with
 |non=>cases r;rfl
 |bl _=>cases r;rfl
 |int _=>obtain⟨t,rfl⟩:=r;rfl
 |str _=>obtain⟨t,rfl⟩:=r;rfl
 |byt _=>obtain⟨t,rfl⟩:=r;rfl
 |flt _=>obtain⟨t,rfl⟩:=r;rfl
 |ref _=>cases r;rfl
 |ty _=>cases r;rfl
def RelV.inj(r:RelV x u)(q:RelV y u):x=y:=Ax (r.abs.symm.trans q.abs)
theorem Vals.inj:∀{xs ys:List V}{us:List Value},Vals xs us->Vals ys us->xs=ys
 |_,_,_,.nil,.nil=>rfl
 |_,_,_,.cons r t,.cons r' t'=>by rw[r.inj r',Vals.inj t t']
section
variable{X:Cx}{j':List (j:)}{σ:St}{H:Hp}{s:Shared}{a:Addr}{xs ys:List V}
def SqL.of{K:W.Frag}(h:H a=some (.lst xs)):SqL K H a xs:=.inl (.inl h)
def SqT.of{K:W.Frag}(h:H a=some (.tup xs)):SqT K H a xs:=.inl (.inl h)
def Inv.list(I:Inv X j' σ H s)(h:SqL X.K H a xs):∃its:List Value,Vals xs its/\PlainL s.heap a its.toArray/\xs.length<=sizeLine:=by
 rcases h with h|⟨o,its,n,hk,hc,hd,hs,hz,r⟩
 ·obtain⟨z,its,n,r,e⟩:=h.ok I.hok
  exact⟨its,r,⟨_,n,e,Y,Y,Y⟩,z⟩
 ·refine⟨its.toList,r,⟨o,n,I.kIn a o hk,hc,hd,by simpa using hs⟩,?_⟩
  have e:=r.length;simp only[Array.length_toList]at e;lia
def Inv.tuple(I:Inv X j' σ H s)(h:SqT X.K H a xs):∃its:List Value,Vals xs its/\IsTup s.heap a its.toArray/\xs.length<=sizeLine:=by
 rcases h with h|⟨o,its,n,hk,hc,hs,hz,r⟩
 ·obtain⟨z,its,r,p⟩:=h.ok I.hok
  exact⟨its,r,p,z⟩
 ·refine⟨its.toList,r,⟨o,I.kIn a o hk,hc,n,by simpa using hs⟩,?_⟩
  have e:=r.length;simp only[Array.length_toList]at e;lia
def Inv.list_inj(I:Inv X j' σ H s)(h:SqL X.K H a xs)(h':SqL X.K H a ys):xs=ys:=by
 obtain⟨its,r,⟨o,n,e,_,_,d⟩,_⟩:=I.list h;obtain⟨its',r',⟨o',n',e',_,_,d'⟩,_⟩:=I.list h';rw[e]at e';cases e';rw[d]at d'
 injection d' with d1 _
 have:its=its':=by simpa using congrArg Array.toList d1
 subst this;exact r.inj r'
def Inv.tuple_inj(I:Inv X j' σ H s)(h:SqT X.K H a xs)(h':SqT X.K H a ys):xs=ys:=by
 obtain⟨its,r,⟨o,e,_,n,d⟩,_⟩:=I.tuple h;obtain⟨its',r',⟨o',e',_,n',d'⟩,_⟩:=I.tuple h';rw[e]at e';cases e';rw[d]at d'
 injection d' with d1 _
 have:its=its':=by simpa using congrArg Array.toList d1
 subst this;exact r.inj r'
end
abbrev Cx.wish(X:Cx)(E:Value->Shared->Prop):Cx:={X with xe:=E}
abbrev Cx.nox(X:Cx):Cx:=X.wish λ_ _=>False
def Cx.Ok.wish{X:Cx}(ok:X.Ok)(E:Value->Shared->Prop):(X.wish E).Ok:=
 ⟨ok.mod,ok.kind,ok.glob,ok.blt,ok.above,ok.inj,ok.has,ok.cab,ok.hd,ok.frames,ok.stk,ok.exf,ok.bs,ok.bsz,ok.noex,ok.exfs,ok.funs,ok.frf⟩
def Cx.Ok.unwish{X:Cx}(ok:(X.wish E).Ok):X.Ok:=
 ⟨ok.mod,ok.kind,ok.glob,ok.blt,ok.above,ok.inj,ok.has,ok.cab,ok.hd,ok.frames,ok.stk,ok.exf,ok.bs,ok.bsz,ok.noex,ok.exfs,ok.funs,ok.frf⟩
section
variable{X:Cx}{j':List (j:)}{σ:St}{H:Hp}{s:Shared}{E:Value->Shared->Prop}
def Inv.wish(I:Inv X j' σ H s)(E:Value->Shared->Prop):Inv (X.wish E) j' σ H s:=⟨I.ok.wish E,I.os,I.bare,I.base,I.loc,I.cell,I.free,I.freeC,I.pin,I.hok,I.len⟩
def Inv.unwish(I:Inv (X.wish E) j' σ H s):Inv X j' σ H s:=⟨I.ok.unwish,I.os,I.bare,I.base,I.loc,I.cell,I.free,I.freeC,I.pin,I.hok,I.len⟩
def SP.unwish(h:SP (X.wish E) j' D f s'):SP X j' D f s':=by
 cases f with
 |next=>obtain⟨σ',H',I,q⟩:=h;exact⟨σ',H',I.unwish,q⟩
 |brk=>obtain⟨σ',H',I,q⟩:=h;exact⟨σ',H',I.unwish,q⟩
 |cont=>obtain⟨σ',H',I,q⟩:=h;exact⟨σ',H',I.unwish,q⟩
 |ret u=>obtain⟨v,σ',H',I,r,q⟩:=h;exact⟨v,σ',H',I.unwish,r,q⟩
def PSs.nox{st:List Stmt}{t:TS}(h:PSs X.nox st t):PSs X st t:=λj' s σ H D I hw=>
 wpAny_mono (h j' s σ H D (I.wish _) hw) (λ_ _ q=>q.unwish) λ_ _ z=>False.elim z
end
section
variable{X:Cx}{st:Stmt}{l8:List Stmt}{t u:TS}{e:Expr}{te:TE}{pos:Pos}
def Gk:TS:=λD σ H=>D.nx σ H
def tSeq(t u:TS):TS:=λD σ H=>t {D with nx:=u D} σ H
def Zy:PSs X [] Gk:=λ_ _ σ H _ I h=>wpAny_execs_nil ⟨σ,H,I,h⟩
def Zg(h1:PS X st t)(h2:PSs X l8 u):PSs X (st::l8) (tSeq t u):=by
 intro j' s σ H D I h;refine wpAny_execs_cons (thn (h1 j' s σ H {D with nx:=u D} I h) λf s1 q=>?_)
 cases f with
 |next=>
  obtain⟨σ',H',I',q⟩:=q;exact h2 j' s1 σ' H' D I' q
 |ret v=>exact q
 |brk=>exact q
 |cont=>exact q
def Zh(h1:PS X st t):PSs X [st] t:=by
 intro j' s σ H D I h;refine wpAny_execs_cons (thn (h1 j' s σ H D I h) λf s1 q=>?_)
 cases f with
 |next=>exact wpAny_execs_nil q
 |ret v=>exact q
 |brk=>exact q
 |cont=>exact q
def Zsj:TS:=λD σ H=>D.bk σ H
def Zoo:PS X (.Break pos) Zsj:=λ_ _ σ H _ I h=>wpAny_Break ⟨σ,H,I,h⟩
def Inv.quiet{j':List (j:)}{σ:St}{H:Hp}{s:Shared}(I:Inv X j' σ H s):interactive X.env=false:=by simp[interactive,I.ok.kind]
def Zp3(σ:St)(N:St->Hp->Prop)(_:V)(H:Hp):Prop:=N σ H
def Zpw(te:TE):TS:=λD σ H=>te σ H (Zp3 σ D.nx)
def Xg(he:PE X e te)(hs:swapsWith e none pos.line X.env=pure false:=by rfl):PS X (.Expr e pos) (Zpw te):=by
 intro j' s σ H D I h;refine wpAny_Expr_any (thn (bz:) λv s1 zz2=>?_) I.quiet hs;obtain⟨x,H1,I1,r1,q1⟩:=zz2;exact⟨σ,H1,I1,q1⟩
def tRet(te:TE):TS:=λD σ H=>te σ H D.rt
def Zl(he:PE X e te):PS X (.Return (some e) pos) (tRet te):=by
 intro j' s σ H D I h;refine wpAny_Return_some (thn (bz:) λv s1 zz3=>?_);obtain⟨x,H1,I1,r1,q1⟩:=zz3;exact⟨x,σ,H1,I1,r1,q1⟩
def kIf(t u:TS)(D:Ends)(σ:St)(b:Bool)(H:Hp):Prop:=if b=true then t D σ H else u D σ H
def tIfS(c:TT)(t u:TS):TS:=λD σ H=>c σ H (kIf t u D σ)
def Z9{c:Expr}{a b:List Stmt}{tc:TT}(hc:PT X c tc)(ha:PSs X a t)(hb:PSs X b u):PS X (.If c a b pos) (tIfS tc t u):=by
 intro j' s σ H D I h;refine wpAny_If (thn (hc j' s σ H _ I h) λd s1 me=>?_);obtain⟨H1,I1,q1⟩:=me
 cases d with
 |true=>exact ha j' s1 σ H1 D I1 q1
 |false=>exact hb j' s1 σ H1 D I1 q1
def Zsb:TS:=λ_ _ _=>False
def Xo:PSs X sts Zsb:=λ_ _ _ _ _ _ h=>h.elim
end
abbrev TG:=V->St->Hp->(St->Hp->Prop)->Prop
abbrev TGs:=List V->St->Hp->(St->Hp->Prop)->Prop
def PG(X:Cx)(zk:Expr)(t:TG):Prop:=
 ∀(j':List (j:))(s:Shared)(σ:St)(H:Hp)(v:V)(u:Value)(Q:St->Hp->Prop),Inv X j' σ H s->RelV v u->t v σ H Q ->
  wpAny (c:) X.A (assign zk X.env u) (λ_ s'=>∃σ' H',Inv X j' σ' H' s'/\Q σ' H') X.xe s
def PGs(X:Cx)(ts:List Expr)(t:TGs):Prop:=
 ∀(j':List (j:))(s:Shared)(σ:St)(H:Hp)(vs:List V)(us:List Value)(Q:St->Hp->Prop),Inv X j' σ H s->Vals vs us->t vs σ H Q ->
  wpAny (c:) X.A (assignInOrder ((assignEach ts X.env).map (·.2)) us) (λ_ s'=>∃σ' H',Inv X j' σ' H' s'/\Q σ' H') X.xe s
abbrev TSet:=V->V->V->Hp->(Hp->Prop)->Prop
def PSet(X:Cx)(t:TSet):Prop:=
 ∀(j':List (j:))(s:Shared)(σ:St)(H:Hp)(o i v:V)(ov iv u:Value)(Q:Hp->Prop),Inv X j' σ H s->RelV o ov->RelV i iv->RelV v u->t o i v H Q ->
  wpAny (c:) X.A (setItem ov iv u) (λ_ s'=>∃H',Inv X j' σ H' s'/\Q H') X.xe s
abbrev TIp:=V->V->Hp->VK->Prop
def PIp(X:Cx)(op:Operator)(t:TIp):Prop:=
 ∀(j':List (j:))(s:Shared)(σ:St)(H:Hp)(x y:V)(v u:Value)(Q:VK),Inv X j' σ H s->RelV x v->RelV y u->t x y H Q ->
  wpAny (c:) X.A (inplaceOp op v u) (a2:) X.xe s
section
variable{X:Cx}{pos:Pos}
def Zv(i:Nat):TG:=λv σ H Q=>Q (σ.set i (some v)) H
def Zq8(hN:X.N.Nodup)(hi:X.N[i]?=some x)(hx:Loc X.env.scope x)(hf:X.fn x=true\/X.env.scope.names.lookup x=some .local:=by first|exact .inl rfl|exact .inr rfl|assumption):PG X (.Name x pos) (Zv i):=by
 intro j' s σ H v u Q I r h;exact wpAny_assign_Name (Js I hN hi hx r (λs' I'=>⟨_,H,I',h⟩) hf)
def gNil:TGs:=λvs σ H Q=>vs=[]/\Q σ H
def Zu0(t:TG)(u:TGs):TGs:=λvs σ H Q=>∃v r,vs=v::r/\t v σ H λσ' H'=>u r σ' H' Q
def Wk:PGs X [] gNil:=by
 intro j' s σ H vs us Q I r h;obtain⟨e,h⟩:=h;subst e;cases r;exact assignInOrder_nil ⟨σ,H,I,h⟩
def Yd{e:Expr}{es:List Expr}{t:TG}{u:TGs}(h1:PG X e t)(h2:PGs X es u)
  (hs:(assignEach (e::es) X.env).map (·.2)=assign e X.env::(assignEach es X.env).map (·.2):=by rfl):PGs X (e::es) (Zu0 t u):=by
 intro j' s σ H vs us Q I r h;obtain⟨v,vr,e1,h⟩:=h;subst e1
 cases r with
 |cons r rr=>
  rw[hs];refine assignInOrder_cons (thn (h1 j' s σ H _ _ _ I r h) λ_ s1 me=>?_);obtain⟨σ1,H1,I1,q1⟩:=me;exact h2 j' s1 σ1 H1 _ _ Q I1 rr q1
def gTup(K:W.Frag)(n:Nat)(t:TGs):TG:=λv σ H Q=>∃a xs,v=.ref a/\SqT K H a xs/\xs.length=n/\t xs σ H Q
def Qu(hc:X.calm=true)(h:PGs X es t)
  (hn:(assignEach es X.env).length=n:=by rfl) (ou:(assignEach es X.env).findIdx? (·.1)=none:=by rfl):PG X (.Tuple es k pos) (gTup X.K n t):=by
 intro j' s σ H v u Q I r hw;obtain⟨a,xs,e1,hq,hl,hw⟩:=hw;subst e1;cases r;obtain⟨its,rv,ht,hz⟩:=I.tuple hq;refine assign_Tuple_tuple (I.ok.hd hc) ht (by simp[hn,<-hl,rv.length]) ou λh' hx=>?_;have I1:Inv X j' σ H {s with heap:=h' }:=I.kept (t':=s.toks) λb o e=>hx b o (As (Ao e)) e;exact h j' _ σ H xs _ Q I1 (by simpa using rv) hw
def gSub(to ti:TE)(t:TSet):TG:=λv σ H Q=>to σ H λo H1=>ti σ H1 λi H2=>t o i v H2 λH3=>Q σ H3
def Zbg{o i:Expr}{to ti:TE}{t:TSet}(ho:PE X o to)(hi:PE X i ti)(hs:PSet X t)
  (ha:∀ v,assign (.Subscript o i pos) X.env v=(do
   let ov<-holding [v] (eval o X.env)
   let iv<-holding [v,ov] (eval i X.env)
   standAt pos
   holding [v,ov,iv] (setItem ov iv v)
   release [v,ov,iv] []):=by intro _;rfl):PG X (.Subscript o i pos) (gSub to ti t):=by
 intro j' s σ H v u Q I r h;rw[ha];refine Al (wpAny_holding (thn (ho j' s σ H _ I h) λov s1 me=>?_));obtain⟨x,H1,I1,r1,q1⟩:=me;refine Al (wpAny_holding (thn (hi j' s1 σ H1 _ I1 q1) λiv s2 me=>?_));obtain⟨y,H2,I2,r2,q2⟩:=me;refine Al (wpAny_standAt (Al (wpAny_holding (thn (hs j' s2 σ H2 x y v ov iv u _ I2 r1 r2 r q2) λ_ s3 me=>?_))));obtain⟨H3,I3,q3⟩:=me;exact wpAny_release ⟨σ,H3,I3,q3⟩
def kAsg(g:TG)(σ:St)(N:St->Hp->Prop)(x:V)(H:Hp):Prop:=g x σ H N
def tAsg(te:TE)(g:TG):TS:=λD σ H=>te σ H (kAsg g σ D.nx)
def Vw{tg e:Expr}{te:TE}{g:TG}(he:PE X e te)(hg:PG X tg g)(hs:swapsWithSole [tg] e pos.line X.env=pure false:=by rfl)(hw:swappedStores [tg] e X.env=pure none:=by rfl)
  (h1:(assignEach [tg] X.env).map (·.2)=[assign tg X.env]:=by rfl):PS X (.Assign [tg] e pos) (tAsg te g):=by
 intro j' s σ H D I h;refine wpAny_Assign_stores (thn (bz:) λv s1 zz4=>?_) hs hw;obtain⟨x,H1,I1,r1,q1⟩:=zz4;rw[h1];exact thn (hg j' s1 σ H1 x v _ I1 r1 q1) λ_ s2 q=>q
def Zst{i:Nat}{x:Str}{e:Expr}{te:TE}{nv:Pos}(hN:X.N.Nodup)(hi:X.N[i]?=some x)(hx:Loc X.env.scope x)(he:PE X e te)(hs:swapsWith e (some (.Name x nv)) pos.line X.env=pure false:=by rfl)(hf:X.fn x=true\/X.env.scope.names.lookup x=some .local:=by first|exact .inl rfl|exact .inr rfl|assumption):
  PS X (.Assign [.Name x nv] e pos) (tAsg te (Zv i)):=by
 intro j' s σ H D I h;refine wpAny_Assign_Name (thn (bz:) λv s1 zz5=>?_) hs;obtain⟨y,H1,I1,r1,q1⟩:=zz5;exact Js I1 hN hi hx r1 (λs2 I2=>⟨_,H1,I2,q1⟩) hf
def tPar(i j:Nat)(ta:TA):TS:=λD σ H=>ta σ H λvs H1=>∃v w,vs=[v,w]/\D.nx ((σ.set i (some v)).set j (some w)) H1
def Zlx{i j:Nat}{x y:Str}{a b:Expr}{ta:TA}{px py pt:Pos}{kt k2 pt2}(hc:X.calm=true)(hN:X.N.Nodup)(hi:X.N[i]?=some x)(hj:X.N[j]?=some y)(hij:i≠j)
  (hx:X.env.scope.names.lookup x=some .local) (hy:X.env.scope.names.lookup y=some .local) (ha:PA X [a,b] ta)
  (hw:swappedStores [.Tuple [.Name x px,.Name y py] kt pt] (.Tuple [a,b] k2 pt2) X.env=pure (some [x,y]))
  (hs:swapsWithSole [.Tuple [.Name x px,.Name y py] kt pt] (.Tuple [a,b] k2 pt2) pos.line X.env=pure false:=by rfl):
  PS X (.Assign [.Tuple [.Name x px,.Name y py] kt pt] (.Tuple [a,b] k2 pt2) pos) (tPar i j ta):=by
 intro j' s σ H D I h;rw[exec_Assign_arm];refine Al (wpAny_standAt ?_);rw[hs];refine Al (as:);rw[if_neg (d:)];refine Al (Tuple_ (thn (ha _ j' s σ H _ I h) λus s1 me=>?_));obtain⟨vs,H1,I1,r1,q1⟩:=me;obtain⟨v,w,e1,q1⟩:=q1;subst e1
 obtain⟨u1,u2,rfl,rv,qr⟩:∃u1 u2,us=[u1,u2]/\RelV v u1/\RelV w u2:=by
  cases r1 with
  |cons p q=>
   cases q with
   |cons p' q'=>
    cases q';exact⟨_,_,Y,p,p'⟩
 refine wpAny_newObj_type ?_ (by show 2<=sizeLine;decide);have I2:Inv X j' σ H1 {s1 with heap:=s1.heap.push {cls:=.type "tuple",data:=.seq [u1,u2].toArray} }:=I1.kept (t':=s1.toks) λb o e=>Ak _ e;rw[hw];refine Al (as:);show wpAny (c:) X.A (do rule "assign.swapped-stores";let items<-unpackItems (.ref s1.heap.objs.size) 2 none;assignInOrder [λv=>bindName X.env y v,λv=>bindName X.env x v] items.reverse;pure Flow.next) _ _ _;refine Al (wpAny_rule (Al (unpackItems_tuple (items:=#[u1,u2]) (I.ok.hd hc) (IsTup.new s1.heap _) λh' p4=>?_)));have I3:=I2.kept (h':=h') (t':=s1.toks) λb o e=>p4 b o (As (Ao e)) e;show wpAny _ _ (assignInOrder [λv=>bindName X.env y v,λv=>bindName X.env x v] [u2,u1]>>=λ_=>pure Flow.next) _ _ _;refine Al (assignInOrder_cons (wpAny_bindName (Js I3 hN hj (.inl hy) qr (λs2 I4=>?_) (.inr hy))));refine assignInOrder_cons (wpAny_bindName (Js I4 hN hi (.inl hx) rv (λs3 I5=>assignInOrder_nil (as:)) (.inr hx)));rw[set_comm _ _ (Ne.symm hij)]at I5;exact⟨_,H1,I5,q1⟩
def tAug(i:Nat)(te:TE)(ti:TIp):TS:=λD σ H=>∃x,σ[i]?=some (some x)/\te σ H λy H1=>ti x y H1 λz H2=>D.nx (σ.set i (some z)) H2
def Zly{i:Nat}{x:Str}{e:Expr}{te:TE}{op:Operator}{ti:TIp}{nv:Pos}(hN:X.N.Nodup)(hi:X.N[i]?=some x)(hx:Loc X.env.scope x)(he:PE X e te)(ho:PIp X op ti)(hf:X.fn x=true\/X.env.scope.names.lookup x=some .local:=by first|exact .inl rfl|exact .inr rfl|assumption):
  PS X (.AugAssign (.Name x nv) op e pos) (tAug i te ti):=by
 intro j' s σ H D I h;obtain⟨v,e1,h⟩:=h;obtain⟨m,hn,hl⟩:=I.loc
 have vis:Vis X.env.scope x:=by rcases hx with k|k;exact .inl k;exact .inr (.inl k)
 obtain⟨u,r,l⟩:=hl i x v hi e1 vis;refine wpAny_AugAssign_Name ?_;have go:wpAny (c:) X.A (eval e X.env) (λw s₂=>wpAny (c:) X.A (inplaceOp op u w) (λr s₃=>wpAny (c:) X.A (storeName X.env x r) (λ_=>SP X j' D .next) X.xe s₃) X.xe s₂) X.xe s:=by
  refine thn (bz:) λw s1 me=>?_
  obtain⟨y,H1,I1,r1,q1⟩:=me
  refine thn (ho j' s1 σ H1 v y u w _ I1 r r1 q1) λz s2 me=>?_
  obtain⟨zv,H2,I2,r2,q2⟩:=me
  exact Js I2 hN hi hx r2 (λs3 I3=>⟨_,H2,I3,q2⟩) hf
 rcases l with ⟨hk,hm⟩|⟨hk,c,hc,hcell⟩
 ·exact wpAny_loadName_local I.ok.kind hk hn hm go
 ·rcases hk with hk|hk
  ·exact wpAny_loadName_cell I.ok.kind hk hc hcell go
  ·rcases hx with k|k
   ·have:X.env.scope.names.lookup x=some .free:=hk
    rw[k]at this;cases this
   ·have:X.env.scope.names.lookup x=some .free:=hk
    rw[k]at this;cases this
def Zub(to ti te:TE)(ww:V->V->Hp->VK->Prop)(tip:TIp)(wv:TSet):TS:=λD σ H=>to σ H λo H1=>ti σ H1 λi H2=>ww o i H2 λx H3=>te σ H3 λy H4=>tip x y H4 λz H5=>wv o i z H5 λH6=>D.nx σ H6
def PGet(X:Cx)(t:V->V->Hp->VK->Prop):Prop:=
 ∀(j':List (j:))(s:Shared)(σ:St)(H:Hp)(o i:V)(ov iv:Value)(Q:VK),Inv X j' σ H s->RelV o ov->RelV i iv->t o i H Q ->
  wpAny (c:) X.A (getItem ov iv) (a2:) X.xe s
def Ziz{o i e:Expr}{to ti te:TE}{ww:V->V->Hp->VK->Prop}{tip:TIp}{wv:TSet}{op:Operator}{qh:Pos}(ho:PE X o to)(hi:PE X i ti)(hg:PGet X ww)(he:PE X e te)(hp:PIp X op tip)(hs:PSet X wv)
  (ha:∀ov iv new,augStore i ov iv new=(do holding [new,ov,iv] (setItem ov iv new);release [new,ov,iv] [];pure .next):=by intros;rfl):PS X (.AugAssign (.Subscript o i qh) op e pos) (Zub to ti te ww tip wv):=by
 intro j' s σ H D I h;refine wpAny_AugAssign_SubscriptAny (thn (ho j' s σ H _ I h) λov s1 zz6=>?_) ha;obtain⟨x1,H1,I1,r1,q1⟩:=zz6;refine thn (hi j' s1 σ H1 _ I1 q1) λiv s2 me=>?_;obtain⟨x2,H2,I2,r2,q2⟩:=me;refine thn (hg j' s2 σ H2 x1 x2 ov iv _ I2 r1 r2 q2) λold s3 me=>?_;obtain⟨x3,H3,I3,r3,q3⟩:=me;refine thn (he j' s3 σ H3 _ I3 q3) λv s4 me=>?_;obtain⟨x4,H4,I4,r4,q4⟩:=me;refine thn (hp j' s4 σ H4 x3 x4 old v _ I4 r3 r4 q4) λnew s5 me=>?_;obtain⟨x5,H5,I5,r5,q5⟩:=me;refine thn (hs j' s5 σ H5 x1 x2 x5 ov iv new _ I5 r1 r2 r5 q5) λ_ s6 xv=>?_;obtain⟨H6,I6,q6⟩:=xv;exact⟨σ,H6,I6,q6⟩
def ipI(f:Int->Int->Int):TIp:=λx y H Q=>∃i j,x=.int i/\y=.int j/\Q (.int (f i j)) H
def Zg4:PIp X .Add (ipI λi j=>i+j):=by
 intro j' s σ H x y v u Q I r1 r2 h;obtain⟨i,j,e1,e2,q⟩:=h;subst e1;subst e2;obtain⟨t,rfl⟩:=r1;obtain⟨t',rfl⟩:=r2;exact iadd_int ⟨.int _,H,I.tok _,⟨_,Y⟩,q⟩
def Zat(c:TT)(tb:TS):TS:=λD σ H=>∃W:Nat->St->Hp->Prop,(∃m,W m σ H)/\∀m σ H,W m σ H ->
 c σ H λb H1=>if b=true then ∃N:St->Hp->Prop,(∀σ' H',N σ' H'->∃m',m'<m/\W m' σ' H')/\tb {D with nx:=N,ct:=N,bk:=D.nx} σ H1 else D.nx σ H1
def Ju{c:Expr}{body:List Stmt}{tc:TT}{tb:TS}(hp:PassesOwn (c:) X.A X.env X.xe)(hc:PT X c tc)(hb:PSs X body tb):PS X (.While c body [] pos) (Zat tc tb):=by
 intro j' s σ H D I h;obtain⟨W,⟨m0,w0⟩,qg⟩:=h;refine wpAny_While (codeAny_whileLoop (λn s'=>∃σ' H',Inv X j' σ' H' s'/\W n σ' H') ?_ m0 ⟨σ,H,I,w0⟩);rintro n s1 ⟨σ1,H1,I1,w1⟩;refine wpAny_passesOwn hp (thn (hc j' s1 σ1 H1 _ I1 (qg n σ1 H1 w1)) λb s2 me=>?_);obtain⟨H2,I2,q2⟩:=me
 cases b with
 |true=>
  obtain⟨N,hN,q2⟩:=q2;rw[if_pos rfl];refine wpAny_passesOwn hp (thn (hb j' s2 σ1 H2 _ I2 q2) λf s3 q3=>?_)
  cases f with
  |next=>
   obtain⟨σ3,H3,I3,n3⟩:=q3;obtain⟨m',hm,w3⟩:=hN σ3 H3 n3;exact⟨m',hm,σ3,H3,I3,w3⟩
  |cont=>
   obtain⟨σ3,H3,I3,n3⟩:=q3;obtain⟨m',hm,w3⟩:=hN σ3 H3 n3;exact⟨m',hm,σ3,H3,I3,w3⟩
  |brk=>exact q3
  |ret v=>exact q3
 |false=>
  rw[if_neg Bool.false_ne_true];exact wpAny_execs_nil ⟨σ1,H2,I2,q2⟩
end
structure It where
 go:Nat->Hp->Prop
 yld:Nat->Hp->V->Hp->Prop
 stop:Nat->Hp->Prop
def FpOk(X:Cx)(j':List (j:))(H:Hp)(b:Addr):Prop:=
 H b=none/\b≠X.env.locals/\b∉X.fs/\(b∈X.ex\/X.s₀.heap.objs.size<=b)/\(∀x c,X.env.cells.lookup x=some c->c≠b)/\∀p∈X.pn++j',p.1≠b
def Inv.fpOk{X:Cx}{j':List (j:)}{σ:St}{H H':Hp}{s:Shared}{b:Addr}(I:Inv X j' σ H s)(hb:s.heap.objs.size<=b)(hn:H' b=none):FpOk X j' H' b:=by
 refine⟨hn,Nat.ne_of_gt (Ag I.lt hb),I.nofs hb,.inr (Nat.le_trans I.sz hb),λx c e z=>?_,λp hp z=>?_⟩
 ·obtain⟨v,q⟩:=I.cell x c e
  exact absurd (Ag q.lt (by rw[z];exact hb)) (Nat.lt_irrefl _)
 ·exact absurd (Ag (Ao (I.pin p hp).1) (by rw[z];exact hb)) (Nat.lt_irrefl _)
structure Turn(P:Program)(w:World)(K:W.Frag)(tg:Expr)(J:It)(fp:List Addr)(it:Addr)(tn:Nat->Heap->Prop):Prop where
 mem:it∈fp
 obj:∀i h,tn i h->∀b∈fp,∃o,h.get? b=some o/\∀v,o.data≠.cell v
 keep:∀i h h',tn i h->(∀b∈fp,∀o,h.get? b=some o->h'.get? b=some o)->tn i h'
 item:∀(X:Cx),X.prog=P->X.w=w->X.K=K->X.calm=true->∀(i:Nat)(j':List (j:))(s:Shared)(σ:St)(H:Hp)(E:Value->Shared->Prop),Inv X j' σ H s->(∀b∈fp,FpOk X j' H b)->tn i s.heap->J.go i H ->
  wpAny (aa:) X.A (pyNext (.ref it)) (λr s1=>∃ u,r=some u /\
   wpAny (aa:) X.A (letOwnedTupleGo tg (.ref it) u) (λ_ s2=>∃x H',Inv X j' σ H' s2/\RelV x u/\J.yld i H x H'/\tn (i+1) s2.heap/\∀b∈fp,H' b=none) E s1) E s
 done:∀(X:Cx),X.prog=P->X.w=w->X.K=K->X.calm=true->∀(i:Nat)(j':List (j:))(s:Shared)(σ:St)(H:Hp)(E:Value->Shared->Prop),Inv X j' σ H s->(∀b∈fp,FpOk X j' H b)->tn i s.heap->J.stop i H ->
  wpAny (aa:) X.A (pyNext (.ref it)) (λr s1=>r=none/\Inv X j' σ H s1) E s
 self:∀(A:Around)(i:Nat)(s:Shared)(Q:Value->Shared->Prop)(E:Value->Shared->Prop),tn i s.heap->Q (.ref it) s->wpAny (aa:) A (pyIter (.ref it)) Q E s
abbrev TI:=St->Hp->(It->Hp->Prop)->Prop
def PIE(X:Cx)(j':List (j:))(σ:St)(tg:Expr)(R:It->Hp->Prop)(xi:Value)(s2:Shared):Prop:=
 ∃(it:Addr)(fp:List Addr)(tn:Nat->Heap->Prop)(J:It)(H':Hp),xi=.ref it/\Inv X j' σ H' s2/\Turn X.prog X.w X.K tg J fp it tn/\tn 0 s2.heap/\(∀b∈fp,FpOk X j' H' b)/\R J H'
def PI(X:Cx)(tg iter:Expr)(wi:TI):Prop:=
 ∀(j':List (j:))(s:Shared)(σ:St)(H:Hp)(R:It->Hp->Prop),Inv X j' σ H s->wi σ H R ->
  wpAny (c:) X.A (eval iter X.env) (λv s1=>wpAny (c:) X.A (pyIter v) (PIE X j' σ tg R) X.xe s1) X.xe s
def Ow{s:Shared}{o:Obj}(ho:s.heap.get? it=some o)(hc:o.cls=.type n)(hd:o.data=.fields vs)
    (hn:["enumerate","zip","dict_itemiterator","dict_reverseitemiterator","odict_iterator","itertools.zip_longest","itertools.pairwise"].contains n=false) (hQ:Q () s):wpAny M A (letOwnedTupleGo tg (.ref it) u) Q E s:=by
  unfold letOwnedTupleGo
  cases tg<;>first
    |exact wpAny_pure hQ
    | (cases u <;> first
        |exact wpAny_pure hQ
        | (refine Al (wpAny_load ho ?_)
           rw[hc,hd];show wpAny M A (if(["enumerate","zip","dict_itemiterator","dict_reverseitemiterator","odict_iterator","itertools.zip_longest","itertools.pairwise"].contains n&&vs[0]?==some (rawInt _))=true then _ else _) Q E s;rw[if_neg (by intro h;rw[hn,Bool.false_and]at h;cases h)]
           exact wpAny_pure hQ))
noncomputable def Itl(K:W.Frag)(a:Addr):It:=
 ⟨λi H=>∃xs x,SqL K H a xs/\xs[i]?=some x,λi H x H'=>H'=H/\∀xs,SqL K H a xs->xs[i]?=some x,λi H=>∃xs,SqL K H a xs/\xs.length<=i⟩
noncomputable def Itt(K:W.Frag)(a:Addr):It:=
 ⟨λi H=>∃xs x,SqT K H a xs/\xs[i]?=some x,λi H x H'=>H'=H/\∀xs,SqT K H a xs->xs[i]?=some x,λi H=>∃xs,SqT K H a xs/\xs.length<=i⟩
noncomputable def Itr(lo:Int)(n:Nat):It:=⟨λi _=>i<n,λi H x H'=>H'=H/\x=.int (lo+i),λi _=>n<=i⟩
def Zk6{P:Program}{w:World}{K:W.Frag}{tg:Expr}(a it:Addr):Turn P w K tg (Itl K a) [it] it (λi h=>h.IsListIter it a i) where
 mem:=by simp
 obj:=λi h st b hb=>by
  have e:b=it:=by simpa using hb
  subst e;obtain⟨o,e,c,d⟩:=st;exact(al:)
 keep:=λi h h' st k=>st.at λo e=>k it (by simp) o e
 item:=by
  intro X hP hw hK hc i j' s σ H E I hf st hg;subst hP hw hK;obtain⟨xs,x,hq,hx⟩:=hg;obtain⟨its,rv,p,hz⟩:=I.list hq;obtain⟨u,hu,ru⟩:=rv.get hx;obtain⟨f0,f1,f2,f3,f4,f5⟩:=hf it (by simp);refine wpAny_pyNext_list_item st p.isList (x:=u) (by simpa using hu) λh' o3 sb=>?_;have I1:Inv X j' σ H {s with heap:=h' }:=I.turned (t':=s.toks) (λb o hb e=>(sb.2 b hb).trans e) f0 f1 f3 f4 f5;obtain⟨o,e,c,d⟩:=id o3;exact⟨u,Y,Ow (s:={s with heap:=h' }) e c d (d:) ⟨x,H,I1,ru,⟨Y,λys hy=>by rw[I.list_inj hy hq];exact hx⟩,o3,λb hb=>(hf b hb).1⟩⟩
 done:=by
  intro X hP hw hK hc i j' s σ H E I hf st hg;subst hP hw hK;obtain⟨xs,hq,hx⟩:=hg;obtain⟨its,rv,p,hz⟩:=I.list hq;obtain⟨f0,f1,f2,f3,f4,f5⟩:=hf it (by simp);have hl:=rv.length;exact wpAny_pyNext_list_end (I.ok.hd hc) st p.isList (by simp;lia) λh' eb=>(B:)
 self:=λ_ _ _ _ _ st h=>wpAny_pyIter_listiter st h
def Zjj{P:Program}{w:World}{K:W.Frag}{tg:Expr}(a it:Addr):Turn P w K tg (Itt K a) [it] it (λi h=>h.IsTupleIter it a i) where
 mem:=by simp
 obj:=λi h st b hb=>by
  have e:b=it:=by simpa using hb
  subst e;obtain⟨o,e,c,d⟩:=st;exact(al:)
 keep:=λi h h' st k=>st.at λo e=>k it (by simp) o e
 item:=by
  intro X hP hw hK hc i j' s σ H E I hf st hg;subst hP hw hK;obtain⟨xs,x,hq,hx⟩:=hg;obtain⟨its,rv,p,hz⟩:=I.tuple hq;obtain⟨u,hu,ru⟩:=rv.get hx;obtain⟨f0,f1,f2,f3,f4,f5⟩:=hf it (by simp);refine wpAny_pyNext_tuple_item st (show s.heap.IsTuple a its.toArray from p) (x:=u) (by simpa using hu) λh' o3 sb=>?_;have I1:Inv X j' σ H {s with heap:=h' }:=I.turned (t':=s.toks) (λb o hb e=>(sb.2 b hb).trans e) f0 f1 f3 f4 f5;obtain⟨o,e,c,d⟩:=id o3;exact⟨u,Y,Ow (s:={s with heap:=h' }) e c d (d:) ⟨x,H,I1,ru,⟨Y,λys hy=>by rw[I.tuple_inj hy hq];exact hx⟩,o3,λb hb=>(hf b hb).1⟩⟩
 done:=by
  intro X hP hw hK hc i j' s σ H E I hf st hg;subst hP hw hK;obtain⟨xs,hq,hx⟩:=hg;obtain⟨its,rv,p,hz⟩:=I.tuple hq;obtain⟨f0,f1,f2,f3,f4,f5⟩:=hf it (by simp);have hl:=rv.length;exact wpAny_pyNext_tuple_end (I.ok.hd hc) st (show s.heap.IsTuple a its.toArray from p) (by simp;lia) λh' eb=>(B:)
 self:=λ_ _ _ _ _ st h=>wpAny_pyIter_tupleiter st h
def Zjk{P:Program}{w:World}{K:W.Frag}{tg:Expr}(it:Addr)(lo:Int)(n:Nat):Turn P w K tg (Itr lo n) [it] it (λi h=>IsRangeIter h it (lo+(i:Nat)*1) ((n:Int)-(i:Nat)) 1) where
 mem:=by simp
 obj:=λi h st b hb=>by
  have e:b=it:=by simpa using hb
  subst e;exact⟨_,st,λv z=>by
   have z':Data.fields _=Data.cell v:=z
   cases z'⟩
 keep:=λi h h' st k=>k it (by simp) _ st
 item:=by
  intro X hP hw hK hc i j' s σ H E I hf st hg;subst hP hw hK;obtain⟨f0,f1,f2,f3,f4,f5⟩:=hf it (by simp);have W:=Walks.range (prog:=X.prog) (w:=X.w) (I.ok.hd hc) it lo 1 n;refine W.item i s _ _ hg st λv h' tk hv o3 kk=>?_;obtain⟨t,rfl⟩:=hv;have I1:Inv X j' σ H {s with heap:=h',toks:=tk}:=I.turned (λb o hb e=>kk b o (by simpa using hb) e) f0 f1 f3 f4 f5;refine⟨_,Y,Ow (s:={s with heap:=h',toks:=tk}) (n:="range_iterator") o3 rfl rfl (d:) ⟨.int (lo+i),H,I1,⟨t,?_⟩,⟨rfl,rfl⟩,o3,λb hb=>(hf b hb).1⟩⟩;rw[Int.mul_one]
 done:=by
  intro X hP hw hK hc i j' s σ H E I hf st hg;subst hP hw hK;obtain⟨f0,f1,f2,f3,f4,f5⟩:=hf it (by simp);exact wpAny_pyNext_range_end (I.ok.hd hc) st (by have:n<=i:=hg;lia) λh' eb=>(B:)
 self:=λ_ _ _ _ _ st h=>wpAny_pyIter_rangeiter st h
section
variable{X:Cx}{tg:Expr}
def Zuw(K:W.Frag)(tl:TE):TI:=λσ H R=>tl σ H λx H1=>∃a,x=.ref a/\(∃xs,SqL K H1 a xs)/\R (Itl K a) H1
def iTup(K:W.Frag)(tl:TE):TI:=λσ H R=>tl σ H λx H1=>∃a,x=.ref a/\(∃xs,SqT K H1 a xs)/\R (Itt K a) H1
def Yk{l:Expr}{tl:TE}(hl:PE X l tl):PI X tg l (Zuw X.K tl):=by
 intro j' s σ H R I h;refine thn (hl j' s σ H _ I h) λv s1 me=>?_;obtain⟨x,H1,I1,r1,q1⟩:=me;obtain⟨a,e,⟨xs,hq⟩,q⟩:=q1;subst e;cases r1;obtain⟨its,rv,p,hz⟩:=I1.list hq;refine wpAny_pyIter_list p.isList ?_;refine⟨s1.heap.objs.size,[s1.heap.objs.size],_,_,H1,Y,I1.kept (t':=s1.toks) λb o e=>Ak _ e,Zk6 a _,⟨_,Ap _ Y,Y,Y⟩,λb hb=>?_,q⟩;have e:b=s1.heap.objs.size:=by simpa using hb
 subst e;exact I1.fpOk (An _) (I1.hok.fresh (An _))
def Zsy{l:Expr}{tl:TE}(hl:PE X l tl):PI X tg l (iTup X.K tl):=by
 intro j' s σ H R I h;refine thn (hl j' s σ H _ I h) λv s1 me=>?_;obtain⟨x,H1,I1,r1,q1⟩:=me;obtain⟨a,e,⟨xs,hq⟩,q⟩:=q1;subst e;cases r1;obtain⟨its,rv,p,hz⟩:=I1.tuple hq;refine wpAny_pyIter_tuple (show s1.heap.IsTuple a its.toArray from p) ?_;refine⟨s1.heap.objs.size,[s1.heap.objs.size],_,_,H1,Y,I1.kept (t':=s1.toks) λb o e=>Ak _ e,Zjj a _,⟨_,Ap _ Y,Y,Y⟩,λb hb=>?_,q⟩;have e:b=s1.heap.objs.size:=by simpa using hb
 subst e;exact I1.fpOk (An _) (I1.hok.fresh (An _))
def Zok{j':List (j:)}{σ:St}{H:Hp}{s:Shared}{R:It->Hp->Prop}{E:Value->Shared->Prop}{lo hi:Int}{t u v:Tok}{tk:Nat}(I:Inv X j' σ H s)(h1:-(2^62)<=lo)(h2:lo<2^62)(h3:-(2^62)<=hi)(h4:hi<2^62)
  (q:R (Itr lo (hi-lo).toNat) H):wpAny (c:) X.A (pyIter (C:)) (PIE X j' σ tg R) E {s with heap:=s.heap.push {cls:=.type "range",data:=.fields #[.int lo t,.int hi u,.int 1 v]},toks:=tk}:=by
 refine wpAny_pyIter_range (IsRange.new ..) (small_one h1 h2 h3 h4) ?_;have I1:Inv X j' σ H {s with heap:=s.heap.push {cls:=.type "range",data:=.fields #[.int lo t,.int hi u,.int 1 v]},toks:=tk}:=I.kept λb o e=>Ak _ e;refine⟨(s.heap.push {cls:=.type "range",data:=.fields #[.int lo t,.int hi u,.int 1 v]}).objs.size,[(s.heap.push {cls:=.type "range",data:=.fields #[.int lo t,.int hi u,.int 1 v]}).objs.size],_,_,H,rfl,
  I1.kept (t':=tk) λb o e=>Ak _ e,Zjk _ lo (hi-lo).toNat,?_,λb hb=>?_,q⟩
 ·have e1:lo+((0:Nat):Int)*1=lo:=by simp
  have e2:(((hi-lo).toNat:Nat):Int)-((0:Nat):Int)=Builtin.Range.rangeSize lo hi 1:=by rw[rangeSize_one];split<;>lia
  show IsRangeIter _ _ (lo+((0:Nat):Int)*1) ((((hi-lo).toNat:Nat):Int)-((0:Nat):Int)) 1;rw[e1,e2];exact Ap _ Y
 ·have e:b=(s.heap.push {cls:=.type "range",data:=.fields #[.int lo t,.int hi u,.int 1 v]}).objs.size:=by simpa using hb
  subst e;exact I1.fpOk (An _) (I1.hok.fresh (An _))
def Zuu(ta:TA):TI:=λσ H R=>ta σ H λvs H1=>∃j:Int,vs=[.int j]/\-(2^62)<=j/\j<2^62/\R (Itr 0 j.toNat) H1
def Ws{a:Expr}{ta:TA}{p pos:Pos}(hg:Gl X "range")(hm:X.mg "range"=none)(ha:PA X [a] ta)(hs:starEach [a] X.env=[(false,eval a X.env)]:=by rfl):PI X tg (.Call (.Name "range" p) [a] [] pos) (Zuu ta):=by
 intro j' s σ H R I h;refine Call_ (Ja I hg hm boot_range (PyProof.Rows.callWith_type1 (thn (ha pos j' s σ H _ I h) λus s1 zz8=>?_) hs Y));obtain⟨vs,H1,I1,r1,q1⟩:=zz8;obtain⟨j,e,q1,q2,q⟩:=q1;subst e
 cases r1 with
 |cons r rr=>
  cases rr;obtain⟨t,rfl⟩:=r;exact call_range_1 (Zok I1 (by lia) (by lia) q1 q2 (by simpa using q))
def kFor(g:TG)(tb:TS)(D:Ends)(σ:St)(J:It)(H1:Hp):Prop:=∃W:Nat->Nat->St->Hp->Prop,(∃m,W 0 m σ H1)/\∀i m σ H,W i m σ H ->
 (J.stop i H/\D.nx σ H)\/(J.go i H/\∃N:St->Hp->Prop,(p:)/\∀x H',J.yld i H x H'->g x σ H' λσ2 H2=>tb {D with nx:=N,ct:=N,bk:=D.nx} σ2 H2)
def tFor(wi:TI)(g:TG)(tb:TS):TS:=λD σ H=>wi σ H (kFor g tb D σ)
noncomputable def Qt(fp:List Addr)(h:Heap):List (j:):=fp.filterMap λb=>(h.get? b).map λo=>(b,o)
def Xw{fp:List Addr}{h:Heap}{b:Addr}{o:Obj}(hb:b∈fp)(e:h.get? b=some o):(b,o)∈Qt fp h:=mem_filterMap.mpr ⟨b,hb,by rw[e];rfl⟩
def Zmm{h:Heap}{p:Addr×Obj}(hp:p∈Qt fp h):p.1∈fp/\h.get? p.1=some p.2:=by
 obtain⟨b,hb,e⟩:=mem_filterMap.mp hp
 cases q:h.get? b with
 |none=>rw[q]at e;cases e
 |some o=>
  rw[q]at e;have e':(b,o)=p:=Ax e;subst e';exact⟨hb,q⟩
def Inv.pinned{j':List (j:)}{σ:St}{H:Hp}{s:Shared}{fp:List Addr}(I:Inv X j' σ H s)(hf:∀b∈fp,FpOk X j' H b)(ho:∀b∈fp,∃o,s.heap.get? b=some o/\∀v,o.data≠.cell v):Inv X (j'++Qt fp s.heap) σ H s:=
 I.pins_of λp hp=>(mem_append.mp hp).elim (λz=>I.pin p (mem_append_right _ z)) λz=>by
  obtain⟨hb,e⟩:=Zmm z;obtain⟨f0,f1,f2,_⟩:=hf p.1 hb;obtain⟨o,e',d⟩:=ho p.1 hb;rw[e]at e';cases e';exact⟨e,f0,f1,f2,d⟩
def Inv.unpinned{j' pl:List (j:)}{σ:St}{H:Hp}{s:Shared}(I:Inv X (j'++pl) σ H s):Inv X j' σ H s:=I.pins_of λp hp=>I.pin p (mem_append_right _ (mem_append_left _ hp))
def W9{iter:Expr}{body:List Stmt}{wi:TI}{g:TG}{tb:TS}{pos:Pos}(hp:PassesOwn (c:) X.A X.env X.xe)(hc:X.calm=true)(hi:PI X tg iter wi)(hg:PG X tg g)(hb:PSs X body tb)
  (hs:∀x,foldedSetIterable iter X.env x=pure x:=by intro _;rfl):PS X (.For tg iter body [] pos) (tFor wi g tb):=by
 intro j' s σ H D I h;refine wpAny_For (thn (hi j' s σ H _ I h) λv s1 h1=>thn h1 λxi s2 h2=>?_) hs;obtain⟨it,fp,tn,J,H2,e,I2,T,n6,f2,W,⟨m0,w0⟩,qg⟩:=h2;subst e;have ow:∀{H':Hp},(bg:)->∀b∈fp,FpOk X j' H' b:=λhn b hb=>⟨hn b hb,(f2 b hb).2⟩;refine codeAny_forLoop_any (λn s'=>∃i σ' H',Inv X j' σ' H' s'/\tn i s'.heap/\(bg:)/\W i n σ' H') ?_ m0 ⟨0,σ,H2,I2,n6,λb hb=>(f2 b hb).1,w0⟩;rintro n s3 ⟨i,σ3,H3,I3,o4,ut,w3⟩
 rcases qg i n σ3 H3 w3 with ⟨stop,qn⟩|⟨go,N,hN,step⟩
 ·refine wpAny_passesOwn hp (thn (T.done X rfl rfl rfl hc i j' s3 σ3 H3 X.xe I3 (ow ut) o4 stop) λr s4 ⟨hr,I4⟩=>?_)
  subst hr;exact wpAny_execs_nil ⟨σ3,H3,I4,qn⟩
 ·refine wpAny_passesOwn hp (thn (T.item X rfl rfl rfl hc i j' s3 σ3 H3 X.xe I3 (ow ut) o4 go) λr s4 ⟨u,hr,h4⟩=>?_)
  subst hr;refine wpAny_passesOwn hp (thn h4 λ_ s5 me=>?_);obtain⟨x,H5,I5,r5,y5,qk,yp⟩:=me;have yr:=I5.pinned (ow yp) (T.obj _ _ qk);refine wpAny_passesOwn hp (thn (hg _ s5 σ3 H5 x u _ yr r5 (step x H5 y5)) λ_ s6 me=>?_);obtain⟨σ6,H6,I6,q6⟩:=me;refine wpAny_passesOwn hp (thn (hb _ s6 σ6 H6 _ I6 q6) λf s7 q7=>?_);have again:∀{σ7:St}{H7:Hp},Inv X (j'++Qt fp s5.heap) σ7 H7 s7->N σ7 H7->∃m,m<n/\∃i σ' H',Inv X j' σ' H' s7/\tn i s7.heap/\(bg:)/\W i m σ' H':=λ{σ7 H7}I7 n7=>by
   obtain⟨m',hm,w7⟩:=hN σ7 H7 n7
   refine(ap:)
   obtain⟨o,e,d⟩:=T.obj _ _ qk b hb
   exact(x:).2.1
  cases f with
  |next=>obtain⟨σ7,H7,I7,n7⟩:=q7;exact again I7 n7
  |cont=>obtain⟨σ7,H7,I7,n7⟩:=q7;exact again I7 n7
  |brk=>obtain⟨σ7,H7,I7,q7⟩:=q7;exact⟨σ7,H7,I7.unpinned,q7⟩
  |ret v=>obtain⟨x7,σ7,H7,I7,r7,q7⟩:=q7;exact⟨x7,σ7,H7,I7.unpinned,r7,q7⟩
end
def Zak{K:W.Frag}{a:Addr}{xs:List V}{g:TG}{tb:TS}{D:Ends}{σ:St}{H:Hp}(Pv:Nat->St->Hp->Prop)(h0:Pv 0 σ H)(hl:∀i σ H,i<=xs.length->Pv i σ H->SqL K H a xs)
  (hs:∀i x σ H,xs[i]?=some x->Pv i σ H->g x σ H λσ2 H2=>tb {D with nx:=Pv (i+1),ct:=Pv (i+1),bk:=D.nx} σ2 H2) (hd:∀σ H,Pv xs.length σ H->D.nx σ H):
  ∃W:Nat->Nat->St->Hp->Prop,(∃m,W 0 m σ H)/\∀i m σ H,W i m σ H ->
   ((Itl K a).stop i H/\D.nx σ H)\/((Itl K a).go i H/\∃N:St->Hp->Prop,(p:)/\∀x H',(Itl K a).yld i H x H'->g x σ H' λσ2 H2=>tb {D with nx:=N,ct:=N,bk:=D.nx} σ2 H2):=by
 refine(K:);rintro i m σ H ⟨rfl,hi,p⟩;have q:=hl i σ H hi p;by_cases mr:i<xs.length
 ·refine .inr (R:)
  obtain⟨e,y⟩:=y;subst e;exact hs i x σ _ (y xs q) p
 ·have e:i=xs.length:=by lia
  subst e;exact .inl ⟨⟨xs,q,An _⟩,hd σ H p⟩
def Qw{lo:Int}{n:Nat}{g:TG}{tb:TS}{D:Ends}{σ:St}{H:Hp}(Pv:Nat->St->Hp->Prop)(h0:Pv 0 σ H)
  (hs:∀i σ H,i<n->Pv i σ H->g (.int (lo+i)) σ H λσ2 H2=>tb {D with nx:=Pv (i+1),ct:=Pv (i+1),bk:=D.nx} σ2 H2) (hd:∀σ H,Pv n σ H->D.nx σ H):
  ∃W:Nat->Nat->St->Hp->Prop,(∃m,W 0 m σ H)/\∀i m σ H,W i m σ H ->
   ((Itr lo n).stop i H/\D.nx σ H)\/((Itr lo n).go i H/\∃N:St->Hp->Prop,(p:)/\∀x H',(Itr lo n).yld i H x H'->g x σ H' λσ2 H2=>tb {D with nx:=N,ct:=N,bk:=D.nx} σ2 H2):=by
 refine⟨λi m σ H=>m=n-i/\i<=n/\Pv i σ H,⟨n,by simp,Az _,h0⟩,?_⟩;rintro i m σ H ⟨rfl,hi,p⟩;by_cases mr:i<n
 ·refine .inr ⟨mr,Pv (i+1),λσ' H' p'=>⟨n-(i+1),by lia,Y,mr,p'⟩,λx H' y=>?_⟩
  obtain⟨e,y⟩:=y;subst e y;exact hs i σ _ mr p
 ·have e:i=n:=by lia
  subst e;exact .inl ⟨An _,hd σ H p⟩
abbrev R2:=V->V->Hp->VK->Prop
def OpR(X:Cx)(f:Value->Value->Sem Value)(r:R2):Prop:=
 ∀(j':List (j:))(s:Shared)(σ:St)(H:Hp)(x y:V)(v u:Value)(Q:VK),Inv X j' σ H s->RelV x v->RelV y u->r x y H Q ->
  wpAny (c:) X.A (f v u) (a2:) X.xe s
def UnR(X:Cx)(f:Value->Sem Value)(r:V->Hp->VK->Prop):Prop:=
 ∀(j':List (j:))(s:Shared)(σ:St)(H:Hp)(x:V)(v:Value)(Q:VK),Inv X j' σ H s->RelV x v->r x H Q ->
  wpAny (c:) X.A (f v) (a2:) X.xe s
def Y6(X:Cx)(f:Value)(r:List V->Hp->VK->Prop):Prop:=
 ∀(j':List (j:))(s:Shared)(σ:St)(H:Hp)(xs:List V)(us:List Value)(Q:VK),Inv X j' σ H s->Vals xs us->r xs H Q ->
  wpAny (c:) X.A (call f us) (a2:) X.xe s
def TruR(X:Cx)(r:V->Hp->(Bool->Hp->Prop)->Prop):Prop:=
 ∀(j':List (j:))(s:Shared)(σ:St)(H:Hp)(x:V)(v:Value)(Q:Bool->Hp->Prop),Inv X j' σ H s->RelV x v->r x H Q ->
  wpAny (c:) X.A (truthy v) (TP X j' σ Q) X.xe s
def kOp2(r:R2)(x:V)(Q:VK)(y:V)(H:Hp):Prop:=r x y H Q
def kOp(r:R2)(tb:TE)(σ:St)(Q:VK)(x:V)(H:Hp):Prop:=tb σ H (kOp2 r x Q)
def tOp(r:R2)(ta tb:TE):TE:=λσ H Q=>ta σ H (kOp r tb σ Q)
def kUn(r:V->Hp->VK->Prop)(Q:VK)(x:V)(H:Hp):Prop:=r x H Q
def tUn(r:V->Hp->VK->Prop)(ta:TE):TE:=λσ H Q=>ta σ H (kUn r Q)
def MI2c(C:Int->Int->Prop)(g:Int->Int->V)(x y:V)(H:Hp)(Q:VK):Prop:=match x,y with| .int i,.int j=>C i j/\Q (g i j) H|_,_=>False
def MI2c.ex{C:Int->Int->Prop}{g:Int->Int->V}{x y:V}{H:Hp}{Q:VK}(h:MI2c C g x y H Q):∃i j,x=.int i/\y=.int j/\C i j/\Q (g i j) H:=match x,y,h with| .int i,.int j,⟨a,b⟩=>⟨i,j,rfl,rfl,a,b⟩
def rI(C:Int->Int->Prop)(g:Int->Int->V):R2:=MI2c C g
def MI2(g:Int->Int->V)(x y:V)(H:Hp)(Q:VK):Prop:=match x,y with| .int i,.int j=>Q (g i j) H|_,_=>False
def MI2.ex{g:Int->Int->V}{x y:V}{H:Hp}{Q:VK}(h:MI2 g x y H Q):∃i j,x=.int i/\y=.int j/\Q (g i j) H:=match x,y,h with| .int i,.int j,h=>⟨i,j,rfl,rfl,h⟩
def rI0(g:Int->Int->V):R2:=MI2 g
def rU(g:Int->V):V->Hp->VK->Prop:=λx H Q=>∃i,x=.int i/\Q (g i) H
section
variable{X:Cx}{a b c:Expr}{ta tb tc:TE}{pos:Pos}
def binT(ha:PE X a ta)(hb:PE X b tb){j':List (j:)}{s:Shared}{σ:St}{H:Hp}{R:V->V->Hp->Prop}(I:Inv X j' σ H s)
  (h:ta σ H λx H1=>tb σ H1 λy H2=>R x y H2) {Q:Value->Shared->Prop} {f:Value->Value->Sem Value}
  (hf:∀v u s2 x y H2,Inv X j' σ H2 s2->RelV x v->RelV y u->R x y H2->wpAny (c:) X.A (f v u) Q X.xe s2):
  wpAny (c:) X.A (eval a X.env) (λv s₁=>wpAny (c:) X.A (eval b X.env) (λu s₂=>wpAny (c:) X.A (f v u) Q X.xe s₂) X.xe s₁) X.xe s:=by
 refine thn (bm:) λv s1 me=>?_;obtain⟨x,H1,I1,r1,q1⟩:=me;refine thn (hb j' s1 σ H1 _ I1 q1) λu s2 me=>?_;obtain⟨y,H2,I2,r2,q2⟩:=me;exact hf v u s2 x y H2 I2 r1 r2 q2
def Zj(ho:OpR X (binaryOp op) r)(ha:PE X a ta)(hb:PE X b tb):PE X (.BinOp a op b pos) (tOp r ta tb):=by
 intro j' s σ H Q I h;exact wpAny_BinOp (binT ha hb I h λv u s2 x y H2 I2 rx ry q=>ho j' s2 σ H2 x y v u Q I2 rx ry q)
def Zum{op:UnaryOp}{r:V->Hp->VK->Prop}(ho:UnR X (unaryOp op) r)(ha:PE X a ta):PE X (.UnaryOp op a pos) (tUn r ta):=by
 intro j' s σ H Q I h;refine UnaryOp_ (thn (bm:) λv s1 me=>?_);obtain⟨x,H1,I1,r1,q1⟩:=me;exact ho j' s1 σ H1 x v Q I1 r1 q1
def opI{g:Int->Int->Int}
  (rule:∀(i j:Int)(t u:Tok)(s:Shared)(Q:Value->Shared->Prop)(E:Value->Shared->Prop),C i j->Q (.int (g i j) s.toks) {s with toks:=s.toks+1}->wpAny (c:) X.A (f (.int i t) (.int j u)) Q E s):
  OpR X f (rI C λi j=>.int (g i j)):=by
 intro j' s σ H x y v u Q I rx ry h;obtain⟨i,j,rfl,rfl,hc,q⟩:=MI2c.ex h;obtain⟨t,rfl⟩:=rx;obtain⟨t',rfl⟩:=ry;exact rule i j t t' s _ _ hc ⟨.int (g i j),H,I.tok _,⟨_,Y⟩,q⟩
def opI0{g:Int->Int->Int}
  (rule:∀(i j:Int)(t u:Tok)(s:Shared)(Q:Value->Shared->Prop)(E:Value->Shared->Prop),Q (.int (g i j) s.toks) {s with toks:=s.toks+1}->wpAny (c:) X.A (f (.int i t) (.int j u)) Q E s):
  OpR X f (rI0 λi j=>.int (g i j)):=by
 intro j' s σ H x y v u Q I rx ry h;obtain⟨i,j,rfl,rfl,q⟩:=MI2.ex h;obtain⟨t,rfl⟩:=rx;obtain⟨t',rfl⟩:=ry;exact rule i j t t' s _ _ ⟨.int (g i j),H,I.tok _,⟨_,Y⟩,q⟩
def opB0{g:Int->Int->Bool}
  (rule:∀(i j:Int)(t u:Tok)(s:Shared)(Q:Value->Shared->Prop)(E:Value->Shared->Prop),Q (.bool (g i j)) s->wpAny (c:) X.A (f (.int i t) (.int j u)) Q E s):
  OpR X f (rI0 λi j=>.bl (g i j)):=by
 intro j' s σ H x y v u Q I rx ry h;obtain⟨i,j,rfl,rfl,q⟩:=MI2.ex h;obtain⟨t,rfl⟩:=rx;obtain⟨t',rfl⟩:=ry;exact rule i j t t' s _ _ ⟨.bl (g i j),H,I,Y,q⟩
def CDiv(i j:Int):Prop:=0<j/\j<1073741824
def CPow(i j:Int):Prop:=0<=j/\j<=1000000/\i.natAbs<2^64
def CMul(i j:Int):Prop:=(-(2^64)<i/\i<2^64)\/(-(2^64)<j/\j<2^64)
def CMul.ok{i j:Int}(h:CMul i j):IntMulOk i j:=by
 rcases h with ⟨h1,h2⟩|⟨h1,h2⟩
 ·exact .of_left (intBits_le_64 h1 h2)
 ·exact .of_right (intBits_le_64 h1 h2)
def Y8:OpR X (binaryOp .Add) (rI0 λi j=>.int (i+j)):=opI0 λ_ _ _ _ _ _ _ q=>add_int q
def Qv:OpR X (binaryOp .Sub) (rI0 λi j=>.int (i-j)):=opI0 λ_ _ _ _ _ _ _ q=>sub_int q
def W5:OpR X (binaryOp .Mult) (rI CMul λi j=>.int (i*j)):=opI λ_ _ _ _ _ _ _ hc q=>mul_int q hc.ok
def X1:OpR X (binaryOp .FloorDiv) (rI CDiv λi j=>.int (i/j)):=opI λi j _ _ _ _ _ hc q=>by
 have h1:(0:Int)<j:=hc.1;have h2:j<1073741824:=hc.2;exact floordiv_int (by lia) (by rw[Int.fdiv_eq_ediv_of_nonneg i (by lia)];exact q) (.inl (PyProof.noPylong_small (by lia)))
def Z5:OpR X (binaryOp .Mod) (rI (λ_ j=>0<j) λi j=>.int (i%j)):=opI λi j _ _ _ _ _ hc q=>by
 have h1:(0:Int)<j:=hc;exact mod_int' (by lia) (by rw[Int.fmod_eq_emod_of_nonneg i (by lia)];exact q)
def V1:OpR X (binaryOp .Pow) (rI CPow λi j=>.int (i^j.toNat)):=opI λ_ _ _ _ _ _ _ hc q=>pow_int_small hc.1 hc.2.1 hc.2.2 q
def unI{g:Int->Int}
  (rule:∀(i:Int)(t:Tok)(s:Shared)(Q:Value->Shared->Prop)(E:Value->Shared->Prop),Q (.int (g i) s.toks) {s with toks:=s.toks+1}->wpAny (c:) X.A (f (.int i t)) Q E s):
  UnR X f (rU λi=>.int (g i)):=by
 intro j' s σ H x v Q I rx h;obtain⟨i,rfl,q⟩:=h;obtain⟨t,rfl⟩:=rx;exact rule i t s _ _ ⟨.int (g i),H,I.tok _,⟨_,Y⟩,q⟩
def Zr7:UnR X (unaryOp .USub) (rU λi=>.int (-i)):=unI λ_ _ _ _ _ q=>neg_int q
noncomputable def scal:V->V->Bool
 | .non,.non=>true| .non,.int _=>true| .int _,.non=>true| .non,.bl _=>true| .bl _,.non=>true| .non,.str _=>true| .str _,.non=>true
 | .int _,.int _=>true| .bl _,.bl _=>true| .str _,.str _=>true| .byt _,.byt _=>true
 | .int _,.str _=>true| .str _,.int _=>true| .bl _,.str _=>true| .str _,.bl _=>true
 |_,_=>false
def rEq:R2:=λx y H Q=>scal x y=true/\Q (.bl (decide (x=y))) H
def rNe:R2:=λx y H Q=>scal x y=true/\Q (.bl (!decide (x=y))) H
def Zjf:decide (V.int i=V.int j)=(i==j):=by
 rw[Bool.eq_iff_iff];simp
def Znj:decide (V.bl i=V.bl j)=(i==j):=by
 rw[Bool.eq_iff_iff];simp
def Zje:decide (V.str i=V.str j)=(i==j):=by
 rw[Bool.eq_iff_iff];simp
def Zjg{i j:Array UInt8}:decide (V.byt i=V.byt j)=(i.toList==j.toList):=by
 rw[Bool.eq_iff_iff];cases i;cases j;simp
def Yg(I:Inv X j' σ H s)(q:Q (.bl k) H)(e:k=k'):EP X j' σ Q (.bool k') s:=by
 subst e;exact⟨.bl k,H,I,Y,q⟩
def Z6:OpR X (compareOp .Eq) rEq:=by
 intro j' s σ H x y v u Q I rx ry h;obtain⟨hs,q⟩:=h
 cases x with
 |non=>
  cases rx
  cases y with
  |non=>cases ry;exact PySem.EqNone.eq_none_none (X:)
  |bl j=>cases ry;exact PySem.EqNone.eq_none_bool (X:)
  |int j=>obtain⟨t',rfl⟩:=ry;exact PySem.EqNone.eq_none_int (X:)
  |str j=>obtain⟨t',rfl⟩:=ry;exact PySem.EqNone.eq_none_str (X:)
  |_=>exact absurd (a1:) Bool.false_ne_true
 |bl i=>
  cases rx
  cases y with
  |non=>cases ry;exact PySem.EqNone.eq_bool_none (X:)
  |bl j=>cases ry;exact eq_bool (Yg I q Znj)
  |str j=>obtain⟨t',rfl⟩:=ry;exact PySem.EqMixed.eq_bool_str (X:)
  |_=>exact absurd (a1:) Bool.false_ne_true
 |int i=>
  obtain⟨t,rfl⟩:=rx
  cases y with
  |non=>cases ry;exact PySem.EqNone.eq_int_none (X:)
  |int j=>obtain⟨t',rfl⟩:=ry;exact eq_int (Yg I q Zjf)
  |str j=>obtain⟨t',rfl⟩:=ry;exact PySem.EqMixed.eq_int_str (X:)
  |_=>exact absurd (a1:) Bool.false_ne_true
 |str i=>
  obtain⟨t,rfl⟩:=rx
  cases y with
  |non=>cases ry;exact PySem.EqNone.eq_str_none (X:)
  |bl j=>cases ry;exact PySem.EqMixed.eq_str_bool (X:)
  |int j=>obtain⟨t',rfl⟩:=ry;exact PySem.EqMixed.eq_str_int (X:)
  |str j=>obtain⟨t',rfl⟩:=ry;exact eq_str (Yg I q Zje)
  |_=>exact absurd (a1:) Bool.false_ne_true
 |byt i=>
  obtain⟨t,rfl⟩:=rx
  cases y with
  |byt j=>obtain⟨t',rfl⟩:=ry;exact PySem.W.eq_bytes (Yg I q Zjg)
  |_=>exact absurd (a1:) Bool.false_ne_true
 |_=>cases y<;>exact absurd (a1:) Bool.false_ne_true
def Jo:OpR X (compareOp .NotEq) rNe:=by
 intro j' s σ H x y v u Q I rx ry h;obtain⟨hs,q⟩:=h
 cases x with
 |non=>
  cases rx
  cases y with
  |non=>cases ry;exact PySem.EqNone.ne_none_none (X:)
  |bl j=>cases ry;exact PySem.EqNone.ne_none_bool (X:)
  |int j=>obtain⟨t',rfl⟩:=ry;exact PySem.EqNone.ne_none_int (X:)
  |str j=>obtain⟨t',rfl⟩:=ry;exact PySem.EqNone.ne_none_str (X:)
  |_=>exact absurd (a1:) Bool.false_ne_true
 |bl i=>
  cases rx
  cases y with
  |non=>cases ry;exact PySem.EqNone.ne_bool_none (X:)
  |bl j=>cases ry;exact ne_bool (Yg I q (congrArg not Znj))
  |str j=>obtain⟨t',rfl⟩:=ry;exact PySem.EqMixed.ne_bool_str (X:)
  |_=>exact absurd (a1:) Bool.false_ne_true
 |int i=>
  obtain⟨t,rfl⟩:=rx
  cases y with
  |non=>cases ry;exact PySem.EqNone.ne_int_none (X:)
  |int j=>obtain⟨t',rfl⟩:=ry;exact ne_int (Yg I q (congrArg not Zjf))
  |str j=>obtain⟨t',rfl⟩:=ry;exact PySem.EqMixed.ne_int_str (X:)
  |_=>exact absurd (a1:) Bool.false_ne_true
 |str i=>
  obtain⟨t,rfl⟩:=rx
  cases y with
  |non=>cases ry;exact PySem.EqNone.ne_str_none (X:)
  |bl j=>cases ry;exact PySem.EqMixed.ne_str_bool (X:)
  |int j=>obtain⟨t',rfl⟩:=ry;exact PySem.EqMixed.ne_str_int (X:)
  |str j=>obtain⟨t',rfl⟩:=ry;exact ne_str (Yg I q (congrArg not Zje))
  |_=>exact absurd (a1:) Bool.false_ne_true
 |byt i=>
  obtain⟨t,rfl⟩:=rx
  cases y with
  |byt j=>obtain⟨t',rfl⟩:=ry;exact PySem.W.ne_bytes (Yg I q (congrArg not Zjg))
  |_=>exact absurd (a1:) Bool.false_ne_true
 |_=>cases y<;>exact absurd (a1:) Bool.false_ne_true
def J1:OpR X (compareOp .Lt) (rI0 λi j=>.bl (decide (i<j))):=opB0 λ_ _ _ _ _ _ _ q=>lt_int q
def Zbj:OpR X (compareOp .LtE) (rI0 λi j=>.bl (decide (i<=j))):=opB0 λ_ _ _ _ _ _ _ q=>le_int q
def J2:OpR X (compareOp .Gt) (rI0 λi j=>.bl (decide (j<i))):=opB0 λ_ _ _ _ _ _ _ q=>gt_int q
def Zev:OpR X (compareOp .GtE) (rI0 λi j=>.bl (decide (j<=i))):=opB0 λ_ _ _ _ _ _ _ q=>ge_int q
def Gp:OpR X (compareOp .IsNot) (λx y H Q=>y=.non/\Q (.bl (!decide (x=.non))) H):=by
 intro j' s σ H x y v u Q I rx ry h;obtain⟨rfl,q⟩:=h;cases ry;refine isnot_none_gen (Yg I q ?_)
 cases x<;>first
  |(cases rx;rfl)
  |(obtain⟨t,rfl⟩:=rx;rfl)
def Zm(b:Expr)(h:op≠.In:=by decide)(h2:op≠.NotIn:=by decide):behindInMarks op b=false:=by
 have e1:(op==CmpOp.In)=false:=by cases op<;>first|rfl|exact absurd Y h
 have e2:(op==CmpOp.NotIn)=false:=by cases op<;>first|rfl|exact absurd Y h2
 cases b<;>simp[behindInMarks,e1,e2]
def Y3(ho:OpR X (compareOp op) r)(ha:PE X a ta)(hb:PE X b tb)(hm:behindInMarks op b=false):PE X (.Compare a [op] [b] pos) (tOp r ta tb):=by
 intro j' s σ H Q I h;exact wpAny_Compare1 (binT ha hb I h λv u s2 x y H2 I2 rx ry q=>ho j' s2 σ H2 x y v u Q I2 rx ry q) hm
def Zpt(t:TE):TT:=λσ H Q=>t σ H (MB Q)
def Zn{op:CmpOp}{r:R2}(ho:OpR X (compareOp op) r)(ha:PE X a ta)(hb:PE X b tb)(hm:behindInMarks op b=false):PT X (.Compare a [op] [b] pos) (Zpt (tOp r ta tb)):=by
 intro j' s σ H Q I h;refine wpAny_isTrue_Compare1 (thn (bm:) λv s1 ⟨x,H1,I1,r1,q1⟩=>thn (hb j' s1 σ H1 _ I1 q1) λu s2 ⟨y,H2,I2,r2,q2⟩ =>
  thn (ho j' s2 σ H2 x y v u _ I2 r1 r2 q2) λc s3 ⟨z,H3,I3,r3,qq⟩=>?_) hm
 obtain⟨k,e,q3⟩:=MB.ex qq;subst e;cases r3;exact wpAny_truthy_bool ⟨H3,I3,q3⟩
def Zla(r r':R2)(ta tb tc:TE):TE:=λσ H Q=>ta σ H λx H1=>tb σ H1 λy H2=>r x y H2 λz H3=>∃k,z=.bl k/\
 (if k=true then tc σ H3 λw' H4=>r' y w' H4 Q else Q (.bl false) H3)
def Zgi{op xy:CmpOp}{r r':R2}(ho:OpR X (compareOp op) r)(t6:OpR X (compareOp xy) r')(ha:PE X a ta)(hb:PE X b tb)(hc:PE X c tc)
  (hm:lastMarks [op,xy] [b,c]=false:=by with_unfolding_all rfl):PE X (.Compare a [op,xy] [b,c] pos) (Zla r r' ta tb tc):=by
 intro j' s σ H Q I h;refine Compare_chain (thn (bm:) λv s1 ⟨x,H1,I1,r1,q1⟩=>chain_link (thn (hb j' s1 σ H1 _ I1 q1) λu s2 ⟨y,H2,I2,r2,q2⟩ =>
  thn (ho j' s2 σ H2 x y v u _ I2 r1 r2 q2) λd s3 ⟨z,H3,I3,r3,k,e,q3⟩=>?_)) hm
 subst e;cases r3;refine wpAny_truthy_bool ?_
 cases k with
 |false=>exact ite_ff ⟨.bl false,H3,I3,Y,q3⟩
 |true=>exact ite_tt (chain_last (thn (hc j' s3 σ H3 _ I3 q3) λw' s4 ⟨z',H4,I4,r4,q4⟩=>t6 j' s4 σ H4 y z' u w' Q I4 r2 r4 q4))
def Zol{op xy:CmpOp}{r r':R2}(ho:OpR X (compareOp op) r)(t6:OpR X (compareOp xy) r')(ha:PE X a ta)(hb:PE X b tb)(hc:PE X c tc)
  (hm:lastMarks [op,xy] [b,c]=false:=by with_unfolding_all rfl):PT X (.Compare a [op,xy] [b,c] pos) (Zpt (Zla r r' ta tb tc)):=by
 intro j' s σ H Q I h;refine isTrue_chain (thn (bm:) λv s1 ⟨x,H1,I1,r1,q1⟩=>test_link (thn (hb j' s1 σ H1 _ I1 q1) λu s2 ⟨y,H2,I2,r2,q2⟩ =>
  thn (ho j' s2 σ H2 x y v u _ I2 r1 r2 q2) λd s3 ⟨z,H3,I3,r3,k,e,q3⟩=>?_)) hm
 subst e;cases r3;refine wpAny_truthy_bool ?_
 cases k with
 |false=>
  exact ite_ff ⟨H3,I3,q3⟩
 |true=>
  refine ite_tt (test_last (thn (hc j' s3 σ H3 _ I3 q3) λw' s4 zz10=>?_));obtain⟨z',H4,I4,r4,q4⟩:=zz10;refine thn (t6 j' s4 σ H4 y z' u w' _ I4 r2 r4 q4) λd' s5 me=>?_;obtain⟨z2,H5,I5,r5,qq⟩:=me;obtain⟨k2,e2,q5⟩:=MB.ex qq;subst e2;cases r5;exact wpAny_truthy_bool ⟨H5,I5,q5⟩
def TruV(K:W.Frag)(x:V)(H:Hp)(k:Bool):Prop:=
 match x with
 | .non=>k=false
 | .bl b=>k=b
 | .int i=>k=(i != 0)
 | .str y=>y.length<=sizeLine/\k=((y.length:Int)!=0)
 | .byt y=>y.size<=sizeLine/\k=((y.size:Int)!=0)
 | .ref p=>(∃xs,SqL K H p xs/\k=!xs.isEmpty)\/(∃xs,SqT K H p xs/\k=!xs.isEmpty)\/∃kvs,H p=some (.dK kvs)/\k=!kvs.isEmpty
 |_=>False
def Zkm{κ:Type}{kvs:List (κ×V)}{vs:List (κ×Value)}(r:KV kvs vs):(!vs.isEmpty)=!kvs.isEmpty:=by
 cases r<;>rfl
def Zbu{xs:List V}{its:List Value}(r:Vals xs its):(!its.toArray.isEmpty)=!xs.isEmpty:=by
 cases r<;>simp
def V6:(sizeLine:Nat)<2^63:=by rw[sizeLine_eq];decide
def Zr8:TruR X (λx H Q=>∃k,TruV X.K x H k/\Q k H):=by
 intro j' s σ H x v Q I rx h;obtain⟨k,e,q⟩:=h;have hl:=V6;have hs:sizeLine=16777216:=sizeLine_eq
 cases x with
 |non=>
  cases rx;have e':k=false:=e;subst e';exact truthy_none ⟨H,I,q⟩
 |bl b=>
  cases rx;have e':k=b:=e;subst e';exact wpAny_truthy_bool ⟨H,I,q⟩
 |int i=>
  obtain⟨t,rfl⟩:=rx;have e':k=(i != 0):=e;subst e';exact PySem.P.truthy_int ⟨H,I,q⟩
 |str y=>
  obtain⟨t,rfl⟩:=rx;obtain⟨hy,e'⟩:y.length<=sizeLine/\k=((y.length:Int)!=0):=e;subst e';exact PySem.P.truthy_str (by lia) ⟨H,I.tok _,q⟩
 |byt y=>
  obtain⟨t,rfl⟩:=rx;obtain⟨hy,e'⟩:y.size<=sizeLine/\k=((y.size:Int)!=0):=e;subst e';exact PySem.W.truthy_bytes (by lia) ⟨H,I.tok _,q⟩
 |ref p=>
  cases rx;have e':(∃xs,SqL X.K H p xs/\k=!xs.isEmpty)\/(∃xs,SqT X.K H p xs/\k=!xs.isEmpty)\/∃kvs,H p=some (.dK kvs)/\k=!kvs.isEmpty:=e
  rcases e' with ⟨xs,hx,e'⟩|⟨xs,hx,e'⟩|⟨kvs,hx,e'⟩
  ·subst e'
   obtain⟨its,r,pl,hz⟩:=I.list hx;have l9:=r.length;exact wpAny_truthy_list pl.isList (by simp only[Aq];lia) ⟨H,I.tok _,by rw[Zbu r];exact q⟩
  ·subst e'
   obtain⟨its,r,pl,hz⟩:=I.tuple hx;have l9:=r.length;exact truthy_tuple pl (by simp only[Aq];lia) ⟨H,I.tok _,by rw[Zbu r];exact q⟩
  ·subst e'
   obtain⟨hz,hS,vs,r,m⟩:kvs.length<=sizeLine/\(p==sysModules)=false/\∃vs,KV kvs vs/\s.heap.DictOf (Yj X.prog X.w) p vs:=I.hok p _ hx;have l9:kvs.length=vs.length:=Paired.length r;exact wpAny_truthy_dict hS m (by lia) ⟨H,I.tok _,by rw[Zkm r];exact q⟩
 |_=>exact(show False from e).elim
def Vu(ha:PE X a ta)(he:∀pq,isTrue a X.env pq=(do let v<-pq;standAt a.pos;holding [v] (truthy v))):
  PT X a (λσ H Q=>ta σ H λx H'=>∃k,TruV X.K x H' k/\Q k H'):=by
 intro j' s σ H Q I h;refine isTrue_plain (thn (bm:) λv s1 zz11=>?_) (he _);obtain⟨x,H1,I1,r1,q1⟩:=zz11;exact Zr8 j' s1 σ H1 x v Q I1 r1 q1
def Oq:OpR X (binaryOp .Add) (λx y H Q=>∃i j,x=.str i/\y=.str j/\i.length+j.length<=sizeLine/\Q (.str (i++j)) H):=by
 intro j' s σ H x y v u Q I rx ry h;obtain⟨i,j,rfl,rfl,hz,q⟩:=h;obtain⟨t,rfl⟩:=rx;obtain⟨t',rfl⟩:=ry;exact add_str (λt' tk=>⟨.str (i++j),H,I.tok _,⟨_,Y⟩,q⟩) hz
def Xb(r:Vals [x] us):∃u,us=[u]/\RelV x u:=by
 cases r with
 |cons r1 r2=>cases r2;exact⟨_,Y,r1⟩
def Ztw(r:Vals [x,y] us):∃u w',us=[u,w']/\RelV x u/\RelV y w':=by
 cases r with
 |cons r1 r2=>
  cases r2 with
  |cons r3 r4=>cases r4;exact⟨_,_,Y,r1,r3⟩
def Ub:Y6 X (.type "str") (λxs H Q=>∃i,xs=[.int i]/\i.natAbs.log2<1920/\Q (.str (toString i)) H):=by
 intro j' s σ H xs us Q I r h;obtain⟨i,rfl,hz,q⟩:=h;obtain⟨u,rfl,t,rfl⟩:=Xb r;exact PySem.P.str_of_int hz ⟨.str _,H,I.tok _,⟨_,Y⟩,q⟩
end
structure ObjM(h:Heap)(x dx C:Addr)(mA:Str->Option Value):Prop where
 obj:h.get? x=some (PySem.W.instObj C dx)
 ns:h.Ns1 dx mA
 ne:dx≠x
def Zmq{h:Heap}(n:h.Ns1 dx mA):∃od,h.get? dx=some od/\∀name,PySem.W.lookIn name od=some (mA name):=by
 obtain⟨o,es,ep,ho,hd,hk,_,hm⟩:=n;refine⟨o,ho,λname=>?_⟩;have e:=hm name;unfold nsFind findBy at e;rw[<-Array.find?_toList]at e;unfold PySem.W.lookIn;rw[hd];dsimp only;split
 ·rename_i y q
  rw[q]at e;exact congrArg some e
 ·rename_i q
  rw[q]at e;have a:es.toList.any (·.refKey)=false:=by
   rw[any_eq_false]
   intro y hy
   obtain⟨z,t,zc⟩:=hk y (Array.mem_toList_iff.mp hy)
   simp[DictEntry.refKey,zc]
  have a':¬es.toList.any (·.refKey)=true:=by rw[a];exact Bool.false_ne_true
  rw[if_neg a'];exact congrArg some e
def ObjM.look(I:ObjM h x dx C mA):∃od,PySem.W.InstAt h x (PySem.W.instObj C dx) C (some od)/\∀name,PySem.W.lookIn name od=some (mA name):=
 let⟨od,ho,hl⟩:=Zmq I.ns
 ⟨od,⟨I.obj,rfl,rfl,ho⟩,hl⟩
section
variable{prog:Program}{w:World}{A:Around}{E:Value->Shared->Prop}{s:Shared}{K:W.Frag}{x dx C f:Addr}{mA:Str->Option Value}{name:Str}{v:Value}
def Zrm(X:K.In s.heap)(I:ObjM s.heap x dx C mA)(hg:PySem.W.plainGet K C name=true)(hh:PySem.W.hasDictIn K C=true)
  (ha:PySem.W.findIn K (.ref C) name=some none) (hv:mA name=some v) (wf:PySem.W.handedIn v=true) (h:Q v {s with toks:=s.toks+1}):
  wpAny (ae:) A (getAttr (.ref x) name expr) Q E s:=by
 obtain⟨od,J,hl⟩:=I.look;exact PySem.W.get_value X J (PySem.W.plainGet_of hg).1 (PySem.W.findObj_own hh ha Y (by rw[hl,hv])) wf h
def Zpf(X:K.In s.heap)(I:ObjM s.heap x dx C mA)(hg:PySem.W.plainGet K C name=true)
  (hf:PySem.W.findIn K (.ref C) name=some (some (.ref f))) (ht:PySem.W.isFn K (.ref f)=true) (hv:mA name=none) (h:Q (.ref f,[.ref x]) s):
  wpAny (ae:) A (getMethod (.ref x) name pl) Q E s:=by
 obtain⟨od,J,hl⟩:=I.look;exact PySem.W.method_fn X J (PySem.W.plainGet_of hg).1 (PySem.W.plainGet_of hg).2 hf (beq_iff_eq.mp ht) (by show(PySem.W.lookIn name od).map (·.isSome)=some false;rw[hl,hv];rfl) h
def Zqw{ns:List Str}(X:K.In s.heap)(I:ObjM s.heap x dx C mA)
  (hs:PySem.W.findIn K (.ref C) "__setattr__"=some (some (.builtin "object.__setattr__"))) (hp:PySem.W.plainOver K C=true) (ht:PySem.W.takerIn K C name=some none) (hh:PySem.W.hasDictIn K C=true)
  (hw:PySem.Within mA ns) (hsz:ns.length<=sizeLine)
  (h:∀h',ObjM h' x dx C (λy=>if y=name then some v else mA y)->Heap.SameBut dx s.heap h'->Q () {s with heap:=h',toks:=s.toks+2}):
  wpAny (ae:) A (setAttr (.ref x) name v) Q E s:=by
 obtain⟨od,J,hl⟩:=I.look;refine PySem.W.set_plain X J hs (PySem.W.osa_open (s:={s with toks:=s.toks+1}) (r:=none) X J hp ht λb=>?_);obtain⟨cd,hc,hd'⟩:=PySem.W.any_some hh;have hx:s.heap.get? x=some ⟨.ref C,some dx,.plain,#[]⟩:=I.obj;refine Al (wpAny_pure (Al (Al (wpAny_loadPart hx (Al (PySem.W.Looks.here (s:={s with toks:=s.toks+1}) (PySem.W.looks_clsIn X hc) ?_))))));rw[hd'];refine wpAny_pure (a:=some dx) (Al (wpAny_pure (Al ?_)));refine wpAny_nsSet1 (s:={s with toks:=s.toks+1}) I.ns λh' wn ul=>?_;obtain⟨oD,esD,epD,hoD,hdD,hcD⟩:=wn.count (PySem.Within.cons name v hw);refine Al (wpAny_lookBehind hoD (by rw[hdD];exact pastItsLine_dict (Nat.le_trans hcD (by rw[length_cons];lia))) ?_);exact wpAny_pure (h _ ⟨(ul.2 _ (Ne.symm I.ne)).trans I.obj,wn,I.ne⟩ ul)
def Zg0{vs:List Value}{kw:List (Str×Value)}(X:K.In s.heap)(hm:PySem.W.makesIn K C=true)
  (hi:PySem.W.findIn K (.ref C) "__init__"=some (some (.ref f))) (hf:PySem.W.typeIn K (.ref f)=some (.type "function"))
  (h:codeAny (ae:) (A.under (.builtin "type.__call__" ⟨.ref C :: vs,kw⟩)) (.call (.ref f) ⟨.ref (v:) :: vs,kw⟩) (PySem.W.InitBack (v:) R)
   {s with heap:=(s.heap.push PySem.W.emptyDict).push (PySem.W.instObj C s.heap.objs.size)}):
  codeAny (ae:) A (.call (.ref C) ⟨vs,kw⟩) R s:=by
 obtain⟨hh,g,d,t,os⟩:=s;exact PySem.W.make_core (PySem.W.makes_of X hm) (PySem.W.looks_findIn X hi) (λself=>PySem.W.bind_fn X self hf) (.inl Y) h
end
noncomputable def putF(f:Str)(v:V):List (Str×V)->List (Str×V)
 |[]=>[(f,v)]
 |(g,x)::r=>if g=f then(g,v)::r else(g,x)::putF f v r
theorem Z1(f g:Str)(v:V):∀fs:List (Str×V),(putF f v fs).lookup g=if g=f then some v else fs.lookup g
 |[]=>by
  show List.lookup g [(f,v)]=_;by_cases h:g=f
  ·have hb:(g==f)=true:=beq_iff_eq.mpr h
   simp only[List.lookup,hb,if_pos h]
  ·have hb:(g==f)=false:=beq_eq_false_iff_ne.mpr h
   simp only[List.lookup,hb,if_neg h]
 |(k,x)::r=>by
  have ih:=Z1 f g v r;rw[show putF f v ((k,x)::r)=(if k=f then(k,v)::r else(k,x)::putF f v r)from rfl];by_cases hk:k=f
  ·rw[if_pos hk]
   by_cases h:g=k
   ·have hb:(g==k)=true:=beq_iff_eq.mpr h
    simp only[List.lookup,hb,if_pos (h.trans hk)]
   ·have hb:(g==k)=false:=beq_eq_false_iff_ne.mpr h
    simp only[List.lookup,hb,if_neg (λe:g=f=>h (e.trans hk.symm))]
  ·rw[if_neg hk]
   by_cases h:g=k
   ·have hb:(g==k)=true:=beq_iff_eq.mpr h
    simp only[List.lookup,hb,if_neg (λe:g=f=>hk (h.symm.trans e))]
   ·have hb:(g==k)=false:=beq_eq_false_iff_ne.mpr h
    simp only[List.lookup,hb];exact ih
theorem Gc(f:Str)(v:V):∀fs:List (Str×V),f∈(putF f v fs).map (·.1)/\∀g,g∈fs.map (·.1)->g∈(putF f v fs).map (·.1)
 |[]=>⟨by simp[putF],λg h=>by simp at h⟩
 |(k,x)::r=>by
  obtain⟨i1,i2⟩:=Gc f v r;rw[show putF f v ((k,x)::r)=(if k=f then(k,v)::r else(k,x)::putF f v r)from rfl];by_cases hk:k=f
  ·rw[if_pos hk]
   subst hk;exact⟨by simp,λg h=>by simpa using h⟩
  ·rw[if_neg hk]
   refine⟨?_,λg h=>?_⟩
   ·rw[map_cons]
    exact mem_cons_of_mem _ i1
   ·rw[map_cons]at h⊢
    rcases Ar h with e|e
    ·exact mem_cons.mpr (.inl e)
    ·exact mem_cons_of_mem _ (i2 g e)
theorem F3(f:Str)(v:V):∀fs:List (Str×V),(putF f v fs).length<=fs.length+1
 |[]=>by simp[putF]
 |(k,x)::r=>by
  have ih:=F3 f v r;rw[show putF f v ((k,x)::r)=(if k=f then(k,v)::r else(k,x)::putF f v r)from rfl];by_cases hk:k=f
  ·rw[if_pos hk,length_cons,length_cons];lia
  ·rw[if_neg hk,length_cons,length_cons];lia
def RelO.some_of(r:RelO (some v) o):∃u,o=some u/\RelV v u:=by
 cases o with
 |none=>exact(show False from r).elim
 |some u=>exact⟨u,Y,r⟩
def RelO.none_of(r:RelO none o):o=none:=by
 cases o with
 |none=>rfl
 |some u=>exact(show False from r).elim
def Zm4(r:RelV v u):PySem.W.handedIn u=true:=by
 cases v with
 |non=>cases(show u=Value.none from r);rfl
 |bl b=>cases(show u=Value.bool b from r);rfl
 |int i=>obtain⟨t,e⟩:=(show ∃t,u=Value.int i t from r);cases e;rfl
 |str x=>obtain⟨t,e⟩:=(show ∃t,u=Value.str x t from r);cases e;rfl
 |byt b=>obtain⟨t,e⟩:=(show ∃t,u=Value.bytes b t from r);cases e;rfl
 |flt b=>obtain⟨t,e⟩:=(show ∃t,u=Value.float b t from r);cases e;rfl
 |ref a=>cases(show u=Value.ref a from r);rfl
 |ty n=>cases(show u=Value.type n from r);rfl
section
variable{P:Program}{w:World}{H H':Hp}{h h':Heap}{a C dx:Addr}{fs fs':List (Str×V)}
def Gv(hok:HOk P w H h)(e:H a=some (.ins C dx fs)):∃mA,ObjM h a dx C mA/\(∀f,RelO (fs.lookup f) (mA f))/\PySem.Within mA (fs.map (·.1))/\fs.length<=1000/\H dx=some (.own a):=by
 obtain⟨d,z,ne,ob,mA,n,r,q⟩:=(show Yn P w H h a (.ins C dx fs)from hok a _ e);exact⟨mA,⟨ob,n,ne⟩,r,q,z,d⟩
end
structure Cls(K:W.Frag)(C:Addr):Prop where
 pg:PySem.W.plainGet K C Str.empty=true
 hd:PySem.W.hasDictIn K C=true
 po:PySem.W.plainOver K C=true
 sa:PySem.W.findIn K (.ref C) "__setattr__"=some (some (.builtin "object.__setattr__"))
def Cls.get{K:W.Frag}{C:Addr}(c:Cls K C)(f:Str):PySem.W.plainGet K C f=true:=c.pg
def Xa(K:W.Frag)(C:Addr)(f:Str):Prop:=PySem.W.findIn K (.ref C) f=some none
def Xa.taker{K:W.Frag}{C:Addr}{f:Str}(n:Xa K C f):PySem.W.takerIn K C f=some none:=by
 unfold PySem.W.takerIn;rw[show PySem.W.findIn K (.ref C) f=some none from n];rfl
structure Meth(K:W.Frag)(C:Addr)(m:Str)(f:Addr):Prop where
 at_:PySem.W.findIn K (.ref C) m=some (some (.ref f))
 fn:PySem.W.isFn K (.ref f)=true
 kp:PySem.W.keepIn K (.ref f)=true
section
variable{X:Cx}{j':List (j:)}{σ:St}{H:Hp}{s:Shared}{a C dx:Addr}{fs:List (Str×V)}{f:Str}{v:V}{A:Around}{E:Value->Shared->Prop}
def Zko(I:Inv X j' σ H s)(e:H a=some (.ins C dx fs))(c:Cls X.K C)(n:Xa X.K C f)(l:fs.lookup f=some v)
  (h:∀u s',Inv X j' σ H s'->RelV v u->Q u s'):wpAny (c:) A (getAttr (.ref a) f b) Q E s:=by
 obtain⟨mA,O,r,_,_,_⟩:=Gv I.hok e;obtain⟨u,hu,ru⟩:=RelO.some_of (v:=v) (o:=mA f) (by rw[<-l];exact r f);exact Zrm I.kIn O (c.get f) c.hd n hu (Zm4 ru) (h u _ (I.tok _) ru)
def Ox(I:Inv X j' σ H s)(e:H a=some (.ins C dx fs))(c:Cls X.K C)(k:Meth X.K C m g)(l:fs.lookup m=none)
  (h:Q (.ref g,[.ref a]) s):wpAny (c:) A (getMethod (.ref a) m pl) Q E s:=by
 obtain⟨mA,O,r,_,_,_⟩:=Gv I.hok e;have hn:mA m=none:=RelO.none_of (by rw[<-l];exact r m);exact Zpf I.kIn O (c.get m) k.at_ k.fn hn h
def Za1(I:Inv X j' σ H s)(e:H a=some (.ins C dx fs))(c:Cls X.K C)(n:Xa X.K C f)(hl:fs.length<1000)(ry:RelV y u)
  (h:∀s',Inv X j' σ (upd H a (.ins C dx (putF f y fs))) s'->Q () s'):wpAny (c:) A (setAttr (.ref a) f u) Q E s:=by
 obtain⟨mA,O,r,wi,_,ho⟩:=Gv I.hok e;have hz:(fs.map (·.1)).length<=sizeLine:=by rw[Ab,sizeLine_eq];lia
 refine Zqw I.kIn O c.sa c.po n.taker c.hd wi hz λh' O' sb=>h _ ?_;have hd:∃o,h'.get? dx=some o:=let⟨o,_,_,e',_⟩:=O'.ns;⟨o,e'⟩
 refine I.write (x:=a) (e:=dx) (by rw[e];exact True.intro) (.inr ho) (λb q hb z=>(sb.2 b hb).trans z) hd ?_;refine⟨by rw[Ze O.ne];exact ho,?_,O.ne,O'.obj,_,O'.ns,λg=>?_,λg hg=>?_⟩
 ·have:=F3 f y fs;lia
 ·show RelO ((putF f y fs).lookup g) (if g=f then some u else mA g)
  rw[Z1];by_cases q:g=f
  ·rw[if_pos q,if_pos q];exact ry
  ·rw[if_neg q,if_neg q];exact r g
 ·by_cases q:g=f
  ·rw[q];exact(Gc f y fs).1
  ·refine(Gc f y fs).2 g (wi g λz=>hg ?_)
   show(if g=f then some u else mA g)=none;rw[if_neg q];exact z
def Inv.made(I:Inv X j' σ H s):Inv X j' σ (upd (upd H s.heap.objs.size (.own (v:))) (v:) (.ins C s.heap.objs.size []))
  {s with heap:=(s.heap.push PySem.W.emptyDict).push (PySem.W.instObj C s.heap.objs.size)}:=by
 have e1:(s.heap.push PySem.W.emptyDict).get? s.heap.objs.size=some PySem.W.emptyDict:=Ap s.heap rfl;have e2:((s.heap.push PySem.W.emptyDict).push (PySem.W.instObj C s.heap.objs.size)).get? (v:)=some (PySem.W.instObj C s.heap.objs.size):=by
  have:=Ap (s.heap.push PySem.W.emptyDict) (o:=PySem.W.instObj C s.heap.objs.size) rfl
  rwa [Heap.size_push]at this
 have e3:(s.heap.push PySem.W.emptyDict).Ns s.heap.objs.size (λ_=>none):=⟨PySem.W.emptyDict,#[],_,e1,rfl,(λe he=>absurd he (by simp)),λ_=>rfl⟩;have I1:=I.laid (a:=s.heap.objs.size) (o:=.own (v:)) (h':=s.heap.push PySem.W.emptyDict) (t':=s.toks) (λb u q=>Ak _ q) (An _) ⟨_,e1⟩;refine I1.laid (a:=s.heap.objs.size+1) (o:=.ins C s.heap.objs.size []) (t':=s.toks) (λb u q=>Ak _ q) (Nat.le_of_eq (Heap.size_push _ _)) ?_;have ne:s.heap.objs.size≠s.heap.objs.size+1:=As (lt_succ_self _);refine⟨by rw[Ze ne,Zc],Az _,ne,e2,λ_=>none,(Heap.Ns1.of_empty e3).at λo q=>Ak _ q,λ_=>True.intro,λy hy=>absurd Y hy⟩
def Zrw(hb:attributeBase e f env (eval e env)=eval e env)
  (h:wpAny (ae:) A (eval e env) (λo s₁=>wpAny (ae:) A (getAttr o f true) Q E s₁) E s):wpAny (ae:) A (eval (.Attribute e f pos) env) Q E s:=
 Attribute_any_ h (by rw[arm_eval_Attribute,hb])
end
def MVal(o:Option V)(H:Hp)(Q:VK):Prop:=match o with|some v=>Q v H|_=>False
def MVal.of{o:Option V}{H:Hp}{Q:VK}{v:V}(e:o=some v)(h:Q v H):MVal o H Q:=by subst e;exact h
inductive MFl(K:W.Frag)(f:Str)(Q:VK)(a:Addr)(H:Hp):Prop|mk {C dx:Addr} {fs:List (Str×V)}:H a=some (.ins C dx fs)->Cls K C->Xa K C f->MVal (fs.lookup f) H Q->MFl K f Q a H
def MFld(K:W.Frag)(f:Str)(Q:VK)(x:V)(H:Hp):Prop:=match x with| .ref a=>MFl K f Q a H|_=>False
def MFld.ex{K:W.Frag}{f:Str}{Q:VK}{x:V}{H:Hp}(h:MFld K f Q x H):∃a C dx fs v,x=.ref a/\H a=some (.ins C dx fs)/\Cls K C/\Xa K C f/\fs.lookup f=some v/\Q v H:=by
 cases x with
 |ref a=>
  obtain⟨h1,h2,h3,h4⟩:=(show MFl K f Q a H from h);rename_i C dx fs
  cases e:fs.lookup f with
  |none=>rw[e]at h4;exact h4.elim
  |some v=>rw[e]at h4;exact⟨a,C,dx,fs,v,Y,h1,h2,h3,e,h4⟩
 |_=>exact False.elim h
def tFld(K:W.Frag)(ta:TE)(f:Str):TE:=λσ H Q=>ta σ H (MFld K f Q)
def sFld(K:W.Frag)(ta tv:TE)(f:Str):TS:=λD σ H=>tv σ H λy H1=>ta σ H1 λx H2=>∃a C dx fs,x=.ref a/\H2 a=some (.ins C dx fs)/\Cls K C/\Xa K C f/\fs.length<1000/\
 D.nx σ (upd H2 a (.ins C dx (putF f y fs)))
section
variable{X:Cx}{o e value:Expr}{f:Str}{pos nv qh:Pos}{ta tv:TE}
def Zz(he:PE X e ta)(hb:attributeBase e f X.env (eval e X.env)=eval e X.env):PE X (.Attribute e f pos) (tFld X.K ta f):=by
 intro j' s σ H Q I h;refine Zrw hb (thn (bz:) λu s1 me=>?_);obtain⟨x,H1,I1,rx,qq⟩:=me;obtain⟨a,C,dx,fs,v,ex,ea,c,n,l,q⟩:=MFld.ex qq;subst ex;obtain rfl:u=Value.ref a:=rx;exact Zko I1 ea c n l λu' s2 I2 ru=>⟨v,H1,I2,ru,q⟩
def Xp(ha:PE X o ta)(hv:PE X value tv)(hs:swapsWith value (some (.Attribute o f nv)) pos.line X.env=pure false):PS X (.Assign [.Attribute o f nv] value pos) (sFld X.K ta tv f):=by
 intro j' s σ H D I h;refine plainObj_wpAny_Assign_Attribute (thn (hv j' s σ H _ I h) λu s1 zz12=>?_) hs;obtain⟨y,H1,I1,ry,q⟩:=zz12;refine thn (ha j' s1 σ H1 _ I1 q) λov s2 zz13=>?_;obtain⟨x,H2,I2,rx,a,C,dx,fs,ex,ea,c,n,l,q2⟩:=zz13;subst ex;obtain rfl:ov=Value.ref a:=rx;exact Za1 I2 ea c n l ry λs3 I3=>⟨σ,_,I3,q2⟩
end
section
variable{X:Cx}{j':List (j:)}{σ:St}{H:Hp}{s:Shared}{A:Around}{E:Value->Shared->Prop}{Q:Value->Shared->Prop}{c:Value}{b:Bool}
inductive TyOf(K:W.Frag)(H:Hp):V->Value->Prop where
 |non:TyOf K H .non (.type "NoneType")
 |bl (x:Bool):TyOf K H (.bl x) (.type "bool")
 |int (i:Int):TyOf K H (.int i) (.type "int")
 |str (x:Str):TyOf K H (.str x) (.type "str")
 |flt (x:UInt64):TyOf K H (.flt x) (.type "float")
 |lst {a:Addr} {xs:List V} (e:H a=some (.lst xs)):TyOf K H (.ref a) (.type "list")
 |frz {a:Addr} {o:Obj} {xs:List V} (e:H a=some (.frz o (.lst xs))):TyOf K H (.ref a) (.type "list")
 |tup {a:Addr} {xs:List V} (e:H a=some (.tup xs)):TyOf K H (.ref a) (.type "tuple")
 |dK {a:Addr} {kvs:List (Key×V)} (e:H a=some (.dK kvs)):TyOf K H (.ref a) (.type "dict")
 |dT {a:Addr} {kvs:List (List Key×V)} (e:H a=some (.dT kvs)):TyOf K H (.ref a) (.type "dict")
 |ins {a C dx:Addr} {fs:List (Str×V)} (e:H a=some (.ins C dx fs)) (cl:Cls K C) (ha:PySem.W.findIn K (.ref C) "__class__"=some (some (.builtin "object.__class__")))
   (hn:PySem.W.specialIn K (.builtin "object.__class__") "__get__"=some (some (.builtin "getset_descriptor.__get__"))) (htk:PySem.W.takesIn K (.builtin "object.__class__")=some true)
   (hm:PySem.W.mroIn K C (.type "object")=some true):TyOf K H (.ref a) (.ref C)
def Zmy(I:Inv X j' σ H s)(rx:RelV x u)(ty:TyOf X.K H x t)(e:PySem.W.kitOne X.K t c=some b)(h:∀tk,Q (.bool b) {s with toks:=tk}):
  wpAny (c:) A (call (.builtin "isinstance") [u,c]) Q E s:=by
 cases ty with
 |non=>cases(show u=Value.none from rx);exact PySem.W.kia_one PySem.W.kitx_none I.kIn True.intro e (W:) h
 |bl y=>cases(show u=Value.bool y from rx);exact PySem.W.kia_one PySem.W.kitx_bool I.kIn True.intro e (W:) h
 |int i=>obtain⟨t,q⟩:=(show ∃t,u=Value.int i t from rx);cases q;exact PySem.W.kia_one PySem.W.kitx_int I.kIn True.intro e (W:) h
 |str y=>obtain⟨t,q⟩:=(show ∃t,u=Value.str y t from rx);cases q;exact PySem.W.kia_one PySem.W.kitx_str I.kIn True.intro e (W:) h
 |flt y=>obtain⟨t,q⟩:=(show ∃t,u=Value.float y t from rx);cases q;exact PySem.W.kia_one PySem.W.kitx_float I.kIn True.intro e (W:) h
 | @lst a xs ea=>
  cases(show u=Value.ref a from rx);obtain⟨_,_,n,_,h1⟩:=(show Yn X.prog X.w H s.heap a (.lst xs)from I.hok a _ ea);exact PySem.W.kia_one PySem.W.kitx_list I.kIn ⟨_,h1,Y⟩ e (W:) h
 | @frz a ob xs ea=>
  cases(show u=Value.ref a from rx);obtain⟨_,_,_,n,_,h1⟩:=(show Yn X.prog X.w H s.heap a (.frz ob (.lst xs))from I.hok a _ ea);exact PySem.W.kia_one PySem.W.kitx_list I.kIn ⟨_,h1,Y⟩ e (W:) h
 | @tup a xs ea=>
  cases(show u=Value.ref a from rx);obtain⟨_,_,_,p⟩:=(show Yn X.prog X.w H s.heap a (.tup xs)from I.hok a _ ea);obtain⟨o,h1,h2,_⟩:=p;exact PySem.W.kia_one PySem.W.kitx_tuple I.kIn ⟨o,h1,h2⟩ e (W:) h
 | @dK a kvs ea=>
  cases(show u=Value.ref a from rx);obtain⟨_,_,vs,_,p⟩:=(show Yn X.prog X.w H s.heap a (.dK kvs)from I.hok a _ ea);obtain⟨o,es,ep,h1,h2,_⟩:=p;exact PySem.W.kia_one PySem.W.kitx_dict I.kIn ⟨o,h1,h2.1⟩ e (W:) h
 | @dT a kvs ea=>
  cases(show u=Value.ref a from rx);obtain⟨_,_,xs,_,o,es,ep,h1,h2,_⟩:=(show Yn X.prog X.w H s.heap a (.dT kvs)from I.hok a _ ea);exact PySem.W.kia_one PySem.W.kitx_dict I.kIn ⟨o,h1,h2.1⟩ e (W:) h
 | @ins a C dx fs ea cl ha hn htk hm=>
  cases(show u=Value.ref a from rx);obtain⟨mA,O,_⟩:=Gv I.hok ea;obtain⟨od,J,_⟩:=O.look;exact PySem.W.kia_one (PySem.W.kitx_own (cl.get _) cl.hd ha hn htk hm) I.kIn J e (W:) h
end
structure Room(k:Nat)(A:Around):Prop where
 hd:A.handled=none
 dp:A.depth+3*k+5<recursionLimit
 un:A.units+16*k+200<cLine
def Room.mono(r:Room k A)(h:j<=k):Room j A:=⟨r.hd,by have:=r.dp;lia,by have:=r.un;lia⟩
def Room.deeper{A:Around}(r:Room (k+1) A)(env:Env):Room k (A.deeper env):=
 ⟨r.hd,by have:=r.dp;show A.depth+1+3*k+5<_;lia,by have:=r.un;show A.units+3+16*k+200<_;lia⟩
def Zkl{A:Around}{us:List Value}{kw:List (Str×Value)}:(b5:).depth=A.depth+1:=by
 first|rfl|simp[Around.under,Code.weight,Code.isCreation,Code.isGuard,Code.isCaller,Code.frames,Code.isFrame,guardIds]
def Zkk{A:Around}{us:List Value}{kw:List (Str×Value)}:(b5:).units=A.units+1:=by
 first|rfl|simp[Around.under,Code.cUnits,Code.frames,Code.isFrame]
def Room.make{A:Around}(r:Room (k+1) A)(C:Addr)(us:List Value)(kw:List (Str×Value)):Room k (b5:):=
 ⟨r.hd,by have:=r.dp;rw[Zkl];lia,by have:=r.un;rw[Zkk];lia⟩
def Room.depth{A:Around}(r:Room k A):A.depth<recursionLimit:=by have:=r.dp;lia
def Room.units{A:Around}(r:Room k A):A.units+64<cLine:=by have:=r.un;lia
def tNil:TA:=λ_ H Q=>Q [] H
def Ztf(x:V)(Q:List V->Hp->Prop)(xs:List V)(H:Hp):Prop:=Q (x::xs) H
def Zus(tr:TA)(σ:St)(Q:List V->Hp->Prop)(x:V)(H:Hp):Prop:=tr σ H (Ztf x Q)
def Zua(ta:TE)(tr:TA):TA:=λσ H Q=>ta σ H (Zus tr σ Q)
section
variable{X:Cx}{e:Expr}{es:List Expr}{te:TE}{t:TA}{pos:Pos}
def Zb:PA X [] tNil:=λ_ _ _ _ H Q I h=>Calls.spliced_nil ⟨[],H,I,.nil,h⟩
def Za(ha:PE X e te)(hr:PA X es t)(hs:starEach (e::es) X.env=(I:)::starEach es X.env:=by rfl):PA X (e::es) (Zua te t):=by
 intro pos j' s σ H Q I h;rw[hs];show wpAny _ _ (spliced ((I:)::backTo pos (starEach es X.env))) _ _ s;refine Calls.spliced_cons (thn (bm:) λu s1 me=>?_);obtain⟨x,H1,I1,r1,q1⟩:=me;refine thn (hr pos j' s1 σ H1 _ I1 q1) λus s2 zz14=>?_;obtain⟨xs,H2,I2,r2,q2⟩:=zz14;exact⟨x::xs,H2,I2,.cons r1 r2,q2⟩
def kNew(o:List V->HO)(Q:VK)(xs:List V)(H:Hp):Prop:=xs.length<=sizeLine/\∀p,H p=none->Q (.ref p) (upd H p (o xs))
def tTup(t:TA):TE:=λσ H Q=>t σ H (kNew .tup Q)
def tLst(t:TA):TE:=λσ H Q=>t σ H (kNew .lst Q)
def Jj{x1}(h:PA X es t):PE X (.Tuple es x1 pos) (tTup t):=by
 intro j' s σ H Q I hq;refine wpAny_Tuple_spliced (thn (h pos j' s σ H _ I hq) λus s1 xv=>?_);obtain⟨xs,H1,I1,r,z,q⟩:=xv;refine⟨by rw[<-r.length];exact z,?_⟩;have hf:H1 s1.heap.objs.size=none:=I1.hok.fresh (An _);refine⟨.ref s1.heap.objs.size,upd H1 s1.heap.objs.size (.tup xs),I1.laid (t':=s1.toks) (λb u e=>Ak _ e) (An _) ?_,Y,q _ hf⟩;exact⟨z,us,r,⟨_,Ap _ Y,Y,_,Y⟩⟩
def Y5(h:PA X es t):PE X (.List es pos) (tLst t):=by
 intro j' s σ H Q I hq;refine wpAny_List_spliced (thn (h pos j' s σ H _ I hq) λus s1 xv=>?_);obtain⟨xs,H1,I1,r,z,q⟩:=xv;refine⟨by rw[<-r.length];exact z,?_⟩;have hf:H1 s1.heap.objs.size=none:=I1.hok.fresh (An _);refine⟨.ref s1.heap.objs.size,upd H1 s1.heap.objs.size (.lst xs),I1.laid (t':=s1.toks) (λb u e=>Ak _ e) (An _) ?_,Y,q _ hf⟩;exact⟨z,us,0,r,Ap _ Y⟩
end
abbrev Sp:=List V->Hp->VK->XK->Prop
abbrev CXT:=List Env->Hp->Shared->XK->Value->Shared->Prop
structure Env0(P:Program)(w:World)(K:W.Frag)(mg:Str->Option Value)(base:Heap)(A:Around)(outer:List Env)(s:Shared)(H:Hp):Prop where
 frames:A.frames=some outer
 mod:Mod K mg base
 bs:∀b o,base.get? b=some o->s.heap.get? b=some o/\H b=none
 bsz:base.objs.size<=s.heap.objs.size
 funs:s.heap.FunFrames base outer
 frf:∀b∈frs outer,H b=none
 hok:HOk P w H s.heap
 bare:AllBare s.gens
def CE(outer:List Env)(P:Program)(w:World)(H:Hp)(s:Shared)(Q:VK)(u:Value)(s':Shared):Prop:=
 ∃v H',s'.os=s.os/\AllBare s'.gens/\Un (frs outer) [] H H' s.heap s'.heap/\HOk P w H' s'.heap/\RelV v u/\Q v H'
def CR(CX:CXT)(outer:List Env)(P:Program)(w:World)(H:Hp)(s:Shared)(Q:VK)(E:XK)(r:Result)(s':Shared):Prop:=
 match r with
 | .ok (.ret u)=>CE outer P w H s Q u s'
 | .ok _=>False
 | .error e=>CX outer H s E e s'
structure FnOk(P:Program)(w:World)(K:W.Frag)(mg:Str->Option Value)(base:Heap)(CX:CXT)(k:Nat)(f:Addr)(fd:FuncData)(ps:List Str)(sp:Sp):Prop where
 len:∀vs H Q E,sp vs H Q E->vs.length=ps.length
 run:∀(A:Around)(outer:List Env)(s:Shared)(H:Hp)(args:Args)(us:List Value)(vs:List V)(Q:VK)(E:XK),Room k A->Env0 P w K mg base A outer s H->BindsTo s fd args (ps.zip us)->Vals vs us->sp vs H Q E ->
  codeAny (aa:) A (.call (.ref f) args) (CR CX outer P w H s Q E) s
def FnOk.mono{P:Program}{w:World}{K:W.Frag}{mg:Str->Option Value}{base:Heap}{CX:CXT}{j k:Nat}{f:Addr}{fd:FuncData}{ps:List Str}{sp:Sp}(F:FnOk P w K mg base CX j f fd ps sp)(h:j<=k):
  FnOk P w K mg base CX k f fd ps sp:=⟨F.len,λA outer s H args us vs Q E hr=>F.run A outer s H args us vs Q E (hr.mono h)⟩
def Env0.make{P:Program}{w:World}{K:W.Frag}{mg:Str->Option Value}{base:Heap}{A:Around}{outer:List Env}{s:Shared}{H:Hp}(e:Env0 P w K mg base A outer s H)(C:Addr)(us:List Value)(kw:List (Str×Value)):
  Env0 P w K mg base (b5:) outer s H:=⟨by first|exact e.frames|(simpa [Around.under,Code.envs,Code.isFrame,pushEnvs] using e.frames),e.mod,e.bs,e.bsz,e.funs,e.frf,e.hok,e.bare⟩
section
variable{X:Cx}{j':List (j:)}{σ:St}{H:Hp}{s s':Shared}
def Inv.env0(I:Inv X j' σ H s):Env0 X.prog X.w X.K X.mg X.base X.A X.stack s H:=
 ⟨I.ok.frames,I.ok.mod,I.bs,Nat.le_trans I.ok.bsz I.sz,I.stack,I.stkFree,I.hok,I.bare⟩
def Inv.after(I:Inv X j' σ H s)(h:CE X.stack X.prog X.w H s Q u s'):EP X j' σ Q u s':=by
 obtain⟨v,H',os,bare,un,hok,r,q⟩:=h;obtain⟨hh,g,d,t,os'⟩:=s';obtain rfl:os'=s.os:=os;exact⟨v,H',I.call (h':=hh) (g':=g) (d':=d) (t':=t) (ch:=[]) un hok bare (λb z=>absurd z (by simp)),r,q⟩
end
def Zp4(sp:Sp)(mz:List V)(Q:VK)(E:XK)(vs:List V)(H:Hp):Prop:=sp (vs++mz) H Q E
def Zpx(sp:Sp)(mz:List V)(E:XK)(t:TA):TE:=λσ H Q=>t σ H (Zp4 sp mz Q E)
def Zp2(sp:Sp)(mz:List V)(Q:VK)(E:XK)(x:V)(vs:List V)(H:Hp):Prop:=sp (x::(vs++mz)) H Q E
inductive MMe(C:Addr)(m:Str)(t:TA)(σ:St)(Q:V->List V->Hp->Prop)(a:Addr)(H:Hp):Prop|mk {dx:Addr} {fs:List (Str×V)}:H a=some (.ins C dx fs)->fs.lookup m=none->t σ H (Q (.ref a))->MMe C m t σ Q a H
def O2(C:Addr)(m:Str)(t:TA)(σ:St)(Q:V->List V->Hp->Prop)(x:V)(H:Hp):Prop:=match x with| .ref a=>MMe C m t σ Q a H|_=>False
def O2.ex{C:Addr}{m:Str}{t:TA}{σ:St}{Q:V->List V->Hp->Prop}{x:V}{H:Hp}(h:O2 C m t σ Q x H):∃a dx fs,x=.ref a/\H a=some (.ins C dx fs)/\fs.lookup m=none/\t σ H (Q x):=by
 cases x with
 |ref a=>obtain⟨h1,h2,h3⟩:=(show MMe C m t σ Q a H from h);exact⟨a,_,_,Y,h1,h2,h3⟩
 |_=>exact False.elim h
def Zpu(C:Addr)(m:Str)(sp:Sp)(mz:List V)(E:XK)(ta:TE)(t:TA):TE:=λσ H Q=>ta σ H (O2 C m t σ (Zp2 sp mz Q E))
def Zt5(C:Addr)(sp:Sp)(mz:List V)(E:XK)(t:TA):TE:=λσ H Q=>t σ H λvs H1=>∀x dx,H1 x=none->H1 dx=none->dx≠x ->
 sp (.ref x::(vs++mz)) (upd (upd H1 dx (.own x)) x (.ins C dx [])) (λv H2=>v=.non/\Q (.ref x) H2) E
def Xx(K:W.Frag)(fd:FuncData)(ps:List Str)(ds:List Value):Prop:=
 ∀(s:Shared)(us:List Value),K.In s.heap->(us++ds).length=ps.length->BindsTo s fd ⟨us,[]⟩ (ps.zip (us++ds))
def Xx.all{K:W.Frag}{fd:FuncData}{ps:List Str}(h:∀us:List Value,us.length=ps.length->bindArgs fd ⟨us,[]⟩=pure (ps.zip us)):Xx K fd ps []:=λs us _ hl=>by
 rw[append_nil]at hl⊢;exact .of_eq (h us hl)
def Uc(CX:CXT)(X:Cx)(E:XK):Prop:=∀(j':List (j:))(σ:St)(H:Hp)(s:Shared)(e:Value)(s':Shared),Inv X j' σ H s->CX X.stack H s E e s'->X.xe e s'
section
variable{X:Cx}{CX:CXT}{k:Nat}{f C:Addr}{fd:FuncData}{ps:List Str}{sp:Sp}{mz:List V}{ds:List Value}{E:XK}{x m:Str}{p pos ml:Pos}{e o:Expr}{es:List Expr}{ta:TE}{t:TA}
def Zgb(F:FnOk X.prog X.w X.K X.mg X.base CX k f fd ps sp)(hr:Room k X.A)(hb:Xx X.K fd ps ds)(hd:Vals mz ds)(hx:Uc CX X E)
  (I:Inv X j' σ H s) (r:Vals vs us) (h:sp (vs++mz) H Q E):wpAny (c:) X.A (call (.ref f) us) (a2:) X.xe s:=by
 have r2:Vals (vs++mz) (us++ds):=r.append hd;have hl:(us++ds).length=ps.length:=by rw[<-r2.length];exact F.len _ _ _ _ h
 refine wpAny_call (codeAny_mono (F.run X.A X.stack s H ⟨us,[]⟩ (us++ds) (vs++mz) Q E hr I.env0 (hb s us I.kIn hl) r2 h) λr s' hq=>?_)
 cases r with
 |error e=>exact hx j' σ H s e s' I hq
 |ok fl=>
  cases fl with
  |ret u=>exact I.after hq
  |next=>exact False.elim hq
  |brk=>exact False.elim hq
  |cont=>exact False.elim hq
def Zra(F:FnOk X.prog X.w X.K X.mg X.base CX k f fd ps sp)(hr:Room k X.A)(hg:Gl X x)(hm:X.mg x=some (.ref f))(hk:PySem.W.keepIn X.K (.ref f)=true)(hb:Xx X.K fd ps ds)(hd:Vals mz ds)(hx:Uc CX X E)
  (ha:PA X (e::es) t) (pd:(J:)=false:=by decide) (he:starEach (e::es) X.env=(I:)::starEach es X.env:=by rfl) (oa:(w:).any (·.1)=false:=by rfl):
  PE X (S:) (Zpx sp mz E t):=by
 intro j' s σ H Q I h;refine wpAny_Call_Name_kw (Jf I hg hm ?_ pd);refine PySem.W.callWith_K (h₀:=X.base) I.ok.mod.kin hk (thn (ha pos j' s σ H _ I h) λus s1 zz15=>?_) he oa;obtain⟨vs,H1,I1,r,q⟩:=zz15;refine⟨I1.kIn,?_⟩;exact Zgb F hr hb hd hx I1 r q
def Xs{pl:Sem Bool}(he:PE X o ta)(c:Cls X.K C)(hm:Meth X.K C m f)(F:FnOk X.prog X.w X.K X.mg X.base CX k f fd ps sp)(hr:Room k X.A)(hb:Xx X.K fd ps ds)(hd:Vals mz ds)(hx:Uc CX X E)(ha:PA X (e::es) t)
  (ou:starEach (e::es) X.env=(I:)::starEach es X.env:=by rfl) (oa:(w:).any (·.1)=false:=by rfl)
  (ht:eval (.Call (.Attribute o m ml) (e :: es) [] pos) X.env=(do
   let ov<-eval o X.env
   standAt ml.atName
   let(f,first)<-holding [ov] (getMethod ov m pl)
   callWith pos f first (backTo pos (starEach (e::es) X.env)) (backToKw pos (keywordEach [] X.env))):=by rfl):
  PE X (.Call (.Attribute o m ml) (e::es) [] pos) (Zpu C m sp mz E ta t):=by
 intro j' s σ H Q I h;refine PySem.W.methodCall_KW (pl:=pl) (thn (bz:) λu s1 zz16=>?_) ht;obtain⟨x,H1,I1,rx,qq⟩:=zz16;obtain⟨a,dx,fs,ex,ea,l,q⟩:=O2.ex qq;subst ex;obtain rfl:u=Value.ref a:=rx;refine Ox I1 ea c hm l ?_;refine PySem.W.callWith_K (first:=[.ref a]) (h₀:=X.base) I.ok.mod.kin hm.kp (thn (ha pos j' s1 σ H1 _ I1 q) λus s2 zz17=>?_) ou oa;obtain⟨vs,H2,I2,r,q2⟩:=zz17;refine⟨I2.kIn,?_⟩;exact Zgb (us:=.ref a::us) (vs:=.ref a::vs) F hr hb hd hx I2 (.cons Y r) q2
def Yr{pl:Sem Bool}(he:PE X o ta)(c:Cls X.K C)(hm:Meth X.K C m f)(F:FnOk X.prog X.w X.K X.mg X.base CX k f fd ps sp)(hr:Room k X.A)(hb:Xx X.K fd ps ds)(hd:Vals mz ds)(hx:Uc CX X E)
  (ht:eval (.Call (.Attribute o m ml) [] [] pos) X.env=(do
   let ov<-eval o X.env
   standAt ml.atName
   let(f,first)<-holding [ov] (getMethod ov m pl)
   callWith pos f first (backTo pos (starEach [] X.env)) (backToKw pos (keywordEach [] X.env))):=by rfl):
  PE X (.Call (.Attribute o m ml) [] [] pos) (Zpu C m sp mz E ta tNil):=by
 intro j' s σ H Q I h;refine PySem.W.methodCall_KW (pl:=pl) (thn (bz:) λu s1 zz18=>?_) ht;obtain⟨x,H1,I1,rx,qq⟩:=zz18;obtain⟨a,dx,fs,ex,ea,l,q⟩:=O2.ex qq;subst ex;obtain rfl:u=Value.ref a:=rx;refine Ox I1 ea c hm l ?_;exact PySem.W.callWith_K0 (first:=[.ref a]) I1.kIn hm.kp (Zgb (us:=[.ref a]) (vs:=[.ref a]) F hr hb hd hx I1 (.cons Y .nil) q)
structure Mk(K:W.Frag)(C f:Addr):Prop where
 makes:PySem.W.makesIn K C=true
 init:PySem.W.findIn K (.ref C) "__init__"=some (some (.ref f))
 fn:PySem.W.isFn K (.ref f)=true
 kp:PySem.W.keepIn K (.ref C)=true
def Zoi(M:Mk X.K C f)(F:FnOk X.prog X.w X.K X.mg X.base CX k f fd ps sp)(hr:Room (k+1) X.A)(hb:Xx X.K fd ps ds)(hd:Vals mz ds)
  (hx:Uc CX X E) (I:Inv X j' σ H s) (r:Vals vs us)
  (h:∀x dx,H x=none->H dx=none->dx≠x->sp (.ref x::(vs++mz)) (upd (upd H dx (.own x)) x (.ins C dx [])) (λv H2=>v=.non/\Q (.ref x) H2) E):
  wpAny (c:) X.A (call (.ref C) us) (a2:) X.xe s:=by
 have hq:=h (v:) s.heap.objs.size (I.hok.fresh (le_succ _)) (I.hok.fresh (An _)) (As (lt_succ_self _));have I2:=Inv.made (C:=C) I;have r2:Vals (V.ref (v:)::(vs++mz)) (Value.ref (v:)::(us++ds)):=.cons rfl (r.append hd);have hl:(Value.ref (v:)::us++ds).length=ps.length:=by
  have e:=r2.length
  rw[F.len _ _ _ _ hq]at e
  exact e.symm
 refine wpAny_call (Zg0 (f:=f) I.kIn M.makes M.init (beq_iff_eq.mp M.fn) (codeAny_mono (F.run _ X.stack _ _ ⟨Value.ref (v:) :: us,[]⟩ (Value.ref (v:) :: (us ++ ds)) _ _ E (hr.make C us [])
  (I2.env0.make C us []) (hb _ (Value.ref (v:)::us) I2.kIn hl) r2 hq) λr s' n9=>?_))
 cases r with
 |error e=>exact hx j' σ _ _ e s' I2 n9
 |ok fl=>
  cases fl with
  |ret u=>
   obtain⟨v,H',I3,rv,ev,q3⟩:=I2.after n9;subst ev;exact⟨rv,⟨V.ref (v:),H',I3,Y,q3⟩⟩
  |next=>exact False.elim n9
  |brk=>exact False.elim n9
  |cont=>exact False.elim n9
def Vk(M:Mk X.K C f)(F:FnOk X.prog X.w X.K X.mg X.base CX k f fd ps sp)(hr:Room (k+1) X.A)(hg:Gl X x)(hm:X.mg x=some (.ref C))(hb:Xx X.K fd ps ds)(hd:Vals mz ds)(hx:Uc CX X E)
  (ha:PA X (e::es) t) (pd:(J:)=false:=by decide) (he:starEach (e::es) X.env=(I:)::starEach es X.env:=by rfl) (oa:(w:).any (·.1)=false:=by rfl):
  PE X (S:) (Zt5 C sp mz E t):=by
 intro j' s σ H Q I h;refine wpAny_Call_Name_kw (Jf I hg hm ?_ pd);refine PySem.W.callWith_K (h₀:=X.base) I.ok.mod.kin M.kp (thn (ha pos j' s σ H _ I h) λus s1 zz19=>?_) he oa;obtain⟨vs,H1,I1,r,q⟩:=zz19;refine⟨I1.kIn,?_⟩;exact Zoi M F hr hb hd hx I1 r q
end
structure FnScope(N P:List Str)(sc:Scope):Prop where
 kind:sc.kind=.function
 co:sc.isCoroutine=false
 gen:sc.isGenerator=false
 nd:N.Nodup
 pre:N.take P.length=P
 par:∀x∈P,sc.names.lookup x=some .local\/sc.names.lookup x=some .cell
 nofree:∀y∈sc.names,y.2≠.free
def Am{N P:List Str}{sc:Scope}(a:sc.kind=.function:=by rfl)(b:sc.isCoroutine=false:=by rfl)(c:sc.isGenerator=false:=by rfl)(d:N.Nodup:=by decide+kernel)(e:N.take P.length=P:=by rfl)(f:∀x∈P,sc.names.lookup x=some .local\/sc.names.lookup x=some .cell:=by decide+kernel)(g:∀y∈sc.names,y.2≠.free:=by decide+kernel):FnScope N P sc:=⟨a,b,c,d,e,f,g⟩
theorem Zd0{kindOf:Str->Option NameKind}{x:Str}:∀{binds:List (Str×Value)}{m:Str->Option Value},(∀v,(x,v)∉binds)->bindL kindOf binds m x=m x
 |[],_,_=>rfl
 |(n,v)::r,m,h=>by
  unfold bindL;rw[Zd0 λw hw=>h w (mem_cons_of_mem _ hw)];split
  ·have:x≠n:=by rintro rfl;exact h v mem_cons_self
   simp[this]
  ·rfl
theorem Zd2{kindOf:Str->Option NameKind}{x:Str}:∀{binds:List (Str×Value)}{m:Str->Option Value},(∀v,(x,v)∉binds)->bindC kindOf binds m x=m x
 |[],_,_=>rfl
 |(n,v)::r,m,h=>by
  unfold bindC;rw[Zd2 λw hw=>h w (mem_cons_of_mem _ hw)];split
  ·rfl
  ·have:x≠n:=by rintro rfl;exact h v mem_cons_self
   simp[this]
theorem Zd1{kindOf:Str->Option NameKind}{x:Str}{v:Value}:∀{P:List Str}{vs:List Value}{i:Nat}{m:Str->Option Value},P.Nodup->P[i]?=some x->vs[i]?=some v->kindOf x=some .local ->
  bindL kindOf (P.zip vs) m x=some v
 |[],_,_,_,_,h,_,_=>by simp at h
 |_::_,[],_,_,_,_,h,_=>by simp at h
 |p::P,w::vs,0,m,nd,h1,h2,hk=>by
  simp at h1 h2;subst h1;subst h2;show bindL kindOf ((p,w)::P.zip vs) m p=_;unfold bindL;rw[Zd0 λv hv=>(nodup_cons.mp nd).1 (of_mem_zip hv).1,if_pos hk];simp
 |p::P,w::vs,i+1,m,nd,h1,h2,hk=>by
  show bindL kindOf ((p,w)::P.zip vs) m x=_;unfold bindL;exact Zd1 (i:=i) (nodup_cons.mp nd).2 (by simpa using h1) (by simpa using h2) hk
theorem Zd3{kindOf:Str->Option NameKind}{x:Str}{v:Value}:∀{P:List Str}{vs:List Value}{i:Nat}{m:Str->Option Value},P.Nodup->P[i]?=some x->vs[i]?=some v->kindOf x≠some .local ->
  bindC kindOf (P.zip vs) m x=some v
 |[],_,_,_,_,h,_,_=>by simp at h
 |_::_,[],_,_,_,_,h,_=>by simp at h
 |p::P,w::vs,0,m,nd,h1,h2,hk=>by
  simp at h1 h2;subst h1;subst h2;show bindC kindOf ((p,w)::P.zip vs) m p=_;unfold bindC;rw[Zd2 λv hv=>(nodup_cons.mp nd).1 (of_mem_zip hv).1,if_neg hk];simp
 |p::P,w::vs,i+1,m,nd,h1,h2,hk=>by
  show bindC kindOf ((p,w)::P.zip vs) m x=_;unfold bindC;exact Zd3 (i:=i) (nodup_cons.mp nd).2 (by simpa using h1) (by simpa using h2) hk
noncomputable def start(N:List Str)(vs:List V):St:=vs.map some++List.replicate (N.length-vs.length) none
noncomputable def cxOf(CX:CXT)(P:Program)(w:World)(K:W.Frag)(mg:Str->Option Value)(base:Heap)(N:List Str)(qual:Str)(scope:Scope)(f:Addr)(cd:Value)(A:Around)(outer:List Env)(s:Shared)(H:Hp)(E:XK):Cx where
 prog:=P
 w:=w
 K:=K
 mg:=mg
 base:=base
 A:=A.deeper (H:)
 N:=N
 s₀:=s
 H₀:=H
 env:=envOfC qual scope s.heap.objs.size f cd
 outer:=outer
 stack:=envOfC qual scope s.heap.objs.size f cd::outer
 ex:=[]
 calm:=true
 fn:=λ_=>true
 pn:=[]
 xe:=λe s'=>wpAny (aa:) (A.deeper (H:)) (leaving (H:) e) (λ_ qd=>CX outer H s E e qd) (λe' qd=>CX outer H s E e' qd) s'
def Zhg{sc:Scope}(h:sc.names.lookup x=some .cell):∃c,(cellsFrom n sc.names []).lookup x=some c:=by
 have q:=PySem.W.cellsFrom_some sc.names n [] (.inl h);exact Option.isSome_iff_exists.mp q
def Zmz{CX:CXT}{P:Program}{w:World}{K:W.Frag}{mg:Str->Option Value}{base:Heap}{N ps:List Str}{qual:Str}{scope:Scope}{f:Addr}{cd:Value}{A:Around}{outer:List Env}{s s1:Shared}{H:Hp}{E:XK}{us:List Value}{vs:List V}
  (S:FnScope N ps scope) (hd:A.handled=none) (e0:Env0 P w K mg base A outer s H) (hl:vs.length=ps.length) (r:Vals vs us)
  (x:InCallC s s.heap.objs.size (bindL (H:).kindOf (ps.zip us) λ_=>none) (cellsFrom (v:) scope.names []) (bindC (H:).kindOf (ps.zip us) λ_=>none) s1):
  Inv (cxOf CX P w K mg base N qual scope f cd A outer s H E) [] (start N vs) H s1:=by
 have oa:ps.length<=N.length:=by have:=congrArg List.length S.pre;rw[Ai]at this;lia
 obtain⟨h1,tk,rfl,hk⟩:=x.done;have noA:∀b:Addr,b∉(cxOf CX P w K mg base N qual scope f cd A outer s H E).ex:=λb z=>absurd (show b∈([]:List Addr)from z) (by simp);refine⟨⟨e0.mod,S.kind,Y,Y,An _,λy z c h1 h2=>?_,λy hy=>?_,λy c _ h=>?_,λ_=>hd,Around.frames_deeper e0.frames,.inr ⟨Y,Y⟩,λb z=>absurd z (noA b),e0.bs,e0.bsz,λb _ _=>noA b,λb z=>absurd z (noA b),e0.funs,e0.frf⟩,
  rfl,e0.bare,Un.kept hk,⟨_,x.toInCall.ns,λi y v h1 h2 h3=>?_⟩,λy c h=>⟨_,x.cell y c h⟩,e0.hok.fresh (An _),λy c h=>?_,λp hp=>absurd (show p∈([]:List (j:))from hp) (by simp),e0.hok.kept hk,?_⟩
 ·exact name_of_addr x.apart (PySem.mem_of_lookup h1) (PySem.mem_of_lookup h2)
 ·have hy:scope.names.lookup y=some .cell\/scope.names.lookup y=some .free:=hy
  rcases hy with hy|hy
  ·exact Zhg hy
  ·exact absurd Y (S.nofree _ (PySem.mem_of_lookup hy))
 ·exact Nat.le_of_lt (x.above y c (PySem.mem_of_lookup h))
 ·have hi:i<vs.length:=by
   unfold start at h2;by_cases hi:i<vs.length
   ·exact hi
   ·rw[getElem?_append_right (by simpa using hi)]at h2
    rw[getElem?_replicate]at h2;split at h2<;>cases h2
  have ha:vs[i]?=some v:=by
   unfold start at h2;rw[Av (by simpa using hi),Ah]at h2
   cases e:vs[i]? with
   |none=>rw[e]at h2;cases h2
   |some a=>rw[e]at h2;cases h2;rfl
  obtain⟨u,hu,rv⟩:=r.get ha;have hp:ps[i]?=some y:=by
   rw[<-S.pre,getElem?_take_of_lt (by lia)];exact h1
  have ndP:ps.Nodup:=by rw[<-S.pre];exact S.nd.sublist (take_sublist _ _)
  refine⟨u,rv,?_⟩
  rcases S.par y (Au hp)with k|k
  ·exact .inl ⟨k,Zd1 ndP hp hu k⟩
  ·obtain⟨c,e⟩:=Zhg (n:=s.heap.objs.size+1) k
   refine .inr ⟨.inl k,c,e,?_⟩;have q:=x.cell y c e;rw[Zd3 ndP hp hu (by show scope.names.lookup y≠_;rw[k];decide)]at q;exact q
 ·exact e0.hok.fresh (Nat.le_of_lt (x.above y c (PySem.mem_of_lookup h)))
 ·unfold start
  show _=N.length;rw[Ae,Ab,length_replicate];lia
def Zey{CX:CXT}{P:Program}{w:World}{K:W.Frag}{mg:Str->Option Value}{base:Heap}{k:Nat}{f:Addr}{name qual:Str}{params:Arguments}{body:List Stmt}{scope:Scope}{dV kV nk pm mh ct oc:Value}{an od:Option Addr}
  {uj:Array (Option Value)} {N ps:List Str} {sp:Sp} (lk:K.lookup f=some ⟨oc,od,.func (PySem.W.fnOf name qual params body scope dV kV nk pm an mh ct),uj⟩) (oo:PySem.W.codeIn K mh qual=true) (S:FnScope N ps scope)
  (len:∀vs H Q E,sp vs H Q E->vs.length=ps.length)
  (nz:∀ (A:Around) (outer:List Env) (s:Shared) (H:Hp) (vs:List V) (Q:VK) (E:XK),Room k (A.deeper (envOfC qual scope s.heap.objs.size f mh))->sp vs H Q E ->
   ∃t,PSs (cxOf CX P w K mg base N qual scope f mh A outer s H E) body t/\t {nx:=λ_ H'=>Q .non H',rt:=Q} (start N vs) H):
  FnOk P w K mg base CX (k+1) f (PySem.W.fnOf name qual params body scope dV kV nk pm an mh ct) ps sp:=by
 refine⟨len,λA outer s H args us vs Q E hr e0 hb r o5=>?_⟩;have hl:=len _ _ _ _ o5;have KX:K.In s.heap:=e0.mod.kin.keeps λb o e=>(e0.bs b o e).1;have lim:s.heap.NoLimit:=e0.mod.nolimit.keeps λb o e=>(e0.bs b o e).1;have hkind:∀y∈ps.zip us,scope.names.lookup y.1=some .local\/(scope.names.lookup y.1=some .cell/\((cellsFrom (v:) scope.names []).lookup y.1).isSome=true):=λ⟨n,v⟩ hy=>by
  rcases S.par n (of_mem_zip hy).1 with q|q
  ·exact .inl q
  ·exact .inr ⟨q,PySem.W.cellsFrom_some _ _ _ (.inl q)⟩
 refine codeAny_call_function hr.depth (KX _ _ lk) Y S.co S.gen Y (PySem.W.codeRec_of KX oo) (hb _ _ _ _ ?_);refine wpAny_newFunctionEnv_cells S.kind hkind λenv he s1 x=>?_;subst he;refine⟨lim.keeps x.toInCall.keep,codeAny_func ?_⟩;obtain⟨t,ht,hq⟩:=nz A outer s H vs Q E (hr.deeper _) o5;have I:Inv (cxOf CX P w K mg base N qual scope f mh A outer s H E) [] (start N vs) H s1:=Zmz S hr.hd e0 hl r x;refine wpAny_mono (ht [] s1 (start N vs) H _ I hq) (λfl s' hs=>?_) λe s' hs=>hs;have m9:∀{σ':St}{H':Hp}{v:V}{u:Value},Inv (cxOf CX P w K mg base N qual scope f mh A outer s H E) [] σ' H' s'->RelV v u->Q v H'->CE outer P w H s Q u s':=
  λ{σ' H' v u}J rv q=>⟨v,H',J.os,J.bare,J.base,J.hok,rv,q⟩
 cases fl with
 |ret u=>
  obtain⟨v,σ',H',J,rv,q⟩:=hs;exact m9 J rv q
 |next=>
  obtain⟨σ',H',J,q⟩:=hs;exact m9 (v:=V.non) (u:=Value.none) J Y q
 |brk=>
  obtain⟨_,_,_,q⟩:=hs;exact False.elim q
 |cont=>
  obtain⟨_,_,_,q⟩:=hs;exact False.elim q
section
variable{X:Cx}{x:Str}{p pos:Pos}{e:Expr}{es:List Expr}{t:TA}{id T:String}{r:List V->Hp->VK->Prop}
def kCB(r:List V->Hp->VK->Prop)(Q:VK)(vs:List V)(H:Hp):Prop:=r vs H Q
def tCB(r:List V->Hp->VK->Prop)(t:TA):TE:=λσ H Q=>t σ H (kCB r Q)
def Ye(hc:Y6 X (.builtin id) r)(hg:Gl X x)(hm:X.mg x=none)(hv:bootBuiltins x=some (.builtin id))(ha:PA X (e::es) t)(hn:x≠"__name__":=by decide)(pd:(J:)=false:=by decide)
  (he:starEach (e::es) X.env=(I:)::starEach es X.env:=by rfl) (oa:(w:).any (·.1)=false:=by rfl):PE X (S:) (tCB r t):=by
 intro j' s σ H Q I h;refine wpAny_Call_Name_kw (Ja I hg hm hv ?_ hn pd);refine PyProof.Rows.callWith_builtin1 (thn (ha pos j' s σ H _ I h) λus s1 zz20=>?_) he oa;obtain⟨vs,H1,I1,r1,q1⟩:=zz20;exact hc j' s1 σ H1 vs us Q I1 r1 q1
def Ys(hc:Y6 X (.type T) r)(hg:Gl X x)(hm:X.mg x=none)(hv:bootBuiltins x=some (.type T))(ha:PA X (e::es) t)(hn:x≠"__name__":=by decide)(pd:(J:)=false:=by decide)
  (he:starEach (e::es) X.env=(I:)::starEach es X.env:=by rfl) (oa:(w:).any (·.1)=false:=by rfl):PE X (S:) (tCB r t):=by
 intro j' s σ H Q I h;refine wpAny_Call_Name_kw (Ja I hg hm hv ?_ hn pd);refine PyProof.Rows.callWith_type1 (thn (ha pos j' s σ H _ I h) λus s1 zz21=>?_) he oa;obtain⟨vs,H1,I1,r1,q1⟩:=zz21;exact hc j' s1 σ H1 vs us Q I1 r1 q1
end
end L2
namespace HT
open PySem PyProof.Rows
section
variable{prog:Program}{w:World}{A:Around}{E:Value->Shared->Prop}{s:Shared}
noncomputable def sIx(n d:Nat):Option Int->Nat
 |none=>d
 |some v=>if v<0 then(v+(n:Int)).toNat else min v.toNat n
def sIx_none(n d:Nat):sIx n d none=d:=rfl
def sIx_nat(n d k:Nat):sIx n d (some (k:Int))=min k n:=by
 show(if(k:Int)<0 then((k:Int)+(n:Int)).toNat else min (k:Int).toNat n)=min k n;rw[if_neg (by lia),Int.toNat_natCast]
end
end HT
namespace L2
open PySem PySem.Spec PyProof.Rows
abbrev TO:=St->Hp->(Option Int->Hp->Prop)->Prop
def PO(X:Cx)(e:Option Expr)(t:TO):Prop:=
 ∀(j':List (j:))(s:Shared)(σ:St)(H:Hp)(Q:Option Int->Hp->Prop),Inv X j' σ H s->t σ H Q ->
  wpAny (c:) X.A (evalPart e X.env) (λu s'=>∃o H',Inv X j' σ H' s'/\IsPart u o/\Q o H') X.xe s
def Zqf:TO:=λ_ H Q=>Q none H
def Zuq(Q:Option Int->Hp->Prop)(x:V)(H:Hp):Prop:=∃i,x=.int i/\Q (some i) H
def Zt3(t:TE):TO:=λσ H Q=>t σ H (Zuq Q)
def J5{ns:List Int}:∀{us:List Value},Vals (T:) us->IntsAre us ns:=by
 induction ns with
 |nil=>intro us r;rw[map_nil]at r;cases r;exact .nil
 |cons n ns ih=>
  intro us r;rw[map_cons]at r
  cases r with
  |cons r1 r2=>
   obtain⟨t,e⟩:=r1;subst e;exact .cons n t (ih r2)
section
variable{X:Cx}{e:Expr}{te:TE}{lo hi:Option Expr}{tl th:TO}{pos p2:Pos}
def Jw:PO X none Zqf:=by
 intro j' s σ H Q I h;rw[evalPart_none];exact wpAny_pure ⟨none,H,I,.none,h⟩
def W6(h:PE X e te):PO X (some e) (Zt3 te):=by
 intro j' s σ H Q I hw;rw[evalPart_some];refine thn (h j' s σ H _ I hw) λu s1 me=>?_;obtain⟨x,H1,I1,r1,q1⟩:=me;obtain⟨i,rfl,q⟩:=q1;obtain⟨t,rfl⟩:=r1;exact⟨some i,H1,I1,.int i t,q⟩
def SlR(X:Cx)(r:V->Option Int->Option Int->Hp->VK->Prop):Prop:=
 ∀(j':List (j:))(s:Shared)(σ:St)(H:Hp)(x:V)(v vl vu:Value)(lo hi:Option Int)(sl:Addr)(Q:VK),Inv X j' σ H s->RelV x v->s.heap.IsSliceOf sl vl vu .none->IsPart vl lo->IsPart vu hi->r x lo hi H Q ->
  ∃T id,typeLookup (.type T) "__getitem__"=pure (some (.builtin id))/\s.TypeIs v T/\wpAny (c:) X.A (getItem v (.ref sl)) (a2:) X.xe s
def tSl(r:V->Option Int->Option Int->Hp->VK->Prop)(te:TE)(tl th:TO):TE:=λσ H Q=>te σ H λx H1=>tl σ H1 λl H2=>th σ H2 λu H3=>r x l u H3 Q
def Wx(hr:SlR X r)(he:PE X e te)(hl:PO X lo tl)(hu:PO X hi th):PE X (.Subscript e (.Slice lo hi none p2) pos) (tSl r te tl th):=by
 intro j' s σ H Q I h;refine Subscript_ (thn (bz:) λv s1 me=>?_);obtain⟨x,H1,I1,r1,q1⟩:=me;refine wpAny_Slice (thn (hl j' s1 σ H1 _ I1 q1) λvl s2 zz22=>?_);obtain⟨l,H2,I2,pl,q2⟩:=zz22;refine thn (hu j' s2 σ H2 _ I2 q2) λvu s3 me=>?_;obtain⟨u,H3,I3,pu,q3⟩:=me;rw[evalPart_none];refine wpAny_pure ?_;have I4:Inv X j' σ H3 {s3 with heap:=s3.heap.push {cls:=.type "slice",data:=.fields #[vl,vu,.none]} }:=I3.kept (t':=s3.toks) λb ob q=>Ak _ q;obtain⟨T,id,hT,ht,hg⟩:=hr j' {s3 with heap:=s3.heap.push {cls:=.type "slice",data:=.fields #[vl,vu,.none]} } σ H3 x v vl vu l u s3.heap.objs.size Q I4 r1 (Heap.IsSliceOf.new ..) pl pu q3;show wpAny (c:) X.A (subscriptTail e (.Slice lo hi none p2) v (.ref s3.heap.objs.size)) (a2:) X.xe {s3 with heap:=s3.heap.push {cls:=.type "slice",data:=.fields #[vl,vu,.none]} };exact tail_any (ops:=[.ref s3.heap.objs.size,v]) ht hT hg (ao:)
noncomputable def cutV(xs:List V)(lo hi:Option Int):List V:=(xs.drop (HT.sIx xs.length 0 lo)).take (HT.sIx xs.length xs.length hi-HT.sIx xs.length 0 lo)
def Zih(xs:List V)(lo hi:Option Int):(cutV xs lo hi).length<=xs.length:=by
 unfold cutV;rw[Ai,length_drop];lia
end
noncomputable def ixN(n:Nat)(i:Int):Option Nat:=if 0<=i then(if i<n then some i.toNat else none)else if -(n:Int)<=i then some (i+n).toNat else none
noncomputable def atI{α:Type}(xs:List α)(i:Int):Option α:=(ixN xs.length i).bind λj=>xs[j]?
def Zja(h:ixN n i=some j):seqIndex? i n=some j/\j<n/\-(n:Int)<=i/\i<n:=by
 unfold ixN at h;by_cases h0:0<=i
 ·rw[if_pos h0]at h
  by_cases h1:i<n
  ·rw[if_pos h1]at h
   have e:i.toNat=j:=Ax h;exact⟨by rw[seqIndex_of h0 h1,e],by lia,by lia,h1⟩
  ·rw[if_neg h1]at h;cases h
 ·rw[if_neg h0]at h
  by_cases h1:-(n:Int)<=i
  ·rw[if_pos h1]at h
   have e:(i+n).toNat=j:=Ax h;exact⟨by rw[seqIndex_neg (by lia) h1,e],by lia,h1,by lia⟩
  ·rw[if_neg h1]at h;cases h
def Zjh{α:Type}{xs:List α}{i:Int}{v:α}(h:atI xs i=some v):∃j,seqIndex? i xs.length=some j/\xs[j]?=some v/\j<xs.length/\-(xs.length:Int)<=i/\i<xs.length:=by
 unfold atI at h
 cases e:ixN xs.length i with
 |none=>rw[e]at h;cases h
 |some j=>
  rw[e]at h;obtain⟨h1,h2,h3,h4⟩:=Zja e;exact⟨j,h1,h,h2,h3,h4⟩
def Wm{α:Type}{xs:List α}{j:Nat}{v:α}(h:xs[j]?=some v):atI xs (j:Int)=some v:=by
 have hj:j<xs.length:=(Aa h).1;have e:ixN xs.length (j:Int)=some j:=by
  unfold ixN
  rw[if_pos (by lia),if_pos (by lia)];simp
 unfold atI;rw[e];exact h
def Zr0(b:Expr):Prop:=∀o i,subscripted b false o i=operate [o,i] (getItem o i)
def IxR(X:Cx)(r:R2):Prop:=
 ∀(value o0:Expr)(j':List (j:))(s:Shared)(σ:St)(H:Hp)(x y:V)(v u:Value)(Q:VK),Inv X j' σ H s->RelV x v->RelV y u->r x y H Q ->
  subscripted o0 false v u=operate [v,u] (getItem v u)->wpAny (c:) X.A (subscriptTail value o0 v u) (a2:) X.xe s
def MtR(X:Cx)(id:String)(r:V->List V->Hp->VK->Prop):Prop:=
 ∀(j':List (j:))(s:Shared)(σ:St)(H:Hp)(x:V)(xs:List V)(v:Value)(us:List Value)(Q:VK),Inv X j' σ H s->RelV x v->Vals xs us->r x xs H Q ->
  wpAny (c:) X.A (call (.builtin id) (v::us)) (a2:) X.xe s
section
variable{X:Cx}{a b:Expr}{ta tb:TE}{pos:Pos}
def Zr(hr:IxR X r)(ha:PE X a ta)(hb:PE X b tb)(hs:Zr0 b):PE X (.Subscript a b pos) (tOp r ta tb):=by
 intro j' s σ H Q I h;exact Subscript_ (binT ha hb I h λv u s2 x y H2 I2 rx ry q=>hr a b j' s2 σ H2 x y v u Q I2 rx ry q (hs _ _))
inductive MIxs(S:Hp->Addr->List V->Prop)(p:Addr)(i:Int)(H:Hp)(Q:VK):Prop|mk {xs:List V} {v:V}:S H p xs->atI xs i=some v->Q v H->MIxs S p i H Q
def MIx(S:Hp->Addr->List V->Prop)(x y:V)(H:Hp)(Q:VK):Prop:=match x,y with| .ref p,.int i=>MIxs S p i H Q|_,_=>False
def MIx.ex{S:Hp->Addr->List V->Prop}{x y:V}{H:Hp}{Q:VK}(h:MIx S x y H Q):∃p xs i v,x=.ref p/\y=.int i/\S H p xs/\atI xs i=some v/\Q v H:=match x,y,h with| .ref p,.int i,⟨a,b,c⟩=>⟨p,_,i,_,rfl,rfl,a,b,c⟩
def rIxL(K:W.Frag):R2:=MIx (SqL K)
def rIxT(K:W.Frag):R2:=MIx (SqT K)
def Zs:IxR X (rIxL X.K):=by
 intro value o0 j' s σ H x y v u Q I rx ry h hs;obtain⟨p,xs,i,z,rfl,rfl,hq,he,q⟩:=MIx.ex h;cases rx;obtain⟨t,rfl⟩:=ry;obtain⟨its,r,pl,hz⟩:=I.list hq;obtain⟨j,h1,h2,h3,h4,h5⟩:=Zjh he;obtain⟨w,ew,qr⟩:=r.get h2;have hl:=r.length;have hn:=V6;have m9:EP X j' σ Q w s:=⟨z,H,I,qr,q⟩;by_cases h0:0<=i
 ·have hj:i.toNat=j:=by
   rw[seqIndex_of h0 h5]at h1;exact Ax h1
  exact item_listR pl.isList h0 (by lia) (by rw[hj];simpa using ew) m9 hs
 ·have hj:(i+(its.toArray.size:Int)).toNat=j:=by
   rw[seqIndex_neg (by lia) h4]at h1;rw[Aq,<-hl];exact Ax h1
  exact subscriptTail_builtinR (x:=w) pl.isList.typeIs slot_list_getitem.lookup
   (wpAny_getItem_list_neg (Q:=λr s'=>r=w/\EP X j' σ Q r s') pl.isList (by lia) (by rw[Aq]<;>lia) (by lia) (by rw[hj];simpa using ew) ⟨rfl,m9⟩) hs
def Xf:IxR X (rIxT X.K):=by
 intro value o0 j' s σ H x y v u Q I rx ry h hs;obtain⟨p,xs,i,z,rfl,rfl,hq,he,q⟩:=MIx.ex h;cases rx;obtain⟨t,rfl⟩:=ry;obtain⟨its,r,pl,hz⟩:=I.tuple hq;obtain⟨j,h1,h2,h3,h4,h5⟩:=Zjh he;obtain⟨w,ew,qr⟩:=r.get h2;have hl:=r.length;have hn:=V6;have m9:EP X j' σ Q w s:=⟨z,H,I,qr,q⟩;exact subscriptTail_builtinR (x:=w) pl.typeIs slot_tuple_getitem.lookup
  (getItem_tuple (j:=j) (Q:=λr s'=>r=w/\EP X j' σ Q r s') pl (by lia) (by lia) (by rw[Aq,<-hl];exact h1) (by simpa using ew) ⟨Y,m9⟩) hs
def Zkj(its:List Value)(n j:Nat)(u:Value):Obj.mapSeq (·.setIfInBounds j u) {cls:=.type "list",data:=.seq its.toArray n}={cls:=.type "list",data:=.seq (its.set j u).toArray n}:=by
 simp[Obj.mapSeq]
def Inv.lst{s:Shared}{xs:List V}(I:Inv X j' σ H s)(h:H p=some (.lst xs)):
  ∃(its:List Value)(n:Nat),Vals xs its/\s.heap.get? p=some {cls:=.type "list",data:=.seq its.toArray n}/\xs.length<=sizeLine:=by
 obtain⟨z,its,n,r,e⟩:=I.hok p _ h;exact⟨its,n,r,e,z⟩
def Inv.lstUpd{s:Shared}{ys:List V}{its its':List Value}(I:Inv X j' σ H s)(h:H p=some (.lst xs))
  (ho:s.heap.get? p=some {cls:=.type "list",data:=.seq its.toArray n}) (hf:f {cls:=.type "list",data:=.seq its.toArray n}={cls:=.type "list",data:=.seq its'.toArray n' }) (r:Vals ys its') (hz:ys.length<=sizeLine) (t:Nat):
  Inv X j' σ (upd H p (.lst ys)) {s with heap:=s.heap.update p f,toks:=t}:=by
 have e:(s.heap.update p f).get? p=some {cls:=.type "list",data:=.seq its'.toArray n' }:=by
  rw[Heap.get?_update_self f ho (by rw[hf]<;>rfl),hf]
 refine I.write (x:=p) (e:=p) (by rw[h];trivial) (.inl rfl) (λb u hb q=>(Heap.get?_update_other _ _ (Ne.symm hb)).trans q) ⟨_,e⟩ ?_;exact⟨hz,its',n',r,e⟩
def Zuh:V->V->V->Hp->(Hp->Prop)->Prop:=λo i v H Q=>∃p xs k j,o=.ref p/\i=.int k/\H p=some (.lst xs)/\ixN xs.length k=some j/\Q (upd H p (.lst (xs.set j v)))
def Qb:PSet X Zuh:=by
 intro j' s σ H o i v ov iv u Q I ro ri rv h;obtain⟨p,xs,k,j,rfl,rfl,hp,hj,q⟩:=h;cases ro;obtain⟨t,rfl⟩:=ri;obtain⟨its,n,r,ho,hz⟩:=I.lst hp;obtain⟨h1,h2,h3,h4⟩:=Zja hj;have hl:=r.length;have hn:=V6;have I':Inv X j' σ (upd H p (.lst (xs.set j v))) {s with heap:=s.heap.update p (Obj.mapSeq (·.setIfInBounds j u))}:=
  I.lstUpd hp ho (Zkj its n j u) (r.set rv j) (by rw[length_set];exact hz) s.toks
 by_cases h0:0<=k
 ·have hk:k.toNat=j:=by
   rw[seqIndex_of h0 h4]at h1;exact Ax h1
  exact PySem.W.ki_setAt ho h0 (by lia) (by rw[Aq,<-hl];exact h4) (by rw[hk];exact⟨_,I',q⟩)
 ·have hk:(k+(its.toArray.size:Int)).toNat=j:=by
   rw[seqIndex_neg (by lia) h3]at h1;rw[Aq,<-hl];exact Ax h1
  exact PySem.W.ki_setBack ho (by lia) (by rw[Aq,<-hl];exact h3) (by lia) (by rw[hk];exact⟨_,I',q⟩)
def Zfl(lo hi:Option Int)(n:Nat):(sliceBounds lo hi none n).1=((HT.sIx n 0 lo:Nat):Int)/\(sliceBounds lo hi none n).2.1=((HT.sIx n n hi:Nat):Int)/\(sliceBounds lo hi none n).2.2=1:=by
 refine⟨?_,?_,Y⟩
 ·cases lo with
  |none=>simp[sliceBounds,HT.sIx]
  |some i=>
   simp only[sliceBounds,HT.sIx,Option.getD_none,show(1:Int)>0 by decide,if_true];by_cases h:i<0
   ·simp only[h,if_true]<;>lia
   ·simp only[h,if_false]<;>lia
 ·cases hi with
  |none=>simp[sliceBounds,HT.sIx]
  |some i=>
   simp only[sliceBounds,HT.sIx,Option.getD_none,show(1:Int)>0 by decide,if_true];by_cases h:i<0
   ·simp only[h,if_true]<;>lia
   ·simp only[h,if_false]<;>lia
def Zea(its:List Value)(lo hi:Option Int):slicePick its.toArray lo hi none=((its.drop (HT.sIx its.length 0 lo)).take (HT.sIx its.length its.length hi-HT.sIx its.length 0 lo)).toArray:=by
 obtain⟨h1,h2,h3⟩:=Zfl lo hi its.toArray.size;unfold slicePick;rw[h1,h2,h3];simp only[sliceRange_one,pick_run,Aq]<;>rfl
def rSlL(K:W.Frag):V->Option Int->Option Int->Hp->VK->Prop:=λx lo hi H Q=>∃a xs,x=.ref a/\SqL K H a xs/\∀p,H p=none->Q (.ref p) (upd H p (.lst (cutV xs lo hi)))
def Jd:SlR X (rSlL X.K):=by
 intro j' s σ H x v vl vu lo hi sl Q I rx hs pl pu h;obtain⟨a,xs,rfl,hx,q⟩:=h;cases rx;obtain⟨its,r,ht,hz⟩:=I.list hx;have l9:=r.length;refine⟨"list",_,slot_list_getitem.lookup,ht.isList.typeIs,?_⟩;refine wpAny_getItem_list_slice ht.isList hs pl pu .none (by simp) ?_ (by rw[Aq]<;>lia);rw[Zea,<-l9];refine⟨.ref s.heap.objs.size,_,I.laid (t':=s.toks) (o:=.lst (cutV xs lo hi)) (λb ob q=>Ak _ q) (An _) ?_,Y,q _ (I.hok.fresh (An _))⟩;exact⟨Nat.le_trans (Zih xs lo hi) hz,_,0,(r.drop (HT.sIx xs.length 0 lo)).take (HT.sIx xs.length xs.length hi-HT.sIx xs.length 0 lo),Ap _ Y⟩
noncomputable def Vd:V->Bool
 | .non=>true
 | .bl _=>true
 | .int _=>true
 | .str _=>true
 |_=>false
noncomputable def eqV:V->V->Bool
 | .non,.non=>true
 | .bl a,.bl b=>a==b
 | .bl a,.int b=>(if a then 1 else 0)==b
 | .int a,.bl b=>a==(if b then 1 else 0)
 | .int a,.int b=>a==b
 | .str a,.str b=>a==b
 |_,_=>false
def Ztj{A:Around}{s:Shared}{y x:V}{u v:Value}(ry:RelV y u)(rx:RelV x v)(fy:Vd y=true)(fx:Vd x=true):SeqAt.EqAt A s u v (eqV y x):=by
 cases y with
 |non=>
  cases ry
  cases x with
  |non=>cases rx;exact SeqAt.EqAt.same _
  |bl b=>cases rx;exact SeqAt.EqAt.none_bool b
  |int b=>obtain⟨t,rfl⟩:=rx;exact SeqAt.EqAt.none_int b t
  |str b=>obtain⟨t,rfl⟩:=rx;exact SeqAt.EqAt.none_str b t
  |_=>exact absurd (show false=true from fx) Bool.false_ne_true
 |bl a=>
  cases ry
  cases x with
  |non=>cases rx;exact SeqAt.EqAt.bool_none a
  |bl b=>cases rx;exact SeqAt.EqAt.bool_bool a b
  |int b=>obtain⟨t,rfl⟩:=rx;exact SeqAt.EqAt.bool_int a b t
  |str b=>obtain⟨t,rfl⟩:=rx;exact SeqAt.EqAt.bool_str a b t
  |_=>exact absurd (show false=true from fx) Bool.false_ne_true
 |int a=>
  obtain⟨t',rfl⟩:=ry
  cases x with
  |non=>cases rx;exact SeqAt.EqAt.int_none a t'
  |bl b=>cases rx;exact SeqAt.EqAt.int_bool a t' b
  |int b=>obtain⟨t,rfl⟩:=rx;exact SeqAt.EqAt.int_int a t' b t
  |str b=>obtain⟨t,rfl⟩:=rx;exact SeqAt.EqAt.int_str a t' b t
  |_=>exact absurd (show false=true from fx) Bool.false_ne_true
 |str a=>
  obtain⟨t',rfl⟩:=ry
  cases x with
  |non=>cases rx;exact SeqAt.EqAt.str_none a t'
  |bl b=>cases rx;exact SeqAt.EqAt.str_bool a t' b
  |int b=>obtain⟨t,rfl⟩:=rx;exact SeqAt.EqAt.str_int a t' b t
  |str b=>obtain⟨t,rfl⟩:=rx;exact SeqAt.EqAt.str_str a t' b t
  |_=>exact absurd (show false=true from fx) Bool.false_ne_true
 |_=>exact absurd (show false=true from fy) Bool.false_ne_true
noncomputable def eqU(x:V)(u:Value):Bool:=match u with
 | .none=>eqV .non x
 | .bool b=>eqV (.bl b) x
 | .int i _=>eqV (.int i) x
 | .str z _=>eqV (.str z) x
 |_=>false
def Znf{x y:V}{u:Value}(r:RelV y u)(f:Vd y=true):eqU x u=eqV y x:=by
 cases y with
 |non=>cases r;rfl
 |bl b=>cases r;rfl
 |int i=>obtain⟨t,rfl⟩:=r;rfl
 |str z=>obtain⟨t,rfl⟩:=r;rfl
 |_=>exact absurd (show false=true from f) Bool.false_ne_true
theorem Zcw{x:V}:∀{xs:List V}{us:List Value},Vals xs us->xs.all Vd=true->us.any (eqU x)=xs.any λy=>eqV y x
 |_,_,.nil,_=>rfl
 |y::xs,u::us,.cons r t,f=>by
  rw[all_cons,Bool.and_eq_true]at f;rw[any_cons,any_cons,Znf r f.1,Zcw t f.2]
theorem Zag{A:Around}{s:Shared}{x:V}{v:Value}(rx:RelV x v)(fx:Vd x=true):∀{xs:List V}{us:List Value},Vals xs us->xs.all Vd=true->∀u∈us,SeqAt.EqAt A s u v (eqU x u)
 |_,_,.nil,_=>λu hu=>by cases hu
 |y::xs,u::us,.cons r t,f=>λu' hu=>by
  rw[all_cons,Bool.and_eq_true]at f
  rcases Ar hu with rfl|hu
  ·rw[Znf r f.1];exact Ztj r rx f.1 fx
  ·exact Zag rx fx t f.2 u' hu
noncomputable def inV(x:V)(xs:List V):Bool:=xs.any λy=>eqV y x
def rIn(K:W.Frag)(neg:Bool):R2:=λx y H Q=>∃p xs,y=.ref p/\(SqL K H p xs\/SqT K H p xs)/\Vd x=true/\xs.all Vd=true/\Q (.bl (if neg then !inV x xs else inV x xs)) H
def K3:OpR X (compareOp .In) (rIn X.K false):=by
 intro j' s σ H x y v u Q I rx ry h;obtain⟨p,xs,rfl,hq,fx,fs,q⟩:=h;cases ry
 rcases hq with hq|hq
 ·obtain⟨its,r,pl,hz⟩:=I.list hq
  refine SeqAt.in_listAt (eqU x) pl.isList (λw hw=>Zag rx fx r fs w (by simpa using hw)) ⟨.bl _,H,I,Y,?_⟩;rw[show its.toArray.any (eqU x)=its.any (eqU x) by simp,Zcw r fs];exact q
 ·obtain⟨its,r,pl,hz⟩:=I.tuple hq
  refine SeqAt.in_tupleAt (eqU x) pl (λw hw=>Zag rx fx r fs w (by simpa using hw)) ⟨.bl _,H,I,Y,?_⟩;rw[show its.toArray.any (eqU x)=its.any (eqU x) by simp,Zcw r fs];exact q
def Zhi:Y6 X (.builtin "len") (λxs H Q=>∃p ys,xs=[.ref p]/\(SqL X.K H p ys\/SqT X.K H p ys)/\Q (.int ys.length) H):=by
 intro j' s σ H xs us Q I r h;obtain⟨p,ys,rfl,hq,q⟩:=h;obtain⟨u,rfl,rx⟩:=Xb r;cases rx;have hn:=V6
 rcases hq with hq|hq
 ·obtain⟨its,r',pl,hz⟩:=I.list hq
  have l9:=r'.length;exact Calls.call_len_list pl.isList (by simp only[Aq]<;>lia) ⟨.int ys.length,H,I.tok _,⟨s.toks+1,by rw[Aq,l9]⟩,q⟩
 ·obtain⟨its,r',pl,hz⟩:=I.tuple hq
  have l9:=r'.length;exact len_tuple pl (by simp only[Aq]<;>lia) ⟨.int ys.length,H,I.tok _,⟨s.toks+1,by rw[Aq,l9]⟩,q⟩
def Gi:Y6 X (.builtin "len") (λxs H Q=>∃z,xs=[.str z]/\z.length<=sizeLine/\Q (.int z.length) H):=by
 intro j' s σ H xs us Q I r h;obtain⟨z,rfl,hz,q⟩:=h;obtain⟨u,rfl,t,rfl⟩:=Xb r;have hn:=V6;exact len_str (by lia) ⟨.int z.length,H,I.tok _,⟨_,Y⟩,q⟩
def J9:Y6 X (.type "list") (λxs H Q=>∃p ys,xs=[.ref p]/\(SqL X.K H p ys\/SqT X.K H p ys)/\∀l,H l=none->Q (.ref l) (upd H l (.lst ys))):=by
 intro j' s σ H xs us Q I r h;obtain⟨p,ys,rfl,hq,q⟩:=h;obtain⟨u,rfl,rx⟩:=Xb r;cases rx;have m9:∀(its:List Value),Vals ys its->ys.length<=sizeLine->∀(h':Heap)(c':Nat),(∀b o',s.heap.get? b=some o'->h'.get? b=some o') ->
   h'.get? s.heap.objs.size=some {cls:=.type "list",dict:=none,data:=.seq its.toArray c',slots:=#[]}->EP X j' σ Q (C:) {s with heap:=h' }:=λits r' hz h' c' kp e=>
  ⟨.ref s.heap.objs.size,_,I.laid (t':=s.toks) kp (An _) (show Yn X.prog X.w _ h' _ (.lst ys) from⟨hz,its,c',r',e⟩),rfl,q _ (I.hok.fresh (An _))⟩
 rcases hq with hq|hq
 ·obtain⟨its,r',pl,hz⟩:=I.list hq
  have l9:=r'.length;obtain⟨o,ho,hc,n,hd⟩:=pl.isList;exact call_list_seq p (.inl Y) ho hc hd (λh' c' kp e=>m9 its r' hz h' c' kp e) (by simp only[Aq]<;>lia)
 ·obtain⟨its,r',pl,hz⟩:=I.tuple hq
  have l9:=r'.length;obtain⟨o,ho,hc,n,hd⟩:=pl;exact call_list_seq p (.inr Y) ho hc hd (λh' c' kp e=>m9 its r' hz h' c' kp e) (by simp only[Aq]<;>lia)
def Zes:Y6 X (.type "tuple") (λxs H Q=>∃p ys,xs=[.ref p]/\((SqL X.K H p ys/\∀l,H l=none->Q (.ref l) (upd H l (.tup ys)))\/(SqT X.K H p ys/\Q (.ref p) H))):=by
 intro j' s σ H xs us Q I r h;obtain⟨p,ys,rfl,h⟩:=h;obtain⟨u,rfl,rx⟩:=Xb r;cases rx
 rcases h with ⟨hq,q⟩|⟨hq,q⟩
 ·obtain⟨its,r',pl,hz⟩:=I.list hq
  have l9:=r'.length;refine call_tuple_list pl.isList (λh' kp=>?_) (by simp only[Aq]<;>lia);have I1:Inv X j' σ H {s with heap:=h' }:=I.kept (t':=s.toks) kp;have I2:Inv X j' σ (upd H h'.objs.size (.tup ys)) {s with heap:=h'.push {cls:=.type "tuple",data:=.seq its.toArray} }:=
   I1.laid (t':=s.toks) (λb o e=>Ak _ e) (An _) (show Yn X.prog X.w _ _ _ (.tup ys) from⟨hz,its,r',IsTup.new _ _⟩)
  exact⟨.ref h'.objs.size,_,I2,Y,q _ (I1.hok.fresh (An _))⟩
 ·obtain⟨its,r',pl,hz⟩:=I.tuple hq
  exact call_tuple_same pl ⟨.ref p,H,I,Y,q⟩
def tyV(K:W.Frag)(T:String)(x:V)(H:Hp):Prop:=match x with
 | .str _=>T="str"
 | .int _=>T="int"
 | .ref p=>(T="list"/\∃xs,SqL K H p xs)\/(T="tuple"/\∃o,K.lookup p=some o/\o.cls=.type "tuple"/\o.dict=none)\/
   (T="dict"/\((∃kvs,H p=some (.dK kvs))\/∃kvs,H p=some (.dT kvs)))\/(T="set"/\∃S n,H p=some (.set S n))
 |_=>False
def Zk3{s:Shared}(I:Inv X j' σ H s)(r:RelV x v)(ty:tyV X.K T x H):
  s.TypeIs v T/\∀a,v=.ref a->∃ob,s.heap.get? a=some ob/\ob.dict=none:=by
 cases x with
 |str z=>
  obtain⟨t,rfl⟩:=r;cases(show T="str" from ty);exact⟨typeIs_str s z t,λ_ e=>nomatch e⟩
 |int i=>
  obtain⟨t,rfl⟩:=r;cases(show T="int" from ty);exact⟨typeIs_int s i t,λ_ e=>nomatch e⟩
 |ref p=>
  cases r
  rcases ty with ⟨rfl,xs,hq⟩|⟨rfl,o,hk,hc,hd⟩|⟨rfl,hk⟩|⟨rfl,S,n,hk⟩
  ·obtain⟨its,_,pl,_⟩:=I.list hq
   refine⟨pl.isList.typeIs,λa e=>?_⟩;cases e;obtain⟨o,n,e,c,hd,_⟩:=pl;exact⟨o,e,hd⟩
  ·refine⟨⟨o,I.kIn p o hk,hc⟩,λa e=>?_⟩
   cases e;exact⟨o,I.kIn _ o hk,hd⟩
  ·have z:∃o,s.heap.get? p=some o/\o.ExactDict:=by
    rcases hk with ⟨kvs,hk⟩|⟨kvs,hk⟩
    ·obtain⟨_,_,_,_,o,_,_,e,ex,_⟩:=I.hok p _ hk
     exact⟨o,e,ex⟩
    ·obtain⟨_,_,_,_,o,_,_,e,ex,_⟩:=I.hok p _ hk
     exact⟨o,e,ex⟩
   obtain⟨o,e,ex⟩:=z;refine⟨⟨o,e,ex.1⟩,λa e2=>?_⟩;cases e2;exact⟨o,e,ex.2.1⟩
  ·obtain⟨o,_,_,_,e,ex,_⟩:=I.hok p _ hk
   refine⟨⟨o,e,ex.1⟩,λa e2=>?_⟩;cases e2;exact⟨o,e,ex.2.1⟩
 |_=>exact False.elim ty
def kBM2(r:V->List V->Hp->VK->Prop)(x:V)(Q:VK)(xs:List V)(H:Hp):Prop:=r x xs H Q
def kBM(K:W.Frag)(T:String)(r:V->List V->Hp->VK->Prop)(t:TA)(σ:St)(Q:VK)(x:V)(H:Hp):Prop:=tyV K T x H/\t σ H (kBM2 r x Q)
def tBM(K:W.Frag)(T:String)(r:V->List V->Hp->VK->Prop)(to:TE)(t:TA):TE:=λσ H Q=>to σ H (kBM K T r t σ Q)
variable{o e:Expr}{es:List Expr}{to:TE}{t:TA}{name:Str}{ml mf:Pos}{T id:String}{r:V->List V->Hp->VK->Prop}
def Wa(pa:PlainAttrs T)(slot:Slot T name id)(hty:typeOf (.builtin id)=pure (.type "method_descriptor"))(hm:MtR X id r)(ho:PE X o to)(ha:PA X (e::es) t)
  (rc:attributeBase o name X.env (eval o X.env)=eval o X.env:=by rfl)
  (u5:((backTo mf (starEach (e :: es) X.env)).all (λx=>!x.1) && (backToKw mf (keywordEach [] X.env)).all (λx=>x.1.isSome)
   && decide ((e::es).length+([]:List Keyword).length+(if([]:List Keyword).isEmpty then 0 else 1)<30))=true:=by rfl)
  (qz:(ml.endLine==mf.line)=true:=by rfl) (hs:starEach (e::es) X.env=(I:)::starEach es X.env:=by rfl) (si:(backTo mf (starEach es X.env)).any (·.1)=false:=by rfl):
  PE X (.Call (.Attribute o name ml) (e::es) [] mf) (tBM X.K T r to t):=by
 intro j' s σ H Q I h;refine wpAny_Call_method_late rc u5 qz Y (thn (ho j' s σ H _ I h) λv s1 me=>?_);obtain⟨x,H1,I1,r1,ty,q1⟩:=me;obtain⟨h1,h2⟩:=Zk3 I1 r1 ty;refine⟨T,id,pa,slot,hty,h1,h2,?_⟩;have hA:=ha mf j' s1 σ H1 _ I1 q1;rw[hs]at hA⊢;refine Calls.callWith_builtin (by show(false||(backTo mf (starEach es X.env)).any (·.1))=false;rw[si]<;>rfl) (Calls.evalArgs_plain ?_);refine thn hA λus s2 zz23=>?_;obtain⟨vs,H2,I2,r2,q2⟩:=zz23;exact hm j' s2 σ H2 x vs v us Q I2 r1 r2 q2
end
def MtM(X:Cx)(id:String)(r:V->List V->Hp->VK->Prop):Prop:=
 ∀(j':List (j:))(s:Shared)(σ:St)(H:Hp)(x:V)(xs:List V)(v:Value)(us:List Value)(Q:VK),Inv X j' σ H s->RelV x v->Vals xs us->r x xs H Q ->
  wpAny (c:) X.A (call (.builtin id) (v::us)) (a2:) X.xe s
def Vals.one(h:Vals [x] us):∃u,us=[u]/\RelV x u:=by
  cases h with
  |cons r t=>cases t;exact⟨_,Y,r⟩
def Vals.two(h:Vals [x,y] us):∃u v,us=[u,v]/\RelV x u/\RelV y v:=by
  cases h with
  |cons r t=>
    obtain⟨v,rfl,q⟩:=Vals.one t;exact⟨_,v,Y,r,q⟩
theorem Vals.eraseIdx:∀{xs:List V}{us:List Value}(i:Nat),Vals xs us->Vals (xs.eraseIdx i) (us.eraseIdx i)
 |_,_,_,.nil=>.nil
 |_,_,0,.cons _ t=>t
 |_,_,i+1,.cons r t=>.cons r (Vals.eraseIdx i t)
theorem Vals.rep(h:Vals xs us):∀k:Nat,Vals (List.replicate k xs).flatten (List.replicate k us).flatten
 |0=>.nil
 |k+1=>by
  rw[replicate_succ,replicate_succ,flatten_cons,flatten_cons];exact Vals.append h (Vals.rep h k)
theorem Zdq{α:Type}:∀(l:List α)(i:Nat),(l.eraseIdx i).length<=l.length
 |[],_=>An _
 |_::_,0=>le_succ _
 |_::r,i+1=>succ_le_succ (Zdq r i)
theorem Zdu(its:List Value):∀(k:Nat)(md:List Value),
  List.foldl (λx1 x2=>x1++x2) md.toArray (List.replicate k its.toArray)=(md++(List.replicate k its).flatten).toArray
 |0,md=>by simp
 |k+1,md=>by
  have e:md.toArray++its.toArray=(md++its).toArray:=by simp
  have e2:(md++its)++(List.replicate k its).flatten=md++(List.replicate (k+1) its).flatten:=by
   rw[replicate_succ,flatten_cons,append_assoc]
  rw[<-e2,<-Zdu its k (md++its),<-e,replicate_succ,foldl_cons]
section
variable{X:Cx}{j':List (j:)}{σ:St}{H:Hp}{s:Shared}{l b:Addr}{xs ys zs:List V}
def Inv.lset{its its':List Value}{t':Nat}(I:Inv X j' σ H s)(hH:H l=some (.lst xs))
  (e:s.heap.get? l=some {cls:=.type "list",data:=.seq its.toArray n}) (hf:f its.toArray=its'.toArray) (hv:Vals ys its') (hz:ys.length<=sizeLine):
  Inv X j' σ (upd H l (.lst ys)) {s with heap:=s.heap.update l (Obj.mapSeq f),toks:=t' }:=by
 have q:=PySem.IsL.update e f;rw[hf]at q;refine I.write (x:=l) (e:=l) (by rw[hH];exact trivial) (.inl Y) (λb' u hb hu=>(Heap.get?_update_other s.heap (Obj.mapSeq f) (Ne.symm hb)).trans hu) ⟨_,q⟩ ?_;exact⟨hz,its',_,hv,q⟩
def Inv.lnew{its:List Value}{t':Nat}(I:Inv X j' σ H s)(hv:Vals ys its)(hz:ys.length<=sizeLine):
  Inv X j' σ (upd H s.heap.objs.size (.lst ys)) {s with heap:=s.heap.push {cls:=.type "list",data:=.seq its.toArray},toks:=t' }:=
 I.laid (λ_ _ q=>Ak _ q) (An _) ⟨hz,its,0,hv,Ap _ rfl⟩
def Inv.fresh(I:Inv X j' σ H s):H s.heap.objs.size=none:=I.hok.fresh (An _)
def Inv.lstM(I:Inv X j' σ H s)(hH:H l=some (.lst xs)):xs.length<=sizeLine/\∃(its:List Value)(n:Nat),Vals xs its/\xs.length=its.length/\s.heap.get? l=some {cls:=.type "list",data:=.seq its.toArray n}:=by
 obtain⟨z,its,n,r,e⟩:=I.hok l _ hH;exact⟨z,its,n,r,r.length,e⟩
def Zo2(h:n<=sizeLine):Builtin.List.listTooLong n=false:=by
 unfold Builtin.List.listTooLong;exact decide_eq_false (by lia)
end
section
variable{X:Cx}
inductive MApp(x:V)(vs:List V)(H:Hp)(Q:VK):Prop|mk (l:Addr) (xs:List V) (y:V):x=.ref l->vs=[y]->H l=some (.lst xs)->xs.length<sizeLine->Q .non (upd H l (.lst (xs++[y])))->MApp x vs H Q
def Zis:V->List V->Hp->VK->Prop:=MApp
def Gb:MtM X "list.append" Zis:=by
 intro j' s σ H x vs v us Q I rx rv h;obtain⟨l,xs,y,rfl,rfl,hH,hz,q⟩:=h;cases rx;obtain⟨u,rfl,ru⟩:=rv.one;obtain⟨z,its,n,r,hl,e⟩:=I.lstM hH;refine call_meets F.slot_list_append ⟨_,e,Y⟩ F.entry_list_append (F.args_list_append_2 _ _) (PySem.list_append l its.toArray n u (by rw[Aq];lia)) ⟨e,?_⟩;refine⟨.non,_,I.lset (its':=its++[u]) hH e (by simp) (r.append (.cons ru .nil)) ?_,Y,q⟩;rw[Ae,At];lia
def Zss:V->List V->Hp->VK->Prop:=λx vs H Q=>∃l xs i k y,x=.ref l/\vs=[.int i]/\H l=some (.lst xs)/\-(2^63)<=i/\i<2^63/\seqIndex? i xs.length=some k/\xs[k]?=some y/\Q y (upd H l (.lst (xs.eraseIdx k)))
def Zgy:MtM X "list.pop" Zss:=by
 intro j' s σ H x vs v us Q I rx rv h;obtain⟨l,xs,i,k,y,rfl,rfl,hH,h1,h2,hk,hy,q⟩:=h;cases rx;obtain⟨u,rfl,ru⟩:=rv.one;obtain⟨t,rfl⟩:=ru;obtain⟨z,its,n,r,hl,e⟩:=I.lstM hH;obtain⟨w,hw,qr⟩:=r.get hy;refine call_meets F.slot_list_pop ⟨_,e,Y⟩ F.entry_list_pop (F.args_list_pop_2 _ _)
  (MeetsSeq.list_pop_at l its.toArray n i t k w (fitsIndex_both h1 h2) (by rw[Aq,<-hl];exact hk) (by rw[<-Array.getElem?_toList];exact hw) (by rw[Aq];lia)) ⟨e,?_⟩
 refine⟨y,_,I.lset (its':=its.eraseIdx k) hH e ?_ (r.eraseIdx k) ?_,qr,q⟩
 ·show its.toArray.eraseIdxIfInBounds k=(its.eraseIdx k).toArray
  rw[eraseIdxIfInBounds_toArray]
 ·have:=Zdq xs k
  lia
def rCat:R2:=λx y H Q=>∃l b xs zs,x=.ref l/\y=.ref b/\H l=some (.lst xs)/\H b=some (.lst zs)/\xs.length+zs.length<=sizeLine/\∀p,H p=none->Q (.ref p) (upd H p (.lst (xs++zs)))
def Zbk:OpR X (binaryOp .Add) rCat:=by
 intro j' s σ H x y v u Q I rx ry h;obtain⟨l,b,xs,zs,rfl,rfl,hH,hB,hz,q⟩:=h;cases rx;cases ry;obtain⟨z,its,n,r,hl,e⟩:=I.lstM hH;obtain⟨z2,its2,n2,r2,pf,e2⟩:=I.lstM hB;refine PySem.P.add_list e e2 ?_ (by rw[Aq,Aq];lia);have ea:its.toArray++its2.toArray=(its++its2).toArray:=by simp
 rw[ea];exact⟨.ref _,_,I.lnew (t':=s.toks) (r.append r2) (by rw[Ae];lia),rfl,q _ I.fresh⟩
def rRep:R2:=λx y H Q=>∃l k xs,x=.ref l/\y=.int k/\H l=some (.lst xs)/\-(2^63)<=k/\k<2^63/\xs.length*k.toNat<=sizeLine/\
 ∀p,H p=none->Q (.ref p) (upd H p (.lst (List.replicate k.toNat xs).flatten))
def Zrj{α:Type}(xs:List α)(k:Nat):(List.replicate k xs).flatten.length=k*xs.length:=by
 induction k with
 |zero=>simp
 |succ k ih=>rw[replicate_succ,flatten_cons,Ae,ih,succ_mul,Nat.add_comm]
def Zgl:OpR X (binaryOp .Mult) rRep:=by
 intro j' s σ H x y v u Q I rx ry h;obtain⟨l,k,xs,rfl,rfl,hH,h1,h2,hz,q⟩:=h;cases rx;obtain⟨t,rfl⟩:=ry;obtain⟨z,its,n,r,hl,e⟩:=I.lstM hH;have l9:its.toArray.size*k.toNat<=sizeLine:=by rw[Aq,<-hl];exact hz
 have hcap:¬its.toArray.size*k.toNat>(2^63-1)/8:=by
  have:(sizeLine:Nat)<=(2^63-1)/8:=by decide
  lia
 have hfit:¬(!Builtin.List.listFitsIndex k)=true:=by
  rw[fitsIndex_both h1 h2];exact Bool.false_ne_true
 have hlong:¬Builtin.List.listTooLong (its.toArray.size*k.toNat)=true:=by
  rw[Zo2 l9];exact Bool.false_ne_true
 have pi:List.foldl (λx1 x2=>x1++x2) #[] (List.replicate (if its.toArray.isEmpty=true then 0 else k.toNat) its.toArray)=(List.replicate k.toNat its).flatten.toArray:=by
  have f0:∀m:Nat,List.foldl (λx1 x2=>x1++x2) #[] (List.replicate m its.toArray)=(List.replicate m its).flatten.toArray:=λm=>by
   have:=Zdu its m [];rw[nil_append]at this;exact this
  rw[f0]
  cases its with
  |nil=>simp
  |cons a r'=>rw[if_neg (by simp)]
 refine wpAny_binaryOp_repeat_ref (T:="list") (U:="int") (d:) ⟨_,e,rfl⟩ (λs'=>typeIs_int s' k t) noFill_list_mul F.fills_int_mul F.slot_int_rmul repeat_list F.slot_int_index.lookup
  (call_meets F.slot_int_rmul (typeIs_int s k t) F.entry_int_rmul (F.args_int_rmul_2 _ _) (int___rmul___int_list k t l its.toArray n)
   ⟨e,rfl,⟨_,e,rfl⟩,call_meets F.slot_list_mul ⟨_,e,rfl⟩ F.entry_list_mul (F.args_list_mul_2 _ _) (AutoListH.list___mul___list_int_3 l its.toArray n k t hfit hcap hlong) ⟨e,?_⟩⟩)
 rw[pi];exact⟨.ref _,_,I.lnew (t':=s.toks) (r.rep k.toNat) (by rw[Zrj,Nat.mul_comm];exact hz),Y,q _ I.fresh⟩
end
section
variable{κ:Type}[DecidableEq κ]
noncomputable def valV(kvs:List (κ×V))(k:κ):Option V:=(kvs.find? λkv=>decide (kv.1=k)).map (·.2)
noncomputable def putK(kvs:List (κ×V))(k:κ)(v:V):List (κ×V):=
 if(kvs.any λkv=>decide (kv.1=k))=true then kvs.map (λkv=>if kv.1=k then(kv.1,v)else kv)else kvs++[(k,v)]
def F5{p:κ×V}{r:List (κ×V)}(e:p.1=k):valV (p::r) k=some p.2:=by simp[valV,find?_cons,e]
def F6{p:κ×V}(e:¬p.1=k):valV (p::r) k=valV r k:=by simp[valV,find?_cons,e]
theorem Ze2(k:κ):∀kvs:List (κ×V),(kvs.any λkv=>decide (kv.1=k))=(valV kvs k).isSome
 |[]=>rfl
 |p::r=>by
  rw[any_cons];by_cases e:p.1=k
  ·simp only[F5 e,decide_eq_true e,Bool.true_or,Option.isSome_some]
  ·rw[F6 e,decide_eq_false e,Bool.false_or];exact Ze2 k r
def Qp(kvs:List (κ×V))(k:κ)(v:V):(putK kvs k v).length<=kvs.length+1:=by
 unfold putK;split
 ·rw[Ab];lia
 ·rw[Ae,length_cons,length_nil];lia
def RelO.isSome_eq{o:Option V}{u:Option Value}(r:RelO o u):o.isSome=u.isSome:=by
 cases o with
 |none=>cases u with
  |none=>rfl
  |some _=>exact(show False from r).elim
 |some _=>cases u with
  |none=>exact(show False from r).elim
  |some _=>rfl
def KV.val(r:KV kvs vs)(k:κ):RelO (valV kvs k) (valueAt vs k):=by
 unfold KV at r
 induction r with
 |nil=>exact True.intro
 | @cons p q ps qs h t ih=>
  obtain⟨h1,h2⟩:=h;by_cases e:p.1=k
  ·have e':q.1=k:=h1.symm.trans e
   have b:valueAt (q::qs) k=some q.2:=by simp[valueAt,find?_cons,e']
   rw[F5 e,b];exact h2
  ·have e':¬q.1=k:=λz=>e (h1.trans z)
   have b:valueAt (q::qs) k=valueAt qs k:=by simp[valueAt,find?_cons,e']
   rw[F6 e,b];exact ih
def KV.any{kvs:List (κ×V)}{vs:List (κ×Value)}(r:KV kvs vs)(k:κ):(kvs.any λkv=>decide (kv.1=k))=vs.any λkv=>decide (kv.1=k):=by
 unfold KV at r
 induction r with
 |nil=>rfl
 |cons h t ih=>rw[any_cons,any_cons,ih,h.1]
def KV.repl{kvs:List (κ×V)}{vs:List (κ×Value)}(r:KV kvs vs)(k:κ)(ry:RelV y u):
  KV (kvs.map λkv=>if kv.1=k then(kv.1,y)else kv) (vs.map λkv=>if kv.1=k then(kv.1,u)else kv):=by
 unfold KV at r⊢
 induction r with
 |nil=>exact .nil
 | @cons p q ps qs h t ih=>
  rw[map_cons,map_cons];refine .cons ?_ ih;obtain⟨h1,h2⟩:=h;by_cases e:p.1=k
  ·rw[if_pos e,if_pos (h1.symm.trans e)];exact⟨h1,ry⟩
  ·rw[if_neg e,if_neg (λz=>e (h1.trans z))];exact⟨h1,h2⟩
def KV.put(r:KV kvs vs)(k:κ)(ry:RelV y u):KV (putK kvs k y) (stored vs k u):=by
 unfold putK stored;rw[r.any k];by_cases e:(vs.any λkv=>decide (kv.1=k))=true
 ·rw[if_pos e,if_pos e];exact r.repl k ry
 ·rw[if_neg e,if_neg e];exact Paired.snoc r ⟨Y,ry⟩
def KV.length{kvs:List (κ×V)}{vs:List (κ×Value)}(r:KV kvs vs):kvs.length=vs.length:=Paired.length r
end
def J3(r:RelV (kV k) u):(Yj P w).is k u=true:=by
 cases k with
 |inl i=>obtain⟨t,e⟩:=(show ∃t,u=Value.int i t from r);subst e;exact Zie P w i t
 |inr x=>obtain⟨t,e⟩:=(show ∃t,u=Value.str x t from r);subst e;exact Zid P w x t
theorem Zdr:∀{ks:List Key}{us:List Value},Vals (ks.map kV) us->ItemsAre (Yj P w) ks us
 |[],_,r=>by rw[map_nil]at r;cases r;exact .nil
 |k::ks,_,r=>by
  rw[map_cons]at r
  cases r with
  |cons h t=>exact .cons (J3 h) (Zdr t)
abbrev KT(H:Hp):List (List Key×V)->List (List Key×Addr×Value)->Prop:=Paired λp q=>p.1=q.1/\H q.2.1=some (.tup (p.1.map kV))/\RelV p.2 q.2.2
def KT.val(r:KT H kvs xs)(k:List Key):RelO (valV kvs k) ((atKey xs k).map (·.2)):=by
 induction r with
 |nil=>exact True.intro
 | @cons p q ps qs h t ih=>
  obtain⟨h1,_,h2⟩:=h;by_cases e:p.1=k
  ·have e':q.1=k:=h1.symm.trans e
   have b:atKey (q::qs) k=some q.2:=by simp[atKey,find?_cons,e']
   rw[F5 e,b];exact h2
  ·have e':¬q.1=k:=λz=>e (h1.trans z)
   have b:atKey (q::qs) k=atKey qs k:=by simp[atKey,find?_cons,e']
   rw[F6 e,b];exact ih
def KT.repl{kvs:List (List Key×V)}{xs:List (List Key×Addr×Value)}(r:KT H kvs xs)(k:List Key)(ry:RelV y u):
  KT H (kvs.map λkv=>if kv.1=k then(kv.1,y)else kv) (xs.map (putAt k u)):=by
 induction r with
 |nil=>exact .nil
 | @cons p q ps qs h t ih=>
  rw[map_cons,map_cons];refine .cons ?_ ih;obtain⟨h1,h2,h3⟩:=h;unfold putAt;by_cases e:p.1=k
  ·rw[if_pos e,if_pos (h1.symm.trans e)];exact⟨h1,h2,ry⟩
  ·rw[if_neg e,if_neg (λz=>e (h1.trans z))];exact⟨h1,h2,h3⟩
def KT.put(r:KT H kvs xs)(k:List Key)(hb:H b=some (.tup (k.map kV)))(ry:RelV y u):
  KT H (putK kvs k y) (storedH xs k b u):=by
 have e:(kvs.any λkv=>decide (kv.1=k))=(atKey xs k).isSome:=by
  rw[Ze2,(r.val k).isSome_eq,Option.isSome_map]
 unfold putK storedH;rw[e];by_cases q:(atKey xs k).isSome=true
 ·rw[if_pos q,if_pos q];exact r.repl k ry
 ·rw[if_neg q,if_neg q];exact Paired.snoc r ⟨Y,hb,ry⟩
def KT.keeps(r:KT H kvs xs)(ht:∀b ys,H b=some (.tup ys)->H' b=some (.tup ys)):KT H' kvs xs:=
 Paired.mapP r λ_ _ z=>⟨z.1,ht _ _ z.2.1,z.2.2⟩
section
variable{P:Program}{w:World}{H:Hp}{h:Heap}{a:Addr}
def Zp0(ok:HOk P w H h)(e:Rd H a u):Yn P w H h a u:=e.ok ok
def J7{kvs:List (Key×V)}(ok:HOk P w H h)(e:Rd H a (.dK kvs)):kvs.length<=sizeLine/\(a==sysModules)=false/\∃vs,KV kvs vs/\h.DictOf (Yj P w) a vs:=
 show Yn P w H h a (.dK kvs)from Zp0 ok e
def Zkr{kvs:List (Key×V)}(ok:HOk P w H h)(e:H a=some (.dK kvs)):kvs.length<=sizeLine/\(a==sysModules)=false/\∃vs,KV kvs vs/\h.DictOf (Yj P w) a vs:=J7 ok (.inl e)
def Gd{ks:List Key}(ok:HOk P w H h)(e:H a=some (.tup (ks.map kV))):(tupleKind (Yj P w)).is h ks a:=by
 obtain⟨_,its,r,o,h1,h2,n,h3⟩:=(show Yn P w H h a (.tup (ks.map kV))from ok a _ e);exact⟨o,its.toArray,n,h1,h2,h3,by simpa using Zdr r⟩
def Gx{kvs:List (List Key×V)}(ok:HOk P w H h)(e:Rd H a (.dT kvs)):kvs.length<=sizeLine/\(a==sysModules)=false/\
  ∃xs,KT H kvs xs/\h.DictOfH (tupleKind (Yj P w)) a xs:=by
 obtain⟨z,y,xs,r,o,es,ep,h1,h2,h3,h4,h5⟩:=(show Yn P w H h a (.dT kvs)from Zp0 ok e);refine⟨z,y,xs,r,o,es,ep,h1,h2,h3,h4,λx hx=>?_,h5⟩
 have all:∀{l:List (List Key×V)}{m:List (List Key×Addr×Value)},KT H l m->∀x∈m,(tupleKind (Yj P w)).is h x.1 x.2.1:=by
  intro l m q
  induction q with
  |nil=>intro x hx;exact nomatch hx
  | @cons p q ps qs hq t ih=>
   intro x hx
   rcases Ar hx with e|hx
   ·subst e
    exact Gd ok (by rw[<-hq.1];exact hq.2.1)
   ·exact ih x hx
 exact all r x hx
def Zu5{kvs:List (List Key×V)}(ok:HOk P w H h)(e:H a=some (.dT kvs)):kvs.length<=sizeLine/\(a==sysModules)=false/\
  ∃xs,KT H kvs xs/\h.DictOfH (tupleKind (Yj P w)) a xs:=Gx ok (.inl e)
end
def DGet(H:Hp)(a:Addr)(y:V)(r:Option V):Prop:=
 (∃kvs k,Rd H a (.dK kvs)/\y=kV k/\r=valV kvs k)\/∃kvs k b,Rd H a (.dT kvs)/\y=.ref b/\H b=some (.tup (k.map kV))/\r=valV kvs k
def DPut(H:Hp)(a:Addr)(y v:V)(H':Hp):Prop:=
 (∃kvs k,H a=some (.dK kvs)/\y=kV k/\kvs.length<sizeLine/\H'=upd H a (.dK (putK kvs k v)))\/
 ∃kvs k b,H a=some (.dT kvs)/\y=.ref b/\H b=some (.tup (k.map kV))/\kvs.length<sizeLine/\H'=upd H a (.dT (putK kvs k v))
def DPut.k{H:Hp}{a:Addr}{kvs:List (Key×V)}{k:Key}{v:V}(e:H a=some (.dK kvs))(hl:kvs.length<sizeLine):DPut H a (kV k) v (upd H a (.dK (putK kvs k v))):=.inl ⟨kvs,k,e,rfl,hl,rfl⟩
section
variable{X:Cx}{j':List (j:)}{σ:St}{H:Hp}{s:Shared}{a:Addr}{y v:V}{u r:Value}{o:Option V}{A:Around}{E:Value->Shared->Prop}
def Inv.big(I:Inv X j' σ H s):sysModules<s.heap.objs.size:=by
 have h:mainGlobals<s.heap.objs.size:=(I.mod.glob.keeps I.bk).lt;exact Nat.lt_trans (d:) h
def Znl(hu:A.units+1<cLine)(I:Inv X j' σ H s)(g:DGet H a y (some v))(ry:RelV y u)(h:∀w' s',Inv X j' σ H s'->RelV v w'->Q w' s'):
  wpAny (c:) A (getItem (.ref a) u) Q E s:=by
 rcases g with ⟨kvs,k,e,ey,l⟩|⟨kvs,k,b,e,ey,eb,l⟩
 ·subst ey
  obtain⟨z,hd,vs,mj,dd⟩:=J7 I.hok e;obtain⟨w',hw,qr⟩:=RelO.some_of (v:=v) (o:=valueAt vs k) (by rw[l];exact mj.val k);exact wpAny_getItem_of (J3 ry) dd.mapOf hw (h w' _ (I.tok _) qr)
 ·subst ey
  cases(show u=Value.ref b from ry);obtain⟨z,hd,xs,mj,dd⟩:=Gx I.hok e;obtain⟨w',hw,qr⟩:=RelO.some_of (v:=v) (o:=(atKey xs k).map (·.2)) (by rw[l];exact mj.val k);obtain⟨p,hp,p6⟩:=Option.map_eq_some_iff.mp hw;refine wpAny_getItem_heap (tupleKind_room_in1 hu) (Gd I.hok eb) dd hp ?_;rw[p6];exact h w' _ (I.tok _) qr
def d_in{Q:Value->Shared->Prop}(hu:A.units+1<cLine)(I:Inv X j' σ H s)(g:DGet H a y o)(ry:RelV y u)(h:∀s',Inv X j' σ H s'->Q (.bool o.isSome) s'):
  wpAny (c:) A (compareOp .In u (.ref a)) Q E s:=by
 rcases g with ⟨kvs,k,e,ey,l⟩|⟨kvs,k,b,e,ey,eb,l⟩
 ·subst ey
  obtain⟨z,hd,vs,mj,dd⟩:=J7 I.hok e;refine wpAny_in_of (J3 ry) hd dd.mapOf ?_;rw[<-(mj.val k).isSome_eq,<-l];exact h _ (I.tok _)
 ·subst ey
  cases(show u=Value.ref b from ry);obtain⟨z,hd,xs,mj,dd⟩:=Gx I.hok e;refine wpAny_in_heap (tupleKind_room_in1 hu) (Gd I.hok eb) hd dd ?_;have q:=(mj.val k).isSome_eq;rw[Option.isSome_map]at q;rw[<-q,<-l];exact h _ (I.tok _)
def Zrp(hu:A.units+1<cLine)(I:Inv X j' σ H s)(g:DGet H a y o)(ry:RelV y u)(h:∀s',Inv X j' σ H s'->Q (.bool (!o.isSome)) s'):
  wpAny (c:) A (compareOp .NotIn u (.ref a)) Q E s:=by
 rcases g with ⟨kvs,k,e,ey,l⟩|⟨kvs,k,b,e,ey,eb,l⟩
 ·subst ey
  obtain⟨z,hd,vs,mj,dd⟩:=J7 I.hok e;refine wpAny_notIn_of (J3 ry) hd dd.mapOf ?_;rw[<-(mj.val k).isSome_eq,<-l];exact h _ (I.tok _)
 ·subst ey
  cases(show u=Value.ref b from ry);obtain⟨z,hd,xs,mj,dd⟩:=Gx I.hok e;refine wpAny_notIn_heap (tupleKind_room_in1 hu) (Gd I.hok eb) hd dd ?_;have q:=(mj.val k).isSome_eq;rw[Option.isSome_map]at q;rw[<-q,<-l];exact h _ (I.tok _)
def Gz{h':Heap}{t':Nat}(I:Inv X j' σ H s)(mu:Mut (H a))(hs:Heap.SameBut a s.heap h')(he:∃q,h'.get? a=some q)(new:Yn X.prog X.w (upd H a ob) h' a ob):
  Inv X j' σ (upd H a ob) {s with heap:=h',toks:=t' }:=
 I.write (x:=a) (e:=a) mu (.inl rfl) (λb q hb z=>(hs.2 b hb).trans z) he new
def Zha{h':Heap}{kvs:List (Key×V)}(z:kvs.length<=sizeLine)(hd:(a==sysModules)=false)(mj:KV kvs vs)(dd:h'.DictOf (Yj P w) a vs):
  Yn P w H' h' a (.dK kvs):=⟨z,hd,vs,mj,dd⟩
def Znk(hu:A.units+1<cLine)(I:Inv X j' σ H s)(g:DPut H a y v H')(ry:RelV y u)(rv:RelV v r)(h:∀s',Inv X j' σ H' s'->Q () s'):
  wpAny (c:) A (setItem (.ref a) u r) Q E s:=by
 rcases g with ⟨kvs,k,e,ey,l,eH⟩|⟨kvs,k,b,e,ey,eb,l,eH⟩
 ·subst ey eH
  obtain⟨z,hd,vs,mj,dd⟩:=Zkr I.hok e;have hz:vs.length<=sizeLine:=by rw[<-mj.length];exact z
  have hl:(putK kvs k v).length<=sizeLine:=by have:=Qp kvs k v;lia
  refine wpAny_setItem_pairs (hsz:=hz) (J3 ry) dd λh' v9 hs=>h _ ?_;have he:∃q,h'.get? a=some q:=let⟨q,_,_,hq,_⟩:=v9;⟨q,hq⟩
  exact Gz I (by rw[e];exact True.intro) hs he (Zha hl hd (mj.put k rv) v9)
 ·subst ey eH
  cases(show u=Value.ref b from ry);obtain⟨z,hd,xs,mj,dd⟩:=Zu5 I.hok e;have hz:xs.length<=sizeLine:=by rw[<-Paired.length mj];exact z
  have hl:(putK kvs k v).length<=sizeLine:=by have:=Qp kvs k v;lia
  refine wpAny_setItem_heap (hsz:=hz) (tupleKind_room_in1 hu) (Gd I.hok eb) dd λh' v9 hs=>h _ ?_;obtain⟨q,es,ep,hq,h2,h3,h4,_,h5⟩:=v9;refine Gz I (by rw[e];exact True.intro) hs ⟨q,hq⟩ ⟨hl,hd,_,(mj.put k eb rv).keeps λc ys ec=>?_,q,es,ep,hq,h2,h3,h4,h5⟩;rw[Ze (Zup ec e (W:))];exact ec
end
section
variable{X:Cx}{j':List (j:)}{σ:St}{H:Hp}{s:Shared}{a:Addr}{kvs:List (Key×V)}{k:Key}{u:Value}{A:Around}{E:Value->Shared->Prop}
def Zu9(I:Inv X j' σ H s)(e:Rd H a (.dK kvs))(h:∀t s',Inv X j' σ H s'->Q (.int kvs.length t) s'):wpAny (c:) A (call (.builtin "len") [.ref a]) Q E s:=by
 obtain⟨z,hd,vs,mj,dd⟩:=J7 I.hok e;refine call_len_dict hd dd (by rw[<-mj.length];rw[sizeLine_eq]at z;lia) ?_;rw[<-mj.length];exact h _ _ (I.tok _)
end
def NoSl(i:Expr):Prop:=∀ov iv,subscripted i false ov iv=operate [ov,iv] (getItem ov iv)
def Zin{prog:Program}{w:World}{A:Around}{E:Value->Shared->Prop}{s:Shared}{env:Env}{value o0:Expr}{pos:Pos}{T id:String}{Q:Value->Shared->Prop}
  (hl:typeLookup (.type T) "__getitem__"=pure (some (.builtin id))) (hs:NoSl o0)
  (h:wpAny (ae:) A (eval value env) (λo s₁=>wpAny (ae:) A (eval o0 env) (λi s₂=>s₂.TypeIs o T/\wpAny (ae:) A (getItem o i) Q E s₂) E s₁) E s):
  wpAny (ae:) A (eval (.Subscript value o0 pos) env) Q E s:=by
 refine Subscript_ (wpAny_mono h (λo s₁ h₁=>wpAny_mono h₁ (λi s₂ h₂=>?_) λ_ _ x=>x) λ_ _ x=>x);obtain⟨hT,h₂⟩:=h₂;unfold subscriptTail;refine Al ?_;rw[getitemInPython_of_ne hT.not_modules];refine Al (wpAny_specialOf hT hl ?_);have m9:wpAny (ae:) A (subscripted o0 false o i) (λr s₃=>wpAny (ae:) A (letTemporaryGo value o r>>=λ_=>pure r) Q E s₃) E s₂:=by
  rw[hs o i]
  exact wpAny_operating (wpAny_mono h₂ (λr s₃ h₃=>Al (wpAny_letTemporaryGo (wpAny_pure h₃))) λ_ _ x=>x)
 first
  |exact wpAny_pure (Al m9)
  |exact Al (wpAny_pure (Al m9))
  |exact Al m9
def Zig{s:Shared}(I:Inv X j' σ H s)(g:DGet H a y o):s.TypeIs (.ref a) "dict":=by
 rcases g with ⟨kvs,k,e,_,_⟩|⟨kvs,k,b,e,_,_,_⟩
 ·obtain⟨_,_,vs,_,dd⟩:=J7 I.hok e
  exact dd.typeIs
 ·obtain⟨_,_,xs,_,dd⟩:=Gx I.hok e
  exact dd.typeIs
def Zte(Q:VK)(x y:V)(H:Hp):Prop:=∃a v,x=.ref a/\DGet H a y (some v)/\Q v H
def Zur(ty:TE)(σ:St)(Q:V->VK)(x:V)(H:Hp):Prop:=ty σ H (Q x)
def Zt9(td ty:TE):TE:=λσ H Q=>td σ H (Zur ty σ (Zte Q))
def tDIn(ty td:TE):TE:=λσ H Q=>ty σ H λy H1=>td σ H1 λx H2=>∃a o,x=.ref a/\DGet H2 a y o/\Q (.bl o.isSome) H2
def Zqi(ty td:TE):TE:=λσ H Q=>ty σ H λy H1=>td σ H1 λx H2=>∃a o,x=.ref a/\DGet H2 a y o/\Q (.bl (!o.isSome)) H2
def Zug(td ty tv:TE):TS:=λD σ H=>tv σ H λv H1=>td σ H1 λx H2=>ty σ H2 λy H3=>∃a H4,x=.ref a/\DPut H3 a y v H4/\D.nx σ H4
section
variable{X:Cx}{o i e value:Expr}{pos nv qh:Pos}{td ty tv:TE}
def Wl(hu:X.A.units+1<cLine)(ho:PE X o td)(hi:PE X i ty)(hs:NoSl i):PE X (.Subscript o i pos) (Zt9 td ty):=by
 intro j' s σ H Q I h;refine Zin PySem.F.slot_dict_getitem.lookup hs (thn (ho j' s σ H _ I h) λu s1 zz24=>?_);obtain⟨x,H1,I1,rx,q1⟩:=zz24;refine thn (hi j' s1 σ H1 _ I1 q1) λiv s2 me=>?_;obtain⟨y,H2,I2,ry,a,v,ex,g,q2⟩:=me;subst ex;obtain rfl:u=Value.ref a:=rx;exact⟨Zig I2 g,Znl hu I2 g ry λw' s3 I3 qr=>⟨v,H2,I3,qr,q2⟩⟩
def Zl8(hu:X.A.units+1<cLine)(hi:PE X i ty)(ho:PE X o td):PC X .In i o (tDIn ty td):=by
 intro j' s σ H Q I h;refine thn (hi j' s σ H _ I h) λiv s1 zz25=>?_;obtain⟨y,H1,I1,ry,q1⟩:=zz25;refine thn (ho j' s1 σ H1 _ I1 q1) λu s2 me=>?_;obtain⟨x,H2,I2,rx,a,ov,ex,g,q2⟩:=me;subst ex;obtain rfl:u=Value.ref a:=rx;exact d_in hu I2 g ry λs3 I3=>⟨.bl ov.isSome,H2,I3,Y,q2⟩
def K2(hu:X.A.units+1<cLine)(hi:PE X i ty)(ho:PE X o td):PC X .NotIn i o (Zqi ty td):=by
 intro j' s σ H Q I h;refine thn (hi j' s σ H _ I h) λiv s1 zz26=>?_;obtain⟨y,H1,I1,ry,q1⟩:=zz26;refine thn (ho j' s1 σ H1 _ I1 q1) λu s2 me=>?_;obtain⟨x,H2,I2,rx,a,ov,ex,g,q2⟩:=me;subst ex;obtain rfl:u=Value.ref a:=rx;exact Zrp hu I2 g ry λs3 I3=>⟨.bl (!ov.isSome),H2,I3,Y,q2⟩
def Ziy(hu:X.A.units+1<cLine)(ho:PE X o td)(hi:PE X i ty)(hv:PE X value tv)(hs:swapsWith value (some (.Subscript o i nv)) pos.line X.env=pure false):
  PS X (.Assign [.Subscript o i nv] value pos) (Zug td ty tv):=by
 intro j' s σ H D I h;refine wpAny_Assign_Subscript (thn (hv j' s σ H _ I h) λr s1 zz27=>?_) hs;obtain⟨v,H1,I1,rv,q1⟩:=zz27;refine thn (ho j' s1 σ H1 _ I1 q1) λu s2 zz28=>?_;obtain⟨x,H2,I2,rx,q2⟩:=zz28;refine thn (hi j' s2 σ H2 _ I2 q2) λiv s3 zz29=>?_;obtain⟨y,H3,I3,ry,a,H4,ex,g,q3⟩:=zz29;subst ex;obtain rfl:u=Value.ref a:=rx;exact Znk hu I3 g ry rv λs4 I4=>⟨σ,H4,I4,q3⟩
end
def Oz(h:Heap)(hb:sysModules<h.objs.size):Yn P w H (h.push {cls:=.type "dict",data:=.dict #[]}) h.objs.size (.dK []):=
 ⟨Az _,beq_eq_false_iff_ne.mpr (Ne.symm (As hb)),[],.nil,Heap.DictOf.new h⟩
def Zsh:TE:=λ_ H Q=>∀p,H p=none->Q (.ref p) (upd H p (.dK []))
section
variable{X:Cx}{pos:Pos}
def Vy:PE X (.Dict [] [] pos) Zsh:=λj' s σ H Q I h=>
 wpAny_Dict_empty ⟨.ref s.heap.objs.size,_,I.laid (a:=s.heap.objs.size) (o:=.dK []) (t':=s.toks) (λ_ _ q=>Ak _ q) (An _) (Oz s.heap I.big),rfl,h _ (I.hok.fresh (An _))⟩
end
structure M2(X:Cx)(o:Expr)(m:Str)(ml:Pos)(e f:Expr)(mf:Pos):Prop where
 base:attributeBase o m X.env (eval o X.env)=eval o X.env
 few:((backTo mf (starEach [e,f] X.env)).all (λx=>!x.1) && (backToKw mf (keywordEach [] X.env)).all (λx=>x.1.isSome)
  && decide (([e,f]:List Expr).length+([]:List Keyword).length+(if([]:List Keyword).isEmpty then 0 else 1)<30))=true
 line:(ml.endLine==mf.line)=true
 trees:backTo mf (starEach [e,f] X.env)=[(I:),(false,eval f X.env)]
def IsD(H:Hp)(a:Addr):Prop:=(∃kvs,Rd H a (.dK kvs))\/∃kvs,Rd H a (.dT kvs)
def Zg3{s:Shared}(I:Inv X j' σ H s)(d:IsD H a):
  s.TypeIs (.ref a) "dict"/\(∀b,Value.ref a=.ref b->∃ob,s.heap.get? b=some ob/\ob.dict=none)/\(a==sysModules)=false:=by
 rcases d with ⟨kvs,e⟩|⟨kvs,e⟩
 ·obtain⟨_,hd,vs,_,dd⟩:=J7 I.hok e
  refine⟨dd.typeIs,λb q=>?_,hd⟩;cases q;obtain⟨ob,_,_,h1,h2,_⟩:=dd;exact⟨ob,h1,h2.2.1⟩
 ·obtain⟨_,hd,xs,_,dd⟩:=Gx I.hok e
  refine⟨dd.typeIs,λb q=>?_,hd⟩;cases q;obtain⟨ob,_,_,h1,h2,_⟩:=dd;exact⟨ob,h1,h2.2.1⟩
end L2
namespace Att
open PySem PySem.W PySem.Calls PyProof.Rows
def Zbv:∀(ns:List Int)(vs:List Value),WellAll P h vs (ns.map WData.int)->IntsAre vs ns:=by
 intro ns
 induction ns with
 |nil=>
  intro vs w;rw[map_nil]at w;cases w;exact .nil
 |cons n ns ih=>
  intro vs w;rw[map_cons]at w
  cases w with
  |cons a b=>
   cases a;exact .cons _ _ (ih _ b)
def Zll{l:OpenLaw}(hn:l.most=some n){h:Heap}
  (w8:l.row.toRowW.claim.pre args=true) (hwl:WellAll P h vals args):
  ∃a vs ns,vals=[Value.ref a]/\args=[WData.list (ns.map WData.int)]/\h.get? a=some {cls:=.type "list",data:=.seq vs.toArray}/\IntsAre vs ns/\ns.length<=n:=by
 have hsh:WShape.hasAll [] args [.list .int]=true:=(pre_splitW w8).1;have hc:l.pre.holds [] {args:=args}=true:=(pre_splitW w8).2;obtain⟨d,r,rfl,h1,h2⟩:=hasAllW_cons hsh;obtain rfl:=hasAllW_nil h2;obtain⟨xs,rfl,h3⟩:=hasW_list h1;obtain⟨ns,rfl⟩:=items_int h3
 have l9:ns.length<=n:=by
  unfold OpenLaw.pre at hc;have h4:(WTm.not (.lt (.lit (.int (n:Int))) (.len (.arg 0)))).holds [] {args:=[.list (ns.map .int)]}=true:=by
   have h4:=(holds_andW hc).1
   rw[hn]at h4
   exact h4
  have h5:=condW_of h4 (w_not (w_lt w_lit (w_len_list (w_arg rfl))));rw[Ab]at h5;refine Nat.le_of_not_lt λq=>?_;have q':(n:Int)<((ns.length:Nat):Int):=by lia
  first
   |(rw[decide_eq_true q']at h5;exact absurd h5 (by decide))
   |(simp at h5;lia)
 cases hwl with
 |cons w1 w2=>
  cases w2
  cases w1 with
  |list ho u7=>exact⟨_,_,ns,Y,Y,ho,Zbv ns _ u7,l9⟩
def Zl1(l:OpenLaw)(args:List WData):l.row.toRowW.claim.post args (.bool true) args=true:=
 postW_of (r:=l.row.toRowW) (X:=(true==true))
  (show WShape.has [] (.bool true) .bool=true by first|rfl|decide|simp[WShape.has,WShape.arms,WShape.armsAll])
  (show(WTm.eq .res (.lit (.bool true))).value [] {args:=args,res:=some (.bool true),after:=args}=some (.bool (true==true))from w_eq_bool (w_res rfl) w_lit) rfl
def attach_call{l:OpenLaw}{d:DefRec}
  (hn:l.most=some n) (hdf:d.params.defaults=[])
  (call:∀ (w:World) (s₀ s₁:Shared) (mg mb:Str->Option Value) (fa:Addr) (o:Obj) (pm cd nk:Value) (a:Addr) (vs:List Value) (ns:List Int),
   Ground q sx [] XP w s₀ mg mb s₁.heap->YP w s₁.heap ->
   s₁.heap.get? fa=some o->o.data=.func (docDef d.name d.params d.body d.scope pm cd nk)->s₁.heap.CodeRec cd d.name->mg d.name=some (.ref fa) ->
   s₁.heap.get? a=some {cls:=.type "list",data:=.seq vs.toArray}->IntsAre vs ns->ns.length<=n->s₁.gens=#[] ->
   codeAny (model l.prog w) callerA (.call (.ref fa) ⟨[.ref a],[]⟩) (br:) s₁):
  WalkO q sx XP YP l.row.toRowW d [] (λf vs=>PySem.call f vs):=by
 intro w s₀ s₁ mg mb G Qzj fa o pm cd nk dV kV ho hd oo hD hmg hg args vals as w8 hlay hrd hwl hlo;obtain rfl:dV=.none:=Dflts.none hD hdf;obtain rfl:kV=.none:=Dflts.noKw hD;obtain⟨a,vs,ns,rfl,rfl,y9,vg,l9⟩:=Zll hn w8 hwl;refine enter_call (codeAny_mono (call w s₀ s₁ mg mb fa o pm cd nk a vs ns G Qzj ho (fd_plain hd) oo hmg y9 vg l9 hg) λr s' hq=>?_);obtain⟨rfl,h2,h3,h4⟩:=hq;exact⟨.inl ⟨.bool true,.bool true,[],Y,λ_=>rfl,.bool true,Zl1 l _,λ_=>⟨List.Pairwise.nil,λ_ hm=>(nomatch hm)⟩⟩,h2,h3,h4⟩
end Att
namespace L2
open PySem PySem.Spec PyProof.Rows
theorem Zcz:∀{vs:List Value}{ns:List Int},IntsAre vs ns->Vals (T:) vs
 |_,_,.nil=>.nil
 |_,_,.cons n t h=>.cons ⟨t,rfl⟩ (Zcz h)
def Only(H:Hp):Prop:=∀b,H b=none\/∃o xs,H b=some (.frz o (.lst xs))
def Zo7{K:W.Frag}{s₁:Shared}{vs:List Value}{ns:List Int}
  (KX:K.In s₁.heap) (vp:s₁.heap.Ns mainGlobals mg) (hb:s₁.heap.Ns builtinsNs mb) (hbb:∀x:Str,x≠"__name__"->mb x=bootBuiltins x) (hlim:s₁.heap.NoLimit) (hg:s₁.gens=#[])
  (ha:s₁.heap.get? a=some {cls:=.type "list",data:=.seq vs.toArray}) (hi:IntsAre vs ns) (hl:ns.length<=sizeLine) (hr:Room k callerA)
  (F:∀base:Heap,K.In base->base.Ns mainGlobals mg->FnOk P w K mg base CX k fa fd [x] sp) (hbind:∀(s:Shared)(u:Value),BindsTo s fd ⟨[u],[]⟩ [(x,u)])
  (o5:∀H:Hp,Only H->SqL K H a (T:)->sp [.ref a] H (λv _=>v=.bl true) λ_ _ _=>False)
  (hCX:∀H e s',CX [] H s₁ (λ_ _ _=>False) e s'->False):
  codeAny (aa:) callerA (.call (.ref fa) ⟨[.ref a],[]⟩) (br:) s₁:=by
 have rv:=Zcz hi;have lenV:=hi.length
 have core:∀H:Hp,Only H->SqL K H a (T:)->HOk P w H s₁.heap->(∀b,H b≠none->b=a)->(H a≠none->K.lookup a=none) ->
   codeAny (aa:) callerA (.call (.ref fa) ⟨[.ref a],[]⟩) (br:) s₁:=by
  intro H hO hS hok hA hK;have tm:∀{b:Addr}{o:Obj},s₁.heap.get? b=some o->H b=none->(hidT s₁.heap H).get? b=some o:=λe n=>Zpe e n
  have noA:∀{b:Addr}{o:Obj}{es:Array DictEntry}{ep:Nat},s₁.heap.get? b=some o->o.data=.dict es ep->H b=none:=λ{b o es ep}e d=>by
   cases q:H b with
   |none=>rfl
   |some u=>
    have e':b=a:=hA b (by rw[q];simp);subst e';rw[ha]at e;cases e;have d':Data.seq vs.toArray _=Data.dict es ep:=d;cases d'
  have nsK:∀{b:Addr}{m:Str->Option Value},s₁.heap.Ns b m->(hidT s₁.heap H).Ns b m:=λ{b m} ⟨o,es,ep,e,d,r⟩=>⟨o,es,ep,tm e (noA e d),d,r⟩
  have hKb:K.In (hidT s₁.heap H):=λb o e=>tm (KX b o e) (by
   cases q:H b with
   |none=>rfl
   |some u=>
    have e':b=a:=hA b (by rw[q];simp);subst e'
    rw[hK (by rw[q];simp)]at e;cases e)
  have hM:Mod K mg (hidT s₁.heap H):=⟨hKb,nsK vp,⟨mb,nsK hb,hbb⟩,let⟨mc,h1,h2⟩:=hlim;⟨mc,nsK h1,h2⟩⟩;have e0:Env0 P w K mg (hidT s₁.heap H) callerA [] s₁ H:=⟨rfl,hM,λb o e=>Zrf e,Nat.le_of_eq (Zm2 _ _),trivial,λb hb=>absurd (show b∈([]:List Addr)from hb) (by simp),hok,.of_eq hg⟩;refine codeAny_mono ((F _ hKb (nsK vp)).run callerA [] s₁ H ⟨[.ref a],[]⟩ [.ref a] [.ref a] _ _ hr e0 (hbind s₁ (.ref a)) (.cons Y .nil) (o5 H hO hS)) λr s' h=>?_
  cases r with
  |error e=>exact(hCX H e s' h).elim
  |ok fl=>
   cases fl with
   |next=>exact False.elim h
   |brk=>exact False.elim h
   |cont=>exact False.elim h
   |ret u=>
    obtain⟨v,H',os,bare,un,hok',r',q⟩:=h;have q':v=.bl true:=q;subst q';obtain rfl:u=Value.bool true:=r';refine⟨Y,OldK.of_keep λb o e=>?_,os,bare⟩
    cases q:H b with
    |none=>exact un.keep b o e q (by intro z;exact absurd (show b∈([]:List Addr)from z) (by simp)) (by simp)
    |some u=>
     rcases hO b with z|⟨ob,xs,z⟩
     ·rw[q]at z;cases z
     ·have z2:=un.frzs b ob _ z
      obtain⟨e1,_⟩:=hok b _ z;obtain⟨e2,_⟩:=hok' b _ z2;rw[e]at e1;cases e1;exact e2
 cases hk:K.lookup a with
 |some o=>
  have e:=KX a o hk;rw[ha]at e;cases e;refine core (λ_=>none) (λ_=>.inl Y) (.inr ⟨_,vs.toArray,_,hk,Y,Y,Y,by rw[Aq,lenV];exact hl,by simpa using rv⟩) (λb u z=>by have z':(none:Option HO)=some u:=z;cases z') (λb z=>absurd rfl z) λz=>absurd rfl z
 |none=>
  refine core (λb=>if b=a then some (.frz {cls:=.type "list",data:=.seq vs.toArray} (.lst (T:)))else none) (λb=>?_) (.inl (.inr ⟨{cls:=.type "list",data:=.seq vs.toArray},if_pos rfl⟩)) (λb u z=>?_) (λb z=>?_) λ_=>hk
  ·by_cases hb:b=a
   ·exact .inr ⟨_,_,if_pos hb⟩
   ·exact .inl (if_neg hb)
  ·by_cases hb:b=a
   ·have z':=(if_pos hb).symm.trans z
    cases z';subst hb;exact⟨ha,by rw[Ab];exact hl,vs,_,rv,ha⟩
   ·have z':=(if_neg hb).symm.trans z
    cases z'
  ·by_cases hb:b=a
   ·exact hb
   ·exact absurd (if_neg hb) z
abbrev KOf{K:W.Frag}{h:Heap}(_:K.In h):PySem.W.Frag:=K
def Zp9{l:PySem.W.OpenLaw}{d:DefRec}{K:Params->PySem.W.Frag}{CX:World->CXT}{sp:World->Sp}{x:Str}
  (hn:l.most=some n) (wn:n<=sizeLine) (hdf:d.params.defaults=[]) (hr:Room k callerA)
  (hY:∀(w:World)(h:Heap),YP w h->(K w.params).In h)
  (F:∀ (w:World) (mg:Str->Option Value) (fa:Addr) (h:Heap),(K w.params).In h->h.Ns mainGlobals mg->mg d.name=some (.ref fa) ->
   ∃fd:FuncData,(∀(s:Shared)(u:Value),BindsTo s fd ⟨[u],[]⟩ [(x,u)])/\
    ∀base:Heap,(K w.params).In base->base.Ns mainGlobals mg->FnOk l.prog w (K w.params) mg base (CX w) k fa fd [x] (sp w))
  (o5:∀(w:World)(H:Hp)(a:Addr)(ns:List Int),ns.length<=n->Only H->SqL (K w.params) H a (T:)->sp w [.ref a] H (λv _=>v=.bl true) λ_ _ _=>False)
  (hCX:∀(w:World)(H:Hp)(s:Shared)(e:Value)(s':Shared),CX w [] H s (λ_ _ _=>False) e s'->False):
  PySem.W.WalkO q sx XP YP l.row.toRowW d [] (λf vs=>PySem.call f vs):=by
 refine Att.attach_call hn hdf λw s₀ s₁ mg mb fa o pm cd nk a vs ns G Qzj ho hd oo hmg y9 vg l9 hg=>?_;have KX:=hY w _ Qzj;obtain⟨fd,hb,hF⟩:=F w mg fa _ KX G.T.g hmg;exact Zo7 KX G.T.g G.T.b G.T.builtins G.T.nolimit hg y9 vg (Nat.le_trans l9 wn) hr hF hb (λH hO hS=>o5 w H a ns l9 hO hS) λH e s'=>hCX w H s₁ e s'
def Yb(s:Stmt)(j:Nat):Stmt:=match s with
 | .ClassDef _ _ _ body _ _ _ _ _ _ _=>body.getD j (.Pass ⟨0,0,0,0⟩)
 |_=>.Pass ⟨0,0,0,0⟩
noncomputable def Xu(s:Stmt):Arguments:=match s with
 | .FunctionDef _ a _ _ _ _ _ _ _ _=>a
 |_=>{posonlyargs:=[],args:=[],vararg:=none,kwonlyargs:=[],kw_defaults:=[],kwarg:=none,defaults:=[]}
noncomputable def Yw(s:Stmt):List Stmt:=match s with
 | .FunctionDef _ _ b _ _ _ _ _ _ _=>b
 |_=>[]
noncomputable def Zf(s:Stmt):Scope:=match s with
 | .FunctionDef _ _ _ _ _ _ sc _ _ _=>sc
 |_=>{kind:=.function,names:=[],isGenerator:=false,isCoroutine:=false}
abbrev E0:XK:=λ_ _ _=>False
structure Fun(K:W.Frag)(x qual:Str)(st:Stmt)(f:Addr)(fd:FuncData):Prop where
 ex:∃(oc:Value)(od:Option Addr)(kV nk pm:Value)(an:Option Addr)(mh ct:Value)(uj:Array (Option Value)),
  fd=PySem.W.fnOf x qual (Xu st) (Yw st) (Zf st) .none kV nk pm an mh ct/\K.lookup f=some ⟨oc,od,.func fd,uj⟩/\PySem.W.codeIn K mh qual=true
 kp:PySem.W.keepIn K (.ref f)=true
section
variable{P:Program}{w:World}{K:W.Frag}{mg:Str->Option Value}{base:Heap}
def Fun.binds{x qual:Str}{st:Stmt}{f:Addr}{fd:FuncData}{ps:List Str}(F:Fun K x qual st f fd)
  (h:∀(kV nk pm:Value)(an:Option Addr)(mh ct:Value)(us:List Value),us.length=ps.length->bindArgs (PySem.W.fnOf x qual (Xu st) (Yw st) (Zf st) .none kV nk pm an mh ct) ⟨us,[]⟩=pure (ps.zip us)):Xx K fd ps []:=by
 obtain⟨oc,od,kV,nk,pm,an,mh,ct,uj,rfl,lk,oo⟩:=F.ex;exact .all (h kV nk pm an mh ct)
def Zbw{x qual:Str}{st:Stmt}{f:Addr}{oc:Value}{od an:Option Addr}{uj:Array (Option Value)}{kV nk pm mh ct:Value}(l:K.lookup f=some ⟨oc,od,.func (PySem.W.fnOf x qual (Xu st) (Yw st) (Zf st) .none kV nk pm an mh ct),uj⟩)
  (c:PySem.W.codeIn K mh qual=true) (k:PySem.W.keepIn K (.ref f)=true):Fun K x qual st f (PySem.W.fnOf x qual (Xu st) (Yw st) (Zf st) .none kV nk pm an mh ct):=⟨⟨oc,od,kV,nk,pm,an,mh,ct,uj,rfl,l,c⟩,k⟩
end
def Wc{A:Around}(hr:Room k A):A.units+1<cLine:=Nat.lt_of_le_of_lt (Nat.add_le_add_left (by decide:1<=64) _) hr.units
def Zt{n:Nat}(h:n<=1000):n<sizeLine:=Nat.lt_of_le_of_lt h (d:)
section
variable{X:Cx}
def pv(i:Nat)(hN:X.N[i]?=some x:=by rfl)(hv:Vis X.env.scope x:=by first|exact Or.inl rfl|exact Or.inr (Or.inl rfl)|exact Or.inr (Or.inr rfl))(hd:(J:)=false:=by decide)
  (oo:(x==("__classdict__":Str))=false:=by decide):PE X (.Name x pos) (tVar i):=Zl4 hN hv hd oo
def ite2{A B:Prop}[Decidable c](h1:c->A)(h2:¬c->B):if c then A else B:=by
 by_cases h:c
 ·rw[if_pos h]
  exact h1 h
 ·rw[if_neg h]
  exact h2 h
def Same(H H':Hp):Prop:=∀b o,H b=some o->H' b=some o
def Same.refl(H:Hp):Same H H:=λ_ _ h=>h
def Same.trans(a:Same H H1)(b:Same H1 H2):Same H H2:=λc o h=>b c o (a c o h)
def Same.free{H H':Hp}(e:Same H H'){l:Addr}(h:H' l=Option.none):H l=Option.none:=by
 cases q:H l with
 |none=>rfl
 |some o=>
  rw[e l o q]at h;cases h
def Same.seq{K:W.Frag}{H H':Hp}{a:Addr}{xs:List V}(e:Same H H')(h:SqL K H a xs):SqL K H' a xs:=by
 rcases h with (h|⟨o,h⟩)|h
 ·exact .inl (.inl (e _ _ h))
 ·exact .inl (.inr ⟨o,e _ _ h⟩)
 ·exact .inr h
def Zdy:Y6 X (.builtin "len") (λxs H Q=>∃a kvs,xs=[V.ref a]/\H a=some (.dK kvs)/\Q (.int kvs.length) H):=by
 intro j' s σ H xs us Q I r h;obtain⟨a,kvs,rfl,ha,q⟩:=h;obtain⟨u,rfl,ru⟩:=Xb r;cases ru;exact Zu9 I (.inl ha) λt s' I'=>⟨.int kvs.length,H,I',⟨t,Y⟩,q⟩
end
noncomputable def Y4(env:Env):List (Str×NameKind)->List (Str×Addr)->List (Str×Addr)
 |[],md=>md
 | (n,k) :: r,md=>if (k == NameKind.free)=true then (match env.cells.lookup n with
  |some c=>Y4 env r ((n,c)::md)
  |none=>Y4 env r md)else Y4 env r md
theorem Jp{env:Env}:∀(ns:List (Str×NameKind))(md:List (Str×Addr)),(∀x c,md.lookup x=some c->env.cells.lookup x=some c) ->
  ∀x c,(Y4 env ns md).lookup x=some c->env.cells.lookup x=some c
 |[],md,h=>h
 |(n,k)::r,md,h=>by
  unfold Y4;split
  ·cases e:env.cells.lookup n with
   |none=>exact Jp r md h
   |some c=>
    refine Jp r _ λx d hx=>?_;rw[lookup_cons]at hx
    cases hb:x==n with
    |true=>
     rw[hb]at hx;cases hx;rw[beq_iff_eq.mp hb];exact e
    |false=>
     rw[hb]at hx;exact h x d hx
  ·exact Jp r md h
theorem Jq:∀(ns:List (Str×NameKind))(md:List (Str×Addr))(x:Str),(∃c,md.lookup x=some c)->∃c,(Y4 env ns md).lookup x=some c
 |[],md,x,h=>h
 |(n,k)::r,md,x,h=>by
  unfold Y4;split
  ·cases e:env.cells.lookup n with
   |none=>exact Jq r md x h
   |some c=>
    refine Jq r _ x ?_;rw[lookup_cons]
    cases hb:x==n with
    |true=>exact⟨c,Y⟩
    |false=>exact h
  ·exact Jq r md x h
theorem Qq{env:Env}:∀(ns:List (Str×NameKind))(md:List (Str×Addr))(x:Str),(x,NameKind.free)∈ns->(∃c,env.cells.lookup x=some c)->∃c,(Y4 env ns md).lookup x=some c
 |[],md,x,h,_=>by cases h
 |(n,k)::r,md,x,h,hc=>by
  rcases Ar h with e|h
  ·cases e
   obtain⟨c,hc⟩:=hc;unfold Y4;rw[if_pos (show(NameKind.free==NameKind.free)=true by decide),hc];exact Jq r _ n ⟨c,by rw[lookup_cons,beq_self_eq_true]⟩
  ·unfold Y4
   split
   ·cases e:env.cells.lookup n with
    |none=>exact Qq r md x h hc
    |some c=>exact Qq r _ x h hc
   ·exact Qq r md x h hc
theorem O0{env:Env}(f:Str×NameKind->List (Str×Addr)->Sem (ForInStep (List (Str×Addr))))
  (hf:∀name kind cs,f (name,kind) cs=if(kind==NameKind.free)=true then(do let a<-cellOf env name;pure (.yield ((name,a)::cs)))else pure (.yield cs)):
  ∀(ns:List (Str×NameKind))(md:List (Str×Addr)),(∀y∈ns,y.2=.free->∃c,env.cells.lookup y.1=some c)->forIn ns md f=pure (Y4 env ns md)
 |[],md,_=>by rw[forIn_nil];rfl
 |(n,k)::r,md,h=>by
  rw[forIn_cons,hf];unfold Y4;have hr:∀y∈r,y.2=.free->∃c,env.cells.lookup y.1=some c:=λy hy=>h y (mem_cons_of_mem _ hy);split
  ·rename_i hk
   obtain⟨c,hc⟩:=h (n,k) mem_cons_self (by simpa using hk);have yn:env.cells.lookup n=some c:=hc;have e:cellOf env n=pure c:=by unfold cellOf;rw[yn]
   rw[e,yn];exact O0 f hf r ((n,c)::md) hr
  ·exact O0 f hf r md hr
def Jl{env:Env}{scope:Scope}(h:∀y∈scope.names,y.2=.free->∃c,env.cells.lookup y.1=some c):closureFor scope env=pure (Y4 env scope.names []):=by
 unfold closureFor;dsimp only;rw[O0 (env:=env) _ (λname kind cs=>by split<;>rfl) scope.names [] h];rfl
theorem Qe(env:Env):∀(names:List (Str×NameKind))(x:Str),
  (names.map λ(n,k)=>if(F:) then(n,NameKind.cell) else(n,k)).lookup x =
   (names.lookup x).map λk=>if(k==NameKind.free&&env.scope.kind == .function&&env.kindOf x==some .cell)=true then NameKind.cell else k
 |[],_=>rfl
 |(n,k)::r,x=>by
  have ih:=Qe env r x;have e:(if(F:)=true then(n,NameKind.cell) else(n,k))=(n,if(F:)=true then NameKind.cell else k):=by split<;>rfl
  show List.lookup x ((if(F:)=true then(n,NameKind.cell) else(n,k))::_)=_;rw[e,lookup_cons,lookup_cons]
  cases hx:x==n with
  |true=>
   have e2:x=n:=beq_iff_eq.mp hx;subst e2;rfl
  |false=>exact ih
def K0{env:Env}{names:List (Str×NameKind)}(hc:∀y∈names,y.2≠.cell)
  (h:(names.map λ(n,k)=>if(F:) then(n,NameKind.cell) else(n,k)).lookup x=some k) (hk:k=.cell\/k=.free):names.lookup x=some .free:=by
 rw[Qe]at h
 cases e:names.lookup x with
 |none=>rw[e]at h;cases h
 |some k'=>
  rw[e]at h;have vq:k'≠.cell:=hc _ (PySem.mem_of_lookup e);have h':(if(k'==NameKind.free&&env.scope.kind == .function&&env.kindOf x==some .cell)=true then NameKind.cell else k')=k:=Ax h;split at h'
  ·rename_i q
   simp only[Bool.and_eq_true,beq_iff_eq]at q;rw[q.1.1]
  ·subst h'
   rcases hk with z|z
   ·exact absurd z vq
   ·rw[z]
def Zbf{env:Env}{names:List (Str×NameKind)}(h:names.lookup x=some .free):
  (names.map λ(n,k)=>if(F:) then(n,NameKind.cell) else(n,k)).lookup x≠some .local:=by
 rw[Qe,h];intro z;have z':(if(NameKind.free==NameKind.free&&env.scope.kind == .function&&env.kindOf x==some .cell)=true then NameKind.cell else NameKind.free)=.local:=Ax z;split at z'<;>cases z'
noncomputable def Zx(X:Cx)(N':List Str)(scope:Scope)(C:Addr)(s₀:Shared)(H₀:Hp)(ex:List Addr):Cx:=
 {X with N:=N',s₀:=s₀,H₀:=H₀,env:=compEnvC scope (Y4 X.env scope.names []) C X.env,outer:=X.stack,ex:=ex,fn:=λ_=>false,pn:=[],xe:=λ_ _=>False}
def FvOk(X:Cx)(scope:Scope):List (Str×Nat)->Prop
 |[]=>True
 |(x,j)::r=>(X.N[j]?=some x/\scope.names.lookup x=some .free/\(X.env.kindOf x=some .cell\/X.env.kindOf x=some .free))/\FvOk X scope r
theorem FvOk.mem{X:Cx}{scope:Scope}:∀{l:List (Str×Nat)},FvOk X scope l->∀y∈l,X.N[y.2]?=some y.1/\scope.names.lookup y.1=some .free/\(X.env.kindOf y.1=some .cell\/X.env.kindOf y.1=some .free)
 |[],_,_,h=>by cases h
 |(x,j)::r,h,y,hy=>by
  rcases Ar hy with e|hy
  ·cases e;exact h.1
  ·exact FvOk.mem h.2 y hy
noncomputable def blkN(ts:List Str)(fv:List (Str×Nat)):List Str:=ts++fv.map (·.1)
noncomputable def blkS(ts:List Str)(fv:List (Str×Nat))(σ:St):St:=ts.map (λ_=>none)++fv.map λy=>(σ[y.2]?).join
structure BlkOk(X:Cx)(scope:Scope)(fv:List (Str×Nat)):Prop where
 kind:scope.kind=.function
 nocell:∀y∈scope.names,y.2≠.cell
 names:∀y∈scope.names,y.2=.local->scope.names.lookup y.1=some .local
 free:∀y∈scope.names,y.2=.free->X.env.kindOf y.1=some .cell\/X.env.kindOf y.1=some .free
 fvs:FvOk X scope fv
section
variable{X:Cx}{j':List (j:)}{σ:St}{H:Hp}{s:Shared}{scope:Scope}{ts:List Str}{fv:List (Str×Nat)}
def Um{h':Heap}{tk:Nat}(B:BlkOk X scope fv)(I:Inv X j' σ H s)(hf:∀b∈fp,FpOk X j' H b)(ho:∀b∈fp,∃o,s.heap.get? b=some o)
  (hn:h'.Ns s.heap.objs.size (λ_=>none)) (hk:∀b o,s.heap.get? b=some o->h'.get? b=some o):
  Inv (Zx X (A:) scope s.heap.objs.size s H fp) [] (blkS ts fv σ) H {s with heap:=h',toks:=tk}:=by
 have has:∀y∈scope.names,y.2=.free->∃c,X.env.cells.lookup y.1=some c:=λy hy e=>I.ok.has y.1 (B.free y hy e);have zq:∀x c,(Y4 X.env scope.names []).lookup x=some c->X.env.cells.lookup x=some c:=Jp _ _ (λx c h=>by simp at h);have fr:∀x,(scope.names.lookup x=some .free)->∃c,(Y4 X.env scope.names []).lookup x=some c:=λx hx=>
  Qq _ _ x (PySem.mem_of_lookup hx) (has _ (PySem.mem_of_lookup hx) rfl)
 have nfs:∀b∈fp,b∉frs X.stack:=λb hb z=>by
  obtain⟨_,h1,h2,_⟩:=hf b hb
  rcases Ar (I.stkSub b z)with e|e
  ·exact h1 e
  ·exact h2 e
 have lt:∀b∈fp,b<s.heap.objs.size:=λb hb=>let⟨o,e⟩:=ho b hb;Ao e
 refine⟨⟨I.ok.mod,?_,I.ok.glob,I.ok.blt,An _,λx y c h1 h2=>I.ok.inj x y c (zq x c h1) (zq y c h2),λx hx=>?_,λ_ _ h=>absurd (show false=true from h) Bool.false_ne_true,I.ok.hd,I.ok.frames,.inl Y,λb hb=>⟨As (lt b hb),λx c e=>(hf b hb).2.2.2.2.1 x c (zq x c e)⟩,I.bs,Nat.le_trans I.ok.bsz I.sz,λb o e hb=>?_,nfs,I.stack,I.stkFree⟩,
  rfl,I.bare,Un.kept hk,⟨_,hn,λi x v h1 h2 h3=>?_⟩,λx c e=>?_,I.fresh,λx c e=>I.freeC x c (zq x c e),λp hp=>?_,I.hok.kept hk,?_⟩
 ·exact B.kind
 ·refine fr x ?_
  have p4:(relabel scope X.env).names.lookup x=some .cell\/(relabel scope X.env).names.lookup x=some .free:=hx
  rcases p4 with e|e
  ·exact K0 B.nocell e (.inl Y)
  ·exact K0 B.nocell e (.inr Y)
 ·rcases(hf b hb).2.2.2.1 with z|z
  ·exact I.ok.noex b o e z
  ·exact absurd (Ag (Ao e) (Nat.le_trans I.ok.bsz z)) (Nat.lt_irrefl _)
 ·have h1:(ts++fv.map (·.1))[i]?=some x:=h1
  have h2:(ts.map (λ_=>(none:Option V))++fv.map λy=>(σ[y.2]?).join)[i]?=some (some v):=h2;by_cases hi:i<ts.length
  ·rw[Av (by simpa using hi),Ah]at h2
   cases e:ts[i]? with
   |none=>rw[e]at h2;cases h2
   |some z=>rw[e]at h2;cases h2
  ·rw[getElem?_append_right (by simpa using hi),Ab,Ah]at h2
   rw[getElem?_append_right (by simpa using hi),Ah]at h1
   cases e:fv[i-ts.length]? with
   |none=>rw[e]at h2;cases h2
   |some y=>
    rw[e]at h1 h2;have e1:y.1=x:=by simpa using h1
    have e2:(σ[y.2]?).join=some v:=by simpa using h2
    obtain⟨f1,f2,f3⟩:=B.fvs.mem y (Au e)
    have e3:σ[y.2]?=some (some v):=by
     cases q:σ[y.2]? with
     |none=>rw[q]at e2;cases e2
     |some z=>rw[q]at e2;exact congrArg some e2
    obtain⟨m,hm,hl⟩:=I.loc;obtain⟨u,r,l⟩:=hl y.2 y.1 v f1 e3 (by rcases f3 with z|z;exact .inr (.inl z);exact .inr (.inr z));rw[e1]at f2 f3 l;refine⟨u,r,?_⟩;obtain⟨c,hc⟩:=fr x f2;have yn:=zq x c hc
    rcases l with ⟨l1,_⟩|⟨_,c2,l2,l3⟩
    ·rcases f3 with z|z
     ·rw[l1]at z;cases z
     ·rw[l1]at z;cases z
    ·rw[yn]at l2
     cases l2;have hv:Vis (relabel scope X.env) x:=h3
     rcases hv with z|z|z
     ·exfalso
      exact Zbf f2 z
     ·exact .inr ⟨.inl z,c,hc,l3.keeps hk⟩
     ·exact .inr ⟨.inr z,c,hc,l3.keeps hk⟩
 ·obtain⟨v,z⟩:=I.cell x c (zq x c e)
  exact⟨v,z.keeps hk⟩
 ·exact absurd (show p∈([]:List (j:))from hp) (by simp)
 ·show(ts.map (λ_=>(none:Option V))++fv.map λy=>(σ[y.2]?).join).length=(ts++fv.map (·.1)).length
  simp
def Inv.apart(I:Inv X j' σ H s)(hs:Heap.SameBut C s.heap h')(hC:H C=none)(h0:X.s₀.heap.objs.size<=C)(hL:C≠X.env.locals)(hc:∀x c,X.env.cells.lookup x=some c->c≠C)(hp:∀p∈X.pn++j',p.1≠C):
  Inv X j' σ H {s with heap:=h' }:=
 I.turned (t':=s.toks) (it:=C) (λb o hb e=>(hs.2 b hb).trans e) hC hL (.inr h0) hc hp
def Ob(I:Inv X j' σ H s)(hf:∀b∈fp,FpOk X j' H b)(hC:s.heap.objs.size<=C)
  (J:Inv (Zx X N' scope C s H fp) [] σ' H' s'):Inv X j' σ H' s'/\H' C=none/\X.s₀.heap.objs.size<=C/\C≠X.env.locals/\(∀x c,X.env.cells.lookup x=some c->c≠C)/\(∀p∈X.pn++j',p.1≠C):=by
 refine⟨I.call' J.os J.base J.hok J.bare λb hb=>?_,J.free,Nat.le_trans I.sz hC,Nat.ne_of_gt (Ag I.lt hC),λx c e z=>?_,λp hp z=>?_⟩
 ·obtain⟨_,h1,_,h3,h4,h5⟩:=hf b hb
  exact⟨h3,h1,h4,h5⟩
 ·obtain⟨v,q⟩:=I.cell x c e
  exact absurd (Ag q.lt (by rw[z];exact hC)) (Nat.lt_irrefl _)
 ·exact absurd (Ag (Ao (I.pin p hp).1) (by rw[z];exact hC)) (Nat.lt_irrefl _)
end
abbrev TB:=St->Hp->(St->Hp->Prop)->Prop
def PTs(X:Cx)(ifs:List Expr)(t:TT):Prop:=
 ∀(j':List (j:))(s:Shared)(σ:St)(H:Hp)(Q:Bool->Hp->Prop),Inv X j' σ H s->t σ H Q ->
  wpAny (c:) X.A (af:) (TP X j' σ Q) X.xe s
def tYes:TT:=λ_ H Q=>Q true H
def Yh:PTs X [] tYes:=λj' s σ H Q I h=>wpAny_tests_nil ⟨H,I,h⟩
def Zck(h:PT X c t):PTs X [c] t:=λj' s σ H Q I hq=>wpAny_tests_one (h j' s σ H Q I hq)
def PB(X:Cx)(mv:Sem Fin)(c:Code)(t:TB):Prop:=
 ∀(j':List (j:))(s:Shared)(σ:St)(H:Hp)(N:St->Hp->Prop),Inv X j' σ H s->t σ H N ->
  wpAny (c:) X.A mv (λm9 s'=>m9=.again c/\∃σ' H',Inv X j' σ' H' s'/\N σ' H') X.xe s
def Jr(J:It)(g:TG)(tt:TT)(tb:TB)(R:St->Hp->Prop)(σ:St)(H:Hp):Prop:=
 ∃W:Nat->Nat->St->Hp->Prop,(∃m,W 0 m σ H)/\∀i m σ H,W i m σ H ->
  (J.stop i H/\R σ H)\/(J.go i H/\∃ N:St->Hp->Prop,(p:) /\
   ∀x H',J.yld i H x H'->g x σ H' λσ2 H2=>tt σ2 H2 λb H3=>if b=true then tb σ2 H3 N else N σ2 H3)
section
variable{X:Cx}
theorem Gh{s:Shared}(qo:X.xe=λ_ _=>False)
  (hcq:Code.quiet (Q:)=true) (zj:(c:).den (Q:)=(compTurn e d (.ref it) md X.env).onRaise (λx=>do noteFrame x X.env;theTreesLotGoes x))
  (yy:X.A.under (Q:)=X.A)
  (qf:compTurn e d (.ref it) md X.env=(standAt p >>= λ_=>pyNext (.ref it) >>= λr=>match r with
   |none=>pure (.done .next)
   |some v=>letOwnedTupleGo tg (.ref it) v>>=λ_=>assign tg X.env v>>=λ_=>
    (af:)>>=λok=>
     if ok=true then mv else again (Q:)))
  (T:Turn X.prog X.w X.K tg J fp it tn) (hc:X.calm=true) (hg:PG X tg g) (ht:PTs X ifs tt) (hb:PB X mv (Q:) tb)
  (hf:∀b∈fp,FpOk X j' H b) (I:Inv X j' σ H s) (st:tn 0 s.heap) (h:Jr J g tt tb R σ H)
  (hR:∀s' σ' H',Inv X j' σ' H' s'->R σ' H'->RR (.ok .next) s'):
  codeAny (c:) X.A (Q:) RR s:=by
 obtain⟨W,⟨m0,w0⟩,qg⟩:=h;have ow:∀{H':Hp},(bg:)->∀b∈fp,FpOk X j' H' b:=λhn b hb=>⟨hn b hb,(hf b hb).2⟩;refine codeAny_loop hcq (λn s'=>∃i σ' H',Inv X j' σ' H' s'/\tn i s'.heap/\(bg:)/\W i n σ' H') ?_ m0 ⟨0,σ,H,I,st,λb hb=>(hf b hb).1,w0⟩;rintro n s3 ⟨i,σ3,H3,I3,o4,ut,w3⟩;rw[zj,yy];refine wpAny_noted (wpAny_mono (E:=λ_ _=>False) ?_ (λ_ _ q=>q) λ_ _ z=>z.elim);rw[qf];have hxe':∀{α:Type}{t:Sem α}{Q:α->Shared->Prop}{s:Shared},wpAny (c:) X.A t Q X.xe s->wpAny (c:) X.A t Q (az:) s:=λh=>by rw[qo]at h;exact h
 refine Al (wpAny_standAt (Al ?_))
 rcases qg i n σ3 H3 w3 with ⟨stop,qn⟩|⟨go,N,hN,step⟩
 ·refine thn (T.done X rfl rfl rfl hc i j' s3 σ3 H3 _ I3 (ow ut) o4 stop) λr s4 ⟨hr,I4⟩=>?_
  subst hr;exact wpAny_pure (hR s4 σ3 H3 I4 qn)
 ·refine thn (T.item X rfl rfl rfl hc i j' s3 σ3 H3 _ I3 (ow ut) o4 go) λr s4 ⟨u,hr,h4⟩=>?_
  subst hr;refine Al (thn h4 λ_ s5 me=>?_);obtain⟨x,H5,I5,r5,y5,qk,yp⟩:=me;have yr:=I5.pinned (ow yp) (T.obj _ _ qk);refine Al (hxe' (thn (hg _ s5 σ3 H5 x u _ yr r5 (step x H5 y5)) λ_ s6 me=>?_));obtain⟨σ6,H6,I6,q6⟩:=me;refine Al (qo▸thn (ht _ s6 σ6 H6 _ I6 q6) λok s7 me=>?_);obtain⟨H7,I7,q7⟩:=me;have vc:∀{σ7:St}{H7:Hp}{s7:Shared},Inv X (j'++Qt fp s5.heap) σ7 H7 s7->N σ7 H7->∃m,m<n/\∃i σ' H',Inv X j' σ' H' s7/\tn i s7.heap/\(bg:)/\W i m σ' H':=λ{σ7 H7 s7}I7 n7=>by
   obtain⟨m',hm,w7⟩:=hN σ7 H7 n7
   refine(ap:)
   obtain⟨o,e,d⟩:=T.obj _ _ qk b hb
   exact(x:).2.1
  cases ok with
  |false=>exact qo▸wpAny_pure ⟨Y,vc I7 q7⟩
  |true=>
   refine thn (hb _ s7 σ6 H7 N I7 q7) λm9 s8 me=>?_;obtain⟨ze,σ8,H8,I8,q8⟩:=me;subst ze;exact⟨Y,vc I8 q8⟩
def Zpv(te:TE)(D:Addr):TB:=λσ H N=>te σ H λv H1=>∃xs,H1 D=some (.lst xs)/\xs.length<sizeLine/\N σ (upd H1 D (.lst (xs++[v])))
def Yq(he:PE X nu te):
  PB X ((eval nu X.env>>=λx=>call (.builtin "list.append") [.ref D,x]>>=λ_=>pure ())>>=λ_=>again c) c (Zpv te D):=by
 intro j' s σ H N I h;refine Al (Al (thn (bz:) λu s1 me=>?_));obtain⟨v,H1,I1,r1,q1⟩:=me;obtain⟨xs,hD,hl,q⟩:=q1;refine Al (thn (Gb j' s1 σ H1 (.ref D) [v] (.ref D) [u] (λ_ H2=>N σ H2) I1 Y (.cons r1 .nil) ⟨D,xs,v,Y,Y,hD,hl,q⟩) λ_ s2 me=>?_);obtain⟨_,H2,I2,_,q2⟩:=me;exact wpAny_pure (wpAny_pure ⟨Y,σ,H2,I2,q2⟩)
def tGen(wi:TI)(g:TG)(tt:TT)(tb:TB):TB:=λσ H N=>wi σ H λJ H1=>Jr J g tt tb N σ H1
def Zku{t0 i0:Expr}{f0:List Expr}{t1 i1:Expr}{f1:List Expr}
  (h0:codeAny (ae:) A (.compLoop (N:) 1 it md env) R s)
  (h:wpAny (ae:) A (pyIter it) (λit' s'=>codeAny (ae:) A (.compLoop (N:) 1 it' md env) R s')
   (notedBy (ae:) A env λx s'=>R (.error x) s') s):
  codeAny (ae:) A (.compStart (N:) 1 it md env) R s:=by
 refine codeAny_of_tree ?_;show wpAny _ _ ((compStart (N:) 1 it md env).onRaise (λx=>do noteFrame x env;standAt theWindowsPlace)) _ _ s;refine wpAny_notedAt ?_;unfold compStart;show wpAny _ _ (ask>>=_) _ _ s;refine Al (wpAny_askSetting (wpAny_ite ?_));split
 ·first
   |exact Al (wpAny_pure (wpAny_pure (And.intro Y h0)))
   |exact wpAny_pure (And.intro Y h0)
 ·first
   |exact Al (wpAny_rule (Al (wpAny_standAt (Al (wpAny_mono h (λit' s' h'=>wpAny_pure (And.intro Y h')) λ_ _ x=>x)))))
   |(refine Al (wpAny_rule ?_);show wpAny _ _ (standAt i1.pos>>=_) _ _ s;exact Al (wpAny_standAt (Al (wpAny_mono h (λit' s' h'=>wpAny_pure (And.intro Y h')) λ_ _ x=>x))))
def Zl9{t0 i0 i1:Expr}{f0:List Expr}(qo:X.xe=λ_ _=>False)(hc:X.calm=true)
  (hi:PI X t1 i1 wi) (hg:PG X t1 g) (ht:PTs X f1 tt) (he:PE X nu te) (hs:∀x,foldedSetIterable i1 X.env x=pure x:=by intro _;rfl):
  PB X (eval i1 X.env >>= λx=>standAt i1.pos >>= λ_=>foldedSetIterable i1 X.env x >>= λx=>holding [x] (pyIter x) >>= λit =>
   runOwn (.compStart (N:) 1 it (.ref D) X.env) X.env>>=λ_=>again c) c (tGen wi g tt (Zpv te D)):=by
 intro j' s σ H N I h;refine Al (thn (hi j' s σ H _ I h) λv s1 h1=>Al (wpAny_standAt ?_));rw[hs];refine Al (wpAny_pure (Al (wpAny_holding (thn h1 λxi s2 h2=>?_))));obtain⟨it,fp,tn,J,H2,e,I2,T,n6,f2,L⟩:=h2;subst e;have loop:∀(A:Around),A=X.A->codeAny (c:) A (.compLoop (N:) 1 (.ref it) (.ref D) X.env)
   (λr s'=>match r with| .ok f=>wpAny (c:) X.A (again c) (λm9 s'=>m9=.again c/\∃σ' H',Inv X j' σ' H' s'/\N σ' H') X.xe s'| .error e=>cameBackBy (c:) X.A X.env X.xe e s') s2:=by
  rintro A rfl
  exact Gh (tg:=t1) (ifs:=f1) (R:=N) qo Y Y Y Y T hc hg ht (Yq (c:=.compLoop (N:) 1 (.ref it) (.ref D) X.env) he) f2 I2 n6 L λs' σ' H' I' q=>wpAny_pure ⟨Y,σ',H',I',q⟩
 refine Al (wpAny_runOwn (h:=none) ?_);exact Zku (loop _ Y) (T.self _ _ _ _ _ n6 (loop _ Y))
end
def Zjn(ts:List Str)(fv:List (Str×Nat))(wi:TI)(g:TG)(tt:TT)(tb:Addr->TB):TE:=λσ H Q=>wi σ H λJ H1=>∀D,H1 D=none ->
 Jr J g tt (tb D) (λ_ H'=>Q (.ref D) H') (blkS ts fv σ) (upd H1 D (.lst []))
section
variable{X:Cx}{ts:List Str}{fv:List (Str×Nat)}{scope:Scope}{nu t0 i0:Expr}{f0:List Expr}{l8:List Comprehension}{pos:Pos}{wi:TI}{g:TG}{tt:TT}{tb:Addr->TB}{mv:Env->Addr->Addr->Sem Fin}
theorem Zdx(B:BlkOk X scope fv)(hc:X.calm=true)(hi:PI X t0 i0 wi)
  (hg:∀C s₀ H₀ ex,PG (e:) t0 g) (ht:∀C s₀ H₀ ex,PTs (e:) f0 tt)
  (qf:∀ (env:Env) (it D:Addr),compTurn (f:) 0 (.ref it) (.ref D) env=(standAt i0.pos >>= λ_=>pyNext (.ref it) >>= λr=>match r with
   |none=>pure (.done .next)
   |some v=>letOwnedTupleGo t0 (.ref it) v>>=λ_=>assign t0 env v>>=λ_=>
    (k:)>>=λok=>
     if ok=true then mv env it D else again (bn:)))
  (hb:∀C s₀ H₀ ex it D,PB (e:) (mv (e:).env it D) (a8:) (tb D)) {RR:Value->Addr->Result->Shared->Prop} (I:Inv X j' σ H s) (h:Zjn ts fv wi g tt tb σ H Q)
  (hRR:∀D C s' H',Inv X j' σ H' s'->H' C=none->X.s₀.heap.objs.size<=C->C≠X.env.locals->(∀x c,X.env.cells.lookup x=some c->c≠C)->(∀p∈X.pn++j',p.1≠C)->(∃m,s'.heap.Ns C m)->Q (.ref D) H'->RR (.ref D) C (.ok .next) s'):
  wpAny (c:) X.A (eval i0 X.env) (λx s₁=>wpAny (c:) X.A (pyIter x) (λit s₂=>wpAny (c:) X.A (newList []) (λmd s₃ =>
   wpAny (c:) X.A (newFunctionEnv scope X.env.globals (Y4 X.env scope.names []) [] X.env.qual none .none (some X.env)) (λqj s₄ =>
    codeAny (c:) X.A (.compStart (f:) 0 it md {qj with scope:=relabel scope X.env}) (RR md qj.locals) s₄) X.xe s₃) X.xe s₂) X.xe s₁) X.xe s:=by
 refine thn (hi j' s σ H _ I h) λv s1 h1=>thn h1 λxi s2 h2=>?_;obtain⟨it,fp,tn,J,H2,e,I2,T,n6,f2,L⟩:=h2;subst e;have L:=L s2.heap.objs.size I2.fresh;refine wpAny_newObj_type ?_;have I3:Inv X j' σ (q:) {s2 with heap:=s2.heap.push {cls:=.type "list",data:=.seq (b1:).toArray},toks:=s2.toks}:=I2.lnew (its:=[]) (t':=s2.toks) .nil (Az _);have tz:∀b∈fp,∃o,s2.heap.get? b=some o/\∀v,o.data≠.cell v:=T.obj _ _ n6;have f3:∀b∈fp,FpOk X j' (q:) b:=λb hb=>by
  obtain⟨o,ho,_⟩:=tz b hb
  refine⟨?_,(f2 b hb).2⟩
  rw[Ze (As (Ao ho))]
  exact(f2 b hb).1
 have o4:tn 0 (O:):=T.keep _ _ _ n6 λb _ o e=>Ak _ e;have rm:∀b∈fp,∃o,(O:).get? b=some o:=λb hb=>let⟨o,e,_⟩:=tz b hb;⟨o,Ak _ e⟩
 generalize hs3:({s2 with heap:=s2.heap.push {cls:=.type "list",data:=.seq ([]:List Value).toArray},toks:=s2.toks}:Shared)=s3 at I3;have eh:s2.heap.push {cls:=.type "list",data:=.seq (b1:).toArray}=s3.heap:=by rw[<-hs3]
 rw[eh]at o4 rm;refine wpAny_newFunctionEnv B.nocell (by intro y hy;simp at hy) (λh₁ vp rf=>?_) B.kind;have hk:∀b o,s3.heap.get? b=some o->h₁.get? b=some o:=λb o e=>rf.extBut b o (As (Ao e)) (Ak _ e);have I4:=Um (ts:=ts) (tk:=s3.toks+([]:List (Str×Value)).length) B I3 f3 rm vp hk;have f4:∀b∈fp,FpOk (a7:) [] (q:) b:=λb hb=>by
  obtain⟨f0,f1,f2',f3',f4',f5'⟩:=f3 b hb
  obtain⟨o,eo⟩:=rm b hb
  exact(aj:)
 have tw:tn 0 h₁:=T.keep _ _ _ o4 λb _ o e=>hk b o e;have loop:codeAny (c:) X.A (.compLoop (f:) 0 (.ref it) (ab:) (a7:).env)
   (RR (ab:) s3.heap.objs.size) {s3 with heap:=h₁,toks:=s3.toks+([]:List (Str×Value)).length}:=by
  refine Gh (X:=Zx X (A:) scope s3.heap.objs.size s3 (q:) fp) (tg:=t0) (ifs:=f0) (R:=λ_ H'=>Q (ab:) H') Y Y Y Y (qf _ it s2.heap.objs.size) T hc (hg _ _ _ _) (ht _ _ _ _) (hb _ _ _ _ it s2.heap.objs.size) f4 I4 tw L λs' σ' H' J' q=>?_
  obtain⟨e1,e2,e3,e4,e5,e6⟩:=Ob I3 f3 (An _) J'
  obtain⟨m,hm,_⟩:=J'.loc
  exact hRR _ _ s' H' e1 e2 e3 e4 e5 e6 ⟨m,hm⟩ q
 exact codeAny_compStart_list loop (T.self _ _ _ _ _ tw loop)
theorem Yt(B:BlkOk X scope fv)(hc:X.calm=true)(hi:PI X t0 i0 wi)
  (hg:∀C s₀ H₀ ex,PG (e:) t0 g) (ht:∀C s₀ H₀ ex,PTs (e:) f0 tt)
  (qf:∀ (env:Env) (it D:Addr),compTurn (f:) 0 (.ref it) (.ref D) env=(standAt i0.pos >>= λ_=>pyNext (.ref it) >>= λr=>match r with
   |none=>pure (.done .next)
   |some v=>letOwnedTupleGo t0 (.ref it) v>>=λ_=>assign t0 env v>>=λ_=>
    (k:)>>=λok=>
     if ok=true then mv env it D else again (bn:)))
  (hb:∀C s₀ H₀ ex it D,PB (e:) (mv (e:).env it D) (a8:) (tb D))
  (hs:∀x,foldedSetIterable i0 X.env x=pure x:=by intro _;rfl):
  PE X (f:) (Zjn ts fv wi g tt tb):=by
 intro j' s σ H Q I h;rw[eval_ListComp];refine wpAny_comprehension_free (use:=none) Y hs (Jl λy hy e=>I.ok.has y.1 (B.free y hy e)) B.kind B.names ?_;refine Zdx (RR:=λmd C=>compPost (c:) X.A X.xe none (a2:) md C) B hc hi hg ht qf hb I h λD C s' H' I' e2 e3 e4 e5 e6 hm q=>?_;obtain⟨m,hm⟩:=hm;exact⟨m,hm,λh' uf=>⟨.ref D,H',I'.apart uf e2 e3 e4 e5 e6,Y,q⟩⟩
theorem Jh{uu:Pos}(B:BlkOk X scope fv)(hc:X.calm=true)(hN:X.N.Nodup)(hiy:X.N[i]?=some y)(hyl:X.env.scope.names.lookup y=some .local)
  (hsw:swapsWith (f:) (some (.Name y py)) uu.line X.env=pure true) (hi:PI X t0 i0 wi)
  (hg:∀C s₀ H₀ ex,PG (e:) t0 g) (ht:∀C s₀ H₀ ex,PTs (e:) f0 tt)
  (qf:∀ (env:Env) (it D:Addr),compTurn (f:) 0 (.ref it) (.ref D) env=(standAt i0.pos >>= λ_=>pyNext (.ref it) >>= λr=>match r with
   |none=>pure (.done .next)
   |some v=>letOwnedTupleGo t0 (.ref it) v>>=λ_=>assign t0 env v>>=λ_=>
    (k:)>>=λok=>
     if ok=true then mv env it D else again (bn:)))
  (hb:∀C s₀ H₀ ex it D,PB (e:) (mv (e:).env it D) (a8:) (tb D))
  (hs:∀x,foldedSetIterable i0 X.env x=pure x:=by intro _;rfl):
  PS X (.Assign [.Name y py] (f:) uu) (tAsg (Zjn ts fv wi g tt tb) (Zv i)):=by
 intro j' s σ H D0 I h;rw[exec_Assign_Name_used _ _ _ _ hsw];refine Al (wpAny_standAt (Al ?_));show wpAny _ X.A (do let _<-comprehension (f:) scope X.env _ (newList []) false (eval i0 X.env) (some (assign (.Name y py) X.env))) _ _ s;refine Al (wpAny_mono (wpAny_comprehension_free (use:=some (assign (.Name y py) X.env)) (Q:=λ_ s'=>SP X j' D0 .next s') Y hs (Jl λy hy e=>I.ok.has y.1 (B.free y hy e)) B.kind B.names ?_) (λ_ s' hq=>wpAny_pure (wpAny_pure hq)) λ_ _ e=>e);refine Zdx (Q:=λx H1=>Zv i x σ H1 D0.nx) (RR:=λmd C=>compPost (c:) X.A X.xe (some (assign (.Name y py) X.env)) (λ_ s'=>SP X j' D0 .next s') md C) B hc hi hg ht qf hb I h λD C s' H' I' e2 e3 e4 e5 e6 hm q=>?_;obtain⟨m,hm⟩:=hm;show wpAny _ X.A (assign (.Name y py) X.env (.ref D)) _ _ _;refine wpAny_assign_Name (Kg I' hN hiy (.inl hyl) (show RelV (.ref D) (.ref D)from Y) (λqd I'' qp=>?_) (.inr hyl));obtain⟨a,rf,ha⟩:=qp;have haC:C≠a:=by
  rcases ha with e|e
  ·rw[e];exact e4
  ·exact λz=>e5 y a e z.symm
 exact⟨m,hm.sameBut rf haC,λh' uf=>⟨_,H',I''.apart uf e2 e3 e4 e5 e6,q⟩⟩
end
def FlyT(e T:Addr)(cls a0:Value)(h:Heap):Prop:=
 ∃oe vs oT ts,h.get? e=some oe/\(oe.cls=cls/\vs[0]?=some a0)/\oe.data=.fields vs/\vs[1]?=some (.ref T)/\T≠e/\h.get? T=some oT/\oT.data=.fields ts/\ts[3]?=some .none
def CXr(P:Program)(w:World):CXT:=λouter H s E ev s'=>
 ∃(e T:Addr)(cls a0:Value)(H':Hp),ev=.ref e/\s'.os=s.os/\AllBare s'.gens/\Un (frs outer) [] H H' s.heap s'.heap/\HOk P w H' s'.heap/\
  s.heap.get? e=none/\s.heap.get? T=none/\H' e=none/\H' T=none/\FlyT e T cls a0 s'.heap/\E cls none H'
def Ya{X:Cx}:Uc (CXr X.prog X.w) X E0:=λ_ _ _ _ _ _ _ h=>by
 obtain⟨_,_,_,_,_,_,_,_,_,_,_,_,_,_,_,z⟩:=h;exact z.elim
def Zrr(h:CXr P w [] H s (λ_ _ _=>False) e s'):False:=by
 obtain⟨_,_,_,_,_,_,_,_,_,_,_,_,_,_,_,z⟩:=h;exact z
section
variable{P:Program}{w:World}{K:W.Frag}{mg:Str->Option Value}{base:Heap}
def Fun.okR{x qual:Str}{st:Stmt}{f:Addr}{fd:FuncData}{N ps:List Str}{k:Nat}{sp:Sp}(F:Fun K x qual st f fd)(S:FnScope N ps (Zf st))(len:∀vs H Q E,sp vs H Q E->vs.length=ps.length)
  (nz:∀ (mh:Value) (A:Around) (outer:List Env) (s:Shared) (H:Hp) (vs:List V) (Q:VK) (E:XK),Room k (am:)->sp vs H Q E ->
   ∃t,PSs (z:).nox (Yw st) t/\t {nx:=λ_ H'=>Q .non H',rt:=Q} (start N vs) H):(a:) (k+1) f fd ps sp:=by
 obtain⟨oc,od,kV,nk,pm,an,mh,ct,uj,rfl,lk,oo⟩:=F.ex;refine Zey lk oo S len λA outer s H vs Q E hr o5=>?_;obtain⟨t,h,q⟩:=nz mh A outer s H vs Q E hr o5;exact⟨t,h.nox,q⟩
end
section
variable{X:Cx}
def Jm:Y6 X (.builtin "isinstance") (λxs H Q=>∃x T t b,xs=[x,.ty T]/\TyOf X.K H x t/\PySem.W.kitOne X.K t (.type T)=some b/\Q (.bl b) H):=by
 intro j' s σ H xs us Q I r h;obtain⟨x,T,t,b,rfl,hty,hk,q⟩:=h;obtain⟨u,v,rfl,ru,rv⟩:=r.two;obtain rfl:v=Value.type T:=rv;exact Zmy I ru hty hk λtk=>⟨.bl b,H,I.tok _,Y,q⟩
def Ou{K:W.Frag}{T:String}:PySem.W.kitOne K (.type T) (.type T)=some true:=by
 unfold PySem.W.kitOne;rw[if_pos (by simp)]
def Yc{X:Cx}{scope:Scope}(h:scope.names.all (λy=>y.2 != .free||X.env.kindOf y.1==some .cell||X.env.kindOf y.1==some .free)=true):
  ∀y∈scope.names,y.2=.free->X.env.kindOf y.1=some .cell\/X.env.kindOf y.1=some .free:=λy hy e=>by
 have:=all_eq_true.mp h y hy;simp[e]at this;exact this
end
def walk_r{l:PySem.W.OpenLaw}{k:Nat}{q:Program}{sx:List Str}{XP:(Str->Option Value)->Heap->Prop}{YP:World->Heap->Prop}{d:DefRec}{K:Params->PySem.W.Frag}{spl:PySem.W.Frag->Sp}
  (hn:l.most=some 63) (hdf:d.params.defaults=[]) (hr:Room k callerA) (hY:∀(w:World)(h:Heap),YP w h->(K w.params).In h)
  (o5:∀(K:W.Frag)(H:Hp)(a:Addr)(ns:List Int),ns.length<=63->SqL K H a (T:)->spl K [.ref a] H (λv _=>v=.bl true) λ_ _ _=>False)
  (F:∀ (w:World) (mg:Str->Option Value) (fa:Addr) (h:Heap),(K w.params).In h->h.Ns mainGlobals mg->mg d.name=some (.ref fa) ->
   ∃fd:FuncData,(∀(s:Shared)(u:Value),BindsTo s fd ⟨[u],[]⟩ [("_law_script",u)])/\
    ∀base:Heap,(K w.params).In base->base.Ns mainGlobals mg->FnOk l.prog w (K w.params) mg base (CXr l.prog w) k fa fd ["_law_script"] (spl (K w.params))):
  PySem.W.WalkO q sx XP YP l.row.toRowW d [] (λf vs=>PySem.call f vs):=
 Zp9 (n:=63) (k:=k) (x:="_law_script") (CX:=λw=>CXr l.prog w) (sp:=λw=>spl (K w.params)) hn (d:) hdf hr hY F (λw H a ns hl _ hS=>o5 _ H a ns hl hS) (λw H s e s' h=>Zrr h)
def ExT(e:Addr)(T:Option Addr)(cls a0:Value)(h:Heap):Prop:=match T with
 |some T=>FlyT e T cls a0 h
 |none=>∃oe vs,h.get? e=some oe/\(oe.cls=cls/\vs[0]?=some a0)/\oe.data=.fields vs/\vs[1]?=some .none
structure FxOk(X:Cx)(j':List (j:))(H:Hp)(b:Addr):Prop where
 nt:H b=none
 nl:b≠X.env.locals
 nf:b∉X.fs
 n0:X.s₀.heap.get? b=none
 nc:∀x c,X.env.cells.lookup x=some c->c≠b
 np:∀p∈X.pn++j',p.1≠b
def XS(fr:Bool)(X:Cx)(j':List (j:))(R:Value->St->Hp->Prop)(ev:Value)(s':Shared):Prop:=
 ∃(e:Addr)(T:Option Addr)(cls a0:Value)(σ':St)(H':Hp),ev=.ref e/\Inv X j' σ' H' s'/\ExT e T cls a0 s'.heap/\FxOk X j' H' e/\(∀t,T=some t->FxOk X j' H' t)/\(T=none->fr=true)/\R cls σ' H'
abbrev TSX:=Ends->(Value->St->Hp->Prop)->St->Hp->Prop
abbrev TEX:=St->Hp->VK->XK->Prop
def PSX(fr:Bool)(X:Cx)(st:Stmt)(t:TSX):Prop:=
 ∀(j':List (j:))(s:Shared)(σ:St)(H:Hp)(D:Ends)(R:Value->St->Hp->Prop),Inv X j' σ H s->t D R σ H->wpAny (c:) X.A (exec st X.env) (SP X j' D) (XS fr X j' R) s
def PSsX(fr:Bool)(X:Cx)(st:List Stmt)(t:TSX):Prop:=
 ∀(j':List (j:))(s:Shared)(σ:St)(H:Hp)(D:Ends)(R:Value->St->Hp->Prop),Inv X j' σ H s->t D R σ H->wpAny (c:) X.A (execs st X.env) (SP X j' D) (XS fr X j' R) s
def PEX(fr:Bool)(X:Cx)(e:Expr)(t:TEX):Prop:=
 ∀(j':List (j:))(s:Shared)(σ:St)(H:Hp)(Q:VK)(E:XK),Inv X j' σ H s->t σ H Q E->wpAny (c:) X.A (eval e X.env) (a2:) (XS fr X j' λcls σ' H'=>σ'=σ/\E cls none H') s
section
variable{X:Cx}{fr:Bool}
def Zu{st:Stmt}{t:TS}(h:PS X st t)(hx:X.xe=(az:):=by rfl):PSX fr X st (λD _ σ H=>t D σ H):=λj' s σ H D R I q=>by
 have:=h j' s σ H D I q;rw[hx]at this;exact wpAny_mono this (λ_ _ z=>z) λ_ _ z=>z.elim
def Vj{st:List Stmt}{t:TS}(h:PSs X st t)(hx:X.xe=(az:):=by rfl):PSsX fr X st (λD _ σ H=>t D σ H):=λj' s σ H D R I q=>by
 have:=h j' s σ H D I q;rw[hx]at this;exact wpAny_mono this (λ_ _ z=>z) λ_ _ z=>z.elim
def Uz{e:Expr}{t:TE}(h:PE X e t)(hx:X.xe=(az:):=by rfl):PEX fr X e (λσ H Q _=>t σ H Q):=λj' s σ H Q E I q=>by
 have:=h j' s σ H Q I q;rw[hx]at this;exact wpAny_mono this (λ_ _ z=>z) λ_ _ z=>z.elim
def Zjm(t u:TSX):TSX:=λD R σ H=>t {D with nx:=u D R} R σ H
def Zp{st:Stmt}{l8:List Stmt}{t u:TSX}(h1:PSX fr X st t)(h2:PSsX fr X l8 u):PSsX fr X (st::l8) (Zjm t u):=by
 intro j' s σ H D R I h;refine wpAny_execs_cons (thn (h1 j' s σ H {D with nx:=u D R} R I h) λf s1 q=>?_)
 cases f with
 |next=>
  obtain⟨σ',H',I',q⟩:=q;exact h2 j' s1 σ' H' D R I' q
 |ret v=>exact q
 |brk=>exact q
 |cont=>exact q
def Zo{st:Stmt}{t:TSX}(h1:PSX fr X st t):PSsX fr X [st] t:=by
 intro j' s σ H D R I h;refine wpAny_execs_cons (thn (h1 j' s σ H D R I h) λf s1 q=>?_)
 cases f with
 |next=>exact wpAny_execs_nil q
 |ret v=>exact q
 |brk=>exact q
 |cont=>exact q
def Ym:PSsX fr X [] (λD _ σ H=>D.nx σ H):=λ_ _ σ H _ _ I h=>wpAny_execs_nil ⟨σ,H,I,h⟩
def kIfX(t u:TSX)(D:Ends)(R:Value->St->Hp->Prop)(σ:St)(b:Bool)(H:Hp):Prop:=if b=true then t D R σ H else u D R σ H
def tIfX(c:TT)(t u:TSX):TSX:=λD R σ H=>c σ H (kIfX t u D R σ)
def Yo(hc:PT X c tc)(ha:PSsX fr X a t)(hb:PSsX fr X b u)(hx:X.xe=(az:):=by rfl):PSX fr X (.If c a b pos) (tIfX tc t u):=by
 intro j' s σ H D R I h;have h0:=hc j' s σ H _ I h;rw[hx]at h0;refine wpAny_If (wpAny_mono h0 (λd s1 zz30=>?_) λ_ _ z=>z.elim);obtain⟨H1,I1,q1⟩:=zz30
 cases d with
 |true=>exact ha j' s1 σ H1 D R I1 q1
 |false=>exact hb j' s1 σ H1 D R I1 q1
def kR(R:Value->St->Hp->Prop)(σ:St)(cls:Value)(_:Option Addr)(H:Hp):Prop:=R cls σ H
def Zsf(te:TEX):TSX:=λD R σ H=>te σ H (Zp3 σ D.nx) (kR R σ)
def Z2{pos:Pos}(he:PEX fr X e te)(hs:swapsWith e none pos.line X.env=pure false:=by rfl):PSX fr X (.Expr e pos) (Zsf te):=by
 intro j' s σ H D R I h;refine wpAny_Expr_any (wpAny_mono (he j' s σ H _ _ I h) (λv s1 ⟨x,H1,I1,r1,q1⟩=>⟨σ,H1,I1,q1⟩) ?_) I.quiet hs;rintro ev s1 ⟨e,T,cls,a0,σ',H',h1,h2,h3,h4,h5,h7,rfl,h6⟩;exact⟨e,T,cls,a0,σ',H',h1,h2,h3,h4,h5,h7,h6⟩
def Zt2(te:TEX):TSX:=λD R σ H=>te σ H D.rt (kR R σ)
def Ziu{e:Expr}{te:TEX}{pos:Pos}(he:PEX fr X e te):PSX fr X (.Return (some e) pos) (Zt2 te):=by
 intro j' s σ H D R I h;refine wpAny_Return_some (wpAny_mono (he j' s σ H _ _ I h) (λv s1 ⟨x,H1,I1,r1,q1⟩=>⟨x,σ,H1,I1,r1,q1⟩) ?_);rintro ev s1 ⟨e,T,cls,a0,σ',H',h1,h2,h3,h4,h5,h7,rfl,h6⟩;exact⟨e,T,cls,a0,σ',H',h1,h2,h3,h4,h5,h7,h6⟩
def Zt1(i:Nat)(te:TEX):TSX:=λD R σ H=>te σ H (kAsg (Zv i) σ D.nx) (kR R σ)
def Qf{pos:Pos}(hN:X.N.Nodup)(hi:X.N[i]?=some x)(hx:Loc X.env.scope x)(he:PEX fr X e te)(hs:swapsWith e (some (.Name x nv)) pos.line X.env=pure false:=by rfl)
  (hf:X.fn x=true\/X.env.scope.names.lookup x=some .local:=by first|exact .inl rfl|exact .inr rfl|assumption):PSX fr X (.Assign [.Name x nv] e pos) (Zt1 i te):=by
 intro j' s σ H D R I h;refine wpAny_Assign_Name (wpAny_mono (he j' s σ H _ _ I h) (λv s1 ⟨y,H1,I1,r1,q1⟩=>?_) ?_) hs
 ·exact Js I1 hN hi hx r1 (λs2 I2=>⟨_,H1,I2,q1⟩) hf
 ·rintro ev s1 ⟨e,T,cls,a0,σ',H',h1,h2,h3,h4,h5,h7,rfl,h6⟩
  exact⟨e,T,cls,a0,σ',H',h1,h2,h3,h4,h5,h7,h6⟩
def Inv.cxr(I:Inv X j' σ H s)(hex:X.ex=[])(h:CXr X.prog X.w X.stack H s E ev s'):XS fr X j' (λcls σ' H'=>σ'=σ/\E cls none H') ev s':=by
 obtain⟨e,T,cls,a0,H',rfl,os,bare,un,hok,ne,nT,he,hT,fl,q⟩:=h;have I':Inv X j' σ H' s':=I.call' os un hok bare λb hb=>absurd hb (by simp)
 have fx:∀b,s.heap.get? b=none->H' b=none->FxOk X j' H' b:=λb hb hn=>by
  refine⟨hn,λz=>?_,λz=>?_,?_,λx c e z=>?_,λp hp z=>?_⟩
  ·obtain⟨m,⟨o,_,_,ho,_⟩,_⟩:=I.loc
   rw[z,ho]at hb;cases hb
  ·obtain⟨_,o,ho,_⟩:=I.funs.mem z
   rw[ho]at hb;cases hb
  ·cases q:X.s₀.heap.get? b with
   |none=>rfl
   |some o=>
    obtain⟨o',e'⟩:=I.base.there b o q (by rw[hex];simp);rw[hb]at e';cases e'
  ·obtain⟨v,o,ho,_⟩:=I.cell x c e
   rw[z,hb]at ho;cases ho
  ·have:=(I.pin p hp).1
   rw[z,hb]at this;cases this
 exact⟨e,some T,cls,a0,σ,H',rfl,I',fl,fx e ne he,λt ht=>by cases ht;exact fx T nT hT,(W:),Y,q⟩
variable{k:Nat}{f C:Addr}{fd:FuncData}{ps:List Str}{sp:Sp}{mz:List V}{ds:List Value}{x m:Str}{p pos ml:Pos}{e o:Expr}{es:List Expr}{ta:TE}{t:TA}
def Gn(F:FnOk X.prog X.w X.K X.mg X.base (CXr X.prog X.w) k f fd ps sp)(hr:Room k X.A)(hb:Xx X.K fd ps ds)(hd:Vals mz ds)(hex:X.ex=[])
  (I:Inv X j' σ H s) (r:Vals vs us) (h:sp (vs++mz) H Q E):wpAny (c:) X.A (call (.ref f) us) (a2:) (XS fr X j' λcls σ' H'=>σ'=σ/\E cls none H') s:=by
 have r2:Vals (vs++mz) (us++ds):=r.append hd;have hl:(us++ds).length=ps.length:=by rw[<-r2.length];exact F.len _ _ _ _ h
 refine wpAny_call (codeAny_mono (F.run X.A X.stack s H ⟨us,[]⟩ (us++ds) (vs++mz) Q E hr I.env0 (hb s us I.kIn hl) r2 h) λr s' hq=>?_)
 cases r with
 |error e=>exact I.cxr hex hq
 |ok fl=>
  cases fl with
  |ret u=>exact I.after hq
  |next=>exact False.elim hq
  |brk=>exact False.elim hq
  |cont=>exact False.elim hq
def Zau(sp:Sp)(mz:List V)(t:TA):TEX:=λσ H Q E=>t σ H (Zp4 sp mz Q E)
def Zos(F:FnOk X.prog X.w X.K X.mg X.base (CXr X.prog X.w) k f fd ps sp)(hr:Room k X.A)(hg:Gl X x)(hm:X.mg x=some (.ref f))(hk:PySem.W.keepIn X.K (.ref f)=true)(hb:Xx X.K fd ps ds)(hd:Vals mz ds)
  (ha:PA X (e::es) t) (hex:X.ex=[]:=by rfl) (hx:X.xe=(az:):=by rfl) (pd:(J:)=false:=by decide) (he:starEach (e::es) X.env=(I:)::starEach es X.env:=by rfl) (oa:(w:).any (·.1)=false:=by rfl):
  PEX fr X (S:) (Zau sp mz t):=by
 intro j' s σ H Q E I h;have h0:=ha pos j' s σ H _ I h;rw[hx]at h0;refine wpAny_Call_Name_kw (Jf I hg hm ?_ pd);refine PySem.W.callWith_K (h₀:=X.base) I.ok.mod.kin hk (wpAny_mono h0 (λus s1 zz31=>?_) λ_ _ z=>z.elim) he oa;obtain⟨vs,H1,I1,r,q⟩:=zz31;refine⟨I1.kIn,?_⟩;exact Gn F hr hb hd hex I1 r q
def Zsc(C:Addr)(m:Str)(sp:Sp)(mz:List V)(ta:TE)(t:TA):TEX:=λσ H Q E=>ta σ H (O2 C m t σ (Zp2 sp mz Q E))
def Ww(he:PE X o ta)(c:Cls X.K C)(hm:Meth X.K C m f)(F:FnOk X.prog X.w X.K X.mg X.base (CXr X.prog X.w) k f fd ps sp)(hr:Room k X.A)(hb:Xx X.K fd ps ds)(hd:Vals mz ds)(ha:PA X (e::es) t)
  (hex:X.ex=[]:=by rfl) (hx:X.xe=(az:):=by rfl) (ou:starEach (e::es) X.env=(I:)::starEach es X.env:=by rfl) (oa:(w:).any (·.1)=false:=by rfl)
  (ht:eval (.Call (.Attribute o m ml) (e :: es) [] pos) X.env=(do
   let ov<-eval o X.env
   standAt ml.atName
   let(f,first)<-holding [ov] (getMethod ov m pl)
   callWith pos f first (backTo pos (starEach (e::es) X.env)) (backToKw pos (keywordEach [] X.env))):=by rfl):
  PEX fr X (.Call (.Attribute o m ml) (e::es) [] pos) (Zsc C m sp mz ta t):=by
 intro j' s σ H Q E I h;have h0:=he j' s σ H _ I h;rw[hx]at h0;refine PySem.W.methodCall_KW (pl:=pl) (wpAny_mono h0 (λu s1 zz32=>?_) λ_ _ z=>z.elim) ht;obtain⟨x,H1,I1,rx,qq⟩:=zz32;obtain⟨a,dx,fs,ex,ea,l,q⟩:=O2.ex qq;subst ex;obtain rfl:u=Value.ref a:=rx;refine Ox I1 ea c hm l ?_;have h1:=ha pos j' s1 σ H1 _ I1 q;rw[hx]at h1;refine PySem.W.callWith_K (first:=[.ref a]) (h₀:=X.base) I.ok.mod.kin hm.kp (wpAny_mono h1 (λus s2 zz33=>?_) λ_ _ z=>z.elim) ou oa;obtain⟨vs,H2,I2,r,q2⟩:=zz33;refine⟨I2.kIn,?_⟩;exact Gn (us:=.ref a::us) (vs:=.ref a::vs) F hr hb hd hex I2 (.cons Y r) q2
end
theorem Yn.there{h:Heap}:∀{o:HO},Yn P w H h a o->∃ob,h.get? a=some ob
 | .lst _,x=>by obtain⟨_,_,_,_,e⟩:=x;exact⟨_,e⟩
 | .tup _,x=>by obtain⟨_,_,_,ob,e,_⟩:=x;exact⟨_,e⟩
 | .dK _,x=>by obtain⟨_,_,_,_,o,_,_,e,_⟩:=x;exact⟨_,e⟩
 | .dT _,x=>by obtain⟨_,_,_,_,o,_,_,e,_⟩:=x;exact⟨_,e⟩
 | .set _ _,x=>by obtain⟨o,_,_,_,e,_⟩:=x;exact⟨_,e⟩
 | .ins _ _ _,x=>by obtain⟨_,_,_,e,_⟩:=x;exact⟨_,e⟩
 | .own _,x=>by obtain⟨_,e⟩:=x;exact⟨_,e⟩
 | .xd _,x=>by obtain⟨_,⟨_,_,_,e,_⟩,_⟩:=x;exact⟨_,e⟩
 | .rng _ _,x=>by obtain⟨_,_,_,e⟩:=x;exact⟨_,e⟩
 | .frz _ _,x=>by obtain⟨e,_⟩:=x;exact⟨_,e⟩
 | .tbl _,x=>⟨_,(show h.get? a=some _ from x)⟩
 | .met _ _,x=>⟨_,(show h.get? a=some _ from x)⟩
 | .ext _,x=>by obtain⟨_,⟨_,e⟩,_⟩:=x;exact⟨_,e⟩
section
variable{X:Cx}{j':List (j:)}{σ:St}{H:Hp}{s:Shared}
def Inv.untr(I:Inv X j' σ H s)(hb:s.heap.get? b=none):H b=none:=by
 cases q:H b with
 |none=>rfl
 |some o=>
  obtain⟨ob,e⟩:=(I.hok b o q).there;rw[hb]at e;cases e
def Inv.fxOk(I:Inv X j' σ H s)(hex:X.ex=[])(hb:s.heap.get? b=none):FxOk X j' H b:=by
 refine⟨I.untr hb,λz=>?_,λz=>?_,?_,λx c e z=>?_,λp hp z=>?_⟩
 ·obtain⟨m,⟨o,_,_,ho,_⟩,_⟩:=I.loc
  rw[z,ho]at hb;cases hb
 ·obtain⟨_,o,ho,_⟩:=I.funs.mem z
  rw[ho]at hb;cases hb
 ·cases q:X.s₀.heap.get? b with
  |none=>rfl
  |some o=>
   obtain⟨o',e'⟩:=I.base.there b o q (by rw[hex];simp);rw[hb]at e';cases e'
 ·obtain⟨v,o,ho,_⟩:=I.cell x c e
  rw[z,hb]at ho;cases ho
 ·have:=(I.pin p hp).1
  rw[z,hb]at this;cases this
end
structure ExcK(K:W.Frag)(C:Addr)(bmB:List Value)(qy:String):Prop where
 q:PySem.W.excIn K C bmB qy=true
def Zro{K:W.Frag}{h:Heap}(X:K.In h)(q:PySem.W.excIn K C bmB qy=true):
  ∃bm N nm q bs hdct sn sub ab col dd k0 k1 k2 k3 k5 mN,h.get? C=some (excClassObj nm q C N bs bm hdct sn sub ab col dd k0 k1 k2 k3 k5 qy)/\h.Ns N mN/\mN "__init__"=none/\OwnTail h bmB bm:=by
 unfold PySem.W.excIn at q;split at q
 ·rename_i dd cd sl ho
  split at q
  ·rename_i C' bm k0 k1 k2 k3 n k5 hm hs
   simp only[Bool.and_eq_true,beq_iff_eq,Bool.not_eq_true']at q;obtain⟨⟨⟨⟨⟨rfl,rfl⟩,hdel⟩,ht⟩,hok⟩,hni⟩:=q;obtain⟨nm,bs,mro,ns,qn,hd,sn,sub,ab,col,del⟩:=cd;dsimp only at hm hdel hok hni;subst hm hdel;have z6:sl=#[k0,k1,k2,k3,some (.builtin n),k5]:=by
    obtain⟨l⟩:=sl
    simp only at hs
    rw[hs]
   subst z6;exact⟨bm,ns,nm,qn,bs,hd,sn,sub,ab,col,dd,k0,k1,k2,k3,k5,_,X _ _ ho,.of_isNs (PySem.W.isNs_of_in X hok),PySem.W.nsMap_none_of_in X hok hni,PySem.W.tail_of_in X ht⟩
  ·cases q
 ·cases q
section
variable{X:Cx}
def Zsa(C:Addr)(t:TA):TSX:=λ_ R σ H=>t σ H λvs H1=>vs.length<=1000/\R (.ref C) σ H1
def Yl(K:ExcK X.K C bmB qy)(FB:ExcBaseFacts B qy initId bmB)(hg:Gl X x)(hm:X.mg x=some (.ref C))(hc:X.calm=true)(ha:PA X (e::es) t)
  (hex:X.ex=[]:=by rfl) (hx:X.xe=(az:):=by rfl) (pd:(J:)=false:=by decide) (he:starEach (e::es) X.env=(I:)::starEach es X.env:=by rfl) (oa:(backTo mf (starEach es X.env)).any (·.1)=false:=by rfl):
  PSX true X (.Raise (some (.Call (.Name x np) (e::es) [] mf)) none pos) (Zsa C t):=by
 intro j' s σ H D R I h;obtain⟨tl,N,nm,q,bs,hdct,sn,sub,ab,col,dd,k0,k1,k2,k3,k5,mN,hC,hN,hni,T⟩:=Zro I.ok.mod.kin K.q;refine wpAny_Raise_call_subT (C:=C) (nm:=nm) (q:=q) (N:=N) (bs:=bs) (bm:=tl) (hdct:=hdct) (sn:=sn) (sub:=sub) (ab:=ab) (col:=col) (dd:=dd) (k0:=k0) (k1:=k1) (k2:=k2) (k3:=k3) (k5:=k5)
  FB (mN:=mN) (T.hasType FB.hasBase) (I.ok.hd hc) (by rw[he];show(false||(backTo mf (starEach es X.env)).any (·.1))=false;rw[oa];rfl) hni (Jf I hg hm ⟨rfl,?_⟩ pd)
 have h0:=ha mf j' s σ H _ I h;rw[hx]at h0;rw[he]at h0⊢;refine Calls.evalArgs_plain (wpAny_mono h0 (λus s₂ zz34=>?_) λ_ _ z=>z.elim);obtain⟨vs,H1,I1,r1,hl,q1⟩:=zz34;have kb:=I1.bk;refine⟨Y,?_,kb _ _ hC,hN.keeps kb,T.keeps kb,λh' ea yh=>?_⟩
 ·rw[<-r1.length]
  exact Nat.le_of_lt (Zt hl)
 obtain⟨tt,h1,h2,h3⟩:=yh.there;have I2:Inv X j' σ H1 {s₂ with heap:=h' }:=I1.kept (t':=s₂.toks) yh.keeps;have fx:=I1.fxOk hex yh.new;exact⟨ea,none,.ref C,.ref tt,σ,H1,Y,I2,⟨_,_,h1,⟨Y,Y⟩,Y,Y⟩,⟨fx.nt,fx.nl,fx.nf,fx.n0,fx.nc,fx.np⟩,(λt z=>nomatch z),(λ_=>rfl),q1⟩
def Un.leave{h₀ h h':Heap}(u:Un fs [] H₀ H h₀ h)(hk:∀b o,h₀.get? b=some o->b∉fs->h.get? b=some o->h'.get? b=some o)
  (hs:∀b o,b∈fs->h.get? b=some o->∃sl,h'.get? b=some {o with slots:=sl}) (ht:∀b o,h₀.get? b=some o->∀o',h.get? b=some o'->∃o'',h'.get? b=some o''):Un fs [] H₀ H h₀ h' where
 keep:=λb o e n hb hx=>hk b o e hb (u.keep b o e n hb hx)
 slot:=λb o e n hb hx=>by
  obtain⟨sl,e1⟩:=u.slot b o e n hb hx;obtain⟨sl',e2⟩:=hs b _ hb e1;exact⟨sl',e2⟩
 free:=u.free
 there:=λb o e hx=>by
  obtain⟨o',e1⟩:=u.there b o e hx;exact ht b o e o' e1
 tups:=u.tups
 frzs:=u.frzs
 tbls:=u.tbls
def Ql{X:Cx}{s:Shared}(I:Inv X j' σ H s)(as:List Addr)(hs:∀b∈frs X.stack,b∈as):s.heap.FunFrames (PySem.W.hideAll s.heap as) X.stack:=by
 have all:∀(l:List Env),(∀b∈frs l,b∈as)->s.heap.FunFrames X.base l->s.heap.FunFrames (PySem.W.hideAll s.heap as) l:=by
  intro l
  induction l with
  |nil=>intro _ _;trivial
  |cons env r ih=>
   intro hs hl;obtain⟨hk,⟨L,o,hf,hn,ho,hd⟩,hr⟩:=hl;have hL:L∈as:=hs L (by unfold frs;rw[filterMap_cons,hf];exact mem_cons_self);exact⟨hk,⟨L,o,hf,PySem.W.hideAll_none as hL,ho,hd⟩,ih (λb hb=>hs b (by unfold frs;rw[filterMap_cons,hf];exact mem_cons_of_mem _ hb)) hr⟩
 exact all X.stack hs I.stack
def Inv.fnd{X:Cx}{s:Shared}(I:Inv X j' σ H s)(hb:b∈frs X.stack){o:Obj}(e:s.heap.get? b=some o):∀vs,o.data≠.fields vs:=by
 obtain⟨_,o',e',d⟩:=I.stack.mem hb;rw[e]at e';cases e';exact d
end
def FxOk.none{X:Cx}{j':List (j:)}{H:Hp}{b:Addr}(h:FxOk X j' H b):FxOk X [] H b:=⟨h.nt,h.nl,h.nf,h.n0,h.nc,λp hp=>h.np p (by rw[append_nil]at hp;exact mem_append_left _ hp)⟩
section
variable{P:Program}{w:World}{K:W.Frag}{mg:Str->Option Value}{base:Heap}
def Zai(h:XS fr (ax:).nox [] (an:) ev s'):(ax:).xe ev s':=by
 obtain⟨e,T,cls,a0,σ',H',rfl,I,hx,fe,fT,_,q⟩:=h;show wpAny (aa:) (A.deeper (H:)) (leaving (H:) (.ref e)) (λ_ qd=>CXr P w outer H s E (.ref e) qd) (λe' qd=>CXr P w outer H s E e' qd) s';have ou:(ax:).nox.stack=envOfC qual scope s.heap.objs.size f cd::outer:=rfl;have rh:(A.deeper (H:)).frames=some (h:):=I.ok.frames
 have n0:∀b,b∈e::T.toList->s.heap.get? b=none:=λb hb=>by
  rcases Ar hb with z|z
  ·rw[z];exact fe.n0
  ·cases T with
   |none=>simp at z
   |some t=>
    have:b=t:=by simpa using z
    rw[this];exact(fT t Y).n0
 have nt:∀b,b∈e::T.toList->H' b=none:=λb hb=>by
  rcases Ar hb with z|z
  ·rw[z];exact fe.nt
  ·cases T with
   |none=>simp at z
   |some t=>
    have:b=t:=by simpa using z
    rw[this];exact(fT t Y).nt
 have hB:∀b o,b∉e::T.toList->b∉frs (h:)->s'.heap.get? b=some o->(ba:).get? b=some o:=λb o h1 h2 e1=>
  PySem.W.hideAll_get _ e1 λz=>(mem_append.mp z).elim h1 h2
 have hl:s'.heap.FunFrames (ba:) (h:):=Ql I _ λb hb=>mem_append_right _ hb;have yj:(ba:).StaysIn s'.heap:=λb o e1=>PySem.W.of_hideAll _ e1;have hen:(ba:).get? e=none:=PySem.W.hideAll_none _ (mem_append_left _ mem_cons_self)
 have m9:∀h',Heap.LeftW (ba:) (h:) e cls a0 s'.heap h'->CXr P w outer H s E (.ref e) {s' with heap:=h' }:=λh' ⟨k1,k2,k3,k4⟩=>by
  obtain⟨oe,vs,T',oT,ts,x1,x2,x3,x4,x5,x6,x7,x8,x9⟩:=k3;have pw:∀b o,b∈frs (h:)->s'.heap.get? b=some o->∃sl,h'.get? b=some {o with slots:=sl}:=λb o hb e1=>k4 b o e1 (I.fnd hb e1);have kept:∀b o,b∉e::T.toList->b∉frs (h:)->s'.heap.get? b=some o->h'.get? b=some o:=λb o h1 h2 e1=>k1 b o (hB b o h1 h2 e1);have nL:∀b o,s.heap.get? b=some o->b∉frs outer->b∉frs (h:):=λb o e1 h2 z=>by
   have z':b∈s.heap.objs.size::frs outer:=z
   rcases Ar z' with z1|z1
   ·rw[z1]at e1;exact absurd (Ao e1) (Nat.lt_irrefl _)
   ·exact h2 z1
  have nE:∀b o,s.heap.get? b=some o->b∉e::T.toList:=λb o e1 z=>by rw[n0 b z]at e1;cases e1
  have tq:∀b u,H' b=some u->∀o,s'.heap.get? b=some o->h'.get? b=some o:=λb u hu o e1=>by
   refine kept b o (λz=>by rw[nt b z]at hu;cases hu) (λz=>?_) e1;rw[I.stkFree b z]at hu;cases hu
  have hT':s.heap.get? T'=none/\H' T'=none:=by
   by_cases hz:s'.heap.get? T'=none
   ·refine⟨?_,I.untr hz⟩
    cases q':s.heap.get? T' with
    |none=>rfl
    |some o=>
     obtain⟨o',e'⟩:=I.base.there T' o q' (by simp[cxOf]);rw[hz]at e';cases e'
   ·obtain⟨o,ho⟩:=Option.ne_none_iff_exists'.mp hz
    by_cases h1:T'∈e::T.toList
    ·exact⟨n0 T' h1,nt T' h1⟩
    ·by_cases h2:T'∈frs (envOfC qual scope s.heap.objs.size f cd::outer)
     ·exfalso
      obtain⟨sl,e'⟩:=pw T' o h2 ho;rw[x7]at e';cases e';exact I.fnd h2 ho ts x8
     ·rw[hB T' o h1 h2 ho]at x5;cases x5
  refine⟨e,T',cls,a0,H',Y,I.os,I.bare,?_,λb u hu=>?_,fe.n0,hT'.1,fe.nt,hT'.2,⟨oe,vs,oT,ts,x1,x2,x3,x4,x6,x7,x8,x9⟩,q⟩
  ·refine Un.leave I.base (λb o e1 h1 e2=>kept b o (nE b o e1) (nL b o e1 h1) e2) (λb o hb e1=>pw b o (mem_cons_of_mem _ hb) e1) λb o e1 o' e2=>?_
   by_cases h2:b∈frs outer
   ·obtain⟨sl,e'⟩:=pw b o' (mem_cons_of_mem _ h2) e2
    exact⟨_,e'⟩
   ·exact⟨o',kept b o' (nE b o e1) (nL b o e1 h2) e2⟩
  ·refine(I.hok b u hu).stay (λc v hc e1=>?_) (λ_ z=>z) λ_ _ z=>z
   rcases hc with z|z
   ·exact tq c u (by rw[z];exact hu) v e1
   ·exact tq c _ z v e1
 cases T with
 |none=>
  obtain⟨oe,vs,x1,x2,x3,x4⟩:=hx;obtain⟨x21,x22⟩:=x2;subst x21;exact wpAny_leaving_firstW rh hl Y x1 yj hen x3 x4 x22 m9
 |some t=>
  obtain⟨oe,vs,oT,ts,x1,x2,x3,x4,x5,x6,x7,x8⟩:=hx;exact wpAny_leaving_nextW rh hl Y ⟨oe,vs,t,oT,ts,x1,x2,x3,x4,PySem.W.hideAll_none _ (mem_append_left _ (by simp)),x5,x6,x7,x8⟩ yj hen m9
def Fun.okX{x qual:Str}{st:Stmt}{f:Addr}{fd:FuncData}{N ps:List Str}{k:Nat}{sp:Sp}(F:Fun K x qual st f fd)(S:FnScope N ps (Zf st))(len:∀vs H Q E,sp vs H Q E->vs.length=ps.length)
  (nz:∀ (mh:Value) (A:Around) (outer:List Env) (s:Shared) (H:Hp) (vs:List V) (Q:VK) (E:XK),Room k (am:)->sp vs H Q E ->
   ∃t,PSsX true (z:).nox (Yw st) t/\t {nx:=λ_ H'=>Q .non H',rt:=Q} (an:) (start N vs) H):(a:) (k+1) f fd ps sp:=by
 obtain⟨oc,od,kV,nk,pm,an,mh,ct,uj,rfl,lk,oo⟩:=F.ex;refine Zey lk oo S len λA outer s H vs Q E hr o5=>?_;obtain⟨t,h,q⟩:=nz mh A outer s H vs Q E hr o5;refine(b7:);refine wpAny_mono (h j' s' σ' H' D _ (I.wish _) hD) (λ_ _ z=>z.unwish) λev qd z=>Zai (fr:=true) ?_;obtain⟨e,T,cls,a0,σ2,H2,h1,h2,h3,h4,h5,h7,h6⟩:=z;exact(a9:)
end
section
variable{X:Cx}
def Inv.exc{j':List (j:)}{σ:St}{H:Hp}{s:Shared}{e T:Addr}{h':Heap}(I:Inv X j' σ H s)(hex:X.ex=[])(fe:FxOk X j' H e)(fT:FxOk X j' H T)
  (keep:∀b o,b≠e->b≠T->b∉frs X.stack->s.heap.get? b=some o->h'.get? b=some o) (slot:∀b o,b∈frs X.stack->s.heap.get? b=some o->∃sl,h'.get? b=some {o with slots:=sl}):Inv X j' σ H {s with heap:=h' }:=by
 have fss:∀b∈X.fs,b∈frs X.stack:=λb hb=>by
  rcases I.ok.stk with z|⟨z,hf⟩
  ·rw[z];exact hb
  ·rw[z];unfold frs;rw[filterMap_cons,hf];exact mem_cons_of_mem _ hb
 have data:∀b o,b≠e->b≠T->s.heap.get? b=some o->∃sl,h'.get? b=some {o with slots:=sl}:=λb o h1 h2 e1=>by
  by_cases hb:b∈frs X.stack
  ·exact slot b o hb e1
  ·exact⟨o.slots,keep b o h1 h2 hb e1⟩
 have ne0:∀b o,X.s₀.heap.get? b=some o->b≠e/\b≠T:=λb o e1=>⟨λz=>(by rw[z,fe.n0]at e1;cases e1),λz=>(by rw[z,fT.n0]at e1;cases e1)⟩;have re:∀x c,X.env.cells.lookup x=some c->∀v,s.heap.IsCell c v->h'.IsCell c v:=λx c ec v ⟨o,ho,hd⟩=>by
  obtain⟨sl,e1⟩:=data c o (fe.nc x c ec) (fT.nc x c ec) ho
  exact⟨_,e1,hd⟩
 refine⟨I.ok,I.os,I.bare,⟨λb o e0 n hb hx=>?_,λb o e0 n hb hx=>?_,I.base.free,λb o e0 hx=>?_,I.base.tups,I.base.frzs,I.base.tbls⟩,?_,λx c ec=>?_,I.free,I.freeC,λp hp=>?_,λb u hu=>?_,I.len⟩
 ·obtain⟨n1,n2⟩:=ne0 b o e0
  refine keep b o n1 n2 (λz=>?_) (I.base.keep b o e0 n hb hx)
  rcases Ar (I.stkSub b z)with z1|z1
  ·rw[z1]at e0;exact absurd (Ag (Ao e0) I.ok.above) (Nat.lt_irrefl _)
  ·exact hb z1
 ·obtain⟨sl,e1⟩:=I.base.slot b o e0 n hb hx
  obtain⟨sl',e2⟩:=slot b _ (fss b hb) e1;exact⟨sl',e2⟩
 ·obtain⟨n1,n2⟩:=ne0 b o e0
  obtain⟨o',e1⟩:=I.base.there b o e0 hx;obtain⟨sl,e2⟩:=data b o' n1 n2 e1;exact⟨_,e2⟩
 ·obtain⟨m,hn,hl⟩:=I.loc
  refine⟨m,?_,λi x v e1 e2 e3=>?_⟩
  ·obtain⟨o,es,ep,ho,hd,r⟩:=hn
   obtain⟨sl,e1⟩:=data _ o (Ne.symm fe.nl) (Ne.symm fT.nl) ho;exact⟨_,es,ep,e1,hd,r⟩
  ·obtain⟨u,r,l⟩:=hl i x v e1 e2 e3
   refine⟨u,r,?_⟩
   rcases l with l|⟨k,c,ec,z⟩
   ·exact .inl l
   ·exact .inr ⟨k,c,ec,re x c ec _ z⟩
 ·obtain⟨v,z⟩:=I.cell x c ec
  exact⟨v,re x c ec v z⟩
 ·obtain⟨e1,n,ne,nf,d⟩:=I.pin p hp
  refine⟨keep p.1 p.2 (fe.np p hp) (fT.np p hp) (λz=>?_) e1,n,ne,nf,d⟩
  rcases Ar (I.stkSub p.1 z)with z1|z1
  ·exact ne z1
  ·exact nf z1
 ·have tq:∀b u,H b=some u->∀o,s.heap.get? b=some o->h'.get? b=some o:=λb u hu o e1=>by
   refine keep b o (λz=>by rw[z,fe.nt]at hu;cases hu) (λz=>by rw[z,fT.nt]at hu;cases hu) (λz=>?_) e1;rw[I.stkFree b z]at hu;cases hu
  refine(I.hok b u hu).stay (λc v hc e1=>?_) (λ_ z=>z) λ_ _ z=>z
  rcases hc with z|z
  ·exact tq c u (by rw[z];exact hu) v e1
  ·exact tq c _ z v e1
noncomputable def Gw(X:Cx)(e:Addr):Cx:={X with A:=X.A.mark (some (.ref e)),calm:=false}
def Inv.hnd{j':List (j:)}{σ:St}{H:Hp}{s:Shared}(I:Inv X j' σ H s)(e:Addr):Inv (Gw X e) j' σ H s:=
 ⟨⟨I.ok.mod,I.ok.kind,I.ok.glob,I.ok.blt,I.ok.above,I.ok.inj,I.ok.has,I.ok.cab,λh=>absurd (show false=true from h) Bool.false_ne_true,I.ok.frames,I.ok.stk,I.ok.exf,I.ok.bs,I.ok.bsz,I.ok.noex,I.ok.exfs,I.ok.funs,I.ok.frf⟩,
  I.os,I.bare,I.base,I.loc,I.cell,I.free,I.freeC,I.pin,I.hok,I.len⟩
def Inv.unhnd{j':List (j:)}{σ:St}{H:Hp}{s:Shared}{e:Addr}(I:Inv (Gw X e) j' σ H s)(ok:X.Ok):Inv X j' σ H s:=
 ⟨ok,I.os,I.bare,I.base,I.loc,I.cell,I.free,I.freeC,I.pin,I.hok,I.len⟩
def SP.unhnd{j':List (j:)}{D:Ends}{f:Flow}{s':Shared}{e:Addr}(h:SP (Gw X e) j' D f s')(ok:X.Ok):SP X j' D f s':=by
 cases f with
 |next=>obtain⟨σ',H',I,q⟩:=h;exact⟨σ',H',I.unhnd ok,q⟩
 |brk=>obtain⟨σ',H',I,q⟩:=h;exact⟨σ',H',I.unhnd ok,q⟩
 |cont=>obtain⟨σ',H',I,q⟩:=h;exact⟨σ',H',I.unhnd ok,q⟩
 |ret u=>obtain⟨v,σ',H',I,r,q⟩:=h;exact⟨v,σ',H',I.unhnd ok,r,q⟩
def Zm9{j':List (j:)}{σ:St}{H:Hp}{s:Shared}{e T:Addr}{cls a0:Value}(I:Inv X j' σ H s)(hx:FlyT e T cls a0 s.heap):
  Heap.FlyingW (PySem.W.hideAll s.heap (e::T::frs X.stack)) X.stack e cls a0 s.heap:=by
 obtain⟨oe,vs,oT,ts,x1,x2,x3,x4,x5,x6,x7,x8⟩:=hx;exact⟨λb o e1=>PySem.W.of_hideAll _ e1,PySem.W.hideAll_none _ (by simp),Ql I _ λb hb=>by simp[hb],oe,vs,T,oT,ts,x1,x2,x3,x4,PySem.W.hideAll_none _ (by simp),x5,x6,x7,x8⟩
def Inv.flown{j':List (j:)}{σ:St}{H:Hp}{s:Shared}{e T:Addr}{h':Heap}(I:Inv X j' σ H s)(hex:X.ex=[])(fe:FxOk X j' H e)(fT:FxOk X j' H T)
  (ou:(PySem.W.hideAll s.heap (e::T::frs X.stack)).StaysIn h') (hup:s.heap.UpToSlots h'):Inv X j' σ H {s with heap:=h' }:=by
 refine I.exc hex fe fT (λb o h1 h2 h3 e1=>ou b o (PySem.W.hideAll_get _ e1 λz=>?_)) λb o hb e1=>hup b o e1 (I.fnd hb e1)
 rcases Ar z with z|z
 ·exact h1 z
 ·rcases Ar z with z|z
  ·exact h2 z
  ·exact h3 z
end
section
variable{X:Cx}{j':List (j:)}{σ:St}{H:Hp}{s:Shared}{A:Around}{E:Value->Shared->Prop}{a:Addr}
def Ztm{kvs:List (Key×V)}(I:Inv X j' σ H s)(e:H a=some (.dK kvs))(hl:kvs.length<sizeLine)(ry:RelV (kV k) u)(rd:RelV d r)
  (h1:∀v w' s',valV kvs k=some v->Inv X j' σ H s'->RelV v w'->Q w' s') (h2:valV kvs k=none->∀s',Inv X j' σ (upd H a (.dK (putK kvs k d))) s'->Q r s'):
  wpAny (c:) A (call (.builtin "dict.setdefault") [.ref a,u,r]) Q E s:=by
 obtain⟨z,hd,vs,mj,dd⟩:=Zkr I.hok e;have hz:vs.length<=sizeLine:=by rw[<-mj.length];exact z
 refine call_meetsIn PySem.F.slot_dict_setdefault dd.typeIs PySem.F.entry_dict_setdefault (PySem.F.args_dict_setdefault_3 _ _ _) (kt_meets_setdefault (Yj X.prog X.w) a (J3 ry) hd r) ⟨vs,dd,hz,λv hv=>?_,λhv h' v9 hs=>?_⟩
 ·have ox:=mj.val k
  rw[hv]at ox
  cases q:valV kvs k with
  |none=>rw[q]at ox;exact ox.elim
  |some y=>rw[q]at ox;exact h1 y v _ q (I.tok _) ox
 ·have ox:=mj.val k
  rw[hv]at ox
  cases q:valV kvs k with
  |some y=>rw[q]at ox;exact ox.elim
  |none=>
   have he:∃q,h'.get? a=some q:=let⟨q,_,_,hq,_⟩:=v9;⟨q,hq⟩
   have pf:(putK kvs k d).length<=sizeLine:=by have:=Qp kvs k d;lia
   exact h2 q _ (Gz I (by rw[e];exact True.intro) hs he (Zha pf hd (mj.put k rd) v9))
end
def Zsg(td ty tx:TE):TE:=λσ H Q=>td σ H λx H1=>∃a,x=.ref a/\IsD H1 a/\ty σ H1 λy H2=>tx σ H2 λz H3=>∃kvs k,H3 a=some (.dK kvs)/\kvs.length<sizeLine/\y=kV k/\
 (∀v,valV kvs k=some v->Q v H3)/\(valV kvs k=none->Q z (upd H3 a (.dK (putK kvs k z))))
section
variable{X:Cx}{o e f:Expr}{ml mf:Pos}{td ty tx:TE}
def Zgh(ho:PE X o td)(he:PE X e ty)(hf:PE X f tx)(m:M2 X o "setdefault" ml e f mf):PE X (.Call (.Attribute o "setdefault" ml) [e,f] [] mf) (Zsg td ty tx):=by
 intro j' s σ H Q I h;refine wpAny_Call_method m.base m.few m.line PySem.F.plainAttrs_dict PySem.F.slot_dict_setdefault PySem.F.type_dict_setdefault (thn (ho j' s σ H _ I h) λu s1 me=>?_);obtain ⟨x,H1,I1,rx,a,ex,d,q1⟩:=me;subst ex;obtain rfl:u=Value.ref a:=rx;obtain ⟨t1,t2,_⟩:=Zg3 I1 d;refine ⟨t1,t2,?_⟩;rw [m.trees];refine Calls.callWith_builtin rfl (Calls.evalArgs_plain (Calls.spliced_cons (thn (he j' s1 σ H1 _ I1 q1) λiv s2 ⟨y,H2,I2,ry,q2⟩ =>
  Calls.spliced_cons (thn (hf j' s2 σ H2 _ I2 q2) λfv s3 ⟨z,H3,I3,rz,kvs,k,hk,hl,ey,q3,q4⟩=>Calls.spliced_nil ?_))))
 subst ey;exact Ztm I3 hk hl ry rz (λv w' s' hv I' qr=>⟨v,H3,I',qr,q3 v hv⟩) λhv s' I'=>⟨z,_,I',rz,q4 hv⟩
def Zg5{kvs:List (Key×V)}{vs:List (Key×Value)}{ks:List Int}(mj:KV kvs vs)(hk:kvs.map (·.1)=ks.map Sum.inl){us:List Value}(hl:us.length=vs.length)
  (hu:∀(j:Nat)(v:Value),us[j]?=some v->∃k x,vs[j]?=some (k,x)/\(Yj P w).is k v=true):IntsAre us ks:=by
 have qe:kvs.length=ks.length:=by have:=congrArg List.length hk;simpa using this
 have xj:kvs.length=vs.length:=mj.length
 have key:∀(j:Nat)(v:Value),us[j]?=some v->∃i t,ks[j]?=some i/\v=Value.int i t:=λj v hv=>by
  obtain⟨k,x,hx,hi⟩:=hu j v hv;have e1:(vs.map (·.1))[j]?=some k:=by rw[Ah,hx];rfl
  have e2:vs.map (·.1)=kvs.map (·.1):=by
   clear hk hl hu qe xj hx hi e1
   induction mj with
   |nil=>rfl
   |cons r t ih=>rw[map_cons,map_cons,ih,r.1]
  rw[e2,hk,Ah]at e1
  cases q:ks[j]? with
  |none=>rw[q]at e1;cases e1
  |some i=>
   rw[q]at e1;have e3:Sum.inl i=k:=Ax e1;subst e3;obtain⟨t,ht⟩:=Value.isInt_shape (k:=i) (v:=v) hi;exact⟨i,t,Y,ht⟩
 have gen:∀(us:List Value)(ks:List Int),us.length=ks.length->(∀(j:Nat)(v:Value),us[j]?=some v->∃i t,ks[j]?=some i/\v=Value.int i t)->IntsAre us ks:=by
  intro us
  induction us with
  |nil=>
   intro ks hl _
   cases ks with
   |nil=>exact .nil
   |cons _ _=>simp at hl
  |cons u r ih=>
   intro ks hl h
   cases ks with
   |nil=>simp at hl
   |cons i ks=>
    obtain⟨i',t,e1,e2⟩:=h 0 u rfl;have e1':i=i':=by simpa using e1
    subst e1' e2;exact .cons i t (ih ks (by simpa using hl) λj v hv=>h (j+1) v (by simpa using hv))
 exact gen us ks (by lia) key
def J8 (hc:X.calm=true):Y6 X (.builtin "sorted") (λxs H Q=>∃ (d:Addr) (kvs:List (Key × V)) (ks:List Int),xs=[.ref d]/\Rd H d (.dK kvs)/\kvs.map (·.1)=ks.map Sum.inl/\ks.length < 64 /\
  ∀(p:Addr)(out:List Int),H p=none->out.Perm ks->out.Pairwise (·<=·)->Q (.ref p) (upd H p (.lst (out.map V.int)))):=by
 intro j' s σ H xs us Q I r h;obtain⟨d,kvs,ks,rfl,hd,hk,my,q⟩:=h;obtain⟨u,rfl,ru⟩:=Xb r;obtain rfl:u=Value.ref d:=ru;obtain⟨z,qi,vs,mj,dd⟩:=J7 I.hok hd;obtain⟨ep,hat⟩:=dd.dictAt;have l9:vs.length=ks.length:=by have:=congrArg List.length hk;rw[Ab,Ab]at this;have:=mj.length;lia
 have hn:vs.length<=sizeLine:=by rw[sizeLine_eq];lia
 refine Calls.call_function_entry kind_sorted plain_sorted entry_sorted (args_sorted1 _) ?_;unfold Builtin.«sorted»;refine Al (m:=checkCount "sorted" 1 1 _) (as:);refine Al (PySem.W.kdu_collect (A:=X.A.in1) (PySem.W.kdl_dict (knd:=Yj X.prog X.w) (kvs:=vs) (ep:=ep) qi) (I.ok.hd hc) hat hn λh' tk md vq u8=>?_);have hl:md.toList.length=vs.length:=by rw[Array.length_toList];exact u8.1
 have hI:IntsAre md.toList ks:=Zg5 (P:=X.prog) (w:=X.w) mj hk hl λj v hv=>let⟨a,b,c⟩:=u8.2 j v (by rw[<-Array.getElem?_toList];exact hv);⟨a,b,c⟩
 refine Al (wpAny_newList ?_ (by rw[hl];exact hn));have I1:Inv X j' σ H {s with heap:=h',toks:=tk}:=I.kept vq;have wm:(h'.push {cls:=.type "list",data:=.seq md.toList.toArray}).get? h'.objs.size=some (seqObj "list" md.toList.toArray 0):=Ap _ rfl;refine Al (wpAny_holding (wpAny_call_entry slot_list_sort ⟨_,wm,Y⟩ entry_list_sort (list_sort_tree wm hI (by lia) λout ns' a1 a2 a3=>⟨_,Y,?_⟩) (args_list_sort _)));refine wpAny_pure ⟨_,Y,?_⟩;obtain⟨e,he⟩:=sortedHeap_at (out:=out) wm;have kp:∀b u,h'.get? b=some u->(sortedHeap (h'.push {cls:=.type "list",data:=.seq md.toList.toArray}) h'.objs.size md.toList out).get? b=some u:=λb u hb=>by
  have mr:b<h'.objs.size:=Ao hb
  rw[sortedHeap_old (As mr) (by rw[Heap.size_push];exact lt_succ_of_lt mr)]
  exact Ak _ hb
 have hv:Vals (ns'.map V.int) out.toList:=by
  clear he kp;generalize out.toList=l at a1;clear a2 a3
  induction a1 with
  |nil=>exact .nil
  |cons i t _ ih=>exact .cons ⟨_,Y⟩ ih
 refine⟨.ref h'.objs.size,upd H h'.objs.size (.lst (ns'.map V.int)),I1.laid kp (An _) ?_,Y,q _ ns' I1.fresh a2 a3⟩;refine⟨?_,out.toList,e,hv,?_⟩
 ·rw[Ab,a2.length_eq,sizeLine_eq];lia
 ·rw[he]
end
section
variable{X:Cx}{j':List (j:)}{σ:St}{H:Hp}{s:Shared}{a:Addr}
def Inv.freeze(I:Inv X j' σ H s)(e:H a=some u)(mu:Mut (some u))(ho:s.heap.get? a=some ob):Inv X j' σ (upd H a (.frz ob u)) s:=by
 have uc:∀c y,H c=some (.own y)->c≠a:=λc y r z=>by subst z;rw[r]at e;cases e;exact mu
 have rq:∀c xs,H c=some (.tup xs)->c≠a:=λc xs r z=>by subst z;rw[r]at e;cases e;exact mu
 have nfrz:∀c o xs,H c=some (.frz o xs)->c≠a:=λc o xs r z=>by subst z;rw[r]at e;cases e;exact mu
 have ntbl:∀c ps,H c=some (.tbl ps)->c≠a:=λc ps r z=>by subst z;rw[r]at e;cases e;exact mu
 have un:Un X.fs [] H (upd H a (.frz ob u)) s.heap s.heap:=⟨λ_ _ q _ _ _=>q,λ_ o q _ _ _=>⟨o.slots,q⟩,λb o q n _=>by rw[Ze (λz=>by rw[z,e]at n;cases n)];exact n,λb o q _=>⟨o,q⟩,
  λb xs q=>by rw[Ze (rq b xs q)];exact q,λb o xs q=>by rw[Ze (nfrz b o xs q)];exact q,λb ps q=>⟨#[],by rw[Ze (ntbl b ps q),q];simp⟩⟩
 have hok:HOk X.prog X.w (upd H a (.frz ob u)) s.heap:=λb v q=>by
  have st:∀c w',Yn X.prog X.w H s.heap c w'->Yn X.prog X.w (upd H a (.frz ob u)) s.heap c w':=λc w' x=>x.stay (λ_ _ _ q=>q) (λd r=>by rw[Ze (uc d c r)];exact r) λd xs r=>by rw[Ze (rq d xs r)];exact r
  by_cases hb:b=a
  ·subst hb
   rw[Zc]at q;cases q;exact⟨ho,st _ _ (I.hok _ _ e)⟩
  ·rw[Ze hb]at q
   exact st _ _ (I.hok b v q)
 exact I.un (h':=s.heap) (t':=s.toks) un hok
end
section
def KV.at{kvs:List (Key×V)}{vs:List (Key×Value)}(r:KV kvs vs):∀{i:Nat}{k:Key}{v:V},kvs[i]?=some (k,v)->∃u,vs[i]?=some (k,u)/\RelV v u:=by
 induction r with
 |nil=>intro i k v h;simp at h
 |cons r t ih=>
  intro i k v h
  cases i with
  |zero=>
   simp at h;subst h;exact⟨_,by rw[getElem?_cons_zero];exact congrArg some (Prod.ext r.1.symm Y),r.2⟩
  |succ i=>
   obtain⟨u,h1,h2⟩:=ih (by simpa using h);exact⟨u,by simpa using h1,h2⟩
def Zp1(h:(Yj P w).is k u=true):RelV (kV k) u:=by
 cases k with
 |inl i=>obtain⟨t,e⟩:=Value.isInt_shape (k:=i) (v:=u) h;exact⟨t,e⟩
 |inr x=>obtain⟨t,e⟩:=Value.isStrOf_shape (x:=x) (v:=u) h;exact⟨t,e⟩
def Wy{X:Cx}{s:Shared}(I:Inv X j' σ H s)(e:H d=some (Y:)):
  ∃vs ep,KV kvs vs/\s.heap.DictAt (Yj X.prog X.w) d vs ep/\s.heap.get? d=some o:=by
 obtain⟨ho,_,_,vs,mj,dd⟩:=I.hok d _ e;obtain⟨ep,da⟩:=dd.dictAt;exact⟨vs,ep,mj,da,ho⟩
noncomputable def epOf(o:Obj):Nat:=match o.data with
 | .dict _ ep=>ep
 |_=>0
def Ve{h:Heap}(da:h.DictAt (Yj P w) d vs ep)(ho:h.get? d=some o):ep=epOf o:=by
 obtain⟨o',es,h1,_,h2,_⟩:=da;rw[ho]at h1;cases h1;unfold epOf;rw[h2]
def Zk7{P:Program}{w:World}{K:W.Frag}{tg:Expr}(d it:Addr)(kvs:List (Key×V))(o:Obj):
  Turn P w K tg ⟨λi H=>i<kvs.length/\H d=some (Y:),λi H x H'=>H'=H/\∃k v,kvs[i]?=some (k,v)/\x=kV k,λi H=>kvs.length<=i/\H d=some (Y:)⟩ [it] it (λi h=>h.IsKeyIter it d i kvs.length (epOf o)) where
 mem:=by simp
 obj:=λi h st b hb=>by
  have e:b=it:=by simpa using hb
  subst e;obtain⟨o,e,c,d⟩:=st;exact(al:)
 keep:=λi h h' st k=>st.at λo e=>k it (by simp) o e
 item:=by
  intro X hP hw hK hc i j' s σ H E I hf st hg;subst hP hw hK;obtain⟨hi,hq⟩:=hg;obtain⟨vs,ep,mj,da,ho⟩:=Wy I hq;have qv:=Ve da ho;subst qv;obtain⟨f0,f1,f2,f3,f4,f5⟩:=hf it (by simp);obtain⟨⟨k,v⟩,hx⟩:∃p,kvs[i]?=some p:=⟨_,Ac hi⟩;obtain⟨u,hu,ru⟩:=mj.at hx;have l9:vs.length=kvs.length:=mj.length.symm;rw[<-l9]at st;refine wpAny_pyNext_dict_item st da hu λkey h' hk o3 sb=>?_;have I1:Inv X j' σ H {s with heap:=h' }:=I.turned (t':=s.toks) (λb o hb e=>(sb.2 b hb).trans e) f0 f1 f3 f4 f5;rw[l9]at o3;obtain⟨oi,e,c,dd⟩:=id o3;exact⟨key,Y,Ow (s:={s with heap:=h' }) e c dd (d:) ⟨kV k,H,I1,Zp1 hk,⟨Y,k,v,hx,Y⟩,o3,λb hb=>(hf b hb).1⟩⟩
 done:=by
  intro X hP hw hK hc i j' s σ H E I hf st hg;subst hP hw hK;obtain⟨hi,hq⟩:=hg;obtain⟨vs,ep,mj,da,ho⟩:=Wy I hq;have qv:=Ve da ho;subst qv;obtain⟨f0,f1,f2,f3,f4,f5⟩:=hf it (by simp);have l9:vs.length=kvs.length:=mj.length.symm;rw[<-l9]at st;exact wpAny_pyNext_dict_end (I.ok.hd hc) st da (by rw[Ay];lia) λh' eb=>(B:)
 self:=λ_ _ _ _ _ st h=>wpAny_pyIter_keyiter st h
def Zk5{P:Program}{w:World}{K:W.Frag}{tg:Expr}(d it:Addr)(kvs:List (Key×V))(o:Obj):
  Turn P w K tg ⟨λi H=>i<kvs.length/\H d=some (Y:),λi H x H'=>H'=H/\∃k,kvs[i]?=some (k,x),λi H=>kvs.length<=i/\H d=some (Y:)⟩ [it] it (λi h=>h.IsValIter it d i kvs.length (epOf o)) where
 mem:=by simp
 obj:=λi h st b hb=>by
  have e:b=it:=by simpa using hb
  subst e;obtain⟨o,e,c,d⟩:=st;exact(al:)
 keep:=λi h h' st k=>st.at λo e=>k it (by simp) o e
 item:=by
  intro X hP hw hK hc i j' s σ H E I hf st hg;subst hP hw hK;obtain⟨hi,hq⟩:=hg;obtain⟨vs,ep,mj,da,ho⟩:=Wy I hq;have qv:=Ve da ho;subst qv;obtain⟨f0,f1,f2,f3,f4,f5⟩:=hf it (by simp);obtain⟨⟨k,v⟩,hx⟩:∃p,kvs[i]?=some p:=⟨_,Ac hi⟩;obtain⟨u,hu,ru⟩:=mj.at hx;have l9:vs.length=kvs.length:=mj.length.symm;rw[<-l9]at st;refine wpAny_pyNext_values_item st da hu λh' o3 sb=>?_;have I1:Inv X j' σ H {s with heap:=h' }:=I.turned (t':=s.toks) (λb o hb e=>(sb.2 b hb).trans e) f0 f1 f3 f4 f5;rw[l9]at o3;obtain⟨oi,e,c,dd⟩:=id o3;exact⟨u,Y,Ow (s:={s with heap:=h' }) e c dd (d:) ⟨v,H,I1,ru,⟨Y,k,hx⟩,o3,λb hb=>(hf b hb).1⟩⟩
 done:=by
  intro X hP hw hK hc i j' s σ H E I hf st hg;subst hP hw hK;obtain⟨hi,hq⟩:=hg;obtain⟨vs,ep,mj,da,ho⟩:=Wy I hq;have qv:=Ve da ho;subst qv;obtain⟨f0,f1,f2,f3,f4,f5⟩:=hf it (by simp);have l9:vs.length=kvs.length:=mj.length.symm;rw[<-l9]at st;exact wpAny_pyNext_values_end (I.ok.hd hc) st da (by rw[Ay];lia) λh' eb=>(B:)
 self:=λ_ _ _ _ _ st h=>wpAny_pyIter_valiter st h
end
section
variable{X:Cx}{tg:Expr}{l:Expr}{tl:TE}
noncomputable def Itk2(d:Addr)(kvs:List (Key×V))(o:Obj):It:=⟨λi H=>i<kvs.length/\H d=some (Y:),λi H x H'=>H'=H/\∃k v,kvs[i]?=some (k,v)/\x=kV k,λi H=>kvs.length<=i/\H d=some (Y:)⟩
noncomputable def Itv2(d:Addr)(kvs:List (Key×V))(o:Obj):It:=⟨λi H=>i<kvs.length/\H d=some (Y:),λi H x H'=>H'=H/\∃k,kvs[i]?=some (k,x),λi H=>kvs.length<=i/\H d=some (Y:)⟩
def Zkn(J:Addr->List (Key×V)->Obj->It)(tl:TE):TI:=λσ H R=>tl σ H λx H1=>∃a kvs,x=.ref a/\((H1 a=some (.dK kvs)/\∀o,R (J a kvs o) (upd H1 a (Y:)))\/∃o,H1 a=some (Y:)/\R (J a kvs o) H1)
def Zao{R:Obj->Hp->Prop}(I:Inv X j' σ H s)
  (h:(H a=some (.dK kvs)/\∀o,R o (upd H a (Y:)))\/∃o,H a=some (Y:)/\R o H):∃o H',H' a=some (Y:)/\Inv X j' σ H' s/\R o H':=by
 rcases h with ⟨e,r⟩|⟨o,e,r⟩
 ·obtain⟨ob,ho⟩:=(I.hok a _ e).there
  exact⟨ob,_,Zc,I.freeze e True.intro ho,r ob⟩
 ·exact⟨o,H,e,I,r⟩
def Zq7(hl:PE X l tl):PI X tg l (Zkn Itk2 tl):=by
 intro j' s σ H R I h;refine thn (hl j' s σ H _ I h) λv s1 me=>?_;obtain⟨x,H1,I1,r1,q1⟩:=me;obtain⟨a,kvs,e,q⟩:=q1;subst e;cases r1;obtain⟨o,H2,e2,I2,q2⟩:=Zao (R:=λo H=>R (Itk2 a kvs o) H) I1 q;obtain⟨vs,ep,mj,da,ho⟩:=Wy I2 e2;have qv:=Ve da ho;subst qv;obtain⟨_,_,qi,_⟩:=I2.hok a _ e2;refine wpAny_pyIter_dict qi da ?_;have l9:vs.length=kvs.length:=mj.length.symm;rw[l9];refine⟨s1.heap.objs.size,[s1.heap.objs.size],_,_,H2,Y,I2.kept (t':=s1.toks) λb o e=>Ak _ e,Zk7 a _ kvs o,⟨_,Ap _ Y,Y,Y⟩,λb hb=>?_,q2⟩;have e:b=s1.heap.objs.size:=by simpa using hb
 subst e;exact I2.fpOk (An _) (I2.hok.fresh (An _))
structure M0(X:Cx)(o:Expr)(m:Str)(ml mf:Pos):Prop where
 base:attributeBase o m X.env (eval o X.env)=eval o X.env
 few:((backTo mf (starEach [] X.env)).all (λx=>!x.1) && (backToKw mf (keywordEach [] X.env)).all (λx=>x.1.isSome)
  && decide (([]:List Expr).length+([]:List Keyword).length+(if([]:List Keyword).isEmpty then 0 else 1)<30))=true
 line:(ml.endLine==mf.line)=true
def Zq5{ml mf:Pos}(hl:PE X l tl)(m:M0 X l "values" ml mf):PI X tg (.Call (.Attribute l "values" ml) [] [] mf) (Zkn Itv2 tl):=by
 intro j' s σ H R I h;refine wpAny_Call_method m.base m.few m.line PySem.F.plainAttrs_dict PySem.F.slot_dict_values PySem.F.type_dict_values (thn (hl j' s σ H _ I h) λv s1 me=>?_);obtain⟨x,H1,I1,r1,q1⟩:=me;obtain⟨a,kvs,e,q⟩:=q1;subst e;cases r1;obtain⟨o,H2,e2,I2,q2⟩:=Zao (R:=λo H=>R (Itv2 a kvs o) H) I1 q;obtain⟨vs,ep,mj,da,ho⟩:=Wy I2 e2;have qv:=Ve da ho;subst qv;obtain⟨_,_,qi,_⟩:=I2.hok a _ e2;have isd:IsD H2 a:=.inl ⟨kvs,.inr ⟨o,e2⟩⟩;obtain⟨t1,t2,_⟩:=Zg3 I2 isd;refine⟨t1,t2,?_⟩;refine Calls.callWith_builtin Y (PyProof.Rows.evalArgs_empty ?_);refine call_meetsIn PySem.F.slot_dict_values da.dictOf.typeIs PySem.F.entry_dict_values (PySem.F.args_dict_values_1 _) (meets_dict_values (Yj X.prog X.w) a qi) ⟨⟨vs,da.dictOf⟩,?_⟩;have I3:Inv X j' σ H2 {s1 with heap:=s1.heap.push {cls:=.type "dict_values",data:=.fields #[.ref a]} }:=I2.kept (t':=s1.toks) λb o e=>Ak _ e;refine wpAny_pyIter_values ⟨_,Ap _ Y,Y,Y⟩ (da.push _) ?_;have l9:vs.length=kvs.length:=mj.length.symm;rw[l9];refine⟨(s1.heap.push {cls:=.type "dict_values",data:=.fields #[.ref a]}).objs.size,[(s1.heap.push {cls:=.type "dict_values",data:=.fields #[.ref a]}).objs.size],_,_,H2,rfl,I3.kept (t':=s1.toks) λb o e=>Ak _ e,Zk5 a _ kvs o,⟨_,Ap _ rfl,rfl,rfl⟩,λb hb=>?_,q2⟩;have e:b=(s1.heap.push {cls:=.type "dict_values",data:=.fields #[.ref a]}).objs.size:=by simpa using hb
 subst e;exact I3.fpOk (An _) (I3.hok.fresh (An _))
end
section
noncomputable def Ite(K:W.Frag)(a:Addr):It:=
 ⟨λi H=>∃xs x,SqL K H a xs/\xs[i]?=some x,λi H x H'=>∃q y,H q=none/\x=.ref q/\(∀xs,SqL K H a xs->xs[i]?=some y)/\H'=upd H q (.tup [.int i,y]),λi H=>∃xs,SqL K H a xs/\xs.length<=i⟩
def Zk8{P:Program}{w:World}{K:W.Frag}{pk:List Expr}{x1:Nat}{pos:Pos}(a e it:Addr)(mw:e≠it):Turn P w K (.Tuple pk x1 pos) (Ite K a) [e,it] e (λi h=>(∃old,IsEnum h e it i old)/\h.IsListIter it a i) where
 mem:=by simp
 obj:=λi h st b hb=>by
  obtain⟨⟨old,h1⟩,o,h2,c,d⟩:=st
  rcases Ar hb with z|z
  ·subst z
   exact⟨_,h1,λv z=>by
    have z':Data.fields _=Data.cell v:=z
    cases z'⟩
  ·have z:b=it:=by simpa using z
   subst z;exact⟨o,h2,λv z=>by rw[d]at z;cases z⟩
 keep:=λi h h' st k=>⟨let⟨old,h1⟩:=st.1;⟨old,k e (by simp) _ h1⟩,st.2.at λo q=>k it (by simp) o q⟩
 item:=by
  intro X hP hw hK hc i j' s σ H E I hf st hg;subst hP hw hK;obtain⟨xs,x,hq,hx⟩:=hg;obtain⟨its,rv,p,hz⟩:=I.list hq;obtain⟨u,hu,ru⟩:=rv.get hx;obtain⟨f0,f1,f2,f3,f4,f5⟩:=hf e (by simp);obtain⟨g0,g1,g2,g3,g4,g5⟩:=hf it (by simp);obtain⟨⟨old,he⟩,hit⟩:=st;refine wpAny_pyNext_enum_item he hit p.isList (x:=u) (by simpa using hu) mw λh' t6 hit' ht' hsz' kk=>?_;have eo:=Ao he;have io:it<s.heap.objs.size:=let⟨o,q,_⟩:=hit;Ao q
  refine⟨.ref s.heap.objs.size,Y,wpAny_letOwnedTupleGo_enum t6 λuh he'' sb=>?_⟩;have nh:∀b o,b≠e->b≠it->s.heap.get? b=some o->uh.get? b=some o:=λb o h1 h2 q=>(sb.2 b h1).trans (kk b o h1 h2 q);have uz:uh.get? s.heap.objs.size=some {cls:=.type "tuple",data:=.seq #[.int i s.toks,u]}:=(sb.2 _ (Nat.ne_of_gt eo)).trans ht';have hn:H s.heap.objs.size=none:=I.hok.fresh (An _)
  have I2:Inv X j' σ (upd H s.heap.objs.size (.tup [.int i,x])) {s with heap:=uh,toks:=s.toks+1}:=by
   refine I.step (g':=s.gens) (d':=s.drawn) (ch:=[e,it]) (λb hb=>?_) (λb o _ _ hc q _=>nh b o (bb:) (bb:) q) (λb o _ _ hc q _=>⟨o.slots,nh b o (bb:) (bb:) q⟩) (λb o _ q n=>by rw[Ze (As (Ao q))];exact n)
    (λb o hc q=>⟨o,nh b o (bb:) (bb:) q⟩) (λb ys q=>by rw[Ze (Zi q hn)];exact q) (λb o ys q=>by rw[Ze (Zi q hn)];exact q) (λb ps q=>⟨#[],by rw[Ze (Zi q hn),q];simp⟩) (λm hm=>?_) (λb v q=>?_) I.bare
   ·rcases Ar hb with z|z
    ·subst z;exact⟨f3,f1,f4,f5⟩
    ·have z:b=it:=by simpa using z
     subst z;exact⟨g3,g1,g4,g5⟩
   ·obtain⟨o,es,ep,ho,r⟩:=hm
    exact⟨o,es,ep,nh _ o (Ne.symm f1) (Ne.symm g1) ho,r⟩
   ·by_cases hb:b=s.heap.objs.size
    ·subst hb
     rw[Zc]at q;cases q;exact⟨by show 2<=sizeLine;decide,[.int i s.toks,u],.cons ⟨_,rfl⟩ (.cons ru .nil),⟨_,uz,rfl,_,rfl⟩⟩
    ·rw[Ze hb]at q
     refine(I.hok b v q).stay (λc w' hc z=>nh c w' ?_ ?_ z) (λd z=>by rw[Ze (Zi z hn)];exact z) λd ys z=>by rw[Ze (Zi z hn)];exact z
     ·rintro rfl
      rcases hc with z|z
      ·rw[z,q]at f0;cases f0
      ·rw[f0]at z;cases z
     ·rintro rfl
      rcases hc with z|z
      ·rw[z,q]at g0;cases g0
      ·rw[g0]at z;cases z
  refine⟨.ref s.heap.objs.size,_,I2,Y,⟨_,x,hn,Y,λys hy=>by rw[I.list_inj hy hq];exact hx,Y⟩,⟨⟨u,he''⟩,hit'.at λo q=>(sb.2 it (Ne.symm mw)).trans q⟩,λb hb=>?_⟩
  rcases Ar hb with z|z
  ·subst z;rw[Ze (As eo)];exact f0
  ·have z:b=it:=by simpa using z
   subst z;rw[Ze (As io)];exact g0
 done:=by
  intro X hP hw hK hc i j' s σ H E I hf st hg;subst hP hw hK;obtain⟨xs,hq,hx⟩:=hg;obtain⟨its,rv,p,hz⟩:=I.list hq;obtain⟨g0,g1,g2,g3,g4,g5⟩:=hf it (by simp);obtain⟨⟨old,he⟩,hit⟩:=st;have hl:=rv.length;exact wpAny_pyNext_enum_end (I.ok.hd hc) he hit p.isList (by simp;lia) λh' eb=>⟨rfl,I.turned (t':=s.toks) (λb o hb e=>eb b o hb e) g0 g1 g3 g4 g5⟩
 self:=λ_ _ _ _ _ st h=>by
  obtain⟨⟨old,he⟩,_⟩:=st;exact wpAny_pyIter_enum he h
variable{X:Cx}
def Zux(K:W.Frag)(ta:TA):TI:=λσ H R=>ta σ H λvs H1=>∃a,vs=[.ref a]/\(∃xs,SqL K H1 a xs)/\R (Ite K a) H1
def Zi3{pk:List Expr}{x1:Nat}{qh p pos:Pos}{l:Expr}{ta:TA}(hg:Gl X "enumerate")(hm:X.mg "enumerate"=none)(ha:PA X [l] ta)(hs:starEach [l] X.env=[(false,eval l X.env)]:=by rfl):PI X (.Tuple pk x1 qh) (.Call (.Name "enumerate" p) [l] [] pos) (Zux X.K ta):=by
 intro j' s σ H R I h;refine Call_ (Ja I hg hm boot_enumerate (PyProof.Rows.callWith_type1 (thn (ha pos j' s σ H _ I h) λus s1 zz35=>?_) hs Y));obtain⟨vs,H1,I1,r1,q1⟩:=zz35;obtain⟨a,e,⟨xs,hq⟩,q⟩:=q1;subst e;obtain⟨u,rfl,ru⟩:=Xb r1;cases ru;obtain⟨its,rv,pl,hz⟩:=I1.list hq;refine call_enumerate_list pl.isList λh' he hit hsz hk=>wpAny_pyIter_enum he ?_;have I2:Inv X j' σ H1 {s1 with heap:=h' }:=I1.kept (t':=s1.toks) hk;refine⟨s1.heap.objs.size+1,[s1.heap.objs.size+1,s1.heap.objs.size],_,_,H1,Y,I2,Zk8 a _ _ (succ_ne_self _),⟨⟨.none,he⟩,hit⟩,λb hb=>?_,q⟩
 rcases Ar hb with z|z
 ·subst z;exact I1.fpOk (le_succ _) (I1.hok.fresh (le_succ _))
 ·have z:b=s1.heap.objs.size:=by simpa using z
  subst z;exact I1.fpOk (An _) (I1.hok.fresh (An _))
def Zg8{K:W.Frag}{a:Addr}{xs:List V}{g:TG}{tb:TS}{D:Ends}{σ:St}{H:Hp}(Pv:Nat->St->Hp->Prop)(h0:Pv 0 σ H)(hl:∀i σ H,i<=xs.length->Pv i σ H->SqL K H a xs)
  (hs:∀i x σ H q,xs[i]?=some x->H q=none->Pv i σ H->g (.ref q) σ (upd H q (.tup [.int i,x])) λσ2 H2=>tb {D with nx:=Pv (i+1),ct:=Pv (i+1),bk:=D.nx} σ2 H2) (hd:∀σ H,Pv xs.length σ H->D.nx σ H):
  ∃W:Nat->Nat->St->Hp->Prop,(∃m,W 0 m σ H)/\∀i m σ H,W i m σ H ->
   ((Ite K a).stop i H/\D.nx σ H)\/((Ite K a).go i H/\∃N:St->Hp->Prop,(p:)/\∀x H',(Ite K a).yld i H x H'->g x σ H' λσ2 H2=>tb {D with nx:=N,ct:=N,bk:=D.nx} σ2 H2):=by
 refine(K:);rintro i m σ H ⟨rfl,hi,p⟩;have q:=hl i σ H hi p;by_cases mr:i<xs.length
 ·refine .inr (R:)
  obtain⟨c,z,hn,e1,e2,e3⟩:=y;subst e1 e3;exact hs i z σ H c (e2 xs q) hn p
 ·have e:i=xs.length:=by lia
  subst e;exact .inl ⟨⟨xs,q,An _⟩,hd σ H p⟩
def Zpg{kvs:List (Key×V)}{g:TG}{tb:TS}{D:Ends}(Pv:Nat->St->Hp->Prop)(h0:Pv 0 σ H)(hl:∀i σ H,i<=kvs.length->Pv i σ H->H d=some (Y:))
  (hs:∀i k x σ H,kvs[i]?=some (k,x)->Pv i σ H->g x σ H λσ2 H2=>tb {D with nx:=Pv (i+1),ct:=Pv (i+1),bk:=D.nx} σ2 H2) (hd:∀σ H,Pv kvs.length σ H->D.nx σ H):
  ∃W:Nat->Nat->St->Hp->Prop,(∃m,W 0 m σ H)/\∀i m σ H,W i m σ H ->
   ((Itv2 d kvs o).stop i H/\D.nx σ H)\/((Itv2 d kvs o).go i H/\∃N:St->Hp->Prop,(p:)/\∀x H',(Itv2 d kvs o).yld i H x H'->g x σ H' λσ2 H2=>tb {D with nx:=N,ct:=N,bk:=D.nx} σ2 H2):=by
 refine(bi:);rintro i m σ H ⟨rfl,hi,p⟩;have q:=hl i σ H hi p;by_cases mr:i<kvs.length
 ·refine .inr (bl:)
  obtain⟨e,k,y⟩:=y;subst e;exact hs i k x σ _ y p
 ·have e:i=kvs.length:=by lia
  subst e;exact .inl ⟨⟨An _,q⟩,hd σ H p⟩
def Zph{kvs:List (Key×V)}{g:TG}{tb:TS}{D:Ends}(Pv:Nat->St->Hp->Prop)(h0:Pv 0 σ H)(hl:∀i σ H,i<=kvs.length->Pv i σ H->H d=some (Y:))
  (hs:∀i k x σ H,kvs[i]?=some (k,x)->Pv i σ H->g (kV k) σ H λσ2 H2=>tb {D with nx:=Pv (i+1),ct:=Pv (i+1),bk:=D.nx} σ2 H2) (hd:∀σ H,Pv kvs.length σ H->D.nx σ H):
  ∃W:Nat->Nat->St->Hp->Prop,(∃m,W 0 m σ H)/\∀i m σ H,W i m σ H ->
   ((Itk2 d kvs o).stop i H/\D.nx σ H)\/((Itk2 d kvs o).go i H/\∃N:St->Hp->Prop,(p:)/\∀x H',(Itk2 d kvs o).yld i H x H'->g x σ H' λσ2 H2=>tb {D with nx:=N,ct:=N,bk:=D.nx} σ2 H2):=by
 refine(bi:);rintro i m σ H ⟨rfl,hi,p⟩;have q:=hl i σ H hi p;by_cases mr:i<kvs.length
 ·refine .inr (bl:)
  obtain⟨e,k,v,y,ex⟩:=y;subst e ex;exact hs i k v σ _ y p
 ·have e:i=kvs.length:=by lia
  subst e;exact .inl ⟨⟨An _,q⟩,hd σ H p⟩
def Zqg(ta:TA):TE:=λσ H Q=>ta σ H λvs H1=>∃n:Nat,vs=[.int n]/\n<=1000/\∀p,H1 p=none->Q (.ref p) (upd H1 p (.lst ((List.range n).map λ(i:Nat)=>V.int i)))
def Zgg{p1 p2:Pos}(hgl:Gl X "list")(hml:X.mg "list"=none)(hg:Gl X "range")(hm:X.mg "range"=none)(hc:X.calm=true)(ha:PA X [a] ta)(hs:starEach [a] X.env=[(false,eval a X.env)]:=by rfl)
  (ul:starEach [.Call (.Name "range" p2) [a] [] qw] X.env=[(false,eval (.Call (.Name "range" p2) [a] [] qw) X.env)]:=by rfl):PE X (.Call (.Name "list" p1) [.Call (.Name "range" p2) [a] [] qw] [] pos) (Zqg ta):=by
 intro j' s σ H Q I h;refine Call_ (Ja I hgl hml PySem.Pv.boot_list (PyProof.Rows.callWith_type1 ?_ ul Y));rw[ul];refine Calls.spliced_cons ?_;refine Call_ (Ja I hg hm boot_range (PyProof.Rows.callWith_type1 (thn (ha qw j' s σ H _ I h) λus s1 zz36=>?_) hs Y));obtain⟨vs,H1,I1,r1,q1⟩:=zz36;obtain⟨n,e,hn,q⟩:=q1;subst e;obtain⟨u,rfl,ru⟩:=Xb r1;obtain⟨t,rfl⟩:=ru;refine call_range_1 (Calls.spliced_nil ?_);have hr:Builtin.Range.rangeSize 0 (n:Int) 1=n:=by rw[rangeSize_one];split<;>lia
 refine call_list_range (I.ok.hd hc) (IsRange.new ..) (small_one (by lia) (by lia) (by lia) (by lia)) hr (by lia) λh' tk md c' hk hS u8=>?_;have hk1:∀b o,s1.heap.get? b=some o->h'.get? b=some o:=λb o e=>hk b o (Ak _ e)
 have hv:Vals ((List.range n).map λ(i:Nat)=>V.int i) md.toList:=by
  have gen:∀(l:List Value)(k:Nat),(∀(j:Nat)(v:Value),l[j]?=some v->∃t,v=.int ((k+j:Nat):Int) t)->Vals ((List.range' k l.length).map λ(i:Nat)=>V.int i) l:=by
   intro l
   induction l with
   |nil=>intro k _;exact .nil
   |cons v r ih=>
    intro k h;obtain⟨t,e⟩:=h 0 v rfl;rw[length_cons,range'_succ,map_cons];refine .cons ⟨t,by rw[e];rfl⟩ (ih (k+1) λj w hw=>?_);obtain⟨t',e'⟩:=h (j+1) w (by simpa using hw);exact⟨t',by rw[e'];congr 1;lia⟩
  have hl:md.toList.length=n:=by rw[Array.length_toList];exact u8.1
  have:=gen md.toList 0 λj v hj=>by
   obtain⟨t,e⟩:=u8.2 j v (by rw[<-Array.getElem?_toList];exact hj);exact⟨t,by rw[e];congr 1;lia⟩
  rw[hl,<-range_eq_range']at this;exact this
 have hle:s1.heap.objs.size<=(s1.heap.push {cls:=.type "range",data:=.fields #[.int 0 s1.toks,.int (n:Int) t,.int 1 (s1.toks+1)]}).objs.size:=by rw[Heap.size_push];exact le_succ _
 refine⟨.ref _,upd H1 _ (.lst ((List.range n).map λ(i:Nat)=>V.int i)),I1.laid hk1 (Nat.le_of_lt (by first|exact Nat.lt_of_le_of_lt hle (Ao hS)|(rw[Heap.size_push];exact lt_succ_self _))) ⟨?_,md.toList,c',hv,?_⟩,Y,q _ (I1.hok.fresh ?_)⟩
 ·rw[Ab,length_range,sizeLine_eq];lia
 ·simpa using hS
 ·rw[Heap.size_push];exact le_succ _
end
abbrev TJ:=Str->TE
def PJ(X:Cx)(es:List Expr)(t:TJ):Prop:=
 ∀(out:Str)(j':List (j:))(s:Shared)(σ:St)(H:Hp)(Q:VK),Inv X j' σ H s->t out σ H Q->wpAny (c:) X.A (joinParts out (evalEach es X.env)) (a2:) X.xe s
section
variable{X:Cx}{es:List Expr}{t:TJ}{pos:Pos}
def jNil:TJ:=λout _ H Q=>out.length<=sizeLine/\Q (.str out) H
def W3:PJ X [] jNil:=λout j' s σ H Q I h=>joinParts_nil (⟨.str out,H,I.tok _,⟨_,rfl⟩,h.2⟩) h.1
def jTxt(x:Str)(t:TJ):TJ:=λout σ H Q=>(out++x).length<=sizeLine/\t (out++x) σ H Q
def Yv{x:Str}{k:Nat}(h:PJ X es t):PJ X (.Constant (.str x) k pos::es) (jTxt x t):=by
 intro out j' s σ H Q I hq;refine joinParts_cons (Calls.Constant_str ?_);exact⟨hq.1,h _ j' _ σ H Q (I.tok _) hq.2⟩
def jInt(te:TE)(t:TJ):TJ:=λout σ H Q=>te σ H λv H1=>∃i:Int,v=.int i/\i.natAbs.log2<1920/\(out++(toString i:Str)).length<=sizeLine/\t (out++(toString i:Str)) σ H1 Q
def W4{e:Expr}{te:TE}(he:PE X e te)(h:PJ X es t):PJ X (.FormattedValue e (-1) none pos::es) (jInt te t):=by
 intro out j' s σ H Q I hq;refine joinParts_cons (FormattedValue_plain (thn (he j' s σ H _ I hq) λu s1 me=>?_));obtain⟨v,H1,I1,r1,i,ev,hl,hz,q⟩:=me;subst ev;obtain⟨tk,rfl⟩:=r1;exact formatField_int_small hl ⟨hz,h _ j' _ σ H1 Q (I1.tok _) q⟩
def X0{v₁ v₂:Expr}{l8:List Expr}(h:PJ X (v₁::v₂::l8) t):PE X (.JoinedStr (v₁::v₂::l8) pos) (t Str.empty):=λj' s σ H Q I hq=>JoinedStr_many (h Str.empty j' s σ H Q I hq)
end
section
variable{X:Cx}
def V9(K:W.Frag)(h:X.K=K:=by rfl):IxR X (rIxL K):=h▸Zs
def Zet(K:W.Frag)(h:X.K=K:=by rfl):Y6 X (.type "list") (λxs H Q=>∃p ys,xs=[.ref p]/\(SqL K H p ys\/SqT K H p ys)/\∀l,H l=none->Q (.ref l) (upd H l (.lst ys))):=h▸J9
def Oa(K:W.Frag)(h:X.K=K:=by rfl):Y6 X (.type "tuple") (λxs H Q=>∃p ys,xs=[.ref p]/\((SqL K H p ys/\∀l,H l=none->Q (.ref l) (upd H l (.tup ys)))\/(SqT K H p ys/\Q (.ref p) H))):=h▸Zes
variable{tg l e:Expr}{tl ta:TE}{f:Str}{pos:Pos}
def Zcm(K:W.Frag)(hl:PE X l tl)(h:X.K=K:=by rfl):PI X tg l (iTup K tl):=h▸Zsy hl
end
section
variable{prog:Program}{w:World}{A:Around}{E:Value->Shared->Prop}
def Zu6{it l:Addr}{xs:Array Value}(ne:l≠it)(k:Nat):∀(i:Nat)(s:Shared)(Q:List Value->Shared->Prop),s.heap.IsListIter it l i->s.heap.IsList l xs->i+k<=xs.size ->
  (∀h',h'.IsListIter it l (i+k)->Heap.SameBut it s.heap h'->Q ((xs.toList.drop i).take k) {s with heap:=h' })->wpAny (ae:) A (draw (.ref it) k) Q E s:=by
 induction k with
 |zero=>
  intro i s Q a b c q;have z:=q s.heap a (Heap.SameBut.refl ..);rw[take_zero]at z;exact wpAny_pure z
 |succ k ih=>
  intro i s Q a b c q;have lt:i<xs.size:=by lia
  refine Al (m:=pyNext (.ref it)) (wpAny_pyNext_list_item a b (x:=xs[i]) (by simp[lt]) λg st sb=>?_);refine Al (wpAny_holding (ih (i+1) _ _ st (b.extBut sb.extBut ne) (by lia) λg2 n6 sb2=>wpAny_pure ?_));have z:=q g2 (by rw[Nat.add_right_comm]at n6;exact n6) (sb.trans sb2);rwa [drop_eq_getElem_cons (by simpa using lt),take_succ_cons,Array.getElem_toList]at z
def Zqc{l:Addr}{xs:Array Value}{s:Shared}{Q:List Value->Shared->Prop}(hc:A.handled=none)(b:s.heap.IsList l xs)
  (q:∀h',Heap.ExtBut s.heap.objs.size s.heap h'->Q xs.toList {s with heap:=h' }):wpAny (ae:) A (unpackItems (.ref l) xs.size none) Q E s:=by
 have ne:l≠s.heap.objs.size:=by obtain⟨o,ho,_⟩:=b;exact As (Ao ho)
 unfold unpackItems notIterableAtAll;refine Al (Al (wpAny_specialOf b.typeIs PySem.F.slot_list_iter.lookup (as:)));rw[if_neg (d:)];refine Al (wpAny_holding (wpAny_pyIter_list b ?_));refine Al (wpAny_holding (Zu6 ne xs.size 0 _ _ ⟨_,Ap _ Y,Y,Y⟩ (b.push _) (by lia) λg st sb=>?_));have e:(xs.toList.drop 0).take xs.size=xs.toList:=by rw[drop_zero,take_of_length_le];simp
 rw[e,if_neg (by simp)];refine Al (wpAny_holding (wpAny_pyNext_list_end hc st ((b.push _).extBut sb.extBut ne) (by simp) λg2 eb=>?_));rw[if_neg (d:)];exact wpAny_pure (q g2 λc o hb z=>eb c o hb (sb.extBut c o hb (Ak _ z)))
end
section
variable{X:Cx}{pos:Pos}
def gLst(K:W.Frag)(n:Nat)(t:TGs):TG:=λv σ H Q=>∃a xs,v=.ref a/\SqL K H a xs/\xs.length=n/\t xs σ H Q
def Zs0{es:List Expr}{k:Nat}{t:TGs}{n:Nat}(hc:X.calm=true)(h:PGs X es t)
  (hn:(assignEach es X.env).length=n:=by rfl) (ou:(assignEach es X.env).findIdx? (·.1)=none:=by rfl):PG X (.Tuple es k pos) (gLst X.K n t):=by
 intro j' s σ H v u Q I r hw;obtain⟨a,xs,e1,hq,hl,hw⟩:=hw;subst e1;cases r;obtain⟨its,rv,p,hz⟩:=I.list hq;rw[assign_Tuple];refine Al (wpAny_standAt ?_);unfold unpack;have wn:(assignEach es X.env).length=its.toArray.size:=by rw[hn,<-hl,rv.length];simp
 rw[wn,ou];refine Al (wpAny_holding (Zqc (I.ok.hd hc) p.isList λh' hx=>?_));have I1:Inv X j' σ H {s with heap:=h' }:=I.kept (t':=s.toks) λb o e=>hx b o (As (Ao e)) e;exact h j' _ σ H xs _ Q I1 (by simpa using rv) hw
end
def Vg(w:World)(K:W.Frag)(a:Addr)(kvs:List (Key×V)):Prop:=
 ∃o es ep vs,K.lookup a=some o/\o.ExactDict/\o.data=.dict es ep/\(∀e∈es,∃k,Ov k e.key=true/\e.hash=keyH w k)/\(∀P:Program,Pairs (Yj P w) es.toList vs)/\(vs.map (·.1)).Nodup/\KV kvs vs/\(a==sysModules)=false
section
variable{X:Cx}{i o:Expr}{ty td:TE}{pos:Pos}
def Vg.here{j':List (j:)}{σ:St}{H:Hp}{s:Shared}{a:Addr}{kvs:List (Key×V)}(h:Vg X.w X.K a kvs)(I:Inv X j' σ H s):(a==sysModules)=false/\∃vs,KV kvs vs/\s.heap.DictOf (Yj X.prog X.w) a vs:=by
 obtain⟨o,es,ep,vs,h1,h2,h3,h4,h5,h6,h7,h8⟩:=h;exact⟨h8,vs,h7,o,es,ep,I.kIn a o h1,h2,h3,h4,h5 X.prog,h6⟩
def Zqh(w:World)(K:W.Frag)(ty td:TE):TE:=λσ H Q=>ty σ H λy H1=>td σ H1 λx H2=>∃a kvs k,x=.ref a/\Vg w K a kvs/\y=kV k/\Q (.bl (!(valV kvs k).isSome)) H2
def Zl7(hi:PE X i ty)(ho:PE X o td):PC X .NotIn i o (Zqh X.w X.K ty td):=by
 intro j' s σ H Q I h;refine thn (hi j' s σ H _ I h) λiv s1 zz37=>?_;obtain⟨y,H1,I1,ry,q1⟩:=zz37;refine thn (ho j' s1 σ H1 _ I1 q1) λu s2 me=>?_;obtain⟨x,H2,I2,rx,a,kvs,k,ex,g,ey,q2⟩:=me;subst ex ey;obtain rfl:u=Value.ref a:=rx;obtain⟨hd,vs,mj,dd⟩:=g.here I2;refine wpAny_notIn_of (J3 ry) hd dd.mapOf ?_;rw[<-(mj.val k).isSome_eq];exact⟨.bl _,H2,I2.tok _,Y,q2⟩
def Zt6(w:World)(K:W.Frag)(td ty:TE):TE:=λσ H Q=>td σ H λx H1=>ty σ H1 λy H2=>∃a kvs k v,x=.ref a/\Vg w K a kvs/\y=kV k/\valV kvs k=some v/\Q v H2
def Zq9(ho:PE X o td)(hi:PE X i ty)(hs:NoSl i):PE X (.Subscript o i pos) (Zt6 X.w X.K td ty):=by
 intro j' s σ H Q I h;refine Zin PySem.F.slot_dict_getitem.lookup hs (thn (ho j' s σ H _ I h) λu s1 zz38=>?_);obtain⟨x,H1,I1,rx,q1⟩:=zz38;refine thn (hi j' s1 σ H1 _ I1 q1) λiv s2 me=>?_;obtain⟨y,H2,I2,ry,a,kvs,k,v,ex,g,ey,hv,q2⟩:=me;subst ex ey;obtain rfl:u=Value.ref a:=rx;obtain⟨hd,vs,mj,dd⟩:=g.here I2;have ox:=mj.val k;rw[hv]at ox
 cases q:valueAt vs k with
 |none=>rw[q]at ox;exact ox.elim
 |some z=>
  rw[q]at ox;exact⟨dd.typeIs,wpAny_getItem_of (J3 ry) dd.mapOf q ⟨v,H2,I2.tok _,ox,q2⟩⟩
end
section
noncomputable def Itm2(d:Addr)(kvs:List (Key×V))(o:Obj):It:=
 ⟨λi H=>i<kvs.length/\H d=some (Y:),λi H x H'=>∃q k v,H q=none/\x=.ref q/\kvs[i]?=some (k,v)/\H'=upd H q (.tup [kV k,v]),λi H=>kvs.length<=i/\H d=some (Y:)⟩
def Zjl{P:Program}{w:World}{K:W.Frag}{pk:List Expr}{x1:Nat}{pos:Pos}(d it:Addr)(kvs:List (Key×V))(o:Obj):
  Turn P w K (.Tuple pk x1 pos) (Itm2 d kvs o) [it] it (λi h=>∃a b,IsItemIter h it d i kvs.length (epOf o) a b) where
 mem:=by simp
 obj:=λi h st b hb=>by
  have e:b=it:=by simpa using hb
  subst e;obtain⟨a,c,z⟩:=st;exact⟨_,z,λv y=>by
   have y':Data.fields _=Data.cell v:=y
   cases y'⟩
 keep:=λi h h' st k=>by
  obtain⟨a,c,z⟩:=st;exact⟨a,c,k it (by simp) _ z⟩
 item:=by
  intro X hP hw hK hc i j' s σ H E I hf st hg;subst hP hw hK;obtain⟨hi,hq⟩:=hg;obtain⟨vs,ep,mj,da,ho⟩:=Wy I hq;have qv:=Ve da ho;subst qv;obtain⟨f0,f1,f2,f3,f4,f5⟩:=hf it (by simp);obtain⟨⟨k,v⟩,hx⟩:∃p,kvs[i]?=some p:=⟨_,Ac hi⟩;obtain⟨u,hu,ru⟩:=mj.at hx;have l9:vs.length=kvs.length:=mj.length.symm;obtain⟨a0,b0,st⟩:=st;rw[<-l9]at st;have itlt:=Ao st;refine wpAny_pyNext_items_item st da hu λkey h' hk o3 ht hsz kk=>?_;rw[l9]at o3;refine⟨.ref s.heap.objs.size,Y,wpAny_letOwnedTupleGo_items o3 λuh st'' sb=>?_⟩;have nh:∀b z,b≠it->s.heap.get? b=some z->uh.get? b=some z:=λb z hb e=>(sb.2 b hb).trans (kk b z hb e);have uz:uh.get? s.heap.objs.size=some {cls:=.type "tuple",data:=.seq #[key,u]}:=(sb.2 _ (Nat.ne_of_gt itlt)).trans ht;have hn:H s.heap.objs.size=none:=I.hok.fresh (An _)
  have I2:Inv X j' σ (upd H s.heap.objs.size (.tup [kV k,v])) {s with heap:=uh}:=by
   refine I.step (g':=s.gens) (d':=s.drawn) (ch:=[it]) (λb hb=>?_) (λb o _ _ hc q _=>nh b o (bb:) q) (λb o _ _ hc q _=>⟨o.slots,nh b o (bb:) q⟩) (λb o _ q n=>by rw[Ze (As (Ao q))];exact n)
    (λb o hc q=>⟨o,nh b o (bb:) q⟩) (λb ys q=>by rw[Ze (Zi q hn)];exact q) (λb o ys q=>by rw[Ze (Zi q hn)];exact q) (λb ps q=>⟨#[],by rw[Ze (Zi q hn),q];simp⟩) (λm hm=>?_) (λb v' q=>?_) I.bare
   ·have z:b=it:=by simpa using hb
    subst z;exact⟨f3,f1,f4,f5⟩
   ·obtain⟨o,es,ep,ho,r⟩:=hm
    exact⟨o,es,ep,nh _ o (Ne.symm f1) ho,r⟩
   ·by_cases hb:b=s.heap.objs.size
    ·subst hb
     rw[Zc]at q;cases q;exact⟨by show 2<=sizeLine;decide,[key,u],.cons (Zp1 hk) (.cons ru .nil),⟨_,uz,rfl,_,rfl⟩⟩
    ·rw[Ze hb]at q
     refine(I.hok b v' q).stay (λc w' hc z=>nh c w' ?_ z) (λd z=>by rw[Ze (Zi z hn)];exact z) λd ys z=>by rw[Ze (Zi z hn)];exact z
     rintro rfl
     rcases hc with z|z
     ·rw[z,q]at f0;cases f0
     ·rw[f0]at z;cases z
  refine⟨.ref s.heap.objs.size,_,I2,Y,⟨_,k,v,hn,Y,hx,Y⟩,⟨_,_,st''⟩,λb hb=>?_⟩;have z:b=it:=by simpa using hb
  subst z;rw[Ze (As itlt)];exact f0
 done:=by
  intro X hP hw hK hc i j' s σ H E I hf st hg;subst hP hw hK;obtain⟨hi,hq⟩:=hg;obtain⟨vs,ep,mj,da,ho⟩:=Wy I hq;have qv:=Ve da ho;subst qv;obtain⟨f0,f1,f2,f3,f4,f5⟩:=hf it (by simp);have l9:vs.length=kvs.length:=mj.length.symm;obtain⟨a0,b0,st⟩:=st;rw[<-l9]at st;exact wpAny_pyNext_items_end (I.ok.hd hc) st da (by rw[Ay];lia) λh' eb=>(B:)
 self:=λ_ _ _ _ _ st h=>by
  obtain⟨a,b,st⟩:=st;exact PySem.W.kcp_self st h
variable{X:Cx}{l:Expr}{tl:TE}
def Zor{pk:List Expr}{x1:Nat}{qh ml mf:Pos}(hl:PE X l tl)(m:M0 X l "items" ml mf):PI X (.Tuple pk x1 qh) (.Call (.Attribute l "items" ml) [] [] mf) (Zkn Itm2 tl):=by
 intro j' s σ H R I h;refine wpAny_Call_method m.base m.few m.line PySem.F.plainAttrs_dict PySem.F.slot_dict_items PySem.F.type_dict_items (thn (hl j' s σ H _ I h) λv s1 me=>?_);obtain⟨x,H1,I1,r1,q1⟩:=me;obtain⟨a,kvs,e,q⟩:=q1;subst e;cases r1;obtain⟨o,H2,e2,I2,q2⟩:=Zao (R:=λo H=>R (Itm2 a kvs o) H) I1 q;obtain⟨vs,ep,mj,da,ho⟩:=Wy I2 e2;have qv:=Ve da ho;subst qv;obtain⟨_,_,qi,_⟩:=I2.hok a _ e2;have isd:IsD H2 a:=.inl ⟨kvs,.inr ⟨o,e2⟩⟩;obtain⟨t1,t2,_⟩:=Zg3 I2 isd;refine⟨t1,t2,?_⟩;refine Calls.callWith_builtin Y (PyProof.Rows.evalArgs_empty ?_);refine call_meetsIn PySem.F.slot_dict_items da.dictOf.typeIs PySem.F.entry_dict_items (PySem.F.args_dict_items_1 _) (meets_dict_items (Yj X.prog X.w) a qi) ⟨⟨vs,da.dictOf⟩,?_⟩;have I3:Inv X j' σ H2 {s1 with heap:=s1.heap.push {cls:=.type "dict_items",data:=.fields #[.ref a]} }:=I2.kept (t':=s1.toks) λb o e=>Ak _ e;refine wpAny_pyIter_items ⟨_,Ap _ Y,Y,Y⟩ (da.push _) ?_;have l9:vs.length=kvs.length:=mj.length.symm;rw[l9];refine⟨(s1.heap.push {cls:=.type "dict_items",data:=.fields #[.ref a]}).objs.size,[(s1.heap.push {cls:=.type "dict_items",data:=.fields #[.ref a]}).objs.size],_,_,H2,rfl,I3.kept (t':=s1.toks) λb o e=>Ak _ e,Zjl a _ kvs o,⟨_,_,Ap _ rfl⟩,λb hb=>?_,q2⟩;have e:b=(s1.heap.push {cls:=.type "dict_items",data:=.fields #[.ref a]}).objs.size:=by simpa using hb
 subst e;exact I3.fpOk (An _) (I3.hok.fresh (An _))
def Zm7{kvs:List (Key×V)}{g:TG}{tb:TS}{D:Ends}(Pv:Nat->St->Hp->Prop)(h0:Pv 0 σ H)(hl:∀i σ H,i<=kvs.length->Pv i σ H->H d=some (Y:))
  (hs:∀i k x σ H q,kvs[i]?=some (k,x)->H q=none->Pv i σ H->g (.ref q) σ (upd H q (.tup [kV k,x])) λσ2 H2=>tb {D with nx:=Pv (i+1),ct:=Pv (i+1),bk:=D.nx} σ2 H2) (hd:∀σ H,Pv kvs.length σ H->D.nx σ H):
  ∃W:Nat->Nat->St->Hp->Prop,(∃m,W 0 m σ H)/\∀i m σ H,W i m σ H ->
   ((Itm2 d kvs o).stop i H/\D.nx σ H)\/((Itm2 d kvs o).go i H/\∃N:St->Hp->Prop,(p:)/\∀x H',(Itm2 d kvs o).yld i H x H'->g x σ H' λσ2 H2=>tb {D with nx:=N,ct:=N,bk:=D.nx} σ2 H2):=by
 refine(bi:);rintro i m σ H ⟨rfl,hi,p⟩;have q:=hl i σ H hi p;by_cases mr:i<kvs.length
 ·refine .inr (bl:)
  obtain⟨c,k,v,hn,e1,y,e2⟩:=y;subst e1 e2;exact hs i k v σ H c y hn p
 ·have e:i=kvs.length:=by lia
  subst e;exact .inl ⟨⟨An _,q⟩,hd σ H p⟩
end
section
noncomputable def Itr3(lo st:Int)(n:Nat):It:=⟨λi _=>i<n,λi H x H'=>H'=H/\x=.int (lo+i*st),λi _=>n<=i⟩
def Zho{P:Program}{w:World}{K:W.Frag}{tg:Expr}(it:Addr)(lo st:Int)(n:Nat):Turn P w K tg (Itr3 lo st n) [it] it (λi h=>IsRangeIter h it (lo+(i:Nat)*st) ((n:Int)-(i:Nat)) st) where
 mem:=by simp
 obj:=λi h st b hb=>by
  have e:b=it:=by simpa using hb
  subst e;exact⟨_,st,λv z=>by
   have z':Data.fields _=Data.cell v:=z
   cases z'⟩
 keep:=λi h h' st k=>k it (by simp) _ st
 item:=by
  intro X hP hw hK hc i j' s σ H E I hf o3 hg;subst hP hw hK;obtain⟨f0,f1,f2,f3,f4,f5⟩:=hf it (by simp);have W:=Walks.range (prog:=X.prog) (w:=X.w) (I.ok.hd hc) it lo st n;refine W.item i s _ _ hg o3 λv h' tk hv n6 kk=>?_;obtain⟨t,rfl⟩:=hv;have I1:Inv X j' σ H {s with heap:=h',toks:=tk}:=I.turned (λb o hb e=>kk b o (by simpa using hb) e) f0 f1 f3 f4 f5;exact⟨_,Y,Ow (s:={s with heap:=h',toks:=tk}) (n:="range_iterator") n6 rfl rfl (d:) ⟨.int (lo+i*st),H,I1,⟨t,rfl⟩,⟨rfl,rfl⟩,n6,λb hb=>(hf b hb).1⟩⟩
 done:=by
  intro X hP hw hK hc i j' s σ H E I hf o3 hg;subst hP hw hK;obtain⟨f0,f1,f2,f3,f4,f5⟩:=hf it (by simp);exact wpAny_pyNext_range_end (I.ok.hd hc) o3 (by have:n<=i:=hg;lia) λh' eb=>(B:)
 self:=λ_ _ _ _ _ st h=>wpAny_pyIter_rangeiter st h
end
section
variable{X:Cx}{fr:Bool}{pos:Pos}
def Zuc(te:TEX)(g:TG):TSX:=λD R σ H=>te σ H (kAsg g σ D.nx) (kR R σ)
def Ziw{tg e:Expr}{te:TEX}{g:TG}(he:PEX fr X e te)(hg:PG X tg g)(hs:swapsWithSole [tg] e pos.line X.env=pure false:=by rfl)(hw:swappedStores [tg] e X.env=pure none:=by rfl)
  (h1:(assignEach [tg] X.env).map (·.2)=[assign tg X.env]:=by rfl) (hx:X.xe=(az:):=by rfl):PSX fr X (.Assign [tg] e pos) (Zuc te g):=by
 intro j' s σ H D R I h;refine wpAny_Assign_stores (wpAny_mono (he j' s σ H _ _ I h) (λv s1 ⟨x,H1,I1,r1,q1⟩=>?_) ?_) hs hw
 ·rw[h1]
  have z:=hg j' s1 σ H1 x v _ I1 r1 q1;rw[hx]at z;exact wpAny_mono z (λ_ _ y=>y) λ_ _ y=>y.elim
 ·rintro ev s1 ⟨e,T,cls,a0,σ',H',g1,g2,g3,g4,g5,g7,rfl,g6⟩
  exact⟨e,T,cls,a0,σ',H',g1,g2,g3,g4,g5,g7,g6⟩
end
def kdict_mk2{w:World}{K:W.Frag}{a:Addr}{h1 h2:Int}{t1 t2 t3 t4:Tok}{ep:Nat}{x1 y1 x2 y2:Str}
  (l:K.lookup a=some ⟨.type "dict",none,.dict #[⟨h1,.str x1 t1,.str y1 t2⟩,⟨h2,.str x2 t3,.str y2 t4⟩] ep,#[]⟩) (e1:h1=hashStr w x1) (e2:h2=hashStr w x2) (ne:x1≠x2) (sy:(a==sysModules)=false):
  Vg w K a [(Sum.inr x1,.str y1),(Sum.inr x2,.str y2)]:=by
 refine⟨_,_,_,[(Sum.inr x1,.str y1 t2),(Sum.inr x2,.str y2 t4)],l,⟨Y,Y,Y⟩,Y,λe he=>?_,λP=>?_,?_,?_,sy⟩
 ·have he:e=⟨h1,.str x1 t1,.str y1 t2⟩\/e=⟨h2,.str x2 t3,.str y2 t4⟩:=by simpa using he
  rcases he with rfl|rfl
  ·exact⟨Sum.inr x1,Yy x1 t1,e1⟩
  ·exact⟨Sum.inr x2,Yy x2 t3,e2⟩
 ·exact .cons (Yy x1 t1) Y (.cons (Yy x2 t3) Y .nil)
 ·refine nodup_cons.mpr ⟨?_,by simp⟩
  simp[ne]
 ·exact .cons ⟨Y,⟨_,Y⟩⟩ (.cons ⟨Y,⟨_,Y⟩⟩ .nil)
section
variable{X:Cx}
def rEqL(K:W.Frag):R2:=λx y H Q=>∃a b ns ms,x=.ref a/\y=.ref b/\SqL K H a (List.map V.int ns)/\SqL K H b (List.map V.int ms)/\Q (.bl (decide (ns=ms))) H
def rNeL(K:W.Frag):R2:=λx y H Q=>∃a b ns ms,x=.ref a/\y=.ref b/\SqL K H a (List.map V.int ns)/\SqL K H b (List.map V.int ms)/\Q (.bl (!decide (ns=ms))) H
def Zs7(hu:X.A.units+64<cLine):OpR X (compareOp .Eq) (rEqL X.K):=by
 intro j' s σ H x y v u Q I rx ry h;obtain⟨a,b,ns,ms,rfl,rfl,ha,hb,q⟩:=h;cases rx;cases ry;obtain⟨ia,ra,pa,_⟩:=I.list ha;obtain⟨ib,rb,pb,_⟩:=I.list hb;exact PySem.W.eq_intsK pa.isList (J5 ra) pb.isList (J5 rb) hu ⟨.bl _,H,I,Y,q⟩
def Zs4(hu:X.A.units+64<cLine):OpR X (compareOp .NotEq) (rNeL X.K):=by
 intro j' s σ H x y v u Q I rx ry h;obtain⟨a,b,ns,ms,rfl,rfl,ha,hb,q⟩:=h;cases rx;cases ry;obtain⟨ia,ra,pa,_⟩:=I.list ha;obtain⟨ib,rb,pb,_⟩:=I.list hb;exact PySem.W.ne_intsK pa.isList (J5 ra) pb.isList (J5 rb) hu ⟨.bl _,H,I,Y,q⟩
def Znw(bs:List Bool):((List.range bs.length).all λi=>bs.getD i true)=bs.all id:=by
 rw[Bool.eq_iff_iff,all_eq_true,all_eq_true];constructor
 ·intro h b hb
  obtain⟨i,hi,rfl⟩:=mem_iff_getElem.mp hb;have:=h i (mem_range.mpr hi);rw[Ad,Ac hi]at this;exact this
 ·intro h i hi
  have hi:=mem_range.mp hi;rw[Ad,Ac hi];exact h _ (getElem_mem hi)
def Zaq(hc:X.calm=true):Y6 X (.builtin "all") (λxs H Q=>∃p bs,xs=[.ref p]/\SqL X.K H p (List.map V.bl bs)/\Q (.bl (bs.all id)) H):=by
 intro j' s σ H xs us Q I r h;obtain⟨p,bs,rfl,hq,q⟩:=h;obtain⟨u,rfl,ru⟩:=Xb r;cases ru;obtain⟨its,rv,pl,hz⟩:=I.list hq;have ne:p≠s.heap.objs.size:=by obtain⟨o,ho,_⟩:=pl.isList;exact As (Ao ho)
 refine call_all_walk (au:)
 ·intro i v s' Q' E' hv n9
  have hv:its[i]?=some v:=by simpa using hv
  have l9:=rv.length;rw[Ab]at l9;have hi:i<bs.length:=by have:=(Aa hv).1;lia
  obtain⟨u,hu,ru⟩:=rv.get (show(bs.map V.bl)[i]?=some (V.bl bs[i]) by rw[Ah,Ac hi];rfl);rw[hv]at hu;cases hu;cases ru;have e:bs.getD i true=bs[i]:=by rw[Ad,Ac hi];rfl
  refine wpAny_truthy_bool ?_;have n9:Q' (bs.getD i true) s':=n9;rw[e]at n9;exact n9
 ·intro h' tk hk
  have I1:Inv X j' σ H {s with heap:=h',toks:=tk}:=I.kept λb o e=>hk b o (a5:) (Ak _ e);have l9:its.toArray.size=bs.length:=by have:=rv.length;rw[Ab]at this;simp;lia
  refine⟨.bl (bs.all id),H,I1,?_,q⟩;show Value.bool _=_;rw[l9,Znw]
end
section
variable{prog:Program}{w:World}{A:Around}{E:Value->Shared->Prop}{s:Shared}
abbrev upIt(a n:Int):Obj:={cls:=.type "range_iterator",data:=.fields #[rawInt (a+(n-1)*1),rawInt n,rawInt (-1)]}
def U9(h1:-(2^62)<=z)(h2:z<2^62):Builtin.Range.rangeFitsLong z=true:=by
 unfold Builtin.Range.rangeFitsLong;rw[Bool.and_eq_true,decide_eq_true_eq,decide_eq_true_eq];lia
def Zoj(r:Addr)(a b:Int)(t u v:Tok)(hs:(u:)=true):
  Meets (Builtin.«range.__reversed__» ⟨[.ref r],[]⟩) (λ_ R s=>IsRange s.heap r a b 1 t u v/\R (.ok (.ret (C:))) {s with heap:=s.heap.push (upIt a (Builtin.Range.rangeSize a b 1))}):=
 .of_wp λprog w A R s h=>by
  obtain⟨hp,g,d,tk,os⟩:=s;obtain⟨hl,h⟩:=h;unfold Builtin.«range.__reversed__»;refine Al (wpAny_of_eq (a:=Value.ref r) Y ?_);refine Al (m:=Builtin.Range.rangeFields (.ref r)) ?_;unfold Builtin.Range.rangeFields;refine Al (wpAny_field hl Y (x:=.int a t) Y ?_);refine Al (wpAny_of_eq (a:=some a) Y ?_);refine Al (wpAny_field hl Y (x:=.int b u) Y ?_);refine Al (wpAny_of_eq (a:=some b) Y ?_);refine Al (wpAny_field hl Y (x:=.int 1 v) Y ?_);refine Al (wpAny_of_eq (a:=some 1) Y ?_);refine wpAny_pure ?_;dsimp only;simp only[hs,Bool.not_true,Bool.false_eq_true,if_false,if_true];exact Al (wpAny_newObj_type (wpAny_pure ⟨_,Y,h⟩))
def Zsp:isSubtype (.type "range_iterator") (.type "reversed")=pure false:=by
 rw[isSubtype_type]
 kernel_rfl
def Zqy{t:Tok}(hr:IsRange s.heap r a b 1 t u v)
  (hs:(u:)=true)
  (q:Z (C:) {s with heap:=s.heap.push (upIt a (Builtin.Range.rangeSize a b 1))}):
  codeAny (ae:) A (.call (.builtin "reversed.__new__") ⟨[.type "reversed",.ref r],[]⟩) (wants Z E) s:=by
 have hT:s.TypeIs (.ref r) "range":=⟨_,hr,rfl⟩;refine codeAny_of_tree (show wpAny _ A.in1 (checkBuiltinCall "reversed.__new__" ⟨[.type "reversed",.ref r],[]⟩>>=λ_=>again (.builtin "reversed.__new__" ⟨[.type "reversed",.ref r],[]⟩)) _ _ s from ?_);refine Al (wpAny_of_eq (PySem.F.newCall_reversed_1 (.ref r)) (wpAny_pure ⟨plainId_quiet PySem.F.plain_reversed_new _,codeAny_builtin PySem.F.entry_reversed_new ?_⟩));rw[Around.under_plainId PySem.F.plain_reversed_new _];unfold Builtin.«reversed.__new__»;refine Al (wpAny_of_eq (newClass_reversed (.ref r)) ?_);refine Al (wpAny_of_eq (a:=()) (by first|rfl|kernel_rfl) (Al (wpAny_of_eq (a:=()) (by first|rfl|kernel_rfl) ?_)));refine Al (wpAny_specialOf hT PySem.F.slot_range_reversed.lookup (Al (wpAny_of_eq (PySem.F.slot_range_reversed.bind (.ref r)) ?_)));have ne:¬((Value.builtin "range.__reversed__"==Value.none)=true):=Bool.false_ne_true;dsimp only
 first|rw[if_neg ne]|(show wpAny _ _ (if(Value.builtin "range.__reversed__"==Value.none)=true then _ else _) _ _ _;rw[if_neg ne])
 refine Al (wpAny_rule (Al (m:=runValue (.call (.builtin "range.__reversed__") ⟨[.ref r],[]⟩)) ?_));show wpAny _ _ (call (.builtin "range.__reversed__") [.ref r]) _ _ _;refine call_meets PySem.F.slot_range_reversed hT PySem.F.entry_range_reversed (PySem.F.args_range_reversed_1 _) (Zoj r a b t u v hs) ⟨hr,?_⟩
 first|exact wpAny_pure q|exact Al (wpAny_pure (wpAny_pure q))
def Zqz{t:Tok}(hr:IsRange s.heap r a b 1 t u v)
  (hs:(u:)=true)
  (q:Q (C:) {s with heap:=s.heap.push (upIt a (Builtin.Range.rangeSize a b 1))}):wpAny (ae:) A (call (.type "reversed") [.ref r]) Q E s:=by
 refine callType_other (U:="range_iterator") (Q₁:=λo z=>o=.ref s.heap.objs.size/\z={s with heap:=s.heap.push (upIt a (Builtin.Range.rangeSize a b 1))}) (n:) PySem.F.create_reversed ⟨_,_,PySem.F.mro_reversed⟩ PySem.F.made_reversed Zsp (PySem.F.typeCall_reversed_1 _) (Zqy hr hs ⟨rfl,rfl⟩) ?_;rintro o z ⟨rfl,rfl⟩;exact⟨⟨_,Ap _ Y,Y⟩,q⟩
end
section
variable{X:Cx}{tg:Expr}
def Zuv(ta:TA):TI:=λσ H R=>ta σ H λvs H1=>∃(i:Int)(n:Nat),vs=[.int i,.int (i+n)]/\0<=i/\i+n<=100000/\R (Itr3 (i+n-1) (-1) n) H1
def Zq6{a b:Expr}{ta:TA}{p1 p2 pos qw:Pos}(hgl:Gl X "reversed")(hml:X.mg "reversed"=none)(hg:Gl X "range")(hm:X.mg "range"=none)(ha:PA X [a,b] ta)(hs:starEach [a,b] X.env=[(false,eval a X.env),(false,eval b X.env)]:=by rfl)(rf:starEach [b] X.env=[(false,eval b X.env)]:=by rfl)
  (ul:starEach [.Call (.Name "range" p2) [a,b] [] qw] X.env=[(false,eval (.Call (.Name "range" p2) [a,b] [] qw) X.env)]:=by rfl):PI X tg (.Call (.Name "reversed" p1) [.Call (.Name "range" p2) [a,b] [] qw] [] pos) (Zuv ta):=by
 intro j' s σ H R I h;refine Call_ (Ja I hgl hml boot_reversed (PyProof.Rows.callWith_type1 ?_ ul Y));rw[ul];refine Calls.spliced_cons ?_;refine Call_ (Ja I hg hm boot_range (PyProof.Rows.callWith_type1 (thn (ha qw j' s σ H _ I h) λus s1 ⟨vs,H1,I1,r1,q1⟩=>?_) (by rw[hs,rf]) (by rw[rf];rfl)));obtain⟨i,n,e,h0,h1,q⟩:=q1;subst e;obtain⟨u,v,rfl,ru,rv⟩:=r1.two;obtain⟨t,rfl⟩:=ru;obtain⟨t',rfl⟩:=rv;refine call_range_2 (Calls.spliced_nil ?_);have hr:Builtin.Range.rangeSize i (i+n) 1=n:=by rw[rangeSize_one];split<;>lia
 have fits:(Builtin.Range.rangeFitsLong i&&Builtin.Range.rangeFitsLong (i+n)&&Builtin.Range.rangeFitsLong 1&&Builtin.Range.rangeFitsLong (-1)&&Builtin.Range.rangeFitsLong (i-1)&&Builtin.Range.rangeFitsLong (Builtin.Range.rangeSize i (i+n) 1))=true:=by
  rw[hr,U9 (by lia) (by lia),U9 (by lia) (by lia),U9 (d:) (d:),U9 (d:) (d:),U9 (by lia) (by lia),U9 (by lia) (by lia)];rfl
 refine Zqz (IsRange.new ..) fits ?_;rw[hr];have I2:Inv X j' σ H1 {s1 with heap:=s1.heap.push {cls:=.type "range",data:=.fields #[.int i t,.int (i+n) t',.int 1 s1.toks]},toks:=s1.toks+1}:=I1.kept λb o e=>Ak _ e;have st:IsRangeIter ((ad:).push (upIt i n)) (ad:).objs.size (i+n-1+((0:Nat):Int)*(-1)) ((n:Int)-((0:Nat):Int)) (-1):=by
  have e1:i+(n:Int)-1+((0:Nat):Int)*(-1)=i+((n:Int)-1)*1:=by simp;lia
  have e2:(n:Int)-((0:Nat):Int)=n:=by simp
  rw[e1,e2]
  exact Ap _ Y
 refine wpAny_pyIter_rangeiter st ?_;refine⟨_,[(ad:).objs.size],_,_,H1,rfl,I2.kept (t':=s1.toks+1) λb o e=>Ak _ e,Zho _ (i+n-1) (-1) n,st,λb hb=>?_,q⟩;have e:b=(ad:).objs.size:=by simpa using hb
 subst e;exact I2.fpOk (An _) (I2.hok.fresh (An _))
def Zkp{lo st:Int}{n:Nat}{g:TG}{tb:TS}{D:Ends}{σ:St}{H:Hp}(Pv:Nat->St->Hp->Prop)(h0:Pv 0 σ H)
  (hs:∀(i:Nat)σ H,i<n->Pv i σ H->g (.int (lo+i*st)) σ H λσ2 H2=>tb {D with nx:=Pv (i+1),ct:=Pv (i+1),bk:=D.nx} σ2 H2) (hd:∀σ H,Pv n σ H->D.nx σ H):
  ∃W:Nat->Nat->St->Hp->Prop,(∃m,W 0 m σ H)/\∀i m σ H,W i m σ H ->
   ((Itr3 lo st n).stop i H/\D.nx σ H)\/((Itr3 lo st n).go i H/\∃N:St->Hp->Prop,(p:)/\∀x H',(Itr3 lo st n).yld i H x H'->g x σ H' λσ2 H2=>tb {D with nx:=N,ct:=N,bk:=D.nx} σ2 H2):=by
 refine⟨λi m σ H=>m=n-i/\i<=n/\Pv i σ H,⟨n,by simp,Az _,h0⟩,?_⟩;rintro i m σ H ⟨rfl,hi,p⟩;by_cases mr:i<n
 ·refine .inr ⟨mr,Pv (i+1),λσ' H' p'=>⟨n-(i+1),by lia,Y,mr,p'⟩,λx H' y=>?_⟩
  obtain⟨e,y⟩:=y;subst e y;exact hs i σ _ mr p
 ·have e:i=n:=by lia
  subst e;exact .inl ⟨An _,hd σ H p⟩
def Zcn(K:W.Frag)(hc:X.calm=true)(h:PGs X es t)
  (hn:(assignEach es X.env).length=n:=by rfl) (ou:(assignEach es X.env).findIdx? (·.1)=none:=by rfl) (hk:X.K=K:=by rfl):PG X (.Tuple es k pos) (gTup K n t):=hk▸Qu hc h hn ou
end
end L2
namespace KT
open PySem L2
noncomputable def mV:Option Nat->V
 |none=>.non
 |some j=>.int j
structure TD(M:Lq)(ns:List Int):Prop where
 n:∃n,1<=n/\n<=40/\M.length=3*n
 len:ns.length=M.length
 inv:∀(i j:Nat),M[i]?=some (some j)->M[j]?=some (some i)/\i≠j
 rng:∀(i:Nat)x,ns[i]?=some x->0<=x/\x<=9999
 eqv:∀(i j:Nat)x,ns[i]?=some x->ns[j]?=some x->i=j\/M[i]?=some (some j)
 eqm:∀(i j:Nat),M[i]?=some (some j)->ns[j]?=ns[i]?
structure SewOk(N:Nat)(F:List Nat)(M:Lq):Prop where
 len:M.length=N
 nd:F.Nodup
 free:∀f∈F,f<N/\M[f]?=some none
 inv:∀(i j:Nat),M[i]?=some (some j)->M[j]?=some (some i)/\i≠j
def SewOk.start(N:Nat):SewOk N (List.range N) (List.replicate N none):=by
 refine⟨by simp,nodup_range,λf hf=>?_,λi j h=>?_⟩
 ·have h:=mem_range.mp hf
  exact⟨h,by rw[getElem?_replicate,if_pos h]⟩
 ·rw[getElem?_replicate]at h
  split at h<;>cases h
def SewOk.skip{one:Nat}(h:SewOk N (one::F) M):SewOk N F M:=
 ⟨h.len,(nodup_cons.mp h.nd).2,λf hf=>h.free f (mem_cons_of_mem _ hf),h.inv⟩
def SewOk.pair{F:List Nat}{M:Lq}(h:SewOk N (one::F) M)(hk:F[k]?=some other):SewOk N (F.eraseIdx k) ((M.set one (some other)).set other (some one)):=by
 obtain⟨n1,n2⟩:=nodup_cons.mp h.nd;have hm:other∈F:=Au hk;have mw:one≠other:=λz=>n1 (z▸hm);obtain⟨h1,f1⟩:=h.free one mem_cons_self;obtain⟨h2,f2⟩:=h.free other (mem_cons_of_mem _ hm);have l1:one<M.length:=by rw[h.len];exact h1
 have l2:other<M.length:=by rw[h.len];exact h2
 have g1:((M.set one (some other)).set other (some one))[one]?=some (some other):=by
  rw[getElem?_set_ne (Ne.symm mw),getElem?_set_self l1]
 have g2:((M.set one (some other)).set other (some one))[other]?=some (some one):=by
  rw[getElem?_set_self (by rw[length_set];exact l2)]
 have g3:∀i,i≠one->i≠other->((M.set one (some other)).set other (some one))[i]?=M[i]?:=λi a b=>by
  rw[getElem?_set_ne (Ne.symm b),getElem?_set_ne (Ne.symm a)]
 refine⟨by rw[length_set,length_set];exact h.len,n2.sublist (eraseIdx_sublist F k),λf hf=>?_,λi j e=>?_⟩
 ·obtain⟨i,hi,hik,e⟩:=mem_eraseIdx_iff_getElem.mp hf
  have fm:f∈F:=e▸getElem_mem hi;obtain⟨a,b⟩:=h.free f (mem_cons_of_mem _ fm);have c1:f≠one:=λz=>n1 (z▸fm);have c2:f≠other:=λz=>by
   obtain⟨vq,ek⟩:=Aa hk
   exact hik ((getElem_inj n2).mp (e.trans (z.trans ek.symm)))
  exact⟨a,by rw[g3 f c1 c2];exact b⟩
 ·by_cases c1:i=one
  ·subst c1
   rw[g1]at e;cases e;exact⟨g2,mw⟩
  ·by_cases c2:i=other
   ·subst c2
    rw[g2]at e;cases e;exact⟨g1,Ne.symm mw⟩
   ·rw[g3 i c1 c2]at e
    obtain⟨a,b⟩:=h.inv i j e;have d1:j≠one:=λz=>by rw[z,f1]at a;cases a
    have d2:j≠other:=λz=>by rw[z,f2]at a;cases a
    exact⟨by rw[g3 j d1 d2];exact a,b⟩
noncomputable def nm(s t:Int)(i:Nat):Int:=(s+t*i)%10000
noncomputable def rep(M:Lq)(i:Nat):Nat:=match M[i]? with
 |some (some j)=>if j<i then j else i
 |_=>i
noncomputable def flat(M:Lq)(s t:Int):List Int:=(List.range M.length).map λi=>nm s t (rep M i)
noncomputable def Oc:List Int:=[1,3,7,9,37,1009,3333,9999]
def nm_d:∀t∈Oc,∀d:Fin 42,t*((d.val:Nat):Int)%10000=0->d.val=0:=by decide+kernel
def Zs8(ht:t∈Oc)(hi:i<42)(hj:j<42)(h:nm s t i=nm s t j):i=j:=by
  have key:∀a b:Nat,b<=a->a<42->nm s t a=nm s t b->a=b:=λa b t9 ha e=>by
    have e2:=Int.emod_eq_emod_iff_emod_sub_eq_zero.mp e;rw[Int.add_sub_add_left,<-Int.mul_sub,<-Int.natCast_sub t9]at e2;have:=nm_d t ht ⟨a-b,Nat.lt_of_le_of_lt (sub_le _ _) ha⟩ e2;exact Nat.le_antisymm (Nat.sub_eq_zero_iff_le.mp this) t9
  rcases Nat.le_total i j with h'|h'
  · exact(key j i h' hj h.symm).symm
  · exact key i j h' hi h
def Zlw{N:Nat}(h:i<N):rep M i<N:=by
 unfold rep;split
 ·split<;>omega
 ·exact h
def Kz(M:Lq)(i:Nat):rep M i=i\/(∃j,M[i]?=some (some j)/\j<i/\rep M i=j):=by
 cases e:M[i]? with
 |none=>exact .inl (by unfold rep;rw[e])
 |some o=>
  cases o with
  |none=>exact .inl (by unfold rep;rw[e])
  |some j=>
   by_cases h:j<i
   ·exact .inr ⟨j,Y,h,by unfold rep;rw[e];exact if_pos h⟩
   ·exact .inl (by unfold rep;rw[e];exact if_neg h)
def Zal{M:Lq}(h:(flat M s t)[i]?=some x):i<M.length/\x=nm s t (rep M i):=by
 unfold flat at h;rw[Ah]at h;by_cases hi:i<M.length
 ·rw[getElem?_range hi]at h
  exact⟨hi,(Ax h).symm⟩
 ·rw[Ay (by simpa using hi)]at h
  cases h
def Zjc{M:Lq}(hi:i<M.length):(flat M s t)[i]?=some (nm s t (rep M i)):=by
 unfold flat;rw[Ah,getElem?_range hi];rfl
def Zqe{M:Lq}{n:Nat}(h1:1<=n)(h2:n<=14)(hM:M.length=3*n)(qx:∀(i j:Nat),M[i]?=some (some j)->M[j]?=some (some i)/\i≠j)(ht:t∈Oc):TD M (flat M s t) where
 n:=⟨n,h1,by omega,hM⟩
 len:=by unfold flat;simp
 inv:=qx
 rng:=λi x h=>by
  obtain⟨_,rfl⟩:=Zal h;unfold nm;omega
 eqv:=λi j x hi hj=>by
  obtain⟨li,ei⟩:=Zal hi;obtain⟨lj,ej⟩:=Zal hj;have e:rep M i=rep M j:=Zs8 ht (by have:=Zlw (M:=M) li;omega) (by have:=Zlw (M:=M) lj;omega) (ei.symm.trans ej)
  rcases Kz M i with a|⟨a,ha,la,ra⟩
  ·rcases Kz M j with b|⟨b,hb,lb,rb⟩
   ·exact .inl (a.symm.trans (e.trans b))
   ·have:b=i:=by rw[<-rb,<-e,a]
    subst this;exact .inr (qx j b hb).1
  ·rcases Kz M j with b|⟨b,hb,lb,rb⟩
   ·have:a=j:=by rw[<-ra,e,b]
    subst this;exact .inr ha
   ·have:a=b:=by rw[<-ra,e,rb]
    subst this;have c1:=(qx i a ha).1;have c2:=(qx j a hb).1;rw[c1]at c2;exact .inl (by cases c2;rfl)
 eqm:=λi j h=>by
  obtain⟨h',mw⟩:=qx i j h;have li:i<M.length:=(Aa h).1;have lj:j<M.length:=(Aa h').1;rw[Zjc li,Zjc lj];have e:rep M j=rep M i:=by
   by_cases c:j<i
   ·have a:rep M i=j:=by unfold rep;rw[h];exact if_pos c
    have b:rep M j=j:=by unfold rep;rw[h'];exact if_neg (by omega)
    rw[a,b]
   ·have a:rep M i=i:=by unfold rep;rw[h];exact if_neg c
    have b:rep M j=i:=by unfold rep;rw[h'];exact if_pos (by omega)
    rw[a,b]
  rw[e]
noncomputable def pl(ns:List Int)(n:Nat)(x:Int):List Nat:=(List.range n).filter λi=>decide (ns[i]?=some x)
noncomputable def keys(ns:List Int):Nat->List Int
 |0=>[]
 |n+1=>match ns[n]? with
  |some x=>if x∈keys ns n then keys ns n else keys ns n++[x]
  |none=>keys ns n
def Xj{ns:List Int}{i:Nat}:i∈pl ns n x ↔ i<n/\ns[i]?=some x:=by
 unfold pl;rw[mem_filter,mem_range];simp
def Zoq(ns:List Int)(n:Nat)(x:Int):(pl ns n x).Nodup:=(nodup_range).sublist filter_sublist
def Zl2(ns:List Int)(n:Nat)(x:Int):(pl ns n x).Pairwise (·<·):=(pairwise_lt_range).sublist filter_sublist
def Zi1{ns:List Int}(h:ns[n]?=some x):pl ns (n+1) x=pl ns n x++[n]:=by
 unfold pl;rw[range_succ,filter_append];congr 1;simp[h]
def Zgd{ns:List Int}(h:ns[n]?≠some x):pl ns (n+1) x=pl ns n x:=by
 unfold pl;rw[range_succ,filter_append];simp[h]
def Wu{ns:List Int}(h:ns[n]?=some x):keys ns (n+1)=if x∈keys ns n then keys ns n else keys ns n++[x]:=by
 show(E:)=_;rw[h]
theorem Yu{ns:List Int}:∀{n:Nat}{x:Int},x∈keys ns n ↔ ∃i,i<n/\ns[i]?=some x
 |0,x=>by simp[keys]
 |n+1,x=>by
  have ih:=Yu (ns:=ns) (n:=n) (x:=x)
  have e:x∈keys ns (n+1) ↔ x∈keys ns n\/ns[n]?=some x:=by
   cases h:ns[n]? with
   |none=>
    have:keys ns (n+1)=keys ns n:=by
     show(E:)=_;rw[h]
    rw[this];simp
   |some y=>
    rw[Wu h];split
    ·constructor
     ·exact .inl
     ·rintro(z|z)
      ·exact z
      ·cases z;assumption
    ·rw[mem_append,mem_singleton]
     constructor
     ·rintro(z|z)
      ·exact .inl z
      ·exact .inr (by rw[z])
     ·rintro(z|z)
      ·exact .inl z
      ·exact .inr (by cases z;rfl)
  rw[e,ih];constructor
  ·rintro(⟨i,h1,h2⟩|h)
   ·exact⟨i,by lia,h2⟩
   ·exact⟨n,by lia,h⟩
  ·rintro⟨i,h1,h2⟩
   by_cases c:i=n
   ·subst c;exact .inr h2
   ·exact .inl ⟨i,by lia,h2⟩
theorem Vc(ns:List Int):∀n,(keys ns n).Nodup
 |0=>nodup_nil
 |n+1=>by
  have ih:=Vc ns n
  cases h:ns[n]? with
  |none=>
   have:keys ns (n+1)=keys ns n:=by
    show(E:)=_;rw[h]
   rw[this];exact ih
  |some y=>
   rw[Wu h];split
   ·exact ih
   ·rename_i c
    refine nodup_append.mpr ⟨ih,by simp,λa ha b hb=>?_⟩;rw[mem_singleton]at hb;subst hb;rintro rfl;exact c ha
theorem V7(ns:List Int):∀n,(keys ns n).length<=n
 |0=>An _
 |n+1=>by
  have ih:=V7 ns n
  cases h:ns[n]? with
  |none=>
   have:keys ns (n+1)=keys ns n:=by
    show(E:)=_;rw[h]
   rw[this];lia
  |some y=>
   rw[Wu h];split
   ·lia
   ·rw[Ae,At];lia
def Zsx(h:x∉keys ns n):pl ns n x=[]:=by
 cases e:pl ns n x with
 |nil=>rfl
 |cons a r=>
  have:a∈pl ns n x:=by rw[e];exact mem_cons_self
  obtain⟨h1,h2⟩:=Xj.mp this;exact absurd (Yu.mpr ⟨a,h1,h2⟩) h
def Zge(td:TD M ns)(n:Nat)(x:Int):(pl ns n x).length<=2:=by
 match e:pl ns n x with
 |[]=>simp
 |[_]=>simp
 |[_,_]=>simp
 |a::b::c::r=>
  exfalso;have nd:=Zoq ns n x;rw[e]at nd;have ha:=(Xj.mp (show a∈pl ns n x by rw[e];simp)).2;have hb:=(Xj.mp (show b∈pl ns n x by rw[e];simp)).2;have hc:=(Xj.mp (show c∈pl ns n x by rw[e];simp)).2;simp only[nodup_cons,mem_cons,not_or]at nd;obtain⟨⟨n1,n2,_⟩,⟨n3,_⟩,_⟩:=nd
  rcases td.eqv a b x ha hb with z|z
  ·exact n1 z
  ·rcases td.eqv a c x ha hc with y|y
   ·exact n2 y
   ·rw[z]at y
    cases y;exact n3 Y
def Zac{M:Lq}{ns:List Int}(td:TD M ns)(hx:x∈keys ns ns.length):
  (∃a,pl ns ns.length x=[a]/\ns[a]?=some x/\M[a]?=some none)\/(∃a b,a<b/\pl ns ns.length x=[a,b]/\ns[a]?=some x/\ns[b]?=some x/\M[a]?=some (some b)/\M[b]?=some (some a)):=by
 obtain⟨i,h1,h2⟩:=Yu.mp hx;have mi:i∈pl ns ns.length x:=Xj.mpr ⟨h1,h2⟩;have l2:=Zge td ns.length x;have st:=Zl2 ns ns.length x
 match e:pl ns ns.length x with
 |[]=>rw[e]at mi;simp at mi
 |[a]=>
  obtain⟨ga,ha⟩:=Xj.mp (show a∈pl ns ns.length x by rw[e];simp);refine .inl ⟨a,Y,ha,?_⟩;have la:a<M.length:=by rw[<-td.len];exact ga
  cases q:M[a]? with
  |none=>rw[List.getElem?_eq_none_iff]at q;lia
  |some o=>
   cases o with
   |none=>rfl
   |some b=>
    exfalso;have hb:ns[b]?=some x:=by rw[td.eqm a b q];exact ha
    have mb:b∈pl ns ns.length x:=Xj.mpr ⟨(Aa hb).1,hb⟩;rw[e,mem_singleton]at mb;exact(td.inv a b q).2 mb.symm
 |[a,b]=>
  obtain⟨ga,ha⟩:=Xj.mp (show a∈pl ns ns.length x by rw[e];simp);obtain⟨gb,hb⟩:=Xj.mp (show b∈pl ns ns.length x by rw[e];simp);rw[e]at st;have t9:a<b:=by simpa using st
  rcases td.eqv a b x ha hb with z|z
  ·lia
  ·exact .inr ⟨a,b,t9,Y,ha,hb,z,(td.inv a b z).1⟩
 |a::b::c::r=>rw[e]at l2;simp at l2
noncomputable def part(M:Lq)(ns:List Int)(ks:List Int):Lq:=(List.range M.length).map λi=>match ns[i]? with
 |some x=>if x∈ks then M.getD i none else none
 |none=>none
def Wg(M:Lq)(ns ks:List Int):(part M ns ks).length=M.length:=by unfold part;simp
def Qh{M:Lq}{ns:List Int}(td:TD M ns)(h:ns[i]?=some x):(part M ns ks)[i]?=some (if x∈ks then M.getD i none else none):=by
 have li:i<M.length:=by rw[<-td.len];exact(Aa h).1
 unfold part;rw[Ah,getElem?_range li];simp[h]
def Zow{M:Lq}(td:TD M ns):part M ns []=List.replicate M.length none:=by
 apply ext_getElem?;intro i;by_cases li:i<M.length
 ·obtain⟨x,hx⟩:∃x,ns[i]?=some x:=⟨_,Ac (by rw[td.len];exact li)⟩
  rw[Qh td hx,getElem?_replicate,if_pos li];simp
 ·rw[Ay (by rw[Wg];lia),Ay (by simp;lia)]
def Zox{ns:List Int}(td:TD M ns):part M ns (s:)=M:=by
 apply ext_getElem?;intro i;by_cases li:i<M.length
 ·have ln:i<ns.length:=by rw[td.len];exact li
  obtain⟨x,hx⟩:∃x,ns[i]?=some x:=⟨_,Ac ln⟩;rw[Qh td hx,if_pos (Yu.mpr ⟨i,ln,hx⟩),Ad,Ac li];rfl
 ·rw[Ay (by rw[Wg];lia),Ay (by lia)]
def Zov{M:Lq}{ns:List Int}(td:TD M ns){a:Nat}(hp:pl ns ns.length x=[a])(hm:M[a]?=some none):part M ns (ks++[x])=part M ns ks:=by
 apply ext_getElem?;intro i;by_cases li:i<M.length
 ·have ln:i<ns.length:=by rw[td.len];exact li
  obtain⟨y,hy⟩:∃x,ns[i]?=some x:=⟨_,Ac ln⟩;rw[Qh td hy,Qh td hy];by_cases c:y=x
  ·subst c
   have:i∈pl ns ns.length y:=Xj.mpr ⟨ln,hy⟩;rw[hp,mem_singleton]at this;subst this;have:M.getD i none=none:=by rw[Ad,hm];rfl
   rw[this];simp
  ·simp[c]
 ·rw[Ay (by rw[Wg];lia),Ay (by rw[Wg];lia)]
def Zma{M:Lq}{ns:List Int}(td:TD M ns)(hp:pl ns ns.length x=[a,b])(t9:a<b)(ha:M[a]?=some (some b))(hb:M[b]?=some (some a)):
  part M ns (ks++[x])=((part M ns ks).set a (some b)).set b (some a):=by
 have la:a<M.length:=(Aa ha).1;have lb:b<M.length:=(Aa hb).1;have na:=(Xj.mp (show a∈pl ns ns.length x by rw[hp];simp)).2;have nb:=(Xj.mp (show b∈pl ns ns.length x by rw[hp];simp)).2;apply ext_getElem?;intro i;by_cases li:i<M.length
 ·have ln:i<ns.length:=by rw[td.len];exact li
  obtain⟨y,hy⟩:∃x,ns[i]?=some x:=⟨_,Ac ln⟩;rw[Qh td hy];by_cases cb:i=b
  ·subst cb
   rw[nb]at hy;cases hy;rw[getElem?_set_self (by rw[length_set,Wg];exact lb),if_pos (by simp),Ad,hb];rfl
  ·rw[getElem?_set_ne (Ne.symm cb)]
   by_cases ca:i=a
   ·subst ca
    rw[na]at hy;cases hy;rw[getElem?_set_self (by rw[Wg];exact la),if_pos (by simp),Ad,ha];rfl
   ·rw[getElem?_set_ne (Ne.symm ca),Qh td hy]
    have:y≠x:=by
     rintro rfl;have:i∈pl ns ns.length y:=Xj.mpr ⟨ln,hy⟩;rw[hp]at this;simp at this;lia
    simp[this]
 ·rw[Ay (by rw[Wg];lia),Ay (by rw[length_set,length_set,Wg];lia)]
def nV(i:Nat):V:=.int (i:Int)
theorem Jc{g:Int->V}:∀{ks:List Int},valV (ks.map λx=>((Sum.inl x:Key),g x)) (Sum.inl y)=if y∈ks then some (g y)else none
 |[]=>by simp[valV]
 |k::r=>by
  have ih:=Jc (g:=g) (y:=y) (ks:=r);unfold valV at ih⊢;rw[map_cons,find?_cons];by_cases c:k=y
  ·subst c
   simp
  ·have:(decide ((Sum.inl k:Key)=Sum.inl y))=false:=by
    rw[decide_eq_false_iff_not];intro z;cases z;exact c Y
   simp only[this];rw[ih];have:(y∈k::r) ↔ y∈r:=by
    rw[mem_cons]
    exact⟨λz=>z.elim (λw=>absurd w.symm c) id,.inr⟩
   simp only[this]
def Zcj{g:Int->V}{ks:List Int}(h:y∉ks):putK (ks.map λx=>((Sum.inl x:Key),g x)) (Sum.inl y) v=(ks.map λx=>((Sum.inl x:Key),g x))++[(Sum.inl y,v)]:=by
 unfold putK;rw[if_neg];intro z;rw[any_eq_true]at z;obtain⟨kv,h1,h2⟩:=z;obtain⟨x,hx,rfl⟩:=mem_map.mp h1;have:(Sum.inl x:Key)=Sum.inl y:=of_decide_eq_true h2;cases this;exact h hx
def Zit{g:Int->V}{ks:List Int}(h:y∈ks):putK (ks.map λx=>((Sum.inl x:Key),g x)) (Sum.inl y) v=ks.map λx=>((Sum.inl x:Key),if x=y then v else g x):=by
 unfold putK;rw[if_pos]
 ·rw[map_map]
  apply map_congr_left;intro x hx;show(if(Sum.inl x:Key)=Sum.inl y then((Sum.inl x:Key),v) else(Sum.inl x,g x))=_;by_cases c:x=y
  ·subst c;simp
  ·rw[if_neg (λz=>by cases z;exact c Y),if_neg c]
 ·rw[any_eq_true]
  exact⟨_,mem_map.mpr ⟨y,h,Y⟩,by simp⟩
def Xk{α:Type}{f:α->V}{l:List α}{i:Nat}{x:α}(h:l[i]?=some x):atI (l.map f) (i:Int)=some (f x):=Wm (by rw[Ah,h];rfl)
def Qa(h:upd H p o q=none):q≠p/\H q=none:=by
 by_cases c:q=p
 ·subst c;rw[Zc]at h;cases h
 ·rw[Ze c]at h;exact⟨c,h⟩
noncomputable def after(p:Int):Int:=if p%3=2 then p-2 else p+1
noncomputable def Y1(p:Int):Int:=if p%3=0 then p+2 else p-1
noncomputable def Zu3(left:Bool)(a b:Nat):List Int:=if left then[after a,Y1 b,after b,Y1 a] else[after a,Y1 a,after b,Y1 b]
noncomputable def mvI(left:Bool)(a b:Nat)(z:Int):Int:=
 if z=after a then(if left then Y1 b else Y1 a)else if z=Y1 b then(if left then after b else after a)else if z=after b then(if left then Y1 a else Y1 b)else if z=Y1 a then(if left then after a else after b)else z
def Znx(p:Nat):after p/3=(p:Int)/3/\after p≠p/\0<=after p:=by unfold after;split<;>lia
def Zky(p:Nat):Y1 p/3=(p:Int)/3/\Y1 p≠p/\0<=Y1 p:=by unfold Y1;split<;>lia
noncomputable def mvN(left:Bool)(i j z:Nat):Nat:=(mvI left i j z).toNat
noncomputable def nst(left:Bool)(i j:Nat)(ns:List Int)(k:Nat):List Int:=(List.range ns.length).map λz=>if((mvN (!left) i j z:Nat):Int)∈(Zu3 left i j).take k then ns.getD (mvN (!left) i j z) 0 else ns.getD z 0
noncomputable def m6(p k:Nat):Nat:=p-p%3+(p+k)%3
def Zqv{n:Nat}(h:p<3*n):m6 p k<3*n:=by unfold m6;omega
def Zfm(p k:Nat):m6 p k/3=p/3:=by unfold m6;omega
noncomputable def We(M:Lq)(p:Int):Bool:=decide (0<=p/\p<M.length)&&(M.getD p.toNat none).isSome
noncomputable def U8(M:Lq)(a p:Int):Bool:=match M.getD a.toNat none with
 |some m=>decide (p/3=(m:Int)/3)&&!decide (p=(m:Int))
 |none=>false
noncomputable def rot{α:Type}(ws:List α)(s:Nat):List α:=ws.drop s++ws.take s
noncomputable def Q8(M:Lq)(ws vs:List Int):List Bool:=(ws.zip vs).map λp=>U8 M p.1 p.2
noncomputable def W0(M:Lq)(ws:List Int):Bool:=!ws.isEmpty&&((ws.map (We M)).all id&&(Q8 M ws (rot ws (1%ws.length))).all id)
def Zir{α:Type}(ws:List α)(h:s<=ws.length):(rot ws s).length=ws.length:=by
 unfold rot;rw[Ae,length_drop,Ai];lia
def Zq0{α:Type}{ws:List α}{k:Nat}(hs:s<ws.length)(hk:k<ws.length):(rot ws s)[k]?=ws[(k+s)%ws.length]?:=by
 unfold rot;by_cases c:k<ws.length-s
 ·rw[Av (by rw[length_drop];exact c),getElem?_drop,mod_eq_of_lt (by lia),Nat.add_comm]
 ·rw[getElem?_append_right (by rw[length_drop];lia),length_drop,getElem?_take_of_lt (by lia)]
  have:(k+s)%ws.length=k-(ws.length-s):=by
   rw[show k+s=(k-(ws.length-s))+ws.length by lia,add_mod_right,mod_eq_of_lt (by lia)]
  rw[this]
structure Pl(M:Lq)(ws:List Nat):Prop where
 ne:ws≠[]
 has:∀p∈ws,∃m,M[p]?=some (some m)
 nxt:∀(k:Nat)(a p:Nat),ws[k]?=some a->ws[(k+1)%ws.length]?=some p->∀m,M[a]?=some (some m)->p/3=m/3/\p≠m
structure Ch(M:Lq)(row:List Nat):Prop where
 has:∀p∈row,∃m,M[p]?=some (some m)
 nxt:∀(k:Nat)(a p m:Nat),row[k]?=some a->row[k+1]?=some p->M[a]?=some (some m)->p/3=m/3/\p≠m
def Ch.one{M:Lq}{p:Nat}(h:M[p]?=some (some m)):Ch M [p]:=by
 refine⟨λq hq=>?_,λk a q m' _ hq=>?_⟩
 ·rw[mem_singleton]at hq;subst hq;exact⟨m,h⟩
 ·simp at hq
def Ch.snoc{M:Lq}{row:List Nat}{p:Nat}(h:Ch M row)(hl:row.getLast?=some a)(hm:M[a]?=some (some m))(h1:p/3=m/3)(h2:p≠m)(hp:∃q,M[p]?=some (some q)):Ch M (row++[p]):=by
 refine⟨λq hq=>?_,λk b q m' hb hq yh=>?_⟩
 ·rcases mem_append.mp hq with z|z
  ·exact h.has q z
  ·rw[mem_singleton]at z;subst z;exact hp
 ·by_cases c:k+1<row.length
  ·rw[Av c]at hq
   rw[Av (by lia)]at hb;exact h.nxt k b q m' hb hq yh
  ·have hk:k+1<(row++[p]).length:=(Aa hq).1
   rw[Ae,At]at hk;have hk:k+1=row.length:=by lia
   rw[getElem?_append_right (by lia),hk]at hq;have:q=p:=by simpa using hq.symm
   subst this;rw[Av (by lia)]at hb;rw[getLast?_eq_getElem?,show row.length-1=k by lia,hb]at hl;cases hl;rw[hm]at yh;cases yh;exact⟨h1,h2⟩
def Ch.cut{row:List Nat}{e:Nat}(h:Ch M row)(hse:s<e)(h1:row[s]?=some a)(h2:row[e]?=some a):Pl M ((row.drop s).take (e-s)):=by
 have he:e<row.length:=(Aa h2).1;have hl:((row.drop s).take (e-s)).length=e-s:=by rw[Ai,length_drop];lia
 have gt:∀k,k<e-s->((row.drop s).take (e-s))[k]?=row[s+k]?:=λk hk=>by rw[getElem?_take_of_lt hk,getElem?_drop]
 refine⟨λz=>by rw[z]at hl;simp at hl;lia,λp hp=>?_,λk b p hb hp m hm=>?_⟩
 ·exact h.has p (mem_of_mem_drop (mem_of_mem_take hp))
 ·rw[hl]at hp
  have hk:k<e-s:=by have:=(Aa hb).1;rw[hl]at this;exact this
  rw[gt k hk]at hb;by_cases c:k+1<e-s
  ·rw[mod_eq_of_lt c,gt _ c]at hp
   exact h.nxt (s+k) b p m hb (by rw[show s+k+1=s+(k+1) by lia];exact hp) hm
  ·have hk:k+1=e-s:=by lia
   rw[hk,mod_self,gt 0 (by lia),Nat.add_zero,h1]at hp;cases hp;exact h.nxt (s+k) b a m hb (by rw[show s+k+1=e by lia];exact h2) hm
end KT
namespace L2
open PySem PySem.Spec PyProof.Rows
section
variable{X:Cx}
def Zez(i j:Int):Prop:=0<j/\j.natAbs.log2<9000
def Op:OpR X (binaryOp .FloorDiv) (rI Zez λi j=>.int (i/j)):=opI λi j _ _ _ _ _ hc q=>by
 have h1:(0:Int)<j:=hc.1;exact floordiv_int (by lia) (by rw[Int.fdiv_eq_ediv_of_nonneg i (by lia)];exact q) (.inl (PyProof.noPylong_of_log2 hc.2))
def log2_lt{j:Int}{k:Nat}(h:j.natAbs<2^k)(hk:0<k):j.natAbs.log2<k:=by
 by_cases e:j.natAbs=0
 ·rw[e];simpa using hk
 ·exact(Nat.log2_lt e).mpr h
def rEqT(K:W.Frag):R2:=λx y H Q=>∃a b ns ms,x=.ref a/\y=.ref b/\SqT K H a (List.map V.int ns)/\SqT K H b (List.map V.int ms)/\Q (.bl (decide (ns=ms))) H
def Zs6(hu:X.A.units+64<cLine):OpR X (compareOp .Eq) (rEqT X.K):=by
 intro j' s σ H x y v u Q I rx ry h;obtain⟨a,b,ns,ms,rfl,rfl,ha,hb,q⟩:=h;cases rx;cases ry;obtain⟨ia,ra,pa,_⟩:=I.tuple ha;obtain⟨ib,rb,pb,_⟩:=I.tuple hb;have la:ia.length=ns.length:=by rw[<-ra.length,Ab]
 have lb:ib.length=ms.length:=by rw[<-rb.length,Ab]
 refine PySem.SeqAt.eq_tupleAt (e:=λj=>ns.getD j 0==ms.getD j 0) pa pb (Nat.lt_of_le_of_lt (le_add_right _ _) hu) ?_ ?_
 ·intro j h1 h2
  have h1':j<ns.length:=by rw[Aq]at h1;lia
  have h2':j<ms.length:=by rw[Aq]at h2;lia
  obtain⟨u1,e1,r1⟩:=ra.get (i:=j) (show(T:)[j]?=some (V.int ns[j]) by rw[Ah,Ac h1'];rfl);obtain⟨u2,e2,r2⟩:=rb.get (i:=j) (show(ms.map V.int)[j]?=some (V.int ms[j]) by rw[Ah,Ac h2'];rfl);obtain⟨t1,rfl⟩:=r1;obtain⟨t2,rfl⟩:=r2;have g1:ia.toArray[j]=.int ns[j] t1:=by
   have:=Aa e1
   simpa using this.2
  have g2:ib.toArray[j]=.int ms[j] t2:=by
   have:=Aa e2;simpa using this.2
  rw[g1,g2,show ns.getD j 0=ns[j] by rw[Ad,Ac h1'];rfl,show ms.getD j 0=ms[j] by rw[Ad,Ac h2'];rfl];exact PySem.SeqAt.EqAt.int_int _ _ _ _
 ·refine Yg I q ?_
  rw[Aq,Aq,la,lb,Bool.eq_iff_iff];simp only[decide_eq_true_eq,Bool.and_eq_true,all_eq_true,mem_range,beq_iff_eq];constructor
  ·rintro rfl
   exact⟨λ_ _=>rfl,Y⟩
  ·rintro⟨h1,h2⟩
   apply ext_getElem h2;intro i g1 g2;have:=h1 i (by lia);rw[Ad,Ad,Ac g1,Ac g2]at this;exact this
end
end L2
namespace HL
open PySem PyProof.Rows HT
end HL
namespace L2
open PySem PySem.Spec PyProof.Rows
end L2
namespace HT
end HT
namespace L2
open PySem PySem.Spec PyProof.Rows
section
variable{X:Cx}{j':List (j:)}{σ:St}{H:Hp}{s:Shared}{a:Addr}{y v:V}{u r:Value}{A:Around}{E:Value->Shared->Prop}
def Zu8{kvs:List (Key×V)}(I:Inv X j' σ H s)(e:H a=some (.dK kvs))(l:kvs.length<sizeLine)(ry:RelV (kV k) u)(rv:RelV v r)(h:∀s',Inv X j' σ (upd H a (.dK (putK kvs k v))) s'->Q () s'):
  wpAny (c:) A (dictSet a u r) Q E s:=by
 obtain⟨z,hd,vs,mj,dd⟩:=Zkr I.hok e;have hz:vs.length<=sizeLine:=by rw[<-mj.length];exact z
 have hl:(putK kvs k v).length<=sizeLine:=by have:=Qp kvs k v;lia
 refine wpAny_dictSet_pairs (hsz:=hz) (J3 ry) dd λh' v9 hs=>h _ ?_;have he:∃q,h'.get? a=some q:=let⟨q,_,_,hq,_⟩:=v9;⟨q,hq⟩
 exact Gz I (by rw[e];exact True.intro) hs he (Zha hl hd (mj.put k rv) v9)
end
def Zsi(tk tv:TE)(D:Addr):TB:=λσ H N=>tk σ H λx H1=>tv σ H1 λv H2=>∃kvs k,x=kV k/\H2 D=some (.dK kvs)/\kvs.length<sizeLine/\N σ (upd H2 D (.dK (putK kvs k v)))
section
variable{X:Cx}
def Zou(hk:PE X kx tk)(hv:PE X vx tv):
  PB X ((eval kx X.env>>=λkv=>holding [kv] (eval vx X.env)>>=λvv=>standAt p>>=λ_=>holding [kv,vv] (dictSet D kv vv))>>=λ_=>again c) c (Zsi tk tv D):=by
 intro j' s σ H N I h;refine Al (Al (thn (hk j' s σ H _ I h) λu s1 zz39=>?_));obtain⟨x,H1,I1,r1,q1⟩:=zz39;refine Al (wpAny_holding (thn (hv j' s1 σ H1 _ I1 q1) λw s2 zz40=>?_));obtain⟨v,H2,I2,r2,q2⟩:=zz40;refine Al (wpAny_standAt (wpAny_holding ?_));obtain⟨kvs,k,rfl,hD,hl,q⟩:=q2;exact Zu8 I2 hD hl r1 r2 λs3 I3=>wpAny_pure ⟨Y,σ,_,I3,q⟩
end
def Zk9(ts:List Str)(fv:List (Str×Nat))(wi:TI)(g:TG)(tt:TT)(tb:Addr->TB):TE:=λσ H Q=>wi σ H λJ H1=>∀D,H1 D=none ->
 Jr J g tt (tb D) (λ_ H'=>Q (.ref D) H') (blkS ts fv σ) (upd H1 D (.dK []))
section
variable{X:Cx}{ts:List Str}{fv:List (Str×Nat)}{scope:Scope}{kx vx t0 i0:Expr}{f0:List Expr}{l8:List Comprehension}{pos:Pos}{wi:TI}{g:TG}{tt:TT}{tb:Addr->TB}{mv:Env->Addr->Addr->Sem Fin}
theorem Zkt(B:BlkOk X scope fv)(hc:X.calm=true)(hi:PI X t0 i0 wi)
  (hg:∀C s₀ H₀ ex,PG (e:) t0 g) (ht:∀C s₀ H₀ ex,PTs (e:) f0 tt)
  (qf:∀ (env:Env) (it D:Addr),compTurn (y:) 0 (.ref it) (.ref D) env=(standAt i0.pos >>= λ_=>pyNext (.ref it) >>= λr=>match r with
   |none=>pure (.done .next)
   |some v=>letOwnedTupleGo t0 (.ref it) v>>=λ_=>assign t0 env v>>=λ_=>
    (k:)>>=λok=>
     if ok=true then mv env it D else again (.compLoop (y:) 0 (.ref it) (.ref D) env)))
  (hb:∀C s₀ H₀ ex it D,PB (e:) (mv (e:).env it D) (.compLoop (y:) 0 (.ref it) (.ref D) (e:).env) (tb D)) {RR:Value->Addr->Result->Shared->Prop} (I:Inv X j' σ H s) (h:Zk9 ts fv wi g tt tb σ H Q)
  (hRR:∀D C s' H',Inv X j' σ H' s'->H' C=none->X.s₀.heap.objs.size<=C->C≠X.env.locals->(∀x c,X.env.cells.lookup x=some c->c≠C)->(∀p∈X.pn++j',p.1≠C)->(∃m,s'.heap.Ns C m)->Q (.ref D) H'->RR (.ref D) C (.ok .next) s'):
  wpAny (c:) X.A (eval i0 X.env) (λx s₁=>wpAny (c:) X.A (pyIter x) (λit s₂=>wpAny (c:) X.A newDict (λmd s₃ =>
   wpAny (c:) X.A (newFunctionEnv scope X.env.globals (Y4 X.env scope.names []) [] X.env.qual none .none (some X.env)) (λqj s₄ =>
    codeAny (c:) X.A (.compStart (y:) 0 it md {qj with scope:=relabel scope X.env}) (RR md qj.locals) s₄) X.xe s₃) X.xe s₂) X.xe s₁) X.xe s:=by
 refine thn (hi j' s σ H _ I h) λv s1 h1=>thn h1 λxi s2 h2=>?_;obtain⟨it,fp,tn,J,H2,e,I2,T,n6,f2,L⟩:=h2;subst e;have L:=L s2.heap.objs.size I2.fresh;refine wpAny_newObj_type ?_;have I3:Inv X j' σ (upd H2 s2.heap.objs.size (.dK [])) {s2 with heap:=s2.heap.push {cls:=.type "dict",data:=.dict #[]},toks:=s2.toks}:=I2.laid (a:=s2.heap.objs.size) (o:=.dK []) (t':=s2.toks) (λ_ _ q=>Ak _ q) (An _) (Oz s2.heap I2.big);have tz:∀b∈fp,∃o,s2.heap.get? b=some o/\∀v,o.data≠.cell v:=T.obj _ _ n6;have f3:∀b∈fp,FpOk X j' (upd H2 s2.heap.objs.size (.dK [])) b:=λb hb=>by
  obtain⟨o,ho,_⟩:=tz b hb
  refine⟨?_,(f2 b hb).2⟩
  rw[Ze (As (Ao ho))]
  exact(f2 b hb).1
 have o4:tn 0 (s2.heap.push {cls:=.type "dict",data:=.dict #[]}):=T.keep _ _ _ n6 λb _ o e=>Ak _ e;have rm:∀b∈fp,∃o,(s2.heap.push {cls:=.type "dict",data:=.dict #[]}).get? b=some o:=λb hb=>let⟨o,e,_⟩:=tz b hb;⟨o,Ak _ e⟩
 generalize hs3:({s2 with heap:=s2.heap.push {cls:=.type "dict",data:=.dict #[]},toks:=s2.toks}:Shared)=s3 at I3;have eh:s2.heap.push {cls:=.type "dict",data:=.dict #[]}=s3.heap:=by rw[<-hs3]
 rw[eh]at o4 rm;refine wpAny_newFunctionEnv B.nocell (by intro y hy;simp at hy) (λh₁ vp rf=>?_) B.kind;have hk:∀b o,s3.heap.get? b=some o->h₁.get? b=some o:=λb o e=>rf.extBut b o (As (Ao e)) (Ak _ e);have I4:=Um (ts:=ts) (tk:=s3.toks+([]:List (Str×Value)).length) B I3 f3 rm vp hk;have f4:∀b∈fp,FpOk (Zx X (A:) scope s3.heap.objs.size s3 (upd H2 s2.heap.objs.size (.dK [])) fp) [] (upd H2 s2.heap.objs.size (.dK [])) b:=λb hb=>by
  obtain⟨f0,f1,f2',f3',f4',f5'⟩:=f3 b hb
  obtain⟨o,eo⟩:=rm b hb
  exact(aj:)
 have tw:tn 0 h₁:=T.keep _ _ _ o4 λb _ o e=>hk b o e;have loop:codeAny (c:) X.A (.compLoop (y:) 0 (.ref it) (ab:) (Zx X (A:) scope s3.heap.objs.size s3 (upd H2 s2.heap.objs.size (.dK [])) fp).env)
   (RR (ab:) s3.heap.objs.size) {s3 with heap:=h₁,toks:=s3.toks+([]:List (Str×Value)).length}:=by
  refine Gh (X:=Zx X (A:) scope s3.heap.objs.size s3 (upd H2 s2.heap.objs.size (.dK [])) fp) (tg:=t0) (ifs:=f0) (R:=λ_ H'=>Q (ab:) H') Y Y Y Y (qf _ it s2.heap.objs.size) T hc (hg _ _ _ _) (ht _ _ _ _) (hb _ _ _ _ it s2.heap.objs.size) f4 I4 tw L λs' σ' H' J' q=>?_
  obtain⟨e1,e2,e3,e4,e5,e6⟩:=Ob I3 f3 (An _) J'
  obtain⟨m,hm,_⟩:=J'.loc
  exact hRR _ _ s' H' e1 e2 e3 e4 e5 e6 ⟨m,hm⟩ q
 exact codeAny_compStart_dict loop (T.self _ _ _ _ _ tw loop)
theorem Zl6(B:BlkOk X scope fv)(hc:X.calm=true)(hi:PI X t0 i0 wi)
  (hg:∀C s₀ H₀ ex,PG (e:) t0 g) (ht:∀C s₀ H₀ ex,PTs (e:) f0 tt)
  (qf:∀ (env:Env) (it D:Addr),compTurn (y:) 0 (.ref it) (.ref D) env=(standAt i0.pos >>= λ_=>pyNext (.ref it) >>= λr=>match r with
   |none=>pure (.done .next)
   |some v=>letOwnedTupleGo t0 (.ref it) v>>=λ_=>assign t0 env v>>=λ_=>
    (k:)>>=λok=>
     if ok=true then mv env it D else again (.compLoop (y:) 0 (.ref it) (.ref D) env)))
  (hb:∀C s₀ H₀ ex it D,PB (e:) (mv (e:).env it D) (.compLoop (y:) 0 (.ref it) (.ref D) (e:).env) (tb D))
  (hs:∀x,foldedSetIterable i0 X.env x=pure x:=by intro _;rfl):
  PE X (y:) (Zk9 ts fv wi g tt tb):=by
 intro j' s σ H Q I h;show wpAny _ X.A (comprehension (y:) scope X.env _ newDict false (eval i0 X.env)) _ _ s;refine wpAny_comprehension_free (use:=none) Y hs (Jl λy hy e=>I.ok.has y.1 (B.free y hy e)) B.kind B.names ?_;refine Zkt (RR:=λmd C=>compPost (c:) X.A X.xe none (a2:) md C) B hc hi hg ht qf hb I h λD C s' H' I' e2 e3 e4 e5 e6 hm q=>?_;obtain⟨m,hm⟩:=hm;exact⟨m,hm,λh' uf=>⟨.ref D,H',I'.apart uf e2 e3 e4 e5 e6,Y,q⟩⟩
end
section
variable{X:Cx}
def Zuk(K:W.Frag):V->V->Hp->VK->Prop:=λo i H Q=>∃p xs,∃(k:Nat)(v:V),o=.ref p/\i=.int k/\SqL K H p xs/\xs[k]?=some v/\Q v H
def Zg6:PGet X (Zuk X.K):=by
 intro j' s σ H o i ov iv Q I ro ri h;obtain⟨p,xs,k,v,rfl,rfl,hq,he,q⟩:=h;cases ro;obtain⟨t,rfl⟩:=ri;obtain⟨its,r,pl,hz⟩:=I.list hq;obtain⟨w,ew,qr⟩:=r.get he;have hl:=r.length;have hk:k<its.length:=(Aa ew).1;have hn:=V6;exact wpAny_getItem_list pl.isList (by lia) (by lia) (by simpa using ew) ⟨v,H,I,qr,q⟩
end
section
variable{X:Cx}{j':List (j:)}{σ:St}{H:Hp}{s:Shared}{a:Addr}
def Inv.thaw(I:Inv X j' σ H s)(e:H a=some (.frz ob (.dK kvs)))(h0:∀o u,X.H₀ a≠some (.frz o u)):Inv X j' σ (upd H a (.dK kvs)) s:=by
 have uc:∀c y,H c=some (.own y)->c≠a:=λc y r z=>by subst z;rw[r]at e;cases e
 have rq:∀c xs,H c=some (.tup xs)->c≠a:=λc xs r z=>by subst z;rw[r]at e;cases e
 have wx:∀c,H c=none->c≠a:=λc r z=>by subst z;rw[r]at e;cases e
 have hok:HOk X.prog X.w (upd H a (.dK kvs)) s.heap:=λb v q=>by
  have st:∀c w',Yn X.prog X.w H s.heap c w'->Yn X.prog X.w (upd H a (.dK kvs)) s.heap c w':=λc w' x=>x.stay (λ_ _ _ q=>q) (λd r=>by rw[Ze (uc d c r)];exact r) λd xs r=>by rw[Ze (rq d xs r)];exact r
  by_cases hb:b=a
  ·subst hb
   rw[Zc]at q;cases q;exact st _ _ (I.hok _ _ e).2
  ·rw[Ze hb]at q
   exact st _ _ (I.hok b v q)
 refine⟨I.ok,I.os,I.bare,⟨I.base.keep,I.base.slot,λb o q n hx=>?_,I.base.there,λb xs q=>?_,λb o u q=>?_,λb ps q=>?_⟩,I.loc,I.cell,?_,λx c q=>?_,λp hp=>?_,hok,I.len⟩
 ·have:=I.base.free b o q n hx
  rw[Ze (wx b this)];exact this
 ·have:=I.base.tups b xs q
  rw[Ze (rq b xs this)];exact this
 ·have:=I.base.frzs b o u q
  rw[Ze (λz=>by subst z;exact h0 _ _ q)];exact this
 ·obtain⟨uw,z⟩:=I.base.tbls b ps q
  exact⟨uw,by rw[Ze (λw=>by subst w;rw[z]at e;cases e)];exact z⟩
 ·have:=I.free
  rw[Ze (wx _ this)];exact this
 ·have:=I.freeC x c q
  rw[Ze (wx _ this)];exact this
 ·obtain⟨q1,q2,q3⟩:=I.pin p hp
  exact⟨q1,by rw[Ze (wx _ q2)];exact q2,q3⟩
end
def Zt0(H0:Hp)(t:TS):TS:=λD σ H=>t {D with nx:=λσ' H'=>∃(a:Addr)(o:Obj)(kvs:List (Key×V)),H' a=some (Y:)/\(∀o u,H0 a≠some (.frz o u))/\D.nx σ' (upd H' a (.dK kvs))} σ H
def Zq3{X:Cx}{st:Stmt}{t:TS}(h:PS X st t):PS X st (Zt0 X.H₀ t):=by
 intro j' s σ H D I hw;refine wpAny_mono (h j' s σ H _ I hw) (λf s' q=>?_) λ_ _ e=>e
 cases f with
 |next=>
  obtain⟨σ',H',I',a,o,kvs,e,h0,q⟩:=q;exact⟨σ',_,I'.thaw e h0,q⟩
 |ret v=>exact q
 |brk=>exact q
 |cont=>exact q
section
variable{X:Cx}
def Zav{ys:List Str}:∀{us:List Value},Vals (ys.map V.str) us->StrsAre us ys:=by
 induction ys with
 |nil=>intro us r;rw[map_nil]at r;cases r;exact .nil
 |cons y ys ih=>
  intro us r;rw[map_cons]at r
  cases r with
  |cons r1 r2=>
   obtain⟨t,e⟩:=r1;subst e;exact .cons y t (ih r2)
def Zuj(K:W.Frag):V->List V->Hp->VK->Prop:=λo xs H Q=>∃pe p ys,o=.str pe/\xs=[.ref p]/\SqL K H p (List.map V.str ys)/\pe.length<=16/\(ys.map (·.length)).sum+ys.length<=1048576/\Q (.str (Txt.join pe ys)) H
def U5:MtR X "str.join" (Zuj X.K):=by
 intro j' s σ H x xs v us Q I rx rs h;obtain⟨pe,p,ys,rfl,rfl,hq,h1,h2,q⟩:=h;obtain⟨t,rfl⟩:=rx;obtain⟨u,rfl,ru⟩:=Xb rs;cases ru;obtain⟨its,rv,pl,_⟩:=I.list hq;exact join_listW pl.isList (by simpa using Zav rv) h1 h2 λt' k=>⟨.str _,H,I.tok _,⟨_,Y⟩,q⟩
def Zui:R2:=λx y H Q=>∃z n,x=.str z/\y=.int n/\MulOk z n/\Q (.str (Txt.mul z n)) H
def Zrc:OpR X (binaryOp .Mult) Zui:=by
 intro j' s σ H x y v u Q I rx ry h;obtain⟨z,n,rfl,rfl,hok,q⟩:=h;obtain⟨t,rfl⟩:=rx;obtain⟨t',rfl⟩:=ry;exact SB.mul hok λt' k=>⟨.str _,H,I.tok _,⟨_,Y⟩,q⟩
end
def Str.ext'{a b:Str}(h:a.cps.toList=b.cps.toList):a=b:=by
 cases a;cases b;simp only[Str.mk.injEq];exact Array.toList_inj.mp h
end L2
namespace KT
open PySem L2
noncomputable def aftN(i:Nat):Nat:=if i%3=2 then i-2 else i+1
noncomputable def m7(M:Lq)(c:Nat):Option Nat:=(M[aftN c]?).join
abbrev InvM(M:Lq):Prop:=∀(i j:Nat),M[i]?=some (some j)->M[j]?=some (some i)/\i≠j
abbrev sL:Str:=Str.ofString "L"
end KT
namespace L2
open PySem PySem.Spec PyProof.Rows
section
variable{X:Cx}{xl:Value->Shared->Prop}{R0:Value->St->Hp->Prop}
def PSL(X:Cx)(xl:Value->Shared->Prop)(R0:Value->St->Hp->Prop)(st:Stmt)(t:TSX):Prop:=
 ∀(j':List (j:))(s:Shared)(σ:St)(H:Hp)(D:Ends),Inv X j' σ H s->t D R0 σ H->wpAny (c:) X.A (exec st X.env) (SP X j' D) xl s
def PSsL(X:Cx)(xl:Value->Shared->Prop)(R0:Value->St->Hp->Prop)(st:List Stmt)(t:TSX):Prop:=
 ∀(j':List (j:))(s:Shared)(σ:St)(H:Hp)(D:Ends),Inv X j' σ H s->t D R0 σ H->wpAny (c:) X.A (execs st X.env) (SP X j' D) xl s
structure LV(X:Cx)(xl:Value->Shared->Prop)(R0:Value->St->Hp->Prop):Prop where
 lv:∀(j':List (j:))(ev:Value)(s':Shared),XS true X j' R0 ev s'->xl ev s'
 po:PassesOwn (c:) X.A X.env xl
def Yp{st:Stmt}{t:TSX}(L:LV X xl R0)(h:PSX true X st t):PSL X xl R0 st t:=λj' s σ H D I q=>
 wpAny_mono (h j' s σ H D R0 I q) (λ_ _ z=>z) λev s' z=>L.lv j' ev s' z
def Z0{st:Stmt}{l8:List Stmt}{t u:TSX}(h1:PSL X xl R0 st t)(h2:PSsL X xl R0 l8 u):PSsL X xl R0 (st::l8) (Zjm t u):=by
 intro j' s σ H D I h;refine wpAny_execs_cons (thn (h1 j' s σ H {D with nx:=u D R0} I h) λf s1 q=>?_)
 cases f with
 |next=>
  obtain⟨σ',H',I',q⟩:=q;exact h2 j' s1 σ' H' D I' q
 |ret v=>exact q
 |brk=>exact q
 |cont=>exact q
def Xd{st:Stmt}{t:TSX}(h1:PSL X xl R0 st t):PSsL X xl R0 [st] t:=by
 intro j' s σ H D I h;refine wpAny_execs_cons (thn (h1 j' s σ H D I h) λf s1 q=>?_)
 cases f with
 |next=>exact wpAny_execs_nil q
 |ret v=>exact q
 |brk=>exact q
 |cont=>exact q
def Zt8(wi:TI)(g:TG)(tb:TSX):TSX:=λD R σ H=>tFor wi g (λD' σ' H'=>tb D' R σ' H') D σ H
def thnF{α:Type}{m:Sem α}{Q Q':α->Shared->Prop}{s:Shared}(hx:X.xe=(az:))(h:wpAny (c:) X.A m Q X.xe s)(k:∀a s1,Q a s1->Q' a s1):wpAny (c:) X.A m Q' xl s:=by
 rw[hx]at h;exact wpAny_mono h k λ_ _ z=>z.elim
def Zcl{tg iter:Expr}{body:List Stmt}{wi:TI}{g:TG}{tb:TSX}{pos:Pos}(L:LV X xl R0)(hc:X.calm=true)(hi:PI X tg iter wi)(hg:PG X tg g)(hb:PSsL X xl R0 body tb)
  (hx:X.xe=(az:):=by rfl) (hs:∀x,foldedSetIterable iter X.env x=pure x:=by intro _;rfl):PSL X xl R0 (.For tg iter body [] pos) (Zt8 wi g tb):=by
 intro j' s σ H D I h;have hp:=L.po;refine wpAny_For (thnF hx (hi j' s σ H _ I h) λv s1 h1=>thnF hx h1 λxi s2 h2=>?_) hs;obtain⟨it,fp,tn,J,H2,e,I2,T,n6,f2,W,⟨m0,w0⟩,qg⟩:=h2;subst e;have ow:∀{H':Hp},(bg:)->∀b∈fp,FpOk X j' H' b:=λhn b hb=>⟨hn b hb,(f2 b hb).2⟩;refine codeAny_forLoop_any (λn s'=>∃i σ' H',Inv X j' σ' H' s'/\tn i s'.heap/\(bg:)/\W i n σ' H') ?_ m0 ⟨0,σ,H2,I2,n6,λb hb=>(f2 b hb).1,w0⟩;rintro n s3 ⟨i,σ3,H3,I3,o4,ut,w3⟩
 rcases qg i n σ3 H3 w3 with ⟨stop,qn⟩|⟨go,N,hN,step⟩
 ·refine wpAny_passesOwn hp (thn (T.done X rfl rfl rfl hc i j' s3 σ3 H3 xl I3 (ow ut) o4 stop) λr s4 ⟨hr,I4⟩=>?_)
  subst hr;exact wpAny_execs_nil ⟨σ3,H3,I4,qn⟩
 ·refine wpAny_passesOwn hp (thn (T.item X rfl rfl rfl hc i j' s3 σ3 H3 xl I3 (ow ut) o4 go) λr s4 ⟨u,hr,h4⟩=>?_)
  subst hr;refine wpAny_passesOwn hp (thn h4 λ_ s5 me=>?_);obtain⟨x,H5,I5,r5,y5,qk,yp⟩:=me;have yr:=I5.pinned (ow yp) (T.obj _ _ qk);refine wpAny_passesOwn hp (thnF hx (hg _ s5 σ3 H5 x u _ yr r5 (step x H5 y5)) λ_ s6 me=>?_);obtain⟨σ6,H6,I6,q6⟩:=me;refine wpAny_passesOwn hp (thn (hb _ s6 σ6 H6 _ I6 q6) λf s7 q7=>?_);have again:∀{σ7:St}{H7:Hp},Inv X (j'++Qt fp s5.heap) σ7 H7 s7->N σ7 H7->∃m,m<n/\∃i σ' H',Inv X j' σ' H' s7/\tn i s7.heap/\(bg:)/\W i m σ' H':=λ{σ7 H7}I7 n7=>by
   obtain⟨m',hm,w7⟩:=hN σ7 H7 n7
   refine(ap:)
   obtain⟨o,e,d⟩:=T.obj _ _ qk b hb
   exact(x:).2.1
  cases f with
  |next=>obtain⟨σ7,H7,I7,n7⟩:=q7;exact again I7 n7
  |cont=>obtain⟨σ7,H7,I7,n7⟩:=q7;exact again I7 n7
  |brk=>obtain⟨σ7,H7,I7,q7⟩:=q7;exact⟨σ7,H7,I7.unpinned,q7⟩
  |ret v=>obtain⟨x7,σ7,H7,I7,r7,q7⟩:=q7;exact⟨x7,σ7,H7,I7.unpinned,r7,q7⟩
end
section
variable{P:Program}{w:World}{K:W.Frag}{mg:Str->Option Value}{base:Heap}
def Fun.okL{x qual:Str}{st:Stmt}{f:Addr}{fd:FuncData}{N ps:List Str}{k:Nat}{sp:Sp}(F:Fun K x qual st f fd)(S:FnScope N ps (Zf st))(len:∀vs H Q E,sp vs H Q E->vs.length=ps.length)
  (nz:∀ (mh:Value) (A:Around) (outer:List Env) (s:Shared) (H:Hp) (vs:List V) (Q:VK) (E:XK),Room k (am:)->sp vs H Q E ->
   ∃t,(∀xl,LV (z:).nox xl (an:)->PSsL (z:).nox xl (an:) (Yw st) t)/\t {nx:=λ_ H'=>Q .non H',rt:=Q} (an:) (start N vs) H):(a:) (k+1) f fd ps sp:=by
 obtain⟨oc,od,kV,nk,pm,an,mh,ct,uj,rfl,lk,oo⟩:=F.ex;refine Zey lk oo S len λA outer s H vs Q E hr o5=>?_;obtain⟨t,h,q⟩:=nz mh A outer s H vs Q E hr o5;refine(b7:);refine wpAny_mono (h _ ⟨λj' ev qd z=>Zai (fr:=true) ?_,PassesOwn.leaving⟩ j' s' σ' H' D (I.wish _) hD) (λ_ _ z=>z.unwish) λev qd z=>z;obtain⟨e,T,cls,a0,σ2,H2,h1,h2,h3,h4,h5,h7,h6⟩:=z;exact(a9:)
end
section
noncomputable def Its(x:Str):It:=
 ⟨λi _=>i<x.cps.size,λi H v H'=>H'=H/\∃c,x.cps[i]?=some c/\v=.str ⟨#[c]⟩,λi _=>x.cps.size<=i⟩
def Zn1{P:Program}{w:World}{K:W.Frag}{tg:Expr}(x:Str)(t:Tok)(it:Addr):Turn P w K tg (Its x) [it] it (λi h=>h.IsStrIter it "str_ascii_iterator" x t i) where
 mem:=by simp
 obj:=λi h st b hb=>by
  have e:b=it:=by simpa using hb
  subst e;obtain⟨o,e,c,d⟩:=st;exact(al:)
 keep:=λi h h' st k=>by
  obtain⟨o,ho,r⟩:=st;exact⟨o,k it (by simp) o ho,r⟩
 item:=by
  intro X hP hw hK hc i j' s σ H E I hf st hg;subst hP hw hK;have hg:i<x.cps.size:=hg;obtain⟨f0,f1,f2,f3,f4,f5⟩:=hf it (by simp);have hx:x.cps[i]?=some x.cps[i]:=by simp[hg]
  refine wpAny_pyNext_ascii_item st hx λh' o3 sb=>?_;have I1:Inv X j' σ H {s with heap:=h',toks:=s.toks+1}:=I.turned (t':=s.toks+1) (λb o hb e=>(sb.2 b hb).trans e) f0 f1 f3 f4 f5;obtain⟨o,e,c,d⟩:=id o3;exact⟨_,Y,Ow (s:={s with heap:=h',toks:=s.toks+1}) e c d (d:) ⟨.str ⟨#[x.cps[i]]⟩,H,I1,⟨_,Y⟩,⟨Y,_,hx,Y⟩,o3,λb hb=>(hf b hb).1⟩⟩
 done:=by
  intro X hP hw hK hc i j' s σ H E I hf st hg;subst hP hw hK;have hg:x.cps.size<=i:=hg;obtain⟨f0,f1,f2,f3,f4,f5⟩:=hf it (by simp);exact wpAny_pyNext_ascii_end (I.ok.hd hc) st (by simp[hg]) λh' eb=>⟨Y,I.turned (t':=s.toks) (λb o hb e=>eb b o hb e) f0 f1 f3 f4 f5⟩
 self:=λ_ _ _ _ _ st h=>wpAny_pyIter_striter_ascii st h
variable{X:Cx}{tg:Expr}
def iStr(tl:TE):TI:=λσ H R=>tl σ H λv H1=>∃x,v=.str x/\x.cps.all (·<128)=true/\R (Its x) H1
def Zsz{l:Expr}{tl:TE}(hl:PE X l tl):PI X tg l (iStr tl):=by
 intro j' s σ H R I h;refine thn (hl j' s σ H _ I h) λv s1 me=>?_;obtain⟨x,H1,I1,r1,q1⟩:=me;obtain⟨x,e,ha,q⟩:=q1;subst e;obtain⟨t,rfl⟩:=r1;refine wpAny_pyIter_ascii ha ?_;refine⟨s1.heap.objs.size,[s1.heap.objs.size],_,_,H1,Y,I1.kept (t':=s1.toks) λb o e=>Ak _ e,Zn1 x t _,⟨_,Ap _ Y,Y,Y⟩,λb hb=>?_,q⟩;have e:b=s1.heap.objs.size:=by simpa using hb
 subst e;exact I1.fpOk (An _) (I1.hok.fresh (An _))
end
section
variable{P:Program}{w:World}{K:W.Frag}{mg:Str->Option Value}{base:Heap}{x qual:Str}{st:Stmt}{f:Addr}{fd:FuncData}{N ps:List Str}{k:Nat}{sp:Sp}
def Fun.aR(F:Fun K x qual st f fd)(S:FnScope N ps (Zf st))
  (nz:∀ (mh:Value) (A:Around) (outer:List Env) (s:Shared) (H:Hp) (vs:List V) (Q:VK) (E:XK),Room k (am:)->sp vs H Q E ->
   ∃t,PSs (z:).nox (Yw st) t/\t {nx:=λ_ H'=>Q .non H',rt:=Q} (start N vs) H)
  (len:∀vs H Q E,sp vs H Q E->vs.length=ps.length:=by(intro vs H Q E h;(repeat (cases h;rename_i h));all_goals (subst_vars;rfl))):(a:) (k+1) f fd ps sp:=F.okR S len nz
def Fun.aX(F:Fun K x qual st f fd)(S:FnScope N ps (Zf st))
  (nz:∀ (mh:Value) (A:Around) (outer:List Env) (s:Shared) (H:Hp) (vs:List V) (Q:VK) (E:XK),Room k (am:)->sp vs H Q E ->
   ∃t,PSsX true (z:).nox (Yw st) t/\t {nx:=λ_ H'=>Q .non H',rt:=Q} (an:) (start N vs) H)
  (len:∀vs H Q E,sp vs H Q E->vs.length=ps.length:=by(intro vs H Q E h;(repeat (cases h;rename_i h));all_goals (subst_vars;rfl))):(a:) (k+1) f fd ps sp:=F.okX S len nz
end
end L2
namespace L2
open PySem PySem.Spec PyProof.Rows PySem.SeqAt
mutual
inductive DV(K:W.Frag)(H:Hp):V->PyData->Prop
 |non:DV K H .non .none
 |bl (b:Bool):DV K H (.bl b) (.bool b)
 |int (i:Int):DV K H (.int i) (.int i)
 |str (x:Str):DV K H (.str x) (.str x)
 |lst {a:Addr} {xs:List V} {ds:List PyData}:SqL K H a xs->DVs K H xs ds->DV K H (.ref a) (.list ds)
 |tup {a:Addr} {xs:List V} {ds:List PyData}:SqT K H a xs->DVs K H xs ds->DV K H (.ref a) (.tuple ds)
inductive DVs(K:W.Frag)(H:Hp):List V->List PyData->Prop
 |nil:DVs K H [] []
 |cons {x:V} {xs:List V} {d:PyData} {ds:List PyData}:DV K H x d->DVs K H xs ds->DVs K H (x::xs) (d::ds)
end
section
variable{X:Cx}{j':List (j:)}{σ:St}{H:Hp}{s:Shared}
mutual
theorem DV.reads(I:Inv X j' σ H s):∀{x:V}{d:PyData}{u:Value},DV X.K H x d->RelV x u->∃as,Reads s.heap u d as
 |_,_,_,.non,r=>by cases r;exact⟨_,.none⟩
 |_,_,_,.bl b,r=>by cases r;exact⟨_,.bool b⟩
 |_,_,_,.int i,r=>by obtain⟨t,rfl⟩:=r;exact⟨_,.int i t⟩
 |_,_,_,.str x,r=>by obtain⟨t,rfl⟩:=r;exact⟨_,.str x t⟩
 |_,_,_,.lst h hs,r=>by
  cases r;obtain⟨its,rv,pl,_⟩:=I.list h;obtain⟨as,ra⟩:=DVs.reads I hs rv;obtain⟨o,ho,hc,n,hd⟩:=pl.isList;exact⟨_,.list ho hc hd (by simpa using ra)⟩
 |_,_,_,.tup h hs,r=>by
  cases r;obtain⟨its,rv,pt,_⟩:=I.tuple h;obtain⟨as,ra⟩:=DVs.reads I hs rv;obtain⟨o,ho,hc,n,hd⟩:=pt;exact⟨_,.tuple ho hc hd (by simpa using ra)⟩
theorem DVs.reads(I:Inv X j' σ H s):∀{xs:List V}{ds:List PyData}{us:List Value},DVs X.K H xs ds->Vals xs us->∃as,ReadsAll s.heap us ds as
 |_,_,_,.nil,r=>by cases r;exact⟨_,.nil⟩
 |_,_,_,.cons h hs,r=>by
  cases r with
  |cons r1 r2=>
   obtain⟨as,ra⟩:=DV.reads I h r1;obtain⟨bs,rb⟩:=DVs.reads I hs r2;exact⟨_,.cons ra rb⟩
end
end
mutual
theorem Zbr:∀d:PyData,d.canLay0=true->noMix d d=true
 | .none,_=>rfl
 | .bool _,_=>rfl
 | .int _,_=>rfl
 | .str _,_=>rfl
 | .list xs,h=>by simp only[PyData.canLay0]at h;simp only[noMix];exact noMixAll_self xs h
 | .tuple xs,h=>by simp only[PyData.canLay0]at h;simp only[noMix];exact noMixAll_self xs h
 | .dict _,h=>by simp[PyData.canLay0]at h
theorem noMixAll_self:∀xs:List PyData,PyData.canLayAll0 xs=true->noMixAll xs xs=true
 |[],_=>by simp[noMixAll]
 |x::xs,h=>by
  simp only[PyData.canLayAll0,Bool.and_eq_true]at h;simp only[noMixAll,Zbr x h.1,noMixAll_self xs h.2,Bool.and_self]
end
end L2
namespace KT
open PySem L2
noncomputable def mtN(M:Lq)(h:Nat):Nat:=(M.getD h none).getD 0
def Zlv{ws:List Nat}{j i:Nat}(hj:j<ws.length)(hi:i<ws.length):(rot ws (j+1))[i]?=ws[(i+(j+1))%ws.length]?:=by
 by_cases z:j+1<ws.length
 ·exact Zq0 z hi
 ·have e:j+1=ws.length:=by lia
  rw[e,add_mod_right,mod_eq_of_lt hi];unfold rot;rw[drop_length,take_length,nil_append]
def CH(R:Nat->Nat->Prop)(l:List Nat):Prop:=∀(k u v:Nat),l[k]?=some u->l[k+1]?=some v->R u v
def Rx(M:Lq)(u v:Nat):Prop:=∃m,M[u]?=some (some m)/\v=aftN m
def Rw(M:Lq)(ws:List Nat):Prop:=∀(k u v:Nat),ws[k]?=some u->ws[(k+1)%ws.length]?=some v->Rx M u v
end KT
namespace L2
open PySem PySem.Spec PyProof.Rows
section
variable{X:Cx}{pos:Pos}
def psN(i:Nat){x:Str}{e:Expr}{te:TE}{nv:Pos}(hN:X.N.Nodup)(he:PE X e te)(hi:X.N[i]?=some x:=by rfl)(hx:Loc X.env.scope x:=by first|exact Or.inl rfl|exact Or.inr rfl)(hs:swapsWith e (some (.Name x nv)) pos.line X.env=pure false:=by rfl)(hf:X.fn x=true\/X.env.scope.names.lookup x=some .local:=by first|exact .inl rfl|exact .inr rfl|assumption):PS X (.Assign [.Name x nv] e pos) (tAsg te (Zv i)):=Zst hN hi hx he hs hf
def pgN(i:Nat){x:Str}(hN:X.N.Nodup)(hi:X.N[i]?=some x:=by rfl)(hx:Loc X.env.scope x:=by first|exact Or.inl rfl|exact Or.inr rfl)(hf:X.fn x=true\/X.env.scope.names.lookup x=some .local:=by first|exact .inl rfl|exact .inr rfl|assumption):PG X (.Name x pos) (Zv i):=Zq8 hN hi hx hf
end
abbrev oR(a:Addr):Option V:=some (.ref a)
abbrev oI(i:Int):Option V:=some (.int i)
abbrev oS(x:Str):Option V:=some (.str x)
def nd1(x:Str):[x].Nodup:=pairwise_singleton _ _
def nd2{x y:Str}(h:x≠y:=by decide+kernel):[x,y].Nodup:=nodup_cons.mpr ⟨λz=>h (Af z),nd1 y⟩
def nd3{x y z:Str}(h:x≠y:=by decide+kernel)(h1:x≠z:=by decide+kernel)(h2:y≠z:=by decide+kernel):[x,y,z].Nodup:=nodup_cons.mpr ⟨λk=>(Ar k).elim h λk=>h1 (Af k),nd2 h2⟩
section
variable{X:Cx}{o e:Expr}{es:List Expr}{to:TE}{t:TA}{ml mf:Pos}
def Ji(ho:PE X o to)(ha:PA X (e::es) t)
 (rc:attributeBase o "append" X.env (eval o X.env)=eval o X.env:=by rfl)
 (u5:((backTo mf (starEach (e :: es) X.env)).all (λx=>!x.1) && (backToKw mf (keywordEach [] X.env)).all (λx=>x.1.isSome)
   && decide ((e::es).length+([]:List Keyword).length+(if([]:List Keyword).isEmpty then 0 else 1)<30))=true:=by rfl)
 (qz:(ml.endLine==mf.line)=true:=by rfl) (hs:starEach (e::es) X.env=(I:)::starEach es X.env:=by rfl) (si:(backTo mf (starEach es X.env)).any (·.1)=false:=by rfl):
  PE X (.Call (.Attribute o "append" ml) (e::es) [] mf) (tBM X.K "list" Zis to t):=Wa PySem.F.plainAttrs_list PySem.F.slot_list_append PySem.F.type_list_append Gb ho ha rc u5 qz hs si
end
def lnN{n:Nat}(h:n<=1000):n<=sizeLine:=Nat.le_trans h (by rw[sizeLine_eq];decide)
def szR{n:Nat}(h:Nat.ble n 1000=true):n<=sizeLine:=Nat.le_trans (le_of_ble_eq_true h) (by rw[sizeLine_eq];decide)
section
variable{X:Cx}{e:Expr}{es:List Expr}{t:TA}{p pos:Pos}
def Z3(hm:X.mg "len"=none)(ha:PA X (e::es) t)(hg:Gl X "len":=by rfl)
  (he:starEach (e::es) X.env=(I:)::starEach es X.env:=by rfl) (oa:(w:).any (·.1)=false:=by rfl):PE X (.Call (.Name "len" p) (e::es) [] pos) (tCB (λxs H Q=>∃p ys,xs=[.ref p]/\(SqL X.K H p ys\/SqT X.K H p ys)/\Q (.int ys.length) H) t):=Ye Zhi hg hm PySem.boot_len ha (d:) (d:) he oa
end
def Rise(l:List Nat):Prop:=l.Pairwise (·<·)
def Uw{xs:Array Nat}(hr:Rise xs.toList){i k x y:Nat}(hi:xs[i]?=some x)(hk:xs[k]?=some y)(h:i<k):x<y:=by
 have e1:xs.toList[i]?=some x:=by rw[Array.getElem?_toList];exact hi
 have e2:xs.toList[k]?=some y:=by rw[Array.getElem?_toList];exact hk
 obtain⟨l1,q1⟩:=Aa e1;obtain⟨l2,q2⟩:=Aa e2;have:=pairwise_iff_getElem.mp hr i k l1 l2 h;rw[q1,q2]at this;exact this
theorem O1{xs:Array Nat}{j:Nat}(hr:Rise xs.toList):∀(on lo hi:Nat),hi-lo<=on->lo<=hi->hi<=xs.size->(∀i x,i<lo->xs[i]?=some x->x<j)->(∀i x,hi<=i->xs[i]?=some x->j<=x) ->
  (∀i x,i<SetTable.below.go xs j on lo hi->xs[i]?=some x->x<j)/\(∀i x,SetTable.below.go xs j on lo hi<=i->xs[i]?=some x->j<=x)
 |0,lo,hi,hf,hl,hs,h1,h2=>by
  have:lo=hi:=by lia
  subst this;exact⟨h1,h2⟩
 |on+1,lo,hi,hf,hl,hs,h1,h2=>by
  unfold SetTable.below.go;by_cases c:lo<hi
  ·rw[if_pos c]
   have hm:(lo+hi)/2<xs.size:=by lia
   have em:xs[(lo+hi)/2]?=some xs[(lo+hi)/2]:=Array.getElem?_eq_getElem hm;have eg:xs.getD ((lo+hi)/2) j=xs[(lo+hi)/2]:=by rw[Array.getD_eq_getD_getElem?,em];rfl
   dsimp only;rw[eg];by_cases z:xs[(lo+hi)/2]<j
   ·rw[if_pos z]
    refine O1 hr on _ _ (by lia) (by lia) hs (λi x yk hx=>?_) h2;by_cases e:i=(lo+hi)/2
    ·subst e;rw[em]at hx;cases hx;exact z
    ·exact Nat.lt_trans (Uw hr hx em (by lia)) z
   ·rw[if_neg z]
    refine O1 hr on _ _ (by lia) (by lia) (by lia) h1 (λi x yk hx=>?_);by_cases e:i=(lo+hi)/2
    ·subst e;rw[em]at hx;cases hx;lia
    ·have:=Uw hr em hx (by lia);lia
  ·rw[if_neg c]
   have:lo=hi:=by lia
   subst this;exact⟨h1,h2⟩
def Zhk{xs:Array Nat}{j:Nat}(hr:Rise xs.toList):∀i x,i<SetTable.below xs j->xs[i]?=some x->x<j:=
 (O1 hr xs.size 0 xs.size (by lia) (by lia) (by lia) (λi x h=>by lia) (λi x h hx=>by rw[Array.getElem?_eq_none h]at hx;cases hx)).1
def Zar{xs:Array Nat}{j:Nat}(hr:Rise xs.toList):∀i x,SetTable.below xs j<=i->xs[i]?=some x->j<=x:=
 (O1 hr xs.size 0 xs.size (by lia) (by lia) (by lia) (λi x h=>by lia) (λi x h hx=>by rw[Array.getElem?_eq_none h]at hx;cases hx)).2
def Zh3{xs:Array Nat}{j:Nat}(hr:Rise xs.toList)(hn:xs[SetTable.below xs j]?≠some j):Rise (SetTable.insertAt xs (SetTable.below xs j) j).toList:=by
 unfold Rise;rw[SetTable.toList_insertAt,pairwise_append];have hr':xs.toList.Pairwise (·<·):=hr;have ht:∀a∈xs.toList.take (SetTable.below xs j),a<j:=λa ha=>by
  obtain⟨i,hi,e⟩:=mem_iff_getElem.mp ha
  rw[getElem_take]at e
  rw[Ai]at hi
  refine Zhk hr i a (by lia) ?_
  rw[<-Array.getElem?_toList,Ac (by lia),e]
 have hd:∀a∈xs.toList.drop (SetTable.below xs j),j<a:=λa ha=>by
  obtain⟨i,hi,e⟩:=mem_iff_getElem.mp ha;rw[getElem_drop]at e;rw[length_drop]at hi;have ea:xs[SetTable.below xs j+i]?=some a:=by rw[<-Array.getElem?_toList,Ac (by lia),e]
  have h1:=Zar (j:=j) hr _ a (by lia) ea
  rcases Nat.lt_or_ge j a with z|z
  ·exact z
  ·have:a=j:=by lia
   subst this
   cases i with
   |zero=>exact absurd ea hn
   |succ i=>
    have hb:SetTable.below xs a<xs.size:=by rw[Array.length_toList]at hi;lia
    have eb:=Array.getElem?_eq_getElem hb;have h2:=Zar hr _ _ (An _) eb;have h3:=Uw hr eb ea (by lia);lia
 refine⟨hr'.sublist (take_sublist ..),?_,λa ha b hb=>?_⟩
 ·rw[pairwise_cons]
  exact⟨hd,hr'.sublist (drop_sublist ..)⟩
 ·rcases Ar hb with rfl|hb
  ·exact ht a ha
  ·exact Nat.lt_trans (ht a ha) (hd b hb)
def Zb5(t:SetTable)(j:Nat):Prop:=t.place[SetTable.below t.place j]?≠some j
def Zc3{t:SetTable}{j:Nat}(h:∀i,t.slot j≠.live i):Zb5 t j:=by
 intro e;unfold SetTable.slot at h;refine h (SetTable.below t.place j) ?_;dsimp only;rw[if_pos (by rw[e];exact beq_self_eq_true _)]
theorem Om{t:SetTable}{ha:Nat->Int}{h:Int}:∀(on:Nat)(p:SetTable.Probe)(j:Nat)(d:Option Nat),SetTable.probe.go t ha h on p=some (.empty j d)->(∀e,p.dummy=some e->Zb5 t e)->Zb5 t j/\∀e,d=some e->Zb5 t e
 |0,p,j,d,e,hp=>by unfold SetTable.probe.go at e;cases e
 |on+1,p,j,d,e,hp=>by
  unfold SetTable.probe.go at e
  cases c:t.slot p.j with
  |empty=>
   rw[c]at e;cases e;exact⟨Zc3 (λi z=>by rw[c]at z;cases z),hp⟩
  |dummy=>
   rw[c]at e;refine Om on _ j d e λx hx=>?_;have adv:∀q:SetTable.Probe,(t.advance q).dummy=q.dummy:=λq=>by unfold SetTable.advance;split<;>rfl
   rw[adv]at hx;cases hx;exact Zc3 λi z=>by rw[c]at z;cases z
  |live i=>
   rw[c]at e;dsimp only at e;split at e
   ·cases e
   ·refine Om on _ j d e λx hx=>?_
    have adv:∀q:SetTable.Probe,(t.advance q).dummy=q.dummy:=λq=>by unfold SetTable.advance;split<;>rfl
    rw[adv]at hx;exact hp x hx
def Q7(n:Nat):Rise (Array.range n).toList:=by
 unfold Rise;rw[Array.toList_range];exact pairwise_lt_range
def Zif{t:SetTable}(es:Array (Int×Value))(h:Int)(x:Value)(hr:Rise t.place.toList):Rise (layNew t es h x).2.1.place.toList/\(layNew t es h x).2.1.led=t.led:=by
 unfold layNew;split
 ·rename_i slot wd e
  have hf:Zb5 t slot:=by
   unfold SetTable.freeSlot SetTable.probe at e;split at e
   ·rename_i j d ep
    obtain⟨h1,h2⟩:=Om _ _ j d ep (λe he=>by unfold SetTable.probeStart at he;cases he)
    cases d with
    |none=>cases e;exact h1
    |some q=>cases e;exact h2 q Y
   ·cases e
  dsimp only;unfold SetTable.orStandIn;split
  ·exact⟨Zh3 hr hf,Y⟩
  ·exact⟨Q7 _,Y⟩
 ·exact⟨Q7 _,Y⟩
def Zmr(f:Nat->Option Nat)(n:Nat):Rise (((List.range n).filterMap λj=>(f j).map (j,·)).map (·.1)):=by
 have e:∀l:List Nat,(l.filterMap λj=>(f j).map (j,·)).map (·.1)=l.filter λj=>(f j).isSome:=λl=>by
  induction l with
  |nil=>rfl
  |cons a l ih=>
   cases c:f a with
   |none=>rw[filterMap_cons_none (by rw[c];rfl),filter_cons_of_neg (by rw[c];decide),ih]
   |some b=>rw[filterMap_cons_some (b:=(a,b)) (by rw[c];rfl),filter_cons_of_pos (by rw[c];rfl),map_cons,ih]
 unfold Rise;rw[e];exact pairwise_lt_range.filter _
def Zej(t:SetTable)(es:Array (Int×Value))(n:Nat):Rise (relayAll t es n).2.1.place.toList/\(relayAll t es n).2.1.led=t.led:=by
 unfold relayAll;split
 ·rename_i t' order e
  dsimp only;split
  ·unfold SetTable.relaid SetTable.laid at e
   cases c:SetTable.layClean (SetTable.sizeAbove n-1) (es.map (·.1)) with
   |none=>rw[c]at e;cases e
   |some owner=>
    rw[c]at e;have e:_=some (t',order):=e;simp only[Option.pure_def,Option.bind_eq_bind,Option.bind_some,Option.some.injEq,Prod.mk.injEq]at e;obtain⟨rfl,_⟩:=e;exact⟨Zmr (λj=>owner.getD j none) _,Y⟩
  ·exact⟨Q7 _,Y⟩
 ·exact⟨Q7 _,Y⟩
def WSet(P:Program)(w:World)(h:Heap)(a:Addr)(ks:List Int):Prop:=
 ∃(o:Obj)(es:Array (Int×Value))(ep:Nat)(t:SetTable)(o8:List Int),h.get? a=some o/\o.ExactSet/\o.data=.set es ep t/\ElemsOf (intKind P w) es.toList/\IntsAre (es.toList.map (·.2)) o8/\o8.Perm ks/\
  es.size<scanBound/\t.fits es.size=true/\Rise t.place.toList/\(w.params.followText "set-order"=true\/t.led=true)
theorem Zdt{k:Int}:∀{es:List (Int×Value)}{ks:List Int},IntsAre (es.map (·.2)) ks->((∃e∈es,Value.isInt k e.2=true) ↔ k∈ks)
 |[],ks,h=>by
  cases h;refine⟨λzz41=>?_,λhk=>absurd hk not_mem_nil⟩;obtain⟨e,he,_⟩:=zz41;exact absurd he not_mem_nil
 |(hh,v)::es,ks,h=>by
  have h:IntsAre (v::es.map (·.2)) ks:=h
  cases h with
  | @cons _ ns n t hr=>
   have ih:=Zdt (k:=k) hr;constructor
   ·rintro⟨e,he,hi⟩
    rcases Ar he with rfl|he
    ·obtain⟨t',e'⟩:=Value.isInt_shape hi
     cases e';exact mem_cons_self
    ·exact mem_cons_of_mem _ (ih.mp ⟨e,he,hi⟩)
   ·intro hk
    rcases Ar hk with rfl|hk
    ·exact⟨_,mem_cons_self,by simp[Value.isInt]⟩
    ·obtain⟨e,he,hi⟩:=ih.mpr hk
     exact⟨e,mem_cons_of_mem _ he,hi⟩
def Ul:∀{us vs:List Value},us.Perm vs->∀{ks:List Int},IntsAre vs ks->∃o8,IntsAre us o8/\o8.Perm ks:=by
 intro us vs p
 induction p with
 |nil=>intro ks h;exact⟨ks,h,.refl _⟩
 |cons x p ih=>
  intro ks h
  cases h with
  |cons n t hr=>
   obtain⟨o8,h1,h2⟩:=ih hr;exact⟨n::o8,.cons n t h1,h2.cons n⟩
 |swap x y l=>
  intro ks h
  cases h with
  |cons n t hr=>
   cases hr with
   |cons m u hr=>exact⟨m::n::_,.cons m u (.cons n t hr),.swap n m _⟩
 |trans p q ihp ihq=>
  intro ks h;obtain⟨k1,h1,h2⟩:=ihq h;obtain⟨k2,h3,h4⟩:=ihp h1;exact⟨k2,h3,h4.trans h2⟩
theorem Zds:∀{vs:List Value}{ks:List Int},IntsAre vs ks->∀(n:Int)(t:Tok),IntsAre (vs++[.int n t]) (ks++[n])
 |_,_,.nil,n,t=>.cons n t .nil
 |_,_,.cons m u h,n,t=>.cons m u (Zds h n t)
section
variable{P:Program}{w:World}{A:Around}{E:Value->Shared->Prop}{s:Shared}
def WSet.lt{h:Heap}{a:Addr}{ks:List Int}(x:WSet P w h a ks):a<h.objs.size:=by obtain⟨o,_,_,_,_,ho,_⟩:=x;exact Ao ho
def WSet.kept{h h':Heap}{a:Addr}{ks:List Int}(x:WSet P w h a ks)(k:∀o,h.get? a=some o->h'.get? a=some o):WSet P w h' a ks:=by
 obtain⟨o,es,ep,t,o8,ho,r,r1,r2,r3,r4,r5,r6,r7,r8⟩:=x;exact⟨o,es,ep,t,o8,k _ ho,r,r1,r2,r3,r4,r5,r6,r7,r8⟩
def Ze0{h:Heap}{a:Addr}{o:Obj}{es:Array (Int×Value)}{ep:Nat}{t:SetTable}(ho:h.get? a=some o)(hd:o.data=.set es ep t)(yq:Array (Int×Value))(t':SetTable):
  (h.update a (Obj.putSet yq t')).get? a=some {o with data:=.set yq (ep+1) t' }:=by
 have q:=putSet_of yq t' hd;rw[<-q];exact Heap.get?_update_self _ ho (by rw[q];rfl)
def Znz{a:Addr}{k:Int}{tk:Tok}{ks:List Int}{Q:Bool->Shared->Prop}(hS:WSet P w s.heap a ks)(room:ks.length+1<scanBound)
  (h:∀h',Heap.SameBut a s.heap h'->WSet P w h' a (step_dedup ks k)->Q (!ks.any (·==k)) {s with heap:=h' }):
  wpAny (aa:) A (setAddHashed a (.int k tk) ((intKind P w).hash k)) Q E s:=by
 obtain⟨o,es,ep,t,ns,ho,ex,od,el,hI,pm,lt,ft,rs,ld⟩:=id hS;have ik:(intKind P w).is k (.int k tk)=true:=intKind_is _ _ _ _;have hmem:=(Zdt (k:=k) hI).trans pm.mem_iff;have sz:es.size=ks.length:=by rw[<-pm.length_eq,<-hI.length,Ab,Array.length_toList]
 have m9:∀(b:Bool){s₁:Shared}{R:Unit->Shared->Prop},R () s₁->wpAny (aa:) A (match b with|true=>rule "set.scan.the-table-gave-way"|false=>pure ()) R E s₁:=λb s₁ R q=>by
  cases b
  ·exact wpAny_pure q
  ·exact wpAny_rule q
 unfold setAddHashed setAddHashedIn;refine wpAny_holding ?_;refine Al (wpAny_setState_of ho od ft ?_);dsimp only;rw[byScan_of (x:=.int k tk) rfl lt el,if_pos rfl];unfold setAddByScan;refine Al (Al (wpAny_rule (Al (wpAny_setScan_of ik ho od ft el ?_))))
 cases c:List.findIdx? (λe=>(intKind P w).is k e.2) es.toList with
 |some j=>
  obtain⟨hj,pj,_⟩:=findIdx?_eq_some_iff_getElem.mp c;have yes:ks.any (·==k)=true:=any_eq_true.mpr ⟨k,hmem.mp ⟨es.toList[j],getElem_mem hj,pj⟩,beq_self_eq_true _⟩;have z:=h s.heap (Heap.SameBut.refl a s.heap) (by unfold step_dedup;rw[if_pos yes];exact hS);rw[yes]at z;exact wpAny_pure (wpAny_pure z)
 |none=>
  have no:ks.any (·==k)=false:=by
   rw[any_eq_false];intro x hx z;obtain⟨e,he,hi⟩:=hmem.mpr (show k∈ks by rw[<-(beq_iff_eq.mp z)];exact hx);exact absurd (show(intKind P w).is k e.2=true from hi) (by rw[findIdx?_eq_none_iff.mp c e he];decide)
  rw[no,show step_dedup ks k=ks++[k] by unfold step_dedup;rw[no];rfl]at h;have g1:=layNew_perm t es ((intKind P w).hash k) (.int k tk);have g2:=layNew_fits t es ((intKind P w).hash k) (.int k tk);have g3:=Zif es ((intKind P w).hash k) (.int k tk) rs;dsimp only;generalize layNew t es ((intKind P w).hash k) (.int k tk)=lay at g1 g2 g3⊢;obtain⟨ua,t1,du,gv⟩:=lay;dsimp only at g1 g2 g3⊢;have p1:ua.toList.Perm (es.toList++[((intKind P w).hash k,Value.int k tk)]):=by rw[<-Array.toList_push];exact g1
  have el1:=(el.push ik rfl).perm p1;have lt1:ua.size<scanBound:=by
   have:=p1.length_eq
   rw[Ae,Array.length_toList,Array.length_toList,At]at this
   omega
  have ld1:w.params.followText "set-order"=true\/t1.led=true:=by rw[g3.2];exact ld
  obtain⟨n1,i1,i2⟩:=Ul (p1.map (·.2)) (show IntsAre ((es.toList++[((intKind P w).hash k,Value.int k tk)]).map (·.2)) (ns++[k]) by rw[Aj];exact Zds hI k tk);replace i2:=i2.trans (pm.append_right [k]);refine Al (m9 _ ?_);rw[hashByValue_scannable 8 (x:=.int k tk) rfl,show plainKind (.int k tk)=true from rfl,ite_self];refine Al (as:)
  try rw[if_pos rfl]
  refine Al (wpAny_storeSet_of ho od ?_ (fits_of_scanBound lt1));have o1:=Ze0 ho od ua t1;have s1:=Heap.SameBut.update s.heap a (Obj.putSet ua t1);split
  ·have q1:=relayAll_perm t1 ua (SetTable.grown ua.size)
   have q2:=relayAll_fits t1 ua (SetTable.grown ua.size);have q3:=Zej t1 ua (SetTable.grown ua.size);generalize relayAll t1 ua (SetTable.grown ua.size)=rl at q1 q2 q3⊢;obtain⟨es2,t2,g2⟩:=rl;dsimp only at q1 q2 q3⊢;have lt2:es2.size<scanBound:=by rw[<-Array.length_toList,q1.length_eq,Array.length_toList];exact lt1
   obtain⟨n2,j1,j2⟩:=Ul (q1.map (·.2)) i1;refine Al (m9 _ (Al (wpAny_storeSet_of o1 Y ?_ (fits_of_scanBound lt2))));exact wpAny_pure (wpAny_pure (h _ (s1.trans (Heap.SameBut.update _ a _)) ⟨_,es2,_,t2,n2,Ze0 o1 Y es2 t2,ex,Y,el1.perm q1,j1,j2.trans i2,lt2,q2,q3.1,by rw[q3.2];exact ld1⟩))
  ·exact wpAny_pure (wpAny_pure (h _ s1 ⟨_,ua,_,t1,n1,o1,ex,Y,el1,i1,i2,lt1,g2,g3.1,ld1⟩))
noncomputable def set0(w:World):Obj:={cls:=.type "set",dict:=none,data:=.set #[] 0 (.fresh 0 0 (!w.params.followText "set-order"))}
def Zr3{h:Heap}{a:Addr}(e:h.get? a=some (set0 w)):WSet P w h a []:=by
 refine⟨_,#[],0,_,[],e,⟨Y,Y,Y⟩,Y,λe he=>by simp at he,.nil,.refl _,by decide,by rfl,List.Pairwise.nil,?_⟩;show w.params.followText "set-order"=true\/(!w.params.followText "set-order")=true;cases w.params.followText "set-order"
 ·exact .inr Y
 ·exact .inl Y
def Zrh{x:Value}{Q:Value->Shared->Prop}(h:Q (C:) {s with heap:=s.heap.push (set0 w)}):codeAny (aa:) A (.call (.builtin "set.__new__") ⟨[.type "set",x],[]⟩) (wants Q E) s:=by
 refine codeAny_call_builtin_code (plainId_quiet PySem.F.plain_set_new _) (wpAny_of_eq (PySem.F.newCall_set_1 x) (codeAny_builtin PySem.F.entry_set_new ?_));rw[Around.under_plainId PySem.F.plain_set_new _];unfold Builtin.«set.__new__» Builtin.Frozenset.newClass;have hsub:=sub_set_self;obtain⟨hp,g,d,tk,os⟩:=s
 wp_walk
 refine wpAny_askSetting (as:);simp only[newObj];exact Al (wpAny_alloc (wpAny_pure (wpAny_pure h)))
variable{R:Result->Shared->Prop}{I:Addr}{fp wr:List Addr}{G:Array GenState->Array GenState->Prop}{n:Nat}{Pv:Nat->Value->Prop}{St:Nat->Shared->Prop}
def Zpl(W:WalksS P w A.in1 I fp wr G n Pv St){S:Addr}(hS:S∉fp){val:Nat->Int}(hv:∀i v,Pv i v->∃t,v=.int (val i) t)(hb:n+1<scanBound):∀(k i:Nat)(s:Shared),n-i=k->i<=n->St i s->WSet P w s.heap S (firstMet val i) ->
   (∀s',Moved (S::wr) G s s'->WSet P w s'.heap S (firstMet val n)->R (.ok (.ret .none)) s')->codeAny (aa:) A (.builtin "set.update.loop" ⟨[.ref S,.ref I],[]⟩) R s:=by
 have hw:S∉wr:=λz=>hS (W.sub _ z);have mn:∀b∈wr,b∈S::wr:=λb hb=>mem_cons_of_mem _ hb;intro k
 induction k with
 |zero=>
  intro i s hk hi st ws m9;obtain rfl:i=n:=by lia
  refine codeAny_builtin PyProof.Rows.F.entry_set_update_loop ?_;rw[Around.under_plainId PyProof.Rows.F.plain_set_update_loop _];show wpAny _ A.in1 (pyNext (.ref I)>>=_) _ _ s;exact Al (W.done s _ _ st λs' hm=>wpAny_pure (m9 s' (hm.mono mn) (ws.kept λo e=>hm.heap S o hw e)))
 |succ k ih=>
  intro i s hk hi st ws m9;have lt:i<n:=by lia
  refine codeAny_builtin PyProof.Rows.F.entry_set_update_loop ?_;rw[Around.under_plainId PyProof.Rows.F.plain_set_update_loop _];show wpAny _ A.in1 (pyNext (.ref I)>>=_) _ _ s;refine Al (W.item i s _ _ lt st λv s1 hP vi hm=>?_);obtain⟨t,rfl⟩:=hv i v hP;have ws1:WSet P w s1.heap S (firstMet val i):=ws.kept λo e=>hm.heap S o hw e;show wpAny _ A.in1 (holding [Value.int (val i) t] (setAdd S (.int (val i) t))>>=_) _ _ s1;have hl:=firstMet_length_le val i;unfold setAdd;refine Al (wpAny_holding (wpAny_holding (Al ((intKind P w).pyHash (k:=val i) (intKind_is _ _ _ _) (Znz (s:={s1 with toks:=s1.toks+1}) ws1 (by lia) λh' sb ws2=>?_)))));rw[<-firstMet_succ]at ws2;have ot:∀b o,b≠S->s1.heap.get? b=some o->h'.get? b=some o:=λb o hb e=>by rw[sb.2 b hb];exact e
  refine wpAny_pure ⟨plainId_quiet PyProof.Rows.F.plain_set_update_loop _,ih (i+1) _ (by lia) lt (W.frame _ s1 _ _ vi (le_succ _) λb hb o e=>ot b o (λz=>hS (z▸hb)) e) ws2 λs3 hm3 ws3=>?_⟩;exact m9 s3 (Moved.trans W.gtrans ((hm.mono mn).then_heap (le_succ _) λb o hb e=>ot b o (λz=>hb (z▸mem_cons_self)) e) hm3) ws3
set_option maxHeartbeats 8000000 in
def Zhx{l:Addr}{its:Array Value}{ns:List Int}{Q:Value->Shared->Prop}(hh:A.handled=none)(hl:s.heap.IsList l its)(hi:IntsAre its.toList ns)(hb:its.size+1<scanBound)
  (h:∀(h':Heap)(tk:Nat),WSet P w h' s.heap.objs.size (firstMet (λi=>ns.getD i 0) its.size)->(a4:)->Q (C:) {s with heap:=h',toks:=tk}):
  wpAny (aa:) A (call (.type "set") [.ref l]) Q E s:=by
 obtain⟨c,tl,hmro⟩:=PySem.F.called_set.mro;have hmade:=PySem.F.called_set.made;have hsub:=PySem.F.called_set.sub;have h1:=PySem.F.called_set.notType;have h2:=PySem.F.called_set.canCreate;have hct:=PySem.F.typeCall_set_1 (.ref l);refine wpAny_call (codeAny_of_tree (wpAny_pure ⟨Code.quiet_builtin _ (n:),codeAny_builtin PySem.F.entry_type_call ?_⟩));rw[Around.under_plain (weight_type_call_type "set" [.ref l] []) rfl]
 repeat (any_goals (first|assumption|wp_step))
 refine codeAny_mono (Zrh (E:=E) (x:=.ref l) (Q:=λv s₁=>v=.ref s.heap.objs.size/\s₁={s with heap:=s.heap.push (set0 w)}) ⟨Y,Y⟩) λr s₁ hr=>?_
 cases r with
 |error e=>exact hr
 |ok fl=>
  cases fl with
  |ret v=>
   obtain⟨rfl,rfl⟩:=hr;have e0:(s.heap.push (set0 w)).get? s.heap.objs.size=some (set0 w):=Ap _ rfl;have hT:Shared.TypeIs {s with heap:=s.heap.push (set0 w)} (C:) "set":=⟨_,e0,rfl⟩;have hli:=PySem.F.called_set.init.lookup;have hbi:=PySem.F.called_set.init.bind (C:)
   repeat (any_goals (first|assumption|wp_step))
   refine codeAny_mono (codeAny_call_builtin (R:=wants (λr s₂=>r=.none/\∃ h' tk,s₂={ s with heap:=h',toks:=tk }/\WSet P w h' s.heap.objs.size (firstMet (λi=>ns.getD i 0) its.size)/\∀ b o,s.heap.get? b=some o->h'.get? b=some o) E)
    PySem.F.called_set.init.plain PySem.F.entry_set_init (check_set_init_1 hT ?_)) λr₂ s₂ hr₂=>?_
   ·obtain⟨ol,uo,hcl,nl,sv⟩:=id hl
    have ll:l<s.heap.objs.size:=Ao uo;obtain⟨ocls,odict,odata,zm⟩:=ol;simp only at hcl sv;subst hcl;subst sv;have hol':(s.heap.push (set0 w)).get? l=some {cls:=.type "list",dict:=odict,data:=.seq its nl,slots:=zm}:=Ak _ uo;have k1:=PySem.F.sub_list_set;have k2:=PySem.F.sub_list_frozenset;have k3:(Value.type "list"==Value.type "dict")=false:=by decide
    have n8:(s.heap.push (set0 w)).IsList l its:=⟨_,hol',rfl,nl,rfl⟩;unfold Builtin.«set.__init__» noKeywords Builtin.Frozenset.updateFrom;generalize hPI:pyIter=PI;unfold set0 at e0 hol' n8 hT⊢
    wp_walk
    subst hPI;refine wpAny_pyIter_list n8 (Al (wpAny_runValue ?_));have hs:(s.heap.push (set0 w)).objs.size=s.heap.objs.size+1:=Heap.size_push ..;unfold set0 at hs;refine Zpl ((Walks.list (show A.in1.in1.in1.handled=none by simp[hh]) _ l (by rw[hs];exact As (lt_succ_of_lt ll)) its).toS) (S:=s.heap.objs.size) (by rw[hs];simp only[mem_cons,not_mem_nil,or_false,not_or];exact⟨As (lt_succ_self _),Nat.ne_of_gt ll⟩) (val:=λi=>ns.getD i 0)
     (λi v hv=>PyProof.Rows.IntsAre.int_at hi i v (by rw[Array.getElem?_toList];exact hv)) hb (its.size-0) 0 _ (by lia) (Az _)
     ⟨⟨_,Ap _ rfl,rfl,rfl⟩,(n8.push _)⟩ (Zr3 (Ak _ e0)) λs' hm ws=>?_
    obtain⟨h',g',d',zn,os'⟩:=s';obtain rfl:g'=s.gens:=hm.gens;obtain rfl:d'=s.drawn:=hm.drawn;obtain rfl:os'=s.os:=hm.os;refine wpAny_pure (wpAny_pure ⟨Y,h',zn,Y,ws,λb o e=>?_⟩);have hb:=Ao e;refine hm.heap b o ?_ (Ak _ (Ak _ e));rw[hs];simp only[mem_cons,not_mem_nil,or_false,not_or];exact⟨As hb,As (lt_succ_of_lt hb)⟩
   ·cases r₂ with
    |error e=>exact hr₂
    |ok fl₂=>
     cases fl₂ with
     |ret r=>
      obtain⟨rfl,h',tk,rfl,ws,kp⟩:=hr₂
      repeat (any_goals (first|assumption|wp_step))
      exact h _ _ ws kp
     |_=>exact hr₂.elim
  |_=>exact hr.elim
end
end L2
namespace PySem.F
def sti_next:Slot "set_iterator" "__next__" "set_iterator.__next__":=
 .of (owner:="set_iterator") (n:="__next__") (by rw[typeLookup_type,builtinLookup_eq_fast];kernel_rfl) (n:) (n:) (n:) (by first|exact .inl (n:)|exact .inr (n:)) (by rw[isSubtype_type];kernel_rfl)
def sti_entry:entryFor table "set_iterator.__next__"=some Builtin.«set_iterator.__next__»:=entryFor_of_tree (by kernel_rfl)
def sti_args(a:Value):argsOk "set_iterator.__next__" ⟨[a],[]⟩:=by unfold argsOk;kernel_rfl
def st_iter_entry:entryFor table "set.__iter__"=some Builtin.«frozenset.__iter__»:=entryFor_alias (id':="frozenset.__iter__") (by kernel_rfl) rfl (n:) (by kernel_rfl)
def sti_iter:Slot "set_iterator" "__iter__" "set_iterator.__iter__":=
 .of (owner:="set_iterator") (n:="__iter__") (by rw[typeLookup_type,builtinLookup_eq_fast];kernel_rfl) (n:) (n:) (n:) (by first|exact .inl (n:)|exact .inr (n:)) (by rw[isSubtype_type];kernel_rfl)
def sti_iter_entry:entryFor table "set_iterator.__iter__"=some Builtin.«dict_keyiterator.__iter__»:=entryFor_alias (id':="dict_keyiterator.__iter__") (by kernel_rfl) rfl (n:) (by kernel_rfl)
def sti_iter_args(a:Value):argsOk "set_iterator.__iter__" ⟨[a],[]⟩:=by unfold argsOk;kernel_rfl
end PySem.F
namespace L2
open PySem PySem.Spec PyProof.Rows
theorem Oy{α:Type}:∀{l:List α}{i:Nat}(hi:i<l.length),(l[i]::l.eraseIdx i).Perm l
 |a::l,0,_=>.refl _
 |a::l,i+1,hi=>(List.Perm.swap ..).trans ((Oy (l:=l) (lt_of_succ_lt_succ hi)).cons a)
theorem Zi2{α:Type}{next:Nat->Nat}:∀(on k:Nat)(left:List α)(out:Array α),left.length<=on->∃r,(pickOrder.go next on k left out).toList=out.toList++r/\r.Perm left
 |0,k,left,out,h=>by
  have:left=[]:=eq_nil_of_length_eq_zero (by lia);subst this;exact⟨[],by unfold pickOrder.go;simp,.nil⟩
 |on+1,k,left,out,h=>by
  unfold pickOrder.go
  cases left with
  |nil=>exact⟨[],by simp,.nil⟩
  |cons a l=>
   have hi:next k%(a::l).length<(a::l).length:=mod_lt _ (by simp)
   generalize next k%(a::l).length=i at hi
   rw[Ac hi];dsimp only;obtain⟨r,h1,h2⟩:=Zi2 (next:=next) on (k+1) ((a::l).eraseIdx i) (out.push (a::l)[i]) (by rw[length_eraseIdx_of_lt hi];lia);refine⟨(a::l)[i]::r,by rw[h1,Array.toList_push,append_assoc];rfl,?_⟩;exact(h2.cons _).trans (Oy hi)
def Zdl{α:Type}(next:Nat->Nat)(xs:Array α):(pickOrder next xs).toList.Perm xs.toList:=by
 obtain⟨r,h1,h2⟩:=Zi2 (next:=next) xs.size 0 xs.toList #[] (by simp);have:(pickOrder next xs).toList=r:=h1;rw[this];exact h2
section
variable{P:Program}{w:World}{A:Around}{E:Value->Shared->Prop}{s:Shared}
def Zk1{src:Source}{n:Nat}{Q:Nat->Shared->Prop}(hn:n≠0)(h:∀i,i<n->Q i {s with drawn:=s.drawn.bump src}):wpAny (aa:) A (choose src n) Q E s:=λ_ _ _=>⟨hn,h _ (mod_lt _ (Nat.pos_of_ne_zero hn))⟩
theorem Zdw{α:Type}:∀(n:Nat)(l:List α)(s:Shared)(Q:List α->Shared->Prop),l.length<=n->(∀r d',r.Perm l->Q r {s with drawn:=d' })->wpAny (aa:) A (drawOrder n l) Q E s
 |0,l,s,Q,hl,h=>by
  have:l=[]:=eq_nil_of_length_eq_zero (by lia);subst this;exact wpAny_pure (h [] s.drawn .nil)
 |n+1,[],s,Q,hl,h=>wpAny_pure (h [] s.drawn .nil)
 |n+1,a::l,s,Q,hl,h=>by
  unfold drawOrder;refine Al (Zk1 (by simp) λi hi=>?_);rw[Ac hi];refine Al (Zdw n _ _ _ (by rw[length_eraseIdx_of_lt hi];lia) λr d' pr=>wpAny_pure (h _ d' ?_));exact(pr.cons _).trans (Oy hi)
noncomputable def X4(fst:Value)(i:Nat)(a:Addr)(n ep:Nat):Obj:={cls:=.type "set_iterator",data:=.fields #[fst,.int i 0,.ref a,.int n 0,.int ep 0]}
def Zjx{h:Heap}{I a:Addr}{f g:Value}{i j n ep:Nat}(ho:h.get? I=some (X4 f i a n ep)):
  ((h.update I (Obj.mapFields (·.setIfInBounds 0 g))).update I (Obj.mapFields (·.setIfInBounds 1 (.int j 0)))).get? I=some (X4 g j a n ep):=by
 have h1:=Heap.get?_update_self (Obj.mapFields (·.setIfInBounds 0 g)) ho rfl;exact Heap.get?_update_self (Obj.mapFields (·.setIfInBounds 1 (.int j 0))) h1 Y
def Zjy{h:Heap}{I a:Addr}{f:Value}{i j n ep:Nat}(ho:h.get? I=some (X4 f i a n ep)):
  (h.update I (Obj.mapFields (·.setIfInBounds 1 (.int j 0)))).get? I=some (X4 f j a n ep):=Heap.get?_update_self (Obj.mapFields (·.setIfInBounds 1 (.int j 0))) ho rfl
def Zn4{I a:Addr}{o:Obj}{es:Array (Int×Value)}{ep:Nat}{t:SetTable}{i sl sl':Nat}{x:Value}{Q:Option Value->Shared->Prop}(hI:s.heap.get? I=some (X4 (.int sl 0) i a es.size ep))(ho:s.heap.get? a=some o)(hd:o.data=.set es ep t)(hf:t.fits es.size=true)
  (nx:∀(B:Around)(F:Value->Shared->Prop)(R:Option (Value×Nat)->Shared->Prop),R (some (x,sl')) s->wpAny (aa:) B (setNext a sl i ep) R F s)
  (h:∀h',h'.get? I=some (X4 (.int sl' 0) (i+1) a es.size ep)->Heap.SameBut I s.heap h'->Q (some x) {s with heap:=h' }):wpAny (aa:) A (pyNext (.ref I)) Q E s:=by
 have hT:s.TypeIs (.ref I) "set_iterator":=⟨_,hI,rfl⟩;unfold pyNext;refine Al (bw:);unfold Builtin.«set_iterator.__next__»;refine Al (m:=slotArgs "__next__" 0 _) (as:);refine Al (wpAny_fieldsOf hI Y ?_);dsimp only;refine Al (wpAny_setEntries_of ho hd hf ?_);rw[if_neg (by simp)];refine Al (nx _ _ _ ?_);refine Al (wpAny_setField (x:=rawInt sl') hI Y (by simp) ?_);have h1:=Heap.get?_update_self (Obj.mapFields (·.setIfInBounds 0 (rawInt sl'))) hI rfl;refine Al (wpAny_setField (x:=rawInt ((i:Int)+1)) h1 Y (by simp) ?_);exact wpAny_pure ⟨_,Y,wpAny_pure (h _ (Zjx hI) ((Heap.SameBut.update ..).trans (Heap.SameBut.update ..)))⟩
def Ze5{I:Addr}{ob:Obj}{vs:Array Value}{Q:Fin->Shared->Prop}(hh:A.handled=none)(hI:s.heap.get? I=some ob)(hd:ob.data=.fields vs)(hz:2<vs.size)(h:∀h' e,Heap.ExtBut I s.heap h'->(∃o,h'.get? e=some o/\o.cls=.type "StopIteration")->E (.ref e) {s with heap:=h' }):
  wpAny (aa:) A (do setField (.ref I) 2 .none;raiseNew (<- newExc (.type "StopIteration") []):Sem Fin) Q E s:=by
 refine Al (wpAny_setField hI hd hz ?_);simp only[newExc,newTuple];refine Al (Al (wpAny_newObj_type ?_ (by size_fits)));refine Al (m:=firstArgMember _ _) (wpAny_of_eq (a:=Value.none) (by first|rfl|(simp only[firstArgMember];rfl)) ?_);refine wpAny_newObj_type ?_ (by size_fits);refine wpAny_raiseNew_none hh (h _ _ (((Heap.SameBut.update ..).extBut.push _).push _) ⟨_,Ap _ Y,Y⟩)
def Zn5{I a:Addr}{o:Obj}{es:Array (Int×Value)}{ep:Nat}{t:SetTable}{i sl:Nat}{Q:Option Value->Shared->Prop}(hh:A.handled=none)(hI:s.heap.get? I=some (X4 (.int sl 0) i a es.size ep))(ho:s.heap.get? a=some o)(hd:o.data=.set es ep t)(hf:t.fits es.size=true)
  (nx:∀(B:Around)(F:Value->Shared->Prop)(R:Option (Value×Nat)->Shared->Prop),R none s->wpAny (aa:) B (setNext a sl i ep) R F s)
  (h:∀h',Heap.ExtBut I s.heap h'->Q none {s with heap:=h' }):wpAny (aa:) A (pyNext (.ref I)) Q E s:=by
 have hT:s.TypeIs (.ref I) "set_iterator":=⟨_,hI,rfl⟩;unfold pyNext;refine Al (bw:);unfold Builtin.«set_iterator.__next__»;refine Al (m:=slotArgs "__next__" 0 _) (as:);refine Al (wpAny_fieldsOf hI Y ?_);dsimp only;refine Al (wpAny_setEntries_of ho hd hf ?_);rw[if_neg (by simp)];refine Al (nx _ _ _ ?_);dsimp only;refine Ze5 (A:=A.in1) hh hI Y (by simp) λh' e ex me=>?_;obtain⟨ob,he,hc⟩:=me;refine Al (wpAny_isInstance (T:="StopIteration") (b:=true) ⟨ob,he,hc⟩ isSubtype_stop ?_);exact wpAny_pure (h _ ex)
def Zn6{I a T:Addr}{o:Obj}{es:Array (Int×Value)}{ep:Nat}{t:SetTable}{i p:Nat}{ob:Obj}{ps:Array Value}{c:Nat}{tk:Tok}{e:Int×Value}{Q:Option Value->Shared->Prop}(hI:s.heap.get? I=some (X4 (.ref T) i a es.size ep))(ho:s.heap.get? a=some o)(hd:o.data=.set es ep t)(hf:t.fits es.size=true)
  (hT:s.heap.get? T=some ob) (xp:ob.data=.seq ps c) (hp:ps[i]?=some (.int p tk)) (he:es[p]?=some e)
  (h:∀h',h'.get? I=some (X4 (.ref T) (i+1) a es.size ep)->Heap.SameBut I s.heap h'->Q (some e.2) {s with heap:=h' }):wpAny (aa:) A (pyNext (.ref I)) Q E s:=by
 have hTy:s.TypeIs (.ref I) "set_iterator":=⟨_,hI,rfl⟩;unfold pyNext;refine Al (bs:);unfold Builtin.«set_iterator.__next__»;refine Al (m:=slotArgs "__next__" 0 _) (as:);refine Al (wpAny_fieldsOf hI Y ?_);dsimp only;refine Al (wpAny_setEntries_of ho hd hf ?_);rw[if_neg (by simp)];refine Al (wpAny_seqItems hT xp ?_);dsimp only;rw[show((i:Int)).toNat=i from Int.toNat_natCast i,hp];dsimp only;refine Al ?_;unfold setNextDrawn;refine Al (wpAny_setState_of ho hd hf ?_);dsimp only;rw[if_neg (by simp),show((p:Int)).toNat=p from Int.toNat_natCast p,he];refine wpAny_pure ?_;refine Al (wpAny_setField (x:=rawInt ((i:Int)+1)) hI Y (by simp) ?_);exact wpAny_pure ⟨_,Y,wpAny_pure (h _ (Zjy hI) (Heap.SameBut.update ..))⟩
def Zn7{I a T:Addr}{o:Obj}{es:Array (Int×Value)}{ep:Nat}{t:SetTable}{i:Nat}{ob:Obj}{ps:Array Value}{c:Nat}{Q:Option Value->Shared->Prop}(hh:A.handled=none)(hI:s.heap.get? I=some (X4 (.ref T) i a es.size ep))(ho:s.heap.get? a=some o)(hd:o.data=.set es ep t)(hf:t.fits es.size=true)
  (hT:s.heap.get? T=some ob) (xp:ob.data=.seq ps c) (hp:ps[i]?=none)
  (h:∀h',Heap.ExtBut I s.heap h'->Q none {s with heap:=h' }):wpAny (aa:) A (pyNext (.ref I)) Q E s:=by
 have hTy:s.TypeIs (.ref I) "set_iterator":=⟨_,hI,rfl⟩;unfold pyNext;refine Al (bs:);unfold Builtin.«set_iterator.__next__»;refine Al (m:=slotArgs "__next__" 0 _) (as:);refine Al (wpAny_fieldsOf hI Y ?_);dsimp only;refine Al (wpAny_setEntries_of ho hd hf ?_);rw[if_neg (by simp)];refine Al (wpAny_seqItems hT xp ?_);dsimp only;rw[show((i:Int)).toNat=i from Int.toNat_natCast i,hp];dsimp only;refine Al (wpAny_setField (x:=rawInt 0) hI Y (by simp) ?_);have h1:=Heap.get?_update_self (Obj.mapFields (·.setIfInBounds 0 (rawInt 0))) hI rfl;refine Ze5 (s:={s with heap:=s.heap.update I (Obj.mapFields (·.setIfInBounds 0 (rawInt 0)))}) (A:=A.in1) hh h1 Y (by simp) λh' e ex me=>?_;obtain⟨ob,he,hc⟩:=me;refine Al (wpAny_isInstance (T:="StopIteration") (b:=true) ⟨ob,he,hc⟩ isSubtype_stop ?_);exact wpAny_pure (h _ λb u hb hu=>ex b u hb ((Heap.get?_update_other _ _ (Ne.symm hb)).trans hu))
def Ze6{I a:Addr}{f:Value}{i n ep:Nat}{Q:Value->Shared->Prop}(hI:s.heap.get? I=some (X4 f i a n ep))(h:Q (.ref I) s):wpAny (aa:) A (pyIter (.ref I)) Q E s:=by
 have hT:s.TypeIs (.ref I) "set_iterator":=⟨_,hI,rfl⟩;refine wpAny_pyIter_slot hT PySem.F.sti_iter (wpAny_call_entry PySem.F.sti_iter hT PySem.F.sti_iter_entry ?_ (PySem.F.sti_iter_args _));exact wpAny_pure ⟨_,Y,"set_iterator",_,hT,PySem.F.sti_next.lookup,h⟩
def Zmn{a:Addr}{o:Obj}{es:Array (Int×Value)}{ep:Nat}{t:SetTable}{i sl:Nat}{R:Option (Value×Nat)->Shared->Prop}(ho:s.heap.get? a=some o)(hd:o.data=.set es ep t)(hf:t.fits es.size=true)(hb:w.params.followText "set-order"=true)
  (h:R (((pickOrder (w.params.setOrder a ep) es)[i]?).map λe=>(e.2,sl)) s):wpAny (aa:) A (setNext a sl i ep) R E s:=by
 unfold setNext setsByText;refine Al (wpAny_setState_of ho hd hf ?_);dsimp only;refine Al (Al (wpAny_askSetting (as:)));show wpAny _ _ (if w.params.followText "set-order"=true then _ else _) _ _ _;rw[if_pos hb,if_neg (by simp)];unfold setWalk setsByText;refine Al (Al (wpAny_setState_of ho hd hf ?_));dsimp only;refine Al (Al (wpAny_askSetting (as:)));show wpAny _ _ (if w.params.followText "set-order"=true then _ else _) _ _ _;rw[if_pos hb];exact Al (wpAny_askSetting (wpAny_pure (wpAny_pure h)))
def Zki{a:Addr}{o:Obj}{es:Array (Int×Value)}{ep:Nat}{t:SetTable}{i sl:Nat}{R:Option (Value×Nat)->Shared->Prop}(ho:s.heap.get? a=some o)(hd:o.data=.set es ep t)(hf:t.fits es.size=true)(hb:w.params.followText "set-order"=false)(hl:t.led=true)(hp:(!t.plain&&decide (es.size>1))=false)
  (h:R (match es[SetTable.below t.place sl]?,t.place[SetTable.below t.place sl]? with|some (_,x),some j=>some (x,j+1)|_,_=>none) s):wpAny (aa:) A (setNext a sl i ep) R E s:=by
 unfold setNext setsByText;refine Al (wpAny_setState_of ho hd hf ?_);dsimp only;refine Al (Al (wpAny_askSetting (as:)));show wpAny _ _ (if w.params.followText "set-order"=true then _ else _) _ _ _;rw[if_neg (by rw[hb];decide)];show wpAny _ _ (if(!t.plain&&decide (es.size>1))=true then _ else _) _ _ _;rw[if_neg (by rw[hp];decide)];refine Al ?_;show wpAny _ _ (if(!t.led&&!es.isEmpty)=true then _ else _) _ _ _;rw[if_neg (by rw[hl];simp)];exact wpAny_pure (wpAny_pure h)
def Zjb:∀{vs:List Value}{ks:List Int},IntsAre vs ks->∀(i:Nat)(v:Value),vs[i]?=some v->∃t,v=.int (ks.getD i 0) t:=λh i v e=>PyProof.Rows.IntsAre.int_at h i v e
def Zcx(hh:A.handled=none){I a:Addr}(mw:a≠I){o:Obj}{es:Array (Int×Value)}{ep:Nat}{t:SetTable}{out:List Int}{sl:Nat->Nat}{xs:List Value}(hd:o.data=.set es ep t)(hf:t.fits es.size=true)(hx:IntsAre xs out)(hl:xs.length=es.size)
  (nx:∀(i:Nat)(s:Shared)(B:Around)(F:Value->Shared->Prop)(R:Option (Value×Nat)->Shared->Prop),s.heap.get? a=some o->i<=es.size->R ((xs[i]?).map λx=>(x,sl (i+1))) s->wpAny (aa:) B (setNext a (sl i) i ep) R F s):
  Walks P w A I [I,a] [I] out.length (λi v=>∃t,v=.int (out.getD i 0) t) (λi h=>h.get? I=some (X4 (.int (sl i) 0) i a es.size ep)/\h.get? a=some o):=by
 have hlo:out.length=es.size:=by rw[<-hl];exact hx.length.symm
 refine⟨λb hb=>by simp at hb;simp[hb],λi h h' st k=>⟨k I (by simp) _ st.1,k a (by simp) _ st.2⟩,λi s Q E hi st hQ=>?_,λs Q E st hQ=>?_,λi s Q E st hQ=>Ze6 st.1 hQ⟩
 ·have yk:i<xs.length:=by lia
  have ex:=Ac yk;refine Zn4 (x:=xs[i]) (sl':=sl (i+1)) st.1 st.2 hd hf (λB F R r=>nx i s B F R st.2 (by lia) (by rw[ex];exact r)) λh' e sb=>?_;exact hQ _ h' s.toks (Zjb hx i _ ex) ⟨e,(sb.2 a mw).trans st.2⟩ λb u hb hu=>(sb.2 b (λz=>hb (by simp[z]))).trans hu
 ·rw[hlo]at st
  refine Zn5 hh st.1 st.2 hd hf (λB F R r=>nx es.size s B F R st.2 (An _) (by rw[Ay (by lia)];exact r)) λh' ex=>?_;exact hQ h' s.toks λb u hb hu=>ex b u (λz=>hb (by simp[z])) hu
def Zhn(hh:A.handled=none){I a T:Addr}(mw:a≠I)(hTI:T≠I){o ob:Obj}{es:Array (Int×Value)}{ep c:Nat}{t:SetTable}{out:List Int}{xs:List Value}{ps:List Nat}(hd:o.data=.set es ep t)(hf:t.fits es.size=true)(hx:IntsAre xs out)(xp:ob.data=.seq (ps.map λ(p:Nat)=>rawInt p).toArray c)
  (hp:∀(i p:Nat),ps[i]?=some p->∃e,es[p]?=some e/\xs[i]?=some e.2) (hl:xs.length=ps.length):
  Walks P w A I [I,a,T] [I] out.length (λi v=>∃t,v=.int (out.getD i 0) t) (λi h=>h.get? I=some (X4 (.ref T) i a es.size ep)/\h.get? a=some o/\h.get? T=some ob):=by
 have hlo:out.length=ps.length:=by rw[<-hl];exact hx.length.symm
 refine⟨λb hb=>by simp at hb;simp[hb],λi h h' st k=>⟨k I (by simp) _ st.1,k a (by simp) _ st.2.1,k T (by simp) _ st.2.2⟩,λi s Q E hi st hQ=>?_,λs Q E st hQ=>?_,λi s Q E st hQ=>Ze6 st.1 hQ⟩
 ·have ep':=Ac (show i<ps.length by lia)
  obtain⟨e,he,yc⟩:=hp i _ ep';refine Zn6 (p:=ps[i]) (tk:=0) (e:=e) st.1 st.2.1 hd hf st.2.2 xp (by rw[getElem?_toArray,Ah,ep'];rfl) he λh' eI sb=>?_;exact hQ _ h' s.toks (Zjb hx i _ yc) ⟨eI,(sb.2 a mw).trans st.2.1,(sb.2 T hTI).trans st.2.2⟩ λb u hb hu=>(sb.2 b (λz=>hb (by simp[z]))).trans hu
 ·refine Zn7 hh st.1 st.2.1 hd hf st.2.2 xp (by rw[getElem?_toArray,Ah,Ay (by lia)];rfl) λh' ex=>?_
  exact hQ h' s.toks λb u hb hu=>ex b u (λz=>hb (by simp[z])) hu
def Zpa(hh:A.handled=none){a:Addr}{ks:List Int}{Q:Value->Shared->Prop}(hS:WSet P w s.heap a ks)
  (h:∀ (I:Addr) (h1:Heap) (d1:Drawn) (fp:List Addr) (out:List Int) (St:Nat->Heap->Prop),out.Perm ks->(∀ b o,s.heap.get? b=some o->h1.get? b=some o)->s.heap.objs.size<=I->(∀ b∈fp,b=a\/s.heap.objs.size<=b) ->
   Walks P w A I fp [I] out.length (λi v=>∃t,v=.int (out.getD i 0) t) St->St 0 h1->Q (.ref I) {s with heap:=h1,drawn:=d1}):
  wpAny (aa:) A (pyIter (.ref a)) Q E s:=by
 obtain⟨o,es,ep,t,ns,ho,ex,hd,el,hI,pm,lt,ft,rs,ld⟩:=hS;have hT:s.TypeIs (.ref a) "set":=⟨o,ho,ex.1⟩;have la:a<s.heap.objs.size:=Ao ho;have mw:a≠s.heap.objs.size:=As la;have hsz:es.toList.map (·.2)=(es.map (·.2)).toList:=by simp
 have hps:t.place.size=es.size:=by
  simp only[SetTable.fits,Bool.and_eq_true,beq_iff_eq]at ft;exact ft.1
 refine wpAny_pyIter_slot hT PySem.F.slot_set_iter (wpAny_call_entry PySem.F.slot_set_iter hT PySem.F.st_iter_entry ?_ (PySem.F.args_set_iter_1 _));unfold Builtin.«frozenset.__iter__» Builtin.Frozenset.slot0 Builtin.Frozenset.sizeOf;refine Al (Al (m:=slotArgs "__iter__" 0 _) (wpAny_pure (as:)));refine Al (Al (wpAny_setEntries_of ho hd ft (as:)));unfold setDrawn setsByText;refine Al (Al (wpAny_setState_of ho hd ft ?_));dsimp only;refine Al (Al (wpAny_askSetting (wpAny_pure (as:))))
 have vh:(!w.params.followText "set-order" && (!t.plain && decide (es.size > 1)))=false->wpAny (aa:) A.in1 (do
   let first<-pure (rawInt 0)
   ret (<- newFields "set_iterator" [first,rawInt 0,.ref a,rawInt es.size,rawInt (<- setEpoch a)])) (λm9 s'=>∃r,m9=.done (.ret r)/\∃T',∃r',s'.TypeIs r T'/\typeLookup (.type T') "__next__"=pure (some r')/\Q r s') E s:=by
  intro nd;refine Al (wpAny_pure (Al (wpAny_setEpoch_of ho hd ft ?_)));unfold newFields;refine Al (wpAny_newObj_type (wpAny_pure ⟨_,Y,"set_iterator",_,⟨_,Ap _ rfl,rfl⟩,PySem.F.sti_next.lookup,?_⟩));have e0:(s.heap.push {cls:=.type "set_iterator",data:=.fields [rawInt 0,rawInt 0,.ref a,rawInt es.size,rawInt ep].toArray}).get? s.heap.objs.size=some (X4 (.int 0 0) 0 a es.size ep):=Ap _ rfl
  cases c:w.params.followText "set-order" with
  |true=>
   obtain⟨k2,j1,j2⟩:=Ul ((Zdl (w.params.setOrder a ep) es).map (·.2)) hI;refine h _ _ s.drawn [s.heap.objs.size,a] k2 _ (j2.trans pm) (λb u hu=>Ak _ hu) (An _) (λb hb=>?_) (Zcx (sl:=λ_=>0) hh mw hd ft j1 ?_ λi s B F R hs hi r=>Zmn hs hd ft c ?_) ⟨e0,Ak _ ho⟩
   ·rcases Ar hb with rfl|hb
    ·exact .inr (An _)
    ·exact .inl (Af hb)
   ·rw[Ab,(Zdl (w.params.setOrder a ep) es).length_eq,Array.length_toList]
   ·rw[Ah,Array.getElem?_toList,Option.map_map]at r
    exact r
  |false=>
   rw[c]at nd ld;have nd:(!t.plain&&decide (es.size>1))=false:=nd;have ld:t.led=true:=ld.resolve_left (d:);refine h _ _ s.drawn [s.heap.objs.size,a] ns _ pm (λb u hu=>Ak _ hu) (An _) (λb hb=>?_) (Zcx (sl:=λi=>if i=0 then 0 else(t.place.getD (i-1) 0)+1) hh mw hd ft hI (by rw[Ab,Array.length_toList]) λi s B F R hs hi r=>Zki hs hd ft c ld nd ?_) ⟨e0,Ak _ ho⟩
   ·rcases Ar hb with rfl|hb
    ·exact .inr (An _)
    ·exact .inl (Af hb)
   ·-- the place below is i
    have hb:SetTable.below t.place (if i=0 then 0 else(t.place.getD (i-1) 0)+1)=i\/(es.size<=SetTable.below t.place (if i=0 then 0 else(t.place.getD (i-1) 0)+1)/\i=es.size):=by
     generalize hj:(if i=0 then 0 else(t.place.getD (i-1) 0)+1)=j
     have ge:∀k,k<i->∀x,t.place[k]?=some x->x<j:=λk hk x hx=>by
      rw[if_neg (by lia)]at hj;have e1:=Array.getElem?_eq_getElem (show i-1<t.place.size by lia);have e2:t.place.getD (i-1) 0=t.place[i-1]'(by lia):=by rw[Array.getD_eq_getD_getElem?,e1];rfl
      rw[e2]at hj;by_cases z:k=i-1
      ·subst z;rw[e1]at hx;cases hx;lia
      ·have:=Uw rs hx e1 (by lia);lia
     have lt':i<=SetTable.below t.place j:=by
      rcases Nat.lt_or_ge (SetTable.below t.place j) i with z|z
      ·have e1:=Array.getElem?_eq_getElem (show SetTable.below t.place j<t.place.size by lia)
       have h1:=ge _ z _ e1;have h2:=Zar (j:=j) rs _ _ (An _) e1;lia
      ·exact z
     by_cases q:i<es.size
     ·left
      rcases Nat.lt_or_ge i (SetTable.below t.place j)with z|z
      ·have e1:=Array.getElem?_eq_getElem (show i<t.place.size by lia)
       have h1:=Zhk (j:=j) rs i _ z e1;by_cases i0:i=0
       ·rw[if_pos i0]at hj;lia
       ·rw[if_neg i0]at hj
        have e3:=Array.getElem?_eq_getElem (show i-1<t.place.size by lia);have e2:t.place.getD (i-1) 0=t.place[i-1]'(by lia):=by rw[Array.getD_eq_getD_getElem?,e3];rfl
        rw[e2]at hj;have:=Uw rs e3 e1 (by lia);lia
      ·lia
     ·exact .inr ⟨by lia,by lia⟩
    rcases hb with hb|⟨hb,rfl⟩
    ·rw[hb]
     rcases Nat.lt_or_ge i es.size with z|z
     ·have e1:=Array.getElem?_eq_getElem (show i<t.place.size by lia)
      have e2:t.place.getD (i+1-1) 0=t.place[i]'(by lia):=by rw[Array.getD_eq_getD_getElem?,Nat.add_sub_cancel,e1];rfl
      rw[Ah,Array.getElem?_toList,Array.getElem?_eq_getElem z,if_neg (by lia),e2]at r;rw[Array.getElem?_eq_getElem z,e1];exact r
     ·rw[Ah,Array.getElem?_toList,Array.getElem?_eq_none z]at r
      rw[Array.getElem?_eq_none z];exact r
    ·rw[Ah,Array.getElem?_toList,Array.getElem?_eq_none (An _)]at r
     rw[Array.getElem?_eq_none hb];exact r
 show wpAny _ _ (if(!w.params.followText "set-order"&&(!t.plain&&decide (es.size>1)))=true then _ else _) _ _ _;split
 ·-- drawn
  refine Al (Zdw _ _ _ _ (Nat.le_of_eq length_range) λr d' pr=>?_);refine Al (wpAny_newTuple ?_ (by rw[Ab,pr.length_eq,length_range];exact fits_of_scanBound lt));refine Al (wpAny_setEpoch_of (s:={s with heap:=_,drawn:=d' }) (Ak _ ho) hd ft ?_);unfold newFields;refine Al (wpAny_newObj_type (wpAny_pure ⟨_,Y,"set_iterator",_,⟨_,Ap _ rfl,rfl⟩,PySem.F.sti_next.lookup,?_⟩));have wk:=Heap.size_push s.heap {cls:=.type "tuple",data:=.seq (r.map λ(i:Nat)=>rawInt i).toArray};obtain⟨k2,j1,j2⟩:∃k2,IntsAre (r.filterMap λp=>(es[p]?).map (·.2)) k2/\k2.Perm ns:=by
   refine Ul ?_ hI
   have e1:(List.range es.size).filterMap (λp=>(es[p]?).map (·.2))=es.toList.map (·.2):=by
    have:=filterMap_getElem?_range (es.map (·.2))
    rw[Array.size_map]at this
    rw[Array.toList_map]at this
    rw[<-this]
    congr 1
    funext p
    rw[Array.getElem?_map]
   rw[<-e1]
   exact pr.filterMap _
  have u7:∀p∈r,p<es.size:=λp hp=>mem_range.mp (pr.mem_iff.mp hp)
  have vt:∀(l:List Nat),(∀p∈l,p<es.size)->(l.filterMap λp=>(es[p]?).map (·.2)).length=l.length/\∀(i p:Nat),l[i]?=some p->∃e,es[p]?=some e/\(l.filterMap λp=>(es[p]?).map (·.2))[i]?=some e.2:=λl=>by
   induction l with
   |nil=>intro _;exact⟨Y,λi p e=>by simp at e⟩
   |cons q l ih=>
    intro hq;have xn:=Array.getElem?_eq_getElem (hq q mem_cons_self);obtain⟨i1,i2⟩:=ih λp hp=>hq p (mem_cons_of_mem _ hp);rw[filterMap_cons_some (b:=(es[q]'(hq q mem_cons_self)).2) (by rw[xn];rfl)];refine⟨by rw[length_cons,length_cons,i1],λi p e=>?_⟩
    cases i with
    |zero=>cases e;exact⟨_,xn,Y⟩
    |succ i=>exact i2 i p e
  obtain⟨f1,f2⟩:=vt r u7;refine h _ _ d' [_,a,s.heap.objs.size] k2 _ (j2.trans pm) (λb u hu=>Ak _ (Ak _ hu)) (by rw[wk];exact le_succ _) (λb hb=>?_) (Zhn (T:=s.heap.objs.size) hh ?_ ?_ hd ft j1 (ob:={cls:=.type "tuple",data:=.seq (r.map λ(i:Nat)=>rawInt i).toArray}) rfl f2 f1) ⟨Ap _ rfl,Ak _ (Ak _ ho),Ak _ (Ap _ rfl)⟩
  ·rcases Ar hb with rfl|hb
   ·rw[wk];exact .inr (le_succ _)
   ·rcases Ar hb with rfl|hb
    ·exact .inl Y
    ·rw[Af hb];exact .inr (An _)
  ·rw[wk];exact As (lt_succ_of_lt la)
  ·rw[wk];exact As (lt_succ_self _)
 ·rename_i c
  exact vh (by simpa using c)
end
noncomputable def dd(ks:List Int):List Int:=ks.foldl step_dedup []
theorem Zct:∀(ks md:List Int),md.Nodup->(ks.foldl step_dedup md).Nodup/\(∀x,x∈ks.foldl step_dedup md ↔ x∈md\/x∈ks)/\(ks.foldl step_dedup md).length<=md.length+ks.length
 |[],md,h=>⟨h,λx=>by simp,by simp⟩
 |k::ks,md,h=>by
  have hs:(step_dedup md k).Nodup/\(∀x,x∈step_dedup md k ↔ x∈md\/x=k)/\(step_dedup md k).length<=md.length+1:=by
   unfold step_dedup;by_cases c:md.any (·==k)=true
   ·rw[if_pos c]
    obtain⟨y,hy,e⟩:=any_eq_true.mp c;have e:=beq_iff_eq.mp e;subst e;exact⟨h,λx=>⟨.inl,λz=>z.elim id λe=>e▸hy⟩,by lia⟩
   ·rw[if_neg c]
    have hk:k∉md:=λz=>c (any_eq_true.mpr ⟨k,z,beq_self_eq_true _⟩);refine⟨?_,λx=>by simp,by simp⟩;rw[nodup_append];refine⟨h,by simp,λa ha b hb e=>?_⟩;rw[mem_singleton]at hb;subst hb e;exact hk ha
  obtain⟨i1,i2,i3⟩:=Zct ks _ hs.1;rw[foldl_cons];refine⟨i1,λx=>?_,?_⟩
  ·rw[i2,hs.2.1,mem_cons,or_assoc]
  ·have:=hs.2.2
   rw[length_cons];lia
def Zpm(ks:List Int):(dd ks).Nodup:=(Zct ks [] nodup_nil).1
def Ztl{ks:List Int}{x:Int}:x∈dd ks ↔ x∈ks:=by
 have:=(Zct ks [] nodup_nil).2.1 x;unfold dd;simpa using this
def Zpk(ks:List Int):firstMet (λi=>ks.getD i 0) ks.length=dd ks:=by
 unfold firstMet dd;congr 1;apply ext_getElem?;intro i;rw[Ah];by_cases h:i<ks.length
 ·rw[getElem?_range h,Ac h]
  show some (ks.getD i 0)=some ks[i];rw[Ad,Ac h];rfl
 ·rw[Ay (by rw[length_range];lia),Ay (by lia)]
  rfl
section
variable{X:Cx}
def Inv.draw{j':List (j:)}{σ:List (Option V)}{H:Hp}{s:Shared}{d:Drawn}(I:Inv X j' σ H s):Inv X j' σ H {s with drawn:=d}:=⟨I.ok,I.os,I.bare,I.base,I.loc,I.cell,I.free,I.freeC,I.pin,I.hok,I.len⟩
noncomputable def setH(P:Program)(w:World)(a:Addr)(ks:List Int):HO:=.ext λh=>WSet P w h a ks
def Zso{H:Hp}{h:Heap}{a:Addr}{ks:List Int}(ws:WSet X.prog X.w h a ks):Yn X.prog X.w H h a (setH X.prog X.w a ks):=by
 refine⟨ws,?_,λh1 h2 w1 k=>w1.kept k⟩;obtain⟨o,_,_,_,_,ho,_⟩:=ws;exact⟨o,ho⟩
def Znr(hc:X.calm=true):Y6 X (.type "set") (λxs H Q=>∃(p:Addr)(ks:List Int),xs=[.ref p]/\SqL X.K H p (ks.map V.int)/\ks.length<64/\∀q:Addr,H q=none->Q (.ref q) (upd H q (setH X.prog X.w q (dd ks)))):=by
 intro j' s σ H xs us Q I r h;obtain⟨p,ks,rfl,hp,my,q⟩:=h;obtain⟨u,rfl,ru⟩:=Xb r;obtain rfl:u=Value.ref p:=ru;obtain⟨its,rv,pl,_⟩:=I.list hp;have hI:IntsAre its ks:=by simpa using J5 rv
 have hl:its.length=ks.length:=hI.length;refine Zhx (its:=its.toArray) (ns:=ks) (I.ok.hd hc) pl.isList (by simpa using hI) (by rw[Aq,hl];unfold scanBound;lia) λh' tk ws kp=>?_;rw[show its.toArray.size=ks.length by rw[Aq];exact hl,Zpk]at ws;exact⟨.ref s.heap.objs.size,_,I.laid (t':=tk) kp (An _) (Zso ws),Y,q _ (I.hok.fresh (An _))⟩
variable{P:Program}{w:World}{A:Around}{E:Value->Shared->Prop}{s:Shared}
def Zpc{r:Addr}{Q:Bool->Shared->Prop}(hT:s.TypeIs (.ref r) "set")(h:Q false s):wpAny (aa:) A (Builtin.List.listLengthHint (.ref r)) Q E s:=by
 unfold Builtin.List.listLengthHint;refine Al (wpAny_specialOf hT PySem.F.slot_set_len.lookup ?_);generalize hid:("set.__len__":String)=id0
 wp_delta
 rw[show splitId id0=some ("set","__len__")from by subst hid;decide+kernel];subst hid;refine Al (wpAny_isInstance (T:="set") (b:=true) hT (by rw[isSubtype_type];kernel_rfl) (wpAny_ite_split (λz=>absurd z (d:)) λ_=>wpAny_ite_split (λ_=>?_) λz=>absurd (n:) z));exact Al (wpAny_typeOf hT (wpAny_pure h))
def Zii{a:Addr}{ks:List Int}{R:List Value->Shared->Prop}(hh:A.handled=none)(hS:WSet P w s.heap a ks)(hn:ks.length<=sizeLine)
  (h:∀(h':Heap)(d':Drawn)(tk:Nat)(vs:List Value)(out:List Int),(a4:)->IntsAre vs out->out.Perm ks->R vs {s with heap:=h',drawn:=d',toks:=tk}):
  wpAny (aa:) A (collect (.ref a)) R E s:=by
 have la:=hS.lt;unfold collect;refine Al (wpAny_runValue (codeAny_builtin entry_proto_collect' ?_));rw[Around.under_plainId PySem.F.plain_proto_collect _];show wpAny _ A.in1 (newList []>>=λl=>again (.builtin "list.__iadd__" ⟨[l,.ref a],[]⟩)) _ _ s;refine Al (wpAny_newObj_type (wpAny_pure ⟨plainId_quiet PySem.F.plain_list_iadd _,codeAny_builtin entry_list_iadd' ?_⟩));rw[Around.under_plainId PySem.F.plain_list_iadd _];have e0:(bc:).get? s.heap.objs.size=some {cls:=.type "list",data:=.seq #[]}:=Ap _ rfl;have ws1:WSet P w (bc:) a ks:=hS.kept λo e=>Ak _ e;have hT:Shared.TypeIs {s with heap:=s.heap.push {cls:=.type "list",data:=.seq (b1:).toArray} } (.ref a) "set":=by obtain⟨o,_,_,_,_,ho,ex,_⟩:=ws1;exact⟨o,ho,ex.1⟩
 have hz:=Heap.size_push s.heap {cls:=.type "list",data:=.seq (b1:).toArray};show wpAny _ A.in1 (Builtin.List.listExtendWith (C:) (.ref a) (C:)) _ _ _;unfold Builtin.List.listExtendWith;refine Al (wpAny_typeOf hT ?_);have n1:Builtin.List.listSameRef (C:) (.ref a)=false:=by
  show(s.heap.objs.size==a)=false
  exact beq_eq_false_iff_ne.mpr (Nat.ne_of_gt la)
 simp only[n1,show(Value.type "set"==Value.type "list")=false by decide,show(Value.type "set"==Value.type "tuple")=false by decide,Bool.or_false,Bool.false_eq_true,if_false];refine Al (Zpa (A:=A.in1) hh ws1 λI h1 d1 fp out St pm kp hI hfp W st=>?_);have eS:=kp _ _ e0;have hSf:s.heap.objs.size∉fp:=λz=>by
  rcases hfp _ z with q|q
  ·exact Nat.ne_of_gt la q
  ·rw[hz]at q;exact absurd q (not_succ_le_self _)
 have hSI:s.heap.objs.size≠I:=λz=>by rw[hz,<-z]at hI;exact absurd hI (not_succ_le_self _)
 have tail:∀(h2:Heap)(c tk:Nat),St 0 h2->(∀b o,b≠s.heap.objs.size->h1.get? b=some o->h2.get? b=some o)->h2.get? s.heap.objs.size=some {cls:=.type "list",data:=.seq #[] c} ->
   codeAny (aa:) A (.builtin "list.extend.loop" ⟨[.ref s.heap.objs.size,.ref I,.ref s.heap.objs.size],[]⟩) (λq s'=>∃ (h':Heap) (tk:Nat) (md:Array Value) (c':Nat),q=.ok (.ret (C:))/\s'={ s with heap:=h',drawn:=d1,toks:=tk }/\(a4:) /\
    h'.get? s.heap.objs.size=some {cls:=.type "list",dict:=none,data:=.seq md c',slots:=#[]}/\ItemsOf (λi v=>∃t,v=.int (out.getD i 0) t) md out.length) {s with heap:=h2,drawn:=d1,toks:=tk}:=by
  intro h2 c tk n6 k2 e2;refine codeAny_extend_loopS W.toS (by rw[pm.length_eq];exact hn) _ hSf _ out.length 0 _ #[] c Y (Az _) n6 e2 (ItemsOf.nil _) λs' md c' hm e3 it=>?_;refine⟨s'.heap,s'.toks,md,c',Y,?_,λb o e=>?_,e3,it⟩
  ·have e1:s'.gens=s.gens:=hm.gens
   have e2:s'.drawn=d1:=hm.drawn;have e3:s'.os=s.os:=hm.os;rw[<-e1,<-e2,<-e3]
  ·have lb:=Ao e
   refine hm.heap b o ?_ (k2 b o (As lb) (kp _ _ (Ak _ e)));simp only[mem_cons,not_mem_nil,or_false,not_or];refine⟨As lb,λz=>?_⟩;rw[hz,<-z]at hI;exact absurd (Ag (lt_succ_of_lt lb) hI) (Nat.lt_irrefl _)
 refine Al (wpAny_holding (Zpc (by obtain⟨o,ho,hc⟩:=hT;exact⟨o,kp _ _ ho,hc⟩) ?_))
 have m9:∀ (q:Result) (s':Shared),(∃ (h':Heap) (tk:Nat) (md:Array Value) (c':Nat),q=.ok (.ret (C:))/\s'={ s with heap:=h',drawn:=d1,toks:=tk }/\(a4:) /\
    h'.get? s.heap.objs.size=some {cls:=.type "list",dict:=none,data:=.seq md c',slots:=#[]}/\ItemsOf (λi v=>∃t,v=.int (out.getD i 0) t) md out.length)->(match q with| .ok (.ret v)=>wpAny (aa:) A (match v with| .ref a=>(do match(<- load a).data with| .seq xs _=>pure xs.toList|_=>unsupported "internal:collect")|_=>unsupported "internal:collect") R E s'| .ok _=>False| .error e=>E e s'):=by
  rintro q s' ⟨h',tk,md,c',rfl,rfl,kp',e3,it⟩;show wpAny _ A (load s.heap.objs.size>>=_) _ _ _;refine Al (wpAny_load e3 (wpAny_pure (h h' d1 tk md.toList out kp' ?_ pm)))
  have gen:∀(us:List Value)(os:List Int),us.length=os.length->(∀(j:Nat)(v:Value),us[j]?=some v->∃t,v=Value.int (os.getD j 0) t)->IntsAre us os:=by
   intro us
   induction us with
   |nil=>
    intro os hl _
    cases os with
    |nil=>exact .nil
    |cons _ _=>simp at hl
   |cons u r ih=>
    intro os hl hv
    cases os with
    |nil=>simp at hl
    |cons k ks=>
     obtain⟨t,e⟩:=hv 0 u rfl;have e:u=Value.int k t:=e;subst e;exact .cons k t (ih ks (by simpa using hl) λj v hj=>hv (j+1) v hj)
  exact gen _ _ (by rw[Array.length_toList];exact it.1) λj v hj=>it.2 j v (by rw[<-Array.getElem?_toList];exact hj)
 refine wpAny_ite_split (λ_=>?_) (λz=>absurd (n:) z);refine Al (wpAny_rule (Al ?_));show wpAny _ _ (updateSeq s.heap.objs.size (·.push .none)>>=λ_=>updateSeq s.heap.objs.size (·.pop)) _ _ _;refine Al (wpAny_updateSeq eS Y ?_);have e2:=Heap.get?_update_self (Obj.mapSeq (·.push Value.none)) eS rfl;refine wpAny_updateSeq (hz:=by seq_fits) e2 Y ?_;have e3:=Heap.get?_update_self (Obj.mapSeq (·.pop)) e2 rfl;have ot:∀b o,b≠s.heap.objs.size->h1.get? b=some o->((h1.update s.heap.objs.size (Obj.mapSeq (·.push Value.none))).update s.heap.objs.size (Obj.mapSeq (·.pop))).get? b=some o:=λb o hb e=>
  (Heap.get?_update_other _ _ (Ne.symm hb)).trans ((Heap.get?_update_other _ _ (Ne.symm hb)).trans e)
 refine wpAny_pure ⟨plainId_quiet PySem.F.plain_extend_loop _,codeAny_mono (tail _ _ _ (W.frame 0 _ _ st λb hb o e=>ot b o (λz=>hSf (z▸hb)) e) ot e3) λq s' y=>?_⟩;exact m9 q s' y
def Zhh (hc:X.calm=true):Y6 X (.builtin "sorted") (λxs H Q=>∃ (p:Addr) (ks:List Int),xs=[.ref p]/\H p=some (setH X.prog X.w p ks)/\ks.length < 64 /\
  ∀(q:Addr)(out:List Int),H q=none->out.Perm ks->out.Pairwise (·<=·)->Q (.ref q) (upd H q (.lst (out.map V.int)))):=by
 intro j' s σ H xs us Q I r h;obtain⟨p,ks,rfl,hp,my,q⟩:=h;obtain⟨u,rfl,ru⟩:=Xb r;obtain rfl:u=Value.ref p:=ru;have ws:WSet X.prog X.w s.heap p ks:=(I.hok p _ hp).1;refine Calls.call_function_entry kind_sorted plain_sorted entry_sorted (args_sorted1 _) ?_;unfold Builtin.«sorted»;refine Al (m:=checkCount "sorted" 1 1 _) (as:);refine Al (Zii (A:=X.A.in1) (I.ok.hd hc) ws (by rw[sizeLine_eq];lia) λh' d' tk vs out kp hI pm=>?_);have hl:vs.length=out.length:=hI.length;have h64':out.length<64:=by rw[pm.length_eq];exact my
 refine Al (wpAny_newList ?_ (by rw[hl,sizeLine_eq];lia));have I1:Inv X j' σ H {s with heap:=h',drawn:=d',toks:=tk}:=(I.kept (t':=tk) kp).draw;have wm:(h'.push {cls:=.type "list",data:=.seq vs.toArray}).get? h'.objs.size=some (seqObj "list" vs.toArray 0):=Ap _ rfl;refine Al (wpAny_holding (wpAny_call_entry slot_list_sort ⟨_,wm,Y⟩ entry_list_sort (list_sort_tree wm (by simpa using hI) (by lia) λres ns a1 a2 a3=>⟨_,Y,?_⟩) (args_list_sort _)));refine wpAny_pure ⟨_,Y,?_⟩;obtain⟨e,he⟩:=sortedHeap_at (out:=res) wm;have k2:∀b u,h'.get? b=some u->(sortedHeap (h'.push {cls:=.type "list",data:=.seq vs.toArray}) h'.objs.size vs res).get? b=some u:=λb u hb=>by
  have lb:=Ao hb
  rw[sortedHeap_old (As lb) (by rw[Heap.size_push];exact lt_succ_of_lt lb)]
  exact Ak _ hb
 have hv:Vals (T:) res.toList:=by
  clear he k2;generalize res.toList=l at a1;clear a2 a3
  induction a1 with
  |nil=>exact .nil
  |cons i t _ ih=>exact .cons ⟨_,Y⟩ ih
 refine⟨.ref h'.objs.size,upd H h'.objs.size (.lst (T:)),I1.laid k2 (An _) ⟨?_,res.toList,e,hv,by rw[he]⟩,Y,q _ ns I1.fresh (a2.trans pm) a3⟩;rw[Ab,a2.length_eq,sizeLine_eq];lia
end
def FlyA(e T:Addr)(cls a0 fl:Value)(h:Heap):Prop:=
 ∃oe vs oT ts,h.get? e=some oe/\(oe.cls=cls/\vs[0]?=some a0)/\oe.data=.fields vs/\vs[1]?=some (.ref T)/\T≠e/\h.get? T=some oT/\oT.data=.fields ts/\ts[3]?=some fl
def XB(X:Cx)(j':List (j:))(E:XK)(ev:Value)(s':Shared):Prop:=
 ∃(e T:Addr)(cls a0:Value)(σ':St)(H':Hp),ev=.ref e/\Inv X j' σ' H' s'/\FlyT e T cls a0 s'.heap/\FxOk X j' H' e/\FxOk X j' H' T/\E cls none H'
def XA(X:Cx)(j':List (j:))(E:XK)(ev:Value)(s':Shared):Prop:=
 ∃(e T:Addr)(cls a0 fl:Value)(σ':St)(H':Hp),ev=.ref e/\Inv X j' σ' H' s'/\FlyA e T cls a0 fl s'.heap/\FxOk X j' H' e/\FxOk X j' H' T/\E cls none H'
def Held(X:Cx)(j':List (j:)):Prop:=∀b∈X.ex,∃o,(b,o)∈j'
def PEC(X:Cx)(e:Expr)(t:TEX):Prop:=
 ∀(j':List (j:))(s:Shared)(σ:St)(H:Hp)(Q:VK)(E:XK),Held X j'->Inv X j' σ H s->t σ H Q E->wpAny (c:) X.A (eval e X.env) (a2:) (XB X j' E) s
abbrev TAX:=St->Hp->(List V->Hp->Prop)->XK->Prop
section
variable{X:Cx}{j':List (j:)}{σ:St}{H:Hp}{s:Shared}
def Inv.fxB(I:Inv X j' σ H s)(hp:Held X j'){b:Addr}(hb:s.heap.get? b=none):FxOk X j' H b:=by
 refine⟨I.untr hb,λz=>?_,λz=>?_,?_,λx c e z=>?_,λp hp z=>?_⟩
 ·obtain⟨m,⟨o,_,_,ho,_⟩,_⟩:=I.loc
  rw[z,ho]at hb;cases hb
 ·obtain⟨_,o,ho,_⟩:=I.funs.mem z
  rw[ho]at hb;cases hb
 ·cases q:X.s₀.heap.get? b with
  |none=>rfl
  |some o=>
   exfalso;by_cases hbx:b∈X.ex
   ·obtain⟨o2,h2⟩:=hp b hbx
    have:=(I.pin (b,o2) (mem_append_right _ h2)).1;rw[hb]at this;cases this
   ·obtain⟨o',e'⟩:=I.base.there b o q hbx
    rw[hb]at e';cases e'
 ·obtain⟨v,o,ho,_⟩:=I.cell x c e
  rw[z,hb]at ho;cases ho
 ·have:=(I.pin p hp).1
  rw[z,hb]at this;cases this
def Zex{H':Hp}{b:Addr}(h:FxOk X j' H b)(hn:H' b=none):FxOk X j' H' b:=⟨hn,h.nl,h.nf,h.n0,h.nc,h.np⟩
def Inv.cxb{s':Shared}{E:XK}{ev:Value}(I:Inv X j' σ H s)(hp:Held X j')(h:CXr X.prog X.w X.stack H s E ev s'):XB X j' E ev s':=by
 obtain⟨e,T,cls,a0,H',rfl,os,bare,un,hok,ne,nT,he,hT,fl,q⟩:=h;have I':Inv X j' σ H' s':=I.call' os un hok bare λb hb=>absurd hb (by simp);exact⟨e,T,cls,a0,σ,H',Y,I',fl,Zex (I.fxB hp ne) he,Zex (I.fxB hp nT) hT,q⟩
variable{k:Nat}{f C:Addr}{fd:FuncData}{ps:List Str}{sp:Sp}{mz:List V}{ds:List Value}{x m:Str}{p pos ml:Pos}{e o:Expr}{es:List Expr}{ta:TE}{t:TA}
def On(F:FnOk X.prog X.w X.K X.mg X.base (CXr X.prog X.w) k f fd ps sp)(hr:Room k X.A)(hg:Gl X x)(hm:X.mg x=some (.ref f))(hk:PySem.W.keepIn X.K (.ref f)=true)(hb:Xx X.K fd ps ds)(hd:Vals mz ds)
  (ha:PA X (e::es) t) (hx:X.xe=(az:):=by rfl) (pd:(J:)=false:=by decide) (he:starEach (e::es) X.env=(I:)::starEach es X.env:=by rfl) (oa:(w:).any (·.1)=false:=by rfl):
  PEC X (S:) (Zau sp mz t):=by
 intro j' s σ H Q E hp I h;have h0:=ha pos j' s σ H _ I h;rw[hx]at h0;refine wpAny_Call_Name_kw (Jf I hg hm ?_ pd);refine PySem.W.callWith_K (h₀:=X.base) I.ok.mod.kin hk (wpAny_mono h0 (λus s1 zz42=>?_) λ_ _ z=>z.elim) he oa;obtain⟨vs,H1,I1,r,q⟩:=zz42;refine⟨I1.kIn,?_⟩;have r2:Vals (vs++mz) (us++ds):=r.append hd;have hl:(us++ds).length=ps.length:=by rw[<-r2.length];exact F.len _ _ _ _ q
 refine wpAny_call (codeAny_mono (F.run X.A X.stack s1 H1 ⟨us,[]⟩ (us++ds) (vs++mz) Q E hr I1.env0 (hb s1 us I1.kIn hl) r2 q) λr s' hq=>?_)
 cases r with
 |error e=>exact I1.cxb hp hq
 |ok fl=>
  cases fl with
  |ret u=>exact I1.after hq
  |next=>exact False.elim hq
  |brk=>exact False.elim hq
  |cont=>exact False.elim hq
def Zty(t:TAX):TEX:=λσ H Q E=>t σ H (λxs H1=>xs.length<=sizeLine/\∀p,H1 p=none->Q (.ref p) (upd H1 p (.tup xs))) E
end
abbrev TBX:=St->Hp->(St->Hp->Prop)->XK->Prop
def PBX(X:Cx)(mv:Sem Fin)(c:Code)(t:TBX):Prop:=
 ∀(j':List (j:))(s:Shared)(σ:St)(H:Hp)(N:St->Hp->Prop)(E:XK),Held X j'->Inv X j' σ H s->t σ H N E ->
  wpAny (c:) X.A mv (λm9 s'=>m9=.again c/\∃σ' H',Inv X j' σ' H' s'/\N σ' H') (XB X j' E) s
def Zse(te:TEX)(D:Addr):TBX:=λσ H N E=>te σ H (λv H1=>∃xs,H1 D=some (.lst xs)/\xs.length<sizeLine/\N σ (upd H1 D (.lst (xs++[v])))) E
section
variable{X:Cx}
def Oo{nu:Expr}{te:TEX}{D:Addr}{c:Code}(he:PEC X nu te)(hx:X.xe=(az:):=by rfl):
  PBX X ((eval nu X.env>>=λx=>call (.builtin "list.append") [.ref D,x]>>=λ_=>pure ())>>=λ_=>again c) c (Zse te D):=by
 intro j' s σ H N E hp I h;refine Al (Al (wpAny_mono (he j' s σ H _ E hp I h) (λu s1 zz43=>?_) λ_ _ z=>z));obtain⟨v,H1,I1,r1,q1⟩:=zz43;obtain⟨xs,hD,hl,q⟩:=q1;have h0:=Gb (X:=X) j' s1 σ H1 (.ref D) [v] (.ref D) [u] (λ_ H2=>N σ H2) I1 rfl (.cons r1 .nil) ⟨D,xs,v,rfl,rfl,hD,hl,q⟩;rw[hx]at h0;refine Al (wpAny_mono h0 (λ_ s2 zz44=>?_) λ_ _ z=>z.elim);obtain⟨_,H2,I2,_,q2⟩:=zz44;exact wpAny_pure (wpAny_pure ⟨Y,σ,H2,I2,q2⟩)
theorem Zbz{e tg:Expr}{d:Nat}{md:Value}{ifs:List Expr}{mv:Sem Fin}{J:It}{fp:List Addr}{it:Addr}{tn:Nat->Heap->Prop}{g:TG}{tt:TT}{tb:TBX}{p:Pos}{s:Shared}{σ:St}{H:Hp}{R:St->Hp->Prop}{E:XK}
  {RR:Result->Shared->Prop} (qo:X.xe=λ_ _=>False) (hex:X.ex=fp)
  (hcq:Code.quiet (Q:)=true) (zj:(c:).den (Q:)=(compTurn e d (.ref it) md X.env).onRaise (λx=>do noteFrame x X.env;theTreesLotGoes x))
  (yy:X.A.under (Q:)=X.A)
  (qf:compTurn e d (.ref it) md X.env=(standAt p >>= λ_=>pyNext (.ref it) >>= λr=>match r with
   |none=>pure (.done .next)
   |some v=>letOwnedTupleGo tg (.ref it) v>>=λ_=>assign tg X.env v>>=λ_=>
    (af:)>>=λok=>
     if ok=true then mv else again (Q:)))
  (T:Turn X.prog X.w X.K tg J fp it tn) (hc:X.calm=true) (hg:PG X tg g) (ht:PTs X ifs tt) (hb:PBX X mv (Q:) tb)
  (hf:∀b∈fp,FpOk X [] H b) (I:Inv X [] σ H s) (st:tn 0 s.heap) (h:Jr J g tt (λσ H N=>tb σ H N E) R σ H)
  (hR:∀s' σ' H',Inv X [] σ' H' s'->R σ' H'->RR (.ok .next) s')
  (hX:∀j' ev s',XB X j' E ev s'->notedBy (c:) X.A X.env (λx s'=>RR (.error x) s') ev s'):
  codeAny (c:) X.A (Q:) RR s:=by
 obtain⟨W,⟨m0,w0⟩,qg⟩:=h;have ow:∀{H':Hp},(bg:)->∀b∈fp,FpOk X [] H' b:=λhn b hb=>⟨hn b hb,(hf b hb).2⟩;refine codeAny_loop hcq (λn s'=>∃i σ' H',Inv X [] σ' H' s'/\tn i s'.heap/\(bg:)/\W i n σ' H') ?_ m0 ⟨0,σ,H,I,st,λb hb=>(hf b hb).1,w0⟩;rintro n s3 ⟨i,σ3,H3,I3,o4,ut,w3⟩;rw[zj,yy];refine wpAny_noted ?_;rw[qf];refine Al (wpAny_standAt (Al ?_))
 rcases qg i n σ3 H3 w3 with ⟨stop,qn⟩|⟨go,N,hN,step⟩
 ·refine thn (T.done X rfl rfl rfl hc i [] s3 σ3 H3 _ I3 (ow ut) o4 stop) λr s4 ⟨hr,I4⟩=>?_
  subst hr;exact wpAny_pure (hR s4 σ3 H3 I4 qn)
 ·refine thn (T.item X rfl rfl rfl hc i [] s3 σ3 H3 _ I3 (ow ut) o4 go) λr s4 ⟨u,hr,h4⟩=>?_
  subst hr;refine Al (thn h4 λ_ s5 me=>?_);obtain⟨x,H5,I5,r5,y5,qk,yp⟩:=me;have yr:=I5.pinned (ow yp) (T.obj _ _ qk);refine Al (thnF qo (hg _ s5 σ3 H5 x u _ yr r5 (step x H5 y5)) λ_ s6 me=>?_);obtain⟨σ6,H6,I6,q6⟩:=me;refine Al (thnF qo (ht _ s6 σ6 H6 _ I6 q6) λok s7 me=>?_);obtain⟨H7,I7,q7⟩:=me;have vc:∀{σ7:St}{H7:Hp}{s7:Shared},Inv X ([]++Qt fp s5.heap) σ7 H7 s7->N σ7 H7->∃m,m<n/\∃i σ' H',Inv X [] σ' H' s7/\tn i s7.heap/\(bg:)/\W i m σ' H':=λ{σ7 H7 s7}I7 n7=>by
   obtain⟨m',hm,w7⟩:=hN σ7 H7 n7
   refine(ap:)
   obtain⟨o,e,d⟩:=T.obj _ _ qk b hb
   exact(x:).2.1
  cases ok with
  |false=>exact wpAny_pure ⟨Y,vc I7 q7⟩
  |true=>
   have hp:Held X ([]++Qt fp s5.heap):=λb hb=>by
    rw[hex]at hb;obtain⟨o,e,d⟩:=T.obj _ _ qk b hb;exact⟨o,mem_append_right _ (Xw hb e)⟩
   refine wpAny_mono (hb _ s7 σ6 H7 N E hp I7 q7) (λm9 s8 zz45=>?_) λev s8 z=>hX _ ev s8 z;obtain⟨ze,σ8,H8,I8,q8⟩:=zz45;subst ze;exact⟨Y,vc I8 q8⟩
end
section
variable{X:Cx}{j':List (j:)}{σ:St}{H:Hp}{s:Shared}
def Zs3{e T:Addr}{cls a0 fl:Value}{E:XK}{what:String}{qj:Env}{Q:Value->Shared->Prop}(I:Inv X j' σ H s)(hex:X.ex=[])(hx:FlyA e T cls a0 fl s.heap)(fe:FxOk X j' H e)(fT:FxOk X j' H T)(q:E cls none H):
  wpAny (c:) X.A (PySem.passOn what (.ref e) qj:Sem Value) Q (XA X j' E) s:=by
 obtain⟨oe,vs,oT,ts,he,⟨u6,h0⟩,hd,h1,hTe,hT,vy,h3⟩:=hx;have hsz3:3<ts.size:=(Array.getElem?_eq_some_iff.mp h3).1;unfold PySem.passOn;refine Al (wpAny_field he hd h1 ?_);rw[if_neg (show ¬(Value.ref T==Value.none)=true from by simp)];refine Al ?_;unfold setFlight;refine Al (wpAny_field he hd h1 ?_);rw[if_pos (show(Value.ref T != Value.none)=true from by simp)];refine wpAny_setField hT vy hsz3 (wpAny_throw ?_);generalize (qj.frame.elim Value.none λf=>rawInt f)=fl';have other:∀b,b≠T->(s.heap.update T (Obj.mapFields (·.setIfInBounds 3 fl'))).get? b=s.heap.get? b:=λb hb=>Heap.get?_update_other _ _ (Ne.symm hb);refine⟨e,T,cls,a0,fl',σ,H,Y,I.exc hex fe fT (λb o n1 n2 n3 z=>(other b n2).trans z) (λb o hb z=>⟨o.slots,?_⟩),?_,fe,fT,q⟩
 ·refine(other b λz2=>?_).trans z
  rw[z2]at hb z;exact I.fnd hb z ts (by rw[hT]at z;cases z;exact vy)
 ·exact⟨oe,vs,_,_,(other e (Ne.symm hTe)).trans he,⟨u6,h0⟩,hd,h1,hTe,Heap.get?_update_self _ hT (Obj.isFreed_of_fields (Obj.data_mapFields vy _)),Obj.data_mapFields vy _,by simp[hsz3]⟩
def Zdo{scope:Scope}{N':List Str}{fp:List Addr}{C:Addr}{pb:List (j:)}{E:XK}{ev:Value}{s':Shared}{Q:Value->Shared->Prop}(md:Value)(I:Inv X j' σ H s)(hex:X.ex=[])(om:∃o,X.stack=X.env::o)(rh:X.env.frame=some X.env.locals)
  (hf:∀b∈fp,FpOk X j' H b) (hC:s.heap.objs.size<=C) (h:XB (Zx X N' scope C s H fp) pb E ev s'):
  notedBy (c:) X.A (Zx X N' scope C s H fp).env (λx s'=>compPost (c:) X.A (XA X j' E) none Q md C (.error x) s') ev s':=by
 obtain⟨e,T,cls,a0,σ',H',rfl,J,hx,fe,fT,q⟩:=h;obtain⟨I5,c1,c2,c3,c4,c5⟩:=Ob I hf hC (J.pins_of (pins':=[]) λp hp=>absurd hp (by simp));have ge:FxOk X j' H' e:=Zex (I.fxOk hex fe.n0) fe.nt;have gT:FxOk X j' H' T:=Zex (I.fxOk hex fT.n0) fT.nt;obtain⟨outer,om⟩:=om;have vw:=Zm9 I5 hx;have hA:X.A.frames=some (X.env::outer):=by rw[I.ok.frames,om]
 have zf:Heap.FlyingW (PySem.W.hideAll s'.heap (e::T::frs X.stack)) (X.env::outer) e cls a0 s'.heap:=by
  have:=vw;generalize PySem.W.hideAll s'.heap (e::T::frs X.stack)=B at this⊢;rw[om]at this;exact this
 show wpAny (c:) X.A (noteFrame (.ref e) X.env) _ _ s';refine wpAny_looks_onW hA rh zf λh₄ oq xm=>?_;have I6:Inv X j' σ H' {s' with heap:=h₄}:=I5.flown hex ge gT oq.1 xm;obtain⟨_,_,_,oe,vs,T',oT,ts,x1,x2,x3,x4,x5,x6,x7,x8,x9⟩:=oq
 have gT':FxOk X j' H' T':=by
  by_cases hz:s'.heap.get? T'=none
  ·exact I5.fxOk hex hz
  ·obtain⟨o,ho⟩:=Option.ne_none_iff_exists'.mp hz
   by_cases h1:T'=T
   ·rw[h1];exact gT
   ·exfalso
    by_cases h2:T'∈frs X.stack
    ·obtain⟨sl,e'⟩:=xm T' o ho (I5.fnd h2 ho)
     rw[x7]at e';cases e';exact I5.fnd h2 ho ts x8
    ·have:=PySem.W.hideAll_get (e :: T :: frs X.stack) ho (λz=>by
      rcases Ar z with z|z
      ·exact x6 z
      ·rcases Ar z with z|z
       ·exact h1 z
       ·exact h2 z)
     rw[x5]at this;cases this
 obtain⟨m,⟨o,es,ep,ho,hd,r⟩,_⟩:=J.loc;obtain⟨sl,e1⟩:=xm C o ho (λvs z=>by rw[hd]at z;cases z);refine⟨m,⟨_,es,ep,e1,hd,r⟩,λh' uf qj _=>?_⟩;have I7:Inv X j' σ H' {s' with heap:=h' }:=I6.apart uf c1 c2 c3 c4 c5;have mw:∀b,b≠C->h'.get? b=h₄.get? b:=λb hb=>uf.2 b hb;have eC:e≠C:=fe.nl
 have TC:T'≠C:=λz=>by
  rw[z,e1]at x7;cases x7;rw[hd]at x8;cases x8
 exact Zs3 (fl:=rawInt X.env.locals) I7 hex ⟨oe,vs,oT,ts,(mw e eC).trans x1,x2,x3,x4,x6,(mw T' TC).trans x7,x8,x9⟩ ge gT' q
variable{ts:List Str}{fv:List (Str×Nat)}{scope:Scope}{nu t0 i0:Expr}{f0:List Expr}{l8:List Comprehension}{pos:Pos}{wi:TI}{g:TG}{tt:TT}{tb:Addr->TBX}{mv:Env->Addr->Addr->Sem Fin}
def Ze4(ts:List Str)(fv:List (Str×Nat))(wi:TI)(g:TG)(tt:TT)(tb:Addr->TBX):TEX:=λσ H Q E=>wi σ H λJ H1=>∀D,H1 D=none ->
 Jr J g tt (λσ H N=>tb D σ H N E) (λ_ H'=>Q (.ref D) H') (blkS ts fv σ) (upd H1 D (.lst []))
theorem Zva(B:BlkOk X scope fv)(hc:X.calm=true)(hi:PI X t0 i0 wi)(hex:X.ex=[])(qo:X.xe=(az:))(om:∃o,X.stack=X.env::o)(rh:X.env.frame=some X.env.locals)
  (hg:∀C s₀ H₀ ex,PG (e:) t0 g) (ht:∀C s₀ H₀ ex,PTs (e:) f0 tt)
  (qf:∀ (env:Env) (it D:Addr),compTurn (f:) 0 (.ref it) (.ref D) env=(standAt i0.pos >>= λ_=>pyNext (.ref it) >>= λr=>match r with
   |none=>pure (.done .next)
   |some v=>letOwnedTupleGo t0 (.ref it) v>>=λ_=>assign t0 env v>>=λ_=>
    (k:)>>=λok=>
     if ok=true then mv env it D else again (bn:)))
  (hb:∀C s₀ H₀ ex it D,PBX (e:) (mv (e:).env it D) (a8:) (tb D))
  (hs:∀x,foldedSetIterable i0 X.env x=pure x) {Q:VK} {E:XK} (I:Inv X j' σ H s) (h:Ze4 ts fv wi g tt tb σ H Q E):
  wpAny (c:) X.A (eval (f:) X.env) (a2:) (XA X j' E) s:=by
 rw[eval_ListComp];refine wpAny_comprehension_free (use:=none) Y hs (Jl λy hy e=>I.ok.has y.1 (B.free y hy e)) B.kind B.names ?_;refine thnF qo (hi j' s σ H _ I h) λv s1 h1=>thnF qo h1 λxi s2 h2=>?_;obtain⟨it,fp,tn,J,H2,e,I2,T,n6,f2,L⟩:=h2;subst e;have L:=L s2.heap.objs.size I2.fresh;refine wpAny_newObj_type ?_;have I3:Inv X j' σ (q:) {s2 with heap:=s2.heap.push {cls:=.type "list",data:=.seq (b1:).toArray},toks:=s2.toks}:=I2.lnew (its:=[]) (t':=s2.toks) .nil (Az _);have tz:∀b∈fp,∃o,s2.heap.get? b=some o/\∀v,o.data≠.cell v:=T.obj _ _ n6;have f3:∀b∈fp,FpOk X j' (q:) b:=λb hb=>by
  obtain⟨o,ho,_⟩:=tz b hb
  refine⟨?_,(f2 b hb).2⟩
  rw[Ze (As (Ao ho))]
  exact(f2 b hb).1
 have o4:tn 0 (O:):=T.keep _ _ _ n6 λb _ o e=>Ak _ e;have rm:∀b∈fp,∃o,(O:).get? b=some o:=λb hb=>let⟨o,e,_⟩:=tz b hb;⟨o,Ak _ e⟩
 generalize hs3:({s2 with heap:=s2.heap.push {cls:=.type "list",data:=.seq ([]:List Value).toArray},toks:=s2.toks}:Shared)=s3 at I3;have eh:s2.heap.push {cls:=.type "list",data:=.seq (b1:).toArray}=s3.heap:=by rw[<-hs3]
 rw[eh]at o4 rm;refine wpAny_newFunctionEnv B.nocell (by intro y hy;simp at hy) (λh₁ vp rf=>?_) B.kind;have hk:∀b o,s3.heap.get? b=some o->h₁.get? b=some o:=λb o e=>rf.extBut b o (As (Ao e)) (Ak _ e);have I4:=Um (ts:=ts) (tk:=s3.toks+([]:List (Str×Value)).length) B I3 f3 rm vp hk;have f4:∀b∈fp,FpOk (a7:) [] (q:) b:=λb hb=>by
  obtain⟨f0,f1,f2',f3',f4',f5'⟩:=f3 b hb
  obtain⟨o,eo⟩:=rm b hb
  exact(aj:)
 have tw:tn 0 h₁:=T.keep _ _ _ o4 λb _ o e=>hk b o e;have loop:codeAny (c:) X.A (.compLoop (f:) 0 (.ref it) (ab:) (a7:).env)
   (compPost (c:) X.A (XA X j' E) none (a2:) (ab:) s3.heap.objs.size) {s3 with heap:=h₁,toks:=s3.toks+([]:List (Str×Value)).length}:=by
  refine Zbz (X:=Zx X (A:) scope s3.heap.objs.size s3 (q:) fp) (tg:=t0) (ifs:=f0) (R:=λ_ H'=>Q (ab:) H') (E:=E) Y Y Y Y Y (qf _ it s2.heap.objs.size) T hc (hg _ _ _ _) (ht _ _ _ _) (hb _ _ _ _ it s2.heap.objs.size) f4 I4 tw L (λs' σ' H' J' q=>?_) λpb ev s' z=>Zdo _ I3 hex om rh f3 (An _) z
  obtain⟨e1,e2,e3,e4,e5,e6⟩:=Ob I3 f3 (An _) J'
  obtain⟨m,hm,_⟩:=J'.loc
  exact⟨m,hm,λh' uf=>⟨.ref s2.heap.objs.size,H',e1.apart uf e2 e3 e4 e5 e6,Y,q⟩⟩
 exact codeAny_compStart_list loop (T.self _ _ _ _ _ tw loop)
end
def PEA(X:Cx)(e:Expr)(t:TEX):Prop:=
 ∀(j':List (j:))(s:Shared)(σ:St)(H:Hp)(Q:VK)(E:XK),Inv X j' σ H s->t σ H Q E->wpAny (c:) X.A (eval e X.env) (a2:) (XA X j' E) s
def G2{M:Model}{A:Around}{E:Value->Shared->Prop}{s:Shared}{base:Heap}{env:Env}{outer:List Env}{L e:Addr}{cls a0 fl:Value}{Q:Unit->Shared->Prop}
  (rh:A.frames=some (env::outer)) (hl:s.heap.FunFrames base (env::outer)) (hf:env.frame=some L) (ht:s.heap.TracedAtW base e cls a0 fl) (yj:base.StaysIn s.heap) (hen:base.get? e=none)
  (h:∀h',Heap.LeftW base (env::outer) e cls a0 s.heap h'->Q () {s with heap:=h' }):wpAny M A (leaving env (.ref e)) Q E s:=by
 by_cases hb:(fl==rawInt L)=true
 ·have htt:=ht
  obtain⟨oe,vs,T,oT,ts,he,hc0,hd,h1,hnT,hTe,hT,vy,h3⟩:=ht;unfold leaving noteFrame;simp only[hf];refine Al (Al (wpAny_field he hd h1 ?_));rw[if_pos (show(Value.ref T != Value.none)=true from by simp)];refine Al (wpAny_field hT vy h3 ?_);rw[if_pos hb];refine wpAny_pure ?_;refine wpAny_setFlight_noneW yj hl htt λh' k1 k2 k3 k4=>h h' ⟨k1,k2,k3,λb o z n=>⟨o.slots,k4 b o z n⟩⟩
 ·obtain⟨oe,vs,T,oT,ts,he,⟨u6,h0⟩,hd,h1,hnT,hTe,hT,vy,h3⟩:=ht
  subst u6;unfold leaving noteFrame;simp only[hf];refine Al (Al (wpAny_field he hd h1 ?_));rw[if_pos (show(Value.ref T != Value.none)=true from by simp)];refine Al (wpAny_field hT vy h3 ?_);rw[if_neg hb];refine Al (wpAny_setField hT vy (Array.getElem?_eq_some_iff.mp h3).1 ?_);have other:∀b,b≠T->(s.heap.update T (Obj.mapFields (·.setIfInBounds 3 Value.none))).get? b=s.heap.get? b:=λb hb=>Heap.get?_update_other _ _ (Ne.symm hb);have rec0:∀b o,s.heap.get? b=some o->(∀vs,o.data≠.fields vs)->b≠T:=λb o hb hnf q=>by
   rw[q,hT]at hb;injection hb with hb;subst hb;exact hnf ts vy
  exact wpAny_newEntryW rh (hl.of_keeps λb o hb hnf=>⟨o,(other b (rec0 b o hb hnf)).trans hb,Y⟩) hf ((other e (Ne.symm hTe)).trans he)
   (λb o hbo=>(other b λq=>by rw[q,hnT]at hbo;cases hbo).trans (yj b o hbo)) hen hd (Array.getElem?_eq_some_iff.mp h1).1 h0
   λh' ⟨x1,x2,x3,x4⟩=>h h' ⟨x1,x2,x3,λb o hb hnf=>x4 b o ((other b (rec0 b o hb hnf)).trans hb) hnf⟩
section
variable{P:Program}{w:World}{K:W.Frag}{mg:Str->Option Value}{base:Heap}
def Zmt{N:List Str}{qual:Str}{scope:Scope}{f:Addr}{cd:Value}{A:Around}{outer:List Env}{s s':Shared}{H:Hp}{E:XK}{ev:Value}{j':List (j:)}
  (h:XA (ax:).nox j' E ev s'):(ax:).xe ev s':=by
 obtain⟨e,T,cls,a0,fl,σ',H',rfl,I,hx,fe,fT,q⟩:=h;show wpAny (aa:) (A.deeper (H:)) (leaving (H:) (.ref e)) (λ_ qd=>CXr P w outer H s E (.ref e) qd) (λe' qd=>CXr P w outer H s E e' qd) s';have rh:(A.deeper (H:)).frames=some (h:):=I.ok.frames;have n0:∀b,b∈[e,T]->s.heap.get? b=none:=λb hb=>by
  rcases Ar hb with z|z
  ·rw[z];exact fe.n0
  ·obtain rfl:b=T:=by simpa using z
   exact fT.n0
 have nt:∀b,b∈[e,T]->H' b=none:=λb hb=>by
  rcases Ar hb with z|z
  ·rw[z];exact fe.nt
  ·obtain rfl:b=T:=by simpa using z
   exact fT.nt
 have hB:∀b o,b∉[e,T]->b∉frs (h:)->s'.heap.get? b=some o->(PySem.W.hideAll s'.heap ([e,T]++frs (h:))).get? b=some o:=λb o h1 h2 e1=>
  PySem.W.hideAll_get _ e1 λz=>(mem_append.mp z).elim h1 h2
 have hl:s'.heap.FunFrames (PySem.W.hideAll s'.heap ([e,T]++frs (h:))) (h:):=Ql I _ λb hb=>mem_append_right _ hb;have yj:(PySem.W.hideAll s'.heap ([e,T]++frs (h:))).StaysIn s'.heap:=λb o e1=>PySem.W.of_hideAll _ e1;have hen:(PySem.W.hideAll s'.heap ([e,T]++frs (h:))).get? e=none:=PySem.W.hideAll_none _ (mem_append_left _ mem_cons_self);obtain⟨oe,vs,oT,ts,y1,y2,y3,y4,y5,y6,y7,y8⟩:=hx;refine G2 rh hl Y ⟨oe,vs,T,oT,ts,y1,y2,y3,y4,PySem.W.hideAll_none _ (mem_append_left _ (by simp)),y5,y6,y7,y8⟩ yj hen λh' me=>?_;obtain⟨k1,k2,k3,k4⟩:=me;obtain⟨oe,vs,T',oT,ts,x1,x2,x3,x4,x5,x6,x7,x8,x9⟩:=k3;have pw:∀b o,b∈frs (h:)->s'.heap.get? b=some o->∃sl,h'.get? b=some {o with slots:=sl}:=λb o hb e1=>k4 b o e1 (I.fnd hb e1);have kept:∀b o,b∉[e,T]->b∉frs (h:)->s'.heap.get? b=some o->h'.get? b=some o:=λb o h1 h2 e1=>k1 b o (hB b o h1 h2 e1);have nL:∀b o,s.heap.get? b=some o->b∉frs outer->b∉frs (h:):=λb o e1 h2 z=>by
  have z':b∈s.heap.objs.size::frs outer:=z
  rcases Ar z' with z1|z1
  ·rw[z1]at e1;exact absurd (Ao e1) (Nat.lt_irrefl _)
  ·exact h2 z1
 have nE:∀b o,s.heap.get? b=some o->b∉[e,T]:=λb o e1 z=>by rw[n0 b z]at e1;cases e1
 have tq:∀b u,H' b=some u->∀o,s'.heap.get? b=some o->h'.get? b=some o:=λb u hu o e1=>by
  refine kept b o (λz=>by rw[nt b z]at hu;cases hu) (λz=>?_) e1;rw[I.stkFree b z]at hu;cases hu
 have hT':s.heap.get? T'=none/\H' T'=none:=by
  by_cases hz:s'.heap.get? T'=none
  ·refine⟨?_,I.untr hz⟩
   cases q':s.heap.get? T' with
   |none=>rfl
   |some o=>
    obtain⟨o',e'⟩:=I.base.there T' o q' (by simp[cxOf]);rw[hz]at e';cases e'
  ·obtain⟨o,ho⟩:=Option.ne_none_iff_exists'.mp hz
   by_cases h1:T'∈[e,T]
   ·exact⟨n0 T' h1,nt T' h1⟩
   ·by_cases h2:T'∈frs (envOfC qual scope s.heap.objs.size f cd::outer)
    ·exfalso
     obtain⟨sl,e'⟩:=pw T' o h2 ho;rw[x7]at e';cases e';exact I.fnd h2 ho ts x8
    ·rw[hB T' o h1 h2 ho]at x5;cases x5
 refine⟨e,T',cls,a0,H',Y,I.os,I.bare,?_,λb u hu=>?_,fe.n0,hT'.1,fe.nt,hT'.2,⟨oe,vs,oT,ts,x1,x2,x3,x4,x6,x7,x8,x9⟩,q⟩
 ·refine Un.leave I.base (λb o e1 h1 e2=>kept b o (nE b o e1) (nL b o e1 h1) e2) (λb o hb e1=>pw b o (mem_cons_of_mem _ hb) e1) λb o e1 o' e2=>?_
  by_cases h2:b∈frs outer
  ·obtain⟨sl,e'⟩:=pw b o' (mem_cons_of_mem _ h2) e2
   exact⟨_,e'⟩
  ·exact⟨o',kept b o' (nE b o e1) (nL b o e1 h2) e2⟩
 ·refine(I.hok b u hu).stay (λc v hc e1=>?_) (λ_ z=>z) λ_ _ z=>z
  rcases hc with z|z
  ·exact tq c u (by rw[z];exact hu) v e1
  ·exact tq c _ z v e1
end
section
variable{X:Cx}{ts:List Str}{fv:List (Str×Nat)}{scope:Scope}{nu t0 i0:Expr}{f0:List Expr}{l8:List Comprehension}{pos:Pos}{wi:TI}{g:TG}{tt:TT}{tb:Addr->TBX}{mv:Env->Addr->Addr->Sem Fin}
theorem Zot(B:BlkOk X scope fv)(hc:X.calm=true)(hi:PI X t0 i0 wi)
  (hg:∀C s₀ H₀ ex,PG (e:) t0 g) (ht:∀C s₀ H₀ ex,PTs (e:) f0 tt)
  (qf:∀ (env:Env) (it D:Addr),compTurn (f:) 0 (.ref it) (.ref D) env=(standAt i0.pos >>= λ_=>pyNext (.ref it) >>= λr=>match r with
   |none=>pure (.done .next)
   |some v=>letOwnedTupleGo t0 (.ref it) v>>=λ_=>assign t0 env v>>=λ_=>
    (k:)>>=λok=>
     if ok=true then mv env it D else again (bn:)))
  (hb:∀C s₀ H₀ ex it D,PBX (e:) (mv (e:).env it D) (a8:) (tb D))
  (hex:X.ex=[]:=by rfl) (qo:X.xe=(az:):=by rfl) (om:∃o,X.stack=X.env::o:=by exact⟨_,rfl⟩) (rh:X.env.frame=some X.env.locals:=by rfl) (hs:∀x,foldedSetIterable i0 X.env x=pure x:=by intro _;rfl):
  PEA X (f:) (Ze4 ts fv wi g tt tb):=λ_ _ _ _ _ _ I h=>Zva B hc hi hex qo om rh hg ht qf hb hs I h
end
def Zm6{K:W.Frag}{a:Addr}{xs:List V}{g:TG}{tb:TSX}{R:Value->St->Hp->Prop}{D:Ends}{σ:St}{H:Hp}(Pv:Nat->St->Hp->Prop)(h0:Pv 0 σ H)(hl:∀i σ H,i<=xs.length->Pv i σ H->SqL K H a xs)
  (hs:∀i x σ H,xs[i]?=some x->Pv i σ H->g x σ H λσ2 H2=>tb {D with nx:=Pv (i+1),ct:=Pv (i+1),bk:=D.nx} R σ2 H2) (hd:∀σ H,Pv xs.length σ H->D.nx σ H):
  ∃W:Nat->Nat->St->Hp->Prop,(∃m,W 0 m σ H)/\∀i m σ H,W i m σ H ->
   ((Itl K a).stop i H/\D.nx σ H)\/((Itl K a).go i H/\∃N:St->Hp->Prop,(p:)/\∀x H',(Itl K a).yld i H x H'->g x σ H' λσ2 H2=>tb {D with nx:=N,ct:=N,bk:=D.nx} R σ2 H2):=
 Zak (tb:=λD' σ' H'=>tb D' R σ' H') Pv h0 hl hs hd
section
variable{prog:Program}{w:World}{A:Around}{E:Value->Shared->Prop}{s:Shared}
def Zmo:typeLookup (.type "list") "keys"=pure none:=am_miss_of_fast (n:)
def Zms{a:Addr}{xs:Array Value}{Q:Option Value->Shared->Prop}(hx:PlainL s.heap a xs)(hA:A.handled=none)
  (h:∀h' tk,(a4:)->Q none {s with heap:=h',toks:=tk}):wpAny (ae:) A (getAttr? (.ref a) "keys") Q E s:=by
 obtain⟨⟨c,dct,dat,sl⟩,k,hx,hc,hd,xc⟩:=hx;simp only at hc xc hd;subst hc xc hd;obtain⟨hp,g,d,tk,os⟩:=s;have hT:∀zn,(⟨hp,g,d,zn,os⟩:Shared).TypeIs (.ref a) "list":=λ_=>⟨_,hx,rfl⟩;have f1:=sub_AttributeError;have f3:=PySem.F.slot_list_getattribute.lookup;have f4:=PySem.F.slot_list_getattribute.bind (.ref a);have f5:=am_list_getattr_none;unfold getAttr? getAttrBy? getAttrBy
 repeat (any_goals (first|assumption|exact hT _|((with_reducible show wpAny _ _ (call (Value.builtin "list.__getattribute__") _ _) _ _ _);refine call_meets PySem.F.slot_list_getattribute (hT _) am_entry_list_getattribute (PySem.F.args_list_getattribute_2 _ _) (meets_getattribute_miss_list a xs k sl "keys" _ Zmo (n:)) ⟨hx,hA,λh' zn e p4=>?_⟩)|wp_step))
 obtain⟨t',u',he⟩:=p4.there;show wpAny _ _ (getattributeRaised _ _ _ _ _ _ _) _ _ _;unfold getattributeRaised
 repeat (any_goals (first|assumption|wp_step))
 exact h _ _ p4.keeps
def Go:plainId "dict.update.loop"=true:=by decide+kernel
def Zjd:entryFor table "dict.update.loop"=some Builtin.«dict.update.loop»:=entryFor_of_fast (by kernel_rfl)
variable{κ:Type}[DecidableEq κ]{knd:KeyKind prog w κ}{R:Result->Shared->Prop}{I:Addr}{fp wr:List Addr}{G:Array GenState->Array GenState->Prop}{n:Nat}{Pv:Nat->Value->Prop}{St:Nat->Shared->Prop}
def Znb(W:WalksS prog w A.in1 I fp wr G n Pv St){D:Addr}{h₀:Heap}(hD:D∉fp)(h0:∀b o,h₀.get? b=some o->b∉wr/\b≠D){kvs:List (κ×Value)}(hn:kvs.length=n)(nd:(kvs.map (·.1)).Nodup)(hb:n<=sizeLine)
  (hv:∀i v,Pv i v->∃q key kv,v=.ref q/\kvs[i]?=some kv/\knd.is kv.1 key=true/\IsTup h₀ q #[key,kv.2]):∀(k i:Nat)(j:Int)(s:Shared),n-i=k->i<=n->St i s->(∀b o,h₀.get? b=some o->s.heap.get? b=some o)->s.heap.DictOf knd D (kvs.take i) ->
   (∀s',Moved (D::wr) G s s'->s'.heap.DictOf knd D kvs->R (.ok (.ret .none)) s')->codeAny (ae:) A (.builtin "dict.update.loop" ⟨[.ref D,.ref I,rawInt j,.none],[]⟩) R s:=by
 have hw:D∉wr:=λz=>hD (W.sub _ z);have mn:∀b∈wr,b∈D::wr:=λb hb=>mem_cons_of_mem _ hb;have kp:∀{s s1:Shared}{l},Moved wr G s s1->s.heap.DictOf knd D l->s1.heap.DictOf knd D l:=λhm hd=>by
  obtain⟨o,es,ep,ho,r⟩:=hd
  exact⟨o,es,ep,hm.heap D o hw ho,r⟩
 intro k
 induction k with
 |zero=>
  intro i j s hk hi st hs hd m9;obtain rfl:i=n:=by lia
  refine codeAny_builtin Zjd ?_;rw[Around.under_plainId Go _];show wpAny _ A.in1 (pyNext (.ref I)>>=_) _ _ s;refine Al (W.done s _ _ st λs' hm=>?_);rw[<-hn,take_length]at hd;exact Al (wpAny_pure (wpAny_pure (m9 s' (hm.mono mn) (kp hm hd))))
 |succ k ih=>
  intro i j s hk hi st hs hd m9;have lt:i<n:=by lia
  refine codeAny_builtin Zjd ?_;rw[Around.under_plainId Go _];show wpAny _ A.in1 (pyNext (.ref I)>>=_) _ _ s;refine Al (W.item i s _ _ lt st λv s1 hP vi hm=>?_);obtain⟨q,key,kv,rfl,ek,zc,o,ho,hc,m,xc⟩:=hv i v hP;have wk:∀b o,h₀.get? b=some o->s1.heap.get? b=some o:=λb o e=>hm.heap b o (h0 b o e).1 (hs b o e);have hq:=wk _ _ ho;have ur:=kp hm hd;show wpAny _ A.in1 (holding [Value.ref q] _>>=_) _ _ s1;refine Al (wpAny_holding (Al (wpAny_tryCatch ?_)));unfold Builtin.Dict.pairItems;refine Al (wpAny_typeOf ⟨_,hq,hc⟩ ?_);rw[if_pos (d:)];refine Al (wpAny_seqItems hq xc (as:));show wpAny _ A.in1 (holding [key,kv.2] (dictSet D key kv.2)) _ _ s1;have e1:stored (kvs.take i) kv.1 kv.2=kvs.take (i+1):=by
   have yk:i<kvs.length:=by lia
   rw[Aw,ek]
   unfold stored
   rw[if_neg]
   ·rfl
   ·intro z
    obtain⟨y,hy,e⟩:=any_eq_true.mp z
    have e:=of_decide_eq_true e
    rw[<-take_append_drop i kvs,Aj,nodup_append]at nd
    refine nd.2.2 y.1 (mem_map.mpr ⟨y,hy,Y⟩) kv.1 ?_ e
    rw[drop_eq_getElem_cons yk,(Aa ek).2]
    exact mem_cons_self
  refine wpAny_holding (wpAny_dictSet_pairs (hsz:=by rw[Ai];lia) zc ur λh' t8 sb=>?_);rw[e1]at t8;have ot:∀b o,b≠D->s1.heap.get? b=some o->h'.get? b=some o:=λb o hb e=>by rw[sb.2 b hb];exact e
  refine wpAny_pure ⟨plainId_quiet Go _,ih (i+1) _ _ (by lia) lt (W.frame _ s1 _ _ vi (le_succ _) λb hb o e=>ot b o (λz=>hD (z▸hb)) e) (λb o e=>ot b o (h0 b o e).2 (wk b o e)) t8 λs3 hm3 hd3=>?_⟩;exact m9 s3 (Moved.trans W.gtrans ((hm.mono mn).then_heap (le_succ _) λb o hb e=>ot b o (λz=>hb (z▸mem_cons_self)) e) hm3) hd3
def Zer{l:Addr}{its:Array Value}{kvs:List (κ×Value)}{Q:Value->Shared->Prop}(hh:A.handled=none)(hl:PlainL s.heap l its)(hn:kvs.length=its.size)(nd:(kvs.map (·.1)).Nodup)(hb:its.size<=sizeLine)
  (hv:∀(i:Nat)v,its[i]?=some v->∃q key kv,v=.ref q/\kvs[i]?=some kv/\knd.is kv.1 key=true/\IsTup s.heap q #[key,kv.2])
  (h:∀(h':Heap)(tk:Nat),h'.DictOf knd s.heap.objs.size kvs->(a4:)->Q (C:) {s with heap:=h',toks:=tk}):
  wpAny (ae:) A (call (.type "dict") [.ref l]) Q E s:=by
 refine callType_codes (Q₁:=λobj s₁=>obj=.ref s.heap.objs.size/\s₁={s with heap:=s.heap.push {cls:=.type "dict",data:=.dict #[]} }) PySem.F.kt_called_dict (PySem.F.kt_typeCall_dict_1 _) PySem.F.entry_dict_init (kt_code_dict_new _ ⟨rfl,rfl⟩) ?_;rintro obj s₁ ⟨rfl,rfl⟩;have pi:(s.heap.push {cls:=.type "dict",data:=.dict #[]}).DictOf knd s.heap.objs.size []:=Heap.DictOf.new s.heap;refine⟨pi.typeIs,PySem.F.args_dict_init_2 _ _,?_⟩;have kp1:∀b o,s.heap.get? b=some o->(s.heap.push {cls:=.type "dict",data:=.dict #[]}).get? b=some o:=λb o e=>Ak _ e;have n8:PlainL (s.heap.push {cls:=.type "dict",data:=.dict #[]}) l its:=by
  obtain⟨o,m,ho,r⟩:=hl
  exact⟨o,m,kp1 _ _ ho,r⟩
 have ll:l<s.heap.objs.size:=by obtain⟨o,m,ho,r⟩:=hl;exact Ao ho
 have hsz:(s.heap.push {cls:=.type "dict",data:=.dict #[]}).objs.size=s.heap.objs.size+1:=Heap.size_push ..;unfold Builtin.«dict.__init__»;refine Al ?_;unfold Builtin.Dict.selfAndRest;refine Al (wpAny_notOrdered_dict pi.typeIs ?_);show wpAny _ _ (pure (s.heap.objs.size,[Value.ref l])) _ _ _;refine wpAny_pure ?_;show wpAny _ _ (Builtin.Dict.updateFrom "dict.__init__" s.heap.objs.size (.ref l) [] .none) _ _ _;unfold Builtin.Dict.updateFrom;have hT:Shared.TypeIs {s with heap:=s.heap.push {cls:=.type "dict",data:=.dict #[]} } (.ref l) "list":=by
  obtain⟨o,m,ho,hc,_⟩:=n8
  exact⟨o,ho,hc⟩
 refine Al (wpAny_typeOf hT ?_);rw[if_pos (d:)];refine Al (Zms n8 (by simp[hh]) λh2 tk2 kp2=>?_);rw[if_pos (d:)];refine Al (wpAny_rule ?_);have hli:h2.IsList l its:=by
  obtain⟨o,m,ho,hc,_,hd⟩:=n8
  exact⟨o,kp2 _ _ ho,hc,m,hd⟩
 have l2:=Ao (kp2 _ _ (Ap s.heap (o:={cls:=.type "dict",data:=.dict #[]}) rfl));have ll2:l<h2.objs.size:=by obtain⟨o,ho,_⟩:=hli;exact Ao ho
 refine Al (wpAny_pyIter_list hli (wpAny_pure ⟨plainId_quiet Go _,?_⟩));refine Znb (knd:=knd) (h₀:=s.heap) ((Walks.list (show A.in1.in1.handled=none by simp[hh]) _ l (As ll2) its).toS) (D:=s.heap.objs.size) ?_ (λb o e=>?_) hn nd hb (λi v wf=>hv i v wf) (its.size-0) 0 0 _ (by lia) (Az _) ?_ ?_ ?_ λs' hm hd=>?_
 ·simp only[mem_cons,not_mem_nil,or_false,not_or]
  exact⟨As l2,Nat.ne_of_gt ll⟩
 ·have hb:=Ao e
  simp only[mem_cons,not_mem_nil,or_false];exact⟨As (Nat.lt_trans hb l2),As hb⟩
 ·exact⟨⟨_,Ap _ Y,Y,Y⟩,hli.push _⟩
 ·exact λb o e=>Ak _ (kp2 _ _ (kp1 _ _ e))
 ·obtain⟨o,es,ep,ho,r⟩:=pi
  exact⟨o,es,ep,Ak _ (kp2 _ _ ho),r⟩
 ·obtain⟨h',g',d',zn,os'⟩:=s'
  obtain rfl:g'=s.gens:=hm.gens;obtain rfl:d'=s.drawn:=hm.drawn;obtain rfl:os'=s.os:=hm.os;refine⟨Y,h h' zn hd λb o e=>?_⟩;have hb:=Ao e;refine hm.heap b o ?_ (Ak _ (kp2 _ _ (kp1 _ _ e)));simp only[mem_cons,not_mem_nil,or_false,not_or];exact⟨As hb,As (Nat.lt_trans hb l2)⟩
end
section
variable{X:Cx}
theorem Zgk{j':List (j:)}{s:Shared}{σ:St}{H:Hp}(I:Inv X j' σ H s):∀(qs:List Addr)(kvs:List (Key×V)),qs.length=kvs.length->(∀(i:Nat)q kv,qs[i]?=some q->kvs[i]?=some kv->H q=some (.tup [kV kv.1,kv.2])) ->
  ∃vs:List (Key×Value),KV kvs vs/\vs.map (·.1)=kvs.map (·.1)/\∀(i:Nat)q,qs[i]?=some q->∃key kv,vs[i]?=some kv/\(Yj X.prog X.w).is kv.1 key=true/\IsTup s.heap q #[key,kv.2]
 |[],[],_,_=>⟨[],.nil,rfl,λi q e=>by simp at e⟩
 |q::qs,kv::kvs,hl,h=>by
  obtain⟨vs,h1,h2,h3⟩:=Zgk I qs kvs (Nat.succ.inj hl) λi q kv e1 e2=>h (i+1) q kv e1 e2;obtain⟨its,rt,ht,_⟩:=I.tuple (SqT.of (h 0 q kv rfl rfl));obtain⟨key,v,rfl,rk,rv⟩:=Ztw rt;refine⟨(kv.1,v)::vs,.cons ⟨Y,rv⟩ h1,by rw[map_cons,map_cons,h2],λi q' e=>?_⟩
  cases i with
  |zero=>cases e;exact⟨key,_,Y,J3 rk,ht⟩
  |succ i=>exact h3 i q' e
def Zkx(hc:X.calm=true):Y6 X (.type "dict") (λxs H Q=>∃(l:Addr)(qs:List Addr)(kvs:List (Key×V)),xs=[.ref l]/\H l=some (.lst (qs.map V.ref))/\qs.length=kvs.length/\(∀(i:Nat)q kv,qs[i]?=some q->kvs[i]?=some kv->H q=some (.tup [kV kv.1,kv.2]))/\(kvs.map (·.1)).Nodup/\∀p,H p=none->Q (.ref p) (upd H p (.dK kvs))):=by
 intro j' s σ H xs us Q I r h;obtain⟨l,qs,kvs,rfl,hl,l9,hq,nd,q⟩:=h;obtain⟨u,rfl,ru⟩:=Xb r;obtain rfl:u=Value.ref l:=ru;obtain⟨its,ra,pl,hz⟩:=I.list (SqL.of hl);obtain⟨vs,kv,ek,hp⟩:=Zgk I qs kvs l9 hq;have n8:=ra.length;rw[Ab]at n8 hz;have pf:=kv.length;refine Zer (knd:=Yj X.prog X.w) (kvs:=vs) (I.ok.hd hc) pl (by rw[Aq];lia) (by rw[ek];exact nd) (by rw[Aq];lia) (λi v hv=>?_) λh' tk hd kp=>?_
 ·rw[getElem?_toArray]at hv
  obtain⟨q',n9⟩:∃q',qs[i]?=some q':=⟨_,Ac (by have:=(Aa hv).1;lia)⟩;obtain⟨v',wf,rv⟩:=ra.get (i:=i) (x:=.ref q') (by rw[Ah,n9];rfl);rw[hv]at wf;cases wf;obtain⟨key,kv',h1,h2,h3⟩:=hp i q' n9;exact⟨q',key,kv',rv,h1,h2,h3⟩
 ·refine⟨.ref s.heap.objs.size,_,I.laid (a:=s.heap.objs.size) (o:=.dK kvs) (t':=tk) kp (An _) ⟨by lia,?_,vs,kv,hd⟩,Y,q _ (I.hok.fresh (An _))⟩
  exact(Oz (P:=X.prog) (w:=X.w) (H:=H) s.heap I.big).2.1
end
section
variable{P:Program}{w:World}{A:Around}{E:Value->Shared->Prop}{s:Shared}
def Znh(hh:A.handled=none)(it t:Addr)(mw:t≠it)(its:Array Value):Draws P w A it [it,t] its.size (λi v=>its[i]?=some v) (λi h=>IsTupIter h it t i/\IsTup h t its):=by
 refine⟨λ_ _ st=>let⟨o,ho,_⟩:=st.1;⟨o,ho⟩,λ_ _ _ st k=>?_,λi s Q E hi st hQ=>?_,λs Q E st hE=>?_⟩
 ·obtain⟨⟨o,ho,r⟩,o2,tz,r2⟩:=st
  exact⟨⟨o,k it (by simp) o ho,r⟩,o2,k t (by simp) o2 tz,r2⟩
 ·obtain⟨hit,ht⟩:=st
  obtain⟨o,ho,hc,hd⟩:=id hit;obtain⟨ol,uo,_,nl,sv⟩:=id ht;have hx:its[i]?=some its[i]:=Array.getElem?_eq_getElem hi;unfold Builtin.SmallTypes.nextOf;refine Al (bk:);refine Al (m:=field (.ref it) 0) (wpAny_field ho hd (x:=.ref t) Y ?_);show wpAny _ _ (if(Value.ref t==Value.none)=true then _ else _) _ _ s;rw[if_neg (show ¬((Value.ref t==Value.none)=true)from Bool.false_ne_true)];refine Al (m:=field (.ref it) 1) (wpAny_field ho hd (x:=.int i 0) Y (Al (m:=seqItems? (.ref t)) (wpAny_seqItems uo sv ?_)));simp only[Int.toNat_natCast,hx];refine Al (wpAny_setField ho hd (by simp) (wpAny_pure ⟨its[i],Y,wpAny_pure (hQ _ _ s.toks hx ⟨?_,(Heap.get?_update_other _ _ (Ne.symm mw)).trans uo |> λe=>⟨ol,e,‹_›,nl,sv⟩⟩ (Heap.SameBut.update ..))⟩));exact⟨_,Heap.get?_update_self _ ho (Obj.isFreed_of_fields (Obj.data_mapFields hd _)),(Obj.cls_mapFields ..).trans hc,by rw[Obj.data_mapFields hd];simp[rawInt]⟩
 ·obtain⟨hit,ht⟩:=st
  obtain⟨o,ho,hc,hd⟩:=id hit;obtain⟨ol,uo,_,nl,sv⟩:=id ht;unfold Builtin.SmallTypes.nextOf;refine Al (bk:);refine Al (m:=field (.ref it) 0) (wpAny_field ho hd (x:=.ref t) Y ?_);show wpAny _ _ (if(Value.ref t==Value.none)=true then _ else _) _ _ s;rw[if_neg (show ¬((Value.ref t==Value.none)=true)from Bool.false_ne_true)];refine Al (m:=field (.ref it) 1) (wpAny_field ho hd (x:=.int its.size 0) Y (Al (m:=seqItems? (.ref t)) (wpAny_seqItems uo sv ?_)));simp only[Int.toNat_natCast,Array.getElem?_eq_none (An its.size)];refine Al (wpAny_rule (Al (wpAny_setField ho hd (by simp) ?_)));refine Al (m:=newExc (.type "StopIteration") []) ?_;simp only[newExc,newTuple];refine Al (wpAny_newObj_type ?_ (by size_fits));refine Al (m:=firstArgMember _ _) (wpAny_of_eq (a:=Value.none) (by first|rfl|(simp only[firstArgMember];rfl)) (wpAny_newObj_type ?_ (by size_fits)));exact wpAny_raiseNew_none (A:=A.in1) hh (hE _ _ (((Heap.SameBut.update ..).extBut.push _).push _) ⟨_,Ap _ Y,Y⟩)
structure ZA(z TI TO i1 i2:Addr)(f1 f2:List Addr):Prop where
 TIz:TI≠z
 TOz:TO≠z
 i1z:i1≠z
 i2z:i2≠z
 TITO:TI≠TO
 TIi1:TI≠i1
 TIi2:TI≠i2
 TOi1:TO≠i1
 TOi2:TO≠i2
 i12:i1≠i2
 z1:z∉f1
 z2:z∉f2
 t1:TO∉f1
 t2:TO∉f2
 a1:i2∉f1
 a2:i1∉f2
variable{z TI TO i1 i2:Addr}{f1 f2:List Addr}{n1 n2:Nat}{P1 P2:Nat->Value->Prop}{S1 S2:Nat->Heap->Prop}{a b:Value}
def Zk0{k:Nat}{Q:Option Value->Shared->Prop}(D1:Draws P w A.in1 i1 f1 n1 P1 S1)(D2:Draws P w A.in1 i2 f2 n2 P2 S2)(D:ZA z TI TO i1 i2 f1 f2)(hz:IsZip s.heap z TI TO .none)(hTI:IsPair s.heap TI (.ref i1) (.ref i2))(hTO:IsPair s.heap TO a b)
  (s1:S1 k s.heap) (s2:S2 k s.heap) (l1:k<n1) (l2:k<n2)
  (hQ:∀ x y h' tk,P1 k x->P2 k y->IsZip h' z TI TO (rawInt s.heap.objs.size)->IsPair h' TO x y->S1 (k + 1) h'->S2 (k + 1) h'->IsPair h' s.heap.objs.size x y ->
   (∀c o,c≠z->c≠TO->c≠i1->c≠i2->s.heap.get? c=some o->h'.get? c=some o)->Q (some (C:)) {s with heap:=h',toks:=tk}):wpAny (aa:) A (pyNext (.ref z)) Q E s:=by
 have hT:s.TypeIs (.ref z) "zip":=⟨_,hz,rfl⟩;unfold pyNext;refine Al (bf:);refine Al (m:=field (.ref z) 2) (wpAny_field hz Y (x:=.bool false) Y ?_);refine Al (m:=field (.ref z) 3) (wpAny_field hz Y (x:=.ref TI) Y (Al (wpAny_seqItems hTI Y ?_)));refine Al (m:=Builtin.SmallTypes.ownedTupleIsFree (.ref z)) ?_;unfold Builtin.SmallTypes.ownedTupleIsFree;refine Al (wpAny_field hz Y (x:=.none) Y (as:));simp only[if_true];refine Al (wpAny_rule (Al (wpAny_field hz Y (x:=.ref TO) Y (Al (wpAny_setField_rec hz (by simp) λg1 q1 b1=>?_)))));replace q1:IsZip g1 z TI TO .ellipsis:=q1;refine Al ?_;simp only[zipIdx_cons,zipIdx_nil,forIn_cons,forIn_nil];refine Al (Al (wpAny_onRaise (Al (m:=Builtin.SmallTypes.nextOf (.ref i1)) (D1.item k _ _ _ l1 (D1.frame k _ _ s1 λc hc o e=>b1.extBut c o (λq=>D.z1 (q▸hc)) e) λx g2 tk2 px n6 b2=>wpAny_pure ?_))));have r2:IsPair g2 TO a b:=b2.extBut _ _ D.TOi1 (b1.extBut _ _ D.TOz hTO);refine Al (wpAny_seqItems r2 Y (Al (wpAny_updateSeq_pair r2 λg3 r3 b3=>Al (wpAny_letGo (as:)))));replace r3:IsPair g3 TO x b:=r3;have o4:S2 k g3:=D2.frame k _ _ s2 λc hc o e=>b3.extBut c o (λq=>D.t2 (q▸hc)) (b2.extBut c o (λq=>D.a2 (q▸hc)) (b1.extBut c o (λq=>D.z2 (q▸hc)) e));refine Al (Al (wpAny_onRaise (Al (m:=Builtin.SmallTypes.nextOf (.ref i2)) (D2.item k _ _ _ l2 o4 λy g4 tk4 py tw b4=>wpAny_pure ?_))));have r4:IsPair g4 TO x b:=b4.extBut _ _ D.TOi2 r3;refine Al (wpAny_seqItems r4 Y (Al (wpAny_updateSeq_pair r4 λg5 r5 b5=>Al (wpAny_letGo (wpAny_pure (as:))))));replace r5:IsPair g5 TO x y:=r5;refine Al (wpAny_seqItems r5 Y (Al (wpAny_newTuple ?_)));have sz:g5.objs.size=s.heap.objs.size:=by rw[b5.1,b4.1,b3.1,b2.1,b1.1]
 have q5:IsZip g5 z TI TO .ellipsis:=b5.extBut _ _ D.TOz.symm (b4.extBut _ _ D.i2z.symm (b3.extBut _ _ D.TOz.symm (b2.extBut _ _ D.i1z.symm q1)));have k5:∀c o,c≠z->c≠TO->c≠i1->c≠i2->s.heap.get? c=some o->g5.get? c=some o:=λc o c1 c2 c3 c4 e=>b5.extBut _ _ c2 (b4.extBut _ _ c4 (b3.extBut _ _ c2 (b2.extBut _ _ c3 (b1.extBut _ _ c1 e))));have u1:S1 (k+1) g5:=D1.frame _ _ _ n6 λc hc o e=>b5.extBut c o (λq=>D.t1 (q▸hc)) (b4.extBut c o (λq=>D.a1 (q▸hc)) (b3.extBut c o (λq=>D.t1 (q▸hc)) e));have u2:S2 (k+1) g5:=D2.frame _ _ _ tw λc hc o e=>b5.extBut c o (λq=>D.t2 (q▸hc)) e;have zl:z<g5.objs.size:=Ao q5;refine Al (m:=Builtin.SmallTypes.ownedTupleHandOut (.ref z) (.ref g5.objs.size)) ?_;unfold Builtin.SmallTypes.ownedTupleHandOut;refine Al (wpAny_setField_rec (show IsZip (g5.push {cls:=.type "tuple",data:=.seq #[x,y]}) z TI TO .ellipsis from Ak _ q5) (by simp) λg7 q7 b7=>?_);replace q7:IsZip g7 z TI TO (rawInt g5.objs.size):=q7;refine wpAny_setField_rec q7 (by simp) λg8 q8 b8=>?_;replace q8:IsZip g8 z TI TO (rawInt g5.objs.size):=q8;have up:∀c o,c≠z->g5.get? c=some o->g8.get? c=some o:=λc o c1 e=>b8.extBut _ _ c1 (b7.extBut _ _ c1 (Ak _ e));have r8:IsPair g8 g5.objs.size x y:=b8.extBut _ _ (Nat.ne_of_gt zl) (b7.extBut _ _ (Nat.ne_of_gt zl) (Ap _ rfl));rw[sz]at q8 r8;refine wpAny_pure ⟨_,Y,wpAny_pure ?_⟩;show Q (some (.ref g5.objs.size)) _;rw[sz];exact hQ x y g8 tk4 px py q8 (up _ _ D.TOz r5) (D1.frame _ _ _ u1 λc hc o e=>up c o (λq=>D.z1 (q▸hc)) e) (D2.frame _ _ _ u2 λc hc o e=>up c o (λq=>D.z2 (q▸hc)) e) r8 λc o c1 c2 c3 c4 e=>up c o c1 (k5 c o c1 c2 c3 c4 e)
def Zny{k:Nat}{Q:Option Value->Shared->Prop}(D1:Draws P w A.in1 i1 f1 n1 P1 S1)(D2:Draws P w A.in1 i2 f2 n2 P2 S2)(D:ZA z TI TO i1 i2 f1 f2)(hz:IsZip s.heap z TI TO .none)(hTI:IsPair s.heap TI (.ref i1) (.ref i2))(hTO:IsPair s.heap TO a b)
  (s1:S1 k s.heap) (s2:S2 k s.heap) (l1:k=n1\/k<n1/\k=n2)
  (hQ:∀h' tk,(∀c o,c≠z->c≠TO->c≠i1->c≠i2->s.heap.get? c=some o->h'.get? c=some o)->Q none {s with heap:=h',toks:=tk}):wpAny (aa:) A (pyNext (.ref z)) Q E s:=by
 have hT:s.TypeIs (.ref z) "zip":=⟨_,hz,rfl⟩;have m9:∀(h':Heap)(tk:Nat)(e:Addr),(∀c o,c≠z->c≠TO->c≠i1->c≠i2->s.heap.get? c=some o->h'.get? c=some o)->(∃o,h'.get? e=some o/\o.cls=.type "StopIteration") ->
   wpAny (aa:) A (do if<-isInstance (.ref e) (.type "StopIteration")then pure (none:Option Value)else throw (.ref e)) Q E {s with heap:=h',toks:=tk}:=λh' tk e kp ⟨o,ho,hc⟩=>
  Al (wpAny_isInstance (T:="StopIteration") (b:=true) ⟨o,ho,hc⟩ isSubtype_stop (wpAny_pure (hQ _ _ kp)))
 unfold pyNext;refine Al (bf:);refine Al (m:=field (.ref z) 2) (wpAny_field hz Y (x:=.bool false) Y ?_);refine Al (m:=field (.ref z) 3) (wpAny_field hz Y (x:=.ref TI) Y (Al (wpAny_seqItems hTI Y ?_)));refine Al (m:=Builtin.SmallTypes.ownedTupleIsFree (.ref z)) ?_;unfold Builtin.SmallTypes.ownedTupleIsFree;refine Al (wpAny_field hz Y (x:=.none) Y (as:));simp only[if_true];refine Al (wpAny_rule (Al (wpAny_field hz Y (x:=.ref TO) Y (Al (wpAny_setField_rec hz (by simp) λg1 q1 b1=>?_)))));replace q1:IsZip g1 z TI TO .ellipsis:=q1;refine Al ?_;simp only[zipIdx_cons,zipIdx_nil,forIn_cons,forIn_nil];have vi:S1 k g1:=D1.frame k _ _ s1 λc hc o e=>b1.extBut c o (λq=>D.z1 (q▸hc)) e
 rcases l1 with rfl|⟨l1,rfl⟩
 ·refine Al (Al (wpAny_onRaise (Al (m:=Builtin.SmallTypes.nextOf (.ref i1)) (D1.done _ _ _ vi λg2 e b2 ⟨oe,yf,hce⟩=>?_))))
  have q2:IsZip g2 z TI TO .ellipsis:=b2 _ _ D.i1z.symm q1;have ez:e≠z:=λx=>by subst x;rw[q2]at yf;cases yf;simp at hce
  exact wpAny_setField_rec q2 (by simp) λg3 _ b3=>m9 g3 s.toks e (λc o c1 _ c3 _ x=>b3.extBut _ _ c1 (b2 _ _ c3 (b1.extBut _ _ c1 x))) ⟨oe,b3.extBut _ _ ez yf,hce⟩
 ·refine Al (Al (wpAny_onRaise (Al (m:=Builtin.SmallTypes.nextOf (.ref i1)) (D1.item k _ _ _ l1 vi λx g2 tk2 px n6 b2=>wpAny_pure ?_))))
  have r2:IsPair g2 TO a b:=b2.extBut _ _ D.TOi1 (b1.extBut _ _ D.TOz hTO);refine Al (wpAny_seqItems r2 Y (Al (wpAny_updateSeq_pair r2 λg3 r3 b3=>Al (wpAny_letGo (as:)))));have o4:S2 k g3:=D2.frame k _ _ s2 λc hc o e=>b3.extBut c o (λq=>D.t2 (q▸hc)) (b2.extBut c o (λq=>D.a2 (q▸hc)) (b1.extBut c o (λq=>D.z2 (q▸hc)) e));refine Al (Al (wpAny_onRaise (Al (m:=Builtin.SmallTypes.nextOf (.ref i2)) (D2.done _ _ _ o4 λg4 e b4 me=>?_))));obtain⟨oe,yf,hce⟩:=me;have q4:IsZip g4 z TI TO .ellipsis:=b4 _ _ D.i2z.symm (b3.extBut _ _ D.TOz.symm (b2.extBut _ _ D.i1z.symm q1));have ez:e≠z:=λx=>by subst x;rw[q4]at yf;cases yf;simp at hce
  exact wpAny_setField_rec q4 (by simp) λg5 _ b5=>m9 g5 tk2 e (λc o c1 c2 c3 c4 x=>b5.extBut _ _ c1 (b4 _ _ c4 (b3.extBut _ _ c2 (b2.extBut _ _ c3 (b1.extBut _ _ c1 x))))) ⟨oe,b5.extBut _ _ ez yf,hce⟩
end
inductive ZS where
 |l (a:Addr)
 |t (a:Addr)
 |s (x:Str)
noncomputable def ZS.ad:ZS->List Addr
 | .l a=>[a]
 | .t a=>[a]
 | .s _=>[]
def ZS.has(K:W.Frag)(H:Hp)(S:ZS)(xs:List V):Prop:=match S with
 | .l a=>SqL K H a xs
 | .t a=>SqT K H a xs
 | .s x=>x.cps.all (·<128)=true/\xs=x.cps.toList.map λc=>V.str ⟨#[c]⟩
def ZS.it(S:ZS)(i:Addr)(k:Nat)(h:Heap):Prop:=match S with
 | .l a=>h.IsListIter i a k
 | .t a=>IsTupIter h i a k
 | .s x=>∃t,h.IsStrIter i "str_ascii_iterator" x t k
noncomputable def ZS.v:ZS->V
 | .l a=>.ref a
 | .t a=>.ref a
 | .s x=>.str x
def ZS.it_obj{S:ZS}{i:Addr}{k:Nat}{h:Heap}(st:S.it i k h):∃o,h.get? i=some o/\∀v,o.data≠.cell v:=by
 cases S with
 |l a=>obtain⟨o,e,_,d⟩:=st;exact(al:)
 |t a=>obtain⟨o,e,_,d⟩:=st;exact(al:)
 |s x=>obtain⟨t,o,e,_,d⟩:=st;exact(al:)
def ZS.it_keep{S:ZS}{i:Addr}{k:Nat}{h h':Heap}(st:S.it i k h)(kp:∀o,h.get? i=some o->h'.get? i=some o):S.it i k h':=by
 cases S with
 |l a=>obtain⟨o,e,r⟩:=st;exact⟨o,kp o e,r⟩
 |t a=>obtain⟨o,e,r⟩:=st;exact⟨o,kp o e,r⟩
 |s x=>obtain⟨t,o,e,r⟩:=st;exact⟨t,o,kp o e,r⟩
def ZS.has_inj{X:Cx}{j':List (j:)}{σ:List (Option V)}{H:Hp}{s:Shared}(I:Inv X j' σ H s){S:ZS}{xs ys:List V}(h1:S.has X.K H xs)(h2:S.has X.K H ys):xs=ys:=by
 cases S with
 |l a=>exact I.list_inj h1 h2
 |t a=>exact I.tuple_inj h1 h2
 |s x=>rw[h1.2,h2.2]
section
variable{X:Cx}{j':List (j:)}{σ:List (Option V)}{H:Hp}{s:Shared}
def ZS.draws(I:Inv X j' σ H s){A:Around}(hh:A.handled=none){S:ZS}{xs:List V}(h:S.has X.K H xs){i:Addr}(hi:i∉S.ad){k:Nat}(st:S.it i k s.heap):
  ∃(P1:Nat->Value->Prop)(St:Nat->Heap->Prop),Draws X.prog X.w A i (i::S.ad) xs.length P1 St/\St k s.heap/\(∀k h,St k h->S.it i k h)/\∀(k:Nat)(v:Value)(x:V),P1 k v->xs[k]?=some x->RelV x v:=by
 cases S with
 |l a=>
  obtain⟨its,rv,pl,_⟩:=I.list h;have hl:xs.length=its.toArray.size:=by rw[Aq];exact rv.length
  have mw:a≠i:=λz=>hi (by rw[z];exact mem_singleton.mpr Y);refine⟨_,_,hl▸Draws.list hh i a mw its.toArray,⟨st,pl.isList⟩,λk h st=>st.1,λk v x hv hx=>?_⟩;obtain⟨u,hu,ru⟩:=rv.get hx;have:its.toArray[k]?=some v:=hv;rw[getElem?_toArray,hu]at this;cases this;exact ru
 |t a=>
  obtain⟨its,rv,pl,_⟩:=I.tuple h;have hl:xs.length=its.toArray.size:=by rw[Aq];exact rv.length
  have mw:a≠i:=λz=>hi (by rw[z];exact mem_singleton.mpr Y);refine⟨_,_,hl▸Znh hh i a mw its.toArray,⟨st,pl⟩,λk h st=>st.1,λk v x hv hx=>?_⟩;obtain⟨u,hu,ru⟩:=rv.get hx;have:its.toArray[k]?=some v:=hv;rw[getElem?_toArray,hu]at this;cases this;exact ru
 |s x=>
  obtain⟨ha,rfl⟩:=h;obtain⟨t,st⟩:=st;have hl:(x.cps.toList.map λc=>V.str ⟨#[c]⟩).length=x.cps.size:=by rw[Ab,Array.length_toList]
  refine⟨_,_,hl▸Draws.strAscii hh i x t,st,λk h st=>⟨t,st⟩,λk v y hv hy=>?_⟩;obtain⟨c,u,hc,rfl⟩:=hv;rw[Ah,Array.getElem?_toList,hc]at hy;cases hy;exact⟨u,Y⟩
end
noncomputable def Itz2(K:W.Frag)(S T:ZS):It:=
  ⟨λi H=>∃xs ys x y,S.has K H xs/\T.has K H ys/\xs[i]?=some x/\ys[i]?=some y,
   λi H v H'=>∃q x y,H q=none/\v=.ref q/\(∀xs,S.has K H xs->xs[i]?=some x)/\(∀ys,T.has K H ys->ys[i]?=some y)/\H'=upd H q (.tup [x,y]),
   λi H=>∃xs ys,S.has K H xs/\T.has K H ys/\i=xs.length/\xs.length=ys.length⟩
def m5{α:Type}{c z a b d e:α}:c∈[z,a,b,d,e] ↔ c=z\/c=a\/c=b\/c=d\/c=e:=by simp
def m4{α:Type}{c z a b d:α}:c∈[z,a,b,d] ↔ c=z\/c=a\/c=b\/c=d:=by simp
def n4{α:Type}{c z a b d:α}(h:c∉[z,a,b,d]):c≠z/\c≠a/\c≠b/\c≠d:=by simpa using h
def Zk4{P:Program}{w:World}{K:W.Frag}{pk:List Expr}{x1:Nat}{pos:Pos}(S T:ZS)(z TI TO i1 i2:Addr)(D:ZA z TI TO i1 i2 (i1::S.ad) (i2::T.ad))(h1:i1∉S.ad)(h2:i2∉T.ad):
  Turn P w K (.Tuple pk x1 pos) (Itz2 K S T) [z,TI,TO,i1,i2] z (λi h=>IsZip h z TI TO .none/\IsPair h TI (.ref i1) (.ref i2)/\(∃u v,IsPair h TO u v)/\S.it i1 i h/\T.it i2 i h) where
 mem:=mem_cons_self
 obj:=λi h st c hc=>by
  obtain⟨s1,s2,⟨u,v,s3⟩,s4,s5⟩:=st;have hc:=m5.mp hc
  rcases hc with rfl|rfl|rfl|rfl|rfl
  ·exact⟨_,s1,λv y=>by have y':Data.fields _=Data.cell v:=y;cases y'⟩
  ·exact⟨_,s2,λv y=>by have y':Data.seq _ _=Data.cell v:=y;cases y'⟩
  ·exact⟨_,s3,λv y=>by have y':Data.seq _ _=Data.cell v:=y;cases y'⟩
  ·exact ZS.it_obj s4
  ·exact ZS.it_obj s5
 keep:=λi h h' st k=>by
  obtain⟨s1,s2,⟨u,v,s3⟩,s4,s5⟩:=st;exact⟨k z (m5.mpr (.inl Y)) _ s1,k TI (m5.mpr (.inr (.inl Y))) _ s2,⟨u,v,k TO (m5.mpr (.inr (.inr (.inl Y)))) _ s3⟩,ZS.it_keep s4 λo e=>k i1 (m5.mpr (.inr (.inr (.inr (.inl Y))))) o e,ZS.it_keep s5 λo e=>k i2 (m5.mpr (.inr (.inr (.inr (.inr Y))))) o e⟩
 item:=by
  intro X hP hw hK hc i j' s σ H E I hf st hg;subst hP hw hK;obtain⟨xs,ys,x,y,hqx,z9,hx,hy⟩:=hg;obtain⟨s1,s2,⟨u0,v0,s3⟩,s4,s5⟩:=st;have hh:X.A.in1.handled=none:=I.ok.hd hc;obtain⟨P1,St1,D1,t1,k1,r1⟩:=ZS.draws I hh hqx h1 s4;obtain⟨P2,St2,D2,t2,k2,r2⟩:=ZS.draws I hh z9 h2 s5;refine Zk0 D1 D2 D s1 s2 s3 t1 t2 (Aa hx).1 (Aa hy).1 λu v h' tk pu pv a1 a2 a3 a4 a5 a7=>?_;have ru:=r1 i u x pu hx;have rv:=r2 i v y pv hy;refine⟨.ref s.heap.objs.size,Y,wpAny_letOwnedTupleGo_zip (s:={s with heap:=h',toks:=tk}) a1 λuh b1 sb=>?_⟩;replace sb:Heap.SameBut z h' uh:=sb;have lt:∀c∈[z,TI,TO,i1,i2],c<s.heap.objs.size:=λc hc=>by
   have hc:=m5.mp hc
   rcases hc with rfl|rfl|rfl|rfl|rfl
   ·exact Ao s1
   ·exact Ao s2
   ·exact Ao s3
   ·obtain⟨o,e,_⟩:=ZS.it_obj s4;exact Ao e
   ·obtain⟨o,e,_⟩:=ZS.it_obj s5;exact Ao e
  have nh:∀c o,c≠z->c≠TO->c≠i1->c≠i2->s.heap.get? c=some o->uh.get? c=some o:=λc o n1 n2 n3 n4 e=>(sb.2 c n1).trans (a7 c o n1 n2 n3 n4 e);have uz:uh.get? s.heap.objs.size=some {cls:=.type "tuple",data:=.seq #[u,v]}:=(sb.2 _ (Nat.ne_of_gt (lt z (m5.mpr (.inl rfl))))).trans a5;have hn:H s.heap.objs.size=none:=I.hok.fresh (An _)
  have I2:Inv X j' σ (upd H s.heap.objs.size (.tup [x,y])) {s with heap:=uh,toks:=tk}:=by
   have out:∀c,c∉[z,TO,i1,i2]->c≠z/\c≠TO/\c≠i1/\c≠i2:=λc hc=>n4 hc;refine I.step (g':=s.gens) (d':=s.drawn) (ch:=[z,TO,i1,i2]) (λc hc=>?_) (λc o _ _ hc q _=>?_) (λc o _ _ hc q _=>⟨o.slots,?_⟩) (λc o _ q n=>by rw[Ze (As (Ao q))];exact n)
    (λc o hc q=>⟨o,?_⟩) (λc zs q=>by rw[Ze (Zi q hn)];exact q) (λc o zs q=>by rw[Ze (Zi q hn)];exact q) (λc ps q=>⟨#[],by rw[Ze (Zi q hn),q];simp⟩) (λm hm=>?_) (λc v' q=>?_) I.bare
   ·have hm:c∈[z,TI,TO,i1,i2]:=m5.mpr ((m4.mp hc).imp id .inr)
    obtain⟨f0,f1,f2,f3,f4,f5⟩:=hf c hm;exact⟨f3,f1,f4,f5⟩
   ·obtain⟨n1,n2,n3,n4⟩:=out c hc;exact nh c o n1 n2 n3 n4 q
   ·obtain⟨n1,n2,n3,n4⟩:=out c hc;exact nh c o n1 n2 n3 n4 q
   ·obtain⟨n1,n2,n3,n4⟩:=out c hc;exact nh c o n1 n2 n3 n4 q
   ·obtain⟨o,es,ep,ho,r⟩:=hm
    exact⟨o,es,ep,nh _ o (Ne.symm (hf z (m5.mpr (.inl Y))).2.1) (Ne.symm (hf TO (m5.mpr (.inr (.inr (.inl Y))))).2.1) (Ne.symm (hf i1 (m5.mpr (.inr (.inr (.inr (.inl Y)))))).2.1) (Ne.symm (hf i2 (m5.mpr (.inr (.inr (.inr (.inr Y)))))).2.1) ho,r⟩
   ·by_cases hb:c=s.heap.objs.size
    ·subst hb
     rw[Zc]at q;cases q;exact⟨by show 2<=sizeLine;decide,[u,v],.cons ru (.cons rv .nil),⟨_,uz,rfl,_,rfl⟩⟩
    ·rw[Ze hb]at q
     refine(I.hok c v' q).stay (λe w' he y'=>nh e w' ?_ ?_ ?_ ?_ y') (λd y'=>by rw[Ze (Zi y' hn)];exact y') λd zs y'=>by rw[Ze (Zi y' hn)];exact y'
     all_goals
      rintro rfl;have ya:H e=none:=(hf e (by simp)).1
      rcases he with y'|y'
      ·rw[y',q]at ya;cases ya
      ·rw[ya]at y';cases y'
  refine⟨.ref s.heap.objs.size,_,I2,Y,⟨_,x,y,hn,Y,λzs hz=>by rw[ZS.has_inj I hz hqx];exact hx,λzs hz=>by rw[ZS.has_inj I hz z9];exact hy,Y⟩,
   ⟨b1,(sb.2 TI D.TIz).trans (a7 TI _ D.TIz D.TITO D.TIi1 D.TIi2 s2),⟨u,v,(sb.2 TO D.TOz).trans a2⟩,ZS.it_keep (k1 _ _ a3) λo e=>(sb.2 i1 D.i1z).trans e,ZS.it_keep (k2 _ _ a4) λo e=>(sb.2 i2 D.i2z).trans e⟩,λc hc=>?_⟩;rw[Ze (As (lt c hc))];exact(hf c hc).1
 done:=by
  intro X hP hw hK hc i j' s σ H E I hf st hg;subst hP hw hK;obtain⟨xs,ys,hqx,z9,e1,e2⟩:=hg;obtain⟨s1,s2,⟨u0,v0,s3⟩,s4,s5⟩:=st;have hh:X.A.in1.handled=none:=I.ok.hd hc;obtain⟨P1,St1,D1,t1,k1,r1⟩:=ZS.draws I hh hqx h1 s4;obtain⟨P2,St2,D2,t2,k2,r2⟩:=ZS.draws I hh z9 h2 s5;refine Zny D1 D2 D s1 s2 s3 t1 t2 (.inl e1) λh' tk eb=>⟨Y,?_⟩
  ·have out:∀c,c∉[z,TO,i1,i2]->c≠z/\c≠TO/\c≠i1/\c≠i2:=λc hc=>n4 hc
   refine I.step (g':=s.gens) (d':=s.drawn) (t':=tk) (ch:=[z,TO,i1,i2]) (λc hc=>?_) (λc o _ _ hc q _=>?_) (λc o _ _ hc q _=>⟨o.slots,?_⟩) (λc o _ q n=>n)
    (λc o hc q=>⟨o,?_⟩) (λc zs q=>q) (λc o zs q=>q) (λc ps q=>⟨#[],by rw[q];simp⟩) (λm hm=>?_) (λc v' q=>?_) I.bare
   ·have hm:c∈[z,TI,TO,i1,i2]:=m5.mpr ((m4.mp hc).imp id .inr)
    obtain⟨f0,f1,f2,f3,f4,f5⟩:=hf c hm;exact⟨f3,f1,f4,f5⟩
   ·obtain⟨n1,n2,n3,n4⟩:=out c hc;exact eb c o n1 n2 n3 n4 q
   ·obtain⟨n1,n2,n3,n4⟩:=out c hc;exact eb c o n1 n2 n3 n4 q
   ·obtain⟨n1,n2,n3,n4⟩:=out c hc;exact eb c o n1 n2 n3 n4 q
   ·obtain⟨o,es,ep,ho,r⟩:=hm
    exact⟨o,es,ep,eb _ o (Ne.symm (hf z (m5.mpr (.inl Y))).2.1) (Ne.symm (hf TO (m5.mpr (.inr (.inr (.inl Y))))).2.1) (Ne.symm (hf i1 (m5.mpr (.inr (.inr (.inr (.inl Y)))))).2.1) (Ne.symm (hf i2 (m5.mpr (.inr (.inr (.inr (.inr Y)))))).2.1) ho,r⟩
   ·refine(I.hok c v' q).stay (λe w' he y'=>eb e w' ?_ ?_ ?_ ?_ y') (λd y'=>y') λd zs y'=>y'
    all_goals
     rintro rfl;have ya:H e=none:=(hf e (by simp)).1
     rcases he with y'|y'
     ·rw[y',q]at ya;cases ya
     ·rw[ya]at y';cases y'
 self:=λ_ _ _ _ _ st h=>wpAny_pyIter_zip st.1 h
section
variable{P:Program}{w:World}
def Zhm(P:Program)(w:World)(v:Value)(o:Obj)(C:Heap->Prop):Prop:=(∀h u,C h->C (h.push u))/\∀(A:Around)(E:Value->Shared->Prop)(s:Shared)(Q:Value->Shared->Prop),C s.heap->Q (C:) {s with heap:=s.heap.push o}->wpAny (aa:) A (pyIter v) Q E s
def Znp{A:Around}{E:Value->Shared->Prop}{s:Shared}{v1 v2:Value}{o1 o2:Obj}{C1 C2:Heap->Prop}{Q:Value->Shared->Prop}(I1:Zhm P w v1 o1 C1)(I2:Zhm P w v2 o2 C2)(c1:C1 s.heap)(c2:C2 s.heap)
  (h:∀ h',IsZip h' (s.heap.objs.size + 4) (s.heap.objs.size + 2) (s.heap.objs.size + 3) .none->IsPair h' (s.heap.objs.size + 2) (C:) (.ref (v:)) ->
   IsPair h' (s.heap.objs.size+3) .none .none->h'.get? s.heap.objs.size=some o1->h'.get? (v:)=some o2->(∀c o,s.heap.get? c=some o->h'.get? c=some o)->Q (.ref (s.heap.objs.size+4)) {s with heap:=h' }) (f1:o1.isFreed=false) (f2:o2.isFreed=false):
  wpAny (aa:) A (call (.type "zip") [v1,v2]) Q E s:=by
 have M:MeetsIn P w (Builtin.«zip.__new__» ⟨[.type "zip",v1,v2],[]⟩) (λ_ R s=>C1 s.heap/\C2 s.heap/\R (.ok (.ret (.ref ((aq:).push { cls:=.type "tuple",data:=.seq #[.none,.none] }).objs.size)))
   {s with heap:=((aq:).push {cls:=.type "tuple",data:=.seq #[.none,.none]}).push {cls:=.type "zip",data:=.fields #[.none,.bool false,.bool false,.ref ((s.heap.push o1).push o2).objs.size,.ref (aq:).objs.size]} }):=by
  refine .of_wp λA R s h=>?_;obtain⟨hp,g,d,tk,os⟩:=s;obtain⟨q1,q2,h⟩:=h;have hsub:=sub_zip;have W1:∀(A:Around)(E:Value->Shared->Prop)(Q:Value->Shared->Prop),Q (.ref hp.objs.size) ⟨hp.push o1,g,d,tk,os⟩->wpAny (aa:) A (pyIter v1) Q E ⟨hp,g,d,tk,os⟩:=λA E Q q=>I1.2 A E _ Q q1 q;have W2:∀(A:Around)(E:Value->Shared->Prop)(Q:Value->Shared->Prop),Q (.ref (hp.push o1).objs.size) ⟨(hp.push o1).push o2,g,d,tk,os⟩->wpAny (aa:) A (pyIter v2) Q E ⟨hp.push o1,g,d,tk,os⟩:=λA E Q q=>I2.2 A E _ Q (I2.1 _ _ q2) q
  wp_walk using W1 _ _ _,W2 _ _ _
  exact⟨_,Y,h⟩
 refine callType_newIn PySem.F.called_zip (d:) (by kernel_rfl) (by kernel_rfl) (λobj=>PySem.F.args_object_init_3 obj _ _) PySem.F.entry_zip_new M ⟨c1,c2,?_⟩;generalize hN:s.heap.objs.size=N at *;have z1:(s.heap.push o1).objs.size=N+1:=by rw[Heap.size_push,hN]
 have z2:((s.heap.push o1).push o2).objs.size=N+2:=by rw[Heap.size_push,z1]
 generalize hT1:({cls:=.type "tuple",data:=.seq #[.ref N,.ref (s.heap.push o1).objs.size]}:Obj)=T1;have z3:(((s.heap.push o1).push o2).push T1).objs.size=N+3:=by rw[Heap.size_push,z2]
 generalize hT2:({cls:=.type "tuple",data:=.seq #[.none,.none]}:Obj)=T2;have z4:((((s.heap.push o1).push o2).push T1).push T2).objs.size=N+4:=by rw[Heap.size_push,z3]
 have e1:(s.heap.push o1).get? N=some o1:=by rw[<-hN];exact Ap _ f1
 have e2:((s.heap.push o1).push o2).get? (N+1)=some o2:=by rw[<-z1];exact Ap _ f2
 have e3:(((s.heap.push o1).push o2).push T1).get? (N+2)=some T1:=by rw[<-z2];exact Ap _ (by rw[<-hT1];rfl)
 have e4:((((s.heap.push o1).push o2).push T1).push T2).get? (N+3)=some T2:=by rw[<-z3];exact Ap _ (by rw[<-hT2];rfl)
 rw[z4,z3,z2];generalize hZ:({cls:=.type "zip",data:=.fields #[.none,.bool false,.bool false,.ref (N+2),.ref (N+3)]}:Obj)=Z;have e5:(((((s.heap.push o1).push o2).push T1).push T2).push Z).get? (N+4)=some Z:=by rw[<-z4];exact Ap _ (by rw[<-hZ];rfl)
 refine ⟨⟨_,e5,by rw [<- hZ]⟩,h _ (e5.trans (by rw [<- hZ])) (by
  have:=Ak Z (Ak T2 e3)
  rw[<-hT1,z1]at this
  rw[<-hT1,z1]
  exact this) (by
  have:=Ak Z e4
  rw[<-hT2]at this⊢
  exact this) (Ak _ (Ak _ (Ak _ (Ak _ e1)))) (Ak _ (Ak _ (Ak _ e2))) λc o x=>Ak _ (Ak _ (Ak _ (Ak _ (Ak _ x))))⟩
end
section
variable{X:Cx}{j':List (j:)}{σ:List (Option V)}{H:Hp}{s:Shared}
def ZS.iter(I:Inv X j' σ H s){S:ZS}{xs:List V}(h:S.has X.K H xs){v:Value}(r:RelV S.v v):∃(o:Obj)(C:Heap->Prop),Zhm X.prog X.w v o C/\C s.heap/\o.isFreed=false/\(∀(h:Heap)(i:Addr),h.get? i=some o->S.it i 0 h)/\∀a∈S.ad,a<s.heap.objs.size:=by
 cases S with
 |l a=>
  obtain⟨its,rv,pl,_⟩:=I.list h;cases r;refine⟨_,λh=>h.IsList a its.toArray,⟨λh u c=>c.push u,λA E s Q c q=>wpAny_pyIter_list c q⟩,pl.isList,Y,λh i e=>⟨_,e,Y,Y⟩,λb hb=>?_⟩;obtain⟨o,ho,_⟩:=pl.isList;rw[Af hb];exact Ao ho
 |t a=>
  obtain⟨its,rv,pl,_⟩:=I.tuple h;cases r;refine⟨_,λh=>IsTup h a its.toArray,⟨λh u c=>c.keeps λb o e=>Ak _ e,λA E s Q c q=>iter_tuple c q⟩,pl,Y,λh i e=>⟨_,e,Y,Y⟩,λb hb=>?_⟩;rw[Af hb];exact pl.lt
 |s x=>
  obtain⟨ha,rfl⟩:=h;obtain⟨t,rfl⟩:=r;exact⟨_,λ_=>True,⟨λh u c=>trivial,λA E s Q c q=>wpAny_pyIter_ascii ha q⟩,trivial,Y,λh i e=>⟨t,_,e,Y,Y⟩,λb hb=>absurd hb not_mem_nil⟩
def Zr2{N:Nat}{f g:List Addr}(h1:∀a∈f,a<N)(h2:∀a∈g,a<N):ZA (N+4) (N+2) (N+3) N (N+1) (N::f) ((N+1)::g):=by
 have nf:∀k,N+k∉f:=λk z=>absurd (h1 _ z) (Nat.not_lt.mpr (le_add_right _ _));have ng:∀k,N+k∉g:=λk z=>absurd (h2 _ z) (Nat.not_lt.mpr (le_add_right _ _));have e:∀{i j:Nat},i≠j->N+i≠N+j:=λh z=>h (Nat.add_left_cancel z);have c1:∀{k:Nat}{f:List Addr}{i:Addr},N+k≠i->N+k∉f->N+k∉i::f:=λh1 h2 z=>by
  rcases Ar z with q|q
  ·exact h1 q
  ·exact h2 q
 exact⟨e (d:),e (d:),e (i:=0) (d:),e (d:),e (d:),e (j:=0) (d:),e (d:),e (j:=0) (d:),e (d:),e (i:=0) (d:),c1 (e (j:=0) (d:)) (nf 4),c1 (e (d:)) (ng 4),c1 (e (j:=0) (d:)) (nf 3),c1 (e (d:)) (ng 3),c1 (e (j:=0) (d:)) (nf 1),c1 (k:=0) (e (d:)) (ng 0)⟩
def Zut(K:W.Frag)(ta:TA):TI:=λσ H R=>ta σ H λvs H1=>∃(S T:ZS)(xs ys:List V),vs=[S.v,T.v]/\S.has K H1 xs/\T.has K H1 ys/\R (Itz2 K S T) H1
def Zq4{pk:List Expr}{x1:Nat}{qh p pos:Pos}{l m:Expr}{ta:TA}(hg:Gl X "zip")(hm:X.mg "zip"=none)(ha:PA X [l,m] ta)(hs:starEach [l,m] X.env=[(false,eval l X.env),(false,eval m X.env)]:=by rfl)(ul:starEach [m] X.env=[(false,eval m X.env)]:=by rfl):
  PI X (.Tuple pk x1 qh) (.Call (.Name "zip" p) [l,m] [] pos) (Zut X.K ta):=by
 intro j' s σ H R I h;refine Call_ (Ja I hg hm boot_zip (PyProof.Rows.callWith_type1 (thn (ha pos j' s σ H _ I h) λus s1 ⟨vs,H1,I1,r1,q1⟩=>?_) (by rw[hs,ul]) (by rw[ul];rfl)));obtain⟨S,T,xs,ys,e,hqx,z9,q⟩:=q1;subst e;obtain⟨u,v,rfl,ru,rv⟩:=r1.two;obtain⟨o1,C1,i1,c1,f1,t1,l1⟩:=ZS.iter I1 hqx ru;obtain⟨o2,C2,i2,c2,f2,t2,l2⟩:=ZS.iter I1 z9 rv;refine Znp i1 i2 c1 c2 (λh' z1 z2 z3 z4 z5 z7=>wpAny_pyIter_zip z1 ?_) f1 f2;have I2:Inv X j' σ H1 {s1 with heap:=h' }:=I1.kept (t':=s1.toks) z7;generalize hN:s1.heap.objs.size=N at *;have n1:N∉S.ad:=λz=>Nat.lt_irrefl _ (l1 _ z);have n2:N+1∉T.ad:=λz=>absurd (l2 _ z) (Nat.not_lt.mpr (le_succ _));refine⟨N+4,[N+4,N+2,N+3,N,N+1],_,_,H1,Y,I2,Zk4 S T (N+4) (N+2) (N+3) N (N+1) (Zr2 l1 l2) n1 n2,⟨z1,z2,⟨_,_,z3⟩,t1 _ _ z4,t2 _ _ z5⟩,λc hc=>?_,q⟩;have hc:s1.heap.objs.size<=c:=by
  have hc:c=N+4\/c=N+2\/c=N+3\/c=N\/c=N+1:=by simpa using hc
  rw[hN]
  rcases hc with rfl|rfl|rfl|rfl|rfl
  ·exact le_add_right _ _
  ·exact le_add_right _ _
  ·exact le_add_right _ _
  ·exact An _
  ·exact le_add_right _ _
 exact I1.fpOk hc (I1.hok.fresh hc)
end
section
variable{X:Cx}
abbrev THs:=Value->TS
def PHs(X:Cx)(hs:List ExceptHandler)(t:THs):Prop:=
 ∀(j':List (j:))(s:Shared)(σ:St)(H:Hp)(D:Ends)(e T:Addr)(cls a0:Value)(h':Heap),Inv X j' σ H s->FxOk X j' H e->FxOk X j' H T ->
  Heap.FlyingW (PySem.W.hideAll s.heap (e::T::frs X.stack)) X.stack e cls a0 h'->s.heap.UpToSlots h'->t cls D σ H->wpAny (c:) X.A (handleBy (.ref e) X.env hs) (SP X j' D) X.xe {s with heap:=h' }
def Zm0{hs:List ExceptHandler}:PHs X hs (λ_ _ _ _=>False):=λ_ _ _ _ _ _ _ _ _ _ _ _ _ _ _ z=>z.elim
def Qj{b₀:Stmt}{xt:List Stmt}{x:Str}{np hpos:Pos}{l8:List ExceptHandler}{ts:TS}{tr:THs}{C:Addr}(hg:Gl X x)(hm:X.mg x=some (.ref C))(hs:∀e,PSs (Gw X e) (b₀::xt) ts)(hr:PHs X l8 tr)
  (hex:X.ex=[]:=by rfl) (hx:X.xe=(az:):=by rfl) (pd:(J:)=false:=by decide):
  PHs X (.ExceptHandler (some (.Name x np)) none (b₀::xt) hpos::l8) (λcls D σ H=>∃b,PySem.W.exmOne X.K cls (.ref C)=some b/\if b=true then ts D σ H else tr cls D σ H):=by
 intro j' s σ H D e T cls a0 h' I fe fT oq xm q;obtain⟨b,hb,q⟩:=q;have I5:Inv X j' σ H {s with heap:=h' }:=I.flown hex fe fT oq.1 xm;obtain⟨ob,xp,hobc⟩:=oq.there;refine wpAny_handleBy_cons (codeAny_handlers_test (Jf (X:=Gw X e) (I5.hnd e) hg hm ?_ pd)) (by intro q;cases q);have LT:PySem.W.Looks (c:) h' (typeOf (.ref e)) cls:=by
  have:PySem.W.Looks (c:) h' (typeOf (.ref e)) ob.cls:=(PySem.W.Looks.ld xp).andThen .now
  rw[hobc]at this
  exact this
 refine(PySem.W.exm_one I5.kIn LT hb).here ?_
 cases b with
 |false=>exact hr j' s σ H D e T cls a0 h' I fe fT oq xm q
 |true=>
  refine codeAny_handlers_suite ?_;refine lands_againW oq λh₆ hfl₆ hsm₆=>?_;have I6:Inv X j' σ H {s with heap:=h₆}:=I.flown hex fe fT hfl₆.1 (xm.trans hsm₆);have h6:=hs e j' _ σ H D (I6.hnd e) q;have qo:(Gw X e).xe=λ_ _=>False:=hx;rw[qo]at h6;refine wpAny_mono h6 (λf s2 q2=>?_) λ_ _ z=>z.elim;exact q2.unhnd I6.ok
def Ztz(tb:TSX)(th:THs):TS:=λD σ H=>tb D (λcls σ' H'=>th cls D σ' H') σ H
def Zix{body:List Stmt}{h₀:ExceptHandler}{hs:List ExceptHandler}{pos:Pos}{tb:TSX}{th:THs}(hb:PSsX false X body tb)(hh:PHs X (h₀::hs) th)
  (hex:X.ex=[]:=by rfl) (om:∃o,X.stack=X.env::o:=by exact⟨_,Y⟩) (rh:X.env.frame=some X.env.locals:=by rfl):
  PS X (.Try body (h₀::hs) [] [] pos) (Ztz tb th):=by
 intro j' s σ H D I h;obtain⟨outer,om⟩:=om;refine wpAny_Try_except (wpAny_mono (hb j' s σ H D _ I h) (λf s1 q=>?_) ?_)
 ·cases f with
  |next=>exact wpAny_execs_nil q
  |ret v=>exact q
  |brk=>exact q
  |cont=>exact q
 ·rintro ev s1 ⟨e,T,cls,a0,σ1,H1,rfl,I1,hx1,fe,fT,hT,q⟩
  obtain⟨T,rfl⟩:∃t,T=some t:=by
   cases T with
   |none=>exact absurd (hT Y) Bool.false_ne_true
   |some t=>exact⟨t,Y⟩
  have fT:=fT T rfl;have vw:=Zm9 I1 hx1;have hA:X.A.frames=some (X.env::outer):=by rw[I.ok.frames,om]
  have zf:Heap.FlyingW (PySem.W.hideAll s1.heap (e::T::frs X.stack)) (X.env::outer) e cls a0 s1.heap:=by
   have:=vw;generalize PySem.W.hideAll s1.heap (e::T::frs X.stack)=B at this⊢;rw[om]at this;exact this
  refine wpAny_looks_onW hA rh zf λh₄ hheld₄ hsm₄=>?_;refine wpAny_landsW hheld₄ λh₅ oq hsm₅'=>?_;refine hh j' s1 σ1 H1 D e T cls a0 h₅ I1 fe fT ?_ (hsm₄.trans hsm₅') q;generalize PySem.W.hideAll s1.heap (e::T::frs X.stack)=B at oq⊢;rw[om];exact oq
end
def FnOk.or{P:Program}{w:World}{K:W.Frag}{mg:Str->Option Value}{base:Heap}{CX:CXT}{k:Nat}{f:Addr}{fd:FuncData}{ps:List Str}{sp sp':Sp}(F:FnOk P w K mg base CX k f fd ps sp)(G:FnOk P w K mg base CX k f fd ps sp'):
  FnOk P w K mg base CX k f fd ps (λvs H Q E=>sp vs H Q E\/sp' vs H Q E):=
 ⟨λvs H Q E q=>q.elim (F.len vs H Q E) (G.len vs H Q E),λA outer s H args us vs Q E hr he hb hv hs=>hs.elim (F.run A outer s H args us vs Q E hr he hb hv) (G.run A outer s H args us vs Q E hr he hb hv)⟩
abbrev TAZ:=St->Hp->(List V->Hp->Prop)->XK->Prop
def PAZ(fr:Bool)(X:Cx)(es:List Expr)(t:TAZ):Prop:=
 ∀(pos:Pos)(j':List (j:))(s:Shared)(σ:St)(H:Hp)(Q:List V->Hp->Prop)(E:XK),Inv X j' σ H s->t σ H Q E->wpAny (c:) X.A (spliced (w:)) (AP X j' σ Q) (XS fr X j' λcls σ' H'=>σ'=σ/\E cls none H') s
section
variable{X:Cx}{fr:Bool}{k:Nat}{f:Addr}{fd:FuncData}{ps:List Str}{sp:Sp}{mz:List V}{ds:List Value}{x:Str}{p pos:Pos}{e:Expr}{es:List Expr}
def Zbi{t:TA}(h:PA X es t)(hx:X.xe=(az:):=by rfl):PAZ fr X es (λσ H Q _=>t σ H Q):=by
 intro pos j' s σ H Q E I q;have h0:=h pos j' s σ H Q I q;rw[hx]at h0;exact wpAny_mono h0 (λ_ _ z=>z) λ_ _ z=>z.elim
def Wf{te:TEX}{t:TAZ}(ha:PEX fr X e te)(hr:PAZ fr X es t)(hs:starEach (e::es) X.env=(I:)::starEach es X.env:=by rfl):PAZ fr X (e::es) (λσ H Q E=>te σ H (λx H1=>t σ H1 (λxs H2=>Q (x::xs) H2) E) E):=by
 intro pos j' s σ H Q E I h;rw[hs];show wpAny _ _ (spliced ((I:)::backTo pos (starEach es X.env))) _ _ s;refine Calls.spliced_cons (thn (ha j' s σ H _ E I h) λu s1 me=>?_);obtain⟨x,H1,I1,r1,q1⟩:=me;refine thn (hr pos j' s1 σ H1 _ E I1 q1) λus s2 zz46=>?_;obtain⟨xs,H2,I2,r2,q2⟩:=zz46;exact⟨x::xs,H2,I2,.cons r1 r2,q2⟩
def Uj{t:TAZ}(F:FnOk X.prog X.w X.K X.mg X.base (CXr X.prog X.w) k f fd ps sp)(hr:Room k X.A)(hg:Gl X x)(hm:X.mg x=some (.ref f))(hk:PySem.W.keepIn X.K (.ref f)=true)(hb:Xx X.K fd ps ds)(hd:Vals mz ds)
  (ha:PAZ fr X (e::es) t) (hex:X.ex=[]:=by rfl) (pd:(J:)=false:=by decide) (he:starEach (e::es) X.env=(I:)::starEach es X.env:=by rfl) (oa:(w:).any (·.1)=false:=by rfl):
  PEX fr X (S:) (λσ H Q E=>t σ H (λvs H1=>sp (vs++mz) H1 Q E) E):=by
 intro j' s σ H Q E I h;have h0:=ha pos j' s σ H _ E I h;refine wpAny_Call_Name_kw (Jf I hg hm ?_ pd);refine PySem.W.callWith_K (h₀:=X.base) I.ok.mod.kin hk (wpAny_mono h0 (λus s1 zz47=>?_) λ_ _ z=>z) he oa;obtain⟨vs,H1,I1,r,q⟩:=zz47;refine⟨I1.kIn,?_⟩;exact Gn F hr hb hd hex I1 r q
end
structure LW(X:Cx)(xl:Value->Shared->Prop)(E:XK):Prop where
 l:LV X xl (an:)
 a:∀(j':List (j:))(ev:Value)(s':Shared),XA X j' E ev s'->xl ev s'
def PEL(X:Cx)(xl:Value->Shared->Prop)(E:XK)(e:Expr)(t:TEX):Prop:=
 ∀(j':List (j:))(s:Shared)(σ:St)(H:Hp)(Q:VK),Inv X j' σ H s->t σ H Q E->wpAny (c:) X.A (eval e X.env) (a2:) xl s
def PAL(X:Cx)(xl:Value->Shared->Prop)(E:XK)(es:List Expr)(t:TAZ):Prop:=
 ∀(pos:Pos)(j':List (j:))(s:Shared)(σ:St)(H:Hp)(Q:List V->Hp->Prop),Inv X j' σ H s->t σ H Q E->wpAny (c:) X.A (spliced (w:)) (AP X j' σ Q) xl s
section
variable{X:Cx}{xl:Value->Shared->Prop}{E:XK}{e:Expr}{es:List Expr}{pos:Pos}
def Zbh{t:TE}(h:PE X e t)(hx:X.xe=(az:):=by rfl):PEL X xl E e (λσ H Q _=>t σ H Q):=λj' s σ H Q I q=>thnF hx (h j' s σ H Q I q) λ_ _ z=>z
def Jn{t:TEX}(L:LW X xl E)(h:PEX true X e t):PEL X xl E e t:=λj' s σ H Q I q=>
 wpAny_mono (h j' s σ H Q E I q) (λ_ _ z=>z) λev s' z=>L.l.lv j' ev s' (by
  obtain⟨e,T,cls,a0,σ',H',h1,h2,h3,h4,h5,h7,_,h6⟩:=z
  exact⟨e,T,cls,a0,σ',H',h1,h2,h3,h4,h5,h7,h6⟩)
def Zul{t:TEX}(L:LW X xl E)(h:PEA X e t):PEL X xl E e t:=λj' s σ H Q I q=>
 wpAny_mono (h j' s σ H Q E I q) (λ_ _ z=>z) λev s' z=>L.a j' ev s' z
def V0{t:TA}(h:PA X es t)(hx:X.xe=(az:):=by rfl):PAL X xl E es (λσ H Q _=>t σ H Q):=λpos j' s σ H Q I q=>thnF hx (h pos j' s σ H Q I q) λ_ _ z=>z
def Y2{te:TEX}{t:TAZ}(ha:PEL X xl E e te)(hr:PAL X xl E es t)(hs:starEach (e::es) X.env=(I:)::starEach es X.env:=by rfl):PAL X xl E (e::es) (λσ H Q E=>te σ H (λx H1=>t σ H1 (λxs H2=>Q (x::xs) H2) E) E):=by
 intro pos j' s σ H Q I h;rw[hs];show wpAny _ _ (spliced ((I:)::backTo pos (starEach es X.env))) _ _ s;refine Calls.spliced_cons (thn (bm:) λu s1 me=>?_);obtain⟨x,H1,I1,r1,q1⟩:=me;refine thn (hr pos j' s1 σ H1 _ I1 q1) λus s2 zz48=>?_;obtain⟨xs,H2,I2,r2,q2⟩:=zz48;exact⟨x::xs,H2,I2,.cons r1 r2,q2⟩
def Qg{x1}{t:TAZ}(h:PAL X xl E es t):PEL X xl E (.Tuple es x1 pos) (Zty t):=by
 intro j' s σ H Q I hq;refine wpAny_Tuple_spliced (thn (h pos j' s σ H _ I hq) λus s1 xv=>?_);obtain⟨xs,H1,I1,r,z,q⟩:=xv;refine⟨by rw[<-r.length];exact z,?_⟩;have hf:H1 s1.heap.objs.size=none:=I1.hok.fresh (An _);refine⟨.ref s1.heap.objs.size,upd H1 s1.heap.objs.size (.tup xs),I1.laid (t':=s1.toks) (λb u e=>Ak _ e) (An _) ?_,Y,q _ hf⟩;exact⟨z,us,r,⟨_,Ap _ Y,Y,_,Y⟩⟩
def Jt{te:TEX}(he:PEL X xl E e te):PSL X xl (an:) (.Return (some e) pos) (λD _ σ H=>te σ H D.rt E):=λj' s σ H D I h=>
 wpAny_Return_some (wpAny_mono (bz:) (λv s1 ⟨x,H1,I1,r1,q1⟩=>⟨x,σ,H1,I1,r1,q1⟩) λ_ _ z=>z)
def Zon{i:Nat}{x:Str}{te:TEX}{nv:Pos}(L:LW X xl E)(hN:X.N.Nodup)(hi:X.N[i]?=some x)(hx:Loc X.env.scope x)(he:PEL X xl E e te)(hs:swapsWith e (some (.Name x nv)) pos.line X.env=pure false:=by rfl)
  (hf:X.fn x=true\/X.env.scope.names.lookup x=some .local:=by first|exact .inl rfl|exact .inr rfl|assumption):PSL X xl (an:) (.Assign [.Name x nv] e pos) (λD _ σ H=>te σ H (λv H1=>D.nx (σ.set i (some v)) H1) E):=by
 intro j' s σ H D I h;refine wpAny_Assign_Name (wpAny_mono (bz:) (λv s1 zz49=>?_) λ_ _ z=>z) hs;obtain⟨y,H1,I1,r1,q1⟩:=zz49;exact Js I1 hN hi hx r1 (λs2 I2=>⟨_,H1,I2,q1⟩) hf
def Zl3{fr:Bool}{k i:Nat}{f:Addr}{fd:FuncData}{ps:List Str}{sp:Sp}{ds:List Value}{mz:List V}{x:Str}{p:Pos}{t:TA}(F:FnOk X.prog X.w X.K X.mg X.base (CXr X.prog X.w) k f fd ps sp)(hr:Room k X.A)(hN:X.N[i]?=some x)(hv:Vis X.env.scope x)(hk:PySem.W.keepIn X.K (.ref f)=true)(hb:Xx X.K fd ps ds)(hd:Vals mz ds)
  (ha:PA X (e::es) t) (hex:X.ex=[]:=by rfl) (hx:X.xe=(az:):=by rfl) (pd:(J:)=false:=by decide) (oo:(x==("__classdict__":Str))=false:=by decide) (he:starEach (e::es) X.env=(I:)::starEach es X.env:=by rfl) (oa:(w:).any (·.1)=false:=by rfl):
  PEX fr X (S:) (λσ H Q E=>σ[i]?=some (some (.ref f))/\Zau sp mz t σ H Q E):=by
 intro j' s σ H Q E I h;obtain⟨h0,h⟩:=h;refine wpAny_Call_Name_kw (thnF hx (Zl4 hN hv pd oo j' s σ H (λv H'=>v=.ref f/\H'=H) I (MVar.of h0 ⟨Y,Y⟩)) λv s1 me=>?_);obtain⟨y,H1,I1,r1,e1,e2⟩:=me;subst e1 e2;cases r1;refine PySem.W.callWith_K (h₀:=X.base) I1.ok.mod.kin hk (thnF hx (ha pos j' s1 σ _ _ I1 h) λus s2 zz50=>?_) he oa;obtain⟨vs,H2,I2,r,q⟩:=zz50;refine⟨I2.kIn,?_⟩;exact Gn F hr hb hd hex I2 r q
end
section
variable{X:Cx}{xl:Value->Shared->Prop}{E:XK}{ts:List Str}{fv:List (Str×Nat)}{scope:Scope}{nu t0 i0:Expr}{f0:List Expr}{l8:List Comprehension}{pos:Pos}{wi:TI}{g:TG}{tt:TT}{tb:Addr->TBX}{mv:Env->Addr->Addr->Sem Fin}
theorem Vv{i:Nat}{y:Str}{py uu:Pos}(L:LW X xl E)(B:BlkOk X scope fv)(hc:X.calm=true)(hN:X.N.Nodup)(hiy:X.N[i]?=some y)(hyl:X.env.scope.names.lookup y=some .local)
  (hsw:swapsWith (f:) (some (.Name y py)) uu.line X.env=pure true) (hi:PI X t0 i0 wi)
  (hg:∀C s₀ H₀ ex,PG (e:) t0 g) (ht:∀C s₀ H₀ ex,PTs (e:) f0 tt)
  (qf:∀ (env:Env) (it D:Addr),compTurn (f:) 0 (.ref it) (.ref D) env=(standAt i0.pos >>= λ_=>pyNext (.ref it) >>= λr=>match r with
   |none=>pure (.done .next)
   |some v=>letOwnedTupleGo t0 (.ref it) v>>=λ_=>assign t0 env v>>=λ_=>
    (k:)>>=λok=>
     if ok=true then mv env it D else again (bn:)))
  (hb:∀C s₀ H₀ ex it D,PBX (e:) (mv (e:).env it D) (a8:) (tb D))
  (hex:X.ex=[]:=by rfl) (qo:X.xe=(az:):=by rfl) (om:∃o,X.stack=X.env::o:=by exact⟨_,rfl⟩) (rh:X.env.frame=some X.env.locals:=by rfl) (hs:∀x,foldedSetIterable i0 X.env x=pure x:=by intro _;rfl):
  PSL X xl (an:) (.Assign [.Name y py] (f:) uu) (λD0 _ σ H=>Ze4 ts fv wi g tt tb σ H (λv H1=>D0.nx (σ.set i (some v)) H1) E):=by
 intro j' s σ H D0 I h;rw[exec_Assign_Name_used _ _ _ _ hsw];refine Al (wpAny_standAt (Al ?_));show wpAny _ X.A (do let _<-comprehension (f:) scope X.env _ (newList []) false (eval i0 X.env) (some (assign (.Name y py) X.env))) _ _ s;refine Al (wpAny_mono (wpAny_comprehension_free (use:=some (assign (.Name y py) X.env)) (Q:=λ_ s'=>SP X j' D0 .next s') (E:=XA X j' E) Y hs (Jl λy hy e=>I.ok.has y.1 (B.free y hy e)) B.kind B.names ?_) (λ_ s' hq=>wpAny_pure (wpAny_pure hq)) λev s' z=>L.a j' ev s' z);refine thnF qo (hi j' s σ H _ I h) λv s1 h1=>thnF qo h1 λxi s2 h2=>?_;obtain⟨it,fp,tn,J,H2,e,I2,T,n6,f2,L0⟩:=h2;subst e;have L0:=L0 s2.heap.objs.size I2.fresh;refine wpAny_newObj_type ?_;have I3:Inv X j' σ (q:) {s2 with heap:=s2.heap.push {cls:=.type "list",data:=.seq (b1:).toArray},toks:=s2.toks}:=I2.lnew (its:=[]) (t':=s2.toks) .nil (Az _);have tz:∀b∈fp,∃o,s2.heap.get? b=some o/\∀v,o.data≠.cell v:=T.obj _ _ n6;have f3:∀b∈fp,FpOk X j' (q:) b:=λb hb=>by
  obtain⟨o,ho,_⟩:=tz b hb
  refine⟨?_,(f2 b hb).2⟩
  rw[Ze (As (Ao ho))]
  exact(f2 b hb).1
 have o4:tn 0 (O:):=T.keep _ _ _ n6 λb _ o e=>Ak _ e;have rm:∀b∈fp,∃o,(O:).get? b=some o:=λb hb=>let⟨o,e,_⟩:=tz b hb;⟨o,Ak _ e⟩
 generalize hs3:({s2 with heap:=s2.heap.push {cls:=.type "list",data:=.seq ([]:List Value).toArray},toks:=s2.toks}:Shared)=s3 at I3;have eh:s2.heap.push {cls:=.type "list",data:=.seq (b1:).toArray}=s3.heap:=by rw[<-hs3]
 rw[eh]at o4 rm;refine wpAny_newFunctionEnv B.nocell (by intro y hy;simp at hy) (λh₁ vp rf=>?_) B.kind;have hk:∀b o,s3.heap.get? b=some o->h₁.get? b=some o:=λb o e=>rf.extBut b o (As (Ao e)) (Ak _ e);have I4:=Um (ts:=ts) (tk:=s3.toks+([]:List (Str×Value)).length) B I3 f3 rm vp hk;have f4:∀b∈fp,FpOk (a7:) [] (q:) b:=λb hb=>by
  obtain⟨f0,f1,f2',f3',f4',f5'⟩:=f3 b hb
  obtain⟨o,eo⟩:=rm b hb
  exact(aj:)
 have tw:tn 0 h₁:=T.keep _ _ _ o4 λb _ o e=>hk b o e;have loop:codeAny (c:) X.A (.compLoop (f:) 0 (.ref it) (ab:) (a7:).env)
   (compPost (c:) X.A (XA X j' E) (some (assign (.Name y py) X.env)) (λ_ s'=>SP X j' D0 .next s') (ab:) s3.heap.objs.size) {s3 with heap:=h₁,toks:=s3.toks+([]:List (Str×Value)).length}:=by
  refine Zbz (X:=Zx X (A:) scope s3.heap.objs.size s3 (q:) fp) (tg:=t0) (ifs:=f0) (R:=λ_ H'=>D0.nx (σ.set i (some (ab:))) H') (E:=E) Y Y Y Y Y (qf _ it s2.heap.objs.size) T hc (hg _ _ _ _) (ht _ _ _ _) (hb _ _ _ _ it s2.heap.objs.size) f4 I4 tw L0 (λs' σ' H' J' q=>?_) λpb ev s' z=>Zdo (Q:=λ_ _=>True) Value.none I3 hex om rh f3 (An _) z
  obtain⟨e1,e2,e3,e4,e5,e6⟩:=Ob I3 f3 (An _) J'
  obtain⟨m,hm,_⟩:=J'.loc
  show wpAny _ X.A (assign (.Name y py) X.env (ab:)) _ _ _
  refine wpAny_assign_Name (Kg e1 hN hiy (.inl hyl) (show RelV (ab:) (ab:)from Y) (λqd I'' qp=>?_) (.inr hyl))
  obtain⟨a,rf,ha⟩:=qp
  have haC:s3.heap.objs.size≠a:=by
   rcases ha with e|e
   ·rw[e];exact e4
   ·exact λz=>e5 y a e z.symm
  exact⟨m,hm.sameBut rf haC,λh' uf=>⟨_,H',I''.apart uf e2 e3 e4 e5 e6,q⟩⟩
 exact codeAny_compStart_list loop (T.self _ _ _ _ _ tw loop)
end
section
variable{P:Program}{w:World}{K:W.Frag}{mg:Str->Option Value}{base:Heap}
def Fun.okLA{x qual:Str}{st:Stmt}{f:Addr}{fd:FuncData}{N ps:List Str}{k:Nat}{sp:Sp}(F:Fun K x qual st f fd)(S:FnScope N ps (Zf st))(len:∀vs H Q E,sp vs H Q E->vs.length=ps.length)
  (nz:∀ (mh:Value) (A:Around) (outer:List Env) (s:Shared) (H:Hp) (vs:List V) (Q:VK) (E:XK),Room k (am:)->sp vs H Q E ->
   ∃t,(∀xl,LW (z:).nox xl E->PSsL (z:).nox xl (an:) (Yw st) t)/\t {nx:=λ_ H'=>Q .non H',rt:=Q} (an:) (start N vs) H):(a:) (k+1) f fd ps sp:=by
 obtain⟨oc,od,kV,nk,pm,an,mh,ct,uj,rfl,lk,oo⟩:=F.ex;refine Zey lk oo S len λA outer s H vs Q E hr o5=>?_;obtain⟨t,h,q⟩:=nz mh A outer s H vs Q E hr o5;refine(b7:);refine wpAny_mono (h _ ⟨⟨λj' ev qd z=>Zai (fr:=true) ?_,PassesOwn.leaving⟩,λj' ev qd z=>Zmt z⟩ j' s' σ' H' D (I.wish _) hD) (λ_ _ z=>z.unwish) λev qd z=>z;obtain⟨e,T,cls,a0,σ2,H2,h1,h2,h3,h4,h5,h7,h6⟩:=z;exact(a9:)
def FnOk.no{CX:CXT}{k:Nat}{f:Addr}{fd:FuncData}{ps:List Str}:FnOk P w K mg base CX k f fd ps (λ_ _ _ _=>False):=⟨λ_ _ _ _ q=>q.elim,λ_ _ _ _ _ _ _ _ _ _ _ _ _ q=>q.elim⟩
end
section
variable{X:Cx}{i o:Expr}{ty td:TE}{pos:Pos}
def tKIn(w:World)(K:W.Frag)(ty td:TE):TE:=λσ H Q=>ty σ H λy H1=>td σ H1 λx H2=>∃a kvs k,x=.ref a/\Vg w K a kvs/\y=kV k/\Q (.bl (valV kvs k).isSome) H2
def Zs2(hi:PE X i ty)(ho:PE X o td):PC X .In i o (tKIn X.w X.K ty td):=by
 intro j' s σ H Q I h;refine thn (hi j' s σ H _ I h) λiv s1 zz51=>?_;obtain⟨y,H1,I1,ry,q1⟩:=zz51;refine thn (ho j' s1 σ H1 _ I1 q1) λu s2 me=>?_;obtain⟨x,H2,I2,rx,a,kvs,k,ex,g,ey,q2⟩:=me;subst ex ey;obtain rfl:u=Value.ref a:=rx;obtain⟨hd,vs,mj,dd⟩:=g.here I2;refine wpAny_in_of (J3 ry) hd dd.mapOf ?_;rw[<-(mj.val k).isSome_eq];exact⟨.bl _,H2,I2.tok _,Y,q2⟩
end
def kdict_mk5{w:World}{K:W.Frag}{a:Addr}{h1 h2 h3 h4 h5:Int}{t1 t2 t3 t4 t5:Tok}{ep:Nat}{x1 x2 x3 x4 x5:Str}{y1 y2 y3 y4 y5:Addr}
  (l:K.lookup a=some ⟨.type "dict",none,.dict #[⟨h1,.str x1 t1,.ref y1⟩,⟨h2,.str x2 t2,.ref y2⟩,⟨h3,.str x3 t3,.ref y3⟩,⟨h4,.str x4 t4,.ref y4⟩,⟨h5,.str x5 t5,.ref y5⟩] ep,#[]⟩)
  (e1:h1=hashStr w x1) (e2:h2=hashStr w x2) (e3:h3=hashStr w x3) (e4:h4=hashStr w x4) (e5:h5=hashStr w x5) (ne:([x1,x2,x3,x4,x5]:List Str).Nodup) (sy:(a==sysModules)=false):
  Vg w K a [(Sum.inr x1,.ref y1),(Sum.inr x2,.ref y2),(Sum.inr x3,.ref y3),(Sum.inr x4,.ref y4),(Sum.inr x5,.ref y5)]:=by
 refine⟨_,_,_,[(Sum.inr x1,.ref y1),(Sum.inr x2,.ref y2),(Sum.inr x3,.ref y3),(Sum.inr x4,.ref y4),(Sum.inr x5,.ref y5)],l,⟨Y,Y,Y⟩,Y,λe he=>?_,λP=>?_,?_,?_,sy⟩
 ·have he:e=⟨h1,.str x1 t1,.ref y1⟩\/e=⟨h2,.str x2 t2,.ref y2⟩\/e=⟨h3,.str x3 t3,.ref y3⟩\/e=⟨h4,.str x4 t4,.ref y4⟩\/e=⟨h5,.str x5 t5,.ref y5⟩:=by simpa using he
  rcases he with rfl|rfl|rfl|rfl|rfl
  ·exact⟨Sum.inr x1,Yy x1 t1,e1⟩
  ·exact⟨Sum.inr x2,Yy x2 t2,e2⟩
  ·exact⟨Sum.inr x3,Yy x3 t3,e3⟩
  ·exact⟨Sum.inr x4,Yy x4 t4,e4⟩
  ·exact⟨Sum.inr x5,Yy x5 t5,e5⟩
 ·exact .cons (Yy x1 t1) Y (.cons (Yy x2 t2) Y (.cons (Yy x3 t3) Y (.cons (Yy x4 t4) Y (.cons (Yy x5 t5) Y .nil))))
 ·have:([x1,x2,x3,x4,x5].map (Sum.inr:Str->Key)).Nodup:=by
   rw[nodup_iff_pairwise_ne,pairwise_map];exact(nodup_iff_pairwise_ne.mp ne).imp λh e=>h (by injection e)
  exact this
 ·exact .cons ⟨Y,Y⟩ (.cons ⟨Y,Y⟩ (.cons ⟨Y,Y⟩ (.cons ⟨Y,Y⟩ (.cons ⟨Y,Y⟩ .nil))))
end L2
namespace L2
open PySem PySem.Spec PyProof.Rows PySem.SeqAt
section
variable{X:Cx}
def Vf:Y6 X (.type "dict") (λxs H Q=>∃(d:Addr)(kvs:List (Key×V)),xs=[.ref d]/\Rd H d (.dK kvs)/\∀p,H p=none->Q (.ref p) (upd H p (.dK kvs))):=by
 intro j' s σ H xs us Q I r h;obtain⟨d,kvs,rfl,hd,q⟩:=h;obtain⟨u,rfl,ru⟩:=Xb r;obtain rfl:u=Value.ref d:=ru;obtain⟨z,qi,vs,mj,dd⟩:=J7 I.hok hd;have hl:vs.length<=sizeLine:=by rw[<-mj.length];exact z
 refine kt_call_dict qi dd hl λh' hD rf=>?_;have hk:∀b u,s.heap.get? b=some u->h'.get? b=some u:=λb u e=>(rf.2 b (As (Ao e))).trans (Ak _ e);refine⟨.ref s.heap.objs.size,_,I.laid (a:=s.heap.objs.size) (o:=.dK kvs) (t':=s.toks) hk (An _) ⟨z,?_,vs,mj,hD⟩,Y,q _ (I.hok.fresh (An _))⟩;exact(Oz (P:=X.prog) (w:=X.w) (H:=H) s.heap I.big).2.1
def Znv(bs:List Bool):((List.range bs.length).any λi=>bs.getD i true)=bs.any id:=by
 rw[Bool.eq_iff_iff,any_eq_true,any_eq_true];constructor
 ·rintro⟨i,hi,h⟩
  have hi:=mem_range.mp hi;rw[Ad,Ac hi]at h;exact⟨_,getElem_mem hi,h⟩
 ·rintro⟨b,hb,h⟩
  obtain⟨i,hi,rfl⟩:=mem_iff_getElem.mp hb;exact⟨i,mem_range.mpr hi,by rw[Ad,Ac hi];exact h⟩
def Zdz(hc:X.calm=true):Y6 X (.builtin "any") (λxs H Q=>∃p bs,xs=[.ref p]/\SqL X.K H p (List.map V.bl bs)/\Q (.bl (bs.any id)) H):=by
 intro j' s σ H xs us Q I r h;obtain⟨p,bs,rfl,hq,q⟩:=h;obtain⟨u,rfl,ru⟩:=Xb r;cases ru;obtain⟨its,rv,pl,hz⟩:=I.list hq;have ne:p≠s.heap.objs.size:=by obtain⟨o,ho,_⟩:=pl.isList;exact As (Ao ho)
 refine call_any_walk (au:)
 ·intro i v s' Q' E' hv n9
  have hv:its[i]?=some v:=by simpa using hv
  have l9:=rv.length;rw[Ab]at l9;have hi:i<bs.length:=by have:=(Aa hv).1;lia
  obtain⟨u,hu,ru⟩:=rv.get (show(bs.map V.bl)[i]?=some (V.bl bs[i]) by rw[Ah,Ac hi];rfl);rw[hv]at hu;cases hu;cases ru;have e:bs.getD i true=bs[i]:=by rw[Ad,Ac hi];rfl
  refine wpAny_truthy_bool ?_;have n9:Q' (bs.getD i true) s':=n9;rw[e]at n9;exact n9
 ·intro h' tk hk
  have I1:Inv X j' σ H {s with heap:=h',toks:=tk}:=I.kept λb o e=>hk b o (a5:) (Ak _ e);have l9:its.toArray.size=bs.length:=by have:=rv.length;rw[Ab]at this;simp;lia
  refine⟨.bl (bs.any id),H,I1,?_,q⟩;show Value.bool _=_;rw[l9,Znv]
theorem Zim(ns:List Int):∀k,k<=ns.length->preSum (λi=>ns.getD i 0) k=(ns.take k).sum
 |0,_=>by simp[preSum]
 |k+1,h=>by
  rw[preSum,Zim ns k (by lia),Aw,Ac (by lia),sum_append,Ad,Ac (by lia)];simp
def Zaj{j':List (j:)}{σ:St}{H:Hp}{s:Shared}{ns:List Int}{its:List Value}(rv:Vals (T:) its):∀(i:Nat)(v:Value),its.toArray[i]?=some v->∃t,v=.int (ns.getD i 0) t:=λi v hv=>by
 have hv:its[i]?=some v:=by simpa using hv
 have l9:=rv.length;rw[Ab]at l9;have hi:i<ns.length:=by have:=(Aa hv).1;lia
 obtain⟨u,hu,ru⟩:=rv.get (show(T:)[i]?=some (V.int ns[i]) by rw[Ah,Ac hi];rfl);rw[hv]at hu;cases hu;obtain⟨t,rfl⟩:=ru;exact⟨t,by rw[Ad,Ac hi];rfl⟩
def Znq(hc:X.calm=true):Y6 X (.builtin "sum") (λxs H Q=>∃(p:Addr)(ns:List Int),xs=[.ref p]/\SqL X.K H p (T:)/\Q (.int ns.sum) H):=by
 intro j' s σ H xs us Q I r h;obtain⟨p,ns,rfl,hq,q⟩:=h;obtain⟨u,rfl,ru⟩:=Xb r;cases ru;obtain⟨its,rv,pl,hz⟩:=I.list hq;have lt:p<s.heap.objs.size:=by obtain⟨o,ho,_⟩:=pl.isList;exact Ao ho
 have l9:its.toArray.size=ns.length:=by have:=rv.length;rw[Ab]at this;simp;lia
 refine call_sum_walkG (wpAny_pyIter_list pl.isList ⟨s.heap.objs.size,_,_,_,_,_,λi=>ns.getD i 0,Y,Walks.list (A:=X.A.in1) (show X.A.in1.handled=none from I.ok.hd hc) s.heap.objs.size p (As lt) its.toArray,⟨⟨_,Ap _ Y,Y,Y⟩,pl.isList.push _⟩,?_,Zaj (j':=j') (σ:=σ) (H:=H) (s:=s) rv,?_⟩)
 ·intro b hb
  show b<(s.heap.push _).objs.size;rw[Heap.size_push]
  rcases Ar hb with rfl|hb
  ·exact lt_succ_self _
  ·rw[Af hb];exact lt_succ_of_lt lt
 ·intro h' tk t' hk
  have I1:Inv X j' σ H {s with heap:=h',toks:=tk}:=I.kept λb o e=>hk b o (a5:) (Ak _ e);refine⟨.int ns.sum,H,I1,⟨t',?_⟩,q⟩;rw[l9,Zim ns _ (An _),take_length]
def Znt(hc:X.calm=true):Y6 X (.builtin "max") (λxs H Q=>∃(p:Addr)(ns:List Int),xs=[.ref p]/\SqL X.K H p (T:)/\0<ns.length/\∀m,m∈ns->(∀a∈ns,a<=m)->Q (.int m) H):=by
 intro j' s σ H xs us Q I r h;obtain⟨p,ns,rfl,hq,hn,q⟩:=h;obtain⟨u,rfl,ru⟩:=Xb r;cases ru;obtain⟨its,rv,pl,hz⟩:=I.list hq;have lt:p<s.heap.objs.size:=by obtain⟨o,ho,_⟩:=pl.isList;exact Ao ho
 have l9:its.toArray.size=ns.length:=by have:=rv.length;rw[Ab]at this;simp;lia
 have W:=Zaj (j':=j') (σ:=σ) (H:=H) (s:=s) rv;refine call_max_walk (wpAny_pyIter_list pl.isList ⟨s.heap.objs.size,_,_,_,_,_,_,Y,Walks.list (A:=X.A.in1) (show X.A.in1.handled=none from I.ok.hd hc) s.heap.objs.size p (As lt) its.toArray,⟨⟨_,Ap _ Y,Y,Y⟩,pl.isList.push _⟩,?_,by rw[l9];exact hn,CmpOf.ints_gt (λi=>ns.getD i 0) W,?_⟩)
 ·intro b hb
  show b<(s.heap.push _).objs.size;rw[Heap.size_push]
  rcases Ar hb with rfl|hb
  ·exact lt_succ_self _
  ·rw[Af hb];exact lt_succ_of_lt lt
 ·intro v h' tk hP hk
  have I1:Inv X j' σ H {s with heap:=h',toks:=tk}:=I.kept λb o e=>hk b o (a5:) (Ak _ e);rw[l9]at hP;obtain⟨a1,a2⟩:=argBest_gt (λi=>ns.getD i 0) (ns.length-1);obtain⟨t,e⟩:=W _ _ hP;generalize argBest (λi j=>decide (ns.getD i 0>ns.getD j 0)) (ns.length-1)=k at a1 a2 e;have vq:k<ns.length:=by lia
  have ek:ns.getD k 0=ns[k]:=by rw[Ad,Ac vq];rfl
  refine⟨.int (ns.getD k 0),H,I1,⟨t,e⟩,q _ (by rw[ek];exact getElem_mem vq) λa ha=>?_⟩;obtain⟨j,hj,rfl⟩:=mem_iff_getElem.mp ha;have:=a2 j (by lia);have ej:ns.getD j 0=ns[j]:=by rw[Ad,Ac hj];rfl
  show ns[j]<=ns.getD k 0;rw[<-ej];exact this
theorem Zg1{A:Around}{j':List (j:)}{σ:St}{H:Hp}{s:Shared}(I:Inv X j' σ H s)(hu:A.units+65<cLine){kb:List (Key×V)}{vb:List (Key×Value)}(rb:KV kb vb):∀{ka:List (Key×V)}{va:List (Key×Value)},KV ka va ->
  (∀k v,(k,v)∈ka->∃d y,valV kb k=some y/\DV X.K H v d/\DV X.K H y d/\shaped d=true)->PySem.W.KeqHits A.in1 s vb va true
 |_,_,.nil,_=>.nil
 |(k,v)::ka,(k',u)::va,.cons r l8,h=>by
  obtain⟨e,rv⟩:=r;have e:k=k':=e;subst e;obtain⟨d,y,hy,dv,dy,hs⟩:=h k v (by simp);obtain⟨uy,huy,ry⟩:=RelO.some_of (v:=y) (o:=valueAt vb k) (by rw[<-hy];exact rb.val k);obtain⟨as,r1⟩:=dv.reads I rv;obtain⟨bs,r2⟩:=dy.reads I ry;have E:=PySem.W.keq_at (A:=A) r1 r2 hs hs (by show A.in1.units+64<cLine;simp;lia);rw[<-same_eq_eqv d d (Zbr d (canLay_of_shaped hs)),same_self]at E;have:=PySem.W.KeqHits.hit huy E (Zg1 I hu rb l8 λk v hm=>h k v (mem_cons_of_mem _ hm));simpa using this
def DAl(K:W.Frag)(H:Hp)(x y:V):Prop:=∃a b ka kb,x=.ref a/\y=.ref b/\Rd H a (.dK ka)/\Rd H b (.dK kb)/\ka.length=kb.length/\∀k v,(k,v)∈ka->∃d y,valV kb k=some y/\DV K H v d/\DV K H y d/\shaped d=true
def Zrb(hu:X.A.units+65<cLine):OpR X (compareOp .NotEq) (λx y H Q=>DAl X.K H x y/\Q (.bl false) H):=by
 intro j' s σ H x y v u Q I rx ry h;obtain⟨⟨a,b,ka,kb,rfl,rfl,ha,hb,hl,hk⟩,q⟩:=h;cases rx;cases ry;obtain⟨za,sa,va,ra,da⟩:=J7 I.hok ha;obtain⟨zb,sb,vb,rb,db⟩:=J7 I.hok hb;refine PySem.W.keq_ne (r:=true) sa sb da db (by lia) (λ_=>Zg1 I hu rb ra hk) ?_;have el:va.length=vb.length:=by rw[<-ra.length,<-rb.length];exact hl
 rw[el];exact⟨.bl false,H,I,by simp;rfl,q⟩
def Room.units65{k:Nat}{A:Around}(r:Room k A):A.units+65<cLine:=by have:=r.un;lia
def Zb0(K:W.Frag)(hc:X.calm=true)(h:X.K=K:=by rfl):Y6 X (.builtin "sum") (λxs H Q=>∃(p:Addr)(ns:List Int),xs=[.ref p]/\SqL K H p (T:)/\Q (.int ns.sum) H):=h▸Znq hc
def Zkw(K:W.Frag)(hc:X.calm=true)(h:X.K=K:=by rfl):Y6 X (.builtin "max") (λxs H Q=>∃(p:Addr)(ns:List Int),xs=[.ref p]/\SqL K H p (T:)/\0<ns.length/\∀m,m∈ns->(∀a∈ns,a<=m)->Q (.int m) H):=h▸Znt hc
end
end L2
namespace L2
open PySem PySem.Spec PyProof.Rows
def Zo3:typeLookup (.type "list_reverseiterator") "__len__"=pure none:=by
 rw[typeLookup_type];rw[builtinLookup_eq_fast]
 kernel_rfl
def Zrl:typeLookup (.type "list_reverseiterator") "__length_hint__"=pure (some (.builtin "list_reverseiterator.__length_hint__")):=by
 rw[typeLookup_type];rw[builtinLookup_eq_fast]
 kernel_rfl
section
variable{prog:Program}{w:World}{A:Around}{E:Value->Shared->Prop}{s:Shared}
def Zkv{I:Addr}{fp wr:List Addr}{G:Array GenState->Array GenState->Prop}{n:Nat}{P:Nat->Value->Prop}{St:Nat->Shared->Prop}{Q:List Value->Shared->Prop}
  (W:WalksS prog w A.in1 I fp wr G n P St) (hT:∀i z,St i z->z.TypeIs (.ref I) "list_reverseiterator") (h0:St 0 s) (mr:∀b∈fp,b<s.heap.objs.size) (hI:I∈fp)
  (q:∀z md,Moved wr G s z->ItemsOf P md n->Q md.toList z) (hn:n<=sizeLine):wpAny (ae:) A (collect (.ref I)) Q E s:=by
 have nf:s.heap.objs.size∉fp:=λz=>absurd (mr _ z) (Nat.lt_irrefl _);have ni:s.heap.objs.size≠I:=λz=>nf (by rw[z];exact hI);unfold collect;refine Al ?_;refine wpAny_runValue ?_;refine codeAny_builtin F.entry_proto_collect ?_;rw[Around.under_plainId F.plain_proto_collect _];refine Al (m:=newList []) ?_;refine wpAny_newObj_type ?_;refine wpAny_pure ?_;refine⟨plainId_quiet F.plain_list_iadd _,?_⟩;refine codeAny_builtin F.entry_list_iadd ?_;rw[Around.under_plainId F.plain_list_iadd _];have k:∀b o,s.heap.get? b=some o->(bc:).get? b=some o:=λb o e=>Ak _ e;have h1:=W.frame 0 s _ s.toks h0 (An _) λb _ o e=>k b o e;have hS:(bc:).get? s.heap.objs.size=some {cls:=.type "list",data:=.seq (b1:).toArray}:=Ap _ rfl;have ns:Builtin.List.listSameRef (C:) (.ref I)=false:=by
  unfold Builtin.List.listSameRef
  simp[ni]
 show wpAny _ A.in1 (Builtin.List.listExtendWith (C:) (.ref I) (C:)) _ _ _;unfold Builtin.List.listExtendWith;refine Al ?_;refine wpAny_typeOf (hT 0 _ h1) ?_;rw[if_neg (by rw[ns];decide)];refine Al ?_;refine W.self 0 _ _ _ h1 ?_;refine Al ?_;refine wpAny_holding ?_;unfold Builtin.List.listLengthHint;refine Al ?_;refine wpAny_specialOf (hT 0 _ h1) Zo3 ?_;refine Al (m:=specialOf (.ref I) (Str.ofString "__length_hint__")) ?_;refine wpAny_specialOf (hT 0 _ h1) Zrl ?_;generalize hid:("list_reverseiterator.__length_hint__":String)=nmId
 (fail_if_success (clear hid nmId))
 wp_delta
 rw[show splitId nmId=some ("list_reverseiterator","__length_hint__") by rw[<-hid];decide+kernel];subst hid;refine Al ?_;refine wpAny_isInstance (b:=true) (hT 0 _ h1) (by rw[isSubtype_type];kernel_rfl) ?_;refine wpAny_pure ?_;rw[if_neg (d:)];refine wpAny_pure ?_;refine⟨plainId_quiet F.plain_extend_loop _,?_⟩;refine codeAny_extend_loopS W hn _ nf _ n 0 _ _ _ Y (Az _) h1 hS (ItemsOf.nil P) λz md c hm hz ha=>?_;show wpAny _ A (load s.heap.objs.size>>=_) _ _ z;refine Al ?_;refine wpAny_load hz ?_;refine wpAny_pure ?_;exact q z md (Moved.drop_new (o:={cls:=.type "list",data:=.seq (b1:).toArray}) (tk:=s.toks) hm (An _)) ha
def Zrk{I l:Addr}{its:List Value}{ys:List Str}{x:Str}{t:Tok}{Q:Value->Shared->Prop}(hh:A.handled=none)(mw:l≠I)(hit:s.heap.IsRevIter I l ((its.length:Int)-1))(hl:s.heap.IsList l its.toArray)
  (hi:StrsAre its ys) (hsep:x.length<=16) (hw:(ys.map (·.length)).sum+ys.length<=1048576)
  (q:∀h' t' k,(∀b o,b≠I->s.heap.get? b=some o->h'.get? b=some o)->Q (.str (Txt.join x ys.reverse) t') {s with heap:=h',toks:=k}):wpAny (ae:) A (call (.builtin "str.join") [.str x t,.ref I]) Q E s:=by
 have W:=(Walks.listRev (prog:=prog) (w:=w) (A:=A.in1.in1) hh I l mw its.toArray).toS;have hT:∀i(z:Shared),(i<=its.toArray.size/\z.heap.IsRevIter I l ((its.toArray.size:Int)-1-(i:Int))/\z.heap.IsList l its.toArray)->z.TypeIs (.ref I) "list_reverseiterator":=λi z h=>h.2.1.typeIs;have h0:0<=its.toArray.size/\s.heap.IsRevIter I l ((its.toArray.size:Int)-1-((0:Nat):Int))/\s.heap.IsList l its.toArray:=⟨Az _,by simpa using hit,hl⟩;have hly:its.length=ys.length:=hi.length;refine wpAny_call ?_;refine codeAny_call_builtin F.slot_str_join.plain F.entry_str_join ?_;refine F.slot_str_join.check _ _ _ _ _ _ _ _ (typeIs_str _ _ _) (F.args_str_join_2 _ _) ?_;rw[join_tree_other];refine Al ?_;refine wpAny_typeOf (hT 0 s h0) ?_;show wpAny _ A.in1 ((pyIter (.ref I)).tryCatch _>>=λit=>collect it>>=λzs=>joinTail x zs) _ _ s;refine Al ?_;refine wpAny_tryCatch ?_;refine W.of_in1.self 0 s _ _ h0 ?_;refine Al ?_;have mr:∀b∈[I,l],b<s.heap.objs.size:=λb hb=>by
  rcases Ar hb with z|z
  ·obtain⟨o,e,_⟩:=hit.typeIs
   subst z
   exact Ao e
  ·rw[Af z]
   obtain⟨o,e,_⟩:=hl
   exact Ao e
 refine Zkv W hT h0 mr mem_cons_self (λz md hm ha=>?_) (by rw[Aq,sizeLine_eq];lia);have ea:md.toList=its.reverse:=by
  refine ext_getElem? λj=>?_
  have hz:md.size=its.length:=ha.1.trans Aq
  by_cases c:j<its.length
  ·have hj:j<md.size:=by lia
   have h2:=ha.2 j _ (Array.getElem?_eq_getElem hj)
   rw[Array.getElem?_toList,Array.getElem?_eq_getElem hj,getElem?_reverse c,<-h2]
   simp
  ·rw[Ay (by rw[Array.length_toList];lia),Ay (by rw[length_reverse];lia)]
 obtain⟨ps,hps⟩:=exists_strValues its.reverse λv hv=>hi.all v (mem_reverse.mp hv);have ey:ps.map (·.1)=ys.reverse:=by
  rw[<-hi.strs,<-map_reverse,<-hps]
  unfold strValues
  rw[map_map]
  rfl
 rw[ea,<-hps];have ok:JoinOk x (ps.map (·.1))=true:=joinOk_of_weight (by rw[ey];simpa using hw) hsep;unfold JoinOk at ok;rw[Bool.not_eq_true']at ok;have g:Gives (joinTail x (strValues ps)) (joinMade x ps):=by
  have g0:=gives_joinTail x ps ok
  rcases ps with _|⟨p,_|⟨p',r⟩⟩
  ·exact g0
  ·exact g0
  ·exact g0
 refine g prog w A (wants Q E) z (post_join ps ⟨joinFit_length ok,λt' k=>?_⟩);rw[ey];obtain⟨zh,zg,zd,zt,zo⟩:=z;obtain⟨m1,m2,m3,m4,m5⟩:=hm;have m2:zg=s.gens:=m2;have m3:zd=s.drawn:=m3;have m4:zo=s.os:=m4;subst m2 m3 m4;exact q zh t' k λb o hb e=>m1 b o (λz=>hb (Af z)) e
end
section
variable{X:Cx}
def Zn3(K:W.Frag)(to:TE)(ta:TA):TE:=λσ H Q=>to σ H λx H1=>∃pe,x=.str pe/\ta σ H1 λvs H2=>∃a ys,vs=[.ref a]/\SqL K H2 a (List.map V.str ys)/\pe.length<=16/\(ys.map (·.length)).sum+ys.length<=1048576/\Q (.str (Txt.join pe ys.reverse)) H2
def Zj9{o l:Expr}{to:TE}{ta:TA}{p1 ml mf ub:Pos}(hg:Gl X "reversed")(hm:X.mg "reversed"=none)(hc:X.calm=true)(ho:PE X o to)(ha:PA X [l] ta)
  (rc:attributeBase o "join" X.env (eval o X.env)=eval o X.env:=by rfl)
  (u5:((backTo mf (starEach [.Call (.Name "reversed" p1) [l] [] ub] X.env)).all (λx=>!x.1) && (backToKw mf (keywordEach [] X.env)).all (λx=>x.1.isSome)
   && decide ([Expr.Call (.Name "reversed" p1) [l] [] ub].length+([]:List Keyword).length+(if([]:List Keyword).isEmpty then 0 else 1)<30))=true:=by rfl)
  (qz:(ml.endLine==mf.line)=true:=by rfl) (hs:starEach [.Call (.Name "reversed" p1) [l] [] ub] X.env=[(false,eval (.Call (.Name "reversed" p1) [l] [] ub) X.env)]:=by rfl) (z6:starEach [l] X.env=[(false,eval l X.env)]:=by rfl):
  PE X (.Call (.Attribute o "join" ml) [.Call (.Name "reversed" p1) [l] [] ub] [] mf) (Zn3 X.K to ta):=by
 intro j' s σ H Q I h;refine wpAny_Call_method_late rc u5 qz Y (thn (ho j' s σ H _ I h) λv s1 me=>?_);obtain⟨x,H1,I1,r1,q1⟩:=me;obtain⟨pe,rfl,q1⟩:=q1;obtain⟨h1,h2⟩:=Zk3 (T:="str") I1 r1 (by first|rfl|exact trivial);refine⟨"str","str.join",PySem.F.plainAttrs_str,PySem.F.slot_str_join,PySem.F.type_str_join,h1,h2,?_⟩;obtain⟨t,rfl⟩:=r1;rw[hs];refine Calls.callWith_builtin Y (Calls.evalArgs_plain ?_);refine Calls.spliced_cons ?_;refine Call_ (Ja I1 hg hm boot_reversed (PyProof.Rows.callWith_type1 (thn (ha ub j' s1 σ H1 _ I1 q1) λus s2 zz52=>?_) z6 Y));obtain⟨vs,H2,I2,r2,q2⟩:=zz52;obtain⟨a,ys,e,hq,w1,w2,q⟩:=q2;subst e;obtain⟨u,rfl,ru⟩:=Xb r2;cases ru;obtain⟨its,rv,pl,_⟩:=I2.list hq;refine call_reversed_list pl.isList ?_;refine Calls.spliced_nil ?_;have I3:Inv X j' σ H2 {s2 with heap:=s2.heap.push (revObj a ((its.toArray.size:Int)-1))}:=I2.kept (t':=s2.toks) λb o e=>Ak _ e;have ne:a≠s2.heap.objs.size:=λz=>by
  obtain⟨o,e,_⟩:=pl.isList
  exact As (Ao e) z
 have uq:(s2.heap.push (revObj a ((its.toArray.size:Int)-1))).IsList a its.toArray:=pl.isList.at λo e=>Ak _ e;have hit:(s2.heap.push (revObj a ((its.toArray.size:Int)-1))).IsRevIter s2.heap.objs.size a ((its.length:Int)-1):=by
  rw[show((its.length:Int)-1)=((its.toArray.size:Int)-1) by simp]
  exact⟨_,Ap _ Y,Y,Y⟩
 refine Zrk (I2.ok.hd hc) ne hit uq (by simpa using Zav rv) w1 w2 λh' t' k hk=>?_;refine⟨.str _,H2,I2.kept (t':=k) λb o e=>hk b o (λz=>?_) (Ak _ e),⟨_,Y⟩,q⟩;exact As (Ao e) z
def Zs5:OpR X (compareOp .In) (λx y H Q=>∃a b,x=.str a/\y=.str b/\Q (.bl (Txt.contains b a)) H):=by
 intro j' s σ H x y v u Q I rx ry h;obtain⟨a,b,rfl,rfl,q⟩:=h;obtain⟨t,rfl⟩:=rx;obtain⟨t',rfl⟩:=ry;exact PySem.SB.contains ⟨.bl _,H,I,Y,q⟩
def Zhj(K:W.Frag)(h:X.K=K:=by rfl):Y6 X (.builtin "isinstance") (λxs H Q=>∃x T t b,xs=[x,V.ty T]/\TyOf K H x t/\PySem.W.kitOne K t (.type T)=some b/\Q (V.bl b) H):=h▸Jm
def jStr(te:TE)(t:TJ):TJ:=λout σ H Q=>te σ H λv H1=>∃x:Str,v=.str x/\x.length<=sizeLine/\(out++x).length<=sizeLine/\t (out++x) σ H1 Q
def J0{e:Expr}{es:List Expr}{te:TE}{t:TJ}{pos:Pos}(he:PE X e te)(h:PJ X es t):PJ X (.FormattedValue e (-1) none pos::es) (jStr te t):=by
 intro out j' s σ H Q I hq;refine joinParts_cons (FormattedValue_plain (thn (he j' s σ H _ I hq) λu s1 me=>?_));obtain⟨v,H1,I1,r1,x,ev,hl,hz,q⟩:=me;subst ev;obtain⟨tk,rfl⟩:=r1;exact formatField_str (λt' k=>⟨hz,h _ j' _ σ H1 Q (I1.tok _) q⟩) hl
def Asc(x:Str):Prop:=∀c∈x.cps.toList,c<128
def Asc.all{x:Str}(h:Asc x):x.cps.all (·<128)=true:=by
 rw[<-Array.all_toList,all_eq_true];exact λc hc=>decide_eq_true (h c hc)
def Asc.app{x y:Str}(h:Asc x)(h':Asc y):Asc (x++y):=by
 intro c hc;have:(x++y).cps.toList=x.cps.toList++y.cps.toList:=Array.toList_append;rw[this]at hc;exact(mem_append.mp hc).elim (h c) (h' c)
end
def Asc.num(i:Int):Asc (Str.ofString (toString i)):=λc hc=>by
 refine Decidable.byContradiction λh=>?_;exact int_text_free' c ⟨by lia,by lia⟩ i hc
theorem Zhl{pe:Str}(hs:Asc pe):∀(l:List Str)(a:Array Nat),(∀c∈a.toList,c<128)->(∀y∈l,Asc y)->∀c∈(l.foldl (λmd p=>md++pe.cps++p.cps) a).toList,c<128
 |[],a,ha,_,c,hc=>ha c hc
 |y::l,a,ha,hl,c,hc=>by
  refine Zhl hs l (a++pe.cps++y.cps) (λd hd=>?_) (λz hz=>hl z (mem_cons_of_mem _ hz)) c hc;rw[Array.toList_append,Array.toList_append]at hd
  rcases mem_append.mp hd with h|h
  ·rcases mem_append.mp h with h|h
   ·exact ha d h
   ·exact hs d h
  ·exact hl y mem_cons_self d h
def Asc.joinS{pe:Str}{ys:List Str}(hs:Asc pe)(h:∀y∈ys,Asc y):Asc (Txt.join pe ys):=by
 unfold Txt.join Builtin.Str.glued
 cases ys with
 |nil=>intro c hc;have hc:c∈([]:List Nat):=hc;cases hc
 |cons y l=>exact Zhl hs l y.cps (h y mem_cons_self) λz hz=>h z (mem_cons_of_mem _ hz)
theorem Zdv{pe:Str}:∀(l:List Str)(a:Array Nat),(l.foldl (λmd p=>md++pe.cps++p.cps) a).size=a.size+(l.map (·.length)).sum+l.length*pe.length
 |[],a=>by simp
 |y::l,a=>by
  rw[foldl_cons,Zdv l,Array.size_append,Array.size_append,map_cons,sum_cons,length_cons,Nat.add_mul];show a.size+pe.length+y.length+_+_=_;lia
def V8(pe:Str)(ys:List Str):(Txt.join pe ys).length<=(ys.map (·.length)).sum+ys.length*pe.length:=by
 unfold Txt.join Builtin.Str.glued
 cases ys with
 |nil=>exact Az _
 |cons y l=>
  show(l.foldl (λmd p=>md++pe.cps++p.cps) y.cps).size<=_;rw[Zdv,map_cons,sum_cons,length_cons,Nat.add_mul];show y.length+_+_<=_;lia
theorem Uq{B:Nat}:∀{l:List Str},(∀x∈l,x.length<=B)->(l.map (·.length)).sum<=B*l.length
 |[],_=>An _
 |x::l,h=>by
  have h1:=h x mem_cons_self;have h2:=Uq (l:=l) λy hy=>h y (mem_cons_of_mem _ hy);rw[map_cons,sum_cons,length_cons,Nat.mul_add];lia
def Y0(x y:Str):(x++y).length=x.length+y.length:=Array.size_append
end L2
namespace L2
open PySem PySem.Spec PyProof.Rows PySem.Builtin PySem.Builtin.Str
section
variable{X:Cx}
theorem Zcy:∀l:List (Str×Tok),Vals ((l.map (·.1)).map V.str) (strValues l)
 |[]=>.nil
 |_::l=>.cons ⟨_,rfl⟩ (Zcy l)
def Zld{x y:Str}:(Txt.split x y).length<=x.length+2:=by
 unfold Txt.split;have e1:=StrLaws.occ_length_le x y 0 x.length (x.length+1);split
 ·exact le_add_left 1 (x.length+1)
 ·split
  ·exact le_add_left 1 (x.length+1)
  ·rw[length_partsBetween];lia
def Zsr:V->List V->Hp->VK->Prop:=λo xs H Q=>∃x y:Str,o=.str x/\xs=[.str y]/\(y.length==0)=false/\x.length+2<=sizeLine/\∀p,H p=none->Q (.ref p) (upd H p (.lst ((Txt.split x y).map V.str)))
def Qi:MtR X "str.split" Zsr:=by
 intro j' s σ H o xs v us Q I rx rs h;obtain⟨x,y,rfl,rfl,hy,hsz,q⟩:=h;obtain⟨t,rfl⟩:=rx;obtain⟨u,rfl,ru⟩:=Xb rs;obtain⟨tu,rfl⟩:=ru;have hn:(partsBetween x (occurrences x y 0 x.length (x.length+1)) y.length).length<=sizeLine:=by
  have e1:=StrLaws.occ_length_le x y 0 x.length (x.length+1)
  rw[length_partsBetween];lia
 have m9:∀(l:List (Str×Tok))(k:Nat),l.map (·.1)=Txt.split x y->EP X j' σ Q (C:) {s with heap:=s.heap.push {cls:=.type "list",data:=.seq (strValues l).toArray},toks:=k}:=λl k e=>by
  refine⟨.ref s.heap.objs.size,upd H s.heap.objs.size (.lst ((Txt.split x y).map V.str)),I.laid (λb u hb=>Ak _ hb) (An _) ?_,Y,q _ I.fresh⟩;refine⟨?_,strValues l,0,?_,Ap _ Y⟩
  ·rw[Ab];exact Nat.le_trans Zld hsz
  ·rw[<-e];exact Zcy l
 cases h1:(decide (x.length<y.length)||decide (strKind x<strKind y))
 ·cases hf:(occurrences x y 0 x.length (x.length+1)).isEmpty
  ·refine call_meets F.slot_str_split (typeIs_str _ _ _) F.entry_str_split (F.args_str_split_2 _ _) (meets_str_split_sep x y t tu h1 hy hf (by lia) hn) ?_
   show wants _ _ _ {s with toks:=_,heap:=s.heap.push {cls:=.type "list",data:=.seq (strsFrom s.toks (partsBetween x (occurrences x y 0 x.length (x.length+1)) y.length)).toArray} };rw[strsFrom_eq];exact m9 (numbered s.toks _) _ ((numbered_texts _ _).trans ((if_neg (ne_true_of_eq_false h1)).trans (if_neg (ne_true_of_eq_false hf))).symm)
  ·exact call_meets F.slot_str_split (typeIs_str _ _ _) F.entry_str_split (F.args_str_split_2 _ _) (meets_str_split_not_found x y t tu h1 hy hf)
    (m9 [(x,t)] s.toks ((if_neg (ne_true_of_eq_false h1)).trans (if_pos hf)).symm)
 ·exact call_meets F.slot_str_split (typeIs_str _ _ _) F.entry_str_split (F.args_str_split_2 _ _) (meets_str_split_cannot_occur x y t tu h1)
   (m9 [(x,t)] s.toks (if_pos h1).symm)
def Zq1:V->List V->Hp->VK->Prop:=λo xs H Q=>∃x y:Str,o=.str x/\xs=[.str y]/\Q (.bl (Txt.startswith x y)) H
def Kd:MtR X "str.startswith" Zq1:=by
 intro j' s σ H o xs v us Q I rx rs h;obtain⟨x,y,rfl,rfl,q⟩:=h;obtain⟨t,rfl⟩:=rx;obtain⟨u,rfl,ru⟩:=Xb rs;obtain⟨tu,rfl⟩:=ru;exact SC.startswith ⟨.bl _,H,I,Y,q⟩
def Znu:Y6 X (.type "int") (λxs H Q=>∃(x:Str)(n:Int),xs=[.str x]/\intText? x=some n/\x.length<=640/\Q (.int n) H):=by
 intro j' s σ H xs us Q I r h;obtain⟨x,n,rfl,hn,hl,q⟩:=h;obtain⟨u,rfl,ru⟩:=Xb r;obtain⟨t,rfl⟩:=ru;exact PySem.W.KIN.call_text hn hl ⟨.int _,H,I.tok _,⟨_,Y⟩,q⟩
end
noncomputable def oh(c:Nat):List (List Nat)->List Nat
 |[]=>[]
 |[a]=>a
 |a::b::r=>a++c::oh c (b::r)
theorem Jk(c:Nat):∀l:List Str,(Str.join ⟨#[c]⟩ l).cps.toList=oh c (l.map λx=>x.cps.toList)
 |[]=>rfl
 |[x]=>rfl
 |x::y::r=>by
  have ih:=Jk c (y::r);show(x++⟨#[c]⟩++Str.join ⟨#[c]⟩ (y::r)).cps.toList=x.cps.toList++c::oh c ((y::r).map λx=>x.cps.toList);rw[<-ih];have e:∀a b:Str,(a++b).cps.toList=a.cps.toList++b.cps.toList:=λa b=>Array.toList_append;rw[e,e,append_assoc];rfl
theorem Zg7{c:Nat}:∀{a a' r r':List Nat},c∉a->c∉a'->a++c::r=a'++c::r'->a=a'/\r=r'
 |[],[],_,_,_,_,e=>by injection e with _ e;exact⟨Y,e⟩
 |[],x::a',_,_,_,h',e=>by injection e with e _;exact absurd (mem_cons.mpr (.inl e)) h'
 |x::a,[],_,_,h,_,e=>by injection e with e _;exact absurd (mem_cons.mpr (.inl e.symm)) h
 |x::a,y::a',_,_,h,h',e=>by
  injection e with e1 e2
  obtain⟨e3,e4⟩:=Zg7 (λz=>h (mem_cons_of_mem _ z)) (λz=>h' (mem_cons_of_mem _ z)) e2;exact⟨by rw[e1,e3],e4⟩
theorem Zi9{c:Nat}:∀{l l':List (List Nat)},l≠[]->l'≠[]->(∀p∈l,c∉p)->(∀p∈l',c∉p)->oh c l=oh c l'->l=l'
 |[],_,h,_,_,_,_=>absurd rfl h
 |_,[],_,h,_,_,_=>absurd rfl h
 |[a],[a'],_,_,_,_,e=>by rw[show a=a' from e]
 |[a],a'::b'::r',_,_,h,_,e=>by
  have:c∈a:=by rw[show a=a'++c::oh c (b'::r')from e];exact mem_append.mpr (.inr mem_cons_self)
  exact absurd this (h a mem_cons_self)
 |a::b::r,[a'],_,_,_,h',e=>by
  have:c∈a':=by rw[<-show a++c::oh c (b::r)=a' from e];exact mem_append.mpr (.inr mem_cons_self)
  exact absurd this (h' a' mem_cons_self)
 |a::b::r,a'::b'::r',_,_,h,h',e=>by
  obtain⟨e1,e2⟩:=Zg7 (h a mem_cons_self) (h' a' mem_cons_self) (show a++c::oh c (b::r)=a'++c::oh c (b'::r')from e);have:=Zi9 (l:=b::r) (l':=b'::r') (W:) (W:) (λp hp=>h p (mem_cons_of_mem _ hp)) (λp hp=>h' p (mem_cons_of_mem _ hp)) e2;rw[e1,this]
def Zn8(x:Str)(c:Nat):Txt.split x ⟨#[c]⟩≠[]:=λe=>by
 have h:=StrLaws.join_split x ⟨#[c]⟩;rw[e]at h;have hx:x.length=0:=by rw[<-h];rfl
 unfold Txt.split at e;rw[if_pos (by rw[hx];rfl)]at e;cases e
def Oe{x:Str}{c:Nat}{l:List Str}(mw:l≠[])(hf:∀p∈l,c∉p.cps.toList)(hx:x.cps.toList=oh c (l.map λx=>x.cps.toList)):Txt.split x ⟨#[c]⟩=l:=by
 have h1:oh c ((Txt.split x ⟨#[c]⟩).map λx=>x.cps.toList)=oh c (l.map λx=>x.cps.toList):=by rw[<-hx,<-Jk,StrLaws.join_split]
 have h2:=Zi9 (λz=>Zn8 x c (map_eq_nil_iff.mp z)) (λz=>mw (map_eq_nil_iff.mp z)) (λp hp=>by
  obtain⟨y,hy,rfl⟩:=mem_map.mp hp
  exact StrLaws.split_free x c y hy) (λp hp=>by
  obtain⟨y,hy,rfl⟩:=mem_map.mp hp
  exact hf y hy) h1
 have inj:∀{l l':List Str},(l.map λx=>x.cps.toList)=(l'.map λx=>x.cps.toList)->l=l':=λ{l l'}=>by
  induction l generalizing l' with
  |nil=>intro e;cases l' with
   |nil=>rfl
   |cons y l'=>cases e
  |cons x l ih=>intro e;cases l' with
   |nil=>cases e
   |cons y l'=>
    injection e with e1 e2
    rw[ih e2,show x=y from Str.ext' e1]
 exact inj h2
end L2
namespace L2
open PySem PySem.Spec PyProof.Rows
def KTup(K:W.Frag)(a:Addr)(xs:List Str):Prop:=∀H:Hp,SqT K H a (xs.map V.str)
def ktup_mk2{K:W.Frag}{a:Addr}{t1 t2:Tok}{ep:Nat}{x1 x2:Str}(l:K.lookup a=some ⟨.type "tuple",none,.seq #[.str x1 t1,.str x2 t2] ep,#[]⟩):KTup K a [x1,x2]:=
 λH=>.inr ⟨_,_,_,l,rfl,rfl,(by show 2<=sizeLine;decide),.cons ⟨_,rfl⟩ (.cons ⟨_,rfl⟩ .nil)⟩
def ktup_mk3{K:W.Frag}{a:Addr}{t1 t2 t3:Tok}{ep:Nat}{x1 x2 x3:Str}(l:K.lookup a=some ⟨.type "tuple",none,.seq #[.str x1 t1,.str x2 t2,.str x3 t3] ep,#[]⟩):KTup K a [x1,x2,x3]:=
 λH=>.inr ⟨_,_,_,l,rfl,rfl,(by show 3<=sizeLine;decide),.cons ⟨_,rfl⟩ (.cons ⟨_,rfl⟩ (.cons ⟨_,rfl⟩ .nil))⟩
theorem Ua(x:Str):∀xs:List Str,inV (.str x) (xs.map V.str)=decide (x∈xs)
 |[]=>rfl
 |y::xs=>by
  have ih:=Ua x xs;unfold inV at ih⊢;rw[map_cons,any_cons,ih];have e:eqV (.str y) (.str x)=decide (x=y):=by
   show decide _=_
   by_cases c:x=y
   ·subst c;simp
   ·rw[decide_eq_false c];exact decide_eq_false (λz=>c z.symm)
  rw[e];by_cases c:x=y
  ·rw[decide_eq_true c,decide_eq_true (mem_cons.mpr (.inl c))];rfl
  ·rw[decide_eq_false c,Bool.false_or]
   exact decide_eq_decide.mpr ⟨mem_cons_of_mem _,λz=>(Ar z).resolve_left c⟩
def Gf(xs:List Str):(xs.map V.str).all Vd=true:=by
 rw[all_eq_true];intro v hv;obtain⟨x,_,rfl⟩:=mem_map.mp hv;rfl
end L2
namespace HL
open PySem PyProof.Rows HT
end HL
namespace L2
open PySem PySem.Spec PyProof.Rows
def Zpb{X:Cx}:PIp X .FloorDiv (λx y H Q=>∃i j,x=.int i/\y=.int j/\Zez i j/\Q (.int (i/j)) H):=by
 intro j' s σ H x y v u Q I r1 r2 h;obtain⟨i,j,e1,e2,hc,q⟩:=h;subst e1;subst e2;obtain⟨t,rfl⟩:=r1;obtain⟨t',rfl⟩:=r2;have h1:(0:Int)<j:=hc.1;refine ifloordiv_int (by lia) ?_ (.inl (PyProof.noPylong_of_log2 hc.2));rw[Int.fdiv_eq_ediv_of_nonneg i (by lia)];exact⟨.int _,H,I.tok _,⟨_,Y⟩,q⟩
end L2
namespace L2
open PySem PySem.Spec PyProof.Rows PySem.Builtin PySem.Builtin.Str
section
variable{X:Cx}
def Zsq:V->List V->Hp->VK->Prop:=λo xs H Q=>∃x:Str,o=.str x/\xs=[.int 60]/\Q (.str (Txt.zfill x 60)) H
def Zo4:MtR X "str.zfill" Zsq:=by
 intro j' s σ H o xs v us Q I rx rs h;obtain⟨x,rfl,rfl,q⟩:=h;obtain⟨t,rfl⟩:=rx;obtain⟨u,rfl,ru⟩:=Xb rs;obtain⟨tu,rfl⟩:=ru;exact SC.zfill (d:) λt' k=>⟨.str _,H,I.tok _,⟨_,Y⟩,q⟩
end
noncomputable def dg(m:Nat):List Nat:=(Nat.toDigits 10 m).map Char.toNat
def Zks{m:Nat}(h:m<10):dg m=[48+m]:=by
 unfold dg;rw[toDigits_of_lt_base h];have:∀d:Fin 10,(Nat.digitChar d.val).toNat=48+d.val:=by decide
 exact congrArg (λz=>[z]) (this ⟨m,h⟩)
def Zcs{m:Nat}(h:¬m<10):dg m=dg (m/10)++[48+m%10]:=by
 have hm:m%10<10:=mod_lt m (d:);have t:Nat.toDigits 10 (m/10)++Nat.toDigits 10 (m%10)=Nat.toDigits 10 (10*(m/10)+m%10):=toDigits_append_toDigits (d:) (by lia) hm;rw[div_add_mod]at t;rw[<-Zks hm];unfold dg;rw[<-t,Aj]
noncomputable def pdg:Nat->Nat->List Nat
 |0,_=>[]
 |k+1,m=>pdg k (m/10)++[48+m%10]
theorem Zhb:∀(k a b:Nat),0<a->b<10^k->dg (a*10^k+b)=dg a++pdg k b
 |0,a,b,_,hb=>by
  have:b=0:=by rw[Nat.pow_zero]at hb;lia
  subst this;show dg (a*1+0)=dg a++[];rw[append_nil,Nat.mul_one,Nat.add_zero]
 |k+1,a,b,ha,hb=>by
  have hp:0<10^k:=Nat.pow_pos (d:);have e1:a*10^(k+1)+b=10*(a*10^k)+b:=by rw[Nat.pow_succ];congr 1;rw[<-Nat.mul_assoc,Nat.mul_comm _ 10]
  have hk:10^k<=a*10^k:=Nat.le_mul_of_pos_left _ ha;have hb':b/10<10^k:=by rw[Nat.pow_succ]at hb;exact Nat.div_lt_of_lt_mul (by lia)
  rw[e1,Zcs (by lia),show(10*(a*10^k)+b)/10=a*10^k+b/10 by lia,show(10*(a*10^k)+b)%10=b%10 by lia,Zhb k a (b/10) ha hb',append_assoc];rfl
theorem Zgj:∀k:Nat,pdg k 0=List.replicate k 48
 |0=>rfl
 |k+1=>by
  show pdg k 0++[48]=_;rw[Zgj k,replicate_succ']
theorem Zni:∀(k b:Nat),0<k->b<10^k->(dg b).length<=k/\List.replicate (k-(dg b).length) 48++dg b=pdg k b
 |0,_,h,_=>absurd h (Nat.lt_irrefl _)
 |k+1,b,_,hb=>by
  by_cases h:b<10
  ·rw[Zks h]
   refine⟨succ_le_succ (Az _),?_⟩;show List.replicate k 48++[48+b]=pdg k (b/10)++[48+b%10];rw[div_eq_of_lt h,mod_eq_of_lt h,Zgj]
  ·have hb':b/10<10^k:=by rw[Nat.pow_succ]at hb;exact Nat.div_lt_of_lt_mul (by lia)
   have hk:0<k:=by
    rcases eq_zero_or_pos k with z|z
    ·subst z;rw[Nat.pow_zero]at hb';lia
    ·exact z
   obtain⟨h1,h2⟩:=Zni k (b/10) hk hb';rw[Zcs h,Ae,At];refine⟨by lia,?_⟩;rw[show k+1-((dg (b/10)).length+1)=k-(dg (b/10)).length by lia,<-append_assoc,h2];rfl
end L2
namespace L2
open PySem PySem.Spec PyProof.Rows
def Zmp{K:W.Frag}{S T:ZS}{xs ys:List V}{g:TG}{tt:TT}{tb:TB}{R:St->Hp->Prop}{σ:St}{H:Hp}(l9:xs.length=ys.length)(Pv:Nat->St->Hp->Prop)(h0:Pv 0 σ H)(hl:∀i σ H,i<=xs.length->Pv i σ H->S.has K H xs/\T.has K H ys)
  (hs:∀(i:Nat)x y σ H q,xs[i]?=some x->ys[i]?=some y->H q=none->Pv i σ H->g (.ref q) σ (upd H q (.tup [x,y])) λσ2 H2=>tt σ2 H2 λb H3=>if b=true then tb σ2 H3 (Pv (i+1))else Pv (i+1) σ2 H3) (hd:∀σ H,Pv xs.length σ H->R σ H):Jr (Itz2 K S T) g tt tb R σ H:=by
 refine(K:);rintro i m σ H ⟨rfl,hi,p⟩;obtain⟨q1,q2⟩:=hl i σ H hi p;by_cases mr:i<xs.length
 ·have hlt2:i<ys.length:=by lia
  refine .inr ⟨⟨xs,ys,xs[i],ys[i],q1,q2,by simp[mr],by simp[hlt2]⟩,Pv (i+1),λσ' H' p'=>⟨xs.length-(i+1),by lia,Y,mr,p'⟩,λx H' y=>?_⟩;obtain⟨c,u,v,hn,e1,y1,y2,e2⟩:=y;subst e1 e2;exact hs i u v σ H c (y1 xs q1) (y2 ys q2) hn p
 ·have e:i=xs.length:=by lia
  subst e;exact .inl ⟨⟨xs,ys,q1,q2,Y,l9⟩,hd σ H p⟩
end L2
namespace KT
open PySem L2
noncomputable def aN(a:Nat):Nat:=(after a).toNat
noncomputable def bN(a:Nat):Nat:=(Y1 a).toNat
def Zvd(a:Nat):after a=(aN a:Int):=(Int.toNat_of_nonneg (Znx a).2.2).symm
def Zvc(a:Nat):Y1 a=(bN a:Int):=(Int.toNat_of_nonneg (Zky a).2.2).symm
def Zb3(a:Nat):aN a=if a%3=2 then a-2 else a+1:=by
 have h:=Zvd a;unfold after at h;split at h<;>split<;>lia
def Zb1(a:Nat):bN a=if a%3=0 then a+2 else a-1:=by
 have h:=Zvc a;unfold Y1 at h;split at h<;>split<;>lia
def d3_0(q:Nat):3*q/3=q:=Nat.mul_div_cancel_left q (d:)
def d3_1(q:Nat):(3*q+1)/3=q:=by rw[mul_add_div (d:)];rfl
def d3_2(q:Nat):(3*q+2)/3=q:=by rw[mul_add_div (d:)];rfl
def aN_0(q:Nat):aN (3*q)=3*q+1:=by rw[Zb3,if_neg (by rw[mul_mod_right];decide)]
def aN_1(q:Nat):aN (3*q+1)=3*q+2:=by rw[Zb3,if_neg (by rw[mul_add_mod];decide)]
def aN_2(q:Nat):aN (3*q+2)=3*q:=by rw[Zb3,if_pos (by rw[mul_add_mod])];rfl
def bN_0(q:Nat):bN (3*q)=3*q+2:=by rw[Zb1,if_pos (mul_mod_right 3 q)]
def bN_1(q:Nat):bN (3*q+1)=3*q:=by rw[Zb1,if_neg (by rw[mul_add_mod];decide)];rfl
def bN_2(q:Nat):bN (3*q+2)=3*q+1:=by rw[Zb1,if_neg (by rw[mul_add_mod];decide)];rfl
def three(a:Nat):∃q,a=3*q\/a=3*q+1\/a=3*q+2:=⟨a/3,by lia⟩
def Zsn(a:Nat):aN a/3=a/3/\bN a/3=a/3/\aN (aN a)=bN a/\bN (aN a)=a/\aN (bN a)=a/\bN (bN a)=aN a/\aN a≠a/\bN a≠a/\aN a≠bN a:=by
 have n1:∀q,q+1≠q:=λq=>succ_ne_self q;have n2:∀q,q+2≠q:=λq h=>Nat.ne_of_gt (Nat.lt_add_of_pos_right (n:=q) (k:=2) (d:)) h;obtain⟨q,rfl|rfl|rfl⟩:=three a
 ·rw[aN_0,bN_0,aN_1,bN_1,aN_2,bN_2,d3_0,d3_1,d3_2]
  exact⟨Y,Y,Y,Y,Y,Y,n1 _,n2 _,λh=>n1 _ h.symm⟩
 ·rw[aN_1,bN_1,aN_2,bN_2,aN_0,bN_0,d3_0,d3_1,d3_2]
  exact⟨Y,Y,Y,Y,Y,Y,n1 _,λh=>n1 _ h.symm,n2 _⟩
 ·rw[aN_2,bN_2,aN_0,bN_0,aN_1,bN_1,d3_0,d3_1,d3_2]
  exact⟨Y,Y,Y,Y,Y,Y,λh=>n2 _ h.symm,λh=>n1 _ h.symm,λh=>n1 _ h.symm⟩
def Zij(a z:Nat)(h:z/3=a/3):z=a\/z=aN a\/z=bN a:=by
 have h1:=Zb3 a;have h2:=Zb1 a;split at h1<;>split at h2<;>lia
structure PC(M:Lq)(f:Nat->Int):Prop where
 nn:∀p,p<M.length->0<=f p
 rim:∀p:Nat,M[p]?=some none->f p=0
 mate:∀p q:Nat,M[p]?=some (some q)->f q=f p
 even:∀p,p<M.length->(f p+f (aN p)+f (bN p))%2=0
 tri:∀p,p<M.length->f p<=f (aN p)+f (bN p)
noncomputable def mx(x y:Int):Int:=if y>x then y else x
noncomputable def bh(f:Nat->Int)(a b:Nat):Int:=mx (f (aN a)+f (aN b)) (f (bN a)+f (bN b))-f a
noncomputable def fx(left:Bool)(a b:Nat)(f:Nat->Int)(z:Nat):Int:=if z=a\/z=b then bh f a b else f (mvN (!left) a b z)
section
variable{M:Lq}{ns:List Int}{f:Nat->Int}{a b:Nat}{left:Bool}
def Nm(ns:List Int)(f:Nat->Int)(g:Int->Int):Prop:=∀(p:Nat)(x:Int),ns[p]?=some x->g x=f p
end
def V5{M:Lq}(h:M[q]?=some (some m)):mtN M q=m:=by unfold mtN;rw[Ad,h];rfl
noncomputable def oz(M:Lq)(ws:List Nat)(p:Nat):Nat:=ws.countP λq=>decide (q=p\/mtN M q=p)
def ind3(z q:Nat):(if q=z then 1 else 0)+(if q=aN z then 1 else 0)+(if q=bN z then 1 else 0)=if q/3=z/3 then 1 else 0:=by
 obtain⟨a1,a2,_,_,_,_,a7,a8,a9⟩:=Zsn z;by_cases c:q/3=z/3
 ·rw[if_pos c]
  rcases Zij z q c with rfl|rfl|rfl
  ·rw[if_pos rfl,if_neg (Ne.symm a7),if_neg (Ne.symm a8)]
  ·rw[if_neg a7,if_pos rfl,if_neg a9]
  ·rw[if_neg a8,if_neg (Ne.symm a9),if_pos rfl]
 ·rw[if_neg c,if_neg (λe=>c (by rw[e])),if_neg (λe=>c (by rw[e];exact a1)),if_neg (λe=>c (by rw[e];exact a2))]
def Zew{q m s:Nat}(h:q≠m):(if decide (q=s\/m=s)=true then 1 else 0)=(if q=s then 1 else 0)+if m=s then 1 else 0:=by
 by_cases c:q=s
 ·subst c
  rw[if_pos (decide_eq_true (.inl rfl)),if_pos rfl,if_neg (Ne.symm h)]
 ·by_cases d:m=s
  ·rw[if_pos (decide_eq_true (.inr d)),if_neg c,if_pos d]
  ·rw[if_neg (λe=>by rcases of_decide_eq_true e with e|e;exact c e;exact d e),if_neg c,if_neg d]
theorem Znm{M:Lq}(inv:InvM M)(z:Nat):∀ws:List Nat,(∀p∈ws,∃m,M[p]?=some (some m)) ->
  oz M ws z+oz M ws (aN z)+oz M ws (bN z)=(ws.countP λq=>decide (q/3=z/3))+ws.countP λq=>decide (mtN M q/3=z/3)
 |[],_=>rfl
 |q::r,h=>by
  have ih:=Znm inv z r λp hp=>h p (mem_cons_of_mem _ hp);obtain⟨m,hm⟩:=h q mem_cons_self;have ne:=(inv q m hm).2;unfold oz at ih⊢;simp only[countP_cons,V5 hm];rw[Zew ne,Zew ne,Zew ne];have i1:=ind3 z q;have i2:=ind3 z m;have e:∀c:Prop,[Decidable c]->(if decide c=true then 1 else 0)=if c then 1 else 0:=λc _=>by by_cases h:c<;>simp[h]
  rw[e,e];lia
def Zrs(inv:InvM M)(h:ws=[]\/Pl M ws)(z:Nat):(oz M ws z+oz M ws (aN z)+oz M ws (bN z))%2=0:=by
 rcases h with rfl|hP
 ·rfl
 ·rw[Znm inv z ws hP.has]
  have hl:0<ws.length:=length_pos_iff.mpr hP.ne;have e:(ws.map λq=>mtN M q/3)=(rot ws 1).map λq=>q/3:=by
   apply ext_getElem?
   intro i
   rw[Ah,Ah]
   by_cases hi:i<ws.length
   ·obtain⟨m,hm⟩:=hP.has ws[i] (getElem_mem hi)
    have hn:(i+1)%ws.length<ws.length:=mod_lt _ hl
    have:=(hP.nxt i ws[i] ws[(i+1)%ws.length] (Ac hi) (Ac hn) m hm).1
    rw[Zlv (j:=0) hl hi,Ac hi,Ac hn]
    show some (mtN M ws[i]/3)=some (ws[(i+1)%ws.length]/3)
    rw[V5 hm,this]
   ·rw[Ay (by lia),Ay (by rw[Zir _ (by lia)];lia)]
    rfl
  have p:(rot ws 1).Perm ws:=by
   unfold rot;refine perm_append_comm.trans ?_;rw[take_append_drop]
  have c1:(ws.countP λq=>decide (mtN M q/3=z/3))=(ws.map λq=>mtN M q/3).countP λx=>decide (x=z/3):=by rw[countP_map];rfl
  have c2:(ws.countP λq=>decide (q/3=z/3))=((rot ws 1).map λq=>q/3).countP λx=>decide (x=z/3):=by rw[countP_map,p.countP_eq];rfl
  rw[c1,e,<-c2];lia
def Zpq{M:Lq}(inv:InvM M)(has:∀p∈ws,∃m,M[p]?=some (some m))(h:M[p]?=some (some y)):oz M ws y=oz M ws p:=by
 unfold oz;apply countP_congr;intro q hq;obtain⟨m,hm⟩:=has q hq;have hy:=(inv p y h).1;rw[V5 hm,decide_eq_true_eq,decide_eq_true_eq];constructor
 ·rintro(rfl|rfl)
  ·right;rw[hy]at hm;cases hm;rfl
  ·left
   have:=(inv q m hm).1;rw[hy]at this;cases this;rfl
 ·rintro(rfl|rfl)
  ·right;rw[h]at hm;cases hm;rfl
  ·left
   have:=(inv q m hm).1;rw[h]at this;cases this;rfl
def Zru{M:Lq}(inv:InvM M)(has:∀p∈ws,∃m,M[p]?=some (some m))(h:(M[p]?).join=none):oz M ws p=0:=by
 unfold oz;rw[countP_eq_zero];intro q hq e;obtain⟨m,hm⟩:=has q hq;rw[V5 hm]at e
 rcases of_decide_eq_true e with rfl|rfl
 ·rw[hm]at h;cases h
 ·rw[(inv q m hm).1]at h;cases h
def PC.mul{M:Lq}{f:Nat->Int}{k:Int}(pc:PC M f)(hk:0<=k):PC M λp=>f p*k:=by
 refine⟨λp hp=>Int.mul_nonneg (pc.nn p hp) hk,λp hp=>?_,λp q h=>?_,λp hp=>?_,λp hp=>?_⟩
 ·show f p*k=0
  rw[pc.rim p hp,Int.zero_mul]
 ·show f q*k=f p*k
  rw[pc.mate p q h]
 ·show(f p*k+f (aN p)*k+f (bN p)*k)%2=0
  rw[<-Int.add_mul,<-Int.add_mul,Int.mul_emod,pc.even p hp,Int.zero_mul];rfl
 ·show f p*k<=f (aN p)*k+f (bN p)*k
  rw[<-Int.add_mul];exact Int.mul_le_mul_of_nonneg_right (pc.tri p hp) hk
def Nm.of{ns:List Int}(td:TD M ns)(pc:PC M f)(h:∀x∈keys ns ns.length,∃p,ns[p]?=some x/\g x=f p):Nm ns f g:=by
 intro p x hp;obtain⟨q,hq,e⟩:=h x (Yu.mpr ⟨p,(Aa hp).1,hp⟩);rw[e]
 rcases td.eqv q p x hq hp with z|z
 ·rw[z]
 ·exact(pc.mate q p z).symm
section
variable{M:Lq}{ns:List Int}{f:Nat->Int}{g:Int->Int}
noncomputable def mu(M:Lq)(p:Nat):Nat:=match(M[p]?).join with
 |some q=>q
 |none=>p
end
end KT
namespace KT
noncomputable def lowN(m n:Nat):Nat×Nat:=(m/Nat.gcd m n,n/Nat.gcd m n)
structure Val(v:Nat×Nat)(N D:Nat):Prop where
 p1:0<v.1
 p2:0<v.2
 co:Nat.gcd v.1 v.2=1
 eq:v.1*D=v.2*N
def Zi6{m n:Nat}(hm:0<m)(hn:0<n):Val (lowN m n) m n:=by
 have g0:0<Nat.gcd m n:=gcd_pos_of_pos_left _ hm;have d1:=gcd_dvd_left m n;have d2:=gcd_dvd_right m n;refine⟨div_pos (le_of_dvd hm d1) g0,div_pos (le_of_dvd hn d2) g0,?_,?_⟩
 ·show Nat.gcd (m/Nat.gcd m n) (n/Nat.gcd m n)=1
  rw[gcd_div d1 d2,Nat.div_self g0]
 ·show m/Nat.gcd m n*n=n/Nat.gcd m n*m
  obtain⟨a,ha⟩:=d1;obtain⟨b,hb⟩:=d2;generalize Nat.gcd m n=g at *;subst ha hb;rw[Nat.mul_div_cancel_left _ g0,Nat.mul_div_cancel_left _ g0];simp only[Nat.mul_comm,Nat.mul_left_comm]
def Zi7(m n:Nat):(lowN m n).1<=m/\(lowN m n).2<=n:=⟨div_le_self _ _,div_le_self _ _⟩
noncomputable def putG(g:Int->Nat×Nat)(x:Int)(v:Nat×Nat):Int->Nat×Nat:=λy=>if y=x then v else g y
end KT
namespace KT
open PySem L2
section
variable{M:Lq}{ns:List Int}{x y:Int}{a b:Nat}
def SwN(M:Lq)(ns:List Int)(x:Int):Prop:=∃p j:Nat,M[p]?=some (some j)/\ns[p]?=some x
structure SwK(M:Lq)(ns:List Int)(ks:List Int):Prop where
 nd:ks.Nodup
 mem:∀x,x∈ks ↔ SwN M ns x
def SwK.perm{ks ls:List Int}(h:SwK M ns ks)(g:SwK M ns ls):ks.Perm ls:=(perm_ext_iff_of_nodup h.nd g.nd).mpr λx=>(h.mem x).trans (g.mem x).symm
def SwN.key(td:TD M ns)(h:SwN M ns x):x∈keys ns ns.length:=by
 obtain⟨p,j,_,e⟩:=h;exact Yu.mpr ⟨p,(Aa e).1,e⟩
end
end KT
namespace L2
open PySem PySem.Spec PyProof.Rows
def Zsd(C:Addr)(sp:Sp)(mz:List V)(t:TA):TEX:=λσ H Q E=>t σ H λvs H1=>∀x dx,H1 x=none->H1 dx=none->dx≠x ->
 sp (.ref x::(vs++mz)) (upd (upd H1 dx (.own x)) x (.ins C dx [])) (λv H2=>v=.non/\Q (.ref x) H2) E
section
variable{X:Cx}{fr:Bool}{k:Nat}{f C:Addr}{fd:FuncData}{ps:List Str}{sp:Sp}{mz:List V}{ds:List Value}{x:Str}{p pos:Pos}{e:Expr}{es:List Expr}{t:TA}
def Zlt{j':List (j:)}{σ:St}{H:Hp}{s:Shared}{E:XK}{us:List Value}{vs:List V}{Q:VK}(M:Mk X.K C f)(F:FnOk X.prog X.w X.K X.mg X.base (CXr X.prog X.w) k f fd ps sp)(hr:Room (k+1) X.A)(hb:Xx X.K fd ps ds)(hd:Vals mz ds)
  (hex:X.ex=[]) (I:Inv X j' σ H s) (r:Vals vs us)
  (h:∀x dx,H x=none->H dx=none->dx≠x->sp (.ref x::(vs++mz)) (upd (upd H dx (.own x)) x (.ins C dx [])) (λv H2=>v=.non/\Q (.ref x) H2) E):
  wpAny (c:) X.A (call (.ref C) us) (a2:) (XS fr X j' λcls σ' H'=>σ'=σ/\E cls none H') s:=by
 have hq:=h (v:) s.heap.objs.size (I.hok.fresh (le_succ _)) (I.hok.fresh (An _)) (As (lt_succ_self _));have I2:=Inv.made (C:=C) I;have r2:Vals (V.ref (v:)::(vs++mz)) (Value.ref (v:)::(us++ds)):=.cons rfl (r.append hd);have hl:(Value.ref (v:)::us++ds).length=ps.length:=by
  have e:=r2.length
  rw[F.len _ _ _ _ hq]at e
  exact e.symm
 refine wpAny_call (Zg0 (f:=f) I.kIn M.makes M.init (beq_iff_eq.mp M.fn) (codeAny_mono (F.run _ X.stack _ _ ⟨Value.ref (v:) :: us,[]⟩ (Value.ref (v:) :: (us ++ ds)) _ _ E (hr.make C us [])
  (I2.env0.make C us []) (hb _ (Value.ref (v:)::us) I2.kIn hl) r2 hq) λr s' n9=>?_))
 cases r with
 |error e=>exact I2.cxr hex n9
 |ok fl=>
  cases fl with
  |ret u=>
   obtain⟨v,H',I3,rv,ev,q3⟩:=I2.after n9;subst ev;exact⟨rv,⟨V.ref (v:),H',I3,Y,q3⟩⟩
  |next=>exact False.elim n9
  |brk=>exact False.elim n9
  |cont=>exact False.elim n9
def Zgf(M:Mk X.K C f)(F:FnOk X.prog X.w X.K X.mg X.base (CXr X.prog X.w) k f fd ps sp)(hr:Room (k+1) X.A)(hg:Gl X x)(hm:X.mg x=some (.ref C))(hb:Xx X.K fd ps ds)(hd:Vals mz ds)
  (ha:PA X (e::es) t) (hex:X.ex=[]:=by rfl) (hx:X.xe=(az:):=by rfl) (pd:(J:)=false:=by decide) (he:starEach (e::es) X.env=(I:)::starEach es X.env:=by rfl) (oa:(w:).any (·.1)=false:=by rfl):
  PEX fr X (S:) (Zsd C sp mz t):=by
 intro j' s σ H Q E I h;have h0:=ha pos j' s σ H _ I h;rw[hx]at h0;refine wpAny_Call_Name_kw (Jf I hg hm ?_ pd);refine PySem.W.callWith_K (h₀:=X.base) I.ok.mod.kin M.kp (wpAny_mono h0 (λus s1 zz53=>?_) λ_ _ z=>z.elim) he oa;obtain⟨vs,H1,I1,r,q⟩:=zz53;refine⟨I1.kIn,?_⟩;exact Zlt M F hr hb hd hex I1 r q
def Zuf(K:W.Frag)(ta:TE)(tv:TEX)(f:Str):TSX:=λD R σ H=>tv σ H (λy H1=>ta σ H1 λx H2=>∃a C dx fs,x=.ref a/\H2 a=some (.ins C dx fs)/\Cls K C/\Xa K C f/\fs.length<1000/\D.nx σ (upd H2 a (.ins C dx (putF f y fs)))) λcls _ H1=>R cls σ H1
def Ziv{o value:Expr}{ta:TE}{tv:TEX}{f:Str}{nv:Pos}(ha:PE X o ta)(hv:PEX fr X value tv)(hs:swapsWith value (some (.Attribute o f nv)) pos.line X.env=pure false)(hx:X.xe=(az:):=by rfl):
  PSX fr X (.Assign [.Attribute o f nv] value pos) (Zuf X.K ta tv f):=by
 intro j' s σ H D R I h;refine plainObj_wpAny_Assign_Attribute (wpAny_mono (hv j' s σ H _ _ I h) (λu s1 ⟨y,H1,I1,ry,q⟩=>?_) ?_) hs
 ·have z:=ha j' s1 σ H1 _ I1 q
  rw[hx]at z;refine wpAny_mono z (λov s2 zz54=>?_) λ_ _ y=>y.elim;obtain⟨x,H2,I2,rx,a,C,dx,fs,ex,ea,c,n,l,q2⟩:=zz54;subst ex;obtain rfl:ov=Value.ref a:=rx;exact Za1 I2 ea c n l ry λs3 I3=>⟨σ,_,I3,q2⟩
 ·rintro ev s1 ⟨e,T,cls,a0,σ',H',g1,g2,g3,g4,g5,g7,rfl,g6⟩
  exact⟨e,T,cls,a0,σ',H',g1,g2,g3,g4,g5,g7,g6⟩
end
def Zm8{K:W.Frag}{a:Addr}{xs:List V}{g:TG}{tb:TSX}{R:Value->St->Hp->Prop}{D:Ends}{σ:St}{H:Hp}(Pv:Nat->St->Hp->Prop)(h0:Pv 0 σ H)(hl:∀i σ H,i<=xs.length->Pv i σ H->SqL K H a xs)
  (hs:∀i x σ H q,xs[i]?=some x->H q=none->Pv i σ H->g (.ref q) σ (upd H q (.tup [.int i,x])) λσ2 H2=>tb {D with nx:=Pv (i+1),ct:=Pv (i+1),bk:=D.nx} R σ2 H2) (hd:∀σ H,Pv xs.length σ H->D.nx σ H):
  ∃W:Nat->Nat->St->Hp->Prop,(∃m,W 0 m σ H)/\∀i m σ H,W i m σ H ->
   ((Ite K a).stop i H/\D.nx σ H)\/((Ite K a).go i H/\∃N:St->Hp->Prop,(p:)/\∀x H',(Ite K a).yld i H x H'->g x σ H' λσ2 H2=>tb {D with nx:=N,ct:=N,bk:=D.nx} R σ2 H2):=
 Zg8 (tb:=λD' σ' H'=>tb D' R σ' H') Pv h0 hl hs hd
section
variable{X:Cx}{fr:Bool}
def Zt7(te:TEX)(r:R2)(tb:TE)(t u:TSX):TSX:=λD R σ H=>te σ H (λx H1=>tb σ H1 λy H2=>r x y H2 λz H3=>∃k,z=.bl k/\if k=true then t D R σ H3 else u D R σ H3) λcls _ H1=>R cls σ H1
def Zq2{a b:Expr}{op:CmpOp}{s1 s2:List Stmt}{te:TEX}{tb:TE}{r:R2}{t u:TSX}{p1 pos:Pos}(he:PEX fr X a te)(hb:PE X b tb)(ho:OpR X (compareOp op) r)(hm:behindInMarks op b=false)(ha:PSsX fr X s1 t)(hc:PSsX fr X s2 u)(hx:X.xe=(az:):=by rfl):
  PSX fr X (.If (.Compare a [op] [b] p1) s1 s2 pos) (Zt7 te r tb t u):=by
 intro j' s σ H D R I h;refine wpAny_If (wpAny_isTrue_Compare1 (wpAny_mono (he j' s σ H _ _ I h) (λv s1 ⟨x,H1,I1,r1,q1⟩=>?_) ?_) hm)
 ·have h1:=hb j' s1 σ H1 _ I1 q1
  rw[hx]at h1;refine wpAny_mono h1 (λy' s2 zz55=>?_) λ_ _ z=>z.elim;obtain⟨y,H2,I2,r2,q2⟩:=zz55;have h2:=ho j' s2 σ H2 x y v y' _ I2 r1 r2 q2;rw[hx]at h2;refine wpAny_mono h2 (λc' s3 zz56=>?_) λ_ _ z=>z.elim;obtain⟨z,H3,I3,r3,q3⟩:=zz56;obtain⟨k,rfl,q3⟩:=q3;cases r3;refine wpAny_truthy_bool ?_
  cases k with
  |true=>exact ha j' s3 σ H3 D R I3 q3
  |false=>exact hc j' s3 σ H3 D R I3 q3
 ·rintro ev s1 ⟨e,T,cls,a0,σ',H',h1,h2,h3,h4,h5,h7,rfl,h6⟩
  exact⟨e,T,cls,a0,σ',H',h1,h2,h3,h4,h5,h7,h6⟩
def Zns(hc:X.calm=true):Y6 X (.builtin "max") (λxs H Q=>∃(p:Addr)(ns:List Int),xs=[.ref p]/\SqT X.K H p (T:)/\0<ns.length/\∀m,m∈ns->(∀a∈ns,a<=m)->Q (.int m) H):=by
 intro j' s σ H xs us Q I r h;obtain⟨p,ns,rfl,hq,hn,q⟩:=h;obtain⟨u,rfl,ru⟩:=Xb r;cases ru;obtain⟨its,rv,pl,hz⟩:=I.tuple hq;have pl:s.heap.IsTuple p its.toArray:=pl;have lt:p<s.heap.objs.size:=by obtain⟨o,ho,_⟩:=pl;exact Ao ho
 have l9:its.toArray.size=ns.length:=by have:=rv.length;rw[Ab]at this;simp;lia
 have W:=Zaj (j':=j') (σ:=σ) (H:=H) (s:=s) rv;refine call_max_walk (wpAny_pyIter_tuple pl ⟨s.heap.objs.size,_,_,_,_,_,_,Y,Walks.tuple (A:=X.A.in1) (show X.A.in1.handled=none from I.ok.hd hc) s.heap.objs.size p (As lt) its.toArray,⟨⟨_,Ap _ Y,Y,Y⟩,pl.push _⟩,?_,by rw[l9];exact hn,CmpOf.ints_gt (λi=>ns.getD i 0) W,?_⟩)
 ·intro b hb
  show b<(s.heap.push _).objs.size;rw[Heap.size_push]
  rcases Ar hb with rfl|hb
  ·exact lt_succ_self _
  ·rw[Af hb];exact lt_succ_of_lt lt
 ·intro v h' tk hP hk
  have I1:Inv X j' σ H {s with heap:=h',toks:=tk}:=I.kept λb o e=>hk b o (a5:) (Ak _ e);rw[l9]at hP;obtain⟨a1,a2⟩:=argBest_gt (λi=>ns.getD i 0) (ns.length-1);obtain⟨t,e⟩:=W _ _ hP;generalize argBest (λi j=>decide (ns.getD i 0>ns.getD j 0)) (ns.length-1)=k at a1 a2 e;have vq:k<ns.length:=by lia
  have ek:ns.getD k 0=ns[k]:=by rw[Ad,Ac vq];rfl
  refine⟨.int (ns.getD k 0),H,I1,⟨t,e⟩,q _ (by rw[ek];exact getElem_mem vq) λa ha=>?_⟩;obtain⟨j,hj,rfl⟩:=mem_iff_getElem.mp ha;have:=a2 j (by lia);have ej:ns.getD j 0=ns[j]:=by rw[Ad,Ac hj];rfl
  show ns[j]<=ns.getD k 0;rw[<-ej];exact this
end
def Zr9(H0:Hp)(t:TSX):TSX:=λD R σ H=>t {D with nx:=λσ' H'=>∃(a:Addr)(o:Obj)(kvs:List (Key×V)),H' a=some (Y:)/\(∀o u,H0 a≠some (.frz o u))/\D.nx σ' (upd H' a (.dK kvs))} R σ H
def Zom{X:Cx}{xl:Value->Shared->Prop}{R0:Value->St->Hp->Prop}{st:Stmt}{t:TSX}(h:PSL X xl R0 st t):PSL X xl R0 st (Zr9 X.H₀ t):=by
 intro j' s σ H D I hw;refine wpAny_mono (h j' s σ H _ I hw) (λf s' q=>?_) λ_ _ e=>e
 cases f with
 |next=>
  obtain⟨σ',H',I',a,o,kvs,e,h0,q⟩:=q;exact⟨σ',_,I'.thaw e h0,q⟩
 |ret v=>exact q
 |brk=>exact q
 |cont=>exact q
end L2
namespace KT
open PySem L2
noncomputable def ctN(xs:List Nat)(p:Nat):Nat:=xs.countP λq=>decide (q=p)
def Jb(x:Nat)(xs:List Nat)(p:Nat):ctN (x::xs) p=ctN xs p+if x=p then 1 else 0:=by
 unfold ctN;rw[countP_cons];by_cases c:x=p<;>simp[c]
theorem Zby{M:Lq}(inv:InvM M)(p:Nat):∀ws:List Nat,(∀q∈ws,∃m,M[q]?=some (some m))->oz M ws p=ctN ws p+ctN (ws.map (mtN M)) p
 |[],_=>rfl
 |q::r,h=>by
  have ih:=Zby inv p r λz hz=>h z (mem_cons_of_mem _ hz);obtain⟨m,hm⟩:=h q mem_cons_self;have ne:=(inv q m hm).2;unfold oz at ih⊢;rw[countP_cons,ih,map_cons,Jb,Jb,V5 hm,Zew ne];lia
def Zrd{p x y:Nat}(h:y/3=x/3)(ne:y≠x):(if x=p then 1 else 0)+(if y=p then 1 else 0)<=((if x=aN p then 1 else 0)+if y=aN p then 1 else 0)+((if x=bN p then 1 else 0)+if y=bN p then 1 else 0):=by
 have i1:=ind3 p x;have i2:=ind3 p y;rw[h]at i2;by_cases c:x/3=p/3
 ·rw[if_pos c]at i1 i2
  by_cases d:x=p
  ·subst d
   rw[if_neg ne]at i2⊢;rw[if_pos rfl];lia
  ·by_cases e:y=p
   ·subst e
    rw[if_neg d]at i1⊢;rw[if_pos rfl];lia
   ·rw[if_neg d,if_neg e]
    lia
 ·rw[if_neg c]at i1 i2
  lia
theorem Zc0(p:Nat):∀xs ys:List Nat,xs.length=ys.length->(∀(i:Nat)x y,xs[i]?=some x->ys[i]?=some y->y/3=x/3/\y≠x)->ctN xs p+ctN ys p<=(ctN xs (aN p)+ctN ys (aN p))+(ctN xs (bN p)+ctN ys (bN p))
 |[],[],_,_=>Az _
 |[],_::_,h,_=>by cases h
 |_::_,[],h,_=>by cases h
 |x::xs,y::ys,h,r=>by
  have ih:=Zc0 p xs ys (by simpa using h) λi a b e1 e2=>r (i+1) a b e1 e2;obtain⟨r1,r2⟩:=r 0 x y rfl rfl;have:=Zrd (p:=p) r1 r2;rw[Jb,Jb,Jb,Jb,Jb,Jb];lia
def Zrt{M:Lq}(inv:InvM M){ws:List Nat}(hP:Pl M ws)(p:Nat):oz M ws p<=oz M ws (aN p)+oz M ws (bN p):=by
 have hl:0<ws.length:=length_pos_iff.mpr hP.ne;have pm:(rot ws 1).Perm ws:=by
  unfold rot
  refine perm_append_comm.trans ?_
  rw[take_append_drop]
 have e:∀z,ctN ws z=ctN (rot ws 1) z:=λz=>(pm.countP_eq _).symm;have t:=Zc0 p (ws.map (mtN M)) (rot ws 1) (by rw[Ab,pm.length_eq]) λi x y e1 e2=>by
  rw[Ah]at e1
  obtain⟨q,hq,rfl⟩:=Option.map_eq_some_iff.mp e1
  have hi:=(Aa hq).1
  rw[Zlv (j:=0) hl hi]at e2
  obtain⟨m,hm⟩:=hP.has q (Au hq)
  rw[V5 hm]
  exact hP.nxt i q y hq e2 m hm
 rw[Zby inv _ ws hP.has,Zby inv _ ws hP.has,Zby inv _ ws hP.has,e,e,e];lia
def Pl.pc{M:Lq}(inv:InvM M){ws:List Nat}(hP:Pl M ws):PC M λp=>((oz M ws p:Nat):Int):=by
 refine⟨λp _=>Int.natCast_nonneg _,λp hp=>?_,λp q hp=>?_,λp _=>?_,λp _=>?_⟩
 ·show((oz M ws p:Nat):Int)=0
  rw[Zru inv hP.has (by rw[hp];rfl)];rfl
 ·show((oz M ws q:Nat):Int)=((oz M ws p:Nat):Int)
  rw[Zpq inv hP.has hp]
 ·show(((oz M ws p:Nat):Int)+((oz M ws (aN p):Nat):Int)+((oz M ws (bN p):Nat):Int))%2=0
  have:=Zrs inv (.inr hP) p;lia
 ·show((oz M ws p:Nat):Int)<=((oz M ws (aN p):Nat):Int)+((oz M ws (bN p):Nat):Int)
  have:=Zrt inv hP p;lia
end KT
set_option genInjectivity false
set_option genSizeOf false
namespace KT
open PySem L2
def iteN{p A B:Prop}[Decidable p](h:¬p)(b:B):if decide p=true then A else B:=by rw[if_neg (λz=>h (of_decide_eq_true z))];exact b
def iteY{p A B:Prop}[Decidable p](h:p)(a:A):if decide p=true then A else B:=by rw[if_pos (decide_eq_true h)];exact a
def iteF{B:Prop}(h:B):B:=h
def iteT{A:Prop}(h:A):A:=h
noncomputable def bmV:List Value:=[.type "ValueError",.type "Exception",.type "BaseException",.type "object"]
def FBV:ExcBaseFacts "ValueError" "ValueError.__new__" "ValueError.__init__" bmV:=PySem.F.excBase_ValueError
def Yi{α:Type}{f:α->V}{l:List α}{i:Nat}{y:V}(h:(l.map f)[i]?=some y):∃q,l[i]?=some q/\y=f q:=by
 rw[Ah]at h
 cases e:l[i]? with
 |none=>rw[e]at h;cases h
 |some q=>rw[e]at h;cases h;exact⟨q,Y,Y⟩
structure FT(K:W.Frag)(mg:Str->Option Value)(x:Str)(st:Stmt)(ps:List Str)(f:Addr)(d:FuncData):Prop where
 F:Fun K x x st f d
 b:Xx K d ps []
 g:mg x=some (.ref f)
structure FM(K:W.Frag)(C:Addr)(x q:Str)(st:Stmt)(ps:List Str)(f:Addr)(d:FuncData):Prop where
 F:Fun K x q st f d
 b:Xx K d ps []
 m:Meth K C x f
section
variable{X:Cx}{fr:Bool}{j k:Nat}{f:Addr}{fd:FuncData}{ps:List Str}{sp:Sp}{x:Str}{st:Stmt}{p pos:Pos}{e:Expr}{es:List Expr}{t:TA}
def pcT(F:FnOk X.prog X.w X.K X.mg X.base (CXr X.prog X.w) k f fd ps sp)(hr:Room j X.A)(q:FT X.K X.mg x st ps f fd)(ha:PA X (e::es) t)(hk:k<=j:=by decide)(hg:Gl X x:=by rfl)(pd:(J:)=false:=by decide)(he:starEach (e::es) X.env=(I:)::starEach es X.env:=by rfl)(oa:(w:).any (·.1)=false:=by rfl):
  PE X (S:) (Zpx sp [] E0 t):=Zra F (hr.mono hk) hg q.g q.F.kp q.b .nil Ya ha pd he oa
def pxT(F:FnOk X.prog X.w X.K X.mg X.base (CXr X.prog X.w) k f fd ps sp)(hr:Room j X.A)(q:FT X.K X.mg x st ps f fd)(ha:PA X (e::es) t)(hk:k<=j:=by decide)(hg:Gl X x:=by rfl)(hex:X.ex=[]:=by rfl)(hx:X.xe=(az:):=by rfl)(pd:(J:)=false:=by decide)(he:starEach (e::es) X.env=(I:)::starEach es X.env:=by rfl)(oa:(w:).any (·.1)=false:=by rfl):
  PEX fr X (S:) (Zau sp [] t):=Zos F (hr.mono hk) hg q.g q.F.kp q.b .nil ha hex hx pd he oa
end
def BA(q:Str)(st:Stmt)(ps:List Str):Prop:=∀(x:Str)(kV nk pm:Value)(an:Option Addr)(mh ct:Value)(us:List Value),us.length=ps.length->bindArgs (U:) ⟨us,[]⟩=pure (ps.zip us)
def Zi8{α:Type}{us:List α}(e:us.length=2):∃a b,us=[a,b]:=by
 obtain⟨a,us,rfl⟩:=exists_cons_of_length_eq_add_one e;obtain⟨b,rfl⟩:=length_eq_one_iff.mp (Nat.succ.inj e);exact⟨a,b,Y⟩
def Zdp{α:Type}{us:List α}(e:us.length=3):∃a b c,us=[a,b,c]:=by
 obtain⟨a,us,rfl⟩:=exists_cons_of_length_eq_add_one e;obtain⟨b,c,rfl⟩:=Zi8 (Nat.succ.inj e);exact⟨a,b,c,Y⟩
def ba1{ps:List Str}(h:∀(x:Str)(kV nk pm:Value)(an:Option Addr)(mh ct:Value)(a:Value),bindArgs (U:) ⟨[a],[]⟩=pure (ps.zip [a]))(hl:ps.length=1):BA q st ps:=λx kV nk pm an mh ct us e=>by
 rw[hl]at e;obtain⟨a,rfl⟩:=length_eq_one_iff.mp e;exact h x kV nk pm an mh ct a
def ba2{ps:List Str}(h:∀(x:Str)(kV nk pm:Value)(an:Option Addr)(mh ct:Value)(a b:Value),bindArgs (U:) ⟨[a,b],[]⟩=pure (ps.zip [a,b]))(hl:ps.length=2):BA q st ps:=λx kV nk pm an mh ct us e=>by
 rw[hl]at e;obtain⟨a,b,rfl⟩:=Zi8 e;exact h x kV nk pm an mh ct a b
def ba3{ps:List Str}(h:∀(x:Str)(kV nk pm:Value)(an:Option Addr)(mh ct:Value)(a b c:Value),bindArgs (U:) ⟨[a,b,c],[]⟩=pure (ps.zip [a,b,c]))(hl:ps.length=3):BA q st ps:=λx kV nk pm an mh ct us e=>by
 rw[hl]at e;obtain⟨a,b,c,rfl⟩:=Zdp e;exact h x kV nk pm an mh ct a b c
def ba4{q:Str}{st:Stmt}{ps:List Str}(h:∀(x:Str)(kV nk pm:Value)(an:Option Addr)(mh ct:Value)(a b c d:Value),bindArgs (U:) ⟨[a,b,c,d],[]⟩=pure (ps.zip [a,b,c,d]))(hl:ps.length=4):BA q st ps:=λx kV nk pm an mh ct us e=>by
 rw[hl]at e;obtain⟨a,us,rfl⟩:=exists_cons_of_length_eq_add_one e;obtain⟨b,c,d,rfl⟩:=Zdp (Nat.succ.inj e);exact h x kV nk pm an mh ct a b c d
def ba5{q:Str}{st:Stmt}{ps:List Str}(h:∀(x:Str)(kV nk pm:Value)(an:Option Addr)(mh ct:Value)(a b c d e:Value),bindArgs (U:) ⟨[a,b,c,d,e],[]⟩=pure (ps.zip [a,b,c,d,e]))(hl:ps.length=5):BA q st ps:=λx kV nk pm an mh ct us e=>by
 rw[hl]at e
 match us,e with
 |[a,b,c,d,e],_=>exact h x kV nk pm an mh ct a b c d e
section
variable{K:W.Frag}{h:Heap}{mg:Str->Option Value}{C:Addr}{x q:Str}{st:Stmt}{ps:List Str}{f:Addr}{oc:Value}{od an:Option Addr}{sl:Array (Option Value)}{kV nk pm cd ct:Value}
def FT.of(X:K.In h)(G:h.Ns mainGlobals mg)(B:BA x st ps)(a:PySem.W.nsIn K mainGlobals x=some (some (.ref f)))(l:K.lookup f=some ⟨oc,od,.func (PySem.W.fnOf x x (Xu st) (Yw st) (Zf st) .none kV nk pm an cd ct),sl⟩)
  (c:PySem.W.codeIn K cd x=true) (k:PySem.W.keepIn K (.ref f)=true):FT K mg x st ps f (PySem.W.fnOf x x (Xu st) (Yw st) (Zf st) .none kV nk pm an cd ct):=⟨Zbw l c k,(Zbw l c k).binds (B x),PySem.W.mg_of X G a⟩
def FM.of(B:BA q st ps)(a:PySem.W.findIn K (.ref C) x=some (some (.ref f)))(i:PySem.W.isFn K (.ref f)=true)(l:K.lookup f=some ⟨oc,od,.func (PySem.W.fnOf x q (Xu st) (Yw st) (Zf st) .none kV nk pm an cd ct),sl⟩)
  (c:PySem.W.codeIn K cd q=true) (k:PySem.W.keepIn K (.ref f)=true):FM K C x q st ps f (PySem.W.fnOf x q (Xu st) (Yw st) (Zf st) .none kV nk pm an cd ct):=⟨Zbw l c k,(Zbw l c k).binds (B x),⟨a,i,k⟩⟩
end
def top(i:Nat):Stmt:=PySem.Challenge.pw_tentloops_k68_great_numbers_written.main.body.getD i (.Pass ⟨0,0,0,0⟩)
abbrev Ziq:Stmt:=top 24
abbrev Zf8:Stmt:=top 25
abbrev Zba:Stmt:=top 26
abbrev Za4:Stmt:=top 27
abbrev Za6:Stmt:=top 28
abbrev Fu:Stmt:=Yb (top 29) 0
abbrev Fs:Stmt:=Yb (top 29) 1
abbrev Ku:Stmt:=Yb (top 29) 3
abbrev Vs:Stmt:=Yb (top 29) 5
abbrev Q2:Stmt:=Yb (top 29) 6
abbrev Zch:Stmt:=Yb (top 29) 7
abbrev O9:Stmt:=Yb (top 29) 8
abbrev Ft:Stmt:=Yb (top 29) 9
abbrev Uv:Stmt:=Yb (top 29) 10
abbrev Za7:Stmt:=top 32
abbrev Fk:Stmt:=top 33
abbrev Zfw:Stmt:=top 34
abbrev Zfx:Stmt:=top 35
abbrev Fp:Stmt:=top 36
abbrev Fq:Stmt:=top 38
abbrev Zdh:Stmt:=top 39
abbrev Zio:Stmt:=top 40
abbrev O5:Stmt:=top 41
abbrev Zfv:Stmt:=top 43
abbrev Zqx:Stmt:=top 45
abbrev Uu:Stmt:=top 48
abbrev O6:Stmt:=top 49
abbrev Vr:Stmt:=top 56
abbrev Ui:Stmt:=top 57
abbrev Za9:Stmt:=top 58
abbrev Ks:Stmt:=top 59
abbrev O7:Stmt:=top 60
abbrev Zdb:Stmt:=top 71
abbrev Zdg:Stmt:=top 72
abbrev Fo:Stmt:=top 73
abbrev Zdi:Stmt:=top 74
abbrev Za5:Stmt:=top 75
abbrev O8:Stmt:=top 76
abbrev Kv:Stmt:=Yb (top 80) 0
abbrev Fh:Stmt:=top 81
abbrev Zcg:Stmt:=top 82
abbrev Uh:Stmt:=top 83
abbrev Zeh:Stmt:=top 84
abbrev Kt:Stmt:=top 85
abbrev Ut:Stmt:=top 86
abbrev Fz:Stmt:=Yb (top 87) 0
abbrev Kx:Stmt:=Yb (top 87) 1
abbrev Zbd:Stmt:=Yb (top 87) 2
abbrev Fx:Stmt:=Yb (top 87) 3
abbrev Zh1:Stmt:=Yb (top 87) 4
abbrev Kw:Stmt:=Yb (top 87) 5
abbrev Fv:Stmt:=Yb (top 87) 6
abbrev Zh2:Stmt:=Yb (top 87) 7
abbrev Zga:Stmt:=Yb (top 87) 8
abbrev Ky:Stmt:=Yb (top 87) 9
abbrev Q3:Stmt:=Yb (top 87) 10
abbrev Zab:Stmt:=Yb (top 87) 11
abbrev Zf9:Stmt:=Yb (top 87) 12
abbrev Zbe:Stmt:=Yb (top 87) 13
abbrev Zei:Stmt:=Yb (top 87) 14
abbrev Fy:Stmt:=Yb (top 87) 15
abbrev Zci:Stmt:=Yb (top 87) 17
abbrev Vt:Stmt:=Yb (top 87) 18
abbrev Fl:Stmt:=top 91
abbrev Zda:Stmt:=top 92
abbrev Fj:Stmt:=top 93
abbrev Vq:Stmt:=top 94
abbrev Fr:Stmt:=top 95
abbrev Zfy:Stmt:=top 96
abbrev Zc9:Stmt:=top 97
abbrev Zls:Stmt:=top 98
abbrev Za3:Stmt:=top 99
abbrev Zc7:Stmt:=top 100
abbrev Zdk:Stmt:=top 102
abbrev Zdj:Stmt:=top 103
abbrev Fi:Stmt:=top 104
abbrev Zc8:Stmt:=top 105
abbrev Zbc:Stmt:=top 106
abbrev Zc6:Stmt:=top 107
abbrev Zbb:Stmt:=top 108
abbrev Qs:Stmt:=top 109
abbrev Zlr:Stmt:=top 110
abbrev Zf7:Stmt:=top 112
abbrev Fm:Stmt:=top 113
abbrev Zf2:Stmt:=top 114
abbrev Zf4:Stmt:=top 115
abbrev Zf1:Stmt:=top 116
abbrev Zfz:Stmt:=top 117
abbrev Za8:Stmt:=top 118
abbrev Zde:Stmt:=top 119
abbrev Zdd:Stmt:=top 120
abbrev Zf3:Stmt:=top 121
abbrev Zdc:Stmt:=top 122
abbrev Zf6:Stmt:=top 123
abbrev Zf5:Stmt:=top 124
abbrev Zip:Stmt:=top 125
abbrev Zf0:Stmt:=top 126
abbrev Zdf:Stmt:=top 127
abbrev Fn:Stmt:=top 128
abbrev Zpz:Stmt:=top 129
structure Adr where
 (aa ai af km jr gs dC gu bE e8 dR bQ bF gw dc fb cy gx fc js jt fg fh iy ko de ju lu cz df bR cq gy dU dh iz iA fi iB gz di cf fj gA cr ip dW cA bf dX gB fk fo dY fq jv jc dZ bG eG jd gh iq fu gC bS fz iC fA bT fB d0 cW eJ cg cX eK iD fC iE dD iF gD bz kU jw fD jx jy jz jA gE iG iH jB iI jC jD kr jE iJ fE lH aL bw je aA cY ax ku d3 jf ay br gF ao gG j9 iK az jg iL ag aH jF:Addr)
 (ky jG gH dE gI cB fF d4 bU bH gJ dj fG cC gK fH jH jI fI fJ iM kz dk jJ lw cD dm bV cu gL d5 dn iN iO fK iP gM dq d6 fL gN cv ir d7 cE bI d8 gO fM fN d9 fO jK jh ee bJ eO ji gj iu fP gP bW fQ iQ fR bX fS jL iR kJ gQ iS eP iT fU iU dF iV gR bA kW jM fV jN jO jP jQ gS iW iX jR iY jS jT kA jU iZ fW kX:FuncData)
 (gk gl kK gU gV lP eu iw gm:Tok)
structure Txt(w:World)(K:W.Frag)(mg:Str->Option Value)(t:Adr):Prop where
 jk:mg "Tent"=some (.ref t.aa)
 ah:Cls K t.aa
 aI:Xa K t.aa "cloths"
 aB:Xa K t.aa "names_at"
 aP:Xa K t.aa "spots"
 eA:Xa K t.aa "mates"
 gW:mg "Scene"=some (.ref t.ai)
 ak:Cls K t.ai
 aE:Xa K t.ai "tent"
 aM:Xa K t.ai "threads"
 aF:Xa K t.ai "pools"
 aQ:Xa K t.ai "worths"
 kB:mg "Hall"=some (.ref t.af)
 ac:Cls K t.af
 bt:Xa K t.af "began"
 ar:Xa K t.af "scene"
 bp:Xa K t.af "standing"
 dr:Xa K t.af "undone"
 jm:FT K mg "after" Ziq ["place"] t.km t.ky
 gX:FT K mg "before" Zf8 ["place"] t.jr t.jG
 bB:FT K mg "cloth_of" Zba ["place"] t.gs t.gH
 ci:FT K mg "spots_of" Za4 ["names_at"] t.dC t.dE
 dG:FT K mg "mates_of" Za6 ["spots","count"] t.gu t.gI
 bg:FM K t.aa "__init__" "Tent.__init__" Fu ["self","rows"] t.bE t.cB
 bi:FM K t.aa "rows" "Tent.rows" Fs ["self"] t.e8 t.fF
 aS:FM K t.aa "seams" "Tent.seams" Ku ["self"] t.dR t.d4
 aC:FM K t.aa "has_place" "Tent.has_place" Vs ["self","place"] t.bQ t.bU
 aT:FM K t.aa "look_place" "Tent.look_place" Q2 ["self","place"] t.bF t.bH
 kY:FM K t.aa "seam_at" "Tent.seam_at" Zch ["self","place"] t.gw t.gJ
 aJ:FM K t.aa "places" "Tent.places" O9 ["self","seam"] t.dc t.dj
 bj:FM K t.aa "mate" "Tent.mate" Ft ["self","place"] t.fb t.fG
 al:FM K t.aa "sort_of" "Tent.sort_of" Uv ["self","seam"] t.cy t.cC
 gY:FT K mg "look_way" Za7 ["way"] t.gx t.gK
 fX:FT K mg "look_free" Fk ["tent","seam"] t.fc t.fH
 jV:FT K mg "square" Zfw ["tent","seam"] t.js t.jH
 jW:FT K mg "shifts" Zfx ["tent","seam","way"] t.jt t.jI
 fY:FT K mg "exchanged" Fp ["tent","seam","way"] t.fg t.fI
 fZ:FT K mg "crossable" Fq ["tent","place"] t.fh t.fJ
 i4:FT K mg "follows" Zdh ["tent","ahead","place"] t.iy t.iM
 kD:FT K mg "plain" Zio ["tent","word"] t.ko t.kz
 dw:FT K mg "look_thread" O5 ["tent","word"] t.de t.dk
 jX:FT K mg "turned" Zfv ["word","by"] t.ju t.jJ
 ly:FT K mg "least" Zqx ["tent","word"] t.lu t.lw
 cF:FT K mg "look_numbers" Uu ["tent","counts"] t.cz t.cD
 dA:FT K mg "look_counts" O6 ["tent","counts"] t.df t.dm
 bY:FT K mg "common_measure" Vr ["one","other"] t.bR t.bV
 cw:FT K mg "look_fraction" Ui ["top","bottom"] t.cq t.cu
 gZ:FT K mg "fraction" Za9 ["top","bottom"] t.gy t.gL
 eB:FT K mg "sewn_seams" Ks ["tent"] t.dU t.d5
 dB:FT K mg "even_worths" O7 ["tent"] t.dh t.dn
 eQ:FT K mg "made_of" Zdb ["text","signs"] t.iz t.iN
 eT:FT K mg "is_name" Zdg ["text"] t.iA t.iO
 f6:FT K mg "is_number" Fo ["text"] t.fi t.fK
 eU:FT K mg "figures" Zdi ["number"] t.iB t.iP
 bC:FT K mg "row_text" Za5 ["words"] t.gz t.gM
 aK:FT K mg "counts_text" O8 ["counts"] t.di t.dq
 bu:FM K t.ai "__init__" "Scene.__init__" Kv ["self","tent","threads","pools","worths"] t.cf t.d6
 cG:FT K mg "with_item" Fh ["table","name","value"] t.fj t.fL
 kZ:FT K mg "without_item" Zcg ["table","name"] t.gA t.gN
 bq:FT K mg "look_new_name" Uh ["scene","name"] t.cr t.cv
 lp:FT K mg "look_length" Zeh ["word"] t.ip t.ir
 eE:FT K mg "look_parts" Kt ["parts"] t.dW t.d7
 cH:FT K mg "turned_scene" Ut ["scene","seam","way"] t.cA t.cE
 bK:FM K t.af "__init__" "Hall.__init__" Fz ["self","rows"] t.bf t.bI
 aU:FM K t.af "enter" "Hall.enter" Kx ["self","text","scene"] t.dX t.d8
 dH:FM K t.af "lay" "Hall.lay" Zbd ["self","name","word"] t.gB t.gO
 cI:FM K t.af "pour" "Hall.pour" Fx ["self","name","counts"] t.fk t.fM
 f7:FM K t.af "lift" "Hall.lift" Zh1 ["self","name"] t.fo t.fN
 cj:FM K t.af "weigh" "Hall.weigh" Kw ["self","seam","top","bottom"] t.dY t.d9
 cJ:FM K t.af "turn" "Hall.turn" Fv ["self","seam","way"] t.fq t.fO
 bL:FM K t.af "back" "Hall.back" Zh2 ["self"] t.jv t.jK
 bv:FM K t.af "again" "Hall.again" Zga ["self"] t.jc t.jh
 aV:FM K t.af "deeds" "Hall.deeds" Ky ["self"] t.dZ t.ee
 aW:FM K t.af "first_rows" "Hall.first_rows" Q3 ["self"] t.bG t.bJ
 av:FM K t.af "tent_rows" "Hall.tent_rows" Zab ["self"] t.eG t.eO
 lA:FM K t.af "names" "Hall.names" Zf9 ["self"] t.jd t.ji
 kS:FM K t.af "families" "Hall.families" Zbe ["self"] t.gh t.gj
 bc:FM K t.af "thread" "Hall.thread" Zei ["self","name"] t.iq t.iu
 aG:FM K t.af "pool" "Hall.pool" Fy ["self","name"] t.fu t.fP
 aY:FM K t.af "numbers" "Hall.numbers" Zci ["self"] t.gC t.gP
 aq:FM K t.af "fractions" "Hall.fractions" Vt ["self"] t.bS t.bW
 am:FT K mg "look_form" Fl ["right"] t.fz t.fQ
 bZ:FT K mg "name_in" Zda ["word"] t.iC t.iQ
 au:FT K mg "number_in" Fj ["word"] t.fA t.fR
 aD:FT K mg "two_numbers_in" Vq ["word","sign"] t.bT t.bX
 f8:FT K mg "counts_in" Fr ["words"] t.fB t.fS
 jY:FT K mg "lay_in" Zfy ["words"] t.d0 t.jL
 i5:FT K mg "pour_in" Zc9 ["words"] t.cW t.iR
 lV:FT K mg "lift_in" Zls ["words"] t.eJ t.kJ
 g9:FT K mg "weigh_in" Za3 ["words"] t.cg t.gQ
 i6:FT K mg "turn_in" Zc7 ["words"] t.cX t.iS
 bx:FT K mg "deed_in" Zdk ["text"] t.eK t.eP
 aO:FT K mg "do_deed" Zdj ["hall","deed"] t.iD t.iT
 bM:FT K mg "rows_text" Fi ["rows"] t.fC t.fU
 bb:FT K mg "told_of" Zc8 ["hall","word","name"] t.iE t.iU
 cm:FT K mg "answered" Zbc ["hall","order"] t.dD t.dF
 cZ:FT K mg "written" Zc6 ["hall"] t.iF t.iV
 cp:FT K mg "cloth_in" Zbb ["row"] t.gD t.gR
 bD:FT K mg "cloth_rows_ahead" Qs ["rows"] t.bz t.bA
 kc:FT K mg "read" Zlr ["text"] t.kU t.kW
 aZ:FT K mg "_law_cell" Zf7 ["_law_script","_law_at"] t.jw t.jM
 bO:FT K mg "_law_numbers" Fm ["_law_cell_here","_law_many"] t.fD t.fV
 jZ:FT K mg "_law_sewn" Zf2 ["_law_nums","_law_many","_law_share"] t.jx t.jN
 j4:FT K mg "_law_rows" Zf4 ["_law_mates","_law_start","_law_step"] t.jy t.jO
 j5:FT K mg "_law_tent" Zf1 ["_law_script"] t.jz t.jP
 j6:FT K mg "_law_walk" Zfz ["_law_mates","_law_nums"] t.jA t.jQ
 hG:FT K mg "_law_thread" Za8 ["_law_script","_law_at","_law_mates"] t.gE t.gS
 i8:FT K mg "_law_named" Zde ["_law_rows_here","_law_counts"] t.iG t.iW
 i9:FT K mg "_law_tally" Zdd ["_law_mates","_law_word"] t.iH t.iX
 j7:FT K mg "_law_seam" Zf3 ["_law_rows_here","_law_place"] t.jB t.jR
 b6:FT K mg "_law_whole" Zdc ["_law_found"] t.iI t.iY
 hJ:FT K mg "_law_dict" Zf6 ["_law_found","_law_due"] t.jC t.jS
 j8:FT K mg "_law_pair" Zf5 ["_law_found","_law_due"] t.jD t.jT
 kF:FT K mg "_law_low" Zip ["_law_top","_law_bottom"] t.kr t.kA
 cK:FT K mg "_law_told" Zf0 ["_law_hall","_law_order"] t.jE t.jU
 ja:FT K mg "_law_cloth" Zdf ["_law_word"] t.iJ t.iZ
 f9:FT K mg "_law_figures" Fn ["_law_hall","_law_seam_here","_law_far"] t.fE t.fW
 lI:FT K mg "law" Zpz ["_law_script"] t.lH t.kX
 jo:Mk K t.aa t.bE
 hU:Mk K t.ai t.cf
 kH:Mk K t.af t.bf
 cx:mg "GREATEST_NAME"=some (.int 9999 t.gk)
 gn:mg "SMALL_LETTERS"=some (.str (Str.ofString "abcdefghijklmnopqrstuvwxyz") t.gl)
 kL:mg "FIGURES"=some (.str (Str.ofString "0123456789") t.kK)
 hV:mg "LONGEST_NAME"=some (.int 8 t.gU)
 ic:mg "MOST_FIGURES"=some (.int 61 t.gV)
 kf:mg "PART"=some (.int 1000000000000000000000000000000000000000000000000000000000000 t.lP)
 eF:mg "WRITTEN_AT_ONCE"=some (.int 60 t.eu)
 lq:mg "MOST_PLACES"=some (.int 400 t.iw)
 gq:mg "GREATEST_PART"=some (.int 1000000000000000000000000000000000000000000000000000000000000 t.gm)
 eV:mg "CONTRARY_WAYS"=some (.ref t.aL)
 eX:Vg w K t.aL [(Sum.inr "left",.str "right"),(Sum.inr "right",.str "left")]
 ie:mg "READERS"=some (.ref t.bw)
 ig:Vg w K t.bw [(Sum.inr "lay",.ref t.d0),(Sum.inr "pour",.ref t.cW),(Sum.inr "lift",.ref t.eJ),(Sum.inr "weigh",.ref t.cg),(Sum.inr "turn",.ref t.cX)]
 lB:mg "WAYS"=some (.ref t.je)
 lC:KTup K t.je ["left","right"]
 b9:mg "ASKED_BY_NAME"=some (.ref t.aA)
 ce:KTup K t.aA ["thread","least","pool"]
 bl:∀(s:Shared)(u:Value),BindsTo s t.kX ⟨[u],[]⟩ [("_law_script",u)]
 k6:mg "all"=none
 lJ:mg "any"=none
 lQ:mg "bool"=none
 eY:mg "dict"=none
 gc:mg "enumerate"=none
 lK:mg "int"=none
 ba:mg "isinstance"=none
 aj:mg "len"=none
 ii:mg "list"=none
 lL:mg "max"=none
 l5:mg "min"=none
 bd:mg "range"=none
 il:mg "reversed"=none
 lZ:mg "set"=none
 cL:mg "sorted"=none
 kI:mg "str"=none
 lM:mg "sum"=none
 jp:mg "tuple"=none
 l4:mg "zip"=none
 kg:mg "NoPlace"=some (.ref t.cY)
 kM:ExcK K t.cY bmV "ValueError.__new__"
 jb:mg "NoSeam"=some (.ref t.ax)
 k7:ExcK K t.ax bmV "ValueError.__new__"
 k8:mg "Rim"=some (.ref t.ku)
 lN:ExcK K t.ku bmV "ValueError.__new__"
 kO:mg "Locked"=some (.ref t.d3)
 k9:ExcK K t.d3 bmV "ValueError.__new__"
 lg:mg "NoWay"=some (.ref t.jf)
 lD:ExcK K t.jf bmV "ValueError.__new__"
 gd:mg "NoThread"=some (.ref t.ay)
 kh:ExcK K t.ay bmV "ValueError.__new__"
 ix:mg "NoFraction"=some (.ref t.br)
 jq:ExcK K t.br bmV "ValueError.__new__"
 lO:mg "NoWorths"=some (.ref t.gF)
 lR:ExcK K t.gF bmV "ValueError.__new__"
 bP:mg "NoCounts"=some (.ref t.ao)
 dJ:ExcK K t.ao bmV "ValueError.__new__"
 kP:mg "Uneven"=some (.ref t.gG)
 lh:ExcK K t.gG bmV "ValueError.__new__"
 lE:mg "Wide"=some (.ref t.j9)
 lS:ExcK K t.j9 bmV "ValueError.__new__"
 lT:mg "TooMany"=some (.ref t.iK)
 lX:ExcK K t.iK bmV "ValueError.__new__"
 gf:mg "TooGreat"=some (.ref t.az)
 kj:ExcK K t.az bmV "ValueError.__new__"
 lm:mg "Taken"=some (.ref t.jg)
 lF:ExcK K t.jg bmV "ValueError.__new__"
 lU:mg "Unknown"=some (.ref t.iL)
 lY:ExcK K t.iL bmV "ValueError.__new__"
 cM:mg "BadOrder"=some (.ref t.ag)
 kl:ExcK K t.ag bmV "ValueError.__new__"
 c9:mg "NoTent"=some (.ref t.aH)
 im:ExcK K t.aH bmV "ValueError.__new__"
 lG:mg "TentError"=some (.ref t.jF)
 bn:PySem.W.exmOne K (.ref t.ag) (.ref t.ag)=some true
 cN:PySem.W.exmOne K (.ref t.ay) (.ref t.ay)=some true
 eZ:PySem.W.exmOne K (.ref t.ax) (.ref t.ax)=some true
 cO:PySem.W.exmOne K (.ref t.ao) (.ref t.ao)=some true
 cP:PySem.W.exmOne K (.ref t.az) (.ref t.az)=some true
 e7:PySem.W.exmOne K (.ref t.aH) (.ref t.aH)=some true
 cQ:PySem.W.exmOne K (.ref t.ay) (.ref t.ag)=some false
 dL:PySem.W.exmOne K (.ref t.ax) (.ref t.ag)=some false
 dM:PySem.W.exmOne K (.ref t.ax) (.ref t.ay)=some false
 cR:PySem.W.exmOne K (.ref t.ao) (.ref t.ag)=some false
 cS:PySem.W.exmOne K (.ref t.ao) (.ref t.ay)=some false
 dO:PySem.W.exmOne K (.ref t.ao) (.ref t.ax)=some false
 cT:PySem.W.exmOne K (.ref t.az) (.ref t.ag)=some false
 cU:PySem.W.exmOne K (.ref t.az) (.ref t.ay)=some false
 dP:PySem.W.exmOne K (.ref t.az) (.ref t.ax)=some false
 cV:PySem.W.exmOne K (.ref t.az) (.ref t.ao)=some false
 dQ:PySem.W.exmOne K (.ref t.aH) (.ref t.ag)=some false
def Same.add(s:Same H H1)(hp:H p=none):Same H (upd H1 p o):=λb u e=>by rw[Ze (Zi e hp)];exact s b u e
def Same.new{H:Hp}{p:Addr}{o:HO}(hp:H p=none):Same H (upd H p o):=Same.add (Same.refl H) hp
def Z4(vd:St->Hp->Prop)(ht:∀nx:St->Hp->Prop,(∀σ H,vd σ H->nx σ H)->t {D with nx:=nx} σ H)(hu:∀σ H,vd σ H->u D σ H):tSeq t u D σ H:=ht (u D) hu
def Zw(ht:∀nx:St->Hp->Prop,(∀σ H,u D σ H->nx σ H)->t {D with nx:=nx} σ H):tSeq t u D σ H:=ht (u D) λ_ _ h=>h
def Zgz(xs:List Int)(y:Int):xs.map V.int++[V.int y]=(xs++[y]).map V.int:=by simp
def getI{ns:List Int}(h:n<ns.length):(T:)[n]?=some (V.int (ns.getD n 0)):=by
 rw[Ah,Ac h,Ad,Ac h];rfl
noncomputable def cell(ns:List Int)(n:Int):Int:=if n<ns.length then ns.getD n.toNat 0 else if ns.length=0 then 31*n+7 else ns.getD (n%ns.length).toNat 0%1000003+101*n
def Zqt(K:W.Frag):Sp:=λvs H Q _=>∃(a:Addr)(ns:List Int)(n:Int),vs=[.ref a,.int n]/\SqL K H a (T:)/\ns.length<=63/\0<=n/\n<1000000/\Q (.int (cell ns n)) H
def Zoa:Sp:=λvs H Q _=>∃n:Int,vs=[.int n]/\Q (.bl true) H
def Zjp:Sp:=λvs H Q _=>∃(c:Int)(n:Nat),vs=[.int c,.int n]/\n<=60/\∀(p:Addr)(xs:List Int)(H':Hp),Same H H'->H p=none->H' p=some (.lst (xs.map V.int))->xs.length=n->(∀x∈xs,0<=x/\x<1009)->Q (.ref p) H'
section
variable{P:Program}{w:World}{K:W.Frag}{mg:Str->Option Value}{base:Heap}{t:Adr}
def Zj5:FnScope ["_law_found"] ["_law_found"] (Zf Zdc):=Am
def Va(T:Txt w K mg t):(a:) 1 t.iI t.iY ["_law_found"] Zoa:=by
 refine T.b6.F.aR Zj5 (b:)
 ·obtain⟨p,rfl,k⟩:=h
  refine⟨_,(Zh (Zl (Vz (Ye Jm (by rfl) T.ba PyProof.Rows.boot_isinstance (Za (pv 0) (Za (U1 (v:=.ty "int") (by rfl) T.lK PySem.Pv.boot_int rfl) Zb))) (Vx (Zl5 (Ye Jm (by rfl) T.ba PyProof.Rows.boot_isinstance (Za (pv 0) (Za (U1 (v:=.ty "bool") (by rfl) T.lQ PySem.Pv.boot_bool rfl) Zb)))))))),?_⟩;refine⟨_,"int",_,true,rfl,TyOf.int p,Ou,_,rfl,iteT ?_⟩;refine⟨_,"bool",_,false,rfl,TyOf.int p,(by rfl),_,rfl,k⟩
def Zlp:FnScope ["_law_script","_law_at"] ["_law_script","_law_at"] (Zf Zf7):=Am
def Wt(T:Txt w K mg t):(a:) 1 t.jw t.jM ["_law_script","_law_at"] (Zqt K):=by
 refine T.aZ.F.aR Zlp (b:)
 ·obtain⟨a,ns,n,rfl,hS,hl,h0,h1,k⟩:=h
  refine ⟨_,(Zg (Z9 (Zn J1 (pv 1) (Z3 T.aj (D:)) (Zm _)) (Zh (Zl (Zr Zs (pv 0) (pv 1) (o:)))) Zy)
   (Zg (Z9 (Zn Z6 (Z3 T.aj (D:)) Zd (Zm _)) (Zh (Zl (Zj Y8 (Zj W5 Zd (pv 1)) Zd))) Zy)
   (Zh (Zl (Zj Y8 (Zj Z5 (Zr Zs (pv 0) (Zj Z5 (pv 1) (Z3 T.aj (D:))) (o:)) Zd) (Zj W5 Zd (pv 1))))))),?_⟩;have el:((T:).length:Int)=ns.length:=by simp
  refine⟨a,_,Y,.inl hS,?_⟩;rw[el];refine ite2 (λh=>?_) (λh=>?_)
  ·have h:n<ns.length:=by simpa using h
   have e:cell ns n=ns.getD n.toNat 0:=if_pos h;have en:n=(n.toNat:Int):=by lia
   have ei:atI (T:) n=some (V.int (ns.getD n.toNat 0)):=by rw[en];exact Wm (getI (n:=n.toNat) (by lia))
   rw[e]at k;exact⟨hS,ei,k⟩
  ·have h:¬n<ns.length:=by simpa using h
   have e:cell ns n=if ns.length=0 then 31*n+7 else ns.getD (n%ns.length).toNat 0%1000003+101*n:=if_neg h
   refine⟨a,_,Y,.inl hS,Y,?_⟩;rw[el];refine ite2 (λg=>?_) (λg=>?_)
   ·have g:ns.length=0:=by simpa using g
    refine⟨.inl ⟨by decide,by decide⟩,?_⟩;rw[if_pos g]at e;rw[e]at k;exact k
   ·have g:¬ns.length=0:=by simpa using g
    have gp:(0:Int)<ns.length:=by lia
    rw[if_neg g]at e;have m0:=Int.emod_nonneg n (show(ns.length:Int)≠0 by lia);have m1:=Int.emod_lt_of_pos n gp;refine⟨a,_,Y,.inl hS,(by rw[el];exact gp),hS,(?_:atI _ _=some (V.int (ns.getD (n%ns.length).toNat 0))),(by show(0:Int)<1000003;decide),.inl ⟨by decide,by decide⟩,?_⟩
    ·rw[el]
     have en:n%(ns.length:Int)=((n%(ns.length:Int)).toNat:Int):=by lia
     rw[en];exact Wm (getI (by lia))
    ·rw[e]at k;exact k
def Wi:FnScope ["_law_cell_here","_law_many","_law_row","_law_rest","_law_seed"] ["_law_cell_here","_law_many"] (Zf Fm):=Am
def V3(T:Txt w K mg t):(a:) 1 t.fD t.fV ["_law_cell_here","_law_many"] Zjp:=by
 refine T.bO.F.aR Wi (b:)
 ·obtain⟨c,n,rfl,hn60,k⟩:=h
  refine ⟨_,(Zg (psN 2 Wi.nd (Y5 Zb))
   (Zg (psN 3 Wi.nd (Zj Qv (pv 0) (Zj V1 Zd Zd)))
   (Zg (Ju PassesOwn.never (PW.pt (Ux (Zn J2 (pv 3) Zd (Zm _)) (Vi (Zn J1 (Z3 T.aj (Z:)) (pv 1) (Zm _))))) (Zg (Xg (Ji (pv 2) (Za (Zj Z5 (pv 3) Zd) Zb)))
   (Zh (psN 3 Wi.nd (Zj X1 (pv 3) Zd)))))
   (Zg (psN 4 Wi.nd (Zj Z5 (pv 0) Zd))
   (Zg (Ju PassesOwn.never (Zn J1 (Z3 T.aj (Z:)) (pv 1) (Zm _)) (Zg (psN 4 Wi.nd (Zj Z5 (Zj Y8 (Zj Y8 (Zj W5 (pv 4) Zd) Zd) (Z3 T.aj (Z:))) Zd))
   (Zh (Xg (Ji (pv 2) (Za (Zj Z5 (Zj X1 (Zj Z5 (Zj W5 (pv 4) Zd) Zd) Zd) Zd) Zb))))))
   (Zh (Zl (pv 2)))))))),?_⟩;refine⟨Az _,λr um=>?_⟩;refine⟨⟨by decide,by decide,by decide⟩,?_⟩;show tSeq (Zat _ _) _ _ _ _;refine Z4 (λσ H1=>∃(xs:List Int)(l8:Int),σ=[oI c,oI n,oR r,oI l8,none]/\Same H H1/\H1 r=some (.lst (xs.map V.int))/\xs.length<=n/\(∀x∈xs,0<=x/\x<1009)) (ah:) ?_
  ·refine⟨λm σ H1=>∃(xs:List Int)(l8:Int),m=n-xs.length/\σ=[oI c,oI n,oR r,oI l8,none]/\Same H H1/\H1 r=some (.lst (xs.map V.int))/\xs.length<=n/\(∀x∈xs,0<=x/\x<1009),
    ⟨n,[],_,rfl,rfl,Same.new um,Zc,Az _,λx hx=>absurd hx (by simp)⟩,?_⟩
   rintro m σ H1 ⟨xs,l8,rfl,rfl,sm,h1,hl,hx⟩;have el:((xs.map V.int).length:Int)=xs.length:=by simp
   refine(ite2 (λ_=>?_) (λ_=>?_))
   ·refine⟨r,_,Y,.inl (SqL.of h1),?_⟩
    rw[el];refine ite2 (λg=>?_) (λ_=>?_)
    ·have g:(xs.length:Int)<n:=by simpa using g
     refine⟨_,λσ' H' h=>h,?_⟩;refine⟨.inl ⟨Y,_,SqL.of h1⟩,(by show(0:Int)<1009;decide),r,_,_,rfl,rfl,h1,(by rw[Ab];exact Zt (by lia)),⟨by decide,by decide⟩,n-(xs++[l8%1009]).length,?_,xs++[l8%1009],_,Y,Y,Same.add sm um,?_,?_,?_⟩
     ·rw[Ae,At];lia
     ·rw[Zc,<-Zgz]
     ·rw[Ae,At];lia
     ·intro x hm
      rcases mem_append.mp hm with z|z
      ·exact hx x z
      ·have:x=l8%1009:=by simpa using z
       subst this;lia
    ·exact mq _ _ ⟨xs,l8,Y,sm,h1,hl,hx⟩
   ·exact mq _ _ ⟨xs,l8,Y,sm,h1,hl,hx⟩
  rintro σ H1 ⟨xs,l8,rfl,sm,h1,hl,hx⟩;refine⟨(by show(0:Int)<2147483629;decide),?_⟩;show tSeq (Zat _ _) _ _ _ _;refine Z4 (λσ H1=>∃(xs:List Int)(l8 rn:Int),σ=[oI c,oI n,oR r,oI l8,oI rn]/\Same H H1/\H1 r=some (.lst (xs.map V.int))/\xs.length=n/\(∀x∈xs,0<=x/\x<1009)) (ah:) ?_
  ·refine⟨λm σ H1=>∃(xs:List Int)(l8 rn:Int),m=n-xs.length/\σ=[oI c,oI n,oR r,oI l8,oI rn]/\Same H H1/\H1 r=some (.lst (xs.map V.int))/\xs.length<=n/\(∀x∈xs,0<=x/\x<1009),
    ⟨n-xs.length,xs,l8,_,rfl,rfl,sm,h1,hl,hx⟩,?_⟩
   clear h1 hl hx sm xs l8;rintro m σ H1 ⟨xs,l8,rn,rfl,rfl,sm,h1,hl,hx⟩;have el:((xs.map V.int).length:Int)=xs.length:=by simp
   refine⟨r,_,Y,.inl (SqL.of h1),?_⟩;rw[el];refine ite2 (λg=>?_) (λg=>?_)
   ·have g:(xs.length:Int)<n:=by simpa using g
    refine⟨_,λσ' H' h=>h,?_⟩;refine⟨.inr ⟨by decide,by decide⟩,r,_,Y,.inl (SqL.of h1),(by show(0:Int)<2147483647;decide),?_⟩;obtain⟨y,hy⟩:∃y,y=(rn*48271+12345+((xs.map V.int).length:Int))%2147483647*69621%2147483629/7%1009:=⟨_,rfl⟩;refine⟨.inl ⟨Y,_,SqL.of h1⟩,.inr ⟨by decide,by decide⟩,(by show(0:Int)<2147483629;decide),⟨by decide,by decide⟩,(by show(0:Int)<1009;decide),r,_,_,rfl,rfl,h1,(by rw[Ab];exact Zt (by lia)),n-(xs++[y]).length,?_,xs++[y],_,_,Y,Y,Same.add sm um,?_,?_,?_⟩
    ·rw[Ae,At];lia
    ·rw[Zc,<-Zgz,hy]
    ·rw[Ae,At];lia
    ·intro x hm
     rcases mem_append.mp hm with z|z
     ·exact hx x z
     ·have:x=y:=by simpa using z
      rw[this,hy];exact⟨Int.emod_nonneg _ (d:),Int.emod_lt_of_pos _ (d:)⟩
   ·have g:¬(xs.length:Int)<n:=by simpa using g
    exact mq _ _ ⟨xs,l8,rn,Y,sm,h1,by lia,hx⟩
  rintro σ H1 ⟨xs,l8,rn,rfl,sm,h1,hl,hx⟩;exact k r xs H1 sm um h1 hl hx
def Zqn(K:W.Frag):Sp:=λvs H Q _=>∃(a:Addr)(xs:List Int)(n:Nat)(sh:Int),vs=[.ref a,.int n,.int sh]/\H a=some (.lst (xs.map V.int))/\xs.length=60/\(∀x∈xs,0<=x/\x<1009)/\1<=n/\n<=14/\
 ∀(p:Addr)(M:Lq)(H':Hp),Same H H'->H p=none->H' p=some (bx:)->M.length=3*n->(bq:)->Q (.ref p) H'
def map_set{α:Type}(f:α->V)(l:List α)(i:Nat)(x:α):(l.map f).set i (f x)=(l.set i x).map f:=by rw[List.map_set]
def Vl(h:i<n):ixN n (i:Int)=some i:=by
 unfold ixN;simp;lia
theorem Zne{α β:Type}(f:α->β):∀(l:List α)(i:Nat),(l.map f).eraseIdx i=(l.eraseIdx i).map f
 |[],_=>rfl
 |_::_,0=>rfl
 |a::r,i+1=>by rw[map_cons,eraseIdx_cons_succ,Zne f r i,eraseIdx_cons_succ,map_cons]
def natV(F:List Nat)(i:Nat):(F.map λ(j:Nat)=>V.int j)[i]?=(F[i]?).map λ(j:Nat)=>V.int j:=Ah ..
def Wr:FnScope ["_law_nums","_law_many","_law_share","_law_mates","_law_free","_law_at","_law_one","_law_pick","_law_other"] ["_law_nums","_law_many","_law_share"] (Zf Zf2):=Am
def Zmh(T:Txt w K mg t):(a:) 1 t.jx t.jN ["_law_nums","_law_many","_law_share"] (Zqn K):=by
 refine T.jZ.F.aR Wr (b:)
 ·obtain⟨a,xs,n,sh,rfl,ha,hl,hx,h1,h2,k⟩:=h
  refine ⟨_,(Zg (psN 3 Wr.nd (Zj Zgl (Y5 (Za U0 Zb)) (Zj W5 Zd (pv 1))))
   (Zg (psN 4 Wr.nd (Zgg rfl T.ii rfl T.bd rfl (Za (Zj W5 Zd (pv 1)) Zb)))
   (Zg (psN 5 Wr.nd Zd)
   (Zg (Ju PassesOwn.never (Zn J2 (Z3 T.aj (Za (pv 4) Zb)) Zd (Zm _)) (Zg (psN 6 Wr.nd (Wa PySem.F.plainAttrs_list PySem.F.slot_list_pop PySem.F.type_list_pop Zgy (pv 4) (Za Zd Zb)))
   (Zg (psN 7 Wr.nd (Zr Zs (pv 0) (pv 5) (o:)))
   (Zg (psN 5 Wr.nd (Zj Y8 (pv 5) Zd))
   (Zh (Z9 (Zn Zev (Zj Z5 (pv 7) Zd) (pv 2) (Zm _)) (Zg (psN 8 Wr.nd (Wa PySem.F.plainAttrs_list PySem.F.slot_list_pop PySem.F.type_list_pop Zgy (pv 4) (Za (Zj Z5 (Zj X1 (pv 7) Zd) (Z3 T.aj (Za (pv 4) Zb))) Zb)))
   (Zg (Vw (pv 8) (Zbg (pv 3) (pv 6) Qb))
   (Zh (Vw (pv 6) (Zbg (pv 3) (pv 8) Qb))))) Zy))))))
   (Zh (Zl (pv 3))))))),?_⟩;refine⟨(szR Y),λq hq=>⟨.inl ⟨by decide,by decide⟩,q,_,_,Y,Y,Zc,(by lia),(by lia),?_,λm hm=>?_⟩⟩
  ·have:(3*(n:Int)).toNat=3*n:=by lia
   show 1*(3*(n:Int)).toNat<=sizeLine;rw[this,sizeLine_eq];lia
  have eN:(3*(n:Int)).toNat=3*n:=by lia
  have eM:(List.replicate (3*(n:Int)).toNat [V.non]).flatten=(List.replicate (3*n) (none:Option Nat)).map mV:=by
   rw[eN,flatten_replicate_singleton,map_replicate];rfl
  refine⟨.inl ⟨by decide,by decide⟩,3*n,(congrArg (λz=>[V.int z]) (by lia:(3*(n:Int))=((3*n:Nat):Int))),by lia,λf hf=>?_⟩;have vt:f≠m:=λz=>by rw[z,Zc]at hf;cases hf
  have sj:H m=none:=by
   have:m≠q:=λz=>by rw[z,Zc]at hm;cases hm
   rw[Ze this]at hm;exact hm
  have ss:H f=none:=by
   rw[Ze vt]at hf;have:f≠q:=λz=>by rw[z,Zc]at hf;cases hf
   rw[Ze this]at hf;exact hf
  have sm0:Same H (upd (upd (upd H q (.lst [.non])) m (.lst (List.replicate (3*(n:Int)).toNat [V.non]).flatten)) f (.lst ((List.range (3*n)).map λ(i:Nat)=>V.int i))):=Same.add (Same.add (Same.new hq) sj) ss;show tSeq (Zat _ _) _ _ _ _;refine Z4 (λσ H1=>∃(M:Lq)(v4 v5 v6 v7 v8:Option V),σ=[oR a,oI n,oI sh,oR m,v4,v5,v6,v7,v8]/\Same H H1/\H1 m=some (bx:)/\M.length=3*n/\∀(i j:Nat),M[i]?=some (some j)->M[j]?=some (some i)/\i≠j) (ah:) ?_
  ·refine⟨λc σ H1=>∃(F:List Nat)(M:Lq)(at':Nat)(v6 v7 v8:Option V),c=F.length/\σ=[oR a,oI n,oI sh,oR m,oR f,oI at',v6,v7,v8]/\Same H H1/\H1 m=some (bx:)/\H1 f=some (.lst (F.map λ(i:Nat)=>V.int i))/\SewOk (3*n) F M/\at'+F.length<=3*n,
    ⟨_,List.range (3*n),List.replicate (3*n) none,0,none,none,none,rfl,rfl,sm0,?_,Zc,SewOk.start _,by simp⟩,?_⟩
   ·rw[Ze vt.symm,Zc,eM]
   rintro c σ H1 ⟨F,M,at',v6,v7,v8,rfl,rfl,sm,g1,g2,hs,hat⟩;refine⟨f,_,Y,.inl (SqL.of g2),?_⟩;rw[Ab];refine ite2 (λg=>?_) (λg=>?_)
   ·have g:1<F.length:=by have:=of_decide_eq_true g;lia
    obtain⟨one,F',rfl⟩:∃one F',F=one::F':=by
     cases F with
     |nil=>simp at g
     |cons a b=>exact⟨a,b,Y⟩
    rw[length_cons]at g hat;refine⟨_,λσ' H' h=>h,?_⟩;refine⟨.inl ⟨Y,_,SqL.of g2⟩,f,_,0,0,V.int one,Y,Y,g2,by decide,by decide,(by simp[seqIndex?]),Y,?_⟩;have e0:((one::F').map λ(i:Nat)=>V.int i).eraseIdx 0=F'.map λ(i:Nat)=>V.int i:=rfl;rw[e0];have g2':(upd H1 f (.lst (F'.map λ(i:Nat)=>V.int i))) f=some (.lst (F'.map λ(i:Nat)=>V.int i)):=Zc;have g1':(upd H1 f (.lst (F'.map λ(i:Nat)=>V.int i))) m=some (bx:):=by rw[Ze vt.symm];exact g1
    have sm':Same H (upd H1 f (.lst (F'.map λ(i:Nat)=>V.int i))):=Same.add sm ss;generalize upd H1 f (.lst (F'.map λ(i:Nat)=>V.int i))=H2 at g1' g2' sm'⊢;have vf:at'<xs.length:=by lia
    refine⟨SqL.of (sm' _ _ ha),Wm (getI vf),?_⟩;obtain⟨p0,p1⟩:=hx _ (getElem_mem vf);have ep:xs.getD at' 0=xs[at']:=by rw[Ad,Ac vf];rfl
    rw[ep];generalize xs[at']=qa at p0 p1⊢;refine⟨(by show(0:Int)<7;decide),(ite2 (λ_=>?_) (λ_=>?_))⟩
    ·-- other=free.pop(..)
     have hF:(0:Int)<F'.length:=by lia
     have k0:=Int.emod_nonneg (qa/7) (show(F'.length:Int)≠0 by lia);have k1:=Int.emod_lt_of_pos (qa/7) hF;obtain⟨kk,xq⟩:∃kk:Nat,qa/7%(F'.length:Int)=kk:=⟨_,(Int.toNat_of_nonneg k0).symm⟩;have qe:kk<F'.length:=by lia
     refine⟨.inl ⟨Y,_,SqL.of g2'⟩,⟨by decide,by decide⟩,f,_,Y,.inl (SqL.of g2'),(by rw[Ab];exact hF),f,_,_,kk,V.int F'[kk],Y,Y,g2',?_,?_,?_,?_,?_⟩
     ·rw[Ab,xq];lia
     ·rw[Ab,xq];lia
     ·rw[Ab,xq];simp[seqIndex?];lia
     ·rw[natV,Ac qe];rfl
     have e1:(F'.map λ(i:Nat)=>V.int i).eraseIdx kk=(F'.eraseIdx kk).map λ(i:Nat)=>V.int i:=by rw[Zne]
     rw[e1];have hp:=hs.pair (Ac qe);have l1:one<M.length:=by rw[hs.len];exact(hs.free one mem_cons_self).1
     have l2:F'[kk]<M.length:=by rw[hs.len];exact(hs.free _ (mem_cons_of_mem _ (getElem_mem qe))).1
     have g1'':(upd H2 f (.lst ((F'.eraseIdx kk).map λ(i:Nat)=>V.int i))) m=some (bx:):=by rw[Ze vt.symm];exact g1'
     refine⟨m,_,_,one,Y,Y,g1'',(by rw[Ab];exact Vl l1),?_⟩;refine⟨m,_,_,F'[kk],Y,Y,Zc,(by rw[length_set,Ab];exact Vl l2),(F'.eraseIdx kk).length,?_,F'.eraseIdx kk,(M.set one (some F'[kk])).set F'[kk] (some one),at'+1,_,_,_,Y,Y,Same.add (Same.add (Same.add sm' ss) sj) sj,?_,?_,hp,?_⟩
     ·rw[length_eraseIdx_of_lt qe,length_cons];lia
     ·rw[Zc]
      show some (HO.lst (((M.map mV).set one (mV (some F'[kk]))).set F'[kk] (mV (some one))))=_;rw[map_set,map_set]
     ·rw[Ze vt,Ze vt,Zc]
     ·rw[length_eraseIdx_of_lt qe];lia
    ·exact⟨F'.length,by rw[length_cons];lia,F',M,at'+1,_,_,_,rfl,rfl,sm',g1',g2',hs.skip,by lia⟩
   ·exact mq _ _ ⟨M,_,_,_,_,_,Y,sm,g1,hs.len,hs.inv⟩
  rintro σ H1 ⟨M,v4,v5,v6,v7,v8,rfl,sm,g1,hl',yk⟩;exact k m M H1 sm sj g1 hl' yk
noncomputable def l6(i:Int):Str:=Str.ofString (toString i)
def Zo8(x y:Str):Txt.join (Str.ofString "") [x,y]=x++y:=by
 have h:(Txt.join (Str.ofString "") [x,y]).cps=(x++y).cps:=by
  show(x.cps++(#[]:Array Nat))++y.cps=x.cps++y.cps;rw[Array.append_empty]
 exact congrArg Str.mk h
def Zo9(x:Str):Txt.join (Str.ofString "") [x]=x:=rfl
def Zjw:Sp:=λvs H Q _=>∃i:Int,vs=[.int i]/\0<=i/\i<100000000000000000000000000000000000000000000000000000000000000/\∀H',Same H H'->Q (.str (l6 i)) H'
noncomputable def mdL(x y:Str):List Bool:=x.cps.toList.map λc=>Txt.contains y ⟨#[c]⟩
def Zjr:Sp:=λvs H Q _=>∃x y:Str,vs=[.str x,.str y]/\x.cps.all (·<128)=true/\x.cps.size<=900/\∀H',Same H H'->Q (.bl ((mdL x y).all id)) H'
def Zp8:(10:Int)^62=100000000000000000000000000000000000000000000000000000000000000:=by decide
def Ztt:(2:Nat)^210=1645504557321206042154969182557350504982735865633579863348609024:=by decide
def Y9{i:Int}(h0:0<=i)(h1:i<100000000000000000000000000000000000000000000000000000000000000):(l6 i).length<=62:=PyProof.Rows.toString_length_le h0 (d:) (by rw[Zp8];exact h1)
def Zo5{x:Str}{g:TG}{tt:TT}{tb:TB}{R:St->Hp->Prop}{σ:St}{H:Hp}(Pv:Nat->St->Hp->Prop)(h0:Pv 0 σ H)
  (hs:∀(i:Nat)c σ H,x.cps[i]?=some c->Pv i σ H->g (.str ⟨#[c]⟩) σ H λσ2 H2=>tt σ2 H2 λb H3=>if b=true then tb σ2 H3 (Pv (i+1))else Pv (i+1) σ2 H3) (hd:∀σ H,Pv x.cps.size σ H->R σ H):Jr (Its x) g tt tb R σ H:=by
 refine⟨λi m σ H=>m=x.cps.size-i/\i<=x.cps.size/\Pv i σ H,⟨x.cps.size,by simp,Az _,h0⟩,?_⟩;rintro i m σ H ⟨rfl,hi,p⟩;by_cases mr:i<x.cps.size
 ·refine .inr ⟨mr,Pv (i+1),λσ' H' p'=>⟨x.cps.size-(i+1),by lia,Y,mr,p'⟩,λy H' z=>?_⟩
  obtain⟨e,c,hc,ec⟩:=z;subst e ec;exact hs i c σ _ hc p
 ·have e:i=x.cps.size:=by lia
  subst e;exact .inl ⟨An _,hd σ H p⟩
def Xt{i:Int}(h0:0<=i)(h1:i<100000000000000000000000000000000000000000000000000000000000000):i.natAbs.log2<1920:=by
 rcases eq_zero_or_pos i.natAbs with z|z
 ·rw[z];decide
 ·exact(Nat.log2_lt (by lia)).mpr (Ag (by rw[Ztt];lia:i.natAbs<2^210) (Nat.pow_le_pow_right (d:) (d:)))
def Zcu{x y:Str}(h:x.cps.toList=y.cps.toList):x=y:=by
 cases x;cases y;exact congrArg Str.mk (Array.toList_inj.mp h)
def Zr1{x:Str}(h:x.length<=62):(Txt.zfill x 60).length<=1000:=by
 have:=PyProof.Rows.len_zfill x 60;split at this<;>lia
def Zrn{i:Int}(h0:1000000000000000000000000000000000000000000000000000000000000<=i)(h1:i<100000000000000000000000000000000000000000000000000000000000000):l6 (i/1000000000000000000000000000000000000000000000000000000000000)++Txt.zfill (l6 (i%1000000000000000000000000000000000000000000000000000000000000)) 60=l6 i:=by
 obtain⟨m,rfl⟩:=Int.eq_ofNat_of_zero_le (show 0<=i by lia);have e1:((m:Nat):Int)/1000000000000000000000000000000000000000000000000000000000000=((m/1000000000000000000000000000000000000000000000000000000000000:Nat):Int):=by lia
 have e2:((m:Nat):Int)%1000000000000000000000000000000000000000000000000000000000000=((m%1000000000000000000000000000000000000000000000000000000000000:Nat):Int):=by lia
 rw[e1,e2];have p:(10:Nat)^60=1000000000000000000000000000000000000000000000000000000000000:=by decide
 have hb:m%1000000000000000000000000000000000000000000000000000000000000<10^60:=by rw[p];lia
 obtain⟨l1,l2⟩:=Zni 60 _ (d:) hb;have key:=Zhb 60 (m/1000000000000000000000000000000000000000000000000000000000000) (m%1000000000000000000000000000000000000000000000000000000000000) (by lia) hb;rw[p,Nat.mul_comm,div_add_mod]at key;have sg:∀k:Nat,(l6 (k:Int)).cps.toList=dg k:=λk=>PySem.W.KIN.signs_num k;refine Zcu ?_;have ap:∀a b:Str,(a++b).cps.toList=a.cps.toList++b.cps.toList:=λa b=>Array.toList_append;rw[ap,sg,sg,key,<-l2];congr 1;generalize hr:m%1000000000000000000000000000000000000000000000000000000000000=r at *;have hl:(l6 (r:Int)).length=(dg r).length:=by rw[<-sg,Array.length_toList];rfl
 unfold Txt.zfill;rw[hl];have hd:∀c,(l6 (r:Int)).cps[0]?=some c->c≠43/\c≠45:=λc hc=>by
  have hm:c∈(l6 (r:Int)).cps.toList:=Array.mem_toList_iff.mpr (Array.mem_of_getElem? hc)
  unfold l6 at hm
  rw[PySem.W.KIN.signs_num]at hm
  obtain⟨ch,qp,e⟩:=mem_map.mp hm
  have r:=PyProof.Rows.digit_range (isDigit_of_mem_toDigits (d:) (d:) qp)
  lia
 by_cases c:(60:Int)<=((dg r).length:Nat)
 ·rw[if_pos c,show 60-(dg r).length=0 by lia,sg];rfl
 ·rw[if_neg c]
  unfold zfilled;split
  ·rename_i h;exact absurd Y (hd _ h).1
  ·rename_i h;exact absurd Y (hd _ h).2
  ·show((Array.replicate ((60:Int).toNat-(dg r).length) 48++(l6 (r:Int)).cps)++Array.replicate 0 48).toList=_
   rw[Array.toList_append,Array.toList_append,Array.toList_replicate,Array.toList_replicate,sg];show List.replicate (60-(dg r).length) 48++dg r++[]=_;rw[append_nil]
def Oi:FnScope ["number","parts"] ["number"] (Zf Zdi):=Am
def Zbo(T:Txt w K mg t):(a:) 1 t.iB t.iP ["number"] Zjw:=by
 refine T.eU.F.aR Oi (b:)
 ·obtain⟨i,rfl,h0,h1,k⟩:=h
  refine ⟨_,(Zg (psN 1 Oi.nd (Y5 Zb))
   (Zg (Ju PassesOwn.never (Zn Zev (pv 0) (bh:) (Zm _)) (Zg (Xg (Ji (pv 1) (Za (Wa PySem.F.plainAttrs_str PySem.F.slot_str_zfill PySem.F.type_str_zfill Zo4 (Ys Ub (by rfl) T.kI PySem.Pv.boot_str (Za (Zj Z5 (pv 0) (bh:)) Zb)) (Za (Y7 (v:=.int 60) rfl T.eF ⟨_,rfl⟩) Zb)) Zb)))
   (Zh (Zly (i:=0) Oi.nd rfl (Or.inl rfl) (bh:) Zpb))))
   (Zg (Xg (Ji (pv 1) (Za (Ys Ub (by rfl) T.kI PySem.Pv.boot_str (D:)) Zb)))
   (Zh (Zl (Zj9 rfl T.il (by rfl) Zk (P:))))))),?_⟩;refine Zw λm7 l7=>⟨Az _,λp hp=>l7 _ _ ?_⟩;have s1:Same H (upd H p (.lst [])):=Same.new hp;have h2:(upd H p (.lst [])) p=some (.lst []):=Zc;generalize upd H p (.lst [])=H1 at s1 h2⊢
  try dsimp only[Zv]
  refine Z4 (λσ H'=>∃(j:Int)(ys:List Str),σ=[oI j,oR p]/\Same H H'/\H' p=some (.lst (ys.map V.str))/\0<=j/\j<100000000000000000000000000000000000000000000000000000000000000/\ys.length<=1/\(∀y∈ys,y.length<=1000)/\Txt.join (Str.ofString "") ((l6 j::ys))=l6 i) (ah:) ?_
  ·refine⟨λm σ H'=>(m=1/\σ=[oI i,oR p]/\H'=H1)\/(m=0/\i ≥ 1000000000000000000000000000000000000000000000000000000000000/\∃y,y=Txt.zfill (l6 (i%1000000000000000000000000000000000000000000000000000000000000)) 60/\σ=[oI (i/1000000000000000000000000000000000000000000000000000000000000),oR p]/\Same H H'/\H' p=some (.lst [.str y])),⟨1,.inl ⟨Y,Y,Y⟩⟩,?_⟩
   rintro m σ H' (⟨rfl,rfl,rfl⟩|⟨rfl,hi,y,hy,rfl,s',h'⟩)
   ·refine ite2 (λz=>?_) (λz=>?_)
    ·have z:=of_decide_eq_true z
     refine⟨λσ' H2=>i ≥ 1000000000000000000000000000000000000000000000000000000000000/\∃y,y=Txt.zfill (l6 (i%1000000000000000000000000000000000000000000000000000000000000)) 60/\σ'=[oI (i/1000000000000000000000000000000000000000000000000000000000000),oR p]/\Same H H2/\H2 p=some (.lst [.str y]),λσ' H2 hh=>⟨0,Nat.zero_lt_one,.inr ⟨Y,hh⟩⟩,?_⟩;refine⟨.inl ⟨Y,_,SqL.of h2⟩,(show(0:Int)<_ by decide),_,Y,Xt (by lia) (by lia),Y,_,Y,Y,p,_,_,Y,Y,h2,Zt (d:),?_⟩;exact⟨_,Y,_,_,Y,Y,⟨by decide,by decide⟩,z,_,Y,Y,Same.add s1 hp,Zc⟩
    ·have z:¬_<=i:=λe=>z (decide_eq_true e)
     refine mq _ _ ⟨i,[],rfl,s1,h2,h0,h1,Az _,λ_ h=>(by cases h),Zo9 _⟩
   ·refine ite2 (λz=>?_) (λz=>?_)
    ·have z:=of_decide_eq_true z
     lia
    ·refine mq _ _ ⟨i/1000000000000000000000000000000000000000000000000000000000000,[y],Y,s',h',by lia,by lia,An _,λx hx=>?_,?_⟩
     ·rw[Af hx,hy]
      exact Zr1 (Y9 (by lia) (by lia))
     ·rw[Zo8,hy,Zrn (by lia) h1]
  rintro σ H' ⟨j,ys,rfl,s',h',j0,j1,yl,yb,e⟩;have jl:=Y9 j0 j1;refine Zw λm7 l7=>⟨.inl ⟨Y,_,SqL.of h'⟩,j,Y,Xt j0 j1,p,_,_,Y,Y,h',by rw[Ab];exact Zt (by lia),l7 _ _ ?_⟩;refine⟨_,Y,p,ys++[l6 j],Y,SqL.of (by rw[Zc,Aj];rfl),by decide,?_,?_⟩
  ·rw[Aj,sum_append,Ae]
   show _+((l6 j).length+0)+(_+1)<=1048576
   match ys,yl,yb with
   |[],_,_=>show 0+((l6 j).length+0)+(0+1)<=1048576;lia
   |[y],_,yb=>have:=yb y mem_cons_self;show(y.length+0)+((l6 j).length+0)+(1+1)<=1048576;lia
  ·have q:Txt.join (Str.ofString "") (ys++[l6 j]).reverse=l6 i:=by
    rw[reverse_append]
    match ys,yl,e with
    |[],_,e=>exact e
    |[y],_,e=>exact e
   show Q (.str (Txt.join (Str.ofString "") (ys++[l6 j]).reverse)) _;rw[q];exact k _ (Same.add s' hp)
def Zj4:FnScope ["text","signs"] ["text","signs"] (Zf Zdb):=Am
def Zbl(T:Txt w K mg t):(a:) 1 t.iz t.iN ["text","signs"] Zjr:=by
 refine T.eQ.F.aR Zj4 (b:)
 ·obtain⟨x,y,rfl,hx,hz,k⟩:=h
  refine⟨_,(Zh (Zl (Ye (Zaq Y) (by rfl) T.k6 PyProof.Rows.boot_all (Za (Yt (ts:=["sign"]) (fv:=[("signs",1)]) (g:) rfl (Zsz (pv 0)) (ak:) (ag:) (ac:) (λ_ _ _ _ _ _=>Yq (Y3 Zs5 (pv 0) (pv 1) (ao:)))) Zb)))),?_⟩;refine⟨x,Y,hx,λD hD=>?_⟩;refine Zo5 (λi σ H6=>∃v,σ=[v,oS y]/\Same H H6/\H6 D=some (.lst (((mdL x y).take i).map V.bl))) (a0:) ?_ ?_
  ·rintro i c σ H6 hc ⟨v,rfl,s6,h6⟩
   have qu:i<x.cps.size:=(Array.getElem?_eq_some_iff.mp hc).1;have hm:(mdL x y)[i]?=some (Txt.contains y ⟨#[c]⟩):=by
    unfold mdL
    rw[Ah,Array.getElem?_toList,hc]
    rfl
   dsimp only[Zv,tYes];rw[if_pos rfl];refine⟨_,_,Y,Y,_,h6,by rw[Ab,Ai];exact Zt (by lia),_,Y,Same.add s6 hD,?_⟩;rw[Zc,Aw,hm,Aj];rfl
  ·rintro σ H6 ⟨v,rfl,s6,h6⟩
   have hl:(mdL x y).length=x.cps.size:=by unfold mdL;rw[Ab,Array.length_toList]
   rw[<-hl,take_length]at h6;exact⟨D,_,Y,SqL.of h6,k _ s6⟩
def Ot(Pv:Nat->St->Hp->Prop)(h0:Pv 0 σ H)
  (hs:∀(i:Nat)σ H,i<n->Pv i σ H->g (.int (lo+i)) σ H λσ2 H2=>tt σ2 H2 λb H3=>if b=true then tb σ2 H3 (Pv (i+1))else Pv (i+1) σ2 H3) (hd:∀σ H,Pv n σ H->R σ H):Jr (Itr lo n) g tt tb R σ H:=by
 refine⟨λi m σ H=>m=n-i/\i<=n/\Pv i σ H,⟨n,by simp,Az _,h0⟩,?_⟩;rintro i m σ H ⟨rfl,hi,p⟩;by_cases mr:i<n
 ·refine .inr ⟨mr,Pv (i+1),λσ' H' p'=>⟨n-(i+1),by lia,Y,mr,p'⟩,λx H' y=>?_⟩
  obtain⟨e,y⟩:=y;subst e y;exact hs i σ _ mr p
 ·have e:i=n:=by lia
  subst e;exact .inl ⟨An _,hd σ H p⟩
def Z8{xs:List V}(Pv:Nat->St->Hp->Prop)(h0:Pv 0 σ H)(hl:∀i σ H,i<=xs.length->Pv i σ H->SqL K H a xs)
  (hs:∀(i:Nat)x σ H,xs[i]?=some x->Pv i σ H->g x σ H λσ2 H2=>tt σ2 H2 λb H3=>if b=true then tb σ2 H3 (Pv (i+1))else Pv (i+1) σ2 H3) (hd:∀σ H,Pv xs.length σ H->R σ H):Jr (Itl K a) g tt tb R σ H:=by
 refine(K:);rintro i m σ H ⟨rfl,hi,p⟩;have q:=hl i σ H hi p;by_cases mr:i<xs.length
 ·refine .inr (R:)
  obtain⟨e,y⟩:=y;subst e;exact hs i x σ _ (y xs q) p
 ·have e:i=xs.length:=by lia
  subst e;exact .inl ⟨⟨xs,q,An _⟩,hd σ H p⟩
def Zah{xs:List V}(Pv:Nat->St->Hp->Prop)(h0:Pv 0 σ H)(hl:∀i σ H,i<=xs.length->Pv i σ H->SqT K H a xs)
  (hs:∀(i:Nat)x σ H,xs[i]?=some x->Pv i σ H->g x σ H λσ2 H2=>tt σ2 H2 λb H3=>if b=true then tb σ2 H3 (Pv (i+1))else Pv (i+1) σ2 H3) (hd:∀σ H,Pv xs.length σ H->R σ H):Jr (Itt K a) g tt tb R σ H:=by
 refine(K:);rintro i m σ H ⟨rfl,hi,p⟩;have q:=hl i σ H hi p;by_cases mr:i<xs.length
 ·refine .inr (R:)
  obtain⟨e,y⟩:=y;subst e;exact hs i x σ _ (y xs q) p
 ·have e:i=xs.length:=by lia
  subst e;exact .inl ⟨⟨xs,q,An _⟩,hd σ H p⟩
noncomputable def row3(ns:List Int)(k:Nat):List V:=[.int (ns.getD (3*k) 0),.int (ns.getD (3*k+1) 0),.int (ns.getD (3*k+2) 0)]
def Yz(H:Hp)(r:Addr)(ns:List Int):Prop:=∃ts:List Addr,H r=some (L:)/\ns.length=3*ts.length/\∀(k:Nat)(t:Addr),ts[k]?=some t->H t=some (.tup (row3 ns k))
def Yz.same(h:Yz H r ns)(s:Same H H'):Yz H' r ns:=by
 obtain⟨ts,h1,h2,h3⟩:=h;exact⟨ts,s _ _ h1,h2,λk t e=>s _ _ (h3 k t e)⟩
def Zqp:Sp:=λvs H Q _=>∃(a:Addr)(M:Lq)(n:Nat)(st sp:Int),vs=[.ref a,.int st,.int sp]/\H a=some (bx:)/\M.length=3*n/\1<=n/\n<=14/\(bq:)/\sp∈Oc/\
 ∀(p:Addr)(H':Hp),Same H H'->H p=none->Yz H' p (flat M st sp)->Q (.ref p) H'
def G9{t:Int}(h:t∈Oc):-(2^64)<t/\t<2^64:=by
 simp only[Oc,mem_cons,not_mem_nil,or_false]at h
 rcases h with rfl|rfl|rfl|rfl|rfl|rfl|rfl|rfl<;>decide
def Zs9{M:Lq}{i:Nat}(h:i<M.length):atI (M.map mV) (0+(i:Int))=some (mV M[i]):=by
 rw[Int.zero_add];exact Wm (by rw[Ah,Ac h];rfl)
def Uf:FnScope ["_law_mates","_law_start","_law_step","_law_flat","_law_at","_law_mate"] ["_law_mates","_law_start","_law_step"] (Zf Zf4):=Am
def Zmj(T:Txt w K mg t):(a:) 1 t.jy t.jO ["_law_mates","_law_start","_law_step"] Zqp:=by
 refine T.j4.F.aR Uf (b:)
 ·obtain⟨a,M,n,st,sp,rfl,ha,hM,h1,h2,hi,o5,k⟩:=h
  refine ⟨_,(Zg (psN 3 Uf.nd (Y5 Zb))
   (Zg (W9 PassesOwn.never rfl (Ws rfl T.bd (Za (Z3 T.aj (D:)) Zb)) (pgN 4 Uf.nd) (Zg (psN 5 Uf.nd (Zr Zs (pv 0) (pv 4) (o:)))
   (Zh (Z9 (PW.pt (Ux (Zn Gp (pv 5) U0 (Zm _)) (Vi (Zn J1 (pv 5) (pv 4) (Zm _))))) (Zh (Xg (Ji (pv 3) (Za (Zr Zs (pv 3) (pv 5) (o:)) Zb)))) (Zh (Xg (Ji (pv 3) (Za (Zj Z5 (Zj Y8 (pv 1) (Zj W5 (pv 2) (pv 4))) Zd) Zb))))))))
   (Zh (Zl (Yt (ts:=["_law_k"]) (fv:=[("_law_flat",3)]) (g:) rfl (Ws rfl T.bd (Za (Zj X1 (Z3 T.aj (D:)) Zd) Zb)) (ak:) (ag:) (ac:) (λ_ _ _ _ _ _=>Yq (Jj (Za (Zr (V9 K) (pv 1) (Zj W5 Zd (pv 0)) (o:)) (Za (Zr (V9 K) (pv 1) (Zj Y8 (Zj W5 Zd (pv 0)) Zd) (o:)) (Za (Zr (V9 K) (pv 1) (Zj Y8 (Zj W5 Zd (pv 0)) Zd) (o:)) Zb)))))))))),?_⟩;refine⟨Az _,λf hf=>?_⟩;have eL:(((M.map mV).length:Nat):Int).toNat=M.length:=by simp
  have ha1:(upd H f (.lst [])) a=some (bx:):=by rw[Ze (Zi ha hf)];exact ha
  dsimp only[Zv];show tSeq (tFor _ _ _) _ _ _ _;refine Z4 (λσ H1=>∃(v4 v5:Option V),σ=[oR a,oI st,oI sp,oR f,v4,v5]/\Same H H1/\H1 f=some (.lst ((flat M st sp).map V.int))) (ah:) ?_
  ·refine⟨a,_,Y,.inl (SqL.of ha1),_,Y,by lia,by rw[Ab];lia,?_⟩
   rw[eL];refine Qw (n:=M.length) (λi σ H1=>∃(v4 v5:Option V),σ=[oR a,oI st,oI sp,oR f,v4,v5]/\Same H H1/\H1 f=some (.lst (((List.range i).map λi=>nm st sp (rep M i)).map V.int))) ⟨none,none,Y,Same.new hf,Zc⟩ ?_ ?_
   ·rintro i σ H1 mr ⟨v4,v5,rfl,sm,sk⟩
    refine⟨SqL.of (sm _ _ ha),Zs9 mr,?_⟩;have m9:∀x:Int,x=nm st sp (rep M i)->(upd H1 f (.lst (((List.range i).map λi=>nm st sp (rep M i)).map V.int++[V.int x]))) f=some (.lst (((List.range (i+1)).map λi=>nm st sp (rep M i)).map V.int)):=λx hx=>by
     rw[Zc,hx,range_succ]
     simp
    have l9:(((List.range i).map λi=>nm st sp (rep M i)).map V.int).length<sizeLine:=by
     rw[Ab,Ab,length_range];exact Zt (by lia)
    refine⟨Y,?_⟩
    cases e:M[i] with
    |none=>
     have er:rep M i=i:=by unfold rep;rw[Ac mr,e]
     refine iteF (iteF ?_);refine⟨.inl ⟨Y,_,SqL.of sk⟩,.inl (G9 o5),(by show(0:Int)<10000;decide),f,_,_,rfl,rfl,sk,l9,?_⟩;exact⟨_,_,Y,Same.add sm hf,m9 _ (by rw[er];unfold nm;rw[Int.zero_add])⟩
    |some j=>
     have hMi:M[i]?=some (some j):=by rw[Ac mr,e]
     refine iteT ((ite2 (λg=>?_) (λg=>?_)))
     ·have g:j<i:=by have:=of_decide_eq_true g;lia
      have er:rep M i=j:=by unfold rep;rw[hMi];exact if_pos g
      have erj:rep M j=j:=by unfold rep;rw[(hi i j hMi).1];exact if_neg (by lia)
      have ej:atI (((List.range i).map λi=>nm st sp (rep M i)).map V.int) (j:Int)=some (V.int (nm st sp (rep M i))):=by
       refine Wm ?_;rw[Ah,Ah,getElem?_range g,er];show some (V.int (nm st sp (rep M j)))=_;rw[erj]
      refine⟨.inl ⟨Y,_,SqL.of sk⟩,SqL.of sk,ej,f,_,_,Y,Y,sk,l9,?_⟩;exact⟨_,_,Y,Same.add sm hf,m9 _ Y⟩
     ·have g:¬j<i:=by
       have:¬((j:Int)<0+(i:Int)):=λz=>g (decide_eq_true z);lia
      have er:rep M i=i:=by unfold rep;rw[hMi];exact if_neg g
      refine⟨.inl ⟨Y,_,SqL.of sk⟩,.inl (G9 o5),(by show(0:Int)<10000;decide),f,_,_,rfl,rfl,sk,l9,?_⟩;exact⟨_,_,Y,Same.add sm hf,m9 _ (by rw[er];unfold nm;rw[Int.zero_add])⟩
   ·rintro σ H1 ⟨v4,v5,rfl,sm,sk⟩
    exact mq _ _ ⟨v4,v5,Y,sm,sk⟩
  rintro σ H1 ⟨v4,v5,rfl,sm,sk⟩;refine⟨a,_,Y,.inl (SqL.of (sm _ _ ha)),⟨by decide,by decide⟩,_,Y,by rw[Ab];lia,by rw[Ab];lia,λD hD=>?_⟩;have eD:((((M.map mV).length:Nat):Int)/3).toNat=n:=by rw[Ab,hM];lia
  have hD0:H D=none:=sm.free hD;have hfD:f≠D:=λz=>by rw[z]at sk;rw[hD]at sk;cases sk
  have hlf:(flat M st sp).length=3*n:=by unfold flat;simp[hM]
  show Jr (Itr 0 ((((M.map mV).length:Nat):Int)/3).toNat) _ _ _ _ _ _;rw[eD];refine Ot (λi σ H2=>∃(ts:List Addr)(v:Option V),σ=[v,oR f]/\Same H H2/\H2 D=some (L:)/\ts.length=i/\H2 f=some (.lst ((flat M st sp).map V.int))/\∀(k:Nat)(t:Addr),ts[k]?=some t->H2 t=some (.tup (row3 (flat M st sp) k)))
   ⟨[],none,rfl,Same.add sm hD0,Zc,rfl,by rw[Ze hfD];exact sk,λk t z=>by simp at z⟩ ?_ ?_
  ·rintro i σ H2 mr ⟨ts,v,rfl,zr,g1,pf,g2,g3⟩
   have at':∀(c:Nat)(z:Int),c<3->z=3*(0+(i:Int))+c->atI ((flat M st sp).map V.int) z=some (V.int ((flat M st sp).getD (3*i+c) 0)):=λc z hc hz=>by
    have e:z=((3*i+c:Nat):Int):=by lia
    rw[e];exact Wm (getI (by lia))
   dsimp only[Zv,tYes];rw[if_pos rfl];refine⟨.inl ⟨by decide,by decide⟩,SqL.of g2,at' 0 _ (d:) (by simp),.inl ⟨by decide,by decide⟩,SqL.of g2,at' 1 _ (d:) Y,.inl ⟨by decide,by decide⟩,SqL.of g2,at' 2 _ (d:) Y,(szR Y),λq hq=>?_⟩;have hqD:q≠D:=λz=>by rw[z,g1]at hq;cases hq
   have hqf:q≠f:=λz=>by rw[z,g2]at hq;cases hq
   have xn:H q=none:=zr.free hq;refine⟨_,by rw[Ze (Ne.symm hqD)];exact g1,(by rw[Ab];exact Zt (by lia)),ts++[q],_,Y,Same.add (Same.add zr xn) hD0,?_,?_,?_,?_⟩
   ·rw[Zc];simp
   ·rw[Ae,At,pf]
   ·rw[Ze hfD,Ze (Ne.symm hqf)];exact g2
   ·intro k t z
    by_cases hk:k<ts.length
    ·rw[Av hk]at z
     have g:=g3 k t z;rw[Ze (λe=>by rw[e,g1]at g;cases g),Ze (Zi g hq)];exact g
    ·have hk2:k=ts.length:=by
      have:=(Aa z).1;rw[Ae,At]at this;lia
     subst hk2;have:t=q:=by simpa using z.symm
     subst this;rw[Ze hqD,Zc,pf];rfl
  ·rintro σ H2 ⟨ts,v,rfl,zr,g1,pf,g2,g3⟩
   exact k D H2 zr hD0 ⟨ts,g1,by rw[hlf,pf],g3⟩
noncomputable def isN(x:Str):Bool:=decide (1<=(x.length:Int))&&decide ((x.length:Int)<=8)&&(mdL x (Str.ofString "abcdefghijklmnopqrstuvwxyz")).all id
def Zju:Sp:=λvs H Q _=>∃x:Str,vs=[.str x]/\x.cps.all (·<128)=true/\x.cps.size<=900/\∀H',Same H H'->Q (.bl (isN x)) H'
noncomputable def wV:Str ⊕ Int->V
 | .inl x=>.str x
 | .inr i=>.int i
noncomputable def wS:Str ⊕ Int->Str
 | .inl x=>x
 | .inr i=>l6 i
def wOk:Str ⊕ Int->Prop
 | .inl _=>True
 | .inr i=>0<=i/\i<100000000000000000000000000000000000000000000000000000000000000
def J6{i:Int}(h0:0<=i)(h1:i<100000000000000000000000000000000000000000000000000000000000000):(l6 i).length<=62:=Y9 h0 h1
def wAsc:Str ⊕ Int->Prop
 | .inl x=>Asc x
 | .inr _=>True
def Zji(i:Int):Asc (l6 i):=Asc.num i
def Zrx{ws:List (Str ⊕ Int)}(h:∀x∈ws,wAsc x):Asc (Txt.join (M:) (ws.map wS)):=Asc.joinS (λc hc=>by have hc:c∈[32]:=hc;rw[Af hc];decide) λy hy=>by
 obtain⟨x,hx,rfl⟩:=mem_map.mp hy;have:=h x hx
 cases x with
 |inl z=>exact this
 |inr i=>exact Zji i
def Zhq:Sp:=λvs H Q _=>∃(a:Addr)(ws:List (Str ⊕ Int)),vs=[.ref a]/\H a=some (.lst (ws.map wV))/\ws.length<=900/\(∀x∈ws,wOk x)/\((ws.map wS).map (·.length)).sum+ws.length<=1048576/\∀H',Same H H'->Q (.str (Txt.join (M:) (ws.map wS))) H'
def Zj6:FnScope ["text"] ["text"] (Zf Zdg):=Am
def Zbn(T:Txt w K mg t):(a:) 2 t.iA t.iO ["text"] Zju:=by
 refine T.eT.F.aR Zj6 (b:)
 ·obtain⟨x,rfl,hx,hz,k⟩:=h
  refine⟨_,(Zh (Zl (Vz (Zgi Zbj Zbj Zd (Ye Gi (by rfl) T.aj PySem.boot_len (D:)) (Y7 (v:=.int 8) Y T.hV ⟨_,Y⟩)) (Vx (pcT (Zbl T) hr T.eQ (Za (pv 0) (Za (Y7 (v:=.str (Str.ofString "abcdefghijklmnopqrstuvwxyz")) rfl T.gn ⟨_,rfl⟩) Zb))))))),?_⟩;have hs:x.length=x.cps.size:=rfl;refine⟨x,Y,by rw[sizeLine_eq];lia,_,rfl,?_⟩;unfold isN at k;refine ite2 (λz=>?_) (λz=>?_)
  ·refine⟨_,Y,?_⟩
   refine ite2 (λz2=>?_) (λz2=>?_)
   ·refine⟨x,_,Y,hx,hz,λH' s'=>?_⟩
    have:=k H' s';rw[z,z2,Bool.true_and,Bool.true_and]at this;exact this
   ·have:=k H (Same.refl _)
    rw[Bool.eq_false_iff.mpr z2,Bool.and_false,Bool.false_and]at this;exact this
  ·refine⟨_,Y,iteF ?_⟩
   have:=k H (Same.refl _);rw[Bool.eq_false_iff.mpr z,Bool.false_and,Bool.false_and]at this;exact this
def Zhy:FnScope ["words"] ["words"] (Zf Za5):=Am
def Qn(T:Txt w K mg t):(a:) 2 t.gz t.gM ["words"] Zhq:=by
 refine T.bC.F.aR Zhy (b:)
 ·obtain⟨a,ws,rfl,ha,hl,hw,u4,k⟩:=h
  refine⟨_,(Zh (Zl (Wa PySem.F.plainAttrs_str PySem.F.slot_str_join PySem.F.type_str_join U5 Zk (Za (Yt (ts:=["word"]) (fv:=[]) (l:) rfl (Yk (pv 0)) (ar:) (ag:) (ac:) (λ_ _ _ _ _ _=>Yq (Zad (Xn (Ye (Zhj K) (by rfl) T.ba PyProof.Rows.boot_isinstance (Za (pv 0) (Za (U1 (v:=.ty "str") (by rfl) T.kI PySem.Pv.boot_str rfl) Zb)))) (pv 0) (pcT (Zbo T) hr T.eU (D:))))) Zb)))),?_⟩;refine⟨Y,a,Y,⟨_,SqL.of ha⟩,λD hD=>?_⟩;refine Z8 (xs:=ws.map wV) (λi σ H6=>∃v,σ=[v]/\Same H H6/\H6 D=some (.lst (((ws.take i).map wS).map V.str))) (a0:) ?_ ?_ ?_
  ·rintro i σ H6 _ ⟨v,rfl,s6,_⟩
   exact SqL.of (s6 _ _ ha)
  ·rintro i y σ H6 hy ⟨v,rfl,s6,h6⟩
   rw[Ah]at hy;obtain⟨x,hx,rfl⟩:=Option.map_eq_some_iff.mp hy;have qu:i<ws.length:=(Aa hx).1;have ok:=hw x (Au hx);have lt:(((ws.take i).map wS).map V.str).length<sizeLine:=by rw[Ab,Ab,Ai];exact Zt (by lia)
   dsimp only[Zv,tYes];rw[if_pos rfl]
   cases x with
   |inl y=>
    refine⟨_,"str",_,true,rfl,TyOf.str y,Ou,iteT ?_⟩;refine⟨_,h6,lt,_,Y,Same.add s6 hD,?_⟩;rw[Zc,Aw,hx,Aj,Aj];rfl
   |inr j=>
    refine⟨_,"str",_,false,rfl,TyOf.int j,(by rfl),iteF ?_⟩;refine⟨j,Y,ok.1,ok.2,λH7 s7=>?_⟩;refine⟨_,s7 _ _ h6,lt,_,Y,Same.add (s6.trans s7) hD,?_⟩;rw[Zc,Aw,hx,Aj,Aj];rfl
  ·rintro σ H6 ⟨v,rfl,s6,h6⟩
   rw[Ab,take_length]at h6;refine⟨_,D,ws.map wS,Y,Y,SqL.of h6,by decide,?_,k _ s6⟩;rw[Ab];exact u4
noncomputable def fgL:Str:=Str.ofString "0123456789"
noncomputable def J4(x:Str):Bool:=decide (1<=(x.length:Int))&&decide ((x.length:Int)<=61)&&(mdL x fgL).all id&&(decide (x=Str.ofString "0")||!Txt.startswith x (Str.ofString "0"))
def Zu4{c:Nat}(z:c<128)(h:Txt.contains fgL ⟨#[c]⟩=true):48<=c/\c<=57:=by
 have:∀c:Fin 128,Txt.contains fgL ⟨#[c.val]⟩=true->48<=c.val/\c.val<=57:=by decide+kernel
 exact this ⟨c,z⟩ h
noncomputable def numP(x:Str):Option Int:=if J4 x then intText? x else none
def Zo0{x:Str}(h:J4 x=true)(ha:Asc x):∃n,intText? x=some n:=by
 unfold J4 at h;rw[Bool.and_eq_true,Bool.and_eq_true,Bool.and_eq_true,decide_eq_true_eq,decide_eq_true_eq]at h;obtain⟨⟨⟨h1,h2⟩,h3⟩,_⟩:=h;have hd:NumText.AllDigits x.cps.toList:=λc hc=>by
  unfold mdL at h3
  rw[all_map,all_eq_true]at h3
  exact Zu4 (ha c hc) (h3 c hc)
 have hl:x.length=x.cps.toList.length:=by rw[Array.length_toList];rfl
 exact⟨_,intText_digits hd (λe=>by rw[e]at hl;rw[hl]at h1;exact absurd h1 (d:)) (by lia)⟩
def Zfd(EB:Addr):Sp:=λvs H Q E=>∃b:Bool,vs=[.bl b]/\(b=true->Q .non H)/\(b=false->E (.ref EB) none H)
def Zfe:Sp:=λvs H Q _=>∃x:Str,vs=[.str x]/\Asc x/\x.length<=900/\∀H',Same H H'->Q (.bl (J4 x)) H'
def Zfb(EB:Addr):Sp:=λvs H Q E=>∃x:Str,vs=[.str x]/\Asc x/\x.length<=900/\∀H',Same H H'->(∀n,numP x=some n->Q (.int n) H')/\(numP x=none->E (.ref EB) none H')
def Zjq(EB:Addr):Sp:=λvs H Q E=>∃x:Str,vs=[.str x]/\Asc x/\x.length<=900/\∀H',Same H H'->(isN x=true->Q (.str x) H')/\(isN x=false->E (.ref EB) none H')
def Zfp:FnScope ["right"] ["right"] (Zf Fl):=Am
def Yx(T:Txt w K mg t):(a:) 1 t.fz t.fQ ["right"] (Zfd t.ag):=by
 refine T.am.F.aX Zfp (b:)
 ·obtain⟨b,rfl,h1,h2⟩:=h
  refine⟨_,(Zo (Yo (Xi (Xn (pv 0))) (Zo (Yl T.kl FBV Y T.cM Y (bv:))) Ym)),?_⟩
  cases b with
  |true=>exact iteF (h1 Y)
  |false=>exact iteT ⟨by decide,h2 Y⟩
def Zfq:FnScope ["text"] ["text"] (Zf Fo):=Am
def Zgq(T:Txt w K mg t):(a:) 2 t.fi t.fK ["text"] Zfe:=by
 refine T.f6.F.aR Zfq (b:)
 ·obtain⟨x,rfl,hx,hz,k⟩:=h
  refine ⟨_,(Zg (Z9 (PW.pt (Je (Xi (Zol Zbj Zbj Zd (Ye Gi (by rfl) T.aj PySem.boot_len (D:)) (Y7 (v:=.int 61) Y T.ic ⟨_,Y⟩))) (Wj (Xi (Xn (pcT (Zbl T) hr T.eQ (Za (pv 0) (Za (Y7 (v:=.str (Str.ofString "0123456789")) rfl T.kL ⟨_,rfl⟩) Zb)))))))) (Zh (Zl Wh)) Zy)
   (Zh (Zl (Zun (Y3 Z6 (pv 0) Zk (Zm _)) (Vx (Zl5 (Wa PySem.F.plainAttrs_str PySem.F.slot_str_startswith PySem.F.type_str_startswith Kd (pv 0) (bv:)))))))),?_⟩;have hl:x.length<=sizeLine:=by rw[sizeLine_eq];lia
  refine Z4 (λσ H'=>σ=[oS x]/\Same H H'/\(decide (1<=(x.length:Int))&&decide ((x.length:Int)<=61)&&(mdL x fgL).all id)=true) (ah:) ?_
  ·have R:∀H',Same H H'->(decide (1<=(x.length:Int))&&decide ((x.length:Int)<=61)&&(mdL x fgL).all id)=false->Q (.bl false) H':=λH' s' e=>by
    have:=k H' s';unfold J4 at this;rw[e,Bool.false_and]at this;exact this
   refine⟨x,Y,hl,_,Y,?_⟩;refine ite2 (λz=>?_) (λz=>?_)
   ·refine ite2 (λz2=>?_) (λz2=>?_)
    ·exact iteT (R _ (Same.refl _) (by rw[show decide ((x.length:Int)<=61)=false by simpa using z2,Bool.and_false,Bool.false_and]))
    ·have z2:decide ((x.length:Int)<=61)=true:=by simpa using z2
     refine⟨x,_,Y,hx.all,hz,λH' s'=>?_⟩;refine ?_;refine ite2 (λe=>R _ s' (by rw[show(mdL x fgL).all id=false from by have e:(!(mdL x fgL).all id)=true:=e;revert e;cases(mdL x fgL).all id<;>decide,Bool.and_false])) (λe=>mq _ _ ⟨rfl,s',by rw[z,z2,show(mdL x fgL).all id=true from by have e:¬(!(mdL x fgL).all id)=true:=e;revert e;cases(mdL x fgL).all id<;>decide];rfl⟩)
   ·exact iteT (iteT (R _ (Same.refl _) (by rw[Bool.eq_false_iff.mpr z,Bool.false_and,Bool.false_and])))
  rintro σ H1 ⟨rfl,s1,e1⟩;have kk:=k H1 s1;unfold J4 at kk;rw[e1,Bool.true_and]at kk;refine⟨Y,_,Y,?_⟩;have ed:decide (V.str x=V.str (Str.ofString "0"))=decide (x=Str.ofString "0"):=decide_eq_decide.mpr ⟨λe=>by injection e,λe=>by rw[e]⟩;refine ite2 (λz=>?_) (λz=>?_)
  ·rw[ed]at z
   rw[z,Bool.true_or]at kk;exact kk
  ·rw[ed]at z
   rw[Bool.eq_false_iff.mpr z,Bool.false_or]at kk;exact⟨Y,_,_,Y,Y,_,Y,kk⟩
def Zfo:FnScope ["word"] ["word"] (Zf Fj):=Am
def Xr(T:Txt w K mg t):(a:) 3 t.fA t.fR ["word"] (Zfb t.ag):=by
 refine T.au.F.aX Zfo (b:)
 ·obtain⟨x,rfl,hx,hz,k⟩:=h
  refine ⟨_,(Zp (Z2 (pxT (Yx T) hr T.am (Za (pcT (Zgq T) hr T.f6 (D:)) Zb)))
   (Zo (Zu (Zl (Ys Znu (by rfl) T.lK PySem.Pv.boot_int (D:)))))),?_⟩;refine⟨x,Y,hx,hz,λH1 s1=>?_⟩;obtain⟨k1,k2⟩:=k H1 s1;refine⟨J4 x,Y,λe=>?_,λe=>k2 (by unfold numP;rw[if_neg (by rw[e];decide)])⟩;obtain⟨n,hn⟩:=Zo0 e hx;refine⟨x,n,Y,hn,?_,k1 n (by unfold numP;rw[if_pos e];exact hn)⟩;unfold J4 at e;rw[Bool.and_eq_true,Bool.and_eq_true,Bool.and_eq_true,decide_eq_true_eq,decide_eq_true_eq]at e;lia
def Zj3:FnScope ["word"] ["word"] (Zf Zda):=Am
def Q9(T:Txt w K mg t):(a:) 3 t.iC t.iQ ["word"] (Zjq t.ag):=by
 refine T.bZ.F.aX Zj3 (b:)
 ·obtain⟨x,rfl,hx,hz,k⟩:=h
  refine ⟨_,(Zp (Z2 (pxT (Yx T) hr T.am (Za (pcT (Zbn T) hr T.eT (D:)) Zb)))
   (Zo (Zu (Zl (pv 0))))),?_⟩;refine⟨x,Y,hx.all,hz,λH1 s1=>?_⟩;obtain⟨k1,k2⟩:=k H1 s1;exact⟨isN x,Y,λe=>k1 e,k2⟩
noncomputable def o6(x:Str):List Str:=Txt.split x (M:)
theorem Zmw{c d:Nat}:∀{l:List (List Nat)}{a:List Nat},a∈l->d∈a->d∈oh c l
 |[b],a,h,hd=>by rw[Af h]at hd;exact hd
 |b::b'::r,a,h,hd=>by
  show d∈b++c::oh c (b'::r)
  rcases Ar h with rfl|h
  ·exact mem_append.mpr (.inl hd)
  ·exact mem_append.mpr (.inr (mem_cons_of_mem _ (Zmw h hd)))
theorem Zmx{c:Nat}:∀{l:List (List Nat)}{a:List Nat},a∈l->a.length<=(oh c l).length
 |[b],a,h=>by rw[Af h];exact An _
 |b::b'::r,a,h=>by
  show a.length<=(b++c::oh c (b'::r)).length;rw[Ae,length_cons]
  rcases Ar h with rfl|h
  ·lia
  ·have:=Zmx (c:=c) h
   lia
def Zn9(x:Str)(c:Nat):x.cps.toList=oh c ((Txt.split x ⟨#[c]⟩).map λx=>x.cps.toList):=by rw[<-Jk,StrLaws.join_split]
def Od{x p:Str}{c:Nat}(hx:Asc x)(h:p∈Txt.split x ⟨#[c]⟩):Asc p/\p.length<=x.length:=by
 have e:=Zn9 x c;have hm:p.cps.toList∈(Txt.split x ⟨#[c]⟩).map λx=>x.cps.toList:=mem_map.mpr ⟨p,h,rfl⟩;refine⟨λd hd=>hx d (by rw[e];exact Zmw hm hd),?_⟩;have:=Zmx (c:=c) hm;rw[<-e,Array.length_toList,Array.length_toList]at this;exact this
def Zik{x p:Str}(hx:Asc x)(h:p∈o6 x):Asc p/\p.length<=x.length:=Od hx h
noncomputable def cloP(x:Str):Option (Int×Int×Int):=match o6 x with
 |[_,a,b,c]=>match numP a,numP b,numP c with
  |some i,some j,some k=>some (i,j,k)
  |_,_,_=>none
 |_=>none
def Zhw(EB:Addr):Sp:=λvs H Q E=>∃x:Str,vs=[.str x]/\Asc x/\x.length<=900/\(∀i j k,cloP x=some (i,j,k)->∀(l:Addr)(H':Hp),Same H H'->H l=none->H' l=some (.tup [.int i,.int j,.int k])->Q (.ref l) H')/\(cloP x=none->∀H',Same H H'->E (.ref EB) none H')
noncomputable def Gr(l:List Str):Option (List Int):=if l.all (λx=>(numP x).isSome)then some (l.map λx=>(numP x).getD 0)else none
def cut1(x:Str)(l:List Str):cutV ((x::l).map V.str) (some 1) none=l.map V.str:=by
 unfold cutV;rw[show(some (1:Int))=some ((1:Nat):Int)from rfl,HT.sIx_nat];show List.take (((x::l).map V.str).length-min 1 _) (List.drop (min 1 _) _)=_;rw[Ab,length_cons,Nat.min_eq_left (by lia)];show List.take (l.length+1-1) (l.map V.str)=_;rw[Nat.add_sub_cancel,<-Ab (f:=V.str),take_length]
def Zc1(EB:Addr):Sp:=λvs H Q E=>∃(a:Addr)(ws:List Str),vs=[.ref a]/\H a=some (.lst (ws.map V.str))/\ws.length<=900/\(∀x∈ws,Asc x/\x.length<=900)/\(∀x y r ns,ws=x::y::r->isN x=true->Gr (y::r)=some ns->∀(l m:Addr)(H':Hp),Same H H'->H l=none->H m=none->H' l=some (.tup [.str x,.ref m])->H' m=some (.lst (T:))->Q (.ref l) H')/\((∀x y r,ws=x::y::r->isN x=true->Gr (y::r)=none)->∀H',Same H H'->E (.ref EB) none H')
def Ff:FnScope ["row","words"] ["row"] (Zf Zbb):=Am
def Zia(T:Txt w K mg t):(a:) 4 t.gD t.gR ["row"] (Zhw t.ag):=by
 refine T.cp.F.okLA Ff (λvs H Q E h=>?_) (b:)
 ·obtain⟨x,rfl,_⟩:=h
  rfl
 ·obtain⟨x,rfl,hx,hz,k1,k2⟩:=h
  refine ⟨_,(λ_ L=>(Z0 (Yp L.l (Zu (psN 1 Ff.nd (bo:))))
   (Z0 (Yp L.l (Z2 (pxT (Yx T) hr T.am (Za (Y3 Z6 (Z3 T.aj (P:)) Zd (Zm _)) Zb))))
   (Xd (Jt (Qg (Y2 (Jn L (pxT (Xr T) hr T.au (Za (Zr Zs (pv 1) Zd (o:)) Zb))) (Y2 (Jn L (pxT (Xr T) hr T.au (Za (Zr Zs (pv 1) Zd (o:)) Zb))) (Y2 (Jn L (pxT (Xr T) hr T.au (Za (Zr Zs (pv 1) Zd (o:)) Zb))) (V0 Zb)))))))))),?_⟩;refine⟨Y,x,Str.ofString " ",rfl,rfl,rfl,by rw[sizeLine_eq];lia,λl hl=>?_⟩;have s1:Same H (upd H l (.lst ((Txt.split x (M:)).map V.str))):=Same.new hl;have h1:(upd H l (.lst ((Txt.split x (M:)).map V.str))) l=some (.lst ((Txt.split x (M:)).map V.str)):=Zc;generalize upd H l (.lst ((Txt.split x (Str.ofString " ")).map V.str))=H1 at s1 h1⊢;replace h1:H1 l=some (b2:):=h1;have xg:∀p∈o6 x,Asc p/\p.length<=900:=λp hp=>⟨(Zik hx hp).1,Nat.le_trans (Zik hx hp).2 hz⟩;refine⟨l,_,Y,.inl (SqL.of h1),Y,_,Y,λe=>?_,λe=>?_⟩
  ·have e:(o6 x).length=4:=by
    have e:=of_decide_eq_true e;rw[Ab]at e
    injection e with e
    lia
   obtain⟨a0,a1,a2,a3,ew⟩:∃a0 a1 a2 a3,o6 x=[a0,a1,a2,a3]:=by
    match o6 x,e with
    |[a0,a1,a2,a3],_=>exact⟨_,_,_,_,Y⟩
   rw[ew]at h1 xg;have p1:=xg a1 (by simp);have p2:=xg a2 (by simp);have p3:=xg a3 (by simp)
   have no:(numP a1=none\/numP a2=none\/numP a3=none)->cloP x=none:=λz=>by
    unfold cloP;rw[ew]
    rcases z with z|z|z
    ·dsimp only;rw[z]
    ·dsimp only;rw[z];cases numP a1<;>rfl
    ·dsimp only;rw[z];cases numP a1<;>cases numP a2<;>rfl
   refine⟨SqL.of h1,(show atI [V.str a0,V.str a1,V.str a2,V.str a3] 1=some (V.str a1)from Y),a1,Y,p1.1,p1.2,λH2 s2=>⟨λi hi=>?_,λz=>k2 (no (.inl z)) _ (s1.trans s2)⟩⟩;refine⟨SqL.of (s2 _ _ h1),(show atI [V.str a0,V.str a1,V.str a2,V.str a3] 2=some (V.str a2)from Y),a2,Y,p2.1,p2.2,λH3 s3=>⟨λj hj=>?_,λz=>k2 (no (.inr (.inl z))) _ (s1.trans (s2.trans s3))⟩⟩;refine⟨SqL.of (s3 _ _ (s2 _ _ h1)),(show atI [V.str a0,V.str a1,V.str a2,V.str a3] 3=some (V.str a3)from Y),a3,Y,p3.1,p3.2,λH4 s4=>⟨λm hm=>?_,λz=>k2 (no (.inr (.inr z))) _ (s1.trans (s2.trans (s3.trans s4)))⟩⟩;have zx:=s1.trans (s2.trans (s3.trans s4));refine⟨(szR Y),λq hq=>?_⟩;exact k1 i j m (by unfold cloP;rw[ew];dsimp only;rw[hi,hj,hm]) q _ (zx.trans (Same.new hq)) (zx.free hq) Zc
  ·have e:(o6 x).length≠4:=λz=>by
    have e:=of_decide_eq_false e;exact e (by rw[Ab,z];rfl)
   refine k2 ?_ _ s1;unfold cloP
   match o6 x,e with
   |[],_=>rfl
   |[_],_=>rfl
   |[_,_],_=>rfl
   |[_,_,_],_=>rfl
   |[_,_,_,_],e=>exact absurd Y e
   |_::_::_::_::_::_,_=>rfl
def Zlm:FnScope ["words"] ["words"] (Zf Zfy):=Am
def Zme(T:Txt w K mg t):(a:) 4 t.d0 t.jL ["words"] (Zc1 t.ag):=by
 refine T.jY.F.okLA Zlm (λvs H Q E h=>?_) (b:)
 ·obtain⟨a,ws,rfl,_⟩:=h
  rfl
 ·obtain⟨a,ws,rfl,ha,hwl,hw,k1,k2⟩:=h
  refine ⟨_,(λ_ L=>(Z0 (Yp L.l (Z2 (pxT (Yx T) hr T.am (Za (Y3 Zev (Z3 T.aj (D:)) Zd (Zm _)) Zb))))
   (Xd (Jt (Qg (Y2 (Jn L (pxT (Q9 T) hr T.bZ (Za (Zr Zs (pv 0) Zd (o:)) Zb))) (Y2 (Zul L (Zot (ts:=["word"]) (fv:=[]) (l:) rfl (Yk (Wx Jd (pv 0) (W6 Zd) Jw)) (ar:) (ag:) (ac:) (λ_ _ _ _ _ _=>Oo (On (Xr T) (ai:) rfl T.au.g T.au.F.kp T.au.b .nil (D:))))) (V0 Zb)))))))),?_⟩;refine⟨a,_,Y,.inl (SqL.of ha),_,Y,λe=>?_,λe=>?_⟩
  ·have e:2<=ws.length:=by
    have e:=of_decide_eq_true e;rw[Ab]at e;lia
   obtain⟨x,y,r,rfl⟩:∃x y r,ws=x::y::r:=by
    match ws,e with
    |x::y::r,_=>exact⟨_,_,_,Y⟩
   have p1:=hw x mem_cons_self;refine⟨SqL.of ha,(show atI (List.map V.str (x::y::r)) ((0:Nat):Int)=some (V.str x)from Xk (i:=0) Y),x,Y,p1.1,p1.2,λH2 s2=>⟨λz=>?_,λz=>k2 (λx' y' r' e=>by injection e with e;rw[<-e,z];exact λq=>nomatch q) _ s2⟩⟩;refine⟨_,Y,a,_,Y,SqL.of (s2 _ _ ha),λc hc=>?_⟩;rw[cut1];have s3:Same H2 (upd H2 c (.lst ((y::r).map V.str))):=Same.new hc;have h3:(upd H2 c (.lst ((y::r).map V.str))) c=some (.lst ((y::r).map V.str)):=Zc;generalize upd H2 c (.lst ((y::r).map V.str))=H3 at s3 h3⊢;have pz:=s2.trans s3;refine⟨c,Y,⟨_,SqL.of h3⟩,λD hD=>?_⟩;have l9:(y::r).length<=900:=by rw[length_cons]at hwl;lia
   have u7:∀q∈y::r,Asc q/\q.length<=900:=λq hq=>hw q (mem_cons_of_mem _ hq);refine Z8 (xs:=(y::r).map V.str) (λi σ H6=>∃v,σ=[v]/\Same H3 H6/\H6 D=some (.lst ((((y::r).take i).map λx=>(numP x).getD 0).map V.int))/\∀q∈(y::r).take i,(numP q).isSome=true) ⟨none,rfl,Same.new hD,Zc,λq hq=>by cases hq⟩ ?_ ?_ ?_
   ·rintro i σ H6 _ ⟨v,rfl,s6,_⟩
    exact SqL.of (s6 _ _ h3)
   ·rintro i q σ H6 hq ⟨v,rfl,s6,h6,hs⟩
    obtain⟨p,hp,rfl⟩:=Yi hq;have qu:=(Aa hp).1;have pp:=u7 p (Au hp);dsimp only[Zv,tYes];rw[if_pos rfl];refine⟨p,Y,pp.1,pp.2,λH7 s7=>⟨λn hn=>?_,λhn=>k2 (λx' y' r' e _=>?_) _ (pz.trans (s6.trans s7))⟩⟩
    ·have et:(y::r).take (i+1)=(y::r).take i++[p]:=by rw[Aw,hp];rfl
     refine⟨_,s7 _ _ h6,by rw[Ab,Ab,Ai];exact Zt (by lia),_,Y,Same.add (s6.trans s7) hD,?_,λq hq=>?_⟩
     ·rw[Zc,et,Aj,Aj]
      show _=some (HO.lst (_++[V.int ((numP p).getD 0)]));rw[hn];rfl
     ·rw[et]at hq
      rcases mem_append.mp hq with z|z
      ·exact hs q z
      ·rw[Af z,hn];rfl
    ·injection e with _ e
     rw[<-e];unfold Gr;rw[if_neg];intro z;have:=all_eq_true.mp z p (Au hp);rw[hn]at this;cases this
   ·rintro σ H6 ⟨v,rfl,s6,h6,hs⟩
    rw[Ab,take_length]at h6 hs;refine⟨(szR Y),λq hq=>?_⟩;have ud:=pz.trans s6;exact k1 x y r _ Y z (by unfold Gr;rw[if_pos (all_eq_true.mpr hs)]) q D _ (ud.trans (Same.new hq)) (ud.free hq) (pz.free hD) Zc (Same.new hq _ _ h6)
  ·have e:=of_decide_eq_false e
   exact k2 (λx y r z=>absurd (by rw[z];show(2:Int)<=_;rw[Ab,length_cons,length_cons];lia) e) _ (Same.refl _)
noncomputable def prP(c:Nat)(x:Str):Option (Int×Int):=match Txt.split x ⟨#[c]⟩ with
 |[a,b]=>match numP a,numP b with
  |some i,some j=>some (i,j)
  |_,_=>none
 |_=>none
def Zsk(EB:Addr):Sp:=λvs H Q E=>∃(x:Str)(c:Nat),vs=[.str x,.str ⟨#[c]⟩]/\Asc x/\x.length<=900/\(∀i j,prP c x=some (i,j)->∀(l:Addr)(H':Hp),Same H H'->H l=none->H' l=some (.tup [.int i,.int j])->Q (.ref l) H')/\(prP c x=none->∀H',Same H H'->E (.ref EB) none H')
noncomputable def weiP(ws:List Str):Option (Int×Int×Int):=match ws with
 |[s,f]=>match prP 47 f,numP s with
  |some (i,j),some n=>some (n,i,j)
  |_,_=>none
 |_=>none
def Fa(EB:Addr):Sp:=λvs H Q E=>∃(a:Addr)(ws:List Str),vs=[.ref a]/\H a=some (.lst (ws.map V.str))/\(∀x∈ws,Asc x/\x.length<=900)/\(∀n i j,weiP ws=some (n,i,j)->∀(l:Addr)(H':Hp),Same H H'->H l=none->H' l=some (.tup [.int n,.int i,.int j])->Q (.ref l) H')/\(weiP ws=none->∀H',Same H H'->E (.ref EB) none H')
noncomputable def trnP(ws:List Str):Option (Int×Str):=match ws with
 |[s,w]=>if w∈(bd:) then(match numP s with|some n=>some (n,w)|none=>none)else none
 |_=>none
def Zax(EB:Addr):Sp:=λvs H Q E=>∃(a:Addr)(ws:List Str),vs=[.ref a]/\H a=some (.lst (ws.map V.str))/\(∀x∈ws,Asc x/\x.length<=900)/\(∀n w,trnP ws=some (n,w)->∀(l:Addr)(H':Hp),Same H H'->H l=none->H' l=some (.tup [.int n,.str w])->Q (.ref l) H')/\(trnP ws=none->∀H',Same H H'->E (.ref EB) none H')
def Q0:FnScope ["word","sign","parts"] ["word","sign"] (Zf Vq):=Am
def Q4(T:Txt w K mg t):(a:) 4 t.bT t.bX ["word","sign"] (Zsk t.ag):=by
 refine T.aD.F.okLA Q0 (λvs H Q E h=>?_) (b:)
 ·obtain⟨x,c,rfl,_⟩:=h
  rfl
 ·obtain⟨x,c,rfl,hx,hz,k1,k2⟩:=h
  refine ⟨_,(λ_ L=>(Z0 (Yp L.l (Zu (psN 2 Q0.nd (Wa PySem.F.plainAttrs_str PySem.F.slot_str_split PySem.F.type_str_split Qi (pv 0) (P:)))))
   (Z0 (Yp L.l (Z2 (pxT (Yx T) hr T.am (Za (Y3 Z6 (Z3 T.aj (Z:)) Zd (Zm _)) Zb))))
   (Xd (Jt (Qg (Y2 (Jn L (pxT (Xr T) hr T.au (Za (Zr Zs (pv 2) Zd (o:)) Zb))) (Y2 (Jn L (pxT (Xr T) hr T.au (Za (Zr Zs (pv 2) Zd (o:)) Zb))) (V0 Zb))))))))),?_⟩;refine⟨Y,x,⟨#[c]⟩,Y,Y,Y,by rw[sizeLine_eq];lia,λl hl=>?_⟩;have xg:∀p∈Txt.split x ⟨#[c]⟩,Asc p/\p.length<=900:=λp hp=>⟨(Od hx hp).1,Nat.le_trans (Od hx hp).2 hz⟩;have s1:Same H (upd H l (.lst ((Txt.split x ⟨#[c]⟩).map V.str))):=Same.new hl;have h1:(upd H l (.lst ((Txt.split x ⟨#[c]⟩).map V.str))) l=some (.lst ((Txt.split x ⟨#[c]⟩).map V.str)):=Zc;generalize upd H l (.lst ((Txt.split x ⟨#[c]⟩).map V.str))=H1 at s1 h1⊢;refine⟨l,_,Y,.inl (SqL.of h1),Y,_,Y,λe=>?_,λe=>?_⟩
  ·have e:(Txt.split x ⟨#[c]⟩).length=2:=by
    have e:=of_decide_eq_true e;rw[Ab]at e
    injection e with e
    lia
   obtain⟨a1,a2,ew⟩:∃a1 a2,Txt.split x ⟨#[c]⟩=[a1,a2]:=by
    match Txt.split x ⟨#[c]⟩,e with
    |[a1,a2],_=>exact⟨_,_,Y⟩
   rw[ew]at h1 xg;have p1:=xg a1 (by simp);have p2:=xg a2 (by simp)
   have no:(numP a1=none\/numP a2=none)->prP c x=none:=λz=>by
    unfold prP;rw[ew]
    rcases z with z|z
    ·dsimp only;rw[z]
    ·dsimp only;rw[z];cases numP a1<;>rfl
   refine⟨SqL.of h1,(show atI [V.str a1,V.str a2] 0=some (V.str a1)from Y),a1,Y,p1.1,p1.2,λH2 s2=>⟨λi hi=>?_,λz=>k2 (no (.inl z)) _ (s1.trans s2)⟩⟩;refine⟨SqL.of (s2 _ _ h1),(show atI [V.str a1,V.str a2] 1=some (V.str a2)from Y),a2,Y,p2.1,p2.2,λH3 s3=>⟨λj hj=>?_,λz=>k2 (no (.inr z)) _ (s1.trans (s2.trans s3))⟩⟩;have pz:=s1.trans (s2.trans s3);refine⟨(szR Y),λq hq=>?_⟩;exact k1 i j (by unfold prP;rw[ew];dsimp only;rw[hi,hj]) q _ (pz.trans (Same.new hq)) (pz.free hq) Zc
  ·have e:(Txt.split x ⟨#[c]⟩).length≠2:=λz=>by
    have e:=of_decide_eq_false e;exact e (by rw[Ab,z];rfl)
   refine k2 ?_ _ s1;unfold prP
   match Txt.split x ⟨#[c]⟩,e with
   |[],_=>rfl
   |[_],_=>rfl
   |[_,_],e=>exact absurd Y e
   |_::_::_::_,_=>rfl
def Uo:FnScope ["words","top","bottom"] ["words"] (Zf Za3):=Am
def Zh5(T:Txt w K mg t):(a:) 5 t.cg t.gQ ["words"] (Fa t.ag):=by
 refine T.g9.F.okLA Uo (λvs H Q E h=>?_) (b:)
 ·obtain⟨a,ws,rfl,_⟩:=h
  rfl
 ·obtain⟨a,ws,rfl,ha,hw,k1,k2⟩:=h
  refine ⟨_,(λ_ L=>(Z0 (Yp L.l (Z2 (pxT (Yx T) hr T.am (Za (Y3 Z6 (Z3 T.aj (D:)) Zd (Zm _)) Zb))))
   (Z0 (Yp L.l (Ziw (pxT (Q4 T) hr T.aD (Za (Zr Zs (pv 0) Zd (o:)) (bv:))) (Qu rfl (Yd (pgN 1 Uo.nd) (Yd (pgN 2 Uo.nd) Wk)))))
   (Xd (Jt (Qg (Y2 (Jn L (pxT (Xr T) hr T.au (Za (Zr Zs (pv 0) Zd (o:)) Zb))) (Y2 (Zbh (pv 1)) (Y2 (Zbh (pv 2)) (V0 Zb)))))))))),?_⟩;refine⟨a,_,Y,.inl (SqL.of ha),Y,_,Y,λe=>?_,λe=>?_⟩
  ·have e:ws.length=2:=by
    have e:=of_decide_eq_true e;rw[Ab]at e
    injection e with e
    lia
   obtain⟨x,y,rfl⟩:∃x y,ws=[x,y]:=by
    match ws,e with
    |[x,y],_=>exact⟨_,_,Y⟩
   have p1:=hw x (by simp);have p2:=hw y (by simp);refine⟨SqL.of ha,(show atI [V.str x,V.str y] 1=some (V.str y)from Y),y,47,Y,p2.1,p2.2,λi j hp l H2 s2 hl h2=>?_,λz H2 s2=>k2 (by unfold weiP;dsimp only;rw[z]) _ s2⟩;refine⟨l,_,Y,SqT.of h2,Y,_,_,Y,_,_,Y,Y,?_⟩;refine⟨SqL.of (s2 _ _ ha),(show atI [V.str x,V.str y] 0=some (V.str x)from Y),x,Y,p1.1,p1.2,λH3 s3=>⟨λn hn=>?_,λz=>k2 (by unfold weiP;dsimp only;rw[hp,z]) _ (s2.trans s3)⟩⟩;have pz:=s2.trans s3;refine⟨(szR Y),λq hq=>?_⟩;exact k1 n i j (by unfold weiP;dsimp only;rw[hp,hn]) q _ (pz.trans (Same.new hq)) (pz.free hq) Zc
  ·have e:ws.length≠2:=λz=>by
    have e:=of_decide_eq_false e;exact e (by rw[Ab,z];rfl)
   refine k2 ?_ _ (Same.refl _);unfold weiP
   match ws,e with
   |[],_=>rfl
   |[_],_=>rfl
   |[_,_],e=>exact absurd Y e
   |_::_::_::_,_=>rfl
def Zj0:FnScope ["words"] ["words"] (Zf Zc7):=Am
def Zka(T:Txt w K mg t):(a:) 4 t.cX t.iS ["words"] (Zax t.ag):=by
 refine T.i6.F.okLA Zj0 (λvs H Q E h=>?_) (b:)
 ·obtain⟨a,ws,rfl,_⟩:=h
  rfl
 ·obtain⟨a,ws,rfl,ha,hw,k1,k2⟩:=h
  refine ⟨_,(λ_ L=>(Z0 (Yp L.l (Z2 (pxT (Yx T) hr T.am (Za (Vz (Y3 Z6 (Z3 T.aj (D:)) Zd (Zm _)) (Vx (Y3 K3 (Zr Zs (pv 0) Zd (o:)) (Y7 (v:=.ref t.je) Y T.lB Y) (ao:)))) Zb))))
   (Xd (Jt (Qg (Y2 (Jn L (pxT (Xr T) hr T.au (Za (Zr Zs (pv 0) Zd (o:)) Zb))) (Y2 (Zbh (Zr Zs (pv 0) Zd (o:))) (V0 Zb)))))))),?_⟩;refine⟨a,_,Y,.inl (SqL.of ha),Y,_,Y,?_⟩;refine ite2 (λe=>?_) (λe=>⟨false,Y,(W:),λ_=>?_⟩)
  ·have e:ws.length=2:=by
    have e:=of_decide_eq_true e;rw[Ab]at e
    injection e with e
    lia
   obtain⟨x,y,rfl⟩:∃x y,ws=[x,y]:=by
    match ws,e with
    |[x,y],_=>exact⟨_,_,Y⟩
   have p1:=hw x (by simp);refine⟨SqL.of ha,(show atI [V.str x,V.str y] 1=some (V.str y)from Y),t.je,_,Y,.inr (T.lC H),Y,Gf _,_,Y,λz=>?_,λz=>?_⟩
   ·have z:y∈(bd:):=by
     have z:inV (.str y) ((bd:).map V.str)=true:=z;rw[Ua]at z;exact of_decide_eq_true z
    refine⟨SqL.of ha,(show atI [V.str x,V.str y] 0=some (V.str x)from Y),x,Y,p1.1,p1.2,λH3 s3=>⟨λn hn=>?_,λz'=>k2 (by unfold trnP;dsimp only;rw[if_pos z,z']) _ s3⟩⟩;refine⟨SqL.of (s3 _ _ ha),(show atI [V.str x,V.str y] 1=some (V.str y)from Y),(szR Y),λq hq=>?_⟩;exact k1 n y (by unfold trnP;dsimp only;rw[if_pos z,hn]) q _ (s3.trans (Same.new hq)) (s3.free hq) Zc
   ·have z:y∉(bd:):=by
     have z:inV (.str y) ((bd:).map V.str)=false:=z;rw[Ua]at z;exact of_decide_eq_false z
    exact k2 (by unfold trnP;dsimp only;rw[if_neg z]) _ (Same.refl _)
  ·have e:ws.length≠2:=λz=>e (decide_eq_true (by rw[Ab,z];rfl))
   refine k2 ?_ _ (Same.refl _);unfold trnP
   match ws,e with
   |[],_=>rfl
   |[_],_=>rfl
   |[_,_],e=>exact absurd Y e
   |_::_::_::_,_=>rfl
def at4(h0:0<=i)(h1:i<4):∃sh:Int,atI [V.int 0,V.int 0,V.int 1,V.int 3] i=some (V.int sh):=by
 obtain rfl|rfl|rfl|rfl:i=0\/i=1\/i=2\/i=3:=by lia
 all_goals exact⟨_,Y⟩
def at8(h0:0<=i)(h1:i<8):∃sp:Int,sp∈Oc/\atI [V.int 1,V.int 3,V.int 7,V.int 9,V.int 37,V.int 1009,V.int 3333,V.int 9999] i=some (V.int sp):=by
 obtain rfl|rfl|rfl|rfl|rfl|rfl|rfl|rfl:i=0\/i=1\/i=2\/i=3\/i=4\/i=5\/i=6\/i=7:=by lia
 all_goals exact⟨_,by decide,Y⟩
def Zqm(K:W.Frag):Sp:=λvs H Q _=>∃(a:Addr)(ns:List Int),vs=[.ref a]/\SqL K H a (T:)/\ns.length<=63/\
 ∀(p m r:Addr)(M:Lq)(nms:List Int)(H':Hp),Same H H'->H' p=some (.tup [.ref m,.ref r])->H' m=some (bx:)->Yz H' r nms->TD M nms->M.length<=42->H m=none->H r=none->Q (.ref p) H'
def Wq:FnScope ["_law_script","_law_head","_law_many","_law_names","_law_share","_law_mates","_law_step"] ["_law_script"] (Zf Zf1):=Am
def Zmg(T:Txt w K mg t):(a:) 2 t.jz t.jP ["_law_script"] (Zqm K):=by
 refine T.j5.F.aR Wq (b:)
 ·obtain⟨a,ns,rfl,hS,hl,k⟩:=h
  refine ⟨_,(Zg (psN 1 Wq.nd (aw:))
   (Zg (psN 2 Wq.nd (Zj Y8 Zd (Zj Z5 (pv 1) Zd)))
   (Zg (Z9 (Zn Z6 (Zj Z5 (Zj X1 (pv 1) Zd) Zd) Zd (Zm _)) (Zh (psN 2 Wq.nd (Zj Y8 Zd (Zj Z5 (Zj X1 (pv 1) Zd) Zd)))) Zy)
   (Zg (psN 3 Wq.nd (aw:))
   (Zg (psN 4 Wq.nd (Zr Xf (Jj (Za Zd (Za Zd (Za Zd (Za Zd Zb))))) (Zj Z5 (pv 3) Zd) (o:)))
   (Zg (psN 5 Wq.nd (pcT (Zmh T) hr T.jZ (Za (pcT (V3 T) hr T.bO (Za (aw:) (Za Zd Zb))) (Za (pv 2) (Za (pv 4) Zb)))))
   (Zg (psN 6 Wq.nd (Zr Xf (Jj (Za Zd (Za Zd (Za Zd (Za Zd (Za Zd (Za Zd (Za Zd (Za Zd Zb))))))))) (Zj Z5 (Zj X1 (pv 3) Zd) Zd) (o:)))
   (Zh (Zl (Jj (Za (pv 5) (Za (pcT (Zmj T) hr T.j4 (Za (pv 5) (Za (Zj Z5 (Zj X1 (pv 3) Zd) Zd) (Za (pv 6) Zb)))) Zb)))))))))))),?_⟩;refine⟨a,ns,0,Y,hS,hl,by decide,by decide,?_⟩;generalize cell ns 0=hd;refine⟨(by show(0:Int)<6;decide),?_⟩;dsimp only[kOp2,rI0,MI2,kAsg,Zv];refine Z4 (λσ H1=>∃n:Nat,1<=n/\n<=14/\σ=[oR a,oI hd,oI n,none,none,none,none]/\H1=H) (ah:) ?_
  ·refine⟨⟨by decide,by decide⟩,(by show(0:Int)<9;decide),rfl,?_⟩
   refine ite2 (λ_=>?_) (λ_=>?_)
   ·refine⟨⟨by decide,by decide⟩,(by show(0:Int)<8;decide),?_⟩
    have e:(7+hd/54%8:Int)=((7+(hd/54%8).toNat:Nat):Int):=by lia
    exact mq _ _ ⟨7+(hd/54%8).toNat,by lia,by lia,by rw[<-e];rfl,rfl⟩
   ·have e:(1+hd%6:Int)=((1+(hd%6).toNat:Nat):Int):=by lia
    exact mq _ _ ⟨1+(hd%6).toNat,by lia,by lia,by rw[<-e];rfl,rfl⟩
  rintro σ H1 ⟨n,n1,n2,rfl,rfl⟩;refine⟨a,ns,2,Y,hS,hl,by decide,by decide,?_⟩;generalize cell ns 2=nam;refine⟨(szR Y),λq hq=>?_⟩;have m4:0<=nam%4/\nam%4<4:=by lia
  obtain⟨sh,esh⟩:=at4 m4.1 m4.2;refine⟨(by show(0:Int)<4;decide),SqT.of Zc,esh,?_⟩;have s1:Same H1 (upd H1 q (.tup [V.int 0,V.int 0,V.int 1,V.int 3])):=Same.new hq;refine⟨a,ns,1,Y,s1.seq hS,hl,by decide,by decide,_,60,Y,by decide,λp xs H2 s2 hp h2 h60 hx=>⟨p,xs,n,sh,Y,h2,h60,hx,n1,n2,λm M H3 s3 hm hM l9 qx=>?_⟩⟩;have xw:Same H1 H3:=(s1.trans s2).trans s3;have sj:H1 m=none:=(s1.trans s2).free hm;refine⟨(szR Y),λq2 hq2=>?_⟩;have m8:0<=nam/4%8/\nam/4%8<8:=by lia
  obtain⟨sp,o5,esp⟩:=at8 m8.1 m8.2;refine⟨⟨by decide,by decide⟩,(by show(0:Int)<8;decide),SqT.of Zc,esp,?_⟩;have s14:Same H1 (upd H3 q2 (.tup [V.int 1,V.int 3,V.int 7,V.int 9,V.int 37,V.int 1009,V.int 3333,V.int 9999])):=Same.add xw (xw.free hq2);have hM4:(upd H3 q2 (.tup [V.int 1,V.int 3,V.int 7,V.int 9,V.int 37,V.int 1009,V.int 3333,V.int 9999])) m=some (bx:):=by rw[Ze (Zi hM hq2)];exact hM
  refine⟨⟨by decide,by decide⟩,(by show(0:Int)<10000;decide),m,M,n,_,sp,rfl,hM4,l9,n1,n2,qx,o5,λr H5 s5 hr5 y0=>⟨(szR rfl),λp5 hp5=>?_⟩⟩;have s15:=s14.trans s5;have um:H1 r=none:=s14.free hr5;refine k p5 m r M _ _ (Same.add s15 (s15.free hp5)) Zc ?_ (y0.same (Same.new hp5)) (Zqe n1 n2 l9 qx o5) (by lia) sj um;rw[Ze (Zi (s5 _ _ hM4) hp5)];exact s5 _ _ hM4
noncomputable def spk(ns:List Int)(n:Nat)(f:Int->Addr):List (Key×V):=(keys ns n).map λx=>((Sum.inl x:Key),V.ref (f x))
structure SpotsF(H:Hp)(ns:List Int)(n:Nat)(f:Int->Addr):Prop where
 inj:∀x∈keys ns n,∀y∈keys ns n,f x=f y->x=y
 at':∀x∈keys ns n,H (f x)=some (.lst ((pl ns n x).map nV))
def Zhp:Sp:=λvs H Q _=>∃(a:Addr)(M:Lq)(ns:List Int),vs=[.ref a]/\H a=some (.lst (T:))/\TD M ns/\ns.length<=120/\
 ∀(d:Addr)(f:Int->Addr)(H':Hp),Same H H'->H d=none->H' d=some (.dK (spk ns ns.length f))->SpotsF H' ns ns.length f->(∀x∈keys ns ns.length,H (f x)=none)->Q (.ref d) H'
def Xy:FnScope ["names_at","spots","place","name"] ["names_at"] (Zf Za4):=Am
def Zh6(T:Txt w K mg t):(a:) 1 t.dC t.dE ["names_at"] Zhp:=by
 refine T.ci.F.aR Xy (b:)
 ·obtain⟨a,M,ns,rfl,ha,td,hl,k⟩:=h
  have hu:=Wc hr;refine ⟨_,(Zg (psN 1 Xy.nd Vy)
   (Zg (W9 PassesOwn.never rfl (Zi3 rfl T.gc (D:)) (Qu rfl (Yd (pgN 2 Xy.nd) (Yd (pgN 3 Xy.nd) Wk))) (Zg (Z9 (PW.pt (Je (Zn J1 (pv 3) Zd (Zm _)) (Wj (Zn J2 (pv 3) (Y7 (v:=.int 9999) rfl T.cx ⟨_,rfl⟩) (Zm _))))) Xo Zy)
   (Zg (Xg (Ji (Zgh (pv 1) (pv 3) (Y5 Zb) ⟨rfl,rfl,rfl,rfl⟩) (Z:)))
   (Zh (Z9 (Zn J2 (Z3 T.aj (Za (Wl hu (pv 1) (pv 3) (o:)) Zb)) Zd (Zm _)) Xo Zy)))))
   (Zh (Zl (pv 1))))),?_⟩
  intro d hd;have hda:a≠d:=Zi ha hd;dsimp only[Zv];show tSeq (tFor _ _ _) _ _ _ _;refine Z4 (λσ H1=>∃(f:Int->Addr)(v2 v3:Option V),σ=[oR a,oR d,v2,v3]/\Same H H1/\H1 d=some (.dK (spk ns ns.length f))/\SpotsF H1 ns ns.length f/\∀x∈keys ns ns.length,H (f x)=none) (ah:) ?_
  ·refine⟨a,Y,⟨_,SqL.of (by rw[Ze hda];exact ha)⟩,?_⟩
   have el:(T:).length=ns.length:=by simp
   refine Zg8 (xs:=ns.map V.int) (λi σ H1=>∃(f:Int->Addr)(v2 v3:Option V),σ=[oR a,oR d,v2,v3]/\Same H H1/\H1 d=some (.dK (spk ns i f))/\SpotsF H1 ns i f/\∀x∈keys ns i,H (f x)=none)
    ⟨λ_=>0,none,none,rfl,Same.new hd,Zc,⟨λx hx=>by simp[keys]at hx,λx hx=>by simp[keys]at hx⟩,λx hx=>by simp[keys]at hx⟩ ?_ ?_ ?_
   ·rintro i σ H1 _ ⟨f,v2,v3,rfl,sm,_⟩
    exact SqL.of (sm _ _ ha)
   ·rintro i x0 σ H1 q hx hq ⟨f,v2,v3,rfl,sm,ur,sf,ss⟩
    have hi:i<ns.length:=by rw[<-el];exact(Aa hx).1
    obtain⟨x,p4⟩:∃x,ns[i]?=some x:=⟨_,Ac hi⟩;obtain rfl:x0=V.int x:=by rw[Ah,p4]at hx;exact(Ax hx).symm
    refine⟨q,_,Y,SqT.of Zc,Y,_,_,Y,_,_,Y,Y,?_⟩;obtain⟨x0,x1⟩:=td.rng i x p4;refine iteN (by lia:¬x<0) (iteN (by lia:¬x>9999) ?_);have hdq:d≠q:=Zi ur hq;have t8:(upd H1 q (.tup [.int i,.int x])) d=some (.dK (spk ns i f)):=by rw[Ze hdq];exact ur
    dsimp only[Gk];show tSeq (Zpw _) _ _ _ _;refine Z4 (λσ H2=>∃(f:Int->Addr),σ=[oR a,oR d,oI i,oI x]/\Same H H2/\H2 d=some (.dK (spk ns (i+1) f))/\SpotsF H2 ns (i+1) f/\∀x∈keys ns (i+1),H (f x)=none) (λnx2 r9=>?_) ?_
    ·refine⟨d,Y,.inl ⟨_,.inl t8⟩,Az _,λl hl'=>?_⟩
     obtain⟨hlq,n8⟩:=Qa hl';have sv:d≠l:=Zi ur n8;have hd3:(upd (upd H1 q (.tup [.int i,.int x])) l (.lst [])) d=some (.dK (spk ns i f)):=by rw[Ze sv];exact t8
     have hlk:(spk ns i f).length<sizeLine:=by unfold spk;rw[Ab];exact Zt (by have:=V7 ns i;lia)
     have xn:H q=none:=sm.free hq;have hl0:H l=none:=sm.free n8;have smq:Same H (upd (upd H1 q (.tup [.int i,.int x])) l (.lst [])):=Same.add (Same.add sm xn) hl0;have p6:(pl ns i x).length<sizeLine:=Zt (by have:=Zge td i x;lia);have old:∀b u,H1 b=some u->(upd (upd H1 q (.tup [.int i,.int x])) l (.lst [])) b=some u:=λb u e=>by rw[Ze (Zi e n8),Ze (Zi e hq)];exact e
     refine⟨spk ns i f,Sum.inl x,hd3,hlk,Y,λv hv=>?_,λhv=>?_⟩
     ·-- the name stands already
      have vm:x∈keys ns i:=by
       unfold spk at hv;rw[Jc]at hv;by_cases c:x∈keys ns i
       ·exact c
       ·rw[if_neg c]at hv;cases hv
      obtain rfl:v=V.ref (f x):=by
       unfold spk at hv;rw[Jc,if_pos vm]at hv;exact(Ax hv).symm
      have ek:keys ns (i+1)=keys ns i:=by rw[Wu p4,if_pos vm]
      have wp:=old _ _ (sf.at' x vm);refine⟨.inl ⟨Y,_,SqL.of wp⟩,f x,_,_,Y,Y,wp,by rw[Ab];exact p6,r9 _ _ ⟨f,Y,Same.add smq (ss x vm),?_,⟨?_,?_⟩,?_⟩⟩
      ·have:d≠f x:=λz=>by rw[<-z,hd3]at wp;cases wp
       rw[Ze this,hd3];unfold spk;rw[ek]
      ·rw[ek];exact sf.inj
      ·intro y hy
       rw[ek]at hy;by_cases c:y=x
       ·subst c
        rw[Zc,Zi1 p4,Aj];rfl
       ·have:f y≠f x:=λz=>c (sf.inj y hy x vm z)
        rw[Ze this,old _ _ (sf.at' y hy),Zgd (by rw[p4];intro z;cases z;exact c Y)]
      ·rw[ek];exact ss
     ·-- a new name
      have vm:x∉keys ns i:=by
       intro c;unfold spk at hv;rw[Jc,if_pos c]at hv;cases hv
      have ek:keys ns (i+1)=keys ns i++[x]:=by rw[Wu p4,if_neg vm]
      have ep:putK (spk ns i f) (Sum.inl x) (V.ref l)=spk ns (i+1) (λy=>if y=x then l else f y):=by
       unfold spk;rw[Zcj vm,ek,Aj];congr 1
       ·apply map_congr_left
        intro y hy;dsimp only;rw[if_neg (λ(z:y=x)=>vm (z▸hy))]
       ·simp
      rw[ep];have yi:(upd (upd (upd H1 q (.tup [.int i,.int x])) l (.lst [])) d (.dK (spk ns (i+1) (λy=>if y=x then l else f y)))) l=some (.lst []):=by rw[Ze (Ne.symm sv),Zc]
      refine⟨.inl ⟨Y,_,SqL.of yi⟩,l,_,_,Y,Y,yi,by decide,r9 _ _ ⟨λy=>if y=x then l else f y,Y,Same.add (Same.add smq hd) hl0,?_,⟨?_,?_⟩,?_⟩⟩
      ·rw[Ze sv,Zc]
      ·intro y hy z hz e
       rw[ek,mem_append,mem_singleton]at hy hz;by_cases c1:y=x
       ·by_cases c2:z=x
        ·rw[c1,c2]
        ·have rj:=hz.resolve_right c2
         simp only[c1,c2,if_true,if_false]at e;exact absurd (sf.at' z rj) (by rw[<-e,n8];intro w;cases w)
       ·have ue:=hy.resolve_right c1
        by_cases c2:z=x
        ·simp only[c1,c2,if_true,if_false]at e
         exact absurd (sf.at' y ue) (by rw[e,n8];intro w;cases w)
        ·have rj:=hz.resolve_right c2
         simp only[c1,c2,if_false]at e;exact sf.inj y ue z rj e
      ·intro y hy
       rw[ek,mem_append,mem_singleton]at hy;by_cases c:y=x
       ·subst c
        simp only[if_true];rw[Zc,Zi1 p4,Zsx vm];rfl
       ·have ue:=hy.resolve_right c
        have e1:=sf.at' y ue;have n1:f y≠l:=Zi e1 n8;have n2:f y≠d:=λz=>by rw[z,ur]at e1;cases e1
        simp only[c,if_false];rw[Ze n1,Ze n2,old _ _ e1,Zgd (by rw[p4];intro z;cases z;exact c Y)]
      ·intro y hy
       rw[ek,mem_append,mem_singleton]at hy;by_cases c:y=x
       ·simp only[c,if_true];exact hl0
       ·simp only[c,if_false];exact ss y (hy.resolve_right c)
    rintro σ H2 ⟨f',rfl,zr,hd4,sf2,hf2⟩;have hx3:x∈keys ns (i+1):=Yu.mpr ⟨i,by lia,p4⟩;have hg:valV (spk ns (i+1) f') (Sum.inl x)=some (V.ref (f' x)):=by unfold spk;rw[Jc,if_pos hx3]
    refine⟨d,_,Y,?_,f' x,_,Y,.inl (SqL.of (sf2.at' x hx3)),?_⟩
    ·exact .inl ⟨_,Sum.inl x,.inl hd4,Y,hg.symm⟩
    have h2:=Zge td (i+1) x;refine iteN (by rw[Ab];lia:¬((((pl ns (i+1) x).map nV).length:Nat):Int)>2) ?_;exact⟨f',_,_,Y,zr,hd4,sf2,hf2⟩
   ·rintro σ H1 ⟨f,v2,v3,rfl,sm,ur,sf,ss⟩
    rw[el]at ur sf ss;exact mq _ _ ⟨f,v2,v3,Y,sm,ur,sf,ss⟩
  rintro σ H1 ⟨f,v2,v3,rfl,sm,ur,sf,ss⟩;exact k d f H1 sm hd ur sf ss
def Zhr:Sp:=λvs H Q _=>∃(d:Addr)(M:Lq)(ns:List Int)(f:Int->Addr),vs=[.ref d,.int ns.length]/\H d=some (.dK (spk ns ns.length f))/\SpotsF H ns ns.length f/\TD M ns/\ns.length<=120/\
 ∀(m:Addr)(o:Obj)(H':Hp),(∀b u,b≠d->H b=some u->H' b=some u)->H m=none->H' m=some (bx:)->H' d=some (.frz o (.dK (spk ns ns.length f)))->Q (.ref m) H'
def Up:FnScope ["spots","count","mates","pair"] ["spots","count"] (Zf Za6):=Am
def F2(T:Txt w K mg t):(a:) 1 t.gu t.gI ["spots","count"] Zhr:=by
 refine T.dG.F.aR Up (b:)
 ·obtain⟨d,M,ns,f,rfl,hd,sf,td,hl,k⟩:=h
  refine ⟨_,(Zg (psN 2 Up.nd (Zj Zgl (Y5 (Za U0 Zb)) (pv 1)))
   (Zg (W9 PassesOwn.never rfl (Zq5 (pv 0) ⟨rfl,rfl,rfl⟩) (pgN 3 Up.nd) (Zh (Z9 (Zn Z6 (Z3 T.aj (Za (pv 3) Zb)) Zd (Zm _)) (Zg (Vw (Zr Zs (pv 3) Zd (o:)) (Zbg (pv 2) (Zr Zs (pv 3) Zd (o:)) Qb))
   (Zh (Vw (Zr Zs (pv 3) Zd (o:)) (Zbg (pv 2) (Zr Zs (pv 3) Zd (o:)) Qb)))) Zy)))
   (Zh (Zl (pv 2))))),?_⟩;refine⟨(szR Y),λq hq=>⟨q,_,_,Y,Y,Zc,by lia,by lia,?_,λm hm=>?_⟩⟩
  ·have:((ns.length:Nat):Int).toNat=ns.length:=by lia
   show 1*((ns.length:Nat):Int).toNat<=sizeLine;rw[this,sizeLine_eq];lia
  obtain⟨hmq,sj⟩:=Qa hm;have eM:(List.replicate ((ns.length:Nat):Int).toNat [V.non]).flatten=(part M ns []).map mV:=by
   have:((ns.length:Nat):Int).toNat=M.length:=by rw[<-td.len];lia
   rw[this,flatten_replicate_singleton,Zow td,map_replicate]
   rfl
  rw[eM];have hdm:d≠m:=Zi hd sj;have hdq:d≠q:=Zi hd hq;dsimp only[Zv];show tSeq (tFor _ _ _) _ _ _ _;refine Z4 (λσ H1=>∃(o:Obj)(v:Option V),σ=[oR d,some (.int ns.length),oR m,v]/\(∀b u,b≠d->H b=some u->H1 b=some u)/\H1 m=some (bx:)/\H1 d=some (.frz o (.dK (spk ns ns.length f)))) (ah:) ?_
  ·refine⟨d,_,Y,.inl ⟨by rw[Ze hdm,Ze hdq];exact hd,λo=>?_⟩⟩
   refine Zpg (λj σ H1=>∃(v:Option V),σ=[oR d,some (.int ns.length),oR m,v]/\(∀b u,b≠d->H b=some u->H1 b=some u)/\H1 m=some (.lst ((part M ns ((s:).take j)).map mV))/\H1 d=some (.frz o (.dK (spk ns ns.length f))))
    ⟨none,rfl,λb u hb e=>?_,?_,Zc⟩ ?_ ?_ ?_
   ·rw[Ze hb,Ze (Zi e sj),Ze (Zi e hq)];exact e
   ·rw[Ze (Ne.symm hdm),Zc]
    rfl
   ·rintro j σ H1 _ ⟨v,rfl,old,h1,h2⟩
    exact h2
   ·rintro j k0 x0 σ H1 hk ⟨v,rfl,old,h1,h2⟩
    obtain⟨x,hx,rfl⟩:∃x,(keys ns ns.length)[j]?=some x/\x0=V.ref (f x):=by
     unfold spk at hk;rw[Ah]at hk
     cases e:(keys ns ns.length)[j]? with
     |none=>rw[e]at hk;cases hk
     |some x=>rw[e]at hk;cases hk;exact⟨x,Y,Y⟩
    have hm1:x∈keys ns ns.length:=Au hx;have et:(s:).take (j+1)=(s:).take j++[x]:=by
     rw[Aw,hx];rfl
    have wp:=sf.at' x hm1;have hfd:f x≠d:=λz=>by rw[z,hd]at wp;cases wp
    have vw:=old _ _ hfd wp;dsimp only[Zv];refine⟨f x,_,Y,.inl (SqL.of vw),Y,?_⟩
    rcases Zac td hm1 with ⟨a,e,ea,ma⟩|⟨a,b,t9,e,ea,eb,ma,mb⟩
    ·rw[e]at vw⊢
     refine iteF ⟨_,Y,old,?_,h2⟩;rw[et,Zov td e ma];exact h1
    ·rw[e]at vw⊢
     refine iteT ?_;have la:a<(part M ns ((s:).take j)).length:=by rw[Wg];exact(Aa ma).1
     have lb:b<(part M ns ((s:).take j)).length:=by rw[Wg];exact(Aa mb).1
     have vt:f x≠m:=Zi wp sj;refine⟨SqL.of vw,Y,SqL.of vw,Y,m,_,_,a,Y,Y,h1,(by rw[Ab];exact Vl la),?_⟩;have hf2:(upd H1 m (.lst (((part M ns ((s:).take j)).map mV).set a (nV b)))) (f x)=some (.lst ([a,b].map nV)):=by rw[Ze vt];exact vw
     refine⟨SqL.of hf2,Y,SqL.of hf2,Y,m,_,_,b,Y,Y,Zc,(by rw[length_set,Ab];exact Vl lb),_,Y,λc u hc ec=>?_,?_,?_⟩
     ·have:c≠m:=Zi ec sj
      rw[Ze this,Ze this];exact old c u hc ec
     ·rw[Zc,et,Zma td e t9 ma mb]
      show some (HO.lst ((((part M ns ((s:).take j)).map mV).set a (mV (some b))).set b (mV (some a))))=_;rw[map_set,map_set]
     ·rw[Ze hdm,Ze hdm];exact h2
   ·rintro σ H1 ⟨v,rfl,old,h1,h2⟩
    refine mq _ _ ⟨o,v,Y,old,?_,h2⟩;have:(s:).take (spk ns ns.length f).length=keys ns ns.length:=by
     unfold spk;rw[Ab,take_length]
    rw[this,Zox td]at h1;exact h1
  rintro σ H1 ⟨o,v,rfl,old,h1,h2⟩;exact k m o H1 old sj h1 h2
noncomputable def X3(cl na sp mt:Addr):List (Str×V):=putF "mates" (.ref mt) (putF "spots" (.ref sp) (putF "names_at" (.ref na) (putF "cloths" (.ref cl) [])))
theorem Xe(f:Str)(v:V):∀fs:List (Str×V),(putF f v fs).length<=fs.length+1
 |[]=>by simp[putF]
 |(g,x)::r=>by
  have:=Xe f v r;unfold putF;split
  ·simp
  ·simp only[length_cons];lia
def s_cn:¬("cloths":Str)="names_at":=by decide
def s_cs:¬("cloths":Str)="spots":=by decide
def s_cm:¬("cloths":Str)="mates":=by decide
def s_ns:¬("names_at":Str)="spots":=by decide
def s_nm:¬("names_at":Str)="mates":=by decide
def s_sm:¬("spots":Str)="mates":=by decide
def Zna(cl na sp mt:Addr):(X3 cl na sp mt).lookup ("cloths":Str)=some (.ref cl):=by
 unfold X3;rw[Z1,if_neg s_cm,Z1,if_neg s_cs,Z1,if_neg s_cn,Z1,if_pos rfl]
def Zpi(cl na sp mt:Addr):(X3 cl na sp mt).lookup ("names_at":Str)=some (.ref na):=by
 unfold X3;rw[Z1,if_neg s_nm,Z1,if_neg s_ns,Z1,if_pos rfl]
def Zam(cl na sp mt:Addr):(X3 cl na sp mt).lookup ("spots":Str)=some (.ref sp):=by
 unfold X3;rw[Z1,if_neg s_sm,Z1,if_pos rfl]
def Zpj(cl na sp mt:Addr):(X3 cl na sp mt).lookup ("mates":Str)=some (.ref mt):=by
 unfold X3;rw[Z1,if_pos rfl]
def Xl(cl na sp mt:Addr){m:Str}(h:m≠"cloths"/\m≠"names_at"/\m≠"spots"/\m≠"mates":=by decide):(X3 cl na sp mt).lookup m=none:=by
 obtain⟨h1,h2,h3,h4⟩:=h;unfold X3;rw[Z1,if_neg h4,Z1,if_neg h3,Z1,if_neg h2,Z1,if_neg h1];rfl
structure TentB(C:Addr)(H:Hp)(p:Addr)(M:Lq)(ns:List Int)(dx cl na sp mt:Addr)(o:Obj)(f:Int->Addr):Prop where
 ins:H p=some (.ins C dx (X3 cl na sp mt))
 rows:Yz H cl ns
 names:H na=some (.lst (T:))
 spots:H sp=some (.frz o (.dK (spk ns ns.length f)))
 mates:H mt=some (bx:)
 at':∀x∈keys ns ns.length,H (f x)=some (.lst ((pl ns ns.length x).map nV))
def Z7(C:Addr)(H:Hp)(p:Addr)(M:Lq)(ns:List Int):Prop:=∃dx cl na sp mt o f,TentB C H p M ns dx cl na sp mt o f
def Z7.same(h:Z7 C H p M ns)(s:Same H H'):Z7 C H' p M ns:=by
 obtain⟨dx,cl,na,sp,mt,o,f,b⟩:=h;exact⟨dx,cl,na,sp,mt,o,f,s _ _ b.ins,b.rows.same s,s _ _ b.names,s _ _ b.spots,s _ _ b.mates,λx hx=>s _ _ (b.at' x hx)⟩
def Ze3{ns:List Int}{n:Nat}(h:ns.length=3*n)(hk:k<n):(ns.take (3*k)).map V.int++row3 ns k=(ns.take (3*(k+1))).map V.int:=by
 have e:ns.take (3*(k+1))=ns.take (3*k)++[ns.getD (3*k) 0,ns.getD (3*k+1) 0,ns.getD (3*k+2) 0]:=by
  have l0:3*k<ns.length:=by lia
  have l1:3*k+1<ns.length:=by lia
  have l2:3*k+2<ns.length:=by lia
  have g:∀i,i<ns.length->ns[i]?=some (ns.getD i 0):=λi hi=>by rw[Ad,Ac hi];rfl
  rw[show 3*(k+1)=3*k+1+1+1 by lia,Aw,Aw,Aw,g _ l0,g _ l1,g _ l2,append_assoc,append_assoc];rfl
 rw[e,Aj];rfl
def Zfj(C:Addr):Sp:=λvs H Q _=>∃(p r dx:Addr)(M:Lq)(ns:List Int),vs=[.ref p,.ref r]/\H p=some (.ins C dx [])/\Yz H r ns/\TD M ns/\ns.length<=120/\
 ∀(H':Hp),(∀b u,b≠p->H b=some u->H' b=some u)->Z7 C H' p M ns->Q .non H'
def Ko:FnScope ["self","rows"] ["self","rows"] (Zf Fu):=Am
def K8(T:Txt w K mg t):(a:) 2 t.bE t.cB ["self","rows"] (Zfj t.aa):=by
 refine T.bg.F.aR Ko (b:)
 ·obtain⟨p,r,dx,M,ns,rfl,hp,⟨ts,ny,hr2,hr3⟩,td,hl,k⟩:=h
  refine ⟨_,(Zg (Z9 (Xi (Vu (pv 1) (λ_=>rfl))) Xo Zy)
   (Zg (Xp (pv 0) (Yt (ts:=["row"]) (fv:=[]) (l:) rfl (Yk (pv 1)) (ar:) (ag:) (ac:) (λ_ _ _ _ _ _=>Yq (Ys (Oa K) (by rfl) T.jp PySem.Pv.boot_tuple (D:)))) rfl)
   (Zg (Xp (pv 0) (Yt (ts:=["row","name"]) (fv:=[]) (l:) rfl (Yk (Zz (pv 0) rfl)) (ak:) (ag:) (ac:) (λ_ _ _ _ _ _=>Zl9 rfl rfl (Zcm K (pv 0)) (pgN 1 nd2) Yh (pv 1))) rfl)
   (Zg (Xp (pv 0) (pcT (Zh6 T) hr T.ci (Za (Zz (pv 0) rfl) Zb)) rfl)
   (Zh (Xp (pv 0) (pcT (F2 T) hr T.dG (Za (Zz (pv 0) rfl) (Za (Z3 T.aj (Za (Zz (pv 0) rfl) Zb)) Zb))) rfl)))))),?_⟩;obtain⟨n,n1,n2,hn⟩:=td.n;have yg:ns.length=3*n:=by rw[td.len,hn]
  have wj:ts.length=n:=by lia
  have hrp:r≠p:=λz=>by rw[z,hp]at ny;cases ny
  refine⟨true,.inl ⟨_,SqL.of ny,?_⟩,?_⟩
  ·cases ts with
   |nil=>simp at wj;lia
   |cons _ _=>rfl
  refine⟨r,Y,⟨_,SqL.of ny⟩,λD hD=>?_⟩;have hDp:D≠p:=λz=>by rw[z,hp]at hD;cases hD
  refine Z8 (xs:=ts.map V.ref) (λi σ H1=>∃(v:Option V),σ=[v]/\Same H H1/\H1 D=some (.lst ((ts.take i).map V.ref))) (a0:) ?_ ?_ ?_
  ·rintro i σ H1 _ ⟨v,rfl,sm,h1⟩
   exact SqL.of (sm _ _ ny)
  ·rintro i x σ H1 hx ⟨v,rfl,sm,h1⟩
   dsimp only[Zv,tYes];rw[if_pos rfl];obtain⟨tt,ht,rfl⟩:=Yi hx;refine⟨tt,_,Y,.inr ⟨SqT.of (sm _ _ (hr3 i tt ht)),_,h1,(by rw[Ab,Ai];exact Zt (by lia)),_,Y,Same.add sm hD,?_⟩⟩;rw[Zc,Aw,ht,Aj];rfl
  rintro σ H1 ⟨v,rfl,xf,h1⟩;rw[Ab,take_length]at h1;have hp1:=xf _ _ hp;refine⟨p,_,dx,_,Y,hp1,T.ah,T.aI,by decide,?_⟩;have rp:∀b u,b≠p->H b=some u->(bp:) b=some u:=λb u hb e=>by rw[Ze hb];exact xf b u e
  have ph:(bp:) D=some (L:):=by rw[Ze hDp];exact h1
  have p6:(bp:) p=some (.ins t.aa dx (m:)):=Zc
  have xk:∀(k:Nat)(q:Addr),ts[k]?=some q->(bp:) q=some (.tup (row3 ns k)):=λk q e=>by
   have e1:=hr3 k q e;have:q≠p:=λz=>by rw[z,hp]at e1;cases e1
   exact rp q _ this e1
  generalize upd H1 p (.ins t.aa dx (putF "cloths" (.ref D) []))=H2 at rp ph p6 xk⊢;refine⟨p6,T.ah,T.aI,D,Y,⟨_,SqL.of ph⟩,λN hN=>?_⟩;have hND:N≠D:=λz=>by rw[z,ph]at hN;cases hN
  have hNp:N≠p:=λz=>by rw[z,p6]at hN;cases hN
  refine Z8 (xs:=ts.map V.ref) (λi σ H3=>∃(v v':Option V),σ=[v,v']/\Same H2 H3/\H3 N=some (.lst ((ns.take (3*i)).map V.int))) ⟨none,none,Y,Same.new hN,Zc⟩ ?_ ?_ ?_
  ·rintro i σ H3 _ ⟨v,v',rfl,sm,h3⟩
   exact SqL.of (sm _ _ ph)
  ·rintro i x σ H3 hx ⟨v,v',rfl,sm,h3⟩
   dsimp only[Zv,tYes];rw[if_pos rfl];obtain⟨tt,ht,rfl⟩:=Yi hx;have hi:i<n:=by rw[<-wj];exact(Aa ht).1
   refine⟨tt,Y,⟨_,SqT.of (sm _ _ (xk i tt ht))⟩,(Zah (xs:=row3 ns i) (λj σ H4=>∃(v':Option V),σ=[oR tt,v']/\Same H2 H4/\H4 N=some (.lst ((ns.take (3*i)).map V.int++(row3 ns i).take j))) ⟨v',Y,sm,by rw[h3,take_zero,append_nil]⟩ ?_ ?_ ?_)⟩
   ·rintro j σ H4 _ ⟨v',rfl,sm,h4⟩
    exact SqT.of (sm _ _ (xk i tt ht))
   ·rintro j x σ H4 hx ⟨v',rfl,sm,h4⟩
    dsimp only[Zv,tYes];rw[if_pos rfl];refine⟨_,h4,?_,_,Y,Same.add sm hN,?_⟩
    ·rw[Ae,Ab,Ai,Ai]
     exact Zt (by have:(row3 ns i).length=3:=rfl;lia)
    ·rw[Zc,Aw,hx,<-append_assoc]
     rfl
   ·rintro σ H4 ⟨v',rfl,sm,h4⟩
    refine⟨_,_,Y,sm,?_⟩;rw[h4,take_length,Ze3 yg hi]
  rintro σ H3 ⟨v,v',rfl,sm3,h3⟩;have eall:ns.take (3*(ts.map V.ref).length)=ns:=by rw[Ab,wj,<-yg,take_length]
  rw[eall]at h3;have hp3:=sm3 _ _ p6;refine⟨p,_,dx,_,rfl,hp3,T.ah,T.aB,(by have h1:=Xe "cloths" (.ref D) [];simp only[length_nil]at h1;lia),?_⟩;have uv:∀b u,b≠p->H2 b=some u->(upd H3 p (.ins t.aa dx (i:))) b=some u:=λb u hb e=>by rw[Ze hb];exact sm3 b u e
  have hN4:(upd H3 p (.ins t.aa dx (i:))) N=some (.lst (T:)):=by rw[Ze hNp];exact h3
  have xo:(upd H3 p (.ins t.aa dx (i:))) p=some (.ins t.aa dx (i:)):=Zc;generalize upd H3 p (.ins t.aa dx (putF "names_at" (.ref N) (putF "cloths" (.ref D) [])))=H4 at uv hN4 xo⊢;have zy:(i:).lookup ("names_at":Str)=some (.ref N):=by rw[Z1,if_pos rfl]
  refine⟨xo,T.ah,T.aB,MVal.of zy ⟨ N,M,ns,Y,hN4,td,hl,λd f H5 sm5 hd5 hd5' sf ss=>?_⟩⟩;have hp5:=sm5 _ _ xo;refine⟨p,_,dx,_,rfl,hp5,T.ah,T.aP,(by have h1:=Xe "cloths" (.ref D) [];have h2:=Xe "names_at" (.ref N) (m:);simp only[length_nil]at h1;lia),?_⟩;have hdp:d≠p:=λz=>by rw[z,xo]at hd5;cases hd5
  have hfp:∀x∈keys ns ns.length,f x≠p:=λx hx z=>by have:=ss x hx;rw[z,xo]at this;cases this
  have yw:∀b u,b≠p->H4 b=some u->(upd H5 p (.ins t.aa dx (putF "spots" (.ref d) (i:)))) b=some u:=λb u hb e=>by rw[Ze hb];exact sm5 b u e
  have ug:(upd H5 p (.ins t.aa dx (putF "spots" (.ref d) (i:)))) p=some (.ins t.aa dx (putF "spots" (.ref d) (i:))):=Zc;have hd6:(upd H5 p (.ins t.aa dx (putF "spots" (.ref d) (i:)))) d=some (.dK (spk ns ns.length f)):=by rw[Ze hdp];exact hd5'
  have sf6:SpotsF (upd H5 p (.ins t.aa dx (putF "spots" (.ref d) (i:)))) ns ns.length f:=⟨sf.inj,λx hx=>by rw[Ze (hfp x hx)];exact sf.at' x hx⟩;generalize upd H5 p (.ins t.aa dx (putF "spots" (.ref d) (putF "names_at" (.ref N) (putF "cloths" (.ref D) []))))=H6 at yw ug hd6 sf6⊢;have lk2:(putF "spots" (.ref d) (i:)).lookup ("spots":Str)=some (.ref d):=by rw[Z1,if_pos rfl]
  have lk3:(putF "spots" (.ref d) (i:)).lookup ("names_at":Str)=some (.ref N):=by rw[Z1,if_neg s_ns,Z1,if_pos rfl]
  have hN6:=yw _ _ hNp hN4;have eln:(((T:).length:Nat):Int)=(ns.length:Nat):=by rw[Ab]
  refine⟨ug,T.ah,T.aP,MVal.of lk2 ⟨ ug,T.ah,T.aB,MVal.of lk3 ⟨ N,_,Y,.inl (SqL.of hN6),d,M,ns,f,(by rw[eln];rfl),hd6,sf6,td,hl,λm o H7 old7 hm7 hmm hdd=>?_⟩⟩⟩;have hpd:p≠d:=Ne.symm hdp;have hp7:=old7 _ _ hpd ug;refine⟨p,_,dx,_,rfl,hp7,T.ah,T.eA,(by have h1:=Xe "cloths" (.ref D) [];have h2:=Xe "names_at" (.ref N) (m:);have h3:=Xe "spots" (.ref d) (i:);simp only[length_nil]at h1;lia),?_⟩;have hmp:m≠p:=λz=>by rw[z,ug]at hm7;cases hm7
  have dN:N≠d:=λz=>by rw[z,hd6]at hN6;cases hN6
  have yv:∀b u,b≠p->b≠d->H6 b=some u->(upd H7 p (.ins t.aa dx (X3 D N d m))) b=some u:=λb u hb hbd e=>by rw[Ze hb];exact old7 b u hbd e
  have old46:∀b u,b≠p->H4 b=some u->H6 b=some u/\b≠d:=λb u hb e=>⟨yw b u hb e,λz=>by rw[z,hd5]at e;cases e⟩;have ve:∀b u,b≠p->H2 b=some u->(upd H7 p (.ins t.aa dx (X3 D N d m))) b=some u:=λb u hb e=>by
   obtain⟨e6,hbd⟩:=old46 b u hb (uv b u hb e)
   exact yv b u hb hbd e6
  refine k _ (λb u hb e=>ve b u hb (rp b u hb e)) ⟨dx,D,N,d,m,o,f,Zc,⟨ts,ve _ _ hDp ph,by lia,λk q e=>?_⟩,?_,?_,?_,?_⟩
  ·have e1:=xk k q e
   exact ve q _ (λz=>by rw[z,p6]at e1;cases e1) e1
  ·exact yv _ _ hNp dN hN6
  ·rw[Ze hdp];exact hdd
  ·rw[Ze hmp];exact hmm
  ·intro x hx
   have e1:=sf6.at' x hx;exact yv _ _ (hfp x hx) (λz=>by rw[z,hd6]at e1;cases e1) e1
noncomputable def Yf(ns:List Int)(x:Int):Str:=match pl ns ns.length x with
 |[a,b]=>if a/3=b/3 then "locked" else "free"
 |_=>"rim"
def Zoe:Sp:=λvs H Q _=>∃p:Int,vs=[.int p]/\Q (.int (after p)) H
def Zlk:Sp:=λvs H Q _=>∃p:Int,vs=[.int p]/\Q (.int (Y1 p)) H
def Zhv:Sp:=λvs H Q _=>∃p:Int,vs=[.int p]/\Q (.int (p/3)) H
def Zfh(C:Addr):Sp:=λvs H Q _=>∃(p:Addr)(M:Lq)(ns:List Int),vs=[.ref p]/\Z7 C H p M ns/\
 ∀(l:Addr)(ts:List Addr),H l=none->ns.length=3*ts.length->(∀(k:Nat)(t:Addr),ts[k]?=some t->H t=some (.tup (row3 ns k)))->Q (.ref l) (upd H l (L:))
def Zd8(C:Addr):Sp:=λvs H Q _=>∃(p:Addr)(M:Lq)(ns:List Int),vs=[.ref p]/\Z7 C H p M ns/\ns.length<64/\
 ∀(l:Addr)(out:List Int),H l=none->out.Perm (s:)->out.Pairwise (·<=·)->Q (.ref l) (upd H l (.lst (out.map V.int)))
def G3(C:Addr):Sp:=λvs H Q _=>∃(p:Addr)(M:Lq)(ns:List Int)(x:Int),vs=[.ref p,.int x]/\Z7 C H p M ns/\Q (.bl (decide (0<=x/\x<ns.length))) H
def Kh(C EP:Addr):Sp:=λvs H Q E=>∃(p:Addr)(M:Lq)(ns:List Int)(x:Int),vs=[.ref p,.int x]/\Z7 C H p M ns/\(0<=x/\x<ns.length->Q .non H)/\(¬(0<=x/\x<ns.length)->E (.ref EP) none H)
def Zfi(C EP:Addr):Sp:=λvs H Q E=>∃(p:Addr)(M:Lq)(ns:List Int)(x:Int),vs=[.ref p,.int x]/\Z7 C H p M ns/\M.length=ns.length/\(∀(i:Nat)(y:Option Nat),x=i->M[i]?=some y->Q (mV y) H)/\(¬(0<=x/\x<ns.length)->E (.ref EP) none H)
def Zcb(C ES:Addr):Sp:=λvs H Q E=>∃(p:Addr)(M:Lq)(ns:List Int)(x:Int),vs=[.ref p,.int x]/\Z7 C H p M ns/\(x∈keys ns ns.length->∀l,H l=none->Q (.ref l) (upd H l (.lst ((pl ns ns.length x).map nV))))/\(x∉keys ns ns.length->E (.ref ES) none H)
def Zaz(C ES:Addr):Sp:=λvs H Q E=>∃(p:Addr)(M:Lq)(ns:List Int)(x:Int),vs=[.ref p,.int x]/\Z7 C H p M ns/\TD M ns/\(x∈keys ns ns.length->∀H',Same H H'->Q (.str (Yf ns x)) H')/\(x∉keys ns ns.length->E (.ref ES) none H)
def Zoh:FnScope ["place"] ["place"] (Zf Ziq):=Am
def Zgt(T:Txt w K mg t):(a:) 1 t.km t.ky ["place"] Zoe:=by
 refine T.jm.F.aR Zoh (b:)
 ·obtain⟨p,rfl,k⟩:=h
  refine⟨_,(Zh (Zl (Zad (Zn Z6 (Zj Z5 (pv 0) Zd) Zd (Zm _)) (Zj Qv (pv 0) Zd) (Zj Y8 (pv 0) Zd)))),?_⟩;refine⟨(by show(0:Int)<3;decide),rfl,(ite2 (λh=>?_) (λh=>?_))⟩
  ·have h:p%3=2:=by simpa using h
   have e:after p=p-2:=if_pos h;rw[e]at k;exact k
  ·have h:¬p%3=2:=by simpa using h
   have e:after p=p+1:=if_neg h;rw[e]at k;exact k
def Zlq:FnScope ["place"] ["place"] (Zf Zf8):=Am
def Zdn(T:Txt w K mg t):(a:) 1 t.jr t.jG ["place"] Zlk:=by
 refine T.gX.F.aR Zlq (b:)
 ·obtain⟨p,rfl,k⟩:=h
  refine⟨_,(Zh (Zl (Zad (Zn Z6 (Zj Z5 (pv 0) Zd) Zd (Zm _)) (Zj Y8 (pv 0) Zd) (Zj Qv (pv 0) Zd)))),?_⟩;refine⟨(by show(0:Int)<3;decide),rfl,(ite2 (λh=>?_) (λh=>?_))⟩
  ·have h:p%3=0:=by simpa using h
   have e:Y1 p=p+2:=if_pos h;rw[e]at k;exact k
  ·have h:¬p%3=0:=by simpa using h
   have e:Y1 p=p-1:=if_neg h;rw[e]at k;exact k
def Zh0:FnScope ["place"] ["place"] (Zf Zba):=Am
def Qo(T:Txt w K mg t):(a:) 1 t.gs t.gH ["place"] Zhv:=by
 refine T.bB.F.aR Zh0 (b:)
 ·obtain⟨p,rfl,k⟩:=h
  refine⟨_,(Zh (Zl (Zj X1 (pv 0) Zd))),?_⟩;exact⟨⟨by decide,by decide⟩,k⟩
def Zfs:FnScope ["self"] ["self"] (Zf Fs):=Am
def K5(T:Txt w K mg t):(a:) 1 t.e8 t.fF ["self"] (Zfh t.aa):=by
 refine T.bi.F.aR Zfs (b:)
 ·obtain⟨p,M,ns,rfl,⟨dx,cl,na,sp,mt,o,f,b⟩,k⟩:=h
  refine⟨_,(Zh (Zl (Ys J9 (by rfl) T.ii PySem.Pv.boot_list (Za (Zz (pv 0) Y) Zb)))),?_⟩;obtain⟨ts,h1,h2,h3⟩:=b.rows;exact⟨b.ins,T.ah,T.aI,MVal.of (Zna ..) ⟨ cl,_,Y,.inl (SqL.of h1),λl hl=>k l ts hl h2 h3⟩⟩
def Zed:FnScope ["self"] ["self"] (Zf Ku):=Am
def Ka(T:Txt w K mg t):(a:) 1 t.dR t.d4 ["self"] (Zd8 t.aa):=by
 refine T.aS.F.aR Zed (b:)
 ·obtain⟨p,M,ns,rfl,⟨dx,cl,na,sp,mt,o,f,b⟩,my,k⟩:=h
  refine⟨_,(Zh (Zl (Ye (J8 Y) (by rfl) T.cL PyProof.Rows.boot_sorted (Za (Zz (pv 0) Y) Zb)))),?_⟩;refine⟨b.ins,T.ah,T.aP,MVal.of (Zam ..) ⟨ sp,_,keys ns ns.length,rfl,.inr ⟨o,b.spots⟩,?_,by have:=V7 ns ns.length;lia,k⟩⟩;unfold spk;rw[map_map];rfl
def G5:FnScope ["self","place"] ["self","place"] (Zf Vs):=Am
def Q5(T:Txt w K mg t):(a:) 1 t.bQ t.bU ["self","place"] (G3 t.aa):=by
 refine T.aC.F.aR G5 (b:)
 ·obtain⟨p,M,ns,x,rfl,⟨dx,cl,na,sp,mt,o,f,b⟩,k⟩:=h
  refine⟨_,(Zh (Zl (Zgi Zbj J1 Zd (pv 1) (Z3 T.aj (Za (Zz (pv 0) Y) Zb))))),?_⟩;refine⟨_,Y,?_⟩;refine ite2 (λh=>?_) (λh=>?_)
  ·have h:0<=x:=of_decide_eq_true h
   refine⟨b.ins,T.ah,T.aB,MVal.of (Zpi ..) ⟨ na,_,Y,.inl (SqL.of b.names),?_⟩⟩;have:decide (x<(((T:).length:Nat):Int))=decide (0<=x/\x<(ns.length:Int)):=by rw[Ab];simp[h]
   show Q (V.bl (decide (x<(((T:).length:Nat):Int)))) H;rw[this];exact k
  ·have h:¬0<=x:=λz=>h (decide_eq_true z)
   have:decide (0<=x/\x<(ns.length:Int))=false:=decide_eq_false λz=>h z.1;rw[this]at k;exact k
def Kn:FnScope ["self","place"] ["self","place"] (Zf Q2):=Am
def K7(T:Txt w K mg t):(a:) 2 t.bF t.bH ["self","place"] (Kh t.aa t.cY):=by
 refine T.aT.F.aX Kn (b:)
 ·obtain⟨p,M,ns,x,rfl,ta,k1,k2⟩:=h
  obtain⟨dx,cl,na,sp,mt,o,f,b⟩:=id ta;refine⟨_,(Zo (Yo (Xi (Xn (Xs (pv 0) T.ah T.aC.m (Q5 T) (ai:) T.aC.b .nil Ya (P:)))) (Zo (Yl T.kM FBV Y T.kg Y (bv:))) Ym)),?_⟩;refine⟨b.ins,Xl _ _ _ _,p,M,ns,x,Y,ta,?_⟩;by_cases c:0<=x/\x<(ns.length:Int)
  ·rw[decide_eq_true c]
   exact iteF (k1 c)
  ·rw[decide_eq_false c]
   exact iteT ⟨by decide,k2 c⟩
def Zft:FnScope ["self","place"] ["self","place"] (Zf Ft):=Am
def K6(T:Txt w K mg t):(a:) 3 t.fb t.fG ["self","place"] (Zfi t.aa t.cY):=by
 refine T.bj.F.aX Zft (b:)
 ·obtain⟨p,M,ns,x,rfl,ta,l9,k1,k2⟩:=h
  obtain ⟨dx,cl,na,sp,mt,o,f,b⟩:=id ta;refine ⟨_,(Zp (Z2 (Ww (pv 0) T.ah T.aT.m (K7 T) (ai:) T.aT.b .nil (P:)))
   (Zo (Zu (Zl (Zr Zs (Zz (pv 0) rfl) (pv 1) (o:)))))),?_⟩
  refine⟨b.ins,Xl _ _ _ _,p,M,ns,x,Y,ta,λc=>?_,k2⟩;have hi:x.toNat<M.length:=by lia
  obtain⟨y,hy⟩:∃y,M[x.toNat]?=some y:=⟨_,Ac hi⟩;have ex:x=(x.toNat:Int):=by lia
  refine⟨b.ins,T.ah,T.eA,MVal.of (Zpj ..) ⟨ SqL.of b.mates,(by rw[ex];exact Xk hy),k1 _ _ ex hy⟩⟩
def Zcf:FnScope ["self","seam"] ["self","seam"] (Zf O9):=Am
def U3(T:Txt w K mg t):(a:) 1 t.dc t.dj ["self","seam"] (Zcb t.aa t.ax):=by
 refine T.aJ.F.aX Zcf (b:)
 ·obtain⟨p,M,ns,x,rfl,ta,k1,k2⟩:=h
  obtain ⟨dx,cl,na,sp,mt,o,f,b⟩:=id ta;have hu:=Wc hr;refine ⟨_,(Zp (Yo (Uy (K2 hu (pv 1) (Zz (pv 0) Y)) (ao:)) (Zo (Yl T.k7 FBV Y T.jb Y (bv:))) Ym)
   (Zo (Zu (Zl (Ys J9 (by rfl) T.ii PySem.Pv.boot_list (Za (Wl hu (Zz (pv 0) rfl) (pv 1) (o:)) Zb)))))),?_⟩
  have hg:DGet H sp (.int x) (if x∈keys ns ns.length then some (V.ref (f x))else none):=.inl ⟨_,Sum.inl x,.inr ⟨o,b.spots⟩,rfl,by unfold spk;rw[Jc]⟩;refine⟨b.ins,T.ah,T.aP,MVal.of (Zam ..) ⟨ sp,_,Y,hg,?_⟩⟩;by_cases c:x∈keys ns ns.length
  ·rw[if_pos c]at hg⊢
   refine iteF ?_;exact⟨b.ins,T.ah,T.aP,MVal.of (Zam ..) ⟨ sp,_,Y,hg,f x,_,Y,.inl (SqL.of (b.at' x c)),k1 c⟩⟩
  ·rw[if_neg c]at hg⊢
   exact iteT ⟨by decide,k2 c⟩
def Ug:FnScope ["self","seam","spots"] ["self","seam"] (Zf Uv):=Am
def W8(T:Txt w K mg t):(a:) 2 t.cy t.cC ["self","seam"] (Zaz t.aa t.ax):=by
 refine T.al.F.aX Ug (b:)
 ·obtain⟨p,M,ns,x,rfl,ta,td,k1,k2⟩:=h
  obtain ⟨dx,cl,na,sp,mt,o,f,b⟩:=id ta;refine ⟨_,(Zp (Qf (i:=2) Ug.nd Y (Or.inl Y) (Ww (pv 0) T.ah T.aJ.m (U3 T) (ai:) T.aJ.b .nil (P:)))
   (Zp (Zu (Z9 (Zn Z6 (Z3 T.aj (Z:)) Zd (Zm _)) (Zh (Zl Zk)) Zy))
   (Zp (Zu (Z9 (Zn Z6 (pcT (Qo T) hr T.bB (Za (Zr Zs (pv 2) Zd (o:)) Zb)) (pcT (Qo T) hr T.bB (Za (Zr Zs (pv 2) Zd (o:)) Zb)) (Zm _)) (Zh (Zl Zk)) Zy))
   (Zo (Zu (Zl Zk)))))),?_⟩
  refine⟨b.ins,Xl _ _ _ _,p,M,ns,x,Y,ta,λc l hl=>?_,k2⟩;have xh:=k1 c _ (Same.new (o:=.lst ((pl ns ns.length x).map nV)) hl);refine⟨l,_,Y,.inl (SqL.of Zc),Y,?_⟩
  rcases Zac td c with ⟨a,e,_⟩|⟨a,b',t9,e,_⟩
  ·rw[e]at xh⊢
   refine iteT ?_;have:Yf ns x="rim":=by unfold Yf;rw[e]
   rw[this]at xh;exact xh
  ·rw[e]at xh⊢
   refine iteF ⟨SqL.of Zc,Y,_,Y,SqL.of Zc,Y,_,Y,Y,?_⟩;by_cases q:a/3=b'/3
   ·have:Yf ns x="locked":=by unfold Yf;rw[e];exact if_pos q
    rw[this]at xh;rw[decide_eq_true (by congr 1;lia)];exact iteT xh
   ·have:Yf ns x="free":=by unfold Yf;rw[e];exact if_neg q
    rw[this]at xh;rw[decide_eq_false (λz=>q (by injection z;lia))];exact iteF xh
def Zfc(C ES ER EL:Addr):Sp:=λvs H Q E=>∃(p:Addr)(M:Lq)(ns:List Int)(x:Int),vs=[.ref p,.int x]/\Z7 C H p M ns/\TD M ns/\
 (x∈keys ns ns.length->∀H',Same H H'->(Yf ns x="rim"->E (.ref ER) none H')/\(Yf ns x="locked"->E (.ref EL) none H')/\(Yf ns x="free"->Q .non H'))/\(x∉keys ns ns.length->E (.ref ES) none H)
noncomputable def sqr(a b:Nat):List V:=[.int (after a),.int (Y1 a),.int (after b),.int (Y1 b)]
def Zlg(C ES ER EL:Addr):Sp:=λvs H Q E=>∃(p:Addr)(M:Lq)(ns:List Int)(x:Int),vs=[.ref p,.int x]/\Z7 C H p M ns/\TD M ns/\
 (x∈keys ns ns.length->∀H',Same H H'->(Yf ns x="rim"->E (.ref ER) none H')/\(Yf ns x="locked"->E (.ref EL) none H')/\(∀a b l,pl ns ns.length x=[a,b]->a<b->M[a]?=some (some b)->a/3≠b/3->H l=none->H' l=some (.tup (sqr a b))->Q (.ref l) H'))/\(x∉keys ns ns.length->E (.ref ES) none H)
def Jy{M:Lq}{ns:List Int}(td:TD M ns)(hx:x∈keys ns ns.length):
  (Yf ns x="rim"/\∃a,pl ns ns.length x=[a]/\M[a]?=some none)\/(Yf ns x="locked"/\∃a b,a<b/\pl ns ns.length x=[a,b]/\M[a]?=some (some b)/\a/3=b/3)\/(Yf ns x="free"/\∃a b,a<b/\pl ns ns.length x=[a,b]/\M[a]?=some (some b)/\a/3≠b/3):=by
 rcases Zac td hx with ⟨a,e,_,ma⟩|⟨a,b,t9,e,_,_,ma,_⟩
 ·exact .inl ⟨by unfold Yf;rw[e],a,e,ma⟩
 ·by_cases c:a/3=b/3
  ·exact .inr (.inl ⟨by unfold Yf;rw[e];exact if_pos c,a,b,t9,e,ma,c⟩)
  ·exact .inr (.inr ⟨by unfold Yf;rw[e];exact if_neg c,a,b,t9,e,ma,c⟩)
def t_rf:¬(("rim":Str))="free":=by decide
def t_lf:¬(("locked":Str))="free":=by decide
def t_lr:¬(("locked":Str))="rim":=by decide
def t_fr:¬(("free":Str))="rim":=by decide
def t_fl:¬(("free":Str))="locked":=by decide
def Kf(h:¬x=y):decide (V.str x=V.str y)=false:=decide_eq_false λz=>h (by injection z)
def Zlb{x:Str}:decide (V.str x=V.str x)=true:=decide_eq_true rfl
def Kl:FnScope ["tent","seam","sort"] ["tent","seam"] (Zf Fk):=Am
def Zgo(T:Txt w K mg t):(a:) 3 t.fc t.fH ["tent","seam"] (Zfc t.aa t.ax t.ku t.d3):=by
 refine T.fX.F.aX Kl (b:)
 ·obtain⟨p,M,ns,x,rfl,ta,td,k1,k2⟩:=h
  obtain ⟨dx,cl,na,sp,mt,o,f,b⟩:=id ta;refine ⟨_,(Zp (Qf (i:=2) Kl.nd Y (Or.inl Y) (Ww (pv 0) T.ah T.al.m (W8 T) (ai:) T.al.b .nil (P:)))
   (Zp (Yo (Zn Z6 (pv 2) Zk (Zm _)) (Zo (Yl T.lN FBV rfl T.k8 rfl (bv:))) Ym)
   (Zo (Yo (Zn Z6 (pv 2) Zk (Zm _)) (Zo (Yl T.k9 FBV rfl T.kO rfl (bv:))) Ym)))),?_⟩
  refine⟨b.ins,Xl _ _ _ _,p,M,ns,x,Y,ta,td,λc H' sm=>?_,k2⟩;obtain⟨j1,j2,j3⟩:=k1 c H' sm;refine⟨Y,?_⟩
  rcases Jy td c with ⟨e,_⟩|⟨e,_⟩|⟨e,_⟩
  ·rw[e,Zlb]
   exact iteT ⟨by decide,j1 e⟩
  ·rw[e,Kf t_lr]
   refine iteF ⟨Y,?_⟩;rw[Zlb];exact iteT ⟨by decide,j2 e⟩
  ·rw[e,Kf t_fr]
   refine iteF ⟨Y,?_⟩;rw[Kf t_fl];exact iteF (j3 e)
def Kk:FnScope ["tent","seam","lesser","greater"] ["tent","seam"] (Zf Zfw):=Am
def Zmd(T:Txt w K mg t):(a:) 4 t.js t.jH ["tent","seam"] (Zlg t.aa t.ax t.ku t.d3):=by
 refine T.jV.F.aX Kk (b:)
 ·obtain⟨p,M,ns,x,rfl,ta,td,k1,k2⟩:=h
  refine ⟨_,(Zp (Z2 (pxT (Zgo T) hr T.fX (Za (pv 0) (P:))))
   (Zp (Zu (Vw (Xs (pv 0) T.ah T.aJ.m (U3 T) (ai:) T.aJ.b .nil Ya (P:)) (Zs0 rfl (Yd (pgN 2 Kk.nd) (Yd (pgN 3 Kk.nd) Wk)))))
   (Zo (Zu (Zl (Jj (Za (pcT (Zgt T) hr T.jm (Z:)) (Za (pcT (Zdn T) hr T.gX (Z:)) (Za (pcT (Zgt T) hr T.jm (Za (pv 3) Zb)) (Za (pcT (Zdn T) hr T.gX (Za (pv 3) Zb)) Zb)))))))))),?_⟩;refine⟨p,M,ns,x,Y,ta,td,λc H' sm=>⟨(k1 c H' sm).1,(k1 c H' sm).2.1,λe=>?_⟩,k2⟩;obtain⟨a,b,t9,ep,em,ne⟩:∃a b,a<b/\pl ns ns.length x=[a,b]/\M[a]?=some (some b)/\a/3≠b/3:=by
   rcases Jy td c with ⟨e',_⟩|⟨e',_⟩|⟨e',q⟩
   ·exact absurd (e'.symm.trans e) t_rf
   ·exact absurd (e'.symm.trans e) t_lf
   ·exact q
  have ta':=ta.same sm;obtain⟨dx,cl,na,sp,mt,o,f,B⟩:=id ta';refine⟨B.ins,Xl _ _ _ _,p,M,ns,x,Y,ta',λ_ l hl=>?_,λz=>absurd c z⟩;rw[ep];refine⟨l,_,Y,SqL.of Zc,Y,_,_,Y,_,_,Y,Y,?_⟩;refine⟨_,Y,?_⟩;refine⟨_,Y,?_⟩;refine⟨_,Y,?_⟩;refine⟨_,Y,?_⟩;refine⟨(szR Y),λq hq=>?_⟩;obtain⟨hql,n9⟩:=Qa hq;exact(k1 c _ (Same.add (Same.add sm (sm.free hl)) (sm.free n9))).2.2 a b q ep t9 em ne (sm.free n9) Zc
def Zqo:Sp:=λvs H Q _=>∃(r:Addr)(ns:List Int)(i:Nat)(x:Int),vs=[.ref r,.int i]/\Yz H r ns/\ns[i]?=some x/\Q (.int x) H
def Zlu{ns:List Int}{i:Nat}(h:Yz H r ns)(hx:ns[i]?=some x):∃ts:List Addr,∃q,H r=some (L:)/\ts[i/3]?=some q/\H q=some (.tup (row3 ns (i/3)))/\(row3 ns (i/3))[i%3]?=some (V.int x):=by
 obtain⟨ts,h1,h2,h3⟩:=h;have hi:i<ns.length:=(Aa hx).1;have hk:i/3<ts.length:=by lia
 refine⟨ts,ts[i/3],h1,Ac hk,h3 _ _ (Ac hk),?_⟩;have g:∀j,ns[j]?=some x->ns.getD j 0=x:=λj hj=>by rw[Ad,hj];rfl
 have hm:i%3=0\/i%3=1\/i%3=2:=by lia
 rcases hm with m|m|m
 ·have:3*(i/3)=i:=by lia
  rw[m];show some (V.int (ns.getD (3*(i/3)) 0))=_;rw[this,g i hx]
 ·have:3*(i/3)+1=i:=by lia
  rw[m];show some (V.int (ns.getD (3*(i/3)+1) 0))=_;rw[this,g i hx]
 ·have:3*(i/3)+2=i:=by lia
  rw[m];show some (V.int (ns.getD (3*(i/3)+2) 0))=_;rw[this,g i hx]
def div3(i:Nat):(i:Int)/3=((i/3:Nat):Int):=by lia
def mod3(i:Nat):(i:Int)%3=((i%3:Nat):Int):=by lia
def sp_law(K:W.Frag):Sp:=λvs H Q _=>∃(a:Addr)(ns:List Int),vs=[.ref a]/\SqL K H a (T:)/\ns.length<=63/\∀H',Q (.bl true) H'
def sp_law_start{ns:List Int}(hl:ns.length<=63)(hS:SqL K H a (T:)):sp_law K [.ref a] H (λv _=>v=.bl true) λ_ _ _=>False:=⟨a,ns,rfl,hS,hl,λ_=>rfl⟩
def Yz.copy{ns:List Int}{ts:List Addr}(h1:H r=some (L:))(h2:ns.length=3*ts.length)(h3:∀(k:Nat)(t:Addr),ts[k]?=some t->H t=some (.tup (row3 ns k)))(hl:H l=none):Yz (upd H l (L:)) l ns:=
 ⟨ts,Zc,h2,λk q e=>by rw[Ze (Zi (h3 k q e) hl)];exact h3 k q e⟩
def Zn2{ns:List Int}{ts:List Addr}(g1:H1 r=some (L:))(g2:ns.length=3*ts.length)(g3:∀(k:Nat)(t:Addr),ts[k]?=some t->H1 t=some (.tup (row3 ns k)))
  (n8:H1 l=none) (hx:upd H1 l (L:) x=none) (hdx:upd H1 l (L:) dx=none):
  Yz (upd (upd (upd H1 l (L:)) dx (.own x)) x (.ins C dx [])) l ns/\Same (upd H1 l (L:)) (upd (upd (upd H1 l (L:)) dx (.own x)) x (.ins C dx [])):=by
 have s:Same (upd H1 l (L:)) (upd (upd (upd H1 l (L:)) dx (.own x)) x (.ins C dx [])):=Same.add (Same.new hdx) hx;exact⟨(Yz.copy g1 g2 g3 n8).same s,s⟩
def Ud{a b:List Int}(h1:a.Perm c)(h2:b.Perm c)(s1:a.Pairwise (·<=·))(s2:b.Pairwise (·<=·)):a=b:=
 (h1.trans h2.symm).eq_of_pairwise (λx y _ _ h1 h2=>Int.le_antisymm h1 h2) s1 s2
def Zln:FnScope ["_law_rows_here","_law_place"] ["_law_rows_here","_law_place"] (Zf Zf3):=Am
def Zmi(T:Txt w K mg t):(a:) 1 t.jB t.jR ["_law_rows_here","_law_place"] Zqo:=by
 refine T.j7.F.aR Zln (b:)
 ·obtain⟨r,ns,i,x,rfl,ny,hx,k⟩:=h
  refine⟨_,(Zh (Zl (Zr Xf (Zr Zs (pv 0) (Zj X1 (pv 1) Zd) (o:)) (Zj Z5 (pv 1) Zd) (o:)))),?_⟩;obtain⟨ts,q,e1,e2,e3,e4⟩:=Zlu ny hx;refine⟨⟨by decide,by decide⟩,SqL.of e1,(show atI _ _=some (.ref q) by rw[div3];exact Xk e2),(by show(0:Int)<3;decide),SqT.of e3,(by rw[mod3];exact Wm e4),k⟩
def Zo6{ws:List Int}:(((ws.map V.int).length:Nat):Int)=ws.length:=by rw[Ab]
def Zpn(x0:Int)(xr:List Int):cutV ((x0::xr).map V.int) (some 1) none=xr.map V.int:=by
 unfold cutV;have e1:HT.sIx ((x0::xr).map V.int).length 0 (some ((1:Nat):Int))=1:=by
  rw[HT.sIx_nat,Ab,length_cons]
  lia
 rw[show(some (1:Int))=some ((1:Nat):Int)from rfl,e1,HT.sIx_none,map_cons,drop_succ_cons,drop_zero,length_cons,Nat.add_sub_cancel,take_length]
def Zg9{α:Type}{p:α->Bool}{l:List α}{i:Nat}{x:α}(h:l[i]?=some x):(l.take (i+1)).filter p=if p x=true then(l.take i).filter p++[x] else(l.take i).filter p:=by
 rw[Aw,h,filter_append];by_cases c:p x=true
 ·simp[c]
 ·simp[c]
def Zqk:Sp:=λvs H Q _=>∃(m a:Addr)(M:Lq)(xs:List Int),vs=[.ref m,.ref a]/\H m=some (bx:)/\H a=some (.lst (xs.map V.int))/\xs≠[]/\xs.length<=60/\(∀x∈xs,0<=x/\x<1009)/\M.length<=42/\(∃n,M.length=3*n)/\(bq:)/\
 ∀(l:Addr)(ws:List Nat)(H':Hp),Same H H'->H l=none->H' l=some (.lst (ws.map nV))->ws.length<=60->(ws=[]\/Pl M ws)->Q (.ref l) H'
def Zlf(K:W.Frag):Sp:=λvs H Q _=>∃(a m:Addr)(sc:List Int)(i:Int)(M:Lq),vs=[.ref a,.int i,.ref m]/\SqL K H a (sc.map V.int)/\sc.length<=63/\0<=i/\i<1000/\H m=some (bx:)/\M.length<=42/\(∃n,M.length=3*n)/\(bq:)/\
 ∀(l:Addr)(ws:List Nat)(H':Hp),Same H H'->H l=none->H' l=some (.lst (ws.map nV))->ws.length<=60->(ws=[]\/Pl M ws)->Q (.ref l) H'
noncomputable def oy(M:Lq)(i:Nat):Bool:=match M[i]? with
 |some (some _)=>true
 |_=>false
def Qk{M:Lq}:oy M i=true ↔ ∃j,M[i]?=some (some j):=by
 unfold oy;split
 ·rename_i j h;exact⟨λ_=>⟨j,h⟩,λ_=>rfl⟩
 ·rename_i h;exact⟨λz=>absurd z (d:),λ⟨j,e⟩=>absurd e (h j)⟩
def X9:FnScope ["_law_mates","_law_nums","_law_spots","_law_row","_law_pick","_law_side","_law_ways","_law_start","_law_stop"] ["_law_mates","_law_nums"] (Zf Zfz):=Am
def Zmf(T:Txt w K mg t):(a:) 1 t.jA t.jQ ["_law_mates","_law_nums"] Zqk:=by
 refine T.j6.F.aR X9 (b:)
 ·obtain⟨m,a,M,xs,rfl,hm,ha,hx0,hx60,hx,h42,⟨n,hn⟩,inv,k⟩:=h
  refine ⟨_,(Zg (Jh (ts:=["_law_p"]) (fv:=[("_law_mates",0)]) (i:=2) (g:) rfl X9.nd rfl rfl (by rfl) (Ws rfl T.bd (Za (Z3 T.aj (D:)) Zb)) (ak:) (λ_ _ _ _=>(Zck (Zn Gp (Zr (V9 K) (pv 1) (pv 0) (o:)) U0 (Zm _)))) (ac:) (λ_ _ _ _ _ _=>Yq (pv 0)))
   (Zg (Z9 (Zn Z6 (Z3 T.aj (Z:)) Zd (Zm _)) (Zh (Zl (Y5 Zb))) Zy)
   (Zg (psN 3 X9.nd (Y5 (Za (Zr Zs (pv 2) (Zj Z5 (Zr Zs (pv 1) Zd (o:)) (Z3 T.aj (Z:))) (o:)) Zb)))
   (Zg (W9 PassesOwn.never rfl (Yk (Wx Jd (pv 1) (W6 Zd) Jw)) (pgN 4 X9.nd) (Zg (psN 5 X9.nd (Zr Zs (pv 0) (Zr Zs (pv 3) (Zum Zr7 Zd) (o:)) (o:)))
   (Zg (Jh (ts:=["_law_k"]) (fv:=[("_law_side",5)]) (i:=6) (g:) rfl X9.nd rfl rfl (by rfl) (Ws rfl T.bd (Za Zd Zb)) (ak:) (ag:) (ac:) (λ_ _ _ _ _ _=>Yq (Zj Y8 (Zj Qv (pv 1) (Zj Z5 (pv 1) Zd)) (Zj Z5 (Zj Y8 (Zj Y8 (pv 1) Zd) (pv 0)) Zd))))
   (Zg (Jh (ts:=["_law_p"]) (fv:=[("_law_mates",0)]) (i:=6) (g:) rfl X9.nd rfl rfl (by rfl) (Yk (pv 6)) (ak:) (λ_ _ _ _=>(Zck (Zn Gp (Zr (V9 K) (pv 1) (pv 0) (o:)) U0 (Zm _)))) (ac:) (λ_ _ _ _ _ _=>Yq (pv 0)))
   (Zg (Z9 (Zn Z6 (Z3 T.aj (Za (pv 6) Zb)) Zd (Zm _)) (Zh Zoo) Zy)
   (Zh (Xg (Ji (pv 3) (Za (Zr Zs (pv 6) (Zj Z5 (pv 4) (Z3 T.aj (Za (pv 6) Zb))) (o:)) Zb)))))))))
   (Zg (W9 PassesOwn.never rfl (Ws rfl T.bd (Za (Z3 T.aj (Za (pv 3) Zb)) Zb)) (pgN 7 X9.nd) (Zh (W9 PassesOwn.never rfl (Zq6 rfl T.il rfl T.bd (Za (Zj Y8 (pv 7) Zd) (Za (Z3 T.aj (Za (pv 3) Zb)) Zb))) (pgN 8 X9.nd) (Zh (Z9 (Zn Z6 (Zr Zs (pv 3) (pv 7) (o:)) (Zr Zs (pv 3) (pv 8) (o:)) (Zm _)) (Zh (Zl (Wx Jd (pv 3) (W6 (pv 7)) (W6 (pv 8))))) Zy)))))
   (Zh (Zl (Y5 Zb)))))))),?_⟩;refine Zw λm7 l7=>?_;refine⟨m,_,Y,.inl (SqL.of hm),_,Y,by lia,by rw[Ab];lia,λD hD=>?_⟩;have eL:(((M.map mV).length:Nat):Int).toNat=M.length:=by simp
  rw[eL];refine Ot (λi σ H1=>∃v,σ=[v,oR m]/\Same H H1/\H1 D=some (.lst (((List.range i).filter (oy M)).map nV))) (a0:) ?_ ?_
  ·rintro i σ H1 mr ⟨v,rfl,sm,h1⟩
   dsimp only[Zv];rw[Int.zero_add];obtain⟨y,hy⟩:∃y,M[i]?=some y:=⟨_,Ac mr⟩;have lt:(((List.range i).filter (oy M)).map nV).length<sizeLine:=by
    rw[Ab]
    have:=length_filter_le (oy M) (List.range i)
    rw[length_range]at this
    exact Zt (by lia)
   refine⟨SqL.of (sm _ _ hm),Xk hy,Y,?_⟩
   cases y with
   |none=>
    refine iteF ⟨_,Y,sm,?_⟩;rw[h1,range_succ,filter_append];have:oy M i=false:=by rw[Bool.eq_false_iff];intro z;obtain⟨j,e⟩:=Qk.mp z;rw[hy]at e;cases e
    simp[this]
   |some j=>
    refine iteT ⟨_,h1,lt,_,Y,Same.add sm hD,?_⟩;rw[Zc,range_succ,filter_append];have:oy M i=true:=Qk.mpr ⟨j,hy⟩;simp[this];rfl
  rintro σ H1 ⟨v,rfl,s1,h1⟩;refine l7 _ _ ?_;have o5:∀p∈(List.range M.length).filter (oy M),∃j,M[p]?=some (some j):=λp hp=>Qk.mp (mem_filter.mp hp).2;generalize (List.range M.length).filter (oy M)=sps at h1 o5;refine Zw λm7 l7=>⟨D,_,Y,.inl (SqL.of h1),Y,(ite2 (λc=>?_) (λc=>?_))⟩
  ·exact⟨Az _,λl hl=>k l [] _ (Same.add s1 (s1.free hl)) (s1.free hl) Zc (Az _) (.inl Y)⟩
  have mw:0<sps.length:=by
   cases sps with
   |nil=>exact absurd Y c
   |cons _ _=>simp
  dsimp only[Gk];refine l7 _ _ ?_
  obtain⟨x0,xr,rfl⟩:∃x0 xr,xs=x0::xr:=by
   cases xs with
   |nil=>exact absurd Y hx0
   |cons a b=>exact⟨a,b,Y⟩
  have k0:=Int.emod_nonneg x0 (show(sps.length:Int)≠0 by lia);have k1:=Int.emod_lt_of_pos x0 (show(0:Int)<sps.length by lia);obtain⟨kk,xq⟩:∃kk:Nat,x0%(sps.length:Int)=kk:=⟨_,(Int.toNat_of_nonneg k0).symm⟩;have qe:kk<sps.length:=by lia
  refine Zw λm7 l7=>?_;refine⟨SqL.of (s1 _ _ ha),(show atI _ ((0:Nat):Int)=_ from Wm Y),D,_,Y,.inl (SqL.of h1),(by rw[Ab];lia),SqL.of h1,(by rw[Ab,xq];exact Xk (Ac qe)),(szR Y),λr ny=>?_⟩;refine l7 _ _ ?_;have um:H r=none:=s1.free ny;obtain⟨j0,hj0⟩:=o5 _ (getElem_mem qe);have ch0:Ch M [sps[kk]]:=Ch.one hj0;generalize sps[kk]=p0 at ch0;have s2:Same H (upd H1 r (.lst [nV p0])):=Same.add s1 um;have h2:(upd H1 r (.lst [nV p0])) r=some (.lst ([p0].map nV)):=Zc;generalize upd H1 r (.lst [nV p0])=H2 at s2 h2;dsimp only[Zv];show tSeq (tFor _ _ _) _ _ _ _;refine Z4 (λσ H3=>∃(row:List Nat)(v4 v5 v6:Option V),σ=[oR m,oR a,oR D,oR r,v4,v5,v6,none,none]/\Same H H3/\H3 r=some (.lst (row.map nV))/\Ch M row/\row.length<=60) (ah:) ?_
  ·refine⟨_,Y,a,_,Y,SqL.of (s2 _ _ ha),λq hq=>?_⟩
   rw[Zpn];have hrq:r≠q:=Zi h2 hq;have xn:H q=none:=s2.free hq;refine⟨q,Y,⟨_,SqL.of Zc⟩,?_⟩;rw[length_cons]at hx60;refine Zak (xs:=xr.map V.int) (λi σ H3=>∃(row:List Nat)(v4 v5 v6:Option V),σ=[oR m,oR a,oR D,oR r,v4,v5,v6,none,none]/\Same H H3/\H3 q=some (.lst (xr.map V.int))/\H3 r=some (.lst (row.map nV))/\Ch M row/\row≠[]/\row.length<=i+1)
    ⟨[p0],none,none,none,rfl,Same.add s2 xn,Zc,by rw[Ze hrq];exact h2,ch0,by simp,by simp⟩ ?_ ?_ ?_
   ·rintro i σ H3 _ ⟨row,v4,v5,v6,rfl,s3,h3,_⟩
    exact SqL.of h3
   ·rintro i x σ H3 yc ⟨row,v4,v5,v6,rfl,s3,h3,h4,ch,rne,yt⟩
    have hi:i<xr.length:=by have:=(Aa yc).1;rw[Ab]at this;exact this
    obtain⟨qa,hpk,rfl⟩:∃qa,xr[i]?=some qa/\x=V.int qa:=by
     rw[Ah,Ac hi]at yc;exact⟨_,Ac hi,(Ax yc).symm⟩
    obtain⟨la,hla⟩:∃la,row.getLast?=some la:=by
     cases e:row.getLast? with
     |none=>exact absurd (getLast?_eq_none_iff.mp e) rne
     |some z=>exact⟨z,Y⟩
    have hlm:la∈row:=mem_of_getLast? hla;obtain⟨sd,hsd⟩:=ch.has la hlm;have hsdM:sd<M.length:=(Aa (inv la sd hsd).1).1
    have elast:atI (row.map nV) (-1)=some (nV la):=by
     unfold atI ixN
     have hl:0<row.length:=by cases row with|nil=>exact absurd rfl rne|cons _ _=>simp
     rw[if_neg (d:),if_pos (by rw[Ab];lia)];show((row.map nV)[((-1:Int)+(row.map nV).length).toNat]?)=_;rw[Ab,show((-1:Int)+(row.length:Int)).toNat=row.length-1 by lia,Ah,<-getLast?_eq_getElem?,hla];rfl
    dsimp only[Zv];refine Zw λm7 l7=>⟨_,Y,SqL.of h4,elast,SqL.of (s3 _ _ hm),Xk hsd,(l7 _ _ ?_)⟩;refine Zw λm7 l7=>⟨2,Y,by decide,by decide,λW hW=>?_⟩;have hW0:H W=none:=s3.free hW;have hWr:r≠W:=Zi h4 hW;have hWq:q≠W:=Zi h3 hW;refine Ot (n:=2) (λc σ H5=>∃v,σ=[v,some (nV sd)]/\Same H3 H5/\H5 W=some (.lst (([m6 sd 1,m6 sd 2].take c).map nV))) ⟨none,Y,Same.new hW,Zc⟩ ?_ ?_
    ·rintro c σ H5 hc ⟨v,rfl,s5,h5⟩
     dsimp only[Zv,tYes];rw[if_pos rfl];refine⟨(by show(0:Int)<3;decide),(by show(0:Int)<3;decide),_,h5,?_,_,rfl,Same.add s5 hW,?_⟩
     ·rw[Ab,Ai];exact Zt (by lia)
     ·rw[Zc]
      have hc:c=0\/c=1:=by lia
      have e:∀k:Nat,(sd:Int)-(sd:Int)%3+((sd:Int)+1+(0+(k:Int)))%3=((m6 sd (k+1):Nat):Int):=λk=>by unfold m6;omega
      rcases hc with rfl|rfl
      ·show some (HO.lst ([]++[V.int ((sd:Int)-(sd:Int)%3+((sd:Int)+1+(0+((0:Nat):Int)))%3)]))=_
       rw[e 0];rfl
      ·show some (HO.lst ([nV (m6 sd 1)]++[V.int ((sd:Int)-(sd:Int)%3+((sd:Int)+1+(0+((1:Nat):Int)))%3)]))=_
       rw[e 1];rfl
    rintro σ H5 ⟨v,rfl,s5,h5⟩;refine l7 _ _ ?_;have h5:H5 W=some (.lst ([m6 sd 1,m6 sd 2].map nV)):=h5;have sl:∀c,m6 sd c<M.length:=λc=>by rw[hn];exact Zqv (by lia)
    refine Zw λm7 l7=>⟨W,Y,⟨_,SqL.of h5⟩,λW2 hW2=>?_⟩;have s35:=s3.trans s5;refine Z8 (xs:=[m6 sd 1,m6 sd 2].map nV) (λc σ H6=>∃v,σ=[v,oR m]/\Same H5 H6/\H6 W2=some (.lst ((([m6 sd 1,m6 sd 2].take c).filter (oy M)).map nV))) ⟨none,Y,Same.new hW2,Zc⟩ ?_ ?_ ?_
    ·rintro c σ H6 _ ⟨v,rfl,s6,h6⟩
     exact SqL.of (s6 _ _ h5)
    ·rintro c x σ H6 hxc ⟨v,rfl,s6,h6⟩
     obtain⟨p,hp,rfl⟩:=Yi hxc;have hpM:p<M.length:=by
      have:=Au hp
      rcases Ar this with rfl|z
      ·exact sl 1
      ·rw[Af z];exact sl 2
     obtain⟨y,hy⟩:∃y,M[p]?=some y:=⟨_,Ac hpM⟩;dsimp only[Zv];refine⟨SqL.of (s6 _ _ (s35 _ _ hm)),Xk hy,Y,?_⟩
     cases y with
     |none=>
      refine iteF ⟨_,Y,s6,?_⟩;have:oy M p=false:=by rw[Bool.eq_false_iff];intro z;obtain⟨j,e⟩:=Qk.mp z;rw[hy]at e;cases e
      rw[h6,Zg9 hp,if_neg (by rw[this];decide)]
     |some jj=>
      refine iteT ⟨_,h6,?_,_,Y,Same.add s6 hW2,?_⟩
      ·rw[Ab]
       have h1:=length_filter_le (oy M) ([m6 sd 1,m6 sd 2].take c);have h2:([m6 sd 1,m6 sd 2].take c).length<=2:=by rw[Ai];exact Nat.min_le_right _ _
       exact Zt (by lia)
      ·rw[Zc,Zg9 hp,if_pos (Qk.mpr ⟨jj,hy⟩),Aj]
       rfl
    rintro σ H6 ⟨v,rfl,s6,h6⟩;refine l7 _ _ ?_;have h6:H6 W2=some (.lst (([m6 sd 1,m6 sd 2].filter (oy M)).map nV)):=h6;have hws:∀p∈[m6 sd 1,m6 sd 2].filter (oy M),(∃j,M[p]?=some (some j))/\p/3=sd/3/\p≠sd:=λp hp=>by
     obtain⟨z1,z2⟩:=mem_filter.mp hp
     refine⟨Qk.mp z2,?_,?_⟩
     ·rcases Ar z1 with rfl|z
      ·exact Zfm _ _
      ·rw[Af z];exact Zfm _ _
     ·rcases Ar z1 with rfl|z
      ·unfold m6;omega
      ·rw[Af z];unfold m6;omega
    generalize [m6 sd 1,m6 sd 2].filter (oy M)=wys at h6 hws;have s36:=s5.trans s6;have vz:=s36 _ _ h4;have h3':=s36 _ _ h3;have ud:=s3.trans s36;refine Zw λm7 l7=>⟨W2,_,Y,.inl (SqL.of h6),Y,(ite2 (λc=>?_) (λc=>?_))⟩
    ·exact mq _ _ ⟨row,_,_,_,Y,ud,vz,ch,by lia⟩
    have hwp:0<wys.length:=by
     cases wys with
     |nil=>exact absurd Y c
     |cons _ _=>simp
    dsimp only[Gk];refine l7 _ _ ?_;have c0:=Int.emod_nonneg qa (show(wys.length:Int)≠0 by lia);have c1:=Int.emod_lt_of_pos qa (show(0:Int)<wys.length by lia);obtain⟨cc,hcc⟩:∃cc:Nat,qa%(wys.length:Int)=cc:=⟨_,(Int.toNat_of_nonneg c0).symm⟩;have hcl:cc<wys.length:=by lia
    obtain⟨w1,w2,w3⟩:=hws _ (getElem_mem hcl);have hget:=Ac hcl;refine⟨.inl ⟨Y,_,SqL.of vz⟩,W2,_,Y,.inl (SqL.of h6),(by rw[Ab];lia),SqL.of h6,(by rw[Ab,hcc];exact Xk hget),r,_,_,Y,Y,vz,(by rw[Ab];exact Zt (by lia)),?_⟩;refine⟨row++[wys[cc]],_,_,_,Y,Same.add ud um,?_,?_,ch.snoc hla hsd w2 w3 w1,by simp,by rw[Ae,At];lia⟩
    ·rw[Ze (Ne.symm hrq)];exact h3'
    ·rw[Zc,Aj];rfl
   ·rintro σ H3 ⟨row,v4,v5,v6,rfl,s3,h3,h4,ch,rne,yt⟩
    rw[Ab]at yt;exact mq _ _ ⟨row,_,_,_,Y,s3,h4,ch,by lia⟩
  rintro σ H3 ⟨row,v4,v5,v6,rfl,s3,h3,ch,yt⟩;show tSeq (tFor _ _ _) _ _ _ _;refine Z4 (λσ H4=>H4=H3) (ah:) ?_
  ·refine⟨r,_,Y,.inl (SqL.of h3),_,Y,by lia,by rw[Ab];lia,?_⟩
   have eR:(((row.map nV).length:Nat):Int).toNat=row.length:=by simp
   rw[eR];refine Qw (n:=row.length) (λi σ H4=>∃v7 v8,σ=[oR m,oR a,oR D,oR r,v4,v5,v6,v7,v8]/\H4=H3) ⟨_,_,Y,Y⟩ ?_ ?_
   ·rintro i σ H4 hi ⟨v7,v8,rfl,rfl⟩
    dsimp only[Zv];rw[Int.zero_add];refine⟨r,_,Y,.inl (SqL.of h3),((i+1:Nat):Int),row.length-(i+1),?_,by lia,by lia,?_⟩
    ·rw[Ab]
     show[V.int ((i:Int)+1),V.int (row.length:Int)]=_;rw[show((i:Int)+1)=((i+1:Nat):Int) by lia,show(row.length:Int)=((i+1:Nat):Int)+((row.length-(i+1):Nat):Int) by lia]
    refine Zkp (n:=row.length-(i+1)) (λc σ H5=>∃v8,σ=[oR m,oR a,oR D,oR r,v4,v5,v6,oI i,v8]/\H5=H4) ⟨_,Y,Y⟩ ?_ ?_
    ·rintro c σ H4 hc ⟨v8,rfl,rfl⟩
     obtain⟨e,he,hie,hel⟩:∃e:Nat,((i+1:Nat):Int)+((row.length-(i+1):Nat):Int)-1+(c:Int)*-1=(e:Int)/\i<e/\e<row.length:=⟨row.length-1-c,by lia,by lia,by lia⟩;dsimp only[Zv];rw[he];have gi:=Ac hi;have ge:=Ac hel;refine⟨SqL.of h3,Xk gi,SqL.of h3,Xk ge,Y,(ite2 (λz=>?_) (λz=>?_))⟩
     ·have z:nV row[i]=nV row[e]:=of_decide_eq_true z
      have z:row[i]=row[e]:=by unfold nV at z;injection z with z;lia
      refine⟨_,Y,_,Y,r,_,Y,SqL.of h3,λl hl=>?_⟩;have ec:cutV (row.map nV) (some (i:Int)) (some (e:Int))=((row.drop i).take (e-i)).map nV:=by
       unfold cutV
       rw[HT.sIx_nat,HT.sIx_nat,Ab,Nat.min_eq_left (by lia),Nat.min_eq_left (by lia),map_take,map_drop]
      rw[ec];refine k l _ _ (Same.add s3 (s3.free hl)) (s3.free hl) Zc ?_ (.inr (ch.cut hie gi (by rw[ge,z])));rw[Ai,length_drop];lia
     ·exact⟨_,Y,Y⟩
    ·rintro σ H4 ⟨v8,rfl,rfl⟩
     exact⟨_,_,Y,Y⟩
   ·rintro σ H4 ⟨v7,v8,rfl,rfl⟩
    exact mq _ _ Y
  ·rintro σ H4 rfl
   exact⟨Az _,λl hl=>k l [] _ (Same.add s3 (s3.free hl)) (s3.free hl) Zc (Az _) (.inl Y)⟩
noncomputable def Gj(ws:List Int)(by':Int):List Int:=rot ws (by'%ws.length).toNat
def Zle:Sp:=λvs H Q _=>∃(a:Addr)(ws:List Int)(b:Int),vs=[.ref a,.int b]/\H a=some (.lst (ws.map V.int))/\ws.length<=100000/\∀(l:Addr)(H':Hp),Same H H'->H l=none->H' l=some (.lst ((Gj ws b).map V.int))->Q (.ref l) H'
def Zff(C:Addr):Sp:=λvs H Q _=>∃(p:Addr)(M:Lq)(ns:List Int)(x:Int),vs=[.ref p,.int x]/\Z7 C H p M ns/\M.length=ns.length/\Q (.bl (We M x)) H
def Zjv(C:Addr):Sp:=λvs H Q _=>∃(p:Addr)(M:Lq)(ns:List Int)(a x:Int),vs=[.ref p,.int a,.int x]/\Z7 C H p M ns/\M.length=ns.length/\We M a=true/\Q (.bl (U8 M a x)) H
def Zob(C:Addr):Sp:=λvs H Q _=>∃(p a:Addr)(M:Lq)(ns ws:List Int),vs=[.ref p,.ref a]/\Z7 C H p M ns/\M.length=ns.length/\H a=some (.lst (ws.map V.int))/\ws.length<=100000/\∀H',Same H H'->Q (.bl (W0 M ws)) H'
def Zb7(C EN:Addr):Sp:=λvs H Q E=>∃(p a:Addr)(M:Lq)(ns ws:List Int),vs=[.ref p,.ref a]/\Z7 C H p M ns/\M.length=ns.length/\H a=some (.lst (ws.map V.int))/\ws.length<=100000/\∀H',Same H H'->(W0 M ws=true->Q .non H')/\(W0 M ws=false->E (.ref EN) none H')
def Za0{n:Nat}(h:n<=100000):n<=sizeLine:=by rw[sizeLine_eq];lia
def Zpo{ws:List Int}(h:s<=ws.length):cutV (ws.map V.int) (some (s:Int)) none=(ws.drop s).map V.int:=by
 unfold cutV;rw[HT.sIx_nat,HT.sIx_none,Ab,Nat.min_eq_left h,map_drop,take_of_length_le];rw[length_drop,Ab];exact An _
def Ztp{ws:List Int}(h:s<=ws.length):cutV (ws.map V.int) none (some (s:Int))=(ws.take s).map V.int:=by
 unfold cutV;rw[HT.sIx_none,HT.sIx_nat,Ab,Nat.min_eq_left h,drop_zero,Nat.sub_zero,map_take]
def Fd:FnScope ["_law_script","_law_at","_law_mates","_law_cell_here"] ["_law_script","_law_at","_law_mates"] (Zf Za8):=Am
def Zh8(T:Txt w K mg t):(a:) 2 t.gE t.gS ["_law_script","_law_at","_law_mates"] (Zlf K):=by
 refine T.hG.F.aR Fd (b:)
 ·obtain⟨a,m,sc,i,M,rfl,hS,hl,i0,i1,hm,h42,hn,inv,k⟩:=h
  refine ⟨_,(Zg (psN 3 Fd.nd (pcT (Wt T) hr T.aZ (Za (pv 0) (P:))))
   (Zh (Zl (pcT (Zmf T) hr T.j6 (Za (pv 2) (Za (pcT (V3 T) hr T.bO (Za (Zj X1 (pv 3) Zd) (Za (Zj Y8 Zd (Zj Z5 (pv 3) Zd)) Zb))) Zb)))))),?_⟩;refine⟨a,sc,i,Y,hS,hl,i0,by lia,?_⟩;dsimp only[Zv];generalize cell sc i=c;have m0:0<=c%50:=Int.emod_nonneg _ (d:);have m1:c%50<50:=Int.emod_lt_of_pos _ (d:);have e:(4+c%50:Int)=((4+(c%50).toNat:Nat):Int):=by lia
  refine⟨⟨by decide,by decide⟩,(by show(0:Int)<50;decide),_,4+(c%50).toNat,(by rw[<-e];rfl),by lia,λp xs H1 s1 hp h1 we hx=>?_⟩;refine⟨m,p,M,xs,Y,s1 _ _ hm,h1,λz=>by rw[z]at we;simp at we;lia,by lia,hx,h42,hn,inv,λl ws H2 s2 pf h2 hw oa=>k l ws H2 (s1.trans s2) (s1.free pf) h2 hw oa⟩
def Zc4:FnScope ["word","by","start"] ["word","by"] (Zf Zfv):=Am
def Zmc(T:Txt w K mg t):(a:) 1 t.ju t.jJ ["word","by"] Zle:=by
 refine T.jX.F.aR Zc4 (b:)
 ·obtain⟨a,ws,b,rfl,ha,hl,k⟩:=h
  refine ⟨_,(Zg (Z9 (Xi (Vu (pv 0) (λ_=>rfl))) (Zh (Zl (Y5 Zb))) Zy)
   (Zg (psN 2 Zc4.nd (Zj Z5 (pv 1) (Z3 T.aj (D:))))
   (Zh (Zl (Zj Zbk (Wx Jd (pv 0) (W6 (pv 2)) Jw) (Wx Jd (pv 0) Jw (W6 (pv 2)))))))),?_⟩;refine Zw λm7 l7=>⟨_,.inl ⟨_,SqL.of ha,Y⟩,?_⟩;by_cases mw:ws=[]
  ·subst mw
   exact iteT ⟨Az _,λl hl'=>k l _ (Same.new hl') hl' (by rw[Zc];unfold Gj rot;simp)⟩
  ·have e:(!(ws.map V.int).isEmpty)=true:=by cases ws with|nil=>exact absurd rfl mw|cons _ _=>rfl
   have hp:0<ws.length:=by cases ws with|nil=>exact absurd rfl mw|cons _ _=>simp
   rw[e];refine iteF ?_;dsimp only[Gk];refine l7 _ _ ?_;have k0:=Int.emod_nonneg b (show(ws.length:Int)≠0 by lia);have k1:=Int.emod_lt_of_pos b (show(0:Int)<ws.length by lia);obtain⟨st,ou⟩:∃st:Nat,b%(ws.length:Int)=st:=⟨_,(Int.toNat_of_nonneg k0).symm⟩;have z6:st<=ws.length:=by lia
   have et:Gj ws b=ws.drop st++ws.take st:=by unfold Gj rot;rw[ou,Int.toNat_natCast]
   refine⟨a,_,Y,.inl (SqL.of ha),(by rw[Ab];lia),?_⟩;dsimp only[Zv];rw[Zo6,ou];refine⟨_,Y,a,_,Y,SqL.of ha,λl1 h1=>?_⟩;rw[Zpo z6];have s1:Same H (upd H l1 (.lst ((ws.drop st).map V.int))):=Same.new h1;refine⟨_,Y,a,_,Y,SqL.of (s1 _ _ ha),λl2 h2=>?_⟩;rw[Ztp z6];obtain⟨xb,h2'⟩:=Qa h2;refine⟨l1,l2,_,_,Y,Y,by rw[Ze (Ne.symm xb),Zc],Zc,?_,λl3 h3=>?_⟩
   ·rw[Ab,Ab,length_drop,Ai];exact Za0 (by lia)
   ·have s3:=Same.add (o:=.lst ((ws.take st).map V.int)) s1 h2'
    refine k l3 _ (Same.add s3 (s3.free h3)) (s3.free h3) ?_;rw[Zc,et,Aj]
def Zfr:FnScope ["tent","place"] ["tent","place"] (Zf Fq):=Am
def Zgr(T:Txt w K mg t):(a:) 4 t.fh t.fJ ["tent","place"] (Zff t.aa):=by
 refine T.fZ.F.aR Zfr (b:)
 ·obtain⟨p,M,ns,x,rfl,ta,wt,k⟩:=h
  obtain⟨dx,cl,na,sp,mt,o,f,b⟩:=id ta;refine⟨_,(Zh (Zl (Vz (Xs (pv 0) T.ah T.aC.m (Q5 T) (ai:) T.aC.b .nil Ya (P:)) (Vx (Y3 Gp (Xs (pv 0) T.ah T.bj.m (K6 T) (ai:) T.bj.b .nil Ya (P:)) U0 (Zm _)))))),?_⟩;refine⟨b.ins,Xl _ _ _ _,p,M,ns,x,Y,ta,_,Y,?_⟩;by_cases c:0<=x/\x<(ns.length:Int)
  ·rw[decide_eq_true c]
   refine iteT ⟨b.ins,Xl _ _ _ _,p,M,ns,x,Y,ta,wt,λi y e1 e2=>?_,λz=>absurd c z⟩;refine⟨Y,?_⟩
   have:We M x=!decide (mV y=.non):=by
    unfold We;rw[e1,Int.toNat_natCast,Ad,e2,decide_eq_true (show(0:Int)<=i/\(i:Int)<M.length by lia)];cases y<;>rfl
   rw[this]at k;exact k
  ·rw[decide_eq_false c]
   have:We M x=false:=by unfold We;rw[decide_eq_false (by lia)];rfl
   rw[this]at k;exact iteF k
def Za2:FnScope ["tent","ahead","place","entry"] ["tent","ahead","place"] (Zf Zdh):=Am
def Zkh(T:Txt w K mg t):(a:) 4 t.iy t.iM ["tent","ahead","place"] (Zjv t.aa):=by
 refine T.i4.F.aR Za2 (b:)
 ·obtain⟨p,M,ns,a,x,rfl,ta,wt,hc,k⟩:=h
  obtain ⟨dx,cl,na,sp,mt,o,f,b⟩:=id ta;refine ⟨_,(Zg (psN 3 Za2.nd (Xs (pv 0) T.ah T.bj.m (K6 T) (ai:) T.bj.b .nil Ya (P:)))
   (Zh (Zl (Vz (Y3 Z6 (pcT (Qo T) hr T.bB (Z:)) (pcT (Qo T) hr T.bB (Za (pv 3) Zb)) (Zm _)) (Vx (Y3 Jo (pv 2) (pv 3) (Zm _))))))),?_⟩
  obtain⟨ny,wk⟩:=Bool.and_eq_true_iff.mp hc;have ny:=of_decide_eq_true ny;obtain⟨m,hm⟩:=Option.isSome_iff_exists.mp wk;have hal:a.toNat<M.length:=by lia
  have ha:M[a.toNat]?=some (some m):=by rw[Ad,Ac hal]at hm;rw[Ac hal];exact congrArg some hm
  have ef:U8 M a x=(decide (x/3=(m:Int)/3)&&!decide (x=(m:Int))):=by unfold U8;rw[hm]
  rw[ef]at k;refine⟨b.ins,Xl _ _ _ _,p,M,ns,a,Y,ta,wt,λi y e1 e2=>?_,λz=>absurd (show 0<=a/\a<(ns.length:Int) by lia) z⟩;have:i=a.toNat:=by lia
  subst this;rw[ha]at e2;cases e2;refine⟨_,Y,_,Y,Y,_,Y,?_⟩;have dI:∀u v:Int,decide (V.int u=V.int v)=decide (u=v):=λu v=>by
   by_cases z:u=v
   ·subst z;simp
   ·rw[decide_eq_false z,decide_eq_false (λy=>z (by injection y))]
  rw[dI];by_cases z:x/3=(m:Int)/3
  ·rw[decide_eq_true z]at k⊢
   refine iteT ⟨Y,?_⟩;show Q (.bl (!decide (V.int x=V.int (m:Int)))) H;rw[dI];exact k
  ·rw[decide_eq_false z]at k⊢
   exact iteF k
def Zog:FnScope ["tent","word"] ["tent","word"] (Zf Zio):=Am
def Zoy(T:Txt w K mg t):(a:) 5 t.ko t.kz ["tent","word"] (Zob t.aa):=by
 refine T.kD.F.aR Zog (b:)
 ·obtain⟨p,a,M,ns,ws,rfl,ta,wt,ha,hl,k⟩:=h
  refine ⟨_,(Zg (Z9 (PW.pt (Je (Xi (Vu (pv 1) (λ_=>rfl))) (Wj (Xi (Xn (Ye (Zaq Y) (by rfl) T.k6 PyProof.Rows.boot_all (Za (Yt (ts:=["place"]) (fv:=[("tent",0)]) (g:) rfl (Yk (pv 1)) (ak:) (ag:) (ac:) (λ_ _ _ _ _ _=>Yq (pcT (Zgr T) hr T.fZ (Za (pv 1) (D:))))) Zb))))))) (Zh (Zl Wh)) Zy)
   (Zh (Zl (Ye (Zaq rfl) (by rfl) T.k6 PyProof.Rows.boot_all (Za (Yt (ts:=["ahead","place"]) (fv:=[("tent",0)]) (g:) rfl (Zq4 rfl T.l4 (Za (pv 1) (Za (pcT (Zmc T) hr T.jX (Za (pv 1) (Za Zd Zb))) Zb))) (λ_ _ _ _=>(Zcn (n:=2) K rfl (Yd (pgN 0 nd3) (Yd (pgN 1 nd3) Wk)))) (ag:) (ac:) (λ_ _ _ _ _ _=>Yq (pcT (Zkh T) hr T.i4 (Za (pv 2) (Za (pv 0) (P:)))))) Zb))))),?_⟩;refine Zw λm7 l7=>⟨_,.inl ⟨_,SqL.of ha,Y⟩,?_⟩;by_cases mw:ws=[]
  ·subst mw
   exact iteT (k _ (Same.refl _))
  ·have e:(!(ws.map V.int).isEmpty)=true:=by cases ws with|nil=>exact absurd rfl mw|cons _ _=>rfl
   have e':(!ws.isEmpty)=true:=by cases ws with|nil=>exact absurd rfl mw|cons _ _=>rfl
   have hp:0<ws.length:=by cases ws with|nil=>exact absurd rfl mw|cons _ _=>simp
   rw[e];refine iteF ?_;refine⟨a,Y,⟨_,SqL.of ha⟩,λD hD=>Z8 (xs:=ws.map V.int) (λi σ H1=>∃v,σ=[v,oR p]/\Same H H1/\H1 D=some (.lst (((ws.take i).map (We M)).map V.bl))) (a0:) ?_ ?_ ?_⟩
   ·rintro i σ H1 _ ⟨v,rfl,sm,h1⟩
    exact SqL.of (sm _ _ ha)
   ·rintro i x σ H1 hx ⟨v,rfl,sm,h1⟩
    obtain⟨y,hy,rfl⟩:=Yi hx;dsimp only[Zv,tYes];rw[if_pos rfl];refine⟨p,M,ns,y,Y,ta.same sm,wt,_,h1,?_,_,Y,Same.add sm hD,?_⟩
    ·rw[Ab,Ab,Ai,sizeLine_eq];lia
    ·rw[Zc,Aw,hy,Aj,Aj];rfl
   rintro σ H1 ⟨v,rfl,s1,h1⟩;rw[Ab,take_length]at h1;refine⟨D,_,Y,SqL.of h1,?_⟩;by_cases hc:(ws.map (We M)).all id=true
   ·rw[hc]
    refine iteF ?_;dsimp only[Gk];refine l7 _ _ ?_;refine⟨a,ws,1,Y,s1 _ _ ha,hl,λtl H2 s2 htl h2=>?_⟩;have ql:=s1.trans s2;have et:Gj ws 1=rot ws (1%ws.length):=by
     unfold Gj
     congr 1
    rw[et]at h2;have hrl:(rot ws (1%ws.length)).length=ws.length:=Zir ws (Nat.le_of_lt (mod_lt _ hp));have hcr:∀y∈ws,We M y=true:=λy hy=>all_eq_true.mp hc _ (mem_map.mpr ⟨y,hy,rfl⟩);have ep:W0 M ws=(Q8 M ws (rot ws (1%ws.length))).all id:=by unfold W0;rw[e',hc];rfl
    have k':=λH' s'=>k H' s';rw[ep]at k';generalize rot ws (1%ws.length)=vs at h2 hrl k';refine⟨.l a,.l tl,_,_,Y,SqL.of (ql _ _ ha),SqL.of h2,λD2 ph=>Zmp (S:=.l a) (T:=.l tl) (xs:=ws.map V.int) (ys:=vs.map V.int) (by rw[Ab,Ab,hrl]) (λi σ H3=>∃v v',σ=[v,v',oR p]/\Same H2 H3/\H3 D2=some (.lst (((Q8 M ws vs).take i).map V.bl))) ⟨none,none,Y,Same.new ph,Zc⟩ ?_ ?_ ?_⟩
    ·rintro i σ H3 _ ⟨v,v',rfl,s3,h3⟩
     exact⟨SqL.of (s3 _ _ (ql _ _ ha)),SqL.of (s3 _ _ h2)⟩
    ·rintro i x y σ H3 q hx hy hq ⟨v,v',rfl,s3,h3⟩
     obtain⟨x',p4,rfl⟩:=Yi hx;obtain⟨y',ue,rfl⟩:=Yi hy;have s4:Same H3 (upd H3 q (.tup [V.int x',V.int y'])):=Same.new hq;refine⟨q,_,Y,SqT.of Zc,Y,_,_,Y,_,_,Y,Y,?_⟩;dsimp only[tYes];rw[if_pos rfl];refine⟨p,M,ns,x',y',Y,((ta.same ql).same s3).same s4,wt,hcr x' (Au p4),_,s4 _ _ h3,?_,_,_,Y,Same.add (s3.trans s4) ph,?_⟩
     ·rw[Ab,Ai]
      have:(Q8 M ws vs).length<=ws.length:=by unfold Q8;rw[Ab,length_zip];lia
      rw[sizeLine_eq];lia
     ·have:(Q8 M ws vs)[i]?=some (U8 M x' y'):=by
       unfold Q8;rw[Ah,getElem?_zip_eq_some (z:=(x',y')) |>.mpr ⟨p4,ue⟩];rfl
      rw[Zc,Aw,this,Aj];rfl
    rintro σ H3 ⟨v,v',rfl,s3,h3⟩;have oa:(Q8 M ws vs).length=ws.length:=by unfold Q8;rw[Ab,length_zip];lia
    rw[Ab,take_of_length_le (Nat.le_of_eq oa)]at h3;exact⟨D2,_,Y,SqL.of h3,k' _ (ql.trans s3)⟩
   ·have hc:(ws.map (We M)).all id=false:=by rw[Bool.eq_false_iff];exact hc
    rw[hc];have ep:W0 M ws=false:=by unfold W0;rw[hc];simp
    have:=k _ s1;rw[ep]at this;exact iteT this
def Zcc:FnScope ["tent","word"] ["tent","word"] (Zf O5):=Am
def Zco(T:Txt w K mg t):(a:) 6 t.de t.dk ["tent","word"] (Zb7 t.aa t.ay):=by
 refine T.dw.F.aX Zcc (b:)
 ·obtain⟨p,a,M,ns,ws,rfl,ta,wt,ha,hl,k⟩:=h
  refine⟨_,(Zo (Yo (Xi (Xn (pcT (Zoy T) hr T.kD (Za (pv 0) (P:))))) (Zo (Yl T.kh FBV Y T.gd Y (bv:))) Ym)),?_⟩;refine⟨p,a,M,ns,ws,Y,ta,wt,ha,hl,λH' s'=>?_⟩;obtain⟨k1,k2⟩:=k H' s'
  cases e:W0 M ws with
  |true=>exact iteF (k1 e)
  |false=>exact iteT ⟨by decide,k2 e⟩
noncomputable def dI(ks:List Int)(f:Int->Int):List (Key×V):=ks.map λx=>((Sum.inl x:Key),V.int (f x))
def Zhc(h:y∈ks):valV (dI ks f) (Sum.inl y)=some (V.int (f y)):=by unfold dI;rw[Jc,if_pos h]
def Ztn(h:y∈ks):putK (dI ks f) (Sum.inl y) (V.int v)=dI ks λx=>if x=y then v else f x:=by
 unfold dI;rw[Zit h];apply map_congr_left;intro x _;by_cases c:x=y
 ·simp[c]
 ·simp[c]
def Zto(h:y∉ks):putK (dI ks f) (Sum.inl y) (V.int v)=dI (ks++[y]) λx=>if x=y then v else f x:=by
 unfold dI;rw[Zcj h,Aj];congr 1
 ·apply map_congr_left
  intro x hx;have:x≠y:=λz=>h (z▸hx);simp[this]
 ·simp
def Gg{ks:List Int}:(dI ks f).length=ks.length:=by unfold dI;simp
noncomputable def crP(M:Lq)(ws:List Nat)(p:Nat):Int:=((ws.countP λq=>decide (q=p\/M[q]?=some (some p)):Nat):Int)
def Zpr{α:Type}{f:α->Bool}{l:List α}{i:Nat}{x:α}(h:l[i]?=some x):(l.take (i+1)).countP f=(l.take i).countP f+if f x=true then 1 else 0:=by
 rw[Aw,h,countP_append];simp[countP_cons]
def Zpp{M:Lq}{ws:List Nat}{i q m:Nat}(h:ws[i]?=some q)(hm:M[q]?=some (some m))(ne:q≠m)(p:Nat):crP M (ws.take (i+1)) p=if p=m then crP M (ws.take i) m+1 else if p=q then crP M (ws.take i) q+1 else crP M (ws.take i) p:=by
 unfold crP;rw[Zpr h];by_cases c:p=m
 ·subst c
  rw[if_pos rfl,if_pos (decide_eq_true (.inr hm))];lia
 ·rw[if_neg c]
  by_cases d:p=q
  ·subst d
   rw[if_pos rfl,if_pos (decide_eq_true (.inl rfl))];lia
  ·rw[if_neg d,if_neg]
   ·lia
   ·intro z
    rcases of_decide_eq_true z with e|e
    ·exact d e.symm
    ·rw[hm]at e;cases e;exact c Y
noncomputable def rowI(n:Nat)(f:Nat->Int):List V:=(List.range n).map λp=>V.int (f p)
def Xz(n:Nat)(f:Nat->Int):(rowI n f).length=n:=by unfold rowI;simp
def Vh(h:p<n):(rowI n f)[p]?=some (V.int (f p)):=by unfold rowI;rw[Ah,getElem?_range h];rfl
def Zgc:(rowI n f).set p (V.int v)=rowI n λq=>if q=p then v else f q:=by
 apply ext_getElem?;intro i;by_cases hi:i<n
 ·rw[Vh hi,getElem?_set,Xz]
  by_cases c:p=i
  ·subst c;simp[hi]
  ·rw[if_neg c,Vh hi,if_neg (λz=>c z.symm)]
 ·rw[Ay (by rw[length_set,Xz];lia),Ay (by rw[Xz];lia)]
def Zj7(h:∀p,f p=g p):rowI n f=rowI n g:=by unfold rowI;exact map_congr_left λp _=>by rw[h p]
def Zoc:Sp:=λvs H Q _=>∃(r c:Addr)(ns:List Int)(f:Nat->Int),vs=[.ref r,.ref c]/\Yz H r ns/\ns.length<=1000/\H c=some (.lst (rowI ns.length f))/\
 ∀(l:Addr)(g:Int->Int)(H':Hp),Same H H'->H l=none->H' l=some (.dK (dI (s:) g))->(∀x∈keys ns ns.length,∃p,ns[p]?=some x/\g x=f p)->Q (.ref l) H'
def Zlh:Sp:=λvs H Q _=>∃(p q:Addr)(ks o8:List Int)(f g:Int->Int),vs=[.ref p,.ref q]/\H p=some (.dK (dI ks f))/\H q=some (.dK (dI o8 g))/\p≠q/\ks.Perm o8/\(∀x∈ks,f x=g x)/\Q (.bl true) H
def Zqb(h:H a=some o):upd (upd H a u) a o=H:=by
 funext b;by_cases c:b=a
 ·subst c;rw[Zc,h]
 ·rw[Ze c,Ze c]
theorem U6(ns:List Int):∀n,(keys ns n).length<=n
 |0=>An _
 |n+1=>by
  have ih:=U6 ns n
  cases h:ns[n]? with
  |none=>
   have:keys ns (n+1)=keys ns n:=by
    show(E:)=_;rw[h]
   rw[this];lia
  |some x=>
   rw[Wu h];split
   ·lia
   ·rw[Ae,At];lia
def Zc5:FnScope ["_law_found","_law_due","_law_seam_here"] ["_law_found","_law_due"] (Zf Zf6):=Am
def Zdm(T:Txt w K mg t):(a:) 2 t.jC t.jS ["_law_found","_law_due"] Zlh:=by
 refine T.hJ.F.aR Zc5 (b:)
 ·obtain⟨p,q,ks,o8,f,g,rfl,hp,hq,hpq,hk,hf,k⟩:=h
  have hu:=Wc hr;refine ⟨_,(Zg (Z9 (PW.pt (Je (Xi (Xn (Ye Jm (by rfl) T.ba PyProof.Rows.boot_isinstance (Za (pv 0) (Za (U1 (v:=.ty "dict") (by rfl) T.eY PySem.Pv.boot_dict rfl) Zb))))) (Wj (Zn Jo (Ye Zdy (by rfl) T.aj PySem.boot_len (D:)) (Ye Zdy (by rfl) T.aj PySem.boot_len (P:)) (Zm _))))) (Zh (Zl Wh)) Zy)
   (Zg (Zq3 (W9 PassesOwn.never rfl (Zq7 (pv 0)) (pgN 2 Zc5.nd) (Zg (Z9 (PW.pt (Je (Xi (Xn (pcT (Va T) hr T.b6 (Z:)))) (Wj (Uy (K2 hu (pv 2) (pv 1)) (ao:))))) (Zh (Zl Wh)) Zy)
   (Zh (Z9 (PW.pt (Je (Xi (Xn (pcT (Va T) hr T.b6 (Za (Wl hu (pv 0) (pv 2) (o:)) Zb)))) (Wj (Zn Jo (Wl hu (pv 0) (pv 2) (o:)) (Wl hu (pv 1) (pv 2) (o:)) (Zm _))))) (Zh (Zl Wh)) Zy)))))
   (Zh (Zl Wh)))),?_⟩
  refine Zw λm7 l7=>?_;refine⟨_,"dict",_,true,rfl,TyOf.dK hp,Ou,?_⟩;refine⟨p,_,Y,hp,q,_,Y,hq,Y,?_⟩;rw[Gg,Gg,hk.length_eq,decide_eq_true rfl];refine iteF ?_;refine l7 _ _ ?_;refine Z4 (λσ H'=>H'=H) (ah:) ?_
  ·refine⟨p,_,Y,.inl ⟨hp,λo=>?_⟩⟩
   have n9:(upd H p (.frz o (.dK (dI ks f)))) q=some (.dK (dI o8 g)):=by rw[Ze (Ne.symm hpq)];exact hq
   refine Zph (λi σ H9=>∃v,σ=[oR p,oR q,v]/\H9=upd H p (.frz o (.dK (dI ks f)))) ⟨_,Y,Y⟩ ?_ ?_ ?_
   ·rintro i σ H9 _ ⟨v,rfl,rfl⟩
    exact Zc
   ·rintro i k0 x0 σ H9 t7 ⟨v,rfl,rfl⟩
    obtain⟨y,hy,rfl⟩:∃y,y∈ks/\k0=Sum.inl y:=by
     unfold dI at t7;rw[Ah]at t7
     cases e:ks[i]? with
     |none=>rw[e]at t7;cases t7
     |some z=>rw[e]at t7;cases t7;exact⟨z,Au e,Y⟩
    have d1:DGet (upd H p (.frz o (.dK (dI ks f)))) p (.int y) (some (V.int (f y))):=.inl ⟨_,Sum.inl y,.inr ⟨o,Zc⟩,rfl,(Zhc hy).symm⟩;have d2:DGet (upd H p (.frz o (.dK (dI ks f)))) q (.int y) (some (V.int (g y))):=.inl ⟨_,Sum.inl y,.inl n9,rfl,(Zhc (hk.mem_iff.mp hy)).symm⟩;dsimp only[Zv,kV];refine Zw λm7 l7=>?_;refine⟨y,Y,?_⟩;refine⟨q,_,Y,d2,l7 _ _ ?_⟩;refine⟨p,_,Y,d1,_,Y,?_⟩;refine⟨p,_,Y,d1,q,_,Y,d2,Y,?_⟩;rw[hf y hy,decide_eq_true rfl];exact iteF ⟨_,Y,Y⟩
   ·rintro σ H9 ⟨v,rfl,rfl⟩
    refine⟨p,o,_,Zc,λo' u z=>?_,?_⟩
    ·have z:H p=some (.frz o' u):=z
     rw[hp]at z;cases z
    ·rw[Zqb hp];exact mq _ _ Y
  ·rintro σ H' rfl
   exact k
def Oh:FnScope ["_law_rows_here","_law_counts","_law_due","_law_p"] ["_law_rows_here","_law_counts"] (Zf Zde):=Am
def Zkf(T:Txt w K mg t):(a:) 1 t.iG t.iW ["_law_rows_here","_law_counts"] Zoc:=by
 refine T.i8.F.aR Oh (b:)
 ·obtain⟨r,c,ns,f,rfl,ny,hl,hc,k⟩:=h
  have hu:=Wc hr;refine ⟨_,(Zg (psN 2 Oh.nd Vy)
   (Zg (W9 PassesOwn.never rfl (Ws rfl T.bd (Za (Z3 T.aj (P:)) Zb)) (pgN 3 Oh.nd) (Zh (Ziy hu (pv 2) (Zr Xf (Zr Zs (pv 0) (Zj X1 (pv 3) Zd) (o:)) (Zj Z5 (pv 3) Zd) (o:)) (Zr Zs (pv 1) (pv 3) (o:)) rfl)))
   (Zh (Zl (pv 2))))),?_⟩
  intro d hd;have s1:Same H (upd H d (.dK [])):=Same.new hd;dsimp only[Zv];show tSeq (tFor _ _ _) _ _ _ _;refine Z4 (λσ H'=>∃(g:Int->Int)(v:Option V),σ=[oR r,oR c,oR d,v]/\Same H H'/\H' d=some (.dK (dI (s:) g))/\∀x∈keys ns ns.length,∃p,ns[p]?=some x/\g x=f p) (ah:) ?_
  ·refine⟨c,_,Y,.inl (SqL.of (s1 _ _ hc)),_,Y,by rw[Xz];lia,by rw[Xz];lia,?_⟩
   have eL:((((rowI ns.length f).length:Nat):Int)).toNat=ns.length:=by rw[Xz,Int.toNat_natCast]
   rw[eL];refine Qw (n:=ns.length) (λi σ H'=>∃(g:Int->Int)(v:Option V),σ=[oR r,oR c,oR d,v]/\Same H H'/\H' d=some (.dK (dI (keys ns i) g))/\∀x∈keys ns i,∃p,ns[p]?=some x/\g x=f p) ⟨λ_=>0,_,Y,s1,Zc,λx hx=>by simp[keys]at hx⟩ ?_ ?_
   ·rintro i σ H' hi ⟨g,v,rfl,s2,t8,hg⟩
    dsimp only[Zv];rw[Int.zero_add];obtain⟨y,hy⟩:∃y,ns[i]?=some y:=⟨_,Ac hi⟩;obtain⟨ts',q,e1,e2,e3,e4⟩:=Zlu (ny.same s2) hy;have wq:=s2 _ _ hc;refine⟨SqL.of wq,Wm (Vh hi),?_⟩;refine⟨⟨by decide,by decide⟩,SqL.of e1,(show atI _ _=some (.ref q) by rw[div3];exact Xk e2),(by show(0:Int)<3;decide),SqT.of e3,(by rw[mod3];exact Wm e4),?_⟩;refine⟨d,_,Y,DPut.k (k:=Sum.inl y) t8 (by rw[Gg];exact Zt (by have:=U6 ns i;lia)),?_⟩;refine⟨λx=>if x=y then f i else g x,_,Y,Same.add s2 hd,?_,?_⟩
    ·rw[Zc,Wu hy]
     by_cases z:y∈keys ns i
     ·rw[if_pos z,Ztn z]
     ·rw[if_neg z,Zto z]
    ·intro x hx
     by_cases z:x=y
     ·subst z
      exact⟨i,hy,if_pos Y⟩
     ·have:x∈keys ns i:=by
       rw[Wu hy]at hx;split at hx
       ·exact hx
       ·rcases mem_append.mp hx with q'|q'
        ·exact q'
        ·exact absurd (Af q') z
      obtain⟨p,h1,h2⟩:=hg x this;exact⟨p,h1,by show(if x=y then f i else g x)=f p;rw[if_neg z];exact h2⟩
   ·rintro σ H' ⟨g,v,rfl,s2,t8,hg⟩
    exact mq _ _ ⟨g,v,Y,s2,t8,hg⟩
  ·rintro σ H' ⟨g,v,rfl,s2,t8,hg⟩
   exact k d g H' s2 hd t8 hg
structure Cnts(ws:List Str)(ks:List Int)(f:Int->Int):Prop where
 len:ws.length=ks.length
 up:ks.Pairwise (·<·)
 pr:∀(i:Nat)y x,ws[i]?=some y->ks[i]?=some x->prP 58 y=some (x,f x)
def CntW(ws:List Str)(E:Prop)(Q:List Int->(Int->Int)->Prop):Prop:=((∃w∈ws,prP 58 w=none)/\E)\/∃ks f,Cnts ws ks f/\Q ks f
def Zfg(EB:Addr):Sp:=λvs H Q E=>∃(a:Addr)(ws:List Str),vs=[.ref a]/\H a=some (.lst (ws.map V.str))/\ws.length<64/\(∀x∈ws,Asc x/\x.length<=900)/\
 CntW ws (∀H',Same H H'->E (.ref EB) none H') λks f=>∀(c:Addr)(H':Hp),Same H H'->H c=none->H' c=some (.dK (dI ks f))->Q (.ref c) H'
def Zay(EB:Addr):Sp:=λvs H Q E=>∃(a:Addr)(n:Str)(r:List Str),vs=[.ref a]/\H a=some (.lst ((n::r).map V.str))/\r≠[]/\r.length<63/\(∀x∈n::r,Asc x/\x.length<=900)/\isN n=true/\
 CntW r (∀H',Same H H'->E (.ref EB) none H') λks f=>∀(l c:Addr)(H':Hp),Same H H'->H l=none->H c=none->H' l=some (.tup [.str n,.ref c])->H' c=some (.dK (dI ks f))->Q (.ref l) H'
def Vo:FnScope ["words","pairs","seams"] ["words"] (Zf Fr):=Am
def Zgs(T:Txt w K mg t):(a:) 5 t.fB t.fS ["words"] (Zfg t.ag):=by
 refine T.f8.F.okLA Vo (λvs H Q E h=>?_) (b:)
 ·obtain⟨a,ws,rfl,_⟩:=h
  rfl
 ·obtain⟨a,ws,rfl,ha,my,hw,hb⟩:=h
  refine ⟨_,(λ_ L=>(Z0 (Vv (ts:=["word"]) (fv:=[]) (i:=1) L (l:) rfl Vo.nd rfl rfl (by rfl) (Yk (pv 0)) (ar:) (ag:) (ac:) (λ_ _ _ _ _ _=>Oo (On (Q4 T) (ai:) rfl T.aD.g T.aD.F.kp T.aD.b .nil (Za (pv 0) (bv:)))))
   (Z0 (Yp L.l (Zu (Jh (ts:=["seam","number"]) (fv:=[]) (i:=2) (l:) rfl Vo.nd rfl rfl (by rfl) (Yk (pv 1)) (λ_ _ _ _=>(Zcn (n:=2) K rfl (Yd (pgN 0 nd2) (Yd (pgN 1 nd2) Wk)))) (ag:) (ac:) (λ_ _ _ _ _ _=>Yq (pv 0)))))
   (Z0 (Yp L.l (Z2 (pxT (Yx T) hr T.am (Za (Y3 (Zs7 hr.units) (pv 2) (Ye (Zhh rfl) (by rfl) T.cL PyProof.Rows.boot_sorted (Za (Ys (Znr rfl) (by rfl) T.lZ PySem.Pv.boot_set (Z:)) Zb)) (Zm _)) Zb))))
   (Xd (Yp L.l (Zu (Zl (Ys (Zkx rfl) (by rfl) T.eY PySem.Pv.boot_dict (P:)))))))))),?_⟩;refine⟨a,Y,⟨_,SqL.of ha⟩,λD hD=>?_⟩;refine Z8 (xs:=ws.map V.str) (λi σ H6=>∃(v:Option V)(us:List Addr),σ=[v]/\Same H H6/\H6 D=some (.lst (us.map V.ref))/\us.length=i/\(∀w∈ws.take i,prP 58 w≠none)/\∀(k:Nat)u w,us[k]?=some u->ws[k]?=some w->u≠D/\∀m n,prP 58 w=some (m,n)->H6 u=some (.tup [.int m,.int n])) ⟨none,[],rfl,Same.new hD,Zc,rfl,λ_ z=>(by cases z),λ_ _ _ z=>(by cases z)⟩ ?_ ?_ ?_
  ·rintro i σ H6 _ ⟨v,us,rfl,s6,_⟩
   exact SqL.of (s6 _ _ ha)
  ·rintro i q σ H6 hq ⟨v,us,rfl,s6,h6,hl,hs,ea⟩
   obtain⟨x,hx,rfl⟩:=Yi hq;have hxm:=Au hx;have qu:=(Aa hx).1;have pp:=hw x hxm;dsimp only[Zv,tYes];rw[if_pos rfl];refine⟨x,58,Y,pp.1,pp.2,λi1 i2 e m H7 s7 hm h7=>?_,λe H7 s7=>?_⟩
   ·have hmD:m≠D:=λz=>by rw[z,h6]at hm;cases hm
    refine⟨_,s7 _ _ h6,by rw[Ab,hl,sizeLine_eq];lia,_,us++[m],rfl,Same.add (s6.trans s7) hD,by rw[Zc,Aj];rfl,by rw[Ae,hl];rfl,λw hw'=>?_,λk' u w' e1 e2=>?_⟩
    ·rw[Aw,hx]at hw'
     rcases mem_append.mp hw' with z|z
     ·exact hs w z
     ·have:w=x:=by simpa using z
      rw[this,e];exact λz=>nomatch z
    ·by_cases c:k'<us.length
     ·rw[Av c]at e1
      obtain⟨z1,z2⟩:=ea k' u w' e1 e2;exact⟨z1,λm' n' e'=>by rw[Ze z1];exact s7 _ _ (z2 m' n' e')⟩
     ·have e':k'=us.length:=by
       have:=(Aa e1).1;rw[Ae,At]at this;lia
      subst e';rw[getElem?_append_right (An _),Nat.sub_self]at e1;rw[hl,hx]at e2;cases e1;cases e2;exact⟨hmD,λm' n' e'=>by rw[Ze hmD];rw[e]at e';cases e';exact h7⟩
   ·rcases hb with ⟨_,k⟩|⟨ks,f,c,_⟩
    ·exact k _ (s6.trans s7)
    ·have:=c.pr i x _ hx (Ac (by rw[<-c.len];exact qu))
     rw[this]at e;cases e
  rintro σ H6 ⟨v,us,rfl,s6,h6,hl,hs,ea⟩;rw[Ab]at hl;rw[Ab,take_length]at hs
  rcases hb with ⟨⟨x,hx,e⟩,_⟩|⟨ks,f,c,k⟩
  ·exact absurd e (hs x hx)
  have hks:=c.len;have eas:∀(i:Nat)u x,us[i]?=some u->ks[i]?=some x->H6 u=some (.tup [.int x,.int (f x)]):=λi u x e1 e2=>by
   have hi:i<ws.length:=by rw[hks];exact(Aa e2).1
   exact(ea i u _ e1 (Ac hi)).2 _ _ (c.pr i _ x (Ac hi) e2)
  refine⟨D,Y,⟨_,SqL.of h6⟩,λD2 ph=>?_⟩;refine Z8 (xs:=us.map V.ref) (λi σ H8=>∃(v1 v2:Option V),σ=[v1,v2]/\Same H6 H8/\H8 D2=some (.lst ((ks.take i).map V.int))) ⟨none,none,Y,Same.new ph,Zc⟩ ?_ ?_ ?_
  ·rintro i σ H8 _ ⟨v1,v2,rfl,s8,_⟩
   exact SqL.of (s8 _ _ h6)
  ·rintro i q σ H8 hq ⟨v1,v2,rfl,s8,h8⟩
   obtain⟨u,hu,rfl⟩:=Yi hq;have qu:i<ks.length:=by rw[<-hks,<-hl];exact(Aa hu).1
   have hki:=Ac qu;refine⟨u,_,Y,SqT.of (s8 _ _ (eas i u _ hu hki)),Y,_,_,Y,_,_,Y,Y,?_⟩;dsimp only[tYes];rw[if_pos rfl];refine⟨_,h8,by rw[Ab,Ai,sizeLine_eq];lia,_,_,rfl,Same.add s8 ph,?_⟩;rw[Zc,Aw,hki,Aj];rfl
  rintro σ H8 ⟨v1,v2,rfl,s8,h8⟩;rw[Ab,hl,hks,take_length]at h8;refine⟨D2,ks,Y,SqL.of h8,by lia,λq hq=>?_⟩;have nd:ks.Nodup:=c.up.imp λh e=>absurd (e▸h) (Int.lt_irrefl _);have pm:(dd ks).Perm ks:=(perm_ext_iff_of_nodup (Zpm ks) nd).mpr λx=>Ztl;refine⟨q,dd ks,Y,Zc,(by rw[pm.length_eq];lia),λq2 out hq2 pm2 so=>?_⟩;have s9:=(Same.new (o:=setH P w q (dd ks)) hq).trans (Same.new (o:=.lst (out.map V.int)) hq2);have eo:ks=out:=Ud (.refl _) (pm2.trans pm) (c.up.imp λh=>Int.le_of_lt h) so;refine⟨D2,q2,ks,out,Y,Y,SqL.of (s9 _ _ h8),SqL.of Zc,_,Y,λ_=>?_,λe=>absurd eo (of_decide_eq_false e)⟩;have xw:=s8.trans s9;refine⟨D,us,dI ks f,Y,xw _ _ h6,by rw[hl,hks,Gg],λi u kv e1 e2=>?_,?_,λp hp'=>k p _ ((s6.trans xw).trans (Same.new hp')) ((s6.trans xw).free hp') Zc⟩
  ·unfold dI at e2
   obtain⟨x,hx,rfl⟩:=by rw[Ah]at e2;exact Option.map_eq_some_iff.mp e2
   exact xw _ _ (eas i u x e1 hx)
  ·unfold dI
   rw[map_map]
   exact c.up.map _ λa b h e=>by injection e with e;exact absurd (e▸h) (Int.lt_irrefl _)
def Zj2:FnScope ["words"] ["words"] (Zf Zc9):=Am
def Zkd(T:Txt w K mg t):(a:) 6 t.cW t.iR ["words"] (Zay t.ag):=by
 refine T.i5.F.okLA Zj2 (λvs H Q E h=>?_) (b:)
 ·obtain⟨a,n,r,rfl,_⟩:=h
  rfl
 ·obtain⟨a,x,r,rfl,ha,mw,my,hw,hN,hb⟩:=h
  refine ⟨_,(λ_ L=>(Z0 (Yp L.l (Z2 (pxT (Yx T) hr T.am (Za (Y3 Zev (Z3 T.aj (D:)) Zd (Zm _)) Zb))))
   (Xd (Jt (Qg (Y2 (Jn L (pxT (Q9 T) hr T.bZ (Za (Zr Zs (pv 0) Zd (o:)) Zb))) (Y2 (Jn L (pxT (Zgs T) hr T.f8 (Za (Wx Jd (pv 0) (W6 Zd) Jw) Zb))) (V0 Zb)))))))),?_⟩;have ny:1<=r.length:=length_pos_iff.mpr mw;refine⟨a,_,Y,.inl (SqL.of ha),_,Y,λe=>?_,λe=>absurd (of_decide_eq_false e) (by rw[Ab,length_cons];lia)⟩;have p1:=hw x mem_cons_self;refine⟨SqL.of ha,(show atI (List.map V.str (x::r)) ((0:Nat):Int)=some (V.str x)from Xk (i:=0) Y),x,Y,p1.1,p1.2,λH2 s2=>⟨λz=>?_,λz=>by rw[hN]at z;cases z⟩⟩;refine⟨_,Y,a,_,Y,SqL.of (s2 _ _ ha),λc hc=>?_⟩;rw[cut1];have s3:Same H2 (upd H2 c (.lst (r.map V.str))):=Same.new hc;refine⟨c,r,Y,Zc,by lia,λq hq=>hw q (mem_cons_of_mem _ hq),?_⟩
  rcases hb with ⟨b,k⟩|⟨ks,f,cn,k⟩
  ·exact .inl ⟨b,λH' s'=>k _ (s2.trans (s3.trans s'))⟩
  ·refine .inr ⟨ks,f,cn,λd H' s' hd h'=>⟨(szR Y),λl hl=>?_⟩⟩
   have s4:=s2.trans (s3.trans s');exact k l d _ (s4.trans (Same.new hl)) (s4.free hl) ((s2.trans s3).free hd) Zc (by rw[Ze (Zi h' hl)];exact h')
structure Wd(x:Str):Prop where
 asc:Asc x
 len:x.length<=900
noncomputable def rdK(t:Adr):List (Key×V):=[(Sum.inr "lay",.ref t.d0),(Sum.inr "pour",.ref t.cW),(Sum.inr "lift",.ref t.eJ),(Sum.inr "weigh",.ref t.cg),(Sum.inr "turn",.ref t.cX)]
def Ur(v:Str)(sp:Sp):Sp:=λvs H Q E=>∃(x:Str)(r:List Str),vs=[.str x]/\x.length<=5000/\o6 x=v::r/\
 ∀(c:Addr)(H1:Hp),Same H H1->H c=none->H1 c=some (.lst (r.map V.str))->sp [.ref c] H1 (λu H'=>([V.str v,u]:List V).length<=sizeLine/\∀l,H' l=none->Q (.ref l) (upd H' l (.tup [.str v,u]))) E
def Ol:FnScope ["text","words","reader"] ["text"] (Zf Zdk):=Am
def Gq(T:Txt w K mg t){nm v:Str}{st:Stmt}{f:Addr}{fd:FuncData}{sp:Sp}(F:(a:) 6 f fd ["words"] sp)(p:FT K mg nm st ["words"] f fd)(hv:valV (rdK t) (Sum.inr v)=some (.ref f)):
  FnOk P w K mg base (CXr P w) 7 t.eK t.eP ["text"] (Ur v sp):=by
 refine T.bx.F.okLA Ol (λvs H Q E h=>?_) (b:)
 ·obtain⟨x,r,rfl,_⟩:=h
  rfl
 ·obtain⟨x,r,rfl,hz,hw,k⟩:=h
  refine ⟨_,(λ_ L=>(Z0 (Yp L.l (Zu (psN 1 Ol.nd (bo:))))
   (Z0 (Yp L.l (Z2 (pxT (Yx T) hr T.am (Za (Zs1 (Zs2 (Zr Zs (pv 1) Zd (o:)) (Y7 (v:=.ref t.bw) rfl T.ie rfl)) (ao:)) Zb))))
   (Z0 (Yp L.l (Zu (psN 2 Ol.nd (Zq9 (Y7 (v:=.ref t.bw) rfl T.ie rfl) (Zr Zs (pv 1) Zd (o:)) (o:)))))
   (Xd (Jt (Qg (Y2 (Zbh (Zr Zs (pv 1) Zd (o:))) (Y2 (Jn L (Zl3 (i:=2) F (ai:) rfl (Or.inl rfl) p.F.kp p.b .nil (Za (Wx Jd (pv 1) (W6 Zd) Jw) Zb))) (V0 Zb)))))))))),?_⟩;refine⟨Y,x,Str.ofString " ",rfl,rfl,rfl,by rw[sizeLine_eq];lia,λl hl=>?_⟩;have s1:Same H (upd H l (b2:)):=Same.new hl;have h1:(upd H l (b2:)) l=some (b2:):=Zc;rw[show Txt.split x (M:)=o6 x from rfl];generalize upd H l (.lst ((o6 x).map V.str))=H1 at s1 h1⊢;rw[hw]at h1;have h0:atI (List.map V.str (v::r)) ((0:Nat):Int)=some (V.str v):=Xk (i:=0) rfl;refine⟨SqL.of h1,h0,t.bw,_,Sum.inr v,Y,T.ig,Y,_,Y,λ_=>?_,λe=>?_⟩
  ·refine⟨SqL.of h1,h0,t.bw,_,Sum.inr v,_,Y,T.ig,Y,hv,?_⟩
   refine⟨SqL.of h1,h0,?_⟩;refine⟨Y,_,Y,l,_,Y,SqL.of h1,λc hc=>?_⟩;rw[cut1];have s2:=s1.trans (Same.new (o:=.lst (r.map V.str)) hc);exact k c _ s2 (s1.free hc) Zc
  ·have e:(valV (rdK t) (Sum.inr v)).isSome=false:=e
   rw[hv]at e;cases e
noncomputable def tp(v:Nat×Nat):HO:=.tup [V.int v.1,V.int v.2]
noncomputable def wD(ks:List Int)(ad:Int->Addr):List (Key×V):=ks.map λx=>((Sum.inl x:Key),V.ref (ad x))
def WAt(H:Hp)(d:Addr)(ks:List Int)(g:Int->Nat×Nat):Prop:=∃ad:Int->Addr,H d=some (.dK (wD ks ad))/\∀x∈ks,H (ad x)=some (tp (g x))
def WAt.same{H H':Hp}{d:Addr}{ks:List Int}{g:Int->Nat×Nat}(h:WAt H d ks g)(s:Same H H'):WAt H' d ks g:=by
 obtain⟨ad,h1,h2⟩:=h;exact⟨ad,s _ _ h1,λx hx=>s _ _ (h2 x hx)⟩
def WAt.congr{H:Hp}{d:Addr}{ks:List Int}{g g':Int->Nat×Nat}(h:WAt H d ks g)(e:∀x∈ks,g x=g' x):WAt H d ks g':=by
 obtain⟨ad,h1,h2⟩:=h;exact⟨ad,h1,λx hx=>by rw[<-e x hx];exact h2 x hx⟩
def Zas(ks:List Int)(ad:Int->Addr):(wD ks ad).length=ks.length:=by unfold wD;rw[Ab]
def Zk2{ks:List Int}{ad:Int->Addr}{y:Int}:valV (wD ks ad) (Sum.inl y)=if y∈ks then some (V.ref (ad y))else none:=by unfold wD;rw[Jc]
def Zr6{H:Hp}{d:Addr}{ks:List Int}{ad:Int->Addr}{y:Int}(h:Rd H d (.dK (wD ks ad)))(hy:y∈ks):DGet H d (.int y) (some (V.ref (ad y))):=.inl ⟨_,Sum.inl y,h,rfl,by rw[Zk2,if_pos hy]⟩
def WAt.put{H:Hp}{d q:Addr}{ks:List Int}{g:Int->Nat×Nat}{ad:Int->Addr}{y:Int}{v:Nat×Nat}(h1:H d=some (.dK (wD ks ad)))(h2:∀x∈ks,H (ad x)=some (tp (g x)))(hq:H q=some (tp v))(hy:y∈ks):
  WAt (upd H d (.dK (putK (wD ks ad) (Sum.inl y) (V.ref q)))) d ks (putG g y v):=by
 have nd:∀r u,H r=some (tp u)->r≠d:=λr u h z=>by rw[z,h1]at h;cases h
 refine⟨λx=>if x=y then q else ad x,?_,λx hx=>?_⟩
 ·rw[Zc]
  unfold wD;rw[Zit hy];congr 2;apply map_congr_left;intro x _;by_cases c:x=y
  ·simp[c]
  ·simp[c]
 ·unfold putG
  show upd H d _ (if x=y then q else ad x)=some (tp (if x=y then v else g x));by_cases c:x=y
  ·rw[if_pos c,if_pos c,Ze (nd _ _ hq)];exact hq
  ·rw[if_neg c,if_neg c,Ze (nd _ _ (h2 x hx))];exact h2 x hx
def WAt.new{H:Hp}{d q:Addr}{ks:List Int}{g:Int->Nat×Nat}{ad:Int->Addr}{y:Int}{v:Nat×Nat}(h1:H d=some (.dK (wD ks ad)))(h2:∀x∈ks,H (ad x)=some (tp (g x)))(hq:H q=some (tp v))(hy:y∉ks):
  WAt (upd H d (.dK (putK (wD ks ad) (Sum.inl y) (V.ref q)))) d (ks++[y]) (putG g y v):=by
 have nd:∀r u,H r=some (tp u)->r≠d:=λr u h z=>by rw[z,h1]at h;cases h
 refine⟨λx=>if x=y then q else ad x,?_,λx hx=>?_⟩
 ·rw[Zc]
  unfold wD;rw[Zcj hy,Aj];congr 3
  ·apply map_congr_left
   intro x hx;have:x≠y:=λz=>hy (z▸hx);simp[this]
  ·simp
 ·unfold putG
  show upd H d _ (if x=y then q else ad x)=some (tp (if x=y then v else g x));by_cases c:x=y
  ·rw[if_pos c,if_pos c,Ze (nd _ _ hq)];exact hq
  ·rw[if_neg c,if_neg c]
   have p4:x∈ks:=by
    rcases mem_append.mp hx with z|z
    ·exact z
    ·exact absurd (Af z) c
   rw[Ze (nd _ _ (h2 x p4))];exact h2 x p4
def okD(m n:Nat):Prop:=Nat.gcd m n<2^8900
def Zi5{m n:Nat}(hm:1<=m)(h:okD m n):Zez (m:Int) (Nat.gcd m n:Nat)/\Zez (n:Int) (Nat.gcd m n:Nat):=by
 have h1:0<Nat.gcd m n:=gcd_pos_of_pos_left _ hm;have h3:(((Nat.gcd m n:Nat):Int)).natAbs.log2<9000:=by
  refine Ag (log2_lt (k:=8900) ?_ (d:)) (d:)
  rw[Int.natAbs_natCast]
  exact h
 exact⟨⟨by lia,h3⟩,⟨by lia,h3⟩⟩
def Zml{m n:Nat}(hm:1<=m)(h:m<2^8900):okD m n:=Nat.lt_of_le_of_lt (le_of_dvd hm (gcd_dvd_left _ _)) h
def Zlj:Sp:=λvs H Q _=>∃a b:Nat,vs=[.int a,.int b]/\Q (.int (Nat.gcd a b:Nat)) H
def F8(EF:Addr):Sp:=λvs H Q E=>∃a b:Int,vs=[.int a,.int b]/\(1<=a->1<=b->Q .non H)/\(a<1\/b<1->E (.ref EF) none H)
def Zhu(EF:Addr):Sp:=λvs H Q E=>∃a b:Int,vs=[.int a,.int b]/\(∀m n:Nat,a=m->b=n->1<=m->1<=n->okD m n/\∀p,H p=none->Q (.ref p) (upd H p (tp (lowN m n))))/\(a<1\/b<1->E (.ref EF) none H)
def Zd4(C:Addr):Sp:=λvs H Q _=>∃(p:Addr)(M:Lq)(ns:List Int),vs=[.ref p]/\Z7 C H p M ns/\TD M ns/\ns.length<64/\∀(l:Addr)(H':Hp)(out:List Int),Same H H'->H l=none->H' l=some (.lst (out.map V.int))->out.Pairwise (·<=·)->SwK M ns out->Q (.ref l) H'
def Zb9(C:Addr):Sp:=λvs H Q _=>∃(p:Addr)(M:Lq)(ns:List Int),vs=[.ref p]/\Z7 C H p M ns/\TD M ns/\ns.length<64/\∀(d:Addr)(H':Hp)(ks:List Int),Same H H'->H d=none->WAt H' d ks (λ_=>(1,1))->SwK M ns ks->Q (.ref d) H'
def Vn{M:Lq}{ns:List Int}(td:TD M ns){x:Int}(hx:x∈keys ns ns.length):SwN M ns x ↔ Yf ns x≠"rim":=by
 constructor
 ·rintro⟨p,j,h1,h2⟩ e
  rcases Jy td hx with ⟨_,a,e1,ma⟩|⟨e',_⟩|⟨e',_⟩
  ·have hp:p∈pl ns ns.length x:=Xj.mpr ⟨(Aa h2).1,h2⟩
   rw[e1,mem_singleton]at hp;rw[hp,ma]at h1;cases h1
  ·exact t_lr (e'.symm.trans e)
  ·exact t_fr (e'.symm.trans e)
 ·intro e
  rcases Jy td hx with ⟨e',_⟩|⟨_,a,b,_,e1,ma,_⟩|⟨_,a,b,_,e1,ma,_⟩
  ·exact absurd e' e
  ·have hp:a∈pl ns ns.length x:=by rw[e1];exact mem_cons_self
   exact⟨a,b,ma,(Xj.mp hp).2⟩
  ·have hp:a∈pl ns ns.length x:=by rw[e1];exact mem_cons_self
   exact⟨a,b,ma,(Xj.mp hp).2⟩
def SwK.len{M:Lq}{ns ks:List Int}(sw:SwK M ns ks)(td:TD M ns):ks.length<=ns.length:=by
 have e:ks.Perm ((s:).filter λx=>decide (x∈ks)):=(perm_ext_iff_of_nodup sw.nd ((Vc ns ns.length).filter _)).mpr λx=>by
  rw[mem_filter,decide_eq_true_eq];exact⟨λh=>⟨((sw.mem x).mp h).key td,h⟩,λh=>h.2⟩
 have h1:=e.length_eq;have h2:=length_filter_le (λx=>decide (x∈ks)) (s:);have h3:=V7 ns ns.length;lia
noncomputable def swB(ns:List Int)(x:Int):Bool:=!decide (V.str (Yf ns x)=V.str "rim")
def Zqj{ns:List Int}{x:Int}:swB ns x=true ↔ Yf ns x≠"rim":=by
 unfold swB;rw[Bool.not_eq_true',decide_eq_false_iff_not];exact⟨λh e=>h (by rw[e]),λh e=>h (by injection e)⟩
def G8{α:Type}{f:α->Bool}{l:List α}{i:Nat}{x:α}(h:l[i]?=some x):(l.take (i+1)).filter f=if f x=true then(l.take i).filter f++[x] else(l.take i).filter f:=by
 rw[Aw,h,filter_append];by_cases c:f x=true
 ·simp[c]
 ·simp[c]
def Q1:FnScope ["one","other"] ["one","other"] (Zf Vr):=Am
def G7(T:Txt w K mg t):(a:) 1 t.bR t.bV ["one","other"] Zlj:=by
 refine T.bY.F.aR Q1 (b:)
 ·obtain⟨a,b,rfl,k⟩:=h
  refine ⟨_,(Zg (Ju PassesOwn.never (Vu (pv 1) (λ_=>rfl)) (Zh (Zlx (i:=0) (j:=1) Y Q1.nd Y Y (d:) Y Y (Za (pv 1) (Za (Zj Z5 (pv 0) (pv 1)) Zb)) (by rfl))))
   (Zh (Zl (pv 0)))),?_⟩;refine⟨λm σ H1=>∃a' b':Nat,b'=m/\H1=H/\σ=[oI a',oI b']/\Nat.gcd a' b'=Nat.gcd a b,⟨b,a,b,Y,Y,Y,Y⟩,?_⟩;rintro m σ H1 ⟨a',b',rfl,rfl,rfl,e⟩;refine⟨_,Y,?_⟩;by_cases z:b'=0
  ·subst z
   refine iteF ?_;rw[gcd_zero_right]at e;rw[e];exact k
  ·have hz:((b':Int)!=0)=true:=by simp;lia
   rw[hz];refine iteT ⟨_,λσ' H' h=>h,?_⟩;refine⟨(by show(0:Int)<b';lia),_,_,rfl,a'%b',mod_lt _ (by lia),b',a'%b',rfl,rfl,?_,?_⟩
   ·rw[Int.natCast_emod];rfl
   ·rw[<-e,gcd_comm a' b',gcd_rec b' a',gcd_comm]
def Zaa:FnScope ["top","bottom"] ["top","bottom"] (Zf Ui):=Am
def Zaf(T:Txt w K mg t):(a:) 1 t.cq t.cu ["top","bottom"] (F8 t.br):=by
 refine T.cw.F.aX Zaa (b:)
 ·obtain⟨a,b,rfl,k1,k2⟩:=h
  refine⟨_,(Zo (Yo (PW.pt (Je (Zn J1 (pv 0) Zd (Zm _)) (Wj (Zn J1 (pv 1) Zd (Zm _))))) (Zo (Yl T.jq FBV Y T.ix Y (bv:))) Ym)),?_⟩;refine ite2 (λc=>?_) (λc=>?_)
  ·have c:a<1:=by simpa using c
   exact iteT ⟨by decide,k2 (.inl c)⟩
  ·have c:¬a<1:=by simpa using c
   refine(ite2 (λd=>?_) (λd=>?_))
   ·have d:b<1:=by simpa using d
    exact⟨by decide,k2 (.inr d)⟩
   ·have d:¬b<1:=by simpa using d
    exact k1 (by lia) (by lia)
def Fe:FnScope ["top","bottom","measure"] ["top","bottom"] (Zf Za9):=Am
def Zh9(T:Txt w K mg t):(a:) 2 t.gy t.gL ["top","bottom"] (Zhu t.br):=by
 refine T.gZ.F.aX Fe (b:)
 ·obtain⟨a,b,rfl,k1,k2⟩:=h
  refine ⟨_,(Zp (Z2 (pxT (Zaf T) hr T.cw (Za (pv 0) (P:))))
   (Zp (Zu (psN 2 Fe.nd (pcT (G7 T) hr T.bY (Za (pv 0) (P:)))))
   (Zo (Zu (Zl (Jj (Za (Zj Op (pv 0) (pv 2)) (Za (Zj Op (pv 1) (pv 2)) Zb)))))))),?_⟩;refine⟨a,b,Y,λha hb=>?_,k2⟩;obtain⟨m,rfl⟩:∃m:Nat,a=m:=⟨a.toNat,by lia⟩;obtain⟨n,rfl⟩:∃n:Nat,b=n:=⟨b.toNat,by lia⟩;obtain⟨hbg,k⟩:=k1 m n rfl rfl (by lia) (by lia);obtain⟨g1,g2⟩:=Zi5 (m:=m) (n:=n) (by lia) hbg;refine⟨m,n,Y,?_⟩;dsimp only[Zv];refine⟨g1,g2,(szR Y),λp hp=>?_⟩;exact k p hp
def Zeb:FnScope ["tent"] ["tent"] (Zf Ks):=Am
def Zek(T:Txt w K mg t):(a:) 3 t.dU t.d5 ["tent"] (Zd4 t.aa):=by
 refine T.eB.F.aR Zeb (b:)
 ·obtain⟨p,M,ns,rfl,ta,td,my,k⟩:=h
  refine⟨_,(Zh (Zl (Yt (ts:=["seam"]) (fv:=[("tent",0)]) (g:) rfl (Yk (Yr (pv 0) T.ah T.aS.m (Ka T) (ai:) T.aS.b .nil Ya)) (ak:) (λ_ _ _ _=>(Zck (Zn Jo (Xs (pv 1) T.ah T.al.m (W8 T) (ai:) T.al.b .nil Ya (D:)) Zk (Zm _)))) (ac:) (λ_ _ _ _ _ _=>Yq (pv 0))))),?_⟩;obtain⟨dx,cl,na,sp,mt,o,ff,b⟩:=id ta;refine⟨b.ins,Xl _ _ _ _,p,M,ns,Y,ta,my,λl ks n8 hpm ou=>?_⟩;have s1:Same H (upd H l (.lst (ks.map V.int))):=Same.new n8;have h1:(upd H l (.lst (ks.map V.int))) l=some (.lst (ks.map V.int)):=Zc;generalize upd H l (.lst (ks.map V.int))=H1 at s1 h1⊢;have qe:ks.length<=64:=by rw[hpm.length_eq];have:=V7 ns ns.length;lia
  refine⟨l,Y,⟨_,SqL.of h1⟩,λD hD=>Z8 (xs:=ks.map V.int) (λi σ H3=>∃v,σ=[v,oR p]/\Same H1 H3/\H3 D=some (.lst (((ks.take i).filter (swB ns)).map V.int))) (a0:) ?_ ?_ ?_⟩
  ·rintro i σ H3 _ ⟨v,rfl,s3,h3⟩
   exact SqL.of (s3 _ _ h1)
  ·rintro i x σ H3 hx ⟨v,rfl,s3,h3⟩
   obtain⟨y,hy,rfl⟩:=Yi hx;have hyk:y∈keys ns ns.length:=hpm.mem_iff.mp (Au hy);have ta3:=(ta.same s1).same s3;obtain⟨dx,cl,na,sp,mt,o,ff,b⟩:=id ta3;dsimp only[Zv];refine⟨b.ins,Xl _ _ _ _,p,M,ns,y,Y,ta3,td,λ_ H4 s4=>?_,λz=>absurd hyk z⟩;refine⟨Y,?_⟩;show if swB ns y=true then _ else _
   have lt:(((ks.take i).filter (swB ns)).map V.int).length<sizeLine:=by
    rw[Ab];have:=length_filter_le (swB ns) (ks.take i);rw[Ai]at this;exact Zt (by lia)
   by_cases c:swB ns y=true
   ·rw[if_pos c]
    refine⟨_,s4 _ _ h3,lt,_,Y,Same.add (s3.trans s4) hD,?_⟩;rw[Zc,G8 hy,if_pos c,Aj];rfl
   ·rw[if_neg c]
    refine⟨_,Y,s3.trans s4,?_⟩;rw[s4 _ _ h3,G8 hy,if_neg c]
  ·rintro σ H3 ⟨v,rfl,s3,h3⟩
   rw[Ab,take_length]at h3;refine k D H3 _ (s1.trans s3) (s1.free hD) h3 (ou.filter _) ⟨(hpm.nodup_iff.mpr (Vc ns ns.length)).filter _,λx=>?_⟩;rw[mem_filter,hpm.mem_iff,Zqj];refine⟨λzz57=>?_,λh=>⟨h.key td,(Vn td (h.key td)).mp h⟩⟩;obtain⟨h1,h2⟩:=zz57;exact(Vn td h1).mpr h2
def Zcd:FnScope ["tent"] ["tent"] (Zf O7):=Am
def Zcq(T:Txt w K mg t):(a:) 4 t.dh t.dn ["tent"] (Zb9 t.aa):=by
 refine T.dB.F.aR Zcd (b:)
 ·obtain⟨p,M,ns,rfl,ta,td,my,k⟩:=h
  have hu:=Wc hr;refine⟨_,(Zh (Zl (Zl6 (ts:=["seam"]) (fv:=[]) (l:) rfl (Yk (pcT (Zek T) hr T.eB (D:))) (ar:) (ag:) (ac:) (λ_ _ _ _ _ _=>Zou (pv 0) (Jj (Za Zd (Za Zd Zb))))))),?_⟩;refine⟨p,M,ns,Y,ta,td,my,λl H1 ks s1 n8 h1 _ sw=>?_⟩;have qe:ks.length<=64:=by
   have:=sw.len td
   lia
  refine⟨l,Y,⟨_,SqL.of h1⟩,λD hD=>Z8 (xs:=ks.map V.int) (λi σ H3=>∃v,σ=[v]/\Same H1 H3/\WAt H3 D (ks.take i) λ_=>(1,1)) ⟨none,Y,Same.new hD,λ_=>0,Zc,λx hx=>by simp at hx⟩ ?_ ?_ ?_⟩
  ·rintro i σ H3 _ ⟨v,rfl,s3,h3⟩
   exact SqL.of (s3 _ _ h1)
  ·rintro i x σ H3 hx ⟨v,rfl,s3,ad,h3,h4⟩
   obtain⟨y,hy,rfl⟩:=Yi hx;dsimp only[Zv,tYes];rw[if_pos rfl];refine⟨(szR Y),λq hq=>?_⟩;have sq:Same H3 (upd H3 q (.tup [V.int 1,V.int 1])):=Same.new hq;have n9:(upd H3 q (.tup [V.int 1,V.int 1])) q=some (tp (1,1)):=Zc;have hny:y∉ks.take i:=λz=>by
    have hi:i<ks.length:=(Aa hy).1
    have nd:=sw.nd
    rw[<-take_append_drop i ks,nodup_append]at nd
    refine nd.2.2 y z y ?_ Y
    rw[drop_eq_getElem_cons hi,(Aa hy).2]
    exact mem_cons_self
   refine⟨_,Sum.inl y,Y,sq _ _ h3,(by rw[Zas,Ai];exact Zt (by lia)),_,Y,Same.add (s3.trans sq) hD,?_⟩;rw[Aw,hy];have:=WAt.new (g:=λ_=>(1,1)) (v:=(1,1)) (sq _ _ h3) (λx hx=>sq _ _ (h4 x hx)) n9 hny;exact this.congr λx _=>by unfold putG;split<;>rfl
  ·rintro σ H3 ⟨v,rfl,s3,h3⟩
   rw[Ab,take_length]at h3;exact k D H3 ks (s1.trans s3) (s1.free hD) h3 sw
def Wn{H:Hp}{p:Addr}{a b:HO}:upd (upd H p a) p b=upd H p b:=by
 funext c;by_cases z:c=p
 ·subst z;rw[Zc,Zc]
 ·rw[Ze z,Ze z,Ze z]
noncomputable def X7(te th po wo:V):List (Str×V):=putF "worths" wo (putF "pools" po (putF "threads" th (putF "tent" te [])))
noncomputable def Xh(be sc st un:Addr):List (Str×V):=putF "undone" (.ref un) (putF "standing" (.ref st) (putF "scene" (.ref sc) (putF "began" (.ref be) [])))
structure HallNew(CT CS CH:Addr)(H:Hp)(p:Addr)(M:Lq)(ns:List Int)(dx be sc st un mo th po wo:Addr)(ks:List Int):Prop where
 ins:H p=some (.ins CH dx (Xh be sc st un))
 tent:Z7 CT H be M ns
 scn:H sc=some (.ins CS mo (X7 (.ref be) (.ref th) (.ref po) (.ref wo)))
 thr:H th=some (.dK [])
 poo:H po=some (.dK [])
 wor:WAt H wo ks λ_=>(1,1)
 sw:SwK M ns ks
 sta:H st=some (.lst [])
 und:H un=some (.lst [])
def OthP(p:Addr)(H H':Hp):Prop:=∀b u,b≠p->H b=some u->H' b=some u
def OthP.trans{p:Addr}{H H1 H':Hp}(s:OthP p H H1)(s1:OthP p H1 H'):OthP p H H':=λb u hb e=>s1 b u hb (s b u hb e)
def OthP.of{p:Addr}{H H':Hp}(s:Same H H'):OthP p H H':=λb u _ e=>s b u e
def OthP.upd{p:Addr}{H:Hp}{o:HO}:OthP p H (upd H p o):=λb u hb e=>by rw[Ze hb];exact e
def Xq{H H':Hp}{p C dx:Addr}{fs:List (Str×V)}(hp:H p=some (.ins C dx fs))(s:OthP p H H'){b:Addr}{u:HO}(e:H b=some u)(hu:∀C dx fs,u≠.ins C dx fs):H' b=some u:=
 s b u (λz=>by rw[z,hp]at e;exact hu _ _ _ (Ax e).symm) e
def Yz.oth{H H':Hp}{p C dx r:Addr}{fs:List (Str×V)}{ns:List Int}(h:Yz H r ns)(hp:H p=some (.ins C dx fs))(s:OthP p H H'):Yz H' r ns:=by
 obtain⟨ts,h1,h2,h3⟩:=h;exact⟨ts,Xq hp s h1 (t:),h2,λk q e=>Xq hp s (h3 k q e) (t:)⟩
def Z7.oth{C0:Addr}{H H':Hp}{p C dx x:Addr}{fs:List (Str×V)}{M:Lq}{ns:List Int}(h:Z7 C0 H x M ns)(hp:H p=some (.ins C dx fs))(hx:x≠p)(s:OthP p H H'):Z7 C0 H' x M ns:=by
 obtain⟨dt,cl,na,sp,mt,o,f,b⟩:=h;exact⟨dt,cl,na,sp,mt,o,f,s _ _ hx b.ins,b.rows.oth hp s,Xq hp s b.names (t:),Xq hp s b.spots (t:),Xq hp s b.mates (t:),λy hy=>Xq hp s (b.at' y hy) (t:)⟩
def WAt.oth{H H':Hp}{p C dx d:Addr}{fs:List (Str×V)}{ks:List Int}{g:Int->Nat×Nat}(h:WAt H d ks g)(hp:H p=some (.ins C dx fs))(s:OthP p H H'):WAt H' d ks g:=by
 obtain⟨ad,h1,h2⟩:=h;exact⟨ad,Xq hp s h1 (t:),λx hx=>Xq hp s (h2 x hx) (t:)⟩
def O3(C:Addr):Sp:=λvs H Q _=>∃(p dx:Addr)(te th po wo:V),vs=[.ref p,te,th,po,wo]/\H p=some (.ins C dx [])/\Q .non (upd H p (.ins C dx (X7 te th po wo)))
def Ki(CT CS CH:Addr):Sp:=λvs H Q _=>∃(p r dx:Addr)(M:Lq)(ns:List Int),vs=[.ref p,.ref r]/\H p=some (.ins CH dx [])/\Yz H r ns/\TD M ns/\ns.length<64/\
 ∀(H':Hp),OthP p H H'->(∃be sc st un mo th po wo ks,HallNew CT CS CH H' p M ns dx be sc st un mo th po wo ks/\H st=none/\H un=none/\st≠un)->Q .non H'
def Zee:FnScope ["self","tent","threads","pools","worths"] ["self","tent","threads","pools","worths"] (Zf Kv):=Am
def Qz(T:Txt w K mg t):(a:) 1 t.cf t.d6 ["self","tent","threads","pools","worths"] (O3 t.ai):=by
 refine T.bu.F.aR Zee (b:)
 ·obtain⟨p,dx,te,th,po,wo,rfl,hp,k⟩:=h
  refine ⟨_,(Zg (Xp (pv 0) (pv 1) Y)
   (Zg (Xp (pv 0) (pv 2) rfl)
   (Zg (Xp (pv 0) (pv 3) rfl)
   (Zh (Xp (pv 0) (pv 4) rfl))))),?_⟩;have l1:=Xe "tent" te [];have l2:=Xe "threads" th (putF "tent" te []);have l3:=Xe "pools" po (putF "threads" th (putF "tent" te []));rw[length_nil]at l1;refine⟨p,_,dx,_,Y,hp,T.ak,T.aE,by decide,p,_,dx,_,Y,Zc,T.ak,T.aM,by lia,p,_,dx,_,Y,Zc,T.ak,T.aF,by lia,p,_,dx,_,Y,Zc,T.ak,T.aQ,by lia,?_⟩;rw[Wn,Wn,Wn];exact k
def Kq:FnScope ["self","rows"] ["self","rows"] (Zf Fz):=Am
def K9(T:Txt w K mg t):(a:) 5 t.bf t.bI ["self","rows"] (Ki t.aa t.ai t.af):=by
 refine T.bK.F.aR Kq (b:)
 ·obtain⟨p,r,dx,M,ns,rfl,hp,ny,td,my,k⟩:=h
  refine ⟨_,(Zg (Xp (pv 0) (Vk T.jo (K8 T) (ai:) Y T.jk T.bg.b .nil Ya (P:)) Y)
   (Zg (Xp (pv 0) (Vk T.hU (Qz T) (ai:) rfl T.gW T.bu.b .nil Ya (Za (Zz (pv 0) rfl) (Za Vy (Za Vy (Za (pcT (Zcq T) hr T.dB (Za (Zz (pv 0) rfl) Zb)) Zb))))) rfl)
   (Zg (Xp (pv 0) (Y5 Zb) rfl)
   (Zh (Xp (pv 0) (Y5 Zb) rfl))))),?_⟩;intro x dt hx ym mw;have s0:Same H (upd (upd H dt (.own x)) x (.ins t.aa dt [])):=Same.add (Same.new ym) hx;refine⟨x,r,dt,M,ns,Y,Zc,ny.same s0,td,by lia,λH1 old ta=>⟨Y,?_⟩⟩;have s1:Same H H1:=λb u e=>old b u (Zi e hx) (s0 b u e);refine⟨p,_,dx,_,Y,s1 _ _ hp,T.ac,T.bt,by decide,?_⟩;have l1:=Xe "began" (.ref x) [];rw[length_nil]at l1;have hp1:=s1 _ _ hp;have nx:x≠p:=λz=>by rw[z,hp]at hx;cases hx
  have o2:OthP p H1 (upd H1 p (.ins t.af dx (V:))):=.upd;have p6:(upd H1 p (.ins t.af dx (V:))) p=some (.ins t.af dx (V:)):=Zc;have zp:=ta.oth hp1 nx o2;have o02:OthP p H _:=(OthP.of s1).trans o2;generalize upd H1 p (.ins t.af dx (putF "began" (.ref x) []))=H2 at o2 p6 zp o02⊢;clear o2 ta old s1 s0 hp1 ym mw ny;have zy:(V:).lookup ("began":Str)=some (.ref x):=by rw[Z1,if_pos rfl]
  refine⟨p6,T.ac,T.bt,MVal.of zy ?_⟩;intro th hth po hpo;obtain⟨hpt,xa⟩:=Qa hpo;have s3:Same H2 (upd (upd H2 th (.dK [])) po (.dK [])):=Same.add (Same.new hth) xa;have ht3:(upd (upd H2 th (.dK [])) po (.dK [])) th=some (.dK []):=by rw[Ze (Ne.symm hpt),Zc]
  have hq3:(upd (upd H2 th (.dK [])) po (.dK [])) po=some (.dK []):=Zc;generalize upd (upd H2 th (.dK [])) po (.dK [])=H3 at s3 ht3 hq3⊢;refine⟨s3 _ _ p6,T.ac,T.bt,MVal.of zy ⟨ x,M,ns,Y,zp.same s3,td,my,λwo H4 ks s4 hwo w4 sw=>?_⟩⟩;intro sc mo yd zi xb;have s5:Same H4 (upd (upd H4 mo (.own sc)) sc (.ins t.ai mo [])):=Same.add (Same.new zi) yd;refine⟨sc,mo,_,_,_,_,Y,Zc,Y,?_⟩;rw[Wn];have s6:Same H4 (upd (upd H4 mo (.own sc)) sc (b6:)):=Same.add (Same.new zi) yd;have hc6:(upd (upd H4 mo (.own sc)) sc (b6:)) sc=some (b6:):=Zc;generalize upd (upd H4 mo (.own sc)) sc (.ins t.ai mo (X7 (.ref x) (.ref th) (.ref po) (.ref wo)))=H6 at s6 hc6⊢;clear s5;have s46:=s4.trans s6;have s26:=s3.trans s46;have ug:=s26 _ _ p6;have nsc:sc≠p:=λz=>by rw[z,(s3.trans s4) _ _ p6]at yd;cases yd
  refine⟨p,_,dx,_,Y,ug,T.ac,T.ar,by lia,?_⟩;have l2:=Xe "scene" (.ref sc) (V:);have o7:OthP p H6 (upd H6 p (.ins t.af dx (G:))):=.upd;have hp7:(upd H6 p (.ins t.af dx (G:))) p=some (.ins t.af dx (G:)):=Zc;have ta7:=(zp.same s26).oth ug nx o7;have ht7:=Xq ug o7 (s46 _ _ ht3) (t:);have hq7:=Xq ug o7 (s46 _ _ hq3) (t:);have w7:=(w4.same s6).oth ug o7;have hc7:=o7 _ _ nsc hc6;have o07:OthP p H _:=(o02.trans (.of s26)).trans o7;generalize upd H6 p (.ins t.af dx (putF "scene" (.ref sc) (putF "began" (.ref x) [])))=H7 at o7 hp7 ta7 ht7 hq7 w7 hc7 o07⊢;clear o7 ug s26 s46 s6 hc6 s4 w4 s3 ht3 hq3 zp p6 o02 hth hpo xa hwo yd zi;refine⟨Az _,λst ou=>?_⟩
  have w5:H st=none:=by
   cases e:H st with
   |none=>rfl
   |some u=>
    rw[o07 _ _ (λz=>by rw[z,hp7]at ou;cases ou) e]at ou;cases ou
  have s8:Same H7 (upd H7 st (.lst [])):=Same.new ou;have hs8:(upd H7 st (.lst [])) st=some (.lst []):=Zc;generalize upd H7 st (.lst [])=H8 at s8 hs8⊢;have vo:=s8 _ _ hp7;refine⟨p,_,dx,_,Y,vo,T.ac,T.bp,by lia,?_⟩;have l3:=Xe "standing" (.ref st) (G:);have o9:OthP p H8 (upd H8 p (.ins t.af dx (putF "standing" (.ref st) (G:)))):=.upd;have hp9:(upd H8 p (.ins t.af dx (putF "standing" (.ref st) (G:)))) p=some (.ins t.af dx (putF "standing" (.ref st) (G:))):=Zc;have ta9:=(ta7.same s8).oth vo nx o9;have ht9:=Xq vo o9 (s8 _ _ ht7) (t:);have hq9:=Xq vo o9 (s8 _ _ hq7) (t:);have hs9:=Xq vo o9 hs8 (t:);have w9:=(w7.same s8).oth vo o9;have hc9:=o9 _ _ nsc (s8 _ _ hc7);have o09:OthP p H _:=(o07.trans (.of s8)).trans o9;generalize upd H8 p (.ins t.af dx (putF "standing" (.ref st) (putF "scene" (.ref sc) (putF "began" (.ref x) []))))=H9 at o9 hp9 ta9 ht9 hq9 hs9 w9 hc9 o09⊢;clear o9 vo s8 hs8 hp7 ta7 ht7 hq7 w7 hc7 o07 ou;refine⟨Az _,λun qt=>?_⟩
  have yz:H un=none:=by
   cases e:H un with
   |none=>rfl
   |some u=>
    rw[o09 _ _ (λz=>by rw[z,hp9]at qt;cases qt) e]at qt;cases qt
  have hsu:st≠un:=λz=>by rw[<-z,hs9]at qt;cases qt
  have sA:Same H9 (upd H9 un (.lst [])):=Same.new qt;have hsA:(upd H9 un (.lst [])) un=some (.lst []):=Zc;generalize upd H9 un (.lst [])=HA at sA hsA⊢;have ye:=sA _ _ hp9;refine⟨p,_,dx,_,Y,ye,T.ac,T.dr,by lia,?_⟩;have oB:OthP p HA (upd HA p (.ins t.af dx (Xh x sc st un))):=.upd;refine k _ ((o09.trans (.of sA)).trans oB) ⟨x,sc,st,un,mo,th,po,wo,ks,⟨Zc,(ta9.same sA).oth ye nx oB,oB _ _ nsc (sA _ _ hc9),Xq ye oB (sA _ _ ht9) (t:),Xq ye oB (sA _ _ hq9) (t:),(w9.same sA).oth ye oB,sw,Xq ye oB (sA _ _ hs9) (t:),Xq ye oB hsA (t:)⟩,w5,yz,hsu⟩
noncomputable def dS(l:List (Str×V)):List (Key×V):=l.map λkv=>((Sum.inr kv.1:Key),kv.2)
def Ze7:Sp:=λvs H Q _=>∃(d:Addr)(k:Key)(v:V)(l:List (Key×V)),vs=[.ref d,kV k,v]/\H d=some (.dK l)/\l.length<=900/\∀e:Addr,H e=none->Q (.ref e) (upd H e (.dK (putK l k v)))
def Zrq{L:List (Str×V)}{x:Str}:(valV (dS L) (Sum.inr x)).isSome=decide (x∈L.map (·.1)):=by
 unfold valV dS;rw[Option.isSome_map,Bool.eq_iff_iff,find?_isSome,decide_eq_true_eq];constructor
 ·rintro⟨y,hy,e⟩
  obtain⟨kv,hk,rfl⟩:=mem_map.mp hy;have e:=of_decide_eq_true e
  injection e with e
  exact mem_map.mpr ⟨kv,hk,e⟩
 ·intro h
  obtain⟨kv,hk,rfl⟩:=mem_map.mp h;exact⟨_,mem_map.mpr ⟨kv,hk,Y⟩,decide_eq_true Y⟩
def F7(t:Adr):Sp:=λvs H Q E=>∃(sc mo th po:Addr)(te wo:V)(x:Str)(L:List (Str×V)),vs=[.ref sc,.str x]/\H sc=some (.ins t.ai mo (X7 te (.ref th) (.ref po) wo))/\H th=some (.dK [])/\H po=some (.dK (dS L))/\Wd x/\isN x=true/\(x∈L.map (·.1)->∀H',E (.ref t.jg) none H')/\(x∉L.map (·.1)->∀H',Same H H'->Q .non H')
def Zd6(EG:Addr):Sp:=λvs H Q E=>∃(q:Addr)(v:Nat×Nat),vs=[.ref q]/\H q=some (tp v)/\(v.1<=10^60->v.2<=10^60->Q .non H)/\(10^60<v.1\/10^60<v.2->E (.ref EG) none H)
def Kj:FnScope ["table","name","value","copied"] ["table","name","value"] (Zf Fh):=Am
def K4(T:Txt w K mg t):(a:) 1 t.fj t.fL ["table","name","value"] Ze7:=by
 refine T.cG.F.aR Kj (b:)
 ·obtain⟨d,k,v,l,rfl,hd,hl,q⟩:=h
  have hu:=Wc hr;refine ⟨_,(Zg (psN 3 Kj.nd (Ys Vf (by rfl) T.eY PySem.Pv.boot_dict (D:)))
   (Zg (Ziy hu (pv 3) (pv 1) (pv 2) rfl)
   (Zh (Zl (pv 3))))),?_⟩
  refine Zw λm7 l7=>⟨d,_,Y,.inl hd,λe he=>l7 _ _ ⟨e,_,Y,DPut.k (k:=k) Zc (Zt (by lia)),?_⟩⟩;rw[Wn];exact q e he
def F9:FnScope ["scene","name"] ["scene","name"] (Zf Uh):=Am
def V2(T:Txt w K mg t):(a:) 3 t.cr t.cv ["scene","name"] (F7 t):=by
 refine T.bq.F.aX F9 (b:)
 ·obtain⟨sc,mo,th,po,te,wo,x,L,rfl,yd,hth,hpo,hx,e,kT,k⟩:=h
  have hu:=Wc hr;refine ⟨_,(Zp (Zu (Z9 (Xi (Xn (pcT (Zbn T) hr T.eT (P:)))) Xo Zy))
   (Zo (Yo (PW.pt (Je (Uy (Zl8 hu (pv 1) (Zz (pv 0) rfl)) (ao:)) (Wj (Uy (Zl8 hu (pv 1) (Zz (pv 0) rfl)) (ao:))))) (Zo (Yl T.lF FBV rfl T.lm rfl (bv:))) Ym))),?_⟩
  refine⟨x,Y,hx.asc.all,hx.len,λH1 s1=>?_⟩;rw[e];refine iteF ?_;have i1:=s1 _ _ yd;refine⟨i1,T.ak,T.aM,th,_,Y,.inl ⟨_,Sum.inr x,.inl (s1 _ _ hth),Y,Y⟩,iteF ⟨i1,T.ak,T.aF,po,_,Y,.inl ⟨_,Sum.inr x,.inl (s1 _ _ hpo),Y,Y⟩,?_⟩⟩;rw[Zrq];by_cases c:x∈L.map (·.1)
  ·rw[decide_eq_true c]
   exact iteT ⟨by decide,kT c _⟩
  ·rw[decide_eq_false c]
   exact iteF (k c _ s1)
def Zec:FnScope ["parts"] ["parts"] (Zf Kt):=Am
def Zel(T:Txt w K mg t):(a:) 1 t.dW t.d7 ["parts"] (Zd6 t.az):=by
 refine T.eE.F.aX Zec (b:)
 ·obtain⟨q,v,rfl,hq,k1,k2⟩:=h
  refine⟨_,(Zo (Yo (Zn J2 (Ye (Zns Y) (by rfl) T.lL PyProof.Rows.boot_max (D:)) (Y7 (v:=.int 1000000000000000000000000000000000000000000000000000000000000) Y T.gq ⟨_,Y⟩) (Zm _)) (Zo (Yl T.kj FBV Y T.gf Y (bv:))) Ym)),?_⟩;refine⟨q,[(v.1:Int),(v.2:Int)],Y,SqT.of hq,(by show 0<2;decide),λm hm hmx=>?_⟩;have big:(1000000000000000000000000000000000000000000000000000000000000:Nat)=10^60:=by decide+kernel
  rw[<-big]at k1 k2;have h1:=hmx (v.1:Int) mem_cons_self;have h2:=hmx (v.2:Int) (mem_cons_of_mem _ mem_cons_self);by_cases c:(1000000000000000000000000000000000000000000000000000000000000:Int)<m
  ·refine iteY c ⟨by decide,k2 ?_⟩
   rcases Ar hm with rfl|hm
   ·exact .inl (by lia)
   ·rw[Af hm]at c;exact .inr (by lia)
  ·exact iteN c (k1 (by lia) (by lia))
def Zuy(be sc st un qc:Addr):putF "undone" (.ref qc) (Xh be sc st un)=Xh be sc st qc:=by first|rfl|decide
def Zuz(be sc st un zu:Addr):putF "scene" (.ref zu) (Xh be sc st un)=Xh be zu st un:=by first|rfl|decide
def Zm3(be sc st un:Addr):(Xh be sc st un).length<1000:=by
 have:(Xh be sc st un).length=4:=rfl;lia
def Qy(CH:Addr):Sp:=λvs H Q _=>∃(p dx be sc st un zu:Addr)(x:Str)(l:List V),vs=[.ref p,.str x,.ref zu]/\H p=some (.ins CH dx (Xh be sc st un))/\H st=some (.lst l)/\l.length<=900/\
 ∀(q qc:Addr)(H':Hp),H q=none->H qc=none->(∀b u,b≠p->b≠st->H b=some u->H' b=some u)->H' p=some (.ins CH dx (Xh be zu st qc))->H' st=some (.lst (l++[.ref q]))->H' q=some (.tup [.str x,.ref sc])->H' qc=some (.lst [])->Q .non H'
def Zef:FnScope ["self","text","scene"] ["self","text","scene"] (Zf Kx):=Am
def Kb(T:Txt w K mg t):(a:) 1 t.dX t.d8 ["self","text","scene"] (Qy t.af):=by
 refine T.aU.F.aR Zef (b:)
 ·obtain⟨p,dx,be,sc,st,un,zu,x,l,rfl,hp,ou,hl,k⟩:=h
  refine ⟨_,(Zg (Xg (Ji (Zz (pv 0) Y) (Za (Jj (Za (pv 1) (Za (Zz (pv 0) Y) Zb))) Zb)))
   (Zg (Xp (pv 0) (Y5 Zb) rfl)
   (Zh (Xp (pv 0) (pv 2) rfl)))),?_⟩;have hps:p≠st:=λz=>by rw[z,ou]at hp;cases hp
  refine Zw λm7 l7=>?_;refine⟨hp,T.ac,T.bp,.inl ⟨Y,_,SqL.of ou⟩,hp,T.ac,T.ar,(szR Y),λq hq=>?_⟩;have s1:Same H (upd H q (.tup [V.str x,V.ref sc])):=Same.new hq;have h1:(upd H q (.tup [V.str x,V.ref sc])) q=some (.tup [V.str x,V.ref sc]):=Zc;refine⟨st,_,_,Y,Y,s1 _ _ ou,Zt (by lia),?_⟩;refine l7 _ _ ?_;generalize upd H q (.tup [V.str x,V.ref sc])=H1 at s1 h1⊢;have hqs:q≠st:=λz=>by rw[z,ou]at hq;cases hq
  have hqp:q≠p:=λz=>by rw[z,hp]at hq;cases hq
  have p2:(upd H1 st (.lst (l++[V.ref q]))) p=some (.ins t.af dx (Xh be sc st un)):=by rw[Ze hps];exact s1 _ _ hp
  have q2:(upd H1 st (.lst (l++[V.ref q]))) q=some (.tup [V.str x,V.ref sc]):=by rw[Ze hqs];exact h1
  have t2:(upd H1 st (.lst (l++[V.ref q]))) st=some (.lst (l++[V.ref q])):=Zc;have o2:∀b u,b≠p->b≠st->H b=some u->(upd H1 st (.lst (l++[V.ref q]))) b=some u:=λb u _ h2 e=>by rw[Ze h2];exact s1 _ _ e
  generalize upd H1 st (.lst (l++[V.ref q]))=H2 at p2 q2 t2 o2⊢;refine Zw λm7 l7=>?_;refine⟨Az _,λqc qt=>?_⟩;have s3:Same H2 (upd H2 qc (.lst [])):=Same.new qt;have u3:(upd H2 qc (.lst [])) qc=some (.lst []):=Zc
  have yz:H qc=none:=by
   cases e:H qc with
   |none=>rfl
   |some u=>
    have hne1:qc≠p:=λz=>by rw[z,p2]at qt;cases qt
    have xb:qc≠st:=λz=>by rw[z,t2]at qt;cases qt
    rw[o2 _ _ hne1 xb e]at qt;cases qt
  refine⟨p,_,dx,_,Y,s3 _ _ p2,T.ac,T.dr,Zm3 _ _ _ _,?_⟩;rw[Zuy];refine l7 _ _ ?_;have hup:qc≠p:=λz=>by rw[z,p2]at qt;cases qt
  refine⟨p,_,dx,_,Y,Zc,T.ac,T.ar,Zm3 _ _ _ _,?_⟩;rw[Zuz,Wn];refine k q qc _ hq yz (λb u b1 b2 e=>?_) Zc ?_ ?_ ?_
  ·rw[Ze b1];exact s3 _ _ (o2 b u b1 b2 e)
  ·rw[Ze (Ne.symm hps)];exact s3 _ _ t2
  ·rw[Ze hqp];exact s3 _ _ q2
  ·rw[Ze hup];exact u3
def Zhs(EW:Addr):Sp:=λvs H Q E=>∃n5:Str,vs=[.str n5]/\(n5="left"\/n5="right"->Q .non H)/\(¬(n5="left"\/n5="right")->E (.ref EW) none H)
def Ze1(n5:Str):(valV [((Sum.inr "left":Key),V.str "right"),(Sum.inr "right",V.str "left")] (Sum.inr n5)).isSome=true ↔ n5="left"\/n5="right":=by
 unfold valV;by_cases c1:n5="left"
 ·subst c1;simp
 ·by_cases c2:n5="right"
  ·subst c2
   simp[find?_cons];split<;>simp
  ·have n1:¬(Sum.inr "left":Key)=Sum.inr n5:=λz=>c1 (by injection z with z;exact z.symm)
   have n2:¬(Sum.inr "right":Key)=Sum.inr n5:=λz=>c2 (by injection z with z;exact z.symm);simp[find?_cons,n1,n2,c1,c2]
def Zhz:FnScope ["way"] ["way"] (Zf Za7):=Am
def Zh7(T:Txt w K mg t):(a:) 1 t.gx t.gK ["way"] (Zhs t.jf):=by
 refine T.gY.F.aX Zhz (b:)
 ·obtain⟨n5,rfl,k1,k2⟩:=h
  refine⟨_,(Zo (Yo (Uy (Zl7 (pv 0) (Y7 (v:=.ref t.aL) Y T.eV Y)) (ao:)) (Zo (Yl T.lD FBV Y T.lg Y (bv:))) Ym)),?_⟩;refine⟨t.aL,_,Sum.inr n5,Y,T.eX,Y,?_⟩;by_cases c:n5="left"\/n5="right"
  ·rw[(Ze1 n5).mpr c]
   exact iteF (k1 c)
  ·have:(valV [((Sum.inr "left":Key),V.str "right"),(Sum.inr "right",V.str "left")] (Sum.inr n5)).isSome=false:=by
    rw[Bool.eq_false_iff];exact λz=>c ((Ze1 n5).mp z)
   rw[this];exact iteT ⟨by decide,k2 c⟩
def Qr:FnScope ["tent","seam","way","a","b","c","d"] ["tent","seam","way"] (Zf Zfx):=Am
def Km:FnScope ["tent","seam","way","goals","names","place","goal"] ["tent","seam","way"] (Zf Fp):=Am
def Jv{t u:TSX}{D:Ends}{R:Value->St->Hp->Prop}{σ:St}{H:Hp}(vd:St->Hp->Prop)(ht:∀nx:St->Hp->Prop,(∀σ H,vd σ H->nx σ H)->t {D with nx:=nx} R σ H)(hu:∀σ H,vd σ H->u D R σ H):Zjm t u D R σ H:=ht (u D R) hu
def Zve(H H':Hp):Prop:=∀b u,(∀kvs,u≠.dK kvs)->H b=some u->H' b=some u
def Z7.sameD(h:Z7 C H p M ns)(s:Zve H H'):Z7 C H' p M ns:=by
 obtain⟨dx,cl,na,sp,mt,o,f,b⟩:=h;obtain⟨ts,r1,r2,r3⟩:=b.rows;exact⟨dx,cl,na,sp,mt,o,f,s _ _ (λ_ z=>nomatch z) b.ins,⟨ts,s _ _ (λ_ z=>nomatch z) r1,r2,λk t e=>s _ _ (λ_ z=>nomatch z) (r3 k t e)⟩,s _ _ (λ_ z=>nomatch z) b.names,s _ _ (λ_ z=>nomatch z) b.spots,s _ _ (λ_ z=>nomatch z) b.mates,λx hx=>s _ _ (λ_ z=>nomatch z) (b.at' x hx)⟩
def G1(H:Hp)(c:Addr)(ns:List Int)(g:Int->Int):Prop:=∃ks:List Int,H c=some (.dK (dI ks g))/\ks.Perm (s:)
def G1.same(h:G1 H c ns g)(s:Same H H'):G1 H' c ns g:=by
 obtain⟨ks,h1,h2⟩:=h;exact⟨ks,s _ _ h1,h2⟩
noncomputable def g3(ns:List Int)(g:Int->Int)(k:Nat):List Int:=[g (ns.getD (3*k) 0),g (ns.getD (3*k+1) 0),g (ns.getD (3*k+2) 0)]
def Ge{ns:List Int}(h:i<ns.length):ns.getD i 0∈keys ns ns.length:=by
 have e:ns[i]?=some (ns.getD i 0):=by rw[Ad,Ac h];rfl
 exact Yu.mpr ⟨i,h,e⟩
def Zu1{ns:List Int}{j:Nat}(h:(row3 ns i)[j]?=some x):∃z,(3*i+2<ns.length->z∈keys ns ns.length)/\x=V.int z/\(g3 ns g i)[j]?=some (g z):=by
 match j,h with
 |0,h=>cases h;exact⟨_,λh=>Ge (by lia),Y,Y⟩
 |1,h=>cases h;exact⟨_,λh=>Ge (by lia),Y,Y⟩
 |2,h=>cases h;exact⟨_,λh=>Ge h,Y,Y⟩
 |j+3,h=>simp[row3]at h
def Zm5{us:List Addr}(h:some (HO.lst (us.map V.ref))=some (HO.lst ((g3 ns g k).map V.int))):False:=by
 injection h with h
 injection h with h
 cases us with
 |nil=>cases h
 |cons a r=>injection h with h _;cases h
def Zcv(h:H c=some (.dK (dI ks g)))(hz:z∈ks):DGet H c (.int z) (some (.int (g z))):=.inl ⟨_,Sum.inl z,.inl h,rfl,(Zhc hz).symm⟩
def Zkq{d:Addr}{kvs:List (Key×V)}{o:Obj}{g:TG}{tb:TSX}{R:Value->St->Hp->Prop}{D:Ends}{σ:St}{H:Hp}(Pv:Nat->St->Hp->Prop)(h0:Pv 0 σ H)(hl:∀i σ H,i<=kvs.length->Pv i σ H->H d=some (Y:))
  (hs:∀i k x σ H q,kvs[i]?=some (k,x)->H q=none->Pv i σ H->g (.ref q) σ (upd H q (.tup [kV k,x])) λσ2 H2=>tb {D with nx:=Pv (i+1),ct:=Pv (i+1),bk:=D.nx} R σ2 H2) (hd:∀σ H,Pv kvs.length σ H->D.nx σ H):
  ∃W:Nat->Nat->St->Hp->Prop,(∃m,W 0 m σ H)/\∀i m σ H,W i m σ H ->
   ((Itm2 d kvs o).stop i H/\D.nx σ H)\/((Itm2 d kvs o).go i H/\∃N:St->Hp->Prop,(p:)/\∀x H',(Itm2 d kvs o).yld i H x H'->g x σ H' λσ2 H2=>tb {D with nx:=N,ct:=N,bk:=D.nx} R σ2 H2):=
 Zm7 (tb:=λD' σ' H'=>tb D' R σ' H') Pv h0 hl hs hd
noncomputable def odB(ns:List Int)(g:Int->Int)(k:Nat):Bool:=decide (V.int ((g3 ns g k).sum%2)=V.int 1)
noncomputable def wdB(ns:List Int)(g:Int->Int)(k:Nat):Bool:=(g3 ns g k).any λm=>decide ((g3 ns g k).sum<2*m)
def Zr5{ns:List Int}{g:Int->Int}{k:Nat}{m:Int}(hm:m∈g3 ns g k)(hx:∀a∈g3 ns g k,a<=m):decide ((g3 ns g k).sum<2*m)=wdB ns g k:=by
 unfold wdB;rw[Bool.eq_iff_iff,decide_eq_true_eq,any_eq_true];exact⟨λh=>⟨m,hm,decide_eq_true h⟩,λ⟨a,ha,h⟩=>by have:=hx a ha;have:=of_decide_eq_true h;lia⟩
def Zb2{n:Nat}{f:Nat->Bool}:((List.range n).map f).any id=true ↔ ∃k,k<n/\f k=true:=by
 rw[any_map,any_eq_true];refine⟨λzz58=>?_,λ⟨k,h1,h2⟩=>⟨k,mem_range.mpr h1,h2⟩⟩;obtain⟨k,h1,h2⟩:=zz58;exact⟨k,mem_range.mp h1,h2⟩
def rimN(ns:List Int)(g:Int->Int):Prop:=∃x∈keys ns ns.length,0<g x/\Yf ns x="rim"
structure CntR(t:Adr)(ns ks:List Int)(g:Int->Int)(H:Hp)(E:XK)(Q:Prop):Prop where
 nn:∀x∈ks,0<=g x
 no:¬ks.Perm (s:)->∀H',Same H H'->E (.ref t.ao) none H'
 rim:ks.Perm (s:)->rimN ns g->∀H',E (.ref t.ao) none H'
 odd:ks.Perm (s:)->¬rimN ns g->(∃k,k<ns.length/3/\odB ns g k=true)->∀H',E (.ref t.gG) none H'
 wide:ks.Perm (s:)->¬rimN ns g->(¬ ∃k,k<ns.length/3/\odB ns g k=true)->(∃k,k<ns.length/3/\wdB ns g k=true)->∀H',E (.ref t.j9) none H'
 ok:ks.Perm (s:)->¬rimN ns g->(¬ ∃k,k<ns.length/3/\odB ns g k=true)->(¬ ∃k,k<ns.length/3/\wdB ns g k=true)->Q
def Zht(t:Adr):Sp:=λvs H Q E=>∃(p c:Addr)(M:Lq)(ns ks:List Int)(g:Int->Int),vs=[.ref p,.ref c]/\Z7 t.aa H p M ns/\TD M ns/\ns.length<64/\H c=some (.dK (dI ks g))/\ks.length<64/\(∀x∈ks,0<=g x)/\(¬ks.Perm (s:)->∀H',Same H H'->E (.ref t.ao) none H')/\(ks.Perm (s:)->rimN ns g->∀H',E (.ref t.ao) none H')/\(ks.Perm (s:)->¬rimN ns g->∀H',Same H H'->Q .non H')
def Zb8(t:Adr):Sp:=λvs H Q E=>∃(p c:Addr)(M:Lq)(ns ks:List Int)(g:Int->Int),vs=[.ref p,.ref c]/\Z7 t.aa H p M ns/\TD M ns/\ns.length<64/\H c=some (.dK (dI ks g))/\ks.length<64/\CntR t ns ks g H E (∀H',Same H H'->Q .non H')
def Jz:FnScope ["tent","counts","seam","number"] ["tent","counts"] (Zf Uu):=Am
def Zbm(T:Txt w K mg t):(a:) 3 t.cz t.cD ["tent","counts"] (Zht t):=by
 refine T.cF.F.okL Jz (λvs H Q E h=>?_) (b:)
 ·obtain⟨p,c,M,ns,ks,g,rfl,_⟩:=h
  rfl
 ·obtain⟨p,c,M,ns,ks,g,rfl,ta,td,my,hc,qe,nn,kN,kR,kQ⟩:=h
  refine ⟨_,(λ_ L=>(Z0 (Yp L (Yo (Zn (Zs4 hr.units) (Ye (J8 Y) (by rfl) T.cL PyProof.Rows.boot_sorted (P:)) (Yr (pv 0) T.ah T.aS.m (Ka T) (ai:) T.aS.b .nil Ya) (Zm _)) (Zo (Yl T.dJ FBV Y T.bP Y (bv:))) Ym))
   (Xd (Zom (Zcl L rfl (Zor (pv 1) ⟨rfl,rfl,rfl⟩) (Qu rfl (Yd (pgN 2 Jz.nd) (Yd (pgN 3 Jz.nd) Wk))) (Z0 (Yp L (Yo (Zn J1 (pv 3) Zd (Zm _)) (Zo (Yl T.dJ FBV rfl T.bP rfl (bv:))) Ym))
   (Xd (Yp L (Yo (PW.pt (Ux (Zn J2 (pv 3) Zd (Zm _)) (Vi (Zn Z6 (Xs (pv 0) T.ah T.al.m (W8 T) (ai:) T.al.b .nil Ya (Z:)) Zk (Zm _))))) (Zo (Yl T.dJ FBV rfl T.bP rfl (bv:))) Ym))))))))),?_⟩;refine Jv (λσ H'=>σ=[oR p,oR c,none,none]/\Same H H'/\ks.Perm (s:)) (ah:) ?_
  ·refine⟨c,_,ks,Y,.inl hc,(by unfold dI;rw[map_map];rfl),qe,λl1 oj n8 xx vi=>?_⟩
   have s1:Same H (upd H l1 (.lst (oj.map V.int))):=Same.new n8;have ta1:=ta.same s1;obtain⟨dx,cl,na,sp,mt,o,f,B⟩:=id ta1;refine⟨B.ins,Xl _ _ _ _,p,M,ns,Y,ta1,my,λl2 yu pf pm2 n6=>?_⟩;have s2:Same (upd H l1 (.lst (oj.map V.int))) (upd (upd H l1 (.lst (oj.map V.int))) l2 (.lst (yu.map V.int))):=Same.new pf;refine⟨l1,l2,oj,yu,Y,Y,SqL.of (s2 _ _ Zc),SqL.of Zc,?_⟩;by_cases e:oj=yu
   ·rw[decide_eq_true e]
    exact iteF (mq _ _ ⟨Y,s1.trans s2,xx.symm.trans (e▸pm2)⟩)
   ·rw[decide_eq_false e]
    exact iteT ⟨by decide,kN (λz=>e (Ud (xx.trans z) pm2 vi n6)) _ (s1.trans s2)⟩
  rintro σ H2 ⟨rfl,s2,tf⟩;have wq:=s2 _ _ hc;have zp:=ta.same s2;refine⟨c,_,Y,.inl ⟨wq,λo=>?_⟩⟩;refine Zkq (λi σ H9=>∃v2 v3:Option V,σ=[oR p,oR c,v2,v3]/\(∀b u,b≠c->H2 b=some u->H9 b=some u)/\H9 c=some (.frz o (.dK (dI ks g)))/\∀y∈ks.take i,0<g y->Yf ns y≠"rim") ⟨none,none,rfl,λb u hb e=>by rw[Ze hb];exact e,Zc,λy hy=>by cases hy⟩ ?_ ?_ ?_
  ·rintro i σ H9 _ ⟨v2,v3,rfl,_,e,_⟩
   exact e
  ·rintro i k0 x0 σ H9 q t7 hq ⟨v2,v3,rfl,s9,h9,hn⟩
   obtain⟨y,hy,hyi,rfl,rfl⟩:∃y,y∈ks/\ks[i]?=some y/\k0=Sum.inl y/\x0=V.int (g y):=by
    unfold dI at t7;rw[Ah]at t7
    cases e:ks[i]? with
    |none=>rw[e]at t7;cases t7
    |some z=>rw[e]at t7;cases t7;exact⟨z,Au e,Y,Y,Y⟩
   have ue:y∈keys ns ns.length:=tf.mem_iff.mp hy;have hg0:=nn y hy;have sq:Same H9 (upd H9 q (.tup [kV (Sum.inl y),V.int (g y)])):=Same.new hq;have taq:Z7 t.aa (upd H9 q (.tup [kV (Sum.inl y),V.int (g y)])) p M ns:=(zp.sameD (λb u hu e=>s9 b u (λz=>by rw[z,wq]at e;cases e;exact hu _ Y) e)).same sq;have snoc:(0<g y->Yf ns y≠"rim")->∀z∈ks.take (i+1),0<g z->Yf ns z≠"rim":=λhh z hz=>by
    rw[Aw,hyi]at hz
    rcases mem_append.mp hz with z'|z'
    ·exact hn z z'
    ·have:z=y:=by simpa using z'
     rw[this];exact hh
   refine⟨q,_,Y,SqT.of Zc,Y,_,_,Y,_,_,Y,Y,?_⟩;refine iteN (show ¬g y<0 from by lia) ((ite2 (λz=>?_) (λz=>iteF ⟨_,_,Y,λb u hb e=>sq _ _ (s9 b u hb e),sq _ _ h9,snoc λh=>absurd (decide_eq_true h) z⟩)));have hg1:0<g y:=of_decide_eq_true z;obtain⟨dx,cl,na,sp,mt,o',f,B⟩:=id taq;refine⟨B.ins,Xl _ _ _ _,p,M,ns,y,Y,taq,td,λ_ H' s'=>?_,λz=>absurd ue z⟩;refine⟨Y,?_⟩;by_cases e:Yf ns y="rim"
   ·rw[e,decide_eq_true rfl]
    exact iteT ⟨by decide,kR tf ⟨y,ue,hg1,e⟩ _⟩
   ·rw[Kf e]
    exact iteF ⟨_,_,Y,λb u hb e=>s' _ _ (sq _ _ (s9 b u hb e)),s' _ _ (sq _ _ h9),snoc λ_=>e⟩
  ·rintro σ H9 ⟨v2,v3,rfl,s9,h9,hn⟩
   rw[Gg,take_length]at hn;refine⟨c,o,_,h9,λo' u z=>?_,?_⟩
   ·have z:H c=some (.frz o' u):=z
    rw[hc]at z;cases z
   ·refine kQ tf (λ⟨x,hx,h1,h2⟩=>hn x (tf.mem_iff.mpr hx) h1 h2) _ λb u e=>?_
    by_cases hb:b=c
    ·subst hb
     rw[Zc];rw[hc]at e;exact e
    ·rw[Ze hb]
     exact s9 b u hb (s2 b u e)
def Us:FnScope ["tent","counts","triples"] ["tent","counts"] (Zf O6):=Am
def Zcp(T:Txt w K mg t):(a:) 4 t.df t.dm ["tent","counts"] (Zb8 t):=by
 refine T.dA.F.aX Us (b:)
 ·obtain⟨p,c,M,ns,ks,g,rfl,ta,td,my,hc,qe,R⟩:=h
  have hu:=Wc hr;refine ⟨_,(Zp (Z2 (pxT (Zbm T) hr T.cF (Za (pv 0) (P:))))
   (Zp (Zu (Jh (ts:=["row"]) (fv:=[("counts",1)]) (i:=2) (g:) rfl Us.nd rfl rfl (by rfl) (Yk (Yr (pv 0) T.ah T.bi.m (K5 T) (ai:) T.bi.b .nil Ya)) (ak:) (ag:) (ac:) (λ_ _ _ _ _ _=>Yq (Yt (ts:=["seam"]) (fv:=[("counts",1)]) (g:) rfl (Zcm K (pv 0)) (ak:) (ag:) (ac:) (λ_ _ _ _ _ _=>Yq (Wl hu (pv 1) (pv 0) (o:)))))))
   (Zp (Yo (Xn (Ye (Zdz rfl) (by rfl) T.lJ PyProof.Rows.boot_any (Za (Yt (ts:=["triple"]) (fv:=[]) (l:) rfl (Yk (pv 2)) (ar:) (ag:) (ac:) (λ_ _ _ _ _ _=>Yq (Y3 Z6 (Zj Z5 (Ye (Zb0 K rfl) (by rfl) T.lM PyProof.Rows.boot_sum (D:)) Zd) Zd (Zm _)))) Zb))) (Zo (Yl T.lh FBV rfl T.kP rfl (bv:))) Ym)
   (Zo (Yo (Xn (Ye (Zdz rfl) (by rfl) T.lJ PyProof.Rows.boot_any (Za (Yt (ts:=["triple"]) (fv:=[]) (l:) rfl (Yk (pv 2)) (ar:) (ag:) (ac:) (λ_ _ _ _ _ _=>Yq (Y3 J2 (Zj W5 Zd (Ye (Zkw K rfl) (by rfl) T.lL PyProof.Rows.boot_max (D:))) (Ye (Zb0 K rfl) (by rfl) T.lM PyProof.Rows.boot_sum (D:)) (Zm _)))) Zb))) (Zo (Yl T.lS FBV rfl T.lE rfl (bv:))) Ym))))),?_⟩
  refine Jv (λσ H'=>σ=[oR p,oR c,none]/\Same H H'/\ks.Perm (s:)/\¬rimN ns g) (ah:) ?_
  ·exact⟨p,c,M,ns,ks,g,Y,ta,td,my,hc,qe,R.nn,R.no,R.rim,λpm nr H' s'=>mq _ _ ⟨Y,s',pm,nr⟩⟩
  rintro σ H1 ⟨rfl,s1,pm,nr⟩;have ta1:=ta.same s1;obtain⟨n,n1,n40,hn⟩:=td.n;have wt:=td.len;have yg:ns.length/3=n:=by lia
  refine Jv (λσ H'=>∃(D:Addr)(us:List Addr),σ=[oR p,oR c,oR D]/\Same H1 H'/\H' D=some (.lst (us.map V.ref))/\us.length=n/\∀(k:Nat)(u:Addr),us[k]?=some u->H' u=some (.lst ((g3 ns g k).map V.int))) (ah:) ?_
  ·obtain⟨dx,cl,na,sp,mt,o,f,B⟩:=id ta1
   refine⟨B.ins,Xl _ _ _ _,p,M,ns,Y,ta1,λlr ts hlr ts1 ts2=>?_⟩;have s2:Same H1 (upd H1 lr (L:)):=Same.new hlr;have h2:(upd H1 lr (L:)) lr=some (L:):=Zc;have h2t:∀(k:Nat)(t:Addr),ts[k]?=some t->(upd H1 lr (L:)) t=some (.tup (row3 ns k)):=λk t e=>s2 _ _ (ts2 k t e);generalize upd H1 lr (.lst (ts.map V.ref))=H2 at s2 h2 h2t⊢;refine⟨lr,Y,⟨_,SqL.of h2⟩,λD hD=>?_⟩;have wq:=s2 _ _ (s1 _ _ hc);clear B ts2 hlr;have wj:ts.length=n:=by lia
   refine Z8 (xs:=ts.map V.ref) (λi σ H3=>∃(v:Option V)(us:List Addr),σ=[v,oR c]/\Same H2 H3/\H3 D=some (.lst (us.map V.ref))/\us.length=i/\∀(k:Nat)(u:Addr),us[k]?=some u->H3 u=some (.lst ((g3 ns g k).map V.int))) ⟨none,[],Y,Same.new hD,Zc,Y,λk u e=>by simp at e⟩ ?_ ?_ ?_
   ·rintro i σ H3 _ ⟨v,us,rfl,sm,_⟩
    exact SqL.of (sm _ _ h2)
   ·rintro i y σ H3 hy ⟨v,us,rfl,sm,h3,wg,zz⟩
    obtain⟨q,hq,rfl⟩:=Yi hy;have hi:i<n:=by rw[<-wj];exact(Aa hq).1
    dsimp only[Zv,tYes];rw[if_pos rfl];have hq3:=sm _ _ (h2t i q hq);refine⟨q,Y,⟨_,SqT.of hq3⟩,λD2 ph=>Zah (xs:=row3 ns i) (λj σ H4=>∃(v':Option V),σ=[v',oR c]/\Same H3 H4/\H4 D2=some (.lst (((g3 ns g i).take j).map V.int))) ⟨none,Y,Same.new ph,Zc⟩ ?_ ?_ ?_⟩
    ·rintro j σ H4 _ ⟨v',rfl,vj,h4⟩
     exact SqT.of (vj _ _ hq3)
    ·rintro j x σ H4 hx ⟨v',rfl,vj,h4⟩
     dsimp only[Zv,tYes];rw[if_pos rfl];obtain⟨z,hz,rfl,hg⟩:=Zu1 (g:=g) hx;have hzk:z∈ks:=pm.mem_iff.mpr (hz (by lia));refine⟨c,_,Y,Zcv (vj _ _ (sm _ _ wq)) hzk,_,h4,?_,_,Y,Same.add vj ph,?_⟩
     ·rw[Ab,Ai]
      exact Zt (by have:(g3 ns g i).length=3:=rfl;lia)
     ·rw[Zc,Aw,hg]
      simp
    ·rintro σ H4 ⟨v',rfl,vj,h4⟩
     have vz:H4 D2=some (.lst ((g3 ns g i).map V.int)):=h4;refine⟨_,vj _ _ h3,(by rw[Ab];exact Zt (by lia)),_,us++[D2],Y,Same.add (sm.trans vj) hD,?_,?_,?_⟩
     ·rw[Zc];simp
     ·rw[Ae,At,wg]
     ·intro k u z
      by_cases hk:k<us.length
      ·rw[Av hk]at z
       have gg:=vj _ _ (zz k u z);rw[Ze (λe=>by rw[e,vj _ _ h3]at gg;exact Zm5 gg)];exact gg
      ·have hk2:k=us.length:=by
        have:=(Aa z).1;rw[Ae,At]at this;lia
       subst hk2;have:u=D2:=by simpa using z.symm
       subst this;rw[wg,Ze (λe=>by rw[e,vj _ _ h3]at vz;exact Zm5 vz)];exact vz
   rintro σ H3 ⟨v,us,rfl,sm,h3,wg,zz⟩;rw[Ab]at wg;exact mq _ _ ⟨D,us,Y,s2.trans sm,h3,by lia,zz⟩
  rintro σ H3 ⟨D,us,rfl,sm,h3,wg,zz⟩;refine Jv (λσ H'=>σ=[oR p,oR c,oR D]/\Same H3 H'/\¬ ∃k,k<ns.length/3/\odB ns g k=true) (ah:) ?_
  ·refine⟨D,Y,⟨_,SqL.of h3⟩,λD1 wu=>?_⟩
   refine Z8 (xs:=us.map V.ref) (λi σ H4=>∃(v:Option V),σ=[v]/\Same H3 H4/\H4 D1=some (.lst (((List.range i).map (odB ns g)).map V.bl))) ⟨none,Y,Same.new wu,Zc⟩ ?_ ?_ ?_
   ·rintro i σ H4 _ ⟨v,rfl,s4,_⟩
    exact SqL.of (s4 _ _ h3)
   ·rintro i y σ H4 hy ⟨v,rfl,s4,h4⟩
    obtain⟨u,hu0,rfl⟩:=Yi hy;have hi:i<us.length:=(Aa hu0).1;dsimp only[Zv,tYes];rw[if_pos rfl];refine⟨u,_,Y,SqL.of (s4 _ _ (zz i u hu0)),(by show(0:Int)<2;decide),rfl,?_⟩;refine⟨_,h4,(by rw[Ab,Ab,length_range];exact Zt (by lia)),_,Y,Same.add s4 wu,?_⟩;rw[Zc,range_succ,Aj,Aj];rfl
   rintro σ H4 ⟨v,rfl,s4,h4⟩;rw[Ab]at h4;refine⟨D1,_,Y,SqL.of h4,(ite2 (λz=>⟨by decide,R.odd pm nr (by rw[yg,<-wg];exact Zb2.mp z) _⟩) (λz=>mq _ _ ⟨Y,s4,λq=>z (Zb2.mpr (by rw[yg,<-wg]at q;exact q))⟩))⟩
  rintro σ H4 ⟨rfl,s4,no⟩;have h34:=s4 _ _ h3;refine⟨D,Y,⟨_,SqL.of h34⟩,λD1 wu=>Z8 (xs:=us.map V.ref) (λi σ H5=>∃(v:Option V),σ=[v]/\Same H4 H5/\H5 D1=some (.lst (((List.range i).map (wdB ns g)).map V.bl))) ⟨none,Y,Same.new wu,Zc⟩ ?_ ?_ ?_⟩
  ·rintro i σ H5 _ ⟨v,rfl,s5,_⟩
   exact SqL.of (s5 _ _ h34)
  ·rintro i y σ H5 hy ⟨v,rfl,s5,h5⟩
   obtain⟨u,hu0,rfl⟩:=Yi hy;have hi:i<us.length:=(Aa hu0).1;dsimp only[Zv,tYes];rw[if_pos rfl];have hu5:=s5 _ _ (s4 _ _ (zz i u hu0));refine⟨u,_,Y,SqL.of hu5,(by show 0<3;decide),λm hm hmx=>⟨(by show CMul 2 m;exact .inl ⟨by decide,by decide⟩),u,_,Y,SqL.of hu5,?_⟩⟩;refine⟨_,h5,(by rw[Ab,Ab,length_range];exact Zt (by lia)),_,Y,Same.add s5 wu,?_⟩;rw[Zc,range_succ,Aj,Aj];show some (HO.lst (_++[V.bl (decide ((g3 ns g i).sum<2*m))]))=_;rw[Zr5 hm hmx];rfl
  rintro σ H5 ⟨v,rfl,s5,h5⟩;rw[Ab]at h5;refine⟨D1,_,Y,SqL.of h5,?_⟩;exact ite2 (λz=>⟨by decide,R.wide pm nr no (by rw[yg,<-wg];exact Zb2.mp z) _⟩) (λz=>R.ok pm nr no (λq=>z (Zb2.mpr (by rw[yg,<-wg]at q;exact q))) _ (s1.trans (sm.trans (s4.trans s5))))
noncomputable def R2(H:Hp)(p st:Addr):Hp:=λb=>if b=p\/b=st then none else H b
def R2.at{H:Hp}{p st b:Addr}{u:HO}(e:H b=some u)(h1:b≠p)(h2:b≠st):R2 H p st b=some u:=by
 unfold R2;rw[if_neg (λz=>z.elim h1 h2)];exact e
def R2.le{H:Hp}{p st b:Addr}{u:HO}(e:R2 H p st b=some u):b≠p/\b≠st/\H b=some u:=by
 unfold R2 at e;by_cases z:b=p\/b=st
 ·rw[if_pos z]at e;cases e
 ·rw[if_neg z]at e;exact⟨λy=>z (.inl y),λy=>z (.inr y),e⟩
def R2.out{H:Hp}{p st b:Addr}(h:b=p\/b=st):R2 H p st b=none:=by unfold R2;rw[if_pos h]
def Gm{H H':Hp}{p st:Addr}(s:Same H H')(h1:H p=none)(h2:H st=none):Same H (R2 H' p st):=λb u e=>
 R2.at (s b u e) (λz=>by rw[z,h1]at e;cases e) (λz=>by rw[z,h2]at e;cases e)
noncomputable def poS(q:Option (Int->Int))(c:Addr):List (Str×V):=match q with|none=>[]|some _=>[(Str.ofString "great",.ref c)]
structure HL(t:Adr)(H H0:Hp)(p st dx be sc un mo te wo th po c:Addr)(qs:List Addr)(M:Lq)(ns ks:List Int)(g:Int->Nat×Nat)(q:Option (Int->Int))(S:List Str):Prop where
 ins:H p=some (.ins t.af dx (Xh be sc st un))
 sta:H st=some (.lst (qs.map V.ref))
 low:Same H0 H
 np:H0 p=none
 nst:H0 st=none
 scn:H0 sc=some (.ins t.ai mo (X7 (.ref te) (.ref th) (.ref po) (.ref wo)))
 thr:H0 th=some (.dK [])
 poo:H0 po=some (.dK (dS (poS q c)))
 cnt:∀f,q=some f->G1 H0 c ns f
 beg:Z7 t.aa H0 be M ns
 ten:Z7 t.aa H0 te M ns
 wor:WAt H0 wo ks g
 len:qs.length=S.length
 old:∀(i:Nat)b x,qs[i]?=some b->S[i]?=some x->∃v,H0 b=some (.tup [.str x,v])
def HZ(t:Adr)(H H0:Hp)(p st:Addr)(M:Lq)(ns ks:List Int)(g:Int->Nat×Nat)(q:Option (Int->Int))(S:List Str):Prop:=
 ∃(dx be sc un mo te wo th po c:Addr)(qs:List Addr),HL t H H0 p st dx be sc un mo te wo th po c qs M ns ks g q S
section
variable{t:Adr}{H H0 H7:Hp}{p st dx be sc un mo te wo th po c:Addr}{qs:List Addr}{M:Lq}{ns ks:List Int}{g:Int->Nat×Nat}{q:Option (Int->Int)}{S:List Str}
def HL.same(B:HL t H H0 p st dx be sc un mo te wo th po c qs M ns ks g q S)(s:Same H H7):HL t H7 H0 p st dx be sc un mo te wo th po c qs M ns ks g q S:=
 ⟨s _ _ B.ins,s _ _ B.sta,B.low.trans s,B.np,B.nst,B.scn,B.thr,B.poo,B.cnt,B.beg,B.ten,B.wor,B.len,B.old⟩
def HZ.same(h:HZ t H H0 p st M ns ks g q S)(s:Same H H7):HZ t H7 H0 p st M ns ks g q S:=by
 obtain⟨a1,a2,a3,a4,a5,a6,a7,a8,a9,a10,a11,B⟩:=h;exact⟨a1,a2,a3,a4,a5,a6,a7,a8,a9,a10,a11,B.same s⟩
def R2.mono(s:Same H H7):Same (R2 H p st) (R2 H7 p st):=λb u e=>by
 obtain⟨n1,n2,e⟩:=R2.le e;exact R2.at (s _ _ e) n1 n2
def HL.entr{H8:Hp}(B:HL t H H0 p st dx be sc un mo te wo th po c qs M ns ks g q S)(s:Same H H8)(hn:S.length<=800){x dy qb ui qm c':Addr}{g':Int->Nat×Nat}{q':Option (Int->Int)}{rr:Str}{Q:VK}{E:XK}
  (c8:H8 x=some (a3:)) (nx:x≠p) (h1:H8 ui=some (.dK [])) (h2:H8 qm=some (.dK (dS (poS q' c')))) (hc:∀f,q'=some f->G1 (R2 H8 p st) c' ns f) (hw:WAt (R2 H8 p st) qb ks g')
  (k:∀H' og,Same H0 og->HZ t H' og p st M ns ks g' q' (S++[rr])->Q .non H'):Qy t.af [.ref p,.str rr,.ref x] H8 Q E:=by
 have C:=B.same s;have nx2:x≠st:=λz=>by rw[z,C.sta]at c8;cases c8
 refine⟨p,dx,be,sc,st,un,x,rr,qs.map V.ref,Y,C.ins,C.sta,by rw[Ab,B.len];lia,λq1 qc H9 hq hu o9 p9 st9 q9 u9=>?_⟩;have nq:q1≠p/\q1≠st:=⟨λz=>(by rw[z,C.ins]at hq;cases hq),λz=>(by rw[z,C.sta]at hq;cases hq)⟩;have s89:Same (R2 H8 p st) (R2 H9 p st):=λb u e=>by
  obtain⟨n1,n2,e⟩:=R2.le e
  exact R2.at (o9 b u n1 n2 e) n1 n2
 have s09:Same H0 (R2 H9 p st):=(Gm (B.low.trans s) B.np B.nst).trans s89;have dne:∀{b kvs},H8 b=some (.dK kvs)->R2 H9 p st b=some (.dK kvs):=λe=>s89 _ _ (R2.at e (λz=>(by rw[z,C.ins]at e;cases e)) (λz=>(by rw[z,C.sta]at e;cases e)));refine k H9 _ s09 ⟨dx,be,x,qc,dy,te,qb,ui,qm,c',qs++[q1],⟨p9,by rw[st9,Aj];rfl,λb u e=>(R2.le e).2.2,R2.out (.inl rfl),R2.out (.inr rfl),s89 _ _ (R2.at c8 nx nx2),dne h1,dne h2,λf e=>(hc f e).same s89,B.beg.same s09,B.ten.same s09,hw.same s89,by rw[Ae,Ae,B.len];rfl,λi b y hb hy=>?_⟩⟩;by_cases hi:i<qs.length
 ·rw[Av hi]at hb
  rw[Av (by rw[<-B.len];exact hi)]at hy;obtain⟨v,e⟩:=B.old i b y hb hy;exact⟨v,s09 _ _ e⟩
 ·rw[getElem?_append_right (by lia)]at hb
  rw[getElem?_append_right (by rw[<-B.len];lia),<-B.len]at hy;have z:=(Aa hb).1;have z:i-qs.length=0:=lt_one_iff.mp z;rw[z]at hb hy;cases hb;cases hy;exact⟨_,R2.at q9 nq.1 nq.2⟩
def HL.deed(B:HL t H H0 p st dx be sc un mo te wo th po c qs M ns ks g q S)(s:Same H H7)(hn:S.length<=800){qb ui qm c':Addr}{g':Int->Nat×Nat}{q':Option (Int->Int)}{rr:Str}{Q:VK}{E:XK}
  (h1:H7 ui=some (.dK [])) (h2:H7 qm=some (.dK (dS (poS q' c')))) (hc:∀f,q'=some f->G1 (R2 H7 p st) c' ns f) (hw:WAt (R2 H7 p st) qb ks g') (k:∀H' og,Same H0 og->HZ t H' og p st M ns ks g' q' (S++[rr])->Q .non H'):
  ∀x dy,H7 x=none->H7 dy=none->dy≠x->O3 t.ai [.ref x,.ref te,.ref ui,.ref qm,.ref qb] (upd (upd H7 dy (.own x)) x (.ins t.ai dy [])) (λv H8=>v=.non/\Qy t.af [.ref p,.str rr,.ref x] H8 Q E) E:=by
 intro x dy hx hy mw;refine⟨x,dy,_,_,_,_,Y,Zc,Y,?_⟩;rw[Wn];have s8:Same H7 (upd (upd H7 dy (.own x)) x (a3:)):=Same.add (Same.new hy) hx;have c8:(upd (upd H7 dy (.own x)) x (a3:)) x=some (a3:):=Zc;generalize upd (upd H7 dy (.own x)) x (.ins t.ai dy (X7 (.ref te) (.ref ui) (.ref qm) (.ref qb)))=H8 at s8 c8⊢;exact B.entr (s.trans s8) hn c8 (λz=>by rw[z,s _ _ B.ins]at hx;cases hx) (s8 _ _ h1) (s8 _ _ h2) (λf e=>(hc f e).same (R2.mono s8)) (hw.same (R2.mono s8)) k
end
def Zth{be sc st un cl na sp mt:Addr}:Xh be sc st un≠X3 cl na sp mt:=λe=>by
 have e1:(Xh be sc st un).map (·.1)=(X3 cl na sp mt).map (·.1):=by rw[e]
 have e2:(Xh be sc st un).map (·.1)=(Xh 0 0 0 0).map (·.1):=rfl;have e3:(X3 cl na sp mt).map (·.1)=(X3 0 0 0 0).map (·.1):=rfl;rw[e2,e3]at e1;exact absurd e1 (d:)
def Zbs{α:Type}{g:α->V}{xs:List α}(h:xs≠[]):HO.lst (xs.map g)≠.lst []:=λe=>by
 injection e with e
 exact h (map_eq_nil_iff.mp e)
def Zps{M:Lq}{ns:List Int}(td:TD M ns):ns≠[]:=λz=>by
 obtain⟨n,h1,_,h2⟩:=td.n;have:=td.len;rw[z,length_nil]at this;lia
def HallNew.hl{t:Adr}{H H1:Hp}{p dx be sc st un mo th po wo:Addr}{M:Lq}{ns ks:List Int}(td:TD M ns)(h:HallNew t.aa t.ai t.af H p M ns dx be sc st un mo th po wo ks)(s:∀b u,b≠p->H1 b=some u->H b=some u)(h1:H1 p=none)(h2:H1 st=none):Same H1 (R2 H p st)/\HZ t H (R2 H p st) p st M ns ks (λ_=>(1,1)) none []:=by
 have mw:=Zps td;have kp:∀ {b:Addr} {u:HO},H b=some u->(∀ C d f,u≠.ins C d f)->u≠.lst []->R2 H p st b=some u:=λ{b u} e c1 c2=>R2.at e (λz=>by rw [z,h.ins] at e; exact c1 _ _ _ (Ax e).symm) (λz=>by rw [z,h.sta] at e; exact c2 (Ax e).symm);have ki:∀ {b C d:Addr} {f:List (Str × V)},H b=some (.ins C d f)->(∀ be sc st un,f≠Xh be sc st un)->R2 H p st b=some (.ins C d f):=λ{b C d f} e c=>R2.at e (λz=>by
  rw[z,h.ins]at e
  injection e with e
  injection e with _ _ e
  exact c _ _ _ _ e.symm) (λz=>by rw[z,h.sta]at e;cases e)
 obtain⟨dt,cl,na,sp,mt,o,f,B⟩:=h.tent;obtain⟨ts,r1,r2,r3⟩:=B.rows;obtain⟨aw,w1,w2⟩:=h.wor
 have TA:Z7 t.aa (R2 H p st) be M ns:=by
  refine⟨dt,cl,na,sp,mt,o,f,ki B.ins (λ_ _ _ _=>(Zth).symm),⟨ts,kp r1 (t:) (Zbs λz=>?_),r2,λk q e=>kp (r3 k q e) (t:) (W:)⟩,kp B.names (t:) (Zbs mw),kp B.spots (t:) (W:),kp B.mates (t:) (Zbs λz=>?_),λy hy=>kp (B.at' y hy) (t:) (Zbs λz=>?_)⟩
  ·rw[z,length_nil]at r2
   exact mw (eq_nil_of_length_eq_zero r2)
  ·have:=td.len
   have z:M=[]:=z;rw[z]at this;exact mw (eq_nil_of_length_eq_zero this)
  ·obtain⟨i,hi,hx⟩:=Yu.mp hy
   have:=Xj.mpr ⟨hi,hx⟩;rw[z]at this;cases this
 refine⟨λb u e=>R2.at (s b u (λz=>by rw[z,h1]at e;cases e) e) (λz=>by rw[z,h1]at e;cases e) (λz=>by rw[z,h2]at e;cases e),dx,be,sc,un,mo,be,wo,th,po,0,[],⟨h.ins,h.sta,λb u e=>(R2.le e).2.2,R2.out (.inl rfl),R2.out (.inr rfl),ki h.scn ?_,kp h.thr (λ_ _ _ z=>nomatch z) (λz=>nomatch z),kp h.poo (λ_ _ _ z=>nomatch z) (λz=>nomatch z),λf z=>(nomatch z),TA,TA,⟨aw,kp w1 (λ_ _ _ z=>nomatch z) (λz=>nomatch z),λx hx=>kp (w2 x hx) (λ_ _ _ z=>nomatch z) (λz=>nomatch z)⟩,rfl,λi b x hb _=>by cases hb⟩⟩;intro be sc st un e;have e1:=congrArg (List.map (·.1)) e;have e2:(Xh be sc st un).map (·.1)=(Xh 0 0 0 0).map (·.1):=rfl;rw[e2]at e1;exact absurd e1 (by show(X7 (.int 0) (.int 0) (.int 0) (.int 0)).map (·.1)≠_;decide)
noncomputable def cntS(g:Int->Int)(x:Int):Str:=(Str.empty++(toString x:Str))++(Str.ofString ":")++l6 (g x)
noncomputable def cntT(g:Int->Int)(out:List Int):Str:=Txt.join (M:) (out.map (cntS g))
def Zca:Sp:=λvs H Q _=>∃(c:Addr)(ks:List Int)(g:Int->Int),vs=[.ref c]/\H c=some (.dK (dI ks g))/\ks.length<64/\(∀x∈ks,0<=x/\x<=9999/\0<=g x/\g x<100000000000000000000000000000000000000000000000000000000000000)/\∀(H':Hp)(out:List Int),Same H H'->out.Perm ks->out.Pairwise (·<=·)->Q (.str (b0:)) H'
def G0{g:Int->Int}{x:Int}(h:0<=x/\x<=9999/\0<=g x/\g x<100000000000000000000000000000000000000000000000000000000000000):(cntS g x).length<=73:=by
 unfold cntS;rw[Y0,Y0,Y0];have h1:=J6 h.2.2.1 h.2.2.2;have h2:(toString x:Str).length<=10:=PySem.W.KT.len_num h.1 (by lia);have h3:Str.empty.length=0:=rfl;have h4:(Str.ofString ":").length=1:=by decide
 lia
def Zry(g:Int->Int)(x:Int):Asc (cntS g x):=by
 unfold cntS;refine(Asc.app (Asc.app (λc hc=>?_) (Asc.num x)) (λc hc=>?_)).app (Zji _)
 ·have hc:c∈([]:List Nat):=hc;cases hc
 ·revert c hc;show ∀c∈[58],c<128;decide
def Zap{g:Int->Int}{out:List Int}(h:∀x∈out,0<=x/\x<=9999/\0<=g x/\g x<100000000000000000000000000000000000000000000000000000000000000):((out.map (cntS g)).map (·.length)).sum<=73*out.length:=by
 have sm:=Uq (B:=73) (l:=out.map (cntS g)) λy hy=>by
  obtain⟨x,hx,rfl⟩:=mem_map.mp hy;exact G0 (h x hx)
 rw[Ab]at sm;exact sm
def Zce:FnScope ["counts"] ["counts"] (Zf O8):=Am
def U2(T:Txt w K mg t):(a:) 2 t.di t.dq ["counts"] Zca:=by
 refine T.aK.F.aR Zce (b:)
 ·obtain⟨c,ks,g,rfl,hc,hl,hk,k⟩:=h
  have hu:=Wc hr;refine⟨_,(Zh (Zl (Wa PySem.F.plainAttrs_str PySem.F.slot_str_join PySem.F.type_str_join U5 Zk (Za (Yt (ts:=["seam"]) (fv:=[("counts",0)]) (g:) rfl (Yk (Ye (J8 rfl) (by rfl) T.cL PyProof.Rows.boot_sorted (D:))) (ak:) (ag:) (ac:) (λ_ _ _ _ _ _=>Yq (X0 (W4 (pv 0) (Yv (J0 (pcT (Zbo T) hr T.eU (Za (Wl hu (pv 1) (pv 0) (o:)) Zb)) W3)))))) Zb)))),?_⟩;refine⟨Y,c,_,ks,Y,.inl hc,(by unfold dI;rw[map_map];rfl),hl,λl1 oj n8 xx vi=>?_⟩;have s1:Same H (upd H l1 (.lst (oj.map V.int))):=Same.new n8;have h1:(upd H l1 (.lst (oj.map V.int))) l1=some (.lst (oj.map V.int)):=Zc;generalize upd H l1 (.lst (oj.map V.int))=H1 at s1 h1⊢;have uo:oj.length<64:=by rw[xx.length_eq];exact hl
  refine⟨l1,Y,⟨_,SqL.of h1⟩,λD hD=>Z8 (xs:=oj.map V.int) (λi σ H6=>∃v,σ=[v,oR c]/\Same H1 H6/\H6 D=some (.lst (((oj.take i).map (cntS g)).map V.str))) (a0:) ?_ ?_ ?_⟩
  ·rintro i σ H6 _ ⟨v,rfl,s6,_⟩
   exact SqL.of (s6 _ _ h1)
  ·rintro i y σ H6 hy ⟨v,rfl,s6,h6⟩
   rw[Ah]at hy;obtain⟨x,hx,rfl⟩:=Option.map_eq_some_iff.mp hy;have hxk:x∈ks:=xx.mem_iff.mp (Au hx);have ok:=hk x hxk;have hx10:(toString x:Str).length<=10:=PySem.W.KT.len_num ok.1 (by lia);dsimp only[Zv,tYes];rw[if_pos rfl];have hlog:x.natAbs.log2<1920:=by
    rcases eq_zero_or_pos x.natAbs with z|z
    ·rw[z];decide
    ·exact(Nat.log2_lt (by lia)).mpr (Ag (by lia:x.natAbs<2^20) (Nat.pow_le_pow_right (d:) (d:)))
   have cl:=G0 ok;have e58:(Str.ofString ":").length=1:=by decide
   have l1':(Str.empty++(toString x:Str)).length<=10:=by rw[Y0];have e:Str.empty.length=0:=rfl;lia
   have l2':((Str.empty++(toString x:Str))++(Str.ofString ":")).length<=11:=by rw[Y0];lia
   refine⟨x,Y,hlog,by rw[sizeLine_eq];lia,by rw[sizeLine_eq];exact Nat.le_trans l2' (d:),c,_,Y,Zcv (s6 _ _ (s1 _ _ hc)) hxk,g x,Y,ok.2.2.1,ok.2.2.2,λH7 s7=>?_⟩;have fl:=J6 ok.2.2.1 ok.2.2.2;refine⟨_,Y,by rw[sizeLine_eq];lia,(show(cntS g x).length<=sizeLine by rw[sizeLine_eq];lia),(show(cntS g x).length<=sizeLine by rw[sizeLine_eq];lia),?_⟩;refine⟨_,s7 _ _ h6,by rw[Ab,Ab,Ai];exact Zt (by lia),_,Y,Same.add (s6.trans s7) hD,?_⟩;rw[Zc,Aw,hx,Aj,Aj];rfl
  ·rintro σ H6 ⟨v,rfl,s6,h6⟩
   rw[Ab,take_length]at h6;have jl:=Zap (g:=g) (out:=oj) λx hx=>hk x (xx.mem_iff.mp hx);refine⟨_,D,oj.map (cntS g),Y,Y,SqL.of h6,by decide,by rw[Ab];lia,k _ oj (s1.trans s6) xx vi⟩
noncomputable def Wv(x r:Str):Str:=Txt.join (M:) [Str.ofString "pour",x,r]
def Vm(t:Adr):Sp:=λvs H Q E=>∃(p c st:Addr)(x:Str)(H0:Hp)(M:Lq)(ns ks ms:List Int)(g:Int->Nat×Nat)(S:List Str)(q:Option (Int->Int))(f:Int->Int),vs=[.ref p,.str x,.ref c]/\HZ t H H0 p st M ns ks g q S/\TD M ns/\ns.length<64/\S.length<=800/\Wd x/\isN x=true/\(q=none\/x≠Str.ofString "great")/\H c=some (.dK (dI ms f))/\ms.length<64/\(∀y∈ms,f y<100000000000000000000000000000000000000000000000000000000000000)/\
 CntR t ns ms f H E (q=none/\x=Str.ofString "great"/\∀out H' og,Same H0 og->out.Perm ms->out.Pairwise (·<=·)->HZ t H' og p st M ns ks g (some f) (S++[Wv x (cntT f out)])->Q .non H')
def Vp:FnScope ["self","name","counts","now","pools"] ["self","name","counts"] (Zf Fx):=Am
def Zgv(T:Txt w K mg t):(a:) 5 t.fk t.fM ["self","name","counts"] (Vm t):=by
 refine T.cI.F.aX Vp (b:)
 ·obtain⟨p,c,st,x,H0,M,ns,ks,ms,g,S,q,f,rfl,⟨dx,be,sc,un,mo,te,wo,th,po,c0,qs,B⟩,td,my,hS,hx,hN,hq,hc,hml,hf,R⟩:=h
  have hu:=Wc hr;have i1:=B.low _ _ B.scn
  have we:x∉(poS q c0).map (·.1):=λz=>by
   rcases hq with rfl|hq
   ·cases z
   ·cases q with
    |none=>cases z
    |some _=>exact hq (Af z)
  refine ⟨_,(Zp (Zu (psN 3 Vp.nd (Zz (pv 0) Y)))
   (Zp (Z2 (pxT (V2 T) hr T.bq (Za (pv 3) (P:))))
   (Zp (Z2 (pxT (Zcp T) hr T.dA (Za (Zz (pv 3) rfl) (Z:))))
   (Zp (Zu (psN 4 Vp.nd (pcT (K4 T) hr T.cG (Za (Zz (pv 3) rfl) (Za (pv 1) (Za (Ys Vf (by rfl) T.eY PySem.Pv.boot_dict (Z:)) Zb))))))
   (Zo (Zu (Xg (Xs (pv 0) T.ac T.aU.m (Kb T) (ai:) T.aU.b .nil Ya (Za (pcT (Qn T) hr T.bC (Za (Y5 (Za Zk (Za (pv 1) (Za (pcT (U2 T) hr T.aK (Z:)) Zb)))) Zb)) (Za (Vk T.hU (Qz T) (ai:) rfl T.gW T.bu.b .nil Ya (Za (Zz (pv 3) rfl) (Za (Zz (pv 3) rfl) (Za (pv 4) (Za (Zz (pv 3) rfl) Zb))))) Zb)))))))))),?_⟩;refine⟨B.ins,T.ac,T.ar,sc,mo,th,po,_,_,x,poS q c0,Y,i1,B.low _ _ B.thr,B.low _ _ B.poo,hx,hN,λz=>absurd z we,λ_ H1 s1=>⟨s1 _ _ i1,T.ak,T.aE,te,c,M,ns,ms,f,Y,(B.ten.same B.low).same s1,td,my,s1 _ _ hc,hml,⟨R.nn,λnp H' s'=>R.no np H' (s1.trans s'),R.rim,R.odd,R.wide,λpm r1 r2 r3 H2 s2=>?_⟩⟩⟩;obtain⟨rfl,rfl,k⟩:=R.ok pm r1 r2 r3;have ql:=s1.trans s2;refine⟨ql _ _ i1,T.ak,T.aF,c,_,Y,.inl (ql _ _ hc),λw' hw'=>?_⟩;have s3:Same H2 (upd H2 w' (.dK (dI ms f))):=Same.new hw';have w3:(upd H2 w' (.dK (dI ms f))) w'=some (.dK (dI ms f)):=Zc;generalize upd H2 w' (.dK (dI ms f))=H3 at s3 w3⊢;have pz:=ql.trans s3;refine⟨po,Sum.inr (r:),.ref w',[],rfl,pz _ _ (B.low _ _ B.poo),Az _,λqm xa=>?_⟩;have s4:Same H3 (upd H3 qm (.dK (dS (poS (some f) w')))):=Same.new xa;have h4:(upd H3 qm (.dK (dS (poS (some f) w')))) qm=some (.dK (dS (poS (some f) w'))):=Zc;rw[show putK [] (Sum.inr (r:)) (V.ref w')=dS (poS (some f) w')from rfl];generalize upd H3 qm (.dK (dS (poS (some f) w')))=H4 at s4 h4⊢;have zx:=pz.trans s4;refine⟨zx _ _ B.ins,Y,?_⟩;have xq:∀y∈ms,0<=y/\y<=9999/\0<=f y/\f y<100000000000000000000000000000000000000000000000000000000000000:=λy hy=>by
   obtain⟨i,_,hi⟩:=Yu.mp (pm.mem_iff.mp hy)
   exact⟨(td.rng i y hi).1,(td.rng i y hi).2,R.nn y hy,hf y hy⟩
  refine⟨c,ms,f,Y,zx _ _ hc,hml,xq,λH5 out s5 pm5 qk=>⟨(szR Y),λl2' pf=>?_⟩⟩;have s6:=Same.new (o:=.lst [V.str (Str.ofString "pour"),V.str (r:),V.str (cntT f out)]) pf;refine⟨l2',[.inl (Str.ofString "pour"),.inl (r:),.inl (cntT f out)],rfl,Zc,(by show 3<=900;decide),λy hy=>?_,?_,λH7 s7=>?_⟩
  ·rcases Ar hy with rfl|hy
   ·exact True.intro
   ·rcases Ar hy with rfl|hy
    ·exact True.intro
    ·rw[Af hy];exact True.intro
  ·show(4+(5+((cntT f out).length+0)))+3<=1048576
   have jl:=V8 (M:) (out.map (cntS f));have sm:=Zap (g:=f) (out:=out) λx hx=>xq x (pm5.mem_iff.mp hx);have e1:(M:).length=1:=by decide
   have hl:=pm5.length_eq;rw[Ab,e1]at jl;unfold cntT;lia
  have s47:=s5.trans (s6.trans s7);have zw:=zx.trans s47;have i7:=zw _ _ i1;refine⟨i7,T.ak,T.aE,i7,T.ak,T.aM,i7,T.ak,T.aQ,?_⟩;have s0:Same H0 (R2 H7 p st):=Gm (B.low.trans zw) B.np B.nst;have w7:=(s4.trans s47) _ _ w3;refine B.deed zw hS (zw _ _ (B.low _ _ B.thr)) (c':=w') (q':=some f) (s47 _ _ h4) (λy e=>?_) (B.wor.same s0) (λH' og s' h'=>k out H' og s' pm5 qk h');cases e;exact⟨ms,R2.at w7 (λz=>by rw[z,zw _ _ B.ins]at w7;cases w7) (λz=>by rw[z,zw _ _ B.sta]at w7;cases w7),pm⟩
noncomputable def weiT(x:Int)(v:Nat×Nat):Str:=Str.empty++Str.ofString "weigh "++(toString x:Str)++Str.ofString " "++(toString ((v.1:Nat):Int):Str)++Str.ofString "/"++(toString ((v.2:Nat):Int):Str)
def Qx(t:Adr):Sp:=λvs H Q E=>∃(p st:Addr)(x a b:Int)(H0:Hp)(M:Lq)(ns ks:List Int)(g:Int->Nat×Nat)(q:Option (Int->Int))(S:List Str),vs=[.ref p,.int x,.int a,.int b]/\HZ t H H0 p st M ns ks g q S/\TD M ns/\ns.length<64/\SwK M ns ks/\S.length<=800/\
 (x ∉ keys ns ns.length->∀ H',Same H H'->E (.ref t.ax) none H')/\(x∈keys ns ns.length->Yf ns x≠"rim"/\∃ m n:Nat,a=m/\b=n/\1<=m/\1<=n/\(m:Int) < 100000000000000000000000000000000000000000000000000000000000000/\(n:Int) < 100000000000000000000000000000000000000000000000000000000000000 /\
  (((10^60<(lowN m n).1\/10^60<(lowN m n).2)/\∀H',Same H H'->E (.ref t.az) none H')\/((lowN m n).1<=10^60/\(lowN m n).2<=10^60/\∀H' og,Same H0 og->HZ t H' og p st M ns ks (putG g x (lowN m n)) q (S++[weiT x (lowN m n)])->Q .non H')))
def Wz:FnScope ["self","seam","top","bottom","now","parts","worths","text"] ["self","seam","top","bottom"] (Zf Kw):=Am
def Zeo(T:Txt w K mg t):(a:) 3 t.dY t.d9 ["self","seam","top","bottom"] (Qx t):=by
 refine T.cj.F.aX Wz (b:)
 ·obtain⟨p,st,x,a,b,H0,M,ns,ks,g,q0,S,rfl,⟨dx,be,sc,un,mo,te,wo,th,po,c0,qs,B⟩,td,my,sw,hS,k0,k1⟩:=h
  have hu:=Wc hr;have i1:=B.low _ _ B.scn;have ta:=B.ten.same B.low;refine ⟨_,(Zp (Zu (psN 4 Wz.nd (Zz (pv 0) Y)))
   (Zp (Zq2 (Ww (Zz (pv 4) rfl) T.ah T.al.m (W8 T) (ai:) T.al.b .nil (P:)) Zk Z6 (Zm _) (Zo (Yl T.lN FBV rfl T.k8 rfl (bv:))) Ym)
   (Zp (Qf (i:=5) Wz.nd rfl (Or.inl rfl) (pxT (Zh9 T) hr T.gZ (Za (pv 2) (Za (pv 3) Zb))))
   (Zp (Z2 (pxT (Zel T) hr T.eE (Za (pv 5) Zb)))
   (Zp (Zu (psN 6 Wz.nd (pcT (K4 T) hr T.cG (Za (Zz (pv 4) rfl) (Za (pv 1) (Za (pv 5) Zb))))))
   (Zp (Zu (psN 7 Wz.nd (X0 (Yv (W4 (pv 1) (Yv (W4 (Zr Xf (pv 5) Zd (o:)) (Yv (W4 (Zr Xf (pv 5) Zd (o:)) W3)))))))))
   (Zo (Zu (Xg (Xs (pv 0) T.ac T.aU.m (Kb T) (ai:) T.aU.b .nil Ya (Za (pv 7) (Za (Vk T.hU (Qz T) (ai:) rfl T.gW T.bu.b .nil Ya (Za (Zz (pv 4) rfl) (Za (Zz (pv 4) rfl) (Za (Zz (pv 4) rfl) (Za (pv 6) Zb))))) Zb)))))))))))),?_⟩
  refine⟨B.ins,T.ac,T.ar,?_⟩;obtain⟨dt,cl,na,sp,mt,o,f,BT⟩:=id ta;refine⟨i1,T.ak,T.aE,BT.ins,Xl _ _ _ _,te,M,ns,x,Y,ta,td,λhx H1 s1=>?_,λhx=>k0 hx _ (Same.refl _)⟩;obtain⟨e,m,n,rfl,rfl,hm,hn,mB,nB,k⟩:=k1 hx;refine⟨Y,_,Y,?_⟩;rw[Kf e];refine iteF ?_;have hxs:x∈ks:=(sw.mem x).mpr ((Vn td hx).mpr e);refine⟨m,n,Y,λm' n' ea eb h1 h2=>?_,λz=>absurd z (by lia)⟩;obtain rfl:m=m':=by lia
  obtain rfl:n=n':=by lia
  refine⟨Zml hm (by have e:(m:Int)<10^62:=(by rw[Zp8];exact mB);have e':m<10^62:=(by exact_mod_cast e);exact Ag e' (n:)),λq hq=>?_⟩;obtain⟨v1,v2⟩:=Zi7 m n;generalize lowN m n=v at *;have s2:Same H1 (upd H1 q (tp v)):=Same.new hq;have q2:(upd H1 q (tp v)) q=some (tp v):=Zc;generalize upd H1 q (tp v)=H2 at s2 q2⊢;have ql:=s1.trans s2;refine⟨q,v,Y,q2,λl1 l2=>?_,λz=>?_⟩
  ·rcases k with ⟨z,_⟩|⟨_,_,k⟩
   ·lia
   obtain⟨aw,w1,w2⟩:=B.wor;have w1':=B.low _ _ w1;have qe:ks.length<=900:=by have:=sw.len td;lia
   refine⟨ql _ _ i1,T.ak,T.aQ,wo,Sum.inl x,.ref q,wD ks aw,Y,ql _ _ w1',by rw[Zas];exact qe,λqb hwo'=>?_⟩;have s3:Same H2 (upd H2 qb (b3:)):=Same.new hwo';have w3:(upd H2 qb (b3:)) qb=some (b3:):=Zc;have pz:=ql.trans s3;have q3:=s3 _ _ q2;obtain⟨i,hi,yc⟩:=Yu.mp hx;have xr:=td.rng i x yc;have B62:∀j:Nat,j<=m\/j<=n->((j:Nat):Int)<100000000000000000000000000000000000000000000000000000000000000:=λj hj=>by lia
   have x2:(toString x:Str).length<=62:=Y9 xr.1 (Int.lt_of_le_of_lt xr.2 (d:));have a2:(toString ((v.1:Nat):Int):Str).length<=62:=Y9 (Int.natCast_nonneg _) (B62 _ (.inl v1));have b2:(toString ((v.2:Nat):Int):Str).length<=62:=Y9 (Int.natCast_nonneg _) (B62 _ (.inr v2));have l0:Str.empty.length=0:=rfl;have l1:(Str.ofString "weigh ").length=6:=by decide
   have l2:(M:).length=1:=by decide
   have l3:(Str.ofString "/").length=1:=by decide
   generalize upd H2 qb (.dK (putK (wD ks aw) (Sum.inl x) (V.ref q)))=H3 at s3 w3 pz q3⊢;refine⟨lnN ?_,x,Y,Xt xr.1 (Int.lt_of_le_of_lt xr.2 (d:)),lnN ?_,lnN ?_,SqT.of q3,Y,v.1,Y,Xt (Int.natCast_nonneg _) (B62 _ (.inl v1)),lnN ?_,lnN ?_,SqT.of q3,Y,v.2,Y,Xt (Int.natCast_nonneg _) (B62 _ (.inr v2)),lnN ?_,lnN ?_,?_⟩
   iterate 7
    ·simp only[Str.length_append]
     lia
   try dsimp only[Zv]
   have i7:=pz _ _ i1;refine⟨pz _ _ B.ins,Y,i7,T.ak,T.aE,i7,T.ak,T.aM,i7,T.ak,T.aF,?_⟩;have s0:Same H0 (R2 H3 p st):=Gm (B.low.trans pz) B.np B.nst;refine B.deed pz hS (pz _ _ (B.low _ _ B.thr)) (c':=c0) (q':=q0) (pz _ _ (B.low _ _ B.poo)) (λy e=>(B.cnt y e).same s0) ?_ k;have ne:∀{b:Addr}{u:HO},H3 b=some u->(∀C d f,u≠.ins C d f)->(∀l,u≠.lst l)->R2 H3 p st b=some u:=λ{b u}e c1 c2=>R2.at e (λz=>by rw[z,pz _ _ B.ins]at e;exact c1 _ _ _ (Ax e).symm) (λz=>by rw[z,pz _ _ B.sta]at e;exact c2 _ (Ax e).symm);have W:=WAt.put (d:=qb) (H:=upd (R2 H3 p st) qb (.dK (wD ks aw))) (ad:=aw) (q:=q) (v:=v) (g:=g) Zc (λy hy=>?_) (by rw[Ze (λz=>by rw[z,w3]at q3;unfold tp at q3;cases q3)];exact ne q3 (λ_ _ _ z=>by unfold tp at z;cases z) (λ_ z=>by unfold tp at z;cases z)) hxs
   ·rw[Wn]at W
    have e:upd (R2 H3 p st) qb (b3:)=R2 H3 p st:=by
     funext b;by_cases z:b=qb
     ·subst z;rw[Zc];exact(ne w3 (t:) (λ_ z=>nomatch z)).symm
     ·rw[Ze z]
    rw[e]at W;exact W
   ·rw[Ze (λz=>by have:=B.low _ _ (w2 y hy);rw[z,ql.free hwo']at this;cases this)]
    exact s0 _ _ (w2 y hy)
  ·rcases k with ⟨_,k⟩|⟨l1,l2,_⟩
   ·exact k _ ql
   ·lia
def NoS(t:Adr)(H:Hp)(p:Addr)(x:Int)(n5:Str)(E:XK):Prop:=∃(M:Lq)(ns:List Int),Z7 t.aa H p M ns/\TD M ns/\(n5="left"\/n5="right")/\x∉keys ns ns.length/\∀H',Same H H'->E (.ref t.ax) none H'
def Zli(t:Adr):Sp:=λvs H _ E=>∃(p:Addr)(x:Int)(n5:Str),vs=[.ref p,.int x,.str n5]/\NoS t H p x n5 E
def Zsl(t:Adr):Sp:=λvs H _ E=>∃(sc mo te:Addr)(th po wo:V)(x:Int)(n5:Str),vs=[.ref sc,.int x,.str n5]/\H sc=some (.ins t.ai mo (X7 (.ref te) th po wo))/\NoS t H te x n5 E
def Ze8(t:Adr):Sp:=λvs H _ E=>∃(p dx be sc st un mo te:Addr)(th po wo:V)(x:Int)(n5:Str),vs=[.ref p,.int x,.str n5]/\H p=some (.ins t.af dx (Xh be sc st un))/\H sc=some (.ins t.ai mo (X7 (.ref te) th po wo))/\NoS t H te x n5 E
def Zkc(T:Txt w K mg t):(a:) 5 t.jt t.jI ["tent","seam","way"] (Zli t):=by
 refine T.jW.F.aX Qr (b:)
 ·obtain⟨p,x,n5,rfl,M,ns,ta,td,hw,hx,k⟩:=h
  refine ⟨_,(Zp (Z2 (pxT (Zh7 T) hr T.gY (Z:)))
   (Zp (Ziw (pxT (Zmd T) hr T.jV (Za (pv 0) (P:))) (Qu rfl (Yd (pgN 3 Qr.nd) (Yd (pgN 4 Qr.nd) (Yd (pgN 5 Qr.nd) (Yd (pgN 6 Qr.nd) Wk))))))
   (Vj Xo))),?_⟩;exact⟨n5,Y,λ_=>⟨p,M,ns,x,Y,ta,td,λc=>absurd c hx,λ_=>k _ (Same.refl _)⟩,λz=>absurd hw z⟩
def Zem(T:Txt w K mg t):(a:) 6 t.fg t.fI ["tent","seam","way"] (Zli t):=by
 refine T.fY.F.aX Km (b:)
 ·obtain⟨p,x,n5,rfl,h⟩:=h
  exact ⟨_,(Zp (Qf (i:=3) Km.nd Y (Or.inl Y) (pxT (Zkc T) hr T.jW (Za (pv 0) (Za (pv 1) (Z:)))))
   (Vj Xo)),p,x,n5,rfl,h⟩
def Ue:FnScope ["scene","seam","way","tent","threads","word","pools","worths","parts"] ["scene","seam","way"] (Zf Ut):=Am
def Zae(T:Txt w K mg t):(a:) 8 t.cA t.cE ["scene","seam","way"] (Zsl t):=by
 refine T.cH.F.aX Ue (b:)
 ·obtain⟨sc,mo,te,th,po,wo,x,n5,rfl,h1,h⟩:=h
  exact ⟨_,(Zp (Qf (i:=3) Ue.nd Y (Or.inl Y) (pxT (Zem T) hr T.fY (Za (Zz (pv 0) Y) (Za (pv 1) (Z:)))))
   (Vj Xo)),h1,T.ak,T.aE,te,x,n5,rfl,h⟩
def Kp:FnScope ["self","seam","way","behind"] ["self","seam","way"] (Zf Fv):=Am
def Zgu(T:Txt w K mg t):(a:) 9 t.fq t.fO ["self","seam","way"] (Ze8 t):=by
 refine T.cJ.F.aX Kp (b:)
 ·obtain⟨p,dx,be,sc,st,un,mo,te,th,po,wo,x,n5,rfl,h0,h1,h⟩:=h
  exact ⟨_,(Zp (Qf (i:=3) Kp.nd Y (Or.inl Y) (pxT (Zae T) hr T.cH (Za (Zz (pv 0) Y) (Za (pv 1) (Z:)))))
   (Vj Xo)),h0,T.ac,T.ar,sc,mo,te,th,po,wo,x,n5,rfl,h1,h⟩
def Fc(t:Adr):Sp:=λvs H _ E=>∃(p a st:Addr)(x:Str)(ws:List Int)(H0:Hp)(M:Lq)(ns ks:List Int)(g:Int->Nat×Nat)(q:Option (Int->Int))(S:List Str),vs=[.ref p,.str x,.ref a]/\HZ t H H0 p st M ns ks g q S/\TD M ns/\Wd x/\isN x=true/\x≠Str.ofString "great"/\H a=some (.lst (ws.map V.int))/\ws.length<=1000/\W0 M ws=false/\∀H',Same H H'->E (.ref t.ay) none H'
def Zfk(t:Adr):Sp:=λvs H Q _=>∃(p st:Addr)(H0:Hp)(M:Lq)(ns ks:List Int)(g:Int->Nat×Nat)(f:Int->Int)(S:List Str),vs=[.ref p,.str (r:)]/\HZ t H H0 p st M ns ks g (some f) S/\∀(l:Addr)(o8:List Int),H l=none->o8.Perm (s:)->Q (.ref l) (upd H l (.dK (dI o8 f)))
def G4(t:Adr):Sp:=λvs H Q _=>∃(p st:Addr)(H0:Hp)(M:Lq)(ns ks:List Int)(g:Int->Nat×Nat)(q:Option (Int->Int))(S:List Str),vs=[.ref p]/\HZ t H H0 p st M ns ks g q S/\∀(l:Addr)(H':Hp),Same H H'->H l=none->WAt H' l ks g->Q (.ref l) H'
def Zd7(t:Adr):Sp:=λvs H Q _=>∃(p st:Addr)(H0:Hp)(M:Lq)(ns ks:List Int)(g:Int->Nat×Nat)(q:Option (Int->Int))(S:List Str),vs=[.ref p]/\HZ t H H0 p st M ns ks g q S/\TD M ns/\∀(l:Addr)(H':Hp),Same H H'->H l=none->Yz H' l ns->Q (.ref l) H'
def Zod(t:Adr):Sp:=λvs H Q _=>∃(p st:Addr)(H0:Hp)(M:Lq)(ns ks:List Int)(g:Int->Nat×Nat)(q:Option (Int->Int))(S:List Str),vs=[.ref p]/\HZ t H H0 p st M ns ks g q S/\S.length<=900/\∀(l:Addr)(H':Hp),Same H H'->H l=none->H' l=some (.lst (S.map V.str))->Q (.ref l) H'
def Fg:FnScope ["self","name","word","now","threads"] ["self","name","word"] (Zf Zbd):=Am
def Zic(T:Txt w K mg t):(a:) 7 t.gB t.gO ["self","name","word"] (Fc t):=by
 refine T.dH.F.aX Fg (b:)
 ·obtain⟨p,a,st,x,ws,H0,M,ns,ks,g,q,S,rfl,⟨dx,be,sc,un,mo,te,wo,th,po,c0,qs,B⟩,td,hx,hN,hg,ha,hl,hp,k⟩:=h
  have i1:=B.low _ _ B.scn
  have we:x∉(poS q c0).map (·.1):=λz=>by
   cases q with
   |none=>cases z
   |some _=>exact hg (Af z)
  refine ⟨_,(Zp (Zu (psN 3 Fg.nd (Zz (pv 0) Y)))
   (Zp (Z2 (pxT (V2 T) hr T.bq (Za (pv 3) (P:))))
   (Zp (Z2 (pxT (Zco T) hr T.dw (Za (Zz (pv 3) rfl) (Z:))))
   (Vj Xo)))),?_⟩;exact⟨B.ins,T.ac,T.ar,sc,mo,th,po,_,_,x,poS q c0,Y,i1,B.low _ _ B.thr,B.low _ _ B.poo,hx,hN,λz=>absurd z we,λ_ H1 s1=>⟨s1 _ _ i1,T.ak,T.aE,te,a,M,ns,ws,Y,(B.ten.same B.low).same s1,td.len.symm,s1 _ _ ha,by lia,λH2 s2=>⟨λz=>(by rw[hp]at z;cases z),λ_=>k _ (s1.trans s2)⟩⟩⟩
def Zfu:FnScope ["self","name"] ["self","name"] (Zf Fy):=Am
def V4(T:Txt w K mg t):(a:) 1 t.fu t.fP ["self","name"] (Zfk t):=by
 refine T.aG.F.aR Zfu (b:)
 ·obtain⟨p,st,H0,M,ns,ks,g,f,S,rfl,⟨dx,be,sc,un,mo,te,wo,th,po,c0,qs,B⟩,k⟩:=h
  have hu:=Wc hr;have i1:=B.low _ _ B.scn;have po1:=B.low _ _ B.poo;obtain ⟨ms,hc,pm⟩:=(B.cnt f rfl).same B.low;have gt:DGet H po (.str (r:)) (some (V.ref c0)):=.inl ⟨_,Sum.inr (r:),.inl po1,rfl,rfl⟩;refine ⟨_,(Zg (Z9 (Uy (K2 hu (pv 1) (Zz (Zz (pv 0) Y) Y)) (ao:)) Xo Zy)
   (Zh (Zl (Ys Vf (by rfl) T.eY PySem.Pv.boot_dict (Za (Wl hu (Zz (Zz (pv 0) rfl) rfl) (pv 1) (o:)) Zb))))),?_⟩
  refine⟨B.ins,T.ac,T.ar,i1,T.ak,T.aF,po,_,Y,gt,?_⟩;exact⟨B.ins,T.ac,T.ar,i1,T.ak,T.aF,po,_,Y,gt,c0,_,Y,.inl hc,λl hl=>k l ms hl pm⟩
def G6:FnScope ["self"] ["self"] (Zf Vt):=Am
def Jg(T:Txt w K mg t):(a:) 1 t.bS t.bW ["self"] (G4 t):=by
 refine T.aq.F.aR G6 (b:)
 ·obtain⟨p,st,H0,M,ns,ks,g,q,S,rfl,⟨dx,be,sc,un,mo,te,wo,th,po,c0,qs,B⟩,k⟩:=h
  obtain⟨aw,w1,w2⟩:=B.wor.same B.low;refine⟨_,(Zh (Zl (Ys Vf (by rfl) T.eY PySem.Pv.boot_dict (Za (Zz (Zz (pv 0) Y) Y) Zb)))),?_⟩;exact⟨B.ins,T.ac,T.ar,B.low _ _ B.scn,T.ak,T.aQ,wo,_,Y,.inl w1,λl hl=>k l _ (Same.new hl) hl ⟨aw,Zc,λx hx=>Same.new hl _ _ (w2 x hx)⟩⟩
def Kr:FnScope ["self"] ["self"] (Zf Q3):=Am
def Ga(T:Txt w K mg t):(a:) 2 t.bG t.bJ ["self"] (Zd7 t):=by
 refine T.aW.F.aR Kr (b:)
 ·obtain⟨p,st,H0,M,ns,ks,g,q,S,rfl,⟨dx,be,sc,un,mo,te,wo,th,po,c0,qs,B⟩,td,k⟩:=h
  refine⟨_,(Zh (Zl (Yr (Zz (pv 0) Y) T.ah T.bi.m (K5 T) (ai:) T.bi.b .nil Ya))),?_⟩;have tb:=B.beg.same B.low;obtain⟨dt,cl,na,sp,mt,o,f,BT⟩:=id tb;exact⟨B.ins,T.ac,T.bt,BT.ins,Xl _ _ _ _,be,M,ns,Y,tb,λl ts hl h1 h2=>k l _ (Same.new hl) hl ⟨ts,Zc,h1,λi q e=>Same.new hl _ _ (h2 i q e)⟩⟩
def Zeg:FnScope ["self"] ["self"] (Zf Ky):=Am
def Kc(T:Txt w K mg t):(a:) 1 t.dZ t.ee ["self"] (Zod t):=by
 refine T.aV.F.aR Zeg (b:)
 ·obtain⟨p,st,H0,M,ns,ks,g,q,S,rfl,⟨dx,be,sc,un,mo,te,wo,th,po,c0,qs,B⟩,hn,k⟩:=h
  refine⟨_,(Zh (Zl (Yt (ts:=["text","earlier"]) (fv:=[]) (l:) rfl (Yk (Zz (pv 0) rfl)) (λ_ _ _ _=>(Zcn (n:=2) K rfl (Yd (pgN 0 nd2) (Yd (pgN 1 nd2) Wk)))) (ag:) (ac:) (λ_ _ _ _ _ _=>Yq (pv 0))))),?_⟩;refine⟨B.ins,T.ac,T.bp,st,Y,⟨_,SqL.of B.sta⟩,λD hD=>?_⟩;refine Z8 (xs:=qs.map V.ref) (λi σ H6=>∃(v0 v1:Option V),σ=[v0,v1]/\Same H H6/\H6 D=some (.lst ((S.take i).map V.str))) ⟨none,none,Y,Same.new hD,Zc⟩ ?_ ?_ ?_
  ·rintro i σ H6 _ ⟨v0,v1,rfl,s6,_⟩
   exact SqL.of (s6 _ _ B.sta)
  ·rintro i y σ H6 hy ⟨v0,v1,rfl,s6,h6⟩
   obtain⟨b,hq,rfl⟩:=Yi hy;have qu:i<S.length:=by rw[<-B.len];exact(Aa hq).1
   have hx:=Ac qu;obtain⟨v,e⟩:=B.old i b _ hq hx;refine⟨b,_,Y,SqT.of (s6 _ _ (B.low _ _ e)),Y,_,_,Y,_,_,Y,Y,?_⟩;dsimp only[Zv,tYes];rw[if_pos rfl];refine⟨_,h6,by rw[Ab,Ai];exact Zt (by lia),_,_,Y,Same.add s6 hD,?_⟩;rw[Zc,Aw,hx,Aj];rfl
  ·rintro σ H6 ⟨v0,v1,rfl,s6,h6⟩
   rw[Ab,B.len,take_length]at h6;exact k D H6 s6 hD h6
def X5(t:Adr):Sp:=λvs H Q E=>∃(p u m dx be sc st un:Addr)(v:Str),vs=[.ref p,.ref u]/\H p=some (.ins t.af dx (Xh be sc st un))/\H u=some (.tup [.str v,.ref m])/\
  ((v="lay"/\∃ x a,H m=some (.tup [.str x,.ref a])/\∀ (Q':VK) (E':XK),(∀ r H',Q .non H'->Q' r H')->(∀ c H',E c none H'->E' c none H')->Fc t [.ref p,.str x,.ref a] H Q' E') \/
   (v="pour"/\∃x a,H m=some (.tup [.str x,.ref a])/\∀(Q':VK)(E':XK),(∀r H',Q .non H'->Q' r H')->(∀c H',E c none H'->E' c none H')->Vm t [.ref p,.str x,.ref a] H Q' E')\/
   (v="weigh"/\∃x a b,H m=some (.tup [.int x,.int a,.int b])/\∀(Q':VK)(E':XK),(∀r H',Q .non H'->Q' r H')->(∀c H',E c none H'->E' c none H')->Qx t [.ref p,.int x,.int a,.int b] H Q' E')\/
   (v="turn"/\∃x w,H m=some (.tup [.int x,.str w])/\Ze8 t [.ref p,.int x,.str w] H Q E))
def Zgw(T:Txt w K mg t):(a:) 3 t.fo t.fN ["self","name"] (λ_ _ _ _=>False):=FnOk.no
def Oj:FnScope ["hall","deed","verb","parts"] ["hall","deed"] (Zf Zdj):=Am
def Zbp(T:Txt w K mg t):(a:) 10 t.iD t.iT ["hall","deed"] (X5 t):=by
 refine T.aO.F.aX Oj (b:)
 ·obtain⟨p,u,m,dx,be,sc,st,un,v,rfl,hp,hu1,hd⟩:=h
  refine ⟨_,(Zp (Zu (Vw (pv 1) (Qu Y (Yd (pgN 2 Oj.nd) (Yd (pgN 3 Oj.nd) Wk)))))
   (Zo (Yo (Zn Z6 (pv 2) Zk (Zm _)) (Zo (Z2 (Ww (pv 0) T.ac T.dH.m (Zic T) (ai:) T.dH.b .nil (b4:)))) (Zo (Yo (Zn Z6 (pv 2) Zk (Zm _)) (Zo (Z2 (Ww (pv 0) T.ac T.cI.m (Zgv T) (ai:) T.cI.b .nil (b4:)))) (Zo (Yo (Zn Z6 (pv 2) Zk (Zm _)) (Zo (Z2 (Ww (pv 0) T.ac T.f7.m (Zgw T) (ai:) T.f7.b .nil (Za (Zr Xf (pv 3) Zd (o:)) Zb)))) (Zo (Yo (Zn Z6 (pv 2) Zk (Zm _)) (Zo (Z2 (Ww (pv 0) T.ac T.cj.m (Zeo T) (ai:) T.cj.b .nil (Za (Zr Xf (pv 3) Zd (o:)) (b4:))))) (Zo (Z2 (Ww (pv 0) T.ac T.cJ.m (Zgu T) (ai:) T.cJ.b .nil (b4:))))))))))))),?_⟩;refine⟨u,_,Y,SqT.of hu1,Y,_,_,Y,_,_,Y,Y,?_⟩
  rcases hd with ⟨rfl,x,a,h1,k⟩|⟨rfl,x,a,h1,k⟩|⟨rfl,x,a,b,h1,k⟩|⟨rfl,x,y,h1,k⟩
  ·exact⟨Y,iteT ⟨hp,Y,SqT.of h1,Y,SqT.of h1,Y,k _ _ (λ_ _ h=>h) (λ_ _ h=>h)⟩⟩
  ·refine⟨Y,iteF ⟨Y,iteT ⟨hp,Y,SqT.of h1,Y,SqT.of h1,Y,?_⟩⟩⟩
   show Vm t [.ref p,.str x,.ref a] H _ _;exact k _ _ (λ_ _ h=>h) (λ_ _ h=>h)
  ·refine⟨Y,iteF ⟨Y,iteF ⟨Y,iteF ⟨Y,iteT ⟨hp,Y,SqT.of h1,Y,SqT.of h1,Y,SqT.of h1,Y,?_⟩⟩⟩⟩⟩
   show Qx t [.ref p,.int x,.int a,.int b] H _ _;exact k _ _ (λ_ _ h=>h) (λ_ _ h=>h)
  ·exact⟨Y,iteF ⟨Y,iteF ⟨Y,iteF ⟨Y,iteF ⟨hp,Y,SqT.of h1,Y,SqT.of h1,Y,k⟩⟩⟩⟩⟩
def X6(t:Adr):Sp:=λvs H Q E=>(Ur "lay" (Zc1 t.ag) vs H Q E\/Ur "pour" (Zay t.ag) vs H Q E)\/Ur "weigh" (Fa t.ag) vs H Q E\/Ur "turn" (Zax t.ag) vs H Q E
noncomputable def cloW(ns:List Int)(k:Nat):List (Str ⊕ Int):=[.inl (Str.ofString "cloth"),.inr (ns.getD (3*k) 0),.inr (ns.getD (3*k+1) 0),.inr (ns.getD (3*k+2) 0)]
noncomputable def cloT(ns:List Int)(k:Nat):Str:=Txt.join (M:) ((cloW ns k).map wS)
noncomputable def nj(ns:List Int)(n:Nat):List Str:=(List.range n).map (cloT ns)
def Zfa:Sp:=λvs H Q _=>∃(r:Addr)(M:Lq)(ns:List Int),vs=[.ref r]/\Yz H r ns/\TD M ns/\ns.length<64/\∀H',Same H H'->Q (.str (Txt.join (bj:) (nj ns (bu:)))) H'
noncomputable def wrT(ns:List Int)(S:List Str):List Str:=Txt.join (bj:) (nj ns (bu:))::S
def Zjo(t:Adr):Sp:=λvs H Q _=>∃(p st:Addr)(H0:Hp)(M:Lq)(ns ks:List Int)(g:Int->Nat×Nat)(q:Option (Int->Int))(S:List Str),vs=[.ref p]/\HZ t H H0 p st M ns ks g q S/\TD M ns/\ns.length<64/\S.length<=100/\((wrT ns S).map (·.length)).sum<=1000000/\∀H',Same H H'->Q (.str (Txt.join (bj:) (wrT ns S))) H'
def Zbq(T:Txt w K mg t):(a:) 7 t.eK t.eP ["text"] (X6 t):=
 ((Gq T ((Zme T).mono (d:)) T.jY rfl).or (Gq T (Zkd T) T.i5 rfl)).or ((Gq T ((Zh5 T).mono (d:)) T.g9 rfl).or (Gq T ((Zka T).mono (d:)) T.i6 rfl))
def Zfn:FnScope ["rows"] ["rows"] (Zf Fi):=Am
def Zgn(T:Txt w K mg t):(a:) 3 t.fC t.fU ["rows"] Zfa:=by
 refine T.bM.F.aR Zfn (b:)
 ·obtain⟨r,M,ns,rfl,⟨ts,ny,uq,y0⟩,td,my,k⟩:=h
  have hu:=Wc hr;have rg:∀j,0<=ns.getD j 0/\ns.getD j 0<100000000000000000000000000000000000000000000000000000000000000:=λj=>by
   by_cases hj:j<ns.length
   ·have e:ns[j]?=some (ns.getD j 0):=by rw[Ad,Ac hj];rfl
    have:=td.rng j _ e
    lia
   ·rw[Ad,Ay (by lia)]
    decide
  refine⟨_,(Zh (Zl (Wa PySem.F.plainAttrs_str PySem.F.slot_str_join PySem.F.type_str_join U5 Zk (Za (Yt (ts:=["row"]) (fv:=[]) (l:) rfl (Yk (pv 0)) (ar:) (ag:) (ac:) (λ_ _ _ _ _ _=>Yq (pcT (Qn T) hr T.bC (Za (Zj Zbk (Y5 (bv:)) (Ys (Zet K) (by rfl) T.ii PySem.Pv.boot_list (D:))) Zb)))) Zb)))),?_⟩;refine⟨Y,r,Y,⟨_,SqL.of ny⟩,λD hD=>?_⟩;refine Z8 (xs:=ts.map V.ref) (λi σ H6=>∃v,σ=[v]/\Same H H6/\H6 D=some (.lst ((nj ns i).map V.str))) (a0:) ?_ ?_ ?_
  ·rintro i σ H6 _ ⟨v,rfl,s6,_⟩
   exact SqL.of (s6 _ _ ny)
  ·rintro i q σ H6 hq ⟨v,rfl,s6,h6⟩
   obtain⟨b,hb,rfl⟩:=Yi hq;have qu:i<ts.length:=(Aa hb).1;have hrw:=s6 _ _ (y0 i b hb);dsimp only[Zv,tYes];rw[if_pos rfl];refine⟨(szR Y),λl1 n8=>?_⟩;have s1:Same H6 (upd H6 l1 (.lst [V.str (Str.ofString "cloth")])):=Same.new n8;refine⟨b,_,Y,.inr (SqT.of (s1 _ _ hrw)),λl2 pf=>?_⟩;have s2:=s1.trans (Same.new (o:=.lst (row3 ns i)) pf);have n12:l1≠l2:=Zi Zc pf;refine⟨l1,l2,_,_,Y,Y,by rw[Ze n12];exact Zc,Zc,(szR Y),λl3 uq=>?_⟩;have s3:=s2.trans (Same.new (o:=.lst ([V.str (Str.ofString "cloth")]++row3 ns i)) uq);refine⟨l3,cloW ns i,Y,Zc,(by show 4<=900;decide),λx hx=>?_,?_,λH7 s7=>?_⟩
   ·rcases Ar hx with rfl|hx
    ·exact True.intro
    ·rcases Ar hx with rfl|hx
     ·exact rg _
     ·rcases Ar hx with rfl|hx
      ·exact rg _
      ·rw[Af hx];exact rg _
   ·show(5+((l6 _).length+((l6 _).length+((l6 _).length+0))))+4<=1048576
    have f0:=J6 (rg (3*i)).1 (rg (3*i)).2;have f1:=J6 (rg (3*i+1)).1 (rg (3*i+1)).2;have f2:=J6 (rg (3*i+2)).1 (rg (3*i+2)).2;lia
   have s4:=s3.trans s7;refine⟨_,s4 _ _ h6,by rw[Ab];unfold nj;rw[Ab,length_range];exact Zt (by lia),_,Y,Same.add (s6.trans s4) hD,?_⟩;rw[Zc];unfold nj;rw[range_succ,Aj,Aj];rfl
  ·rintro σ H6 ⟨v,rfl,s6,h6⟩
   rw[Ab,show ts.length=ns.length/3 by lia]at h6;refine⟨_,D,nj ns (bu:),Y,Y,SqL.of h6,by decide,?_,k _ s6⟩;have e:(nj ns (bu:)).length=ns.length/3:=by unfold nj;rw[Ab,length_range]
   have sm:=Uq (B:=300) (l:=nj ns (bu:)) λy hy=>by
    obtain⟨i,_,rfl⟩:=mem_map.mp hy;have f0:=J6 (rg (3*i)).1 (rg (3*i)).2;have f1:=J6 (rg (3*i+1)).1 (rg (3*i+1)).2;have f2:=J6 (rg (3*i+2)).1 (rg (3*i+2)).2;have jl:=V8 (M:) ((cloW ns i).map wS);have e1:(M:).length=1:=by decide
    have e2:(((cloW ns i).map wS).map (·.length)).sum=5+((l6 (ns.getD (3*i) 0)).length+((l6 (ns.getD (3*i+1) 0)).length+((l6 (ns.getD (3*i+2) 0)).length+0))):=rfl;have e3:((cloW ns i).map wS).length=4:=rfl;unfold cloT;rw[e1,e2,e3]at jl;lia
   lia
def Zjz:FnScope ["hall"] ["hall"] (Zf Zc6):=Am
def Os(T:Txt w K mg t):(a:) 4 t.iF t.iV ["hall"] (Zjo t):=by
 refine T.cZ.F.aR Zjz (b:)
 ·obtain⟨p,st,H0,M,ns,ks,g,q,S,rfl,hz,td,my,hS,xm,k⟩:=h
  obtain⟨dx,be,sc,un,mo,te,wo,th,po,c0,qs,B⟩:=id hz;have hu:=Wc hr;refine⟨_,(Zh (Zl (Wa PySem.F.plainAttrs_str PySem.F.slot_str_join PySem.F.type_str_join U5 Zk (Za (Zj Zbk (Y5 (Za (pcT (Zgn T) hr T.bM (Za (Yr (pv 0) T.ac T.aW.m (Ga T) (ai:) T.aW.b .nil Ya) Zb)) Zb)) (Yr (pv 0) T.ac T.aV.m (Kc T) (ai:) T.aV.b .nil Ya)) Zb)))),?_⟩;refine⟨Y,B.ins,Y,p,st,H0,M,ns,ks,g,q,S,Y,hz,td,λl H1 s1 hl hrows=>⟨l,M,ns,Y,hrows,td,my,λH2 s2=>⟨(szR Y),λl1 n8=>?_⟩⟩⟩;have s3:=(s1.trans s2).trans (Same.new (o:=.lst [V.str (Txt.join (bj:) (nj ns (bu:)))]) n8);refine⟨s3 _ _ B.ins,Y,p,st,H0,M,ns,ks,g,q,S,Y,hz.same s3,by lia,λl2 H4 s4 pf h2=>⟨l1,l2,_,_,Y,Y,s4 _ _ Zc,h2,by rw[Ab];show 1+_<=_;rw[sizeLine_eq];lia,λl3 uq=>?_⟩⟩;refine⟨_,l3,wrT ns S,Y,Y,SqL.of Zc,by decide,?_,k _ ((s3.trans s4).trans (Same.new uq))⟩;have e:(wrT ns S).length=S.length+1:=rfl;lia
def Zan:∀m:Nat,0<m->∃c r,(Nat.toDigits 10 m).map Char.toNat=c::r/\49<=c:=λm=>by
 induction m using Nat.strongRecOn with
 |_ m ih=>
  intro h0;by_cases h:m<10
  ·rw[toDigits_of_lt_base h]
   have:∀d:Nat,d<10->0<d->49<=(Nat.digitChar d).toNat:=by decide
   exact⟨_,[],Y,this m h h0⟩
  ·have hm:m%10<10:=mod_lt m (d:)
   have t:Nat.toDigits 10 (m/10)++Nat.toDigits 10 (m%10)=Nat.toDigits 10 (10*(m/10)+m%10):=toDigits_append_toDigits (d:) (by lia) hm;rw[div_add_mod]at t;obtain⟨c,r,e,hc⟩:=ih (m/10) (by lia) (by lia);rw[<-t,Aj,e];exact⟨c,_,Y,hc⟩
def U4(m:Nat):∀c∈(l6 (m:Int)).cps.toList,48<=c/\c<=57:=λc hc=>by
 unfold l6 at hc;rw[PySem.W.KIN.signs_num]at hc;obtain⟨ch,qp,e⟩:=mem_map.mp hc;have r:=PyProof.Rows.digit_range (isDigit_of_mem_toDigits (d:) (d:) qp);rw[<-e];exact r
def Zti:∀c:Fin 128,48<=c.val->c.val<=57->Txt.contains fgL ⟨#[c.val]⟩=true:=by decide+kernel
def Zvb:(10:Int)^61=10000000000000000000000000000000000000000000000000000000000000:=by decide
def Zbx{n:Int}(h0:0<=n)(h1:n<10000000000000000000000000000000000000000000000000000000000000):(l6 n).length<=61:=PyProof.Rows.toString_length_le h0 (d:) (by rw[Zvb];exact h1)
def Zuo{n:Int}(h0:0<=n)(h1:n<10000000000000000000000000000000000000000000000000000000000000):J4 (l6 n)=true:=by
 have hl:=Zbx h0 h1;obtain⟨m,rfl⟩:=Int.eq_ofNat_of_zero_le h0;have hd:=U4 m;have mw:1<=(l6 (m:Int)).length:=by
  have e:(l6 (m:Int)).length=(l6 (m:Int)).cps.toList.length:=by rw[Array.length_toList];rfl
  rw[e]
  unfold l6
  rw[PySem.W.KIN.signs_num,Ab]
  by_cases z:m=0
  ·subst z;decide
  ·obtain⟨c,r,e,_⟩:=Zan m (by lia)
   have:=congrArg List.length e
   rw[Ab,length_cons]at this
   lia
 unfold J4;rw[decide_eq_true (by lia:(1:Int)<=_),decide_eq_true (by lia:_<=(61:Int)),Bool.true_and,Bool.true_and,Bool.and_eq_true];refine⟨?_,?_⟩
 ·unfold mdL
  rw[all_map,all_eq_true];intro c hc;obtain⟨d1,d2⟩:=hd c hc;exact Zti ⟨c,by lia⟩ d1 d2
 ·by_cases z:m=0
  ·subst z;rw[Bool.or_eq_true];exact .inl (d:)
  ·rw[Bool.or_eq_true]
   right;rw[Bool.not_eq_true'];obtain⟨c,r,e,hc⟩:=Zan m (by lia)
   cases hs:Txt.startswith (l6 (m:Int)) (Str.ofString "0") with
   |false=>rfl
   |true=>
    exfalso;unfold Txt.startswith at hs;rw[Bool.and_eq_true,decide_eq_true_eq]at hs;have:=(StrLaws.subAt_one (l6 (m:Int)) 48 0).mp hs;unfold l6 at this;rw[PySem.W.KIN.signs_num,e]at this;have:c=48:=by simpa using this
    lia
def Znc{n:Int}(h0:0<=n)(h1:n<100000000000000000000000000000000000000000000000000000000000000):PySem.intText? (l6 n)=some n:=by
 have hl:=Y9 h0 h1;obtain⟨m,rfl⟩:=Int.eq_ofNat_of_zero_le h0;have hd:PySem.NumText.AllDigits (l6 ((m:Nat):Int)).cps.toList:=U4 m
 have mw:(l6 ((m:Nat):Int)).cps.toList≠[]:=by
  unfold l6;rw[PySem.W.KIN.signs_num];intro e;by_cases z:m=0
  ·subst z;exact absurd e (d:)
  ·obtain⟨c,r,e',_⟩:=Zan m (by lia)
   rw[e]at e';cases e'
 have e:=PySem.intText_digits hd mw (Nat.le_trans hl (d:));unfold l6 at e⊢;rw[PySem.W.KIN.signs_num,PySem.W.KIN.val_back]at e;exact e
def Wb{n:Int}(h0:0<=n)(h1:n<10000000000000000000000000000000000000000000000000000000000000):numP (l6 n)=some n:=by
 unfold numP;rw[if_pos (Zuo h0 h1)];exact Znc h0 (by lia)
theorem Zcr{c d:Nat}:∀{l:List (List Nat)},d∈oh c l->d=c\/∃a∈l,d∈a
 |[],h=>by cases h
 |[a],h=>.inr ⟨a,mem_cons_self,h⟩
 |a::b::r,h=>by
  have h:d∈a++c::oh c (b::r):=h
  rcases mem_append.mp h with h|h
  ·exact .inr ⟨a,mem_cons_self,h⟩
  ·rcases Ar h with h|h
   ·exact .inl h
   ·rcases Zcr h with h|⟨x,h1,h2⟩
    ·exact .inl h
    ·exact .inr ⟨x,mem_cons_of_mem _ h1,h2⟩
theorem Zg2{c B:Nat}:∀{l:List (List Nat)},(∀a∈l,a.length<=B)->(oh c l).length<=(B+1)*l.length
 |[],_=>Az _
 |[a],h=>by have:=h a mem_cons_self;show a.length<=_;rw[At];lia
 |a::b::r,h=>by
  have h1:=h a mem_cons_self;have h2:=Zg2 (c:=c) (l:=b::r) λx hx=>h x (mem_cons_of_mem _ hx);show(a++c::oh c (b::r)).length<=_;rw[Ae,length_cons,show(a::b::r).length=(b::r).length+1 from rfl,mul_succ];lia
def X2(x:Str):x.length=x.cps.toList.length:=by rw[Array.length_toList];rfl
structure Wo(x:Str):Prop where
 asc:Asc x
 len:x.length<=150
 bl:32∉x.cps.toList
 nl:10∉x.cps.toList
def Wo.wd{x:Str}(h:Wo x):Wd x:=⟨h.asc,Nat.le_trans h.len (d:)⟩
noncomputable def woB(r:Str):Bool:=r.cps.toList.all (λc=>decide (c<128)&&decide (c≠10)&&decide (c≠32))&&decide (r.length<=150)
def wo_b{r:Str}(h:woB r=true):Wo r:=by
 unfold woB at h;rw[Bool.and_eq_true,all_eq_true,decide_eq_true_eq]at h;refine⟨λc hc=>?_,h.2,λhc=>?_,λhc=>?_⟩<;>have:=h.1 _ hc<;>simp only[Bool.and_eq_true,decide_eq_true_eq]at this<;>lia
structure Ln(d:Str)(ws:List Str):Prop where
 wd:o6 d=ws
 len:d.length<=5000
 nl:10∉d.cps.toList
def Gu{B:Nat}{d:Str}{ws:List Str}(h:d.cps.toList=oh 32 (ws.map λx=>x.cps.toList))(ne:ws≠[])(hB:∀x∈ws,x.length<=B)(hl:(B+1)*ws.length<=5000)(hw:∀x∈ws,Wo x):Ln d ws:=by
 refine⟨Oe (c:=32) ne (λp hp=>(hw p hp).bl) h,?_,λz=>?_⟩
 ·rw[X2,h]
  have:=Zg2 (c:=32) (B:=B) (l:=ws.map λx=>x.cps.toList) λa ha=>by
   obtain⟨x,hx,rfl⟩:=mem_map.mp ha;rw[<-X2];exact hB x hx
  rw[Ab]at this;lia
 ·rw[h]at z
  rcases Zcr z with z|⟨a,ha,z⟩
  ·exact absurd z (d:)
  ·obtain⟨x,hx,rfl⟩:=mem_map.mp ha
   exact(hw x hx).nl z
def ln_b{d:Str}(ws:List Str)(h:(d.cps.toList==oh 32 (ws.map λx=>x.cps.toList)&&!ws.isEmpty&&decide (ws.length<=30)&&ws.all woB)=true):Ln d ws:=by
 simp only[Bool.and_eq_true,decide_eq_true_eq,all_eq_true]at h;exact Gu (B:=150) (eq_of_beq h.1.1.1) (λz=>by rw[z]at h;simp at h) (λx hx=>(wo_b (h.2 x hx)).len) (by have:=h.1.2;lia) λx hx=>wo_b (h.2 x hx)
def Zq(a b:Str):(a++b).cps.toList=a.cps.toList++b.cps.toList:=Array.toList_append
def Vb{n:Int}(h0:0<=n)(h1:n<100000000000000000000000000000000000000000000000000000000000000):Wo (l6 n):=by
 have hl:=Y9 h0 h1;obtain⟨m,rfl⟩:=Int.eq_ofNat_of_zero_le h0;have hd:=U4 m;exact⟨λc hc=>by have:=hd c hc;lia,by lia,λhc=>by have:=hd _ hc;lia,λhc=>by have:=hd _ hc;lia⟩
def Zj8{c:Nat}{x a b:Str}(hx:x.cps.toList=a.cps.toList++c::b.cps.toList)(h1:c∉a.cps.toList)(h2:c∉b.cps.toList):Txt.split x ⟨#[c]⟩=[a,b]:=
 Oe (c:=c) (W:) (λp hp=>by
  rcases Ar hp with rfl|hp
  ·exact h1
  ·rw[Af hp];exact h2) hx
def Zlz{c:Nat}{x a b:Str}{i j:Int}(e:Txt.split x ⟨#[c]⟩=[a,b])(e1:numP a=some i)(e2:numP b=some j):prP c x=some (i,j):=by
 unfold prP;rw[e];show(match numP a,numP b with|some i,some j=>some (i,j)|_,_=>none)=_;rw[e1,e2]
def Gs{m:Nat}{c:Nat}(h:c<48\/57<c):c∉(l6 (m:Int)).cps.toList:=λz=>by have:=U4 m _ z;lia
def Zhe(g:Int->Int)(x:Int):(cntS g x).cps.toList=(l6 x).cps.toList++58::(l6 (g x)).cps.toList:=by
 unfold cntS;rw[Zq,Zq,Zq];show([]:List Nat)++(l6 x).cps.toList++[58]++(l6 (g x)).cps.toList=_;simp
def Zrv{g:Int->Int}{x:Int}(h0:0<=x)(h1:x<=9999)(h2:0<=g x)(h3:g x<10000000000000000000000000000000000000000000000000000000000000):prP 58 (cntS g x)=some (x,g x):=by
 have n1:=Wb h0 (by lia);have n2:=Wb h2 h3;have l:=Zhe g x;obtain⟨m,rfl⟩:=Int.eq_ofNat_of_zero_le h0;obtain⟨k,hk⟩:=Int.eq_ofNat_of_zero_le h2;exact Zlz (Zj8 l (Gs (.inr (d:))) (by rw[hk];exact Gs (.inr (d:)))) n1 n2
noncomputable def askN:List Str:=[Str.ofString "thread",Str.ofString "least",Str.ofString "pool"]
def dne{x y:Str}(h:x≠y):decide (V.str x=V.str y)=false:=decide_eq_false (λe=>by injection e with e;exact h e)
def Zkz(x:Str):Prop:=x≠Str.ofString "tent"/\x≠Str.ofString "numbers"/\x≠Str.ofString "back"/\x≠Str.ofString "again"/\∀y z,o6 x=[y,z]->y∉askN
def Fb(t:Adr):Sp:=λvs H Q E=>∃(p:Addr)(x:Str),vs=[.ref p,.str x]/\x.length<=5000/\Zkz x/\
 ∀H1,Same H H1->∀(Q':VK)(E':XK),(∀r H',Q (.str (Str.ofString "done")) H'->Q' r H')->(∀c H',E c none H'->E' c none H')->X6 t [.str x] H1 (λu H'=>X5 t [.ref p,u] H' Q' E') E'
def Xv(T:Txt w K mg t){f:Addr}{fd:FuncData}{ps:List Str}:(a:) 0 f fd ps (λ_ _ _ _=>False):=FnOk.no
def Qm:FnScope ["hall","order","words"] ["hall","order"] (Zf Zbc):=Am
def Zib(T:Txt w K mg t):(a:) 11 t.dD t.dF ["hall","order"] (Fb t):=by
 refine T.cm.F.aX Qm (b:)
 ·obtain⟨p,x,rfl,hz,⟨n1,n2,n3,n4,hn⟩,k⟩:=h
  refine ⟨_,(Zp (Zu (psN 2 Qm.nd (Wa PySem.F.plainAttrs_str PySem.F.slot_str_split PySem.F.type_str_split Qi (pv 1) (bv:))))
   (Zp (Zu (Z9 (bt:) (Zh (Zl (pcT (Xv T) hr T.bM (Za (Yr (pv 0) T.ac T.av.m (Xv T) (ai:) T.av.b .nil Ya) Zb)))) Zy))
   (Zp (Zu (Z9 (bt:) (Zh (Zl (pcT (Xv T) hr T.aK (Za (Yr (pv 0) T.ac T.aY.m (Xv T) (ai:) T.aY.b .nil Ya) Zb)))) Zy))
   (Zp (Yo (PW.pt (Ux (Zn Z6 (Z3 T.aj (Z:)) Zd (Zm _)) (Vi (Zn K3 (Zr Zs (pv 2) Zd (o:)) (Y7 (v:=.ref t.aA) rfl T.b9 rfl) (ao:))))) (Zo (Ziu (Uj (Xv T) (ai:) rfl T.bb.g T.bb.F.kp T.bb.b .nil (Wf (Uz (pv 0)) (Wf (Uz (Zr Zs (pv 2) Zd (o:))) (Wf (pxT (Q9 T) hr T.bZ (Za (Zr Zs (pv 2) Zd (o:)) Zb)) (Zbi Zb))))))) Ym)
   (Zp (Yo (bt:) (Zo (Zu (Xg (Yr (pv 0) T.ac T.bL.m (Xv T) (ai:) T.bL.b .nil Ya)))) (Zo (Yo (bt:) (Zo (Zu (Xg (Yr (pv 0) T.ac T.bv.m (Xv T) (ai:) T.bv.b .nil Ya)))) (Zo (Z2 (Uj (Zbp T) (ai:) rfl T.aO.g T.aO.F.kp T.aO.b .nil (Wf (Uz (pv 0)) (Wf (pxT (Zbq T) hr T.bx (P:)) (Zbi Zb)))))))))
   (Zo (Zu (Zl Zk)))))))),?_⟩;refine⟨Y,x,Str.ofString " ",rfl,rfl,rfl,by rw[sizeLine_eq];lia,λl hl=>?_⟩;have s1:Same H (upd H l (b2:)):=Same.new hl;have h1:(upd H l (b2:)) l=some (b2:):=Zc;rw[show Txt.split x (M:)=o6 x from rfl];generalize upd H l (.lst ((o6 x).map V.str))=H1 at s1 h1⊢;refine⟨Y,?_⟩;rw[dne n1];refine iteF ⟨Y,?_⟩;rw[dne n2];refine iteF ⟨l,_,Y,.inl (SqL.of h1),Y,?_⟩;refine ite2 (λe=>?_) (λe=>?_)
  ·have e:(o6 x).length=2:=by
    have e:=of_decide_eq_true e;rw[Ab]at e
    injection e with e
    lia
   obtain⟨y,z,ew⟩:∃y z,o6 x=[y,z]:=by
    match o6 x,e with
    |[y,z],_=>exact⟨_,_,Y⟩
   rw[ew]at h1;refine⟨SqL.of h1,(show atI [V.str y,V.str z] 0=some (V.str y)from Y),t.aA,_,Y,.inr (T.ce H1),Y,Gf _,?_⟩;rw[if_neg Bool.false_ne_true,show inV (V.str y) (List.map V.str [Str.ofString "thread",Str.ofString "least",Str.ofString "pool"])=decide (y∈askN)from Ua y askN,decide_eq_false (hn y z ew)];refine iteF ⟨Y,?_⟩;rw[dne n3];refine iteF ⟨Y,?_⟩;rw[dne n4];refine iteF ?_;exact k H1 s1 _ _ (λ_ _ h=>h) (λ_ _ h=>h)
  ·refine⟨Y,?_⟩
   rw[dne n3];refine iteF ⟨Y,?_⟩;rw[dne n4];refine iteF ?_;exact k H1 s1 _ _ (λ_ _ h=>h) (λ_ _ h=>h)
def Zb4(t:Adr)(H:Hp)(p:Addr)(Q:VK):Prop:=∃(st:Addr)(H0:Hp)(M:Lq)(ns ks:List Int)(g:Int->Nat×Nat)(f:Int->Int)(S:List Str),HZ t H H0 p st M ns ks g (some f) S/\TD M ns/\ns.length<64/\(∀y∈keys ns ns.length,0<=f y/\f y<100000000000000000000000000000000000000000000000000000000000000)/\
 ∀(out:List Int)(H':Hp),Same H H'->out.Perm (s:)->out.Pairwise (·<=·)->Q (.str (cntT f out)) H'
def Zql(t:Adr):Sp:=λvs H Q _=>∃p:Addr,vs=[.ref p,.str (be:),.str (r:)]/\Zb4 t H p Q
def Zb4.same{t:Adr}{H H1:Hp}{p:Addr}{Q Q':VK}(h:Zb4 t H p Q)(s:Same H H1)(hq:∀x H',Q (.str x) H'->Q' (.str x) H'):Zb4 t H1 p Q':=by
 obtain⟨st,H0,M,ns,ks,g,f,S,hz,td,my,hb,k⟩:=h;exact⟨st,H0,M,ns,ks,g,f,S,hz.same s,td,my,hb,λout H' s' pm so=>hq _ _ (k out H' (s.trans s') pm so)⟩
def Zqu(t:Adr):Sp:=λvs H Q _=>∃p:Addr,vs=[.ref p,.str (Str.ofString "pool great")]/\Zb4 t H p Q
def Zj1:FnScope ["hall","word","name"] ["hall","word","name"] (Zf Zc8):=Am
def Zkb(T:Txt w K mg t):(a:) 9 t.iE t.iU ["hall","word","name"] (Zql t):=by
 refine T.bb.F.aR Zj1 (b:)
 ·obtain⟨p,rfl,st,H0,M,ns,ks,g,f,S,hz,td,my,hb,k⟩:=h
  obtain ⟨dx,be,sc,un,mo,te,wo,th,po,c0,qs,B⟩:=id hz;refine ⟨_,(Zg (Z9 (bt:) (Zh (Zl (pcT (U2 T) hr T.aK (Za (Xs (pv 0) T.ac T.aG.m (V4 T) (ai:) T.aG.b .nil Ya (Z:)) Zb)))) Zy)
   (Zg (Z9 (bt:) (Zh (Zl (pcT (Qn T) hr T.bC (Za (Xs (pv 0) T.ac T.bc.m (Xv T) (ai:) T.bc.b .nil Ya (Z:)) Zb)))) Zy)
   (Zh (Zl (pcT (Qn T) hr T.bC (Za (pcT (Xv T) hr T.ly (Za (Vk T.jo (K8 T) (ai:) rfl T.jk T.bg.b .nil Ya (Za (Yr (pv 0) T.ac T.av.m (Xv T) (ai:) T.av.b .nil Ya) Zb)) (Za (Xs (pv 0) T.ac T.bc.m (Xv T) (ai:) T.bc.b .nil Ya (Z:)) Zb))) Zb)))))),?_⟩
  refine⟨Y,iteT ?_⟩;refine⟨B.ins,Y,p,st,H0,M,ns,ks,g,f,S,Y,hz,λl o8 hl pm=>⟨l,o8,f,Y,Zc,?_,λy hy=>?_,λH' out s' qm o3=>k out H' ((Same.new hl).trans s') (qm.trans pm) o3⟩⟩
  ·have h1:=pm.length_eq
   have h2:=U6 ns ns.length;lia
  ·have ue:=pm.mem_iff.mp hy
   obtain⟨i,_,hi⟩:=Yu.mp ue;exact⟨(td.rng i y hi).1,(td.rng i y hi).2,hb y ue⟩
def Zre(T:Txt w K mg t):(a:) 11 t.dD t.dF ["hall","order"] (Zqu t):=by
 refine T.cm.F.aX Qm (b:)
 ·obtain⟨p,rfl,h⟩:=h
  refine ⟨_,(Zp (Zu (psN 2 Qm.nd (Wa PySem.F.plainAttrs_str PySem.F.slot_str_split PySem.F.type_str_split Qi (pv 1) (bv:))))
   (Zp (Zu (Z9 (bt:) (Zh (Zl (pcT (Xv T) hr T.bM (Za (Yr (pv 0) T.ac T.av.m (Xv T) (ai:) T.av.b .nil Ya) Zb)))) Zy))
   (Zp (Zu (Z9 (bt:) (Zh (Zl (pcT (Xv T) hr T.aK (Za (Yr (pv 0) T.ac T.aY.m (Xv T) (ai:) T.aY.b .nil Ya) Zb)))) Zy))
   (Zp (Yo (PW.pt (Ux (Zn Z6 (Z3 T.aj (Z:)) Zd (Zm _)) (Vi (Zn K3 (Zr Zs (pv 2) Zd (o:)) (Y7 (v:=.ref t.aA) rfl T.b9 rfl) (ao:))))) (Zo (Ziu (Uj (Zkb T) (ai:) rfl T.bb.g T.bb.F.kp T.bb.b .nil (Wf (Uz (pv 0)) (Wf (Uz (Zr Zs (pv 2) Zd (o:))) (Wf (pxT (Q9 T) hr T.bZ (Za (Zr Zs (pv 2) Zd (o:)) Zb)) (Zbi Zb))))))) Ym)
   (Zp (Yo (bt:) (Zo (Zu (Xg (Yr (pv 0) T.ac T.bL.m (Xv T) (ai:) T.bL.b .nil Ya)))) (Zo (Yo (bt:) (Zo (Zu (Xg (Yr (pv 0) T.ac T.bv.m (Xv T) (ai:) T.bv.b .nil Ya)))) (Zo (Z2 (Uj (Xv T) (ai:) rfl T.aO.g T.aO.F.kp T.aO.b .nil (Wf (Uz (pv 0)) (Wf (pxT (Xv T) hr T.bx (P:)) (Zbi Zb)))))))))
   (Zo (Zu (Zl Zk)))))))),?_⟩;refine⟨Y,Str.ofString "pool great",Str.ofString " ",rfl,rfl,rfl,by rw[sizeLine_eq];decide,λl hl=>?_⟩;have s1:Same H (upd H l (.lst (a6:))):=Same.new hl;have h1:(upd H l (.lst (a6:))) l=some (.lst (a6:)):=Zc;rw[show(Txt.split (Str.ofString "pool great") (M:)).map V.str=(a6:)from by decide+kernel];generalize upd H l (.lst [V.str (Str.ofString "pool"),V.str (Str.ofString "great")])=H1 at s1 h1⊢;refine⟨Y,?_⟩;rw[dne (d:)];refine iteF ⟨Y,?_⟩;rw[dne (d:)];refine iteF ⟨l,_,Y,.inl (SqL.of h1),Y,?_⟩;refine⟨SqL.of h1,(show atI (a6:) 0=some (V.str (be:))from rfl),t.aA,_,rfl,.inr (T.ce H1),rfl,Gf _,?_⟩;rw[if_neg Bool.false_ne_true,show inV (V.str (be:)) (List.map V.str [Str.ofString "thread",Str.ofString "least",Str.ofString "pool"])=decide ((be:)∈askN)from Ua _ askN,decide_eq_true (d:)];refine⟨SqL.of h1,(show atI (a6:) 0=some (V.str (be:))from rfl),SqL.of h1,(show atI (a6:) 1=some (V.str (r:))from rfl),Str.ofString "great",rfl,(by show ∀c∈([103,114,101,97,116]:List Nat),c<128;decide),by decide,λH2 s2=>⟨λ_=>⟨p,rfl,h.same (s1.trans s2) (λ_ _ h=>h)⟩,λe=>absurd e (n:)⟩⟩
noncomputable def slT(a b:Int):Str:=l6 a++Str.ofString "/"++l6 b
def Of(a b:Int):(slT a b).cps.toList=(l6 a).cps.toList++47::(l6 b).cps.toList:=by
 unfold slT;rw[Zq,Zq];show(l6 a).cps.toList++[47]++(l6 b).cps.toList=_;simp
def Zpy{a b:Int}(a0:0<=a)(a1:a<100000000000000000000000000000000000000000000000000000000000000)(b0:0<=b)(b1:b<100000000000000000000000000000000000000000000000000000000000000):Wo (slT a b)/\(slT a b).length<=125:=by
 have w1:=Vb a0 a1;have w2:=Vb b0 b1;have l1:=Y9 a0 a1;have l2:=Y9 b0 b1;have hl:(slT a b).length<=125:=by
  rw[X2,Of,Ae,length_cons,<-X2,<-X2]
  lia
 have mm:∀c,c∈(slT a b).cps.toList->c∈(l6 a).cps.toList\/c=47\/c∈(l6 b).cps.toList:=λc hc=>by
  rw[Of]at hc
  rcases mem_append.mp hc with h|h
  ·exact .inl h
  ·rcases Ar h with h|h
   ·exact .inr (.inl h)
   ·exact .inr (.inr h)
 refine⟨⟨λc hc=>?_,by lia,λhc=>?_,λhc=>?_⟩,hl⟩
 ·rcases mm c hc with h|rfl|h
  ·exact w1.asc c h
  ·decide
  ·exact w2.asc c h
 ·rcases mm _ hc with h|h|h
  ·exact w1.bl h
  ·exact absurd h (d:)
  ·exact w2.bl h
 ·rcases mm _ hc with h|h|h
  ·exact w1.nl h
  ·exact absurd h (d:)
  ·exact w2.nl h
def Zof{a b:Int}(a0:0<=a)(b0:0<=b):Txt.split (slT a b) ⟨#[47]⟩=[l6 a,l6 b]:=by
 have l:=Of a b;obtain⟨m,rfl⟩:=Int.eq_ofNat_of_zero_le a0;obtain⟨k,rfl⟩:=Int.eq_ofNat_of_zero_le b0;exact Zj8 l (Gs (.inl (d:))) (Gs (.inl (d:)))
def Zr4{x:Int}{v:Nat×Nat}(x0:0<=x)(x1:x<=9999)(a1:(v.1:Int)<100000000000000000000000000000000000000000000000000000000000000)(b1:(v.2:Int)<100000000000000000000000000000000000000000000000000000000000000):Ln (weiT x v) [Str.ofString "weigh",l6 x,slT v.1 v.2]:=by
 obtain⟨w3,l3⟩:=Zpy (Int.natCast_nonneg v.1) a1 (Int.natCast_nonneg v.2) b1;have w2:=Vb x0 (Int.lt_of_le_of_lt x1 (d:));have l2:=Y9 x0 (Int.lt_of_le_of_lt x1 (d:));refine Gu (B:=130) ?_ (W:) (λy hy=>?_) (by show 131*3<=5000;decide) λy hy=>?_
 ·unfold weiT
  rw[Zq,Zq,Zq,Zq,Zq,Zq];show([]:List Nat)++[119,101,105,103,104,32]++(l6 x).cps.toList++[32]++(l6 v.1).cps.toList++[47]++(l6 v.2).cps.toList=[119,101,105,103,104]++32::((l6 x).cps.toList++32::(slT v.1 v.2).cps.toList);rw[Of];simp
 ·rcases Ar hy with rfl|hy
  ·decide
  ·rcases Ar hy with rfl|hy
   ·lia
   ·rw[Af hy];lia
 ·rcases Ar hy with rfl|hy
  ·exact wo_b (n:)
  ·rcases Ar hy with rfl|hy
   ·exact w2
   ·rw[Af hy];exact w3
theorem U7{c:Nat}(a:List Nat):∀{l:List (List Nat)},l≠[]->oh c (a::l)=a++c::oh c l
 |[],h=>absurd rfl h
 |_::_,_=>rfl
def Jx(l:List Str):(Txt.join (M:) l).cps.toList=oh 32 (l.map λx=>x.cps.toList):=by
 show(Builtin.Str.glued _ l).cps.toList=_;rw[StrLaws.glued_eq_join];exact Jk 32 l
def Zhd{g:Int->Int}{x:Int}(h0:0<=x)(h1:x<=9999)(h2:0<=g x)(h3:g x<100000000000000000000000000000000000000000000000000000000000000):Wo (cntS g x):=by
 have w1:=Vb h0 (Int.lt_of_le_of_lt h1 (d:));have w2:=Vb h2 h3;have hl:=G0 ⟨h0,h1,h2,h3⟩;have mm:∀c,c∈(cntS g x).cps.toList->c∈(l6 x).cps.toList\/c=58\/c∈(l6 (g x)).cps.toList:=λc hc=>by
  rw[Zhe]at hc
  rcases mem_append.mp hc with h|h
  ·exact .inl h
  ·rcases Ar h with h|h
   ·exact .inr (.inl h)
   ·exact .inr (.inr h)
 refine⟨Zry g x,by lia,λhc=>?_,λhc=>?_⟩
 ·rcases mm _ hc with h|h|h
  ·exact w1.bl h
  ·exact absurd h (d:)
  ·exact w2.bl h
 ·rcases mm _ hc with h|h|h
  ·exact w1.nl h
  ·exact absurd h (d:)
  ·exact w2.nl h
def Zsv{g:Int->Int}{out:List Int}(ne:out≠[])(my:out.length<64)(h:∀x∈out,0<=x/\x<=9999/\0<=g x/\g x<100000000000000000000000000000000000000000000000000000000000000):Ln (Wv (r:) (b0:)) (Str.ofString "pour"::Str.ofString "great"::out.map (cntS g)):=by
 have n2:(out.map (cntS g)).map (λx=>x.cps.toList)≠[]:=λz=>ne (map_eq_nil_iff.mp (map_eq_nil_iff.mp z));refine Gu (B:=73) ?_ (W:) (λy hy=>?_) (by show 74*((out.map (cntS g)).length+1+1)<=5000;rw[Ab];lia) λy hy=>?_
 ·unfold Wv
  rw[Jx];show[112,111,117,114]++32::([103,114,101,97,116]++32::(b0:).cps.toList)=oh 32 ([112,111,117,114]::[103,114,101,97,116]::(out.map (cntS g)).map λx=>x.cps.toList);rw[U7 [112,111,117,114] (cons_ne_nil _ _),U7 [103,114,101,97,116] n2];unfold cntT;rw[Jx]
 ·rcases Ar hy with rfl|hy
  ·decide
  ·rcases Ar hy with rfl|hy
   ·decide
   ·obtain⟨x,hx,rfl⟩:=mem_map.mp hy
    exact G0 (h x hx)
 ·rcases Ar hy with rfl|hy
  ·exact wo_b (n:)
  ·rcases Ar hy with rfl|hy
   ·exact wo_b (n:)
   ·obtain⟨x,hx,rfl⟩:=mem_map.mp hy
    obtain⟨a,b,c,d⟩:=h x hx;exact Zhd a b c d
def Zop{g:Int->Int}{out:List Int}(up:out.Pairwise (·<·))(h:∀x∈out,0<=x/\x<=9999/\0<=g x/\g x<10000000000000000000000000000000000000000000000000000000000000):Cnts (out.map (cntS g)) out g:=
 ⟨Ab ..,up,λi y x hy hx=>by
  rw[Ah,hx]at hy;cases hy;obtain⟨a,b,c,d⟩:=h x (Au hx)
  exact Zrv a b c d⟩
def Zhf{ns:List Int}{k:Nat}(h:∀j,0<=ns.getD j 0/\ns.getD j 0<=9999):Ln (cloT ns k) [Str.ofString "cloth",l6 (ns.getD (3*k) 0),l6 (ns.getD (3*k+1) 0),l6 (ns.getD (3*k+2) 0)]/\cloP (cloT ns k)=some (ns.getD (3*k) 0,ns.getD (3*k+1) 0,ns.getD (3*k+2) 0):=by
 have w:∀j,Wo (l6 (ns.getD j 0)):=λj=>Vb (h j).1 (Int.lt_of_le_of_lt (h j).2 (d:));have l:∀j,(l6 (ns.getD j 0)).length<=62:=λj=>Y9 (h j).1 (Int.lt_of_le_of_lt (h j).2 (d:));have n:∀j,numP (l6 (ns.getD j 0))=some (ns.getD j 0):=λj=>Wb (h j).1 (Int.lt_of_le_of_lt (h j).2 (d:));have L:Ln (cloT ns k) [Str.ofString "cloth",l6 (ns.getD (3*k) 0),l6 (ns.getD (3*k+1) 0),l6 (ns.getD (3*k+2) 0)]:=by
  refine Gu (B:=62) (Jx _) (cons_ne_nil _ _) (λy hy=>?_) (by show 63*4<=5000;decide) λy hy=>?_
  ·rcases Ar hy with rfl|hy
   ·decide
   ·rcases Ar hy with rfl|hy
    ·exact l _
    ·rcases Ar hy with rfl|hy
     ·exact l _
     ·rw[Af hy];exact l _
  ·rcases Ar hy with rfl|hy
   ·exact wo_b (n:)
   ·rcases Ar hy with rfl|hy
    ·exact w _
    ·rcases Ar hy with rfl|hy
     ·exact w _
     ·rw[Af hy];exact w _
 refine⟨L,?_⟩;unfold cloP;rw[L.wd];simp only[n]
noncomputable def cloS:Str:=Str.ofString "cloth "
def Ztv{x:Int}{a b:Int}(x0:0<=x)(x1:x<=9999)(a0:0<=a)(a1:a<10000000000000000000000000000000000000000000000000000000000000)(b0:0<=b)(b1:b<10000000000000000000000000000000000000000000000000000000000000):weiP [l6 x,slT a b]=some (x,a,b):=by
 unfold weiP;simp only[Zlz (Zof a0 b0) (Wb a0 a1) (Wb b0 b1),Wb x0 (Int.lt_of_le_of_lt x1 (d:))]
def Zbt(l:List Str):(Txt.join (bj:) l).cps.toList=oh 10 (l.map λx=>x.cps.toList):=by
 show(Builtin.Str.glued _ l).cps.toList=_;rw[StrLaws.glued_eq_join];exact Jk 10 l
theorem Zp5{c:Nat}{S:List (List Nat)}:∀{a:List (List Nat)},a≠[]->oh c (oh c a::S)=oh c (a++S)
 |[],h=>absurd rfl h
 |[x],_=>rfl
 |x::y::r,_=>by
  have ih:=Zp5 (c:=c) (S:=S) (cons_ne_nil y r)
  match S,ih with
  |[],_=>rw[append_nil];rfl
  |s::S,ih=>
   rw[U7 _ (cons_ne_nil s S)]at ih⊢;rw[cons_append,U7 (c:=c) x (cons_ne_nil y r),U7 (c:=c) x (by rw[cons_append];exact cons_ne_nil _ _),<-ih,append_assoc,cons_append]
def Zn0{ns:List Int}{S:List Str}(hn:0<ns.length/3)(h:∀r∈nj ns (bu:)++S,10∉r.cps.toList/\r.length<=5000):
  Txt.split (Txt.join (bj:) (wrT ns S)) (bj:)=nj ns (bu:)++S/\(Txt.join (bj:) (wrT ns S)).length<=5001*(ns.length/3+S.length):=by
 have hl:(nj ns (bu:)).length=ns.length/3:=by unfold nj;rw[Ab,length_range]
 have ne:nj ns (bu:)≠[]:=λz=>by rw[z]at hl;exact absurd hl (by simp;lia)
 have e:(Txt.join (bj:) (wrT ns S)).cps.toList=oh 10 ((nj ns (bu:)++S).map λx=>x.cps.toList):=by
  rw[Zbt];unfold wrT;rw[map_cons,Zbt,Aj,Zp5 (λz=>ne (map_eq_nil_iff.mp z))]
 refine⟨Oe (c:=10) (λz=>ne (append_eq_nil_iff.mp z).1) (λr hr=>(h r hr).1) e,?_⟩;rw[X2,e];have:=Zg2 (c:=10) (B:=5000) (l:=(nj ns (bu:)++S).map λx=>x.cps.toList) λa ha=>by
  obtain⟨x,hx,rfl⟩:=mem_map.mp ha
  rw[<-X2];exact(h x hx).2
 rw[Ab,Ae,hl]at this;exact this
def Zue{x:Str}{l:List Nat}(e:x.cps.toList=112::l):Txt.startswith x cloS=false:=by
 unfold Txt.startswith;rw[Bool.and_eq_false_iff];right;rw[StrLaws.subAt_eq,e];rfl
def Zlc{x:Str}{l:List Nat}(e:x.cps.toList=[99,108,111,116,104,32]++l):Txt.startswith x cloS=true:=by
 unfold Txt.startswith;rw[StrLaws.subAt_eq,e,Bool.and_eq_true,decide_eq_true_eq,X2 x,e];refine⟨?_,beq_iff_eq.mpr Y⟩;show 0+6<=_;rw[Ae];exact le_add_right _ _
def Ztr(ns:List Int)(k:Nat):Txt.startswith (cloT ns k) cloS=true:=Zlc (Jx _)
def Zsu(r:Str):Txt.startswith (Wv (r:) r) cloS=false:=Zue (Jx _)
def Znd{n:Int}(h0:1000000000000000000000000000000000000000000000000000000000000<=n)(h1:n<10000000000000000000000000000000000000000000000000000000000000):(l6 n).length=61:=by
 have hl:=Zbx (Int.le_trans (d:) h0) h1;obtain⟨m,rfl⟩:=Int.eq_ofNat_of_zero_le (Int.le_trans (d:) h0);have e:=Zhb 60 (m/10^60) (m%10^60) (div_pos (by rw[show(10:Nat)^60=1000000000000000000000000000000000000000000000000000000000000 from by decide];lia) (Nat.pow_pos (d:))) (mod_lt _ (Nat.pow_pos (d:)));rw[Nat.mul_comm,div_add_mod]at e
 have pl:∀k b,(pdg k b).length=k:=λk=>by
  induction k with
  |zero=>exact λ_=>rfl
  |succ k ih=>intro b;show(pdg k (b/10)++[48+b%10]).length=_;rw[Ae,ih];rfl
 have dp:∀b,1<=(dg b).length:=λb=>by
  by_cases h:b<10
  ·rw[Zks h];exact An _
  ·rw[Zcs h,Ae];exact le_add_left _ _
 have e2:=congrArg List.length e;rw[Ae,pl]at e2;have:=dp (m/10^60);have e3:(l6 (m:Int)).length=(dg m).length:=by
  rw[X2]
  unfold l6
  rw[PySem.W.KIN.signs_num]
  rfl
 lia
structure Fw(W:Str)(v:Option Int):Prop where
 wo:Wo W
 ge:61<=W.length
 le:W.length<=62
 dig:∀c∈W.cps.toList,48<=c/\c<=57
 num:numP W=v
def Zo1{W:Str}(h:61<W.length):numP W=none:=by
 unfold numP J4;rw[decide_eq_false (by lia:¬((W.length:Nat):Int)<=61),Bool.and_false,Bool.false_and,Bool.false_and];rfl
def Zu2{n:Int}(h0:1000000000000000000000000000000000000000000000000000000000000<=n)(h1:n<10000000000000000000000000000000000000000000000000000000000000):Fw (l6 n++Str.ofString "") (some n)/\Fw (l6 n++Str.ofString "0") none:=by
 have n0:0<=n:=Int.le_trans (d:) h0;have hl:=Znd h0 h1;have nw:=Wb n0 h1;have wo:=Vb n0 (Int.lt_trans h1 (d:));have dg:∀c∈(l6 n).cps.toList,48<=c/\c<=57:=by
  obtain⟨m,rfl⟩:=Int.eq_ofNat_of_zero_le n0
  exact U4 m
 generalize l6 n=F at *;have e0:F++Str.ofString ""=F:=Zcu (by rw[Zq];exact append_nil _);have dz:∀c∈(F++Str.ofString "0").cps.toList,48<=c/\c<=57:=λc hc=>by
  rw[Zq]at hc
  rcases mem_append.mp hc with h|h
  ·exact dg c h
  ·rw[show c=48 from Af h];decide
 have lz:(F++Str.ofString "0").length=62:=by rw[Y0,hl];rfl
 rw[e0];exact⟨⟨wo,by lia,by lia,dg,nw⟩,⟨λc hc=>by have:=dz c hc;lia,by lia,λhc=>by have:=dz _ hc;lia,λhc=>by have:=dz _ hc;lia⟩,by lia,by lia,dz,Zo1 (by lia)⟩
def Zd5:Sp:=λvs H Q _=>∃(a:Addr)(C D:List Str),vs=[.ref a]/\H a=some (.lst ((C++D).map V.str))/\(∀c∈C,Txt.startswith c cloS=true)/\(∀d∈D.head?,Txt.startswith d cloS=false)/\Q (.int C.length) H
def Zqa(y:Int)(v:V):valV [((Sum.inl y:Key),v)] (Sum.inl y)=some v:=by
 have:=Jc (ks:=[y]) (g:=λ_=>v) (y:=y);rw[if_pos (mem_singleton.mpr rfl)]at this;exact this
noncomputable def nsX(W:Int):List Int:=[1,W,3]
def Ze9(EN:Addr):Sp:=λvs H _ E=>∃(a:Addr)(W:Int),vs=[.ref a]/\H a=some (.lst ((nsX W).map V.int))/\9999<W/\∀H',Same H H'->E (.ref EN) none H'
def Zd9(C EN:Addr):Sp:=λvs H _ E=>∃(p r dx:Addr)(W:Int),vs=[.ref p,.ref r]/\H p=some (.ins C dx [])/\Yz H r (nsX W)/\9999<W/\∀H',(∀b u,b≠p->H b=some u->H' b=some u)->E (.ref EN) none H'
def O4(CH EN:Addr):Sp:=λvs H _ E=>∃(p r dx:Addr)(W:Int),vs=[.ref p,.ref r]/\H p=some (.ins CH dx [])/\Yz H r (nsX W)/\9999<W/\∀H',OthP p H H'->E (.ref EN) none H'
def Zgm(T:Txt w K mg t):(a:) 1 t.dC t.dE ["names_at"] (Ze9 t.aH):=by
 refine T.ci.F.okL Xy (λvs H Q E h=>?_) (b:)
 ·obtain⟨a,W,rfl,_⟩:=h
  rfl
 ·obtain⟨a,W,rfl,ha,hW,k⟩:=h
  have hu:=Wc hr;refine ⟨_,(λ_ L=>(Z0 (Yp L (Zu (psN 1 Xy.nd Vy)))
   (Z0 (Zcl L rfl (Zi3 rfl T.gc (D:)) (Qu rfl (Yd (pgN 2 Xy.nd) (Yd (pgN 3 Xy.nd) Wk))) (Z0 (Yp L (Yo (PW.pt (Je (Zn J1 (pv 3) Zd (Zm _)) (Wj (Zn J2 (pv 3) (Y7 (v:=.int 9999) rfl T.cx ⟨_,rfl⟩) (Zm _))))) (Zo (Yl T.im FBV rfl T.c9 rfl (bv:))) Ym))
   (Z0 (Yp L (Zu (Xg (Ji (Zgh (pv 1) (pv 3) (Y5 Zb) ⟨rfl,rfl,rfl,rfl⟩) (Z:)))))
   (Xd (Yp L (Yo (Zn J2 (Z3 T.aj (Za (Wl hu (pv 1) (pv 3) (o:)) Zb)) Zd (Zm _)) (Zo (Yl T.im FBV rfl T.c9 rfl (bv:))) Ym))))))
   (Xd (Yp L (Zu (Zl (pv 1)))))))),?_⟩
  intro d hd;have s0:Same H (upd H d (.dK [])):=Same.new hd;have hda:=s0 _ _ ha;have hd0:(upd H d (.dK [])) d=some (.dK []):=Zc;generalize upd H d (.dK [])=H0 at s0 hda hd0⊢;dsimp only[kAsg,Zv];refine Jv (az:) (ah:) (λ_ _ z=>z.elim);refine⟨a,Y,⟨_,SqL.of hda⟩,?_⟩;refine Zm8 (xs:=(nsX W).map V.int) (λi σ H1=>∃(v2 v3:Option V),σ=[oR a,oR d,v2,v3]/\Same H H1/\(i=0/\H1=H0\/i=1)) ⟨none,none,Y,s0,.inl ⟨Y,Y⟩⟩ ?_ ?_ ?_
  ·rintro i σ H1 _ ⟨v2,v3,rfl,sm,_⟩
   exact SqL.of (sm _ _ ha)
  ·rintro i x0 σ H1 q hx hq ⟨v2,v3,rfl,sm,⟨rfl,rfl⟩|rfl⟩
   ·obtain⟨y,hy,rfl⟩:∃y:Int,y=1/\x0=V.int y:=⟨1,rfl,(Ax hx).symm⟩
    refine⟨q,_,Y,SqT.of Zc,Y,_,_,Y,_,_,Y,Y,?_⟩;refine ite2 (λc=>absurd (of_decide_eq_true c) (by lia)) λ_=>?_;refine ite2 (λc=>absurd (of_decide_eq_true c) (by lia)) λ_=>?_;have sq:Same H1 (upd H1 q (.tup [.int 0,.int y])):=Same.new hq;dsimp only;refine Jv (λσ H2=>∃l,σ=[oR a,oR d,oI 0,oI y]/\Same H H2/\H2 d=some (.dK [(Sum.inl y,V.ref l)])/\H2 l=some (.lst [.int 0])) (λnx2 r9=>?_) ?_
    ·refine⟨d,Y,.inl ⟨_,.inl (sq _ _ hd0)⟩,Az _,λl hl=>?_⟩
     have s2:=sq.trans (Same.new (o:=.lst []) hl);have t8:=s2 _ _ hd0;have sv:d≠l:=Zi (sq _ _ hd0) hl;refine⟨[],Sum.inl y,t8,by decide,rfl,λv hv=>(by cases hv),λhv=>?_⟩;have yi:(upd (upd (upd H1 q (.tup [.int 0,.int y])) l (.lst [])) d (.dK [(Sum.inl y,V.ref l)])) l=some (.lst []):=by rw[Ze (Ne.symm sv),Zc]
     exact⟨.inl ⟨Y,_,SqL.of yi⟩,l,_,_,Y,Y,yi,by decide,r9 _ _ ⟨l,Y,Same.add (Same.add (sm.trans s2) hd) (sm.free (sq.free hl)),by rw[Ze sv,Zc];rfl,Zc⟩⟩
    rintro σ H2 ⟨l,rfl,s2,hd4,yi⟩;exact⟨d,_,Y,.inl ⟨_,Sum.inl y,.inl hd4,Y,(Zqa _ _).symm⟩,l,_,Y,.inl (SqL.of yi),iteF ⟨_,_,Y,s2,.inr Y⟩⟩
   ·cases hx
    refine⟨q,_,Y,SqT.of Zc,Y,_,_,Y,_,_,Y,Y,?_⟩;exact iteN (show ¬W<0 by lia) (iteY (show W>9999 from hW) ⟨by decide,k _ (Same.add sm (sm.free hq))⟩)
  ·rintro σ H1 ⟨v2,v3,rfl,sm,⟨e,_⟩|e⟩<;>cases e
def Zen(T:Txt w K mg t):(a:) 2 t.bE t.cB ["self","rows"] (Zd9 t.aa t.aH):=by
 refine T.bg.F.aX Ko (b:)
 ·obtain⟨p,r,dx,W,rfl,hp,⟨ts,ny,hr2,hr3⟩,hW,k⟩:=h
  refine ⟨_,(Zp (Yo (Xi (Vu (pv 1) (λ_=>rfl))) (Zo (Yl T.im FBV Y T.c9 Y (bv:))) Ym)
   (Zp (Zu (Xp (pv 0) (Yt (ts:=["row"]) (fv:=[]) (l:) rfl (Yk (pv 1)) (ar:) (ag:) (ac:) (λ_ _ _ _ _ _=>Yq (Ys (Oa K) (by rfl) T.jp PySem.Pv.boot_tuple (D:)))) rfl))
   (Zp (Zu (Xp (pv 0) (Yt (ts:=["row","name"]) (fv:=[]) (l:) rfl (Yk (Zz (pv 0) rfl)) (ak:) (ag:) (ac:) (λ_ _ _ _ _ _=>Zl9 rfl rfl (Zcm K (pv 0)) (pgN 1 nd2) Yh (pv 1))) rfl))
   (Zp (Ziv (pv 0) (pxT (Zgm T) hr T.ci (Za (Zz (pv 0) rfl) Zb)) rfl)
   (Zo (Zu (Xp (pv 0) (pcT (F2 T) hr T.dG (Za (Zz (pv 0) rfl) (Za (Z3 T.aj (Za (Zz (pv 0) rfl) Zb)) Zb))) rfl))))))),?_⟩;have wj:ts.length=1:=by have:3=3*ts.length:=hr2;lia
  have hrp:r≠p:=λz=>by rw[z,hp]at ny;cases ny
  refine⟨true,.inl ⟨_,SqL.of ny,?_⟩,?_⟩
  ·cases ts with
   |nil=>cases wj
   |cons _ _=>rfl
  refine iteF ?_;refine⟨r,Y,⟨_,SqL.of ny⟩,λD hD=>?_⟩;have hDp:D≠p:=λz=>by rw[z,hp]at hD;cases hD
  refine Z8 (xs:=ts.map V.ref) (λi σ H1=>∃(v:Option V),σ=[v]/\Same H H1/\H1 D=some (.lst ((ts.take i).map V.ref))) (a0:) ?_ ?_ ?_
  ·rintro i σ H1 _ ⟨v,rfl,sm,h1⟩
   exact SqL.of (sm _ _ ny)
  ·rintro i x σ H1 hx ⟨v,rfl,sm,h1⟩
   dsimp only[Zv,tYes];rw[if_pos rfl];obtain⟨tt,ht,rfl⟩:=Yi hx;refine⟨tt,_,Y,.inr ⟨SqT.of (sm _ _ (hr3 i tt ht)),_,h1,(by rw[Ab,Ai];exact Zt (by lia)),_,Y,Same.add sm hD,?_⟩⟩;rw[Zc,Aw,ht,Aj];rfl
  rintro σ H1 ⟨v,rfl,xf,h1⟩;rw[Ab,take_length]at h1;have hp1:=xf _ _ hp;refine⟨p,_,dx,_,Y,hp1,T.ah,T.aI,by decide,?_⟩;have rp:∀b u,b≠p->H b=some u->(bp:) b=some u:=λb u hb e=>by rw[Ze hb];exact xf b u e
  have ph:(bp:) D=some (L:):=by rw[Ze hDp];exact h1
  have p6:(bp:) p=some (.ins t.aa dx (m:)):=Zc
  have xk:∀(k:Nat)(q:Addr),ts[k]?=some q->(bp:) q=some (.tup (row3 (nsX W) k)):=λk q e=>by
   have e1:=hr3 k q e;have:q≠p:=λz=>by rw[z,hp]at e1;cases e1
   exact rp q _ this e1
  generalize upd H1 p (.ins t.aa dx (putF "cloths" (.ref D) []))=H2 at rp ph p6 xk⊢;refine⟨p6,T.ah,T.aI,D,Y,⟨_,SqL.of ph⟩,λN hN=>?_⟩;have hND:N≠D:=λz=>by rw[z,ph]at hN;cases hN
  have hNp:N≠p:=λz=>by rw[z,p6]at hN;cases hN
  refine Z8 (xs:=ts.map V.ref) (λi σ H3=>∃(v v':Option V),σ=[v,v']/\Same H2 H3/\H3 N=some (.lst (((nsX W).take (3*i)).map V.int))) ⟨none,none,Y,Same.new hN,Zc⟩ ?_ ?_ ?_
  ·rintro i σ H3 _ ⟨v,v',rfl,sm,h3⟩
   exact SqL.of (sm _ _ ph)
  ·rintro i x σ H3 hx ⟨v,v',rfl,sm,h3⟩
   dsimp only[Zv,tYes];rw[if_pos rfl];obtain⟨tt,ht,rfl⟩:=Yi hx;have hi:i<1:=by rw[<-wj];exact(Aa ht).1
   refine⟨tt,Y,⟨_,SqT.of (sm _ _ (xk i tt ht))⟩,?_⟩;refine Zah (xs:=row3 (nsX W) i) (λj σ H4=>∃(v':Option V),σ=[oR tt,v']/\Same H2 H4/\H4 N=some (.lst (((nsX W).take (3*i)).map V.int++(row3 (nsX W) i).take j))) ⟨v',Y,sm,by rw[h3,take_zero,append_nil]⟩ ?_ ?_ ?_
   ·rintro j σ H4 _ ⟨v',rfl,sm,h4⟩
    exact SqT.of (sm _ _ (xk i tt ht))
   ·rintro j x σ H4 hx ⟨v',rfl,sm,h4⟩
    dsimp only[Zv,tYes];rw[if_pos rfl];refine⟨_,h4,?_,_,Y,Same.add sm hN,?_⟩
    ·rw[Ae,Ab,Ai,Ai]
     exact Zt (by have:(row3 (nsX W) i).length=3:=rfl;lia)
    ·rw[Zc,Aw,hx,<-append_assoc]
     rfl
   ·rintro σ H4 ⟨v',rfl,sm,h4⟩
    refine⟨_,_,Y,sm,?_⟩;rw[h4,take_length,Ze3 (n:=1) rfl hi]
  rintro σ H3 ⟨v,v',rfl,sm3,h3⟩;rw[show(nsX W).take (3*(ts.map V.ref).length)=nsX W by rw[Ab,wj];rfl]at h3;have hp3:=sm3 _ _ p6;refine⟨p,_,dx,_,rfl,hp3,T.ah,T.aB,(by have h1:=Xe "cloths" (.ref D) [];simp only[length_nil]at h1;lia),?_⟩;have uv:∀b u,b≠p->H2 b=some u->(upd H3 p (.ins t.aa dx (i:))) b=some u:=λb u hb e=>by rw[Ze hb];exact sm3 b u e
  have hN4:(upd H3 p (.ins t.aa dx (i:))) N=some (.lst ((nsX W).map V.int)):=by rw[Ze hNp];exact h3
  have xo:(upd H3 p (.ins t.aa dx (i:))) p=some (.ins t.aa dx (i:)):=Zc;generalize upd H3 p (.ins t.aa dx (putF "names_at" (.ref N) (putF "cloths" (.ref D) [])))=H4 at uv hN4 xo⊢;have zy:(i:).lookup ("names_at":Str)=some (.ref N):=by rw[Z1,if_pos rfl]
  exact⟨xo,T.ah,T.aB,MVal.of zy ⟨N,W,Y,hN4,hW,λH5 sm5=>k H5 λb u hb e=>sm5 _ _ (uv b u hb (rp b u hb e))⟩⟩
def Zep(T:Txt w K mg t):(a:) 5 t.bf t.bI ["self","rows"] (O4 t.af t.aH):=by
 refine T.bK.F.aX Kq (b:)
 ·obtain⟨p,r,dx,W,rfl,hp,ny,hW,k⟩:=h
  refine ⟨_,(Zp (Ziv (pv 0) (Zgf T.jo (Zen T) (ai:) Y T.jk T.bg.b .nil (P:)) Y)
   (Vj Xo)),?_⟩;intro x dt hx ym mw;have s0:Same H (upd (upd H dt (.own x)) x (.ins t.aa dt [])):=Same.add (Same.new ym) hx;exact⟨x,r,dt,W,Y,Zc,ny.same s0,hW,λH1 old=>k H1 λb u _ e=>old b u (Zi e hx) (s0 b u e)⟩
def W7:FnScope ["rows","many"] ["rows"] (Zf Qs):=Am
def Ke(T:Txt w K mg t):(a:) 1 t.bz t.bA ["rows"] Zd5:=by
 refine T.bD.F.aR W7 (b:)
 ·obtain⟨a,C,D,rfl,ha,hC,hD,k⟩:=h
  refine ⟨_,(Zg (psN 1 W7.nd Zd)
   (Zg (Ju PassesOwn.never (PW.pt (Ux (Zn J1 (pv 1) (Z3 T.aj (D:)) (Zm _)) (Vi (Xn (Wa PySem.F.plainAttrs_str PySem.F.slot_str_startswith PySem.F.type_str_startswith Kd (Zr Zs (pv 0) (pv 1) (o:)) (bv:)))))) (Zh (Zly (i:=1) W7.nd rfl (Or.inl rfl) Zd Zg4)))
   (Zh (Zl (pv 1))))),?_⟩;refine Zw λm7 l7=>l7 _ _ ?_
  try dsimp only[Zv]
  refine Z4 (λσ H'=>σ=[oR a,some (.int C.length)]/\H=H') (ah:) ?_
  ·refine⟨λm σ H'=>∃i:Nat,i<=C.length/\m=C.length-i/\σ=[oR a,oI i]/\H=H',⟨C.length,0,Az _,Y,Y,Y⟩,?_⟩
   rintro m σ H1 ⟨i,hi,rfl,rfl,rfl⟩;refine⟨a,_,Y,.inl (SqL.of ha),?_⟩;by_cases mr:i<(C++D).length
   ·have he:=Ac mr
    generalize (C++D)[i]=x at he;refine iteY (by rw[Ab];lia) ⟨SqL.of ha,Xk he,rfl,x,cloS,rfl,rfl,?_⟩;by_cases hc:i<C.length
    ·rw[Av hc]at he
     rw[hC x (Au he)];refine iteT ⟨λσ' H'=>σ'=[some (.ref a),some (.int ((i:Int)+1))]/\H=H',λσ' H' z=>⟨C.length-(i+1),by lia,i+1,hc,Y,by rw[z.1];rfl,z.2⟩,?_⟩;exact⟨_,Y,_,_,Y,Y,Y,Y⟩
    ·have e:i=C.length:=by lia
     subst e;rw[getElem?_append_right (An _),Nat.sub_self,<-head?_eq_getElem?]at he;rw[hD x he];exact iteF (mq _ _ ⟨Y,Y⟩)
   ·have e:i=C.length:=by rw[Ae]at mr;lia
    subst e;exact iteN (by rw[Ab];lia) (iteF (mq _ _ ⟨rfl,rfl⟩))
  rintro σ H1 ⟨rfl,rfl⟩;exact k
def cutA(C D:List Str):cutV ((C++D).map V.str) none (some (C.length:Int))=C.map V.str:=by
 unfold cutV;rw[HT.sIx_nat];show List.take (min C.length _-0) (List.drop 0 _)=_;rw[drop_zero,Ab,Ae,Nat.min_eq_left (by lia),Nat.sub_zero,Aj,<-Ab (f:=V.str),take_left]
def cutB(C D:List Str):cutV ((C++D).map V.str) (some (C.length:Int)) none=D.map V.str:=by
 unfold cutV;rw[HT.sIx_nat];show List.take (((C++D).map V.str).length-min C.length _) (List.drop (min C.length _) _)=_;rw[Ab,Ae,Nat.min_eq_left (by lia),Aj];rw[show List.drop C.length (C.map V.str++D.map V.str)=D.map V.str by rw[<-Ab (f:=V.str) (as:=C),drop_left]];rw[Nat.add_sub_cancel_left,<-Ab (f:=V.str),take_length]
noncomputable def hid(H:Hp)(D:Addr):Hp:=λb=>if b=D then none else H b
def Ztg{H:Hp}{D b:Addr}{u:HO}(h:H b=some u)(n:b≠D):hid H D b=some u:=by unfold hid;rw[if_neg n];exact h
def Zm1{H:Hp}{D:Addr}:Same (hid H D) H:=λb u e=>by
 unfold hid at e;by_cases z:b=D
 ·rw[if_pos z]at e;cases e
 ·rw[if_neg z]at e;exact e
def Zpd{H H':Hp}{D:Addr}{o:HO}(s:Same H H'):Same (hid H D) (hid (upd H' D o) D):=λb u e=>by
 unfold hid at e⊢;by_cases z:b=D
 ·rw[if_pos z]at e;cases e
 ·rw[if_neg z]at e
  rw[if_neg z,Ze z];exact s _ _ e
inductive Dy
 |pour (ks:List Int) (f:Int->Int)
 |weigh (x a b:Int)
def DyR(d:Str):Dy->Prop
 | .pour ks f=>∃r,Ln d (Str.ofString "pour"::Str.ofString "great"::r)/\r≠[]/\r.length<63/\(∀x∈r,Asc x/\x.length<=900)/\Cnts r ks f
 | .weigh x a b=>∃r,Ln d (Str.ofString "weigh"::r)/\(∀x∈r,Asc x/\x.length<=900)/\weiP r=some (x,a,b)
def DyAt(H:Hp)(u:Addr):Dy->Prop
 | .pour ks f=>∃m c,H u=some (.tup [.str (Str.ofString "pour"),.ref m])/\H m=some (.tup [.str (r:),.ref c])/\H c=some (.dK (dI ks f))
 | .weigh x a b=>∃m,H u=some (.tup [.str (Str.ofString "weigh"),.ref m])/\H m=some (.tup [.int x,.int a,.int b])
def DyAt.same{H H':Hp}{u:Addr}{y:Dy}(h:DyAt H u y)(s:Same H H'):DyAt H' u y:=by
 cases y with
 |pour ks f=>
  obtain⟨m,c,h1,h2,h3⟩:=h;exact⟨m,c,s _ _ h1,s _ _ h2,s _ _ h3⟩
 |weigh x a b=>
  obtain⟨m,h1,h2⟩:=h;exact⟨m,s _ _ h1,s _ _ h2⟩
def Zp6{t:Adr}{H:Hp}{Q:VK}{E:XK}{d:Str}{y:Dy}(h:DyR d y)(kQ:∀(u:Addr)H',Same H H'->(∀D o,H D=some o->DyAt (hid H' D) u y)->Q (.ref u) H'):X6 t [.str d] H Q E:=by
 have at':∀{H':Hp}{D b:Addr}{o u:HO},H D=some o->H b=none->H' b=some u->hid H' D b=some u:=λ{H' D b o u}h1 h2 h3=>Ztg h3 (λz=>by rw[z,h1]at h2;cases h2)
 cases y with
 |pour ks f=>
  obtain⟨r,L,r0,rl,ra,cn⟩:=h;refine .inl (.inr ⟨d,_,Y,L.len,L.wd,λc H1 s1 hc h1=>⟨c,_,r,Y,h1,r0,rl,λz hz=>?_,by decide+kernel,.inr ⟨ks,f,cn,λl m H2 s2 hl hm h2 h3=>⟨(szR Y),λu hu=>?_⟩⟩⟩⟩)
  ·rcases Ar hz with rfl|hz
   ·exact⟨by show ∀c∈([103,114,101,97,116]:List Nat),c<128;decide,by decide⟩
   ·exact ra z hz
  ·have s3:=s1.trans (s2.trans (Same.new (o:=.tup [V.str (Str.ofString "pour"),.ref l]) hu))
   refine kQ u _ s3 λD o hD=>⟨l,m,at' hD (s1.free (s2.free hu)) Zc,at' hD (s1.free hl) ?_,at' hD (s1.free hm) ?_⟩
   ·rw[Ze (Zi h2 hu)];exact h2
   ·rw[Ze (Zi h3 hu)];exact h3
 |weigh x a b=>
  obtain⟨r,L,ra,e⟩:=h;refine .inr (.inl ⟨d,r,Y,L.len,L.wd,λc H1 s1 hc h1=>⟨c,r,Y,h1,ra,λn i j e' l H2 s2 hl h2=>⟨(szR Y),λu hu=>?_⟩,λz=>by rw[e]at z;cases z⟩⟩);rw[e]at e';cases e';have s3:=s1.trans (s2.trans (Same.new (o:=.tup [V.str (Str.ofString "weigh"),.ref l]) hu));refine kQ u _ s3 λD o hD=>⟨l,at' hD (s1.free (s2.free hu)) Zc,at' hD (s1.free hl) ?_⟩;rw[Ze (Zi h2 hu)];exact h2
abbrev Hs:=(Int->Nat×Nat)×Option (Int->Int)×List Str
structure Pob(ns ks:List Int)(f:Int->Int):Prop where
 pm:ks.Perm (s:)
 le:∀y∈ks,0<=f y/\f y<100000000000000000000000000000000000000000000000000000000000000
 rim:¬rimN ns f
 odd:¬ ∃k,k<ns.length/3/\odB ns f k=true
 wide:¬ ∃k,k<ns.length/3/\wdB ns f k=true
def DyS(ns:List Int):Dy->Hs->Hs->Prop
 | .pour ks f,a,b=>a.2.1=none/\Pob ns ks f/\ks.Pairwise (·<=·)/\b=(a.1,some f,a.2.2++[Wv (r:) (cntT f ks)])
 | .weigh x i j,a,b=>x∈keys ns ns.length/\Yf ns x≠"rim"/\∃m n:Nat,i=m/\j=n/\1<=m/\1<=n/\(m:Int)<100000000000000000000000000000000000000000000000000000000000000/\(n:Int)<100000000000000000000000000000000000000000000000000000000000000/\(lowN m n).1<=10^60/\(lowN m n).2<=10^60/\b=(putG a.1 x (lowN m n),a.2.1,a.2.2++[weiT x (lowN m n)])
def Zp7{t:Adr}{H H0:Hp}{p st u:Addr}{M:Lq}{ns ks:List Int}{a b:Hs}{y:Dy}{Q:VK}{E:XK}(hz:HZ t H H0 p st M ns ks a.1 a.2.1 a.2.2)(td:TD M ns)(my:ns.length<64)(sw:SwK M ns ks)(hS:a.2.2.length<=800)(hu:DyAt H u y)(hs:DyS ns y a b)(k:∀H' og,Same H0 og->HZ t H' og p st M ns ks b.1 b.2.1 b.2.2->Q .non H'):X5 t [.ref p,.ref u] H Q E:=by
 obtain⟨dx,be,sc,un,mo,te,wo,th,po,c,qs,B⟩:=id hz
 cases y with
 |pour ms f=>
  obtain⟨m,c,h1,h2,h3⟩:=hu;obtain⟨q0,R,so,rfl⟩:=hs;refine⟨p,u,m,dx,be,sc,st,un,_,Y,B.ins,h1,.inr (.inl ⟨Y,_,c,h2,λQ' E' kq ke=>?_⟩)⟩;refine⟨p,c,st,_,H0,M,ns,ks,ms,a.1,a.2.2,a.2.1,f,Y,hz,td,my,hS,⟨by show ∀c∈([103,114,101,97,116]:List Nat),c<128;decide,by decide⟩,by decide+kernel,.inl q0,h3,by have:=R.pm.length_eq;have:=U6 ns ns.length;lia,λy hy=>(R.le y hy).2,λy hy=>(R.le y hy).1,λz=>absurd R.pm z,λ_ z=>absurd z R.rim,λ_ _ z=>absurd z R.odd,λ_ _ _ z=>absurd z R.wide,λ_ _ _ _=>⟨q0,rfl,λout H' og s' pm so' rj=>kq _ _ (k H' og s' ?_)⟩⟩;rw[Ud (.refl _) pm so so'];exact rj
 |weigh x i j=>
  obtain⟨m',h1,h2⟩:=hu;obtain⟨hx,hr,m,n,rfl,rfl,m1,n1,mB,nB,l1,l2,rfl⟩:=hs;exact⟨p,u,m',dx,be,sc,st,un,_,Y,B.ins,h1,.inr (.inr (.inl ⟨Y,x,_,_,h2,λQ' E' kq ke=>⟨p,st,x,_,_,H0,M,ns,ks,a.1,a.2.1,a.2.2,Y,hz,td,my,sw,hS,λz=>absurd hx z,λ_=>⟨hr,m,n,Y,Y,m1,n1,mB,nB,.inr ⟨l1,l2,λH' og s' rj=>kq _ _ (k H' og s' rj)⟩⟩⟩⟩))⟩
structure RdX(x:Str)(C D:List Str)(ns:List Int)(Ds:List Dy):Prop where
 xl:x.length<=1000000
 sp:Txt.split x (bj:)=C++D
 len:C.length+D.length<=500
 c0:C≠[]
 hC:∀c∈C,Txt.startswith c cloS=true/\Asc c/\c.length<=900
 hD:∀d∈D.head?,Txt.startswith d cloS=false
 dl:D.length=Ds.length
 rd:∀(i:Nat)d y,D[i]?=some d->Ds[i]?=some y->DyR d y
 n1:ns.length=3*C.length
def Zqq(t:Adr):Sp:=λvs H Q E=>∃(x:Str)(C D:List Str)(ns:List Int)(Ds:List Dy),vs=[.str x]/\RdX x C D ns Ds/\
 (∀(k:Nat)c,C[k]?=some c->(cloP c=none/\∀H',Same H H'->E (.ref t.ag) none H')\/cloP c=some (ns.getD (3*k) 0,ns.getD (3*k+1) 0,ns.getD (3*k+2) 0))/\
 ((∀ c∈C,cloP c≠none)->(∃ W,ns=nsX W/\9999 < W/\∀ H',Same H H'->E (.ref t.aH) none H') \/
  ∃(M:Lq)(F:Nat->Hs),TD M ns/\ns.length<64/\(∀i,(F i).2.2.length<=800)/\F 0=(λ_=>(1,1),none,[])/\(∀i y,Ds[i]?=some y->DyS ns y (F i) (F (i+1)))/\
   ∀(p st:Addr)(H0 H':Hp)(ks:List Int),Same H H0->SwK M ns ks->HZ t H' H0 p st M ns ks (F Ds.length).1 (F Ds.length).2.1 (F Ds.length).2.2->Q (.ref p) H')
def Zeq(T:Txt w K mg t):(a:) 5 t.bf t.bI ["self","rows"] (λvs H Q E=>Ki t.aa t.ai t.af vs H Q E\/O4 t.af t.aH vs H Q E):=(K9 T).or (Zep T)
def Qc:FnScope ["text","rows","many","cloths","deeds","hall","deed"] ["text"] (Zf Zlr):=Am
def Zi4(T:Txt w K mg t):(a:) 11 t.kU t.kW ["text"] (Zqq t):=by
 refine T.kc.F.okLA Qc (λvs H Q E h=>?_) (b:)
 ·obtain⟨x,C,D,ns,Ds,rfl,_⟩:=h
  rfl
 ·obtain⟨x,C,D,ns,Ds,rfl,⟨we,o5,l9,hC0,hC,hD,hDl,hDs,hn1⟩,kC,kG⟩:=h
  refine ⟨_,(λ_ L=>(Z0 (Yp L.l (Zu (psN 1 Qc.nd (bo:))))
   (Z0 (Yp L.l (Zu (psN 2 Qc.nd (pcT (Ke T) hr T.bD (P:)))))
   (Z0 (Yp L.l (Z2 (pxT (Yx T) hr T.am (Za (Y3 J2 (pv 2) Zd (Zm _)) Zb))))
   (Z0 (Vv (ts:=["row"]) (fv:=[]) (i:=3) L (l:) rfl Qc.nd rfl rfl (by rfl) (Yk (Wx Jd (pv 1) Jw (W6 (pv 2)))) (ar:) (ag:) (ac:) (λ_ _ _ _ _ _=>Oo (On (Zia T) (ai:) rfl T.cp.g T.cp.F.kp T.cp.b .nil (D:))))
   (Z0 (Vv (ts:=["row"]) (fv:=[]) (i:=4) L (l:) rfl Qc.nd rfl rfl (by rfl) (Yk (Wx Jd (pv 1) (W6 (pv 2)) Jw)) (ar:) (ag:) (ac:) (λ_ _ _ _ _ _=>Oo (On (Zbq T) (ai:) rfl T.bx.g T.bx.F.kp T.bx.b .nil (D:))))
   (Z0 (Zon (i:=5) L Qc.nd rfl (Or.inl rfl) (Jn L (Zgf T.kH (Zeq T) (ai:) rfl T.kB T.bK.b .nil (Za (pv 3) Zb))))
   (Z0 (Zcl L.l rfl (Yk (pv 4)) (pgN 6 Qc.nd) (Xd (Yp L.l (Z2 (pxT (Zbp T) hr T.aO (Za (pv 5) (Za (pv 6) Zb)))))))
   (Xd (Yp L.l (Zu (Zl (pv 5))))))))))))),?_⟩;refine⟨Y,x,Str.ofString "\n",rfl,rfl,rfl,by rw[sizeLine_eq];lia,λl hl=>?_⟩;rw[o5];have s1:Same H (upd H l (.lst ((C++D).map V.str))):=Same.new hl;have h1:(upd H l (.lst ((C++D).map V.str))) l=some (.lst ((C++D).map V.str)):=Zc;generalize upd H l (.lst ((C++D).map V.str))=H1 at s1 h1⊢;refine⟨l,C,D,Y,h1,λc hc=>(hC c hc).1,hD,_,Y,λ_=>?_,λe=>?_⟩
  rotate_left
  ·have:=length_pos_iff.mpr hC0
   exact absurd (of_decide_eq_false e) (by lia)
  refine⟨_,Y,l,_,Y,SqL.of h1,λc1 hc1=>?_⟩;rw[cutA];have s2:Same H1 (upd H1 c1 (.lst (C.map V.str))):=Same.new hc1;have h2:(upd H1 c1 (.lst (C.map V.str))) c1=some (.lst (C.map V.str)):=Zc;generalize upd H1 c1 (.lst (C.map V.str))=H2 at s2 h2⊢;have ql:=s1.trans s2;refine⟨c1,rfl,⟨_,SqL.of h2⟩,λD1 wu=>Z8 (xs:=C.map V.str) (λi σ H6=>∃(v:Option V)(us:List Addr),σ=[v]/\Same H2 H6/\H6 D1=some (.lst (us.map V.ref))/\us.length=i/\(∀c∈C.take i,cloP c≠none)/\∀(k:Nat)u,us[k]?=some u->u≠D1/\H6 u=some (.tup (row3 ns k))) ⟨none,[],rfl,Same.new wu,Zc,rfl,(λc hc=>by cases hc),λk u e=>by simp at e⟩ ?_ ?_ ?_⟩
  ·rintro i σ H6 _ ⟨v,us,rfl,s6,_⟩
   exact SqL.of (s6 _ _ h2)
  ·rintro i q σ H6 hq ⟨v,us,rfl,s6,h6,hul,hg,ea⟩
   obtain⟨c,hc,rfl⟩:=Yi hq;have qu:=(Aa hc).1;obtain⟨_,pa,pl⟩:=hC c (Au hc);dsimp only[Zv,tYes];rw[if_pos rfl];refine⟨c,Y,pa,pl,λi1 i2 i3 e m H7 s7 hm h7=>?_,λe H7 s7=>?_⟩
   ·have hmD:m≠D1:=λz=>by rw[z,h6]at hm;cases hm
    refine⟨_,s7 _ _ h6,by rw[Ab];exact Zt (by lia),_,us++[m],Y,Same.add (s6.trans s7) wu,by rw[Zc,Aj];rfl,by rw[Ae,hul];rfl,λy hy=>?_,λk u ek'=>?_⟩
    ·rw[Aw,hc]at hy
     rcases mem_append.mp hy with z|z
     ·exact hg y z
     ·rw[show y=c by simpa using z,e];exact λz=>nomatch z
    by_cases ck:k<us.length
    ·rw[Av ck]at ek'
     obtain⟨z1,z2⟩:=ea k u ek';exact⟨z1,by rw[Ze z1];exact s7 _ _ z2⟩
    ·have ek:k=us.length:=by
      have:=(Aa ek').1;rw[Ae,At]at this;lia
     subst ek;rw[getElem?_append_right (An _),Nat.sub_self]at ek';cases ek';refine⟨hmD,?_⟩;rw[Ze hmD,h7,hul]
     rcases kC i c hc with ⟨z,_⟩|z
     ·rw[z]at e;cases e
     ·rw[z]at e;cases e;rfl
   ·rcases kC i c hc with ⟨_,k⟩|z
    ·exact k _ (ql.trans (s6.trans s7))
    ·rw[z]at e;cases e
  rintro σ H6 ⟨v,us,rfl,s6,h6,hul,hg,ea⟩;rw[Ab]at hul;rw[Ab,take_length]at hg;have h16:=s6 _ _ (s2 _ _ h1);have ud:=ql.trans s6;refine⟨_,Y,l,_,Y,SqL.of h16,λc2 wq=>?_⟩;rw[cutB];have s7:Same H6 (upd H6 c2 (.lst (D.map V.str))):=Same.new wq;have h7:(upd H6 c2 (.lst (D.map V.str))) c2=some (.lst (D.map V.str)):=Zc;generalize upd H6 c2 (.lst (D.map V.str))=H7 at s7 h7⊢;refine⟨c2,Y,⟨_,SqL.of h7⟩,λD2 ph=>Z8 (xs:=D.map V.str) (λi σ H8=>∃(v:Option V)(vs:List Addr),σ=[v]/\Same H7 H8/\H8 D2=some (.lst (vs.map V.ref))/\vs.length=i/\∀(k:Nat)u y,vs[k]?=some u->Ds[k]?=some y->DyAt (hid H8 D2) u y) ⟨none,[],Y,Same.new ph,Zc,Y,λk u y e=>by simp at e⟩ ?_ ?_ ?_⟩
  ·rintro i σ H8 _ ⟨v,vs,rfl,s8,_⟩
   exact SqL.of (s8 _ _ h7)
  ·rintro i q σ H8 hq ⟨v,vs,rfl,s8,h8,xj,eb⟩
   obtain⟨d,hd,rfl⟩:=Yi hq;have qu:i<Ds.length:=by rw[<-hDl];exact(Aa hd).1
   have hy:=Ac qu;generalize Ds[i]=y at hy;dsimp only[Zv,tYes];rw[if_pos rfl];refine Zp6 (hDs i d y hd hy) λm H9 s9 hg=>?_;refine⟨_,s9 _ _ h8,by rw[Ab];exact Zt (by lia),_,vs++[m],Y,Same.add (s8.trans s9) ph,by rw[Zc,Aj];rfl,by rw[Ae,xj];rfl,λk u y' e1 e2=>?_⟩;by_cases ck:k<vs.length
   ·rw[Av ck]at e1
    exact(eb k u y' e1 e2).same (Zpd s9)
   ·have ek:k=vs.length:=by
     have:=(Aa e1).1;rw[Ae,At]at this;lia
    subst ek;rw[getElem?_append_right (An _),Nat.sub_self]at e1;cases e1;rw[xj,hy]at e2;cases e2
    exact(hg D2 _ h8).same λb o e=>by
     unfold hid at e⊢;by_cases z:b=D2
     ·rw[if_pos z]at e;cases e
     ·rw[if_neg z]at e;rw[if_neg z,Ze z];exact e
  rintro σ H8 ⟨v,vs,rfl,s8,h8,xj,eb⟩;rw[Ab,hDl]at xj;replace eb:∀(k:Nat)u y,vs[k]?=some u->Ds[k]?=some y->DyAt H8 u y:=λk u y e1 e2=>(eb k u y e1 e2).same Zm1;have s68:=s7.trans s8;have s08:=ud.trans s68;have ra:Yz H8 D1 ns:=⟨us,s68 _ _ h6,by rw[hn1,hul],λk u hu=>s68 _ _ (ea k u hu).2⟩;clear s7 h7 wq ph s68 h6 h16 ea h2 s2 hc1 wu s6 h1 s1 hl ud ql;intro p dt hp ym mw;have s0:Same H8 (upd (upd H8 dt (.own p)) p (.ins t.af dt [])):=Same.add (Same.new ym) hp
  rcases kG hg with ⟨W,rfl,hW,kE⟩|⟨M,F,td,wn,hF,hF0,ou,kQ⟩
  ·exact .inr ⟨p,D1,dt,W,Y,Zc,ra.same s0,hW,λH9 old=>kE H9 (s08.trans λb u e=>old b u (Zi e hp) (s0 b u e))⟩
  refine .inl ⟨p,D1,dt,M,ns,Y,Zc,ra.same s0,td,wn,λH9 old pi=>⟨Y,?_⟩⟩;obtain⟨be,sc,st,un,mo,th,po,wo,ks,pi,w5,_,_⟩:=pi
  have nst8:H8 st=none:=by
   cases e:H8 st with
   |none=>rfl
   |some u=>
    rw[s0 _ _ e]at w5;cases w5
  obtain⟨sL,hz⟩:=pi.hl td (H1:=H8) (λb u hb e=>old b u hb (s0 b u e)) hp nst8;have sw:=pi.sw;generalize R2 H9 p st=H0 at sL hz;have eb0:∀(k:Nat)u y,vs[k]?=some u->Ds[k]?=some y->DyAt H0 u y:=λk u y e1 e2=>(eb k u y e1 e2).same sL;have h80:=sL _ _ h8;have low:∀{HX HY a b S},HZ t HX HY p st M ns ks a b S->Same HY HX:=λ{HX HY a b S}h=>by
   obtain⟨_,_,_,_,_,_,_,_,_,_,_,B⟩:=h
   exact B.low
  clear s0 ra old pi hp ym mw eb;refine⟨D2,Y,⟨_,SqL.of (low hz _ _ h80)⟩,(Zm6 (xs:=vs.map V.ref) (λi σ HX=>∃(v:Option V)(og:Hp),σ=[oS x,oR l,some (.int C.length),oR D1,oR D2,oR p,v]/\Same H0 og/\HZ t HX og p st M ns ks (F i).1 (F i).2.1 (F i).2.2) ⟨none,H0,Y,Same.refl _,by rw[hF0];exact hz⟩ ?_ ?_ ?_)⟩
  ·rintro i σ HX _ ⟨v,og,rfl,sX,xz⟩
   exact SqL.of (low xz _ _ (sX _ _ h80))
  ·rintro i q σ HX hq ⟨v,og,rfl,sX,xz⟩
   obtain⟨u,hu,rfl⟩:=Yi hq;have qu:i<Ds.length:=by rw[<-xj];exact(Aa hu).1
   have hy:=Ac qu;generalize Ds[i]=y at hy;dsimp only[Zv];exact Zp7 xz td wn sw (hF i) ((eb0 i u y hu hy).same (sX.trans (low xz))) (ou i y hy) λH' H0'' s' rj=>⟨_,H0'',Y,sX.trans s',rj⟩
  ·rintro σ HX ⟨v,og,rfl,sX,xz⟩
   rw[Ab,xj]at xz;exact kQ p st og HX ks (s08.trans (sL.trans sX)) sw xz
def Ztq{M:Lq}(inv:InvM M){ws:List Nat}(hP:Pl M ws):PC M (crP M ws):=by
 rw[show crP M ws=λp=>((oz M ws p:Nat):Int)from funext λp=>?_]
 ·exact hP.pc inv
 unfold crP oz;congr 1;refine countP_congr λq hq=>?_;obtain⟨m,e⟩:=hP.has q hq;rw[decide_eq_true_eq,decide_eq_true_eq,V5 e,e];constructor
 ·rintro(z|z)
  ·exact .inl z
  ·cases z;exact .inr Y
 ·rintro(z|z)
  ·exact .inl z
  ·rw[z];exact .inr Y
def Znn(M:Lq)(ws:List Nat)(p:Nat):crP M ws p<=ws.length:=Int.ofNat_le.mpr countP_le_length
def Zjs:Sp:=λvs H Q _=>∃(m a:Addr)(M:Lq)(ws:List Nat),vs=[.ref m,.ref a]/\H m=some (bx:)/\M.length<=1000/\InvM M/\H a=some (.lst (ws.map nV))/\Pl M ws/\
 ∀(l:Addr)(H':Hp),Same H H'->H l=none->H' l=some (.lst (rowI M.length (crP M ws)))->Q (.ref l) H'
def Zqr:Sp:=λvs H Q _=>∃(p q:Addr)(v:Nat×Nat),vs=[.ref p,.ref q]/\H p=some (tp v)/\H q=some (tp v)/\Q (.bl true) H
def Zsm:Sp:=λvs H Q _=>∃m n:Nat,vs=[.int m,.int n]/\1<=m/\okD m n/\∀p,H p=none->Q (.ref p) (upd H p (tp (lowN m n)))
inductive Tg|bo|th|se|co|gr
noncomputable def Tg.cls(t:Adr):Tg->Addr
 | .bo=>t.ag| .th=>t.ay| .se=>t.ax| .co=>t.ao| .gr=>t.az
noncomputable def Tg.txt:Tg->Str
 | .bo=>Str.ofString "bad order"| .th=>Str.ofString "no thread"| .se=>Str.ofString "no seam"| .co=>Str.ofString "no counts"| .gr=>Str.ofString "too great"
def Ztx(t:Adr)(Q:VK):XK:=λc o H=>∃g:Tg,c=.ref (g.cls t)/\o=none/\Q (.str g.txt) H
def Zc2(t:Adr):Sp:=λvs H Q _=>Fb t vs H (λv H'=>v=.str (Str.ofString "done")/\Q v H') (Ztx t Q)
noncomputable def cloX(W:Str):Str:=Str.empty++Str.ofString "cloth 1 "++W++Str.ofString " 3"
def Zjt(t:Adr):Sp:=λvs H Q _=>∃(W:Str)(v:Option Int),vs=[.str W]/\Fw W v/\(v=none/\(∀H',Same H H'->Q (.str (Str.ofString "bad order")) H')\/∃i,v=some i/\9999<i/\∀H',Same H H'->Q (.str (Str.ofString "no tent")) H')
def Zts{W:Str}{v:Option Int}(h:Fw W v):RdX (cloX W) [cloX W] [] (nsX (v.getD 0)) []/\cloP (cloX W)=v.map λi=>(1,i,3):=by
 have e:(cloX W).cps.toList=oh 32 ([Str.ofString "cloth",Str.ofString "1",W,Str.ofString "3"].map λx=>x.cps.toList):=by
  unfold cloX;rw[Zq,Zq,Zq];show([]:List Nat)++[99,108,111,116,104,32,49,32]++W.cps.toList++[32,51]=[99,108,111,116,104]++32::([49]++32::(W.cps.toList++32::[51]));simp
 have hW:∀y∈[Str.ofString "cloth",Str.ofString "1",W,Str.ofString "3"],Wo y/\y.length<=62:=λy hy=>by
  rcases Ar hy with rfl|hy
  ·exact⟨wo_b (n:),by decide⟩
  ·rcases Ar hy with rfl|hy
   ·exact⟨wo_b (n:),by decide⟩
   ·rcases Ar hy with rfl|hy
    ·exact⟨h.wo,h.le⟩
    ·rw[Af hy];exact⟨wo_b (n:),by decide⟩
 have L:=Gu (B:=62) e (cons_ne_nil _ _) (λy hy=>(hW y hy).2) (by show 63*4<=5000;decide) λy hy=>(hW y hy).1;have l0:(cloX W).length<=80:=by
  unfold cloX
  rw[Y0,Y0,Y0]
  have:=h.le
  show 0+8+W.length+2<=80
  lia
 have asc:Asc (cloX W):=λc hc=>by
  rw[e]at hc
  rcases Zcr hc with rfl|⟨a,ha,z⟩
  ·decide
  ·obtain⟨x,hx,rfl⟩:=mem_map.mp ha
   exact(hW x hx).1.asc c z
 refine⟨⟨by lia,?_,by show 1+0<=500;decide,cons_ne_nil _ _,λc hc=>?_,λd hd=>(nomatch hd),rfl,λi d y hd _=>(nomatch hd),rfl⟩,?_⟩
 ·exact Oe (c:=10) (cons_ne_nil _ _) (λp hp=>by rw[Af hp];exact L.nl) Y
 ·rw[Af hc]
  exact⟨Zlc e,asc,by lia⟩
 ·unfold cloP
  rw[L.wd];have n1:numP (Str.ofString "1")=some 1:=Wb (n:=1) (d:) (d:);have n3:numP (Str.ofString "3")=some 3:=Wb (n:=3) (d:) (d:);simp only[n1,n3,h.num];cases v<;>rfl
def Og:FnScope ["_law_mates","_law_word","_law_counts","_law_p"] ["_law_mates","_law_word"] (Zf Zdd):=Am
def Zke(T:Txt w K mg t):(a:) 1 t.iH t.iX ["_law_mates","_law_word"] Zjs:=by
 refine T.i9.F.aR Og (b:)
 ·obtain⟨m,a,M,ws,rfl,hm,hl,inv,ha,hP,k⟩:=h
  refine ⟨_,(Zg (psN 2 Og.nd (Zj Zgl (Y5 (Za Zd Zb)) (Z3 T.aj (D:))))
   (Zg (W9 PassesOwn.never rfl (Yk (pv 1)) (pgN 3 Og.nd) (Zg (Ziz (pv 2) (pv 3) Zg6 Zd Zg4 Qb)
   (Zh (Ziz (pv 2) (Zr Zs (pv 0) (pv 3) (o:)) Zg6 Zd Zg4 Qb))))
   (Zh (Zl (pv 2))))),?_⟩;refine Zw λm7 l7=>?_;refine⟨(szR Y),λz hz=>?_⟩;have sz:Same H (upd H z (.lst [.int 0])):=Same.new hz;refine⟨m,_,Y,.inl (SqL.of (sz _ _ hm)),z,_,_,Y,Y,Zc,by lia,by rw[Ab];lia,?_,λc hc=>?_⟩
  ·show 1*_<=_
   rw[Ab,Int.toNat_natCast,Nat.one_mul];exact Za0 (by lia)
  have e0:(List.replicate ((((M.map mV).length:Nat):Int)).toNat [V.int 0]).flatten=rowI M.length (crP M (ws.take 0)):=by
   unfold rowI;show _=List.map (λ_=>V.int 0) (List.range M.length);rw[Ab,Int.toNat_natCast,flatten_replicate_singleton,map_const',length_range]
  rw[e0];have s1:=sz.trans (Same.new (o:=.lst (rowI M.length (crP M (ws.take 0)))) hc);have hc0:=sz.free hc;have h1:(upd (upd H z (.lst [.int 0])) c (.lst (rowI M.length (crP M (ws.take 0))))) c=some (.lst (rowI M.length (crP M (ws.take 0)))):=Zc;generalize upd (upd H z (.lst [.int 0])) c (.lst (rowI M.length (crP M (ws.take 0))))=H1 at s1 h1⊢;refine l7 [oR m,oR a,oR c,none] _ ?_;refine Z4 (λσ H'=>∃v,σ=[oR m,oR a,oR c,v]/\Same H H'/\H' c=some (.lst (rowI M.length (crP M ws)))) (ah:) ?_
  ·refine⟨a,Y,⟨_,SqL.of (s1 _ _ ha)⟩,?_⟩
   refine Zak (xs:=ws.map nV) (λi σ H2=>∃v,σ=[oR m,oR a,oR c,v]/\Same H H2/\H2 c=some (.lst (rowI M.length (crP M (ws.take i))))) ⟨_,Y,s1,h1⟩ ?_ ?_ ?_
   ·rintro i σ H2 _ ⟨v,rfl,s2,h2⟩
    exact SqL.of (s2 _ _ ha)
   ·rintro i x σ H2 hx ⟨v,rfl,s2,h2⟩
    obtain⟨q,hq,rfl⟩:=Yi hx;obtain⟨mt,hmt⟩:=hP.has q (Au hq);obtain⟨hmb,mw⟩:=inv q mt hmt;have hqM:q<M.length:=(Aa hmt).1;have htM:mt<M.length:=(Aa hmb).1;dsimp only[Zv];refine Zw λm7 l7=>⟨c,_,q,_,Y,Y,SqL.of h2,Vh hqM,_,_,Y,Y,c,_,_,q,Y,Y,h2,(by rw[Xz];exact Vl hqM),l7 [oR m,oR a,oR c,oI q] _ ?_⟩;rw[Zgc];have s3:=Same.add (o:=.lst (av:)) s2 hc0;have h3:(upd H2 c (.lst (av:))) c=some (.lst (av:)):=Zc;generalize upd H2 c (.lst (rowI M.length λp=>if p=q then crP M (ws.take i) q+1 else crP M (ws.take i) p))=H3 at s3 h3⊢;refine⟨SqL.of (s3 _ _ hm),Xk hmt,c,_,mt,_,Y,Y,SqL.of h3,Vh htM,_,_,Y,Y,c,_,_,mt,Y,Y,h3,(by rw[Xz];exact Vl htM),?_⟩;refine⟨_,Y,Same.add s3 hc0,?_⟩;rw[Zc,Zgc];congr 2;refine Zj7 λp=>?_;rw[Zpp hq hmt mw p,if_neg (Ne.symm mw)]
   ·rintro σ H2 ⟨v,rfl,s2,h2⟩
    rw[Ab,take_length]at h2;exact mq _ _ ⟨v,Y,s2,h2⟩
  ·rintro σ H2 ⟨v,rfl,s2,h2⟩
   exact k c H2 s2 hc0 h2
def Zlo:FnScope ["_law_found","_law_due"] ["_law_found","_law_due"] (Zf Zf5):=Am
def Zmk(T:Txt w K mg t):(a:) 2 t.jD t.jT ["_law_found","_law_due"] Zqr:=by
 refine T.j8.F.aR Zlo (b:)
 ·obtain⟨p,q,v,rfl,hp,hq,k⟩:=h
  refine ⟨_,(Zg (Z9 (PW.pt (Je (Xi (Xn (Ye Jm (by rfl) T.ba PyProof.Rows.boot_isinstance (Za (pv 0) (Za (U1 (v:=.ty "tuple") (by rfl) T.jp PySem.Pv.boot_tuple rfl) Zb))))) (Wj (Zn Jo (Z3 T.aj (D:)) Zd (Zm _))))) (Zh (Zl Wh)) Zy)
   (Zh (Zl (Vz (pcT (Va T) hr T.b6 (Za (Zr Xf (pv 0) Zd (o:)) Zb)) (Vz (pcT (Va T) hr T.b6 (Za (Zr Xf (pv 0) Zd (o:)) Zb)) (Vx (Y3 (Zs6 hr.units) (pv 0) (pv 1) (Zm _)))))))),?_⟩;refine⟨_,"tuple",_,true,rfl,TyOf.tup hp,Ou,p,_,rfl,.inr (SqT.of hp),rfl,iteF ?_⟩;refine⟨SqT.of hp,Y,(v.1:Int),Y,_,Y,?_⟩;refine⟨SqT.of hp,Y,(v.2:Int),Y,_,Y,?_⟩;refine⟨p,q,[(v.1:Int),v.2],[(v.1:Int),v.2],Y,Y,SqT.of hp,SqT.of hq,?_⟩;rw[decide_eq_true rfl];exact k
def Qd:FnScope ["_law_top","_law_bottom","_law_one","_law_other","_law_rest"] ["_law_top","_law_bottom"] (Zf Zip):=Am
def Zoz(T:Txt w K mg t):(a:) 1 t.kr t.kA ["_law_top","_law_bottom"] Zsm:=by
 refine T.kF.F.aR Qd (b:)
 ·obtain⟨m,n,rfl,m1,hok,k⟩:=h
  obtain ⟨g1,g2⟩:=Zi5 m1 hok;refine ⟨_,(Zg (psN 2 Qd.nd (pv 0))
   (Zg (psN 3 Qd.nd (pv 1))
   (Zg (Ju PassesOwn.never (Zn J2 (pv 3) Zd (Zm _)) (Zg (psN 4 Qd.nd (Zj Z5 (pv 2) (pv 3)))
   (Zg (psN 2 Qd.nd (pv 3))
   (Zh (psN 3 Qd.nd (pv 4))))))
   (Zh (Zl (Jj (Za (Zj Op (pv 0) (pv 2)) (Za (Zj Op (pv 1) (pv 2)) Zb)))))))),?_⟩
  refine Zw λm7 l7=>l7 [oI m,oI n,oI m,none,none] _ ?_;refine Zw λm7 l7=>l7 [oI m,oI n,oI m,oI n,none] _ ?_;refine⟨λc σ H1=>∃(a' b':Nat)(v:Option V),b'=c/\H1=H/\σ=[oI m,oI n,oI a',oI b',v]/\Nat.gcd a' b'=Nat.gcd m n,⟨n,m,n,none,Y,Y,Y,Y⟩,?_⟩;rintro c σ H1 ⟨a',b',v,rfl,rfl,rfl,e⟩;refine ite2 (λz=>?_) (λz=>?_)
  ·have z:0<b':=by have:=of_decide_eq_true z;lia
   refine⟨_,λσ' H' h=>h,?_⟩;refine⟨(by show(0:Int)<b';lia),?_⟩;refine⟨a'%b',mod_lt _ z,b',a'%b',some (.int ((a':Int)%(b':Int))),Y,Y,?_,?_⟩
   ·rw[Int.natCast_emod];rfl
   ·rw[<-e,gcd_comm a' b',gcd_rec b' a',gcd_comm]
  ·have z:b'=0:=by have z':¬(0:Int)<b':=(by simpa using z);lia
   subst z;rw[gcd_zero_right]at e;subst e;exact⟨g1,g2,(szR Y),λp hp=>k p hp⟩
def Wp:FnScope ["_law_hall","_law_order","_law_told_here"] ["_law_hall","_law_order"] (Zf Zf0):=Am
def Uk(T:Txt w K mg t):(a:) 12 t.jE t.jU ["_law_hall","_law_order"] (Zc2 t):=by
 refine T.cK.F.aR Wp (b:)
 ·obtain⟨p,x,rfl,hz,hd,k⟩:=h
  refine ⟨_,(Zg (psN 2 Wp.nd Zk)
   (Zg (Zix (Zo (Qf (i:=2) Wp.nd rfl (Or.inl rfl) (pxT (Zib T) hr T.cm (Za (pv 0) (P:))))) (Qj rfl T.cM (λ_=>(Zh (psN 2 Wp.nd Zk))) (Qj rfl T.gd (λ_=>(Zh (psN 2 Wp.nd Zk))) (Qj rfl T.jb (λ_=>(Zh (psN 2 Wp.nd Zk))) (Qj rfl T.bP (λ_=>(Zh (psN 2 Wp.nd Zk))) (Qj rfl T.gf (λ_=>(Zh (psN 2 Wp.nd Zk))) Zm0))))))
   (Zh (Zl (pv 2))))),?_⟩;refine Zw λm7 l7=>l7 [oR p,oS x,oS (Str.ofString "")] _ ?_;refine Zw λm7 l7=>?_;refine⟨p,x,Y,hz,hd,λH1 s1 Q' E' kq ke=>k H1 s1 Q' E' (λr H' hh=>kq r H' ?_) λc H' hh=>ke c H' ?_⟩
  ·exact l7 [oR p,oS x,oS (Str.ofString "done")] _ hh.2
  ·obtain⟨g,rfl,_,q⟩:=hh
   have q:=l7 [oR p,oS x,oS g.txt] H' q
   cases g with
   |bo=>exact⟨_,T.bn,iteT q⟩
   |th=>exact⟨_,T.cQ,iteF ⟨_,T.cN,iteT q⟩⟩
   |se=>exact⟨_,T.dL,iteF ⟨_,T.dM,iteF ⟨_,T.eZ,iteT q⟩⟩⟩
   |co=>exact⟨_,T.cR,iteF ⟨_,T.cS,iteF ⟨_,T.dO,iteF ⟨_,T.cO,iteT q⟩⟩⟩⟩
   |gr=>exact⟨_,T.cT,iteF ⟨_,T.cU,iteF ⟨_,T.dP,iteF ⟨_,T.cV,iteF ⟨_,T.cP,iteT q⟩⟩⟩⟩⟩
def Q6:FnScope ["_law_word","_law_told_here"] ["_law_word"] (Zf Zdf):=Am
def Zkg(T:Txt w K mg t):(a:) 12 t.iJ t.iZ ["_law_word"] (Zjt t):=by
 refine T.ja.F.aR Q6 (b:)
 ·obtain⟨W,v,rfl,hW,h⟩:=h
  obtain ⟨R,e⟩:=Zts hW;refine ⟨_,(Zg (psN 1 Q6.nd Zk)
   (Zg (Zix (Zo (Z2 (pxT (Zi4 T) hr T.kc (Za (X0 (Yv (J0 (pv 0) (Yv W3)))) Zb)))) (Qj rfl T.cM (λ_=>(Zh (psN 1 Q6.nd Zk))) (Qj rfl T.c9 (λ_=>(Zh (psN 1 Q6.nd Zk))) Zm0)))
   (Zh (Zl (pv 1))))),?_⟩
  refine Zw λm7 l7=>l7 [oS W,oS (Str.ofString "")] _ ?_;refine Zw λm7 l7=>?_;have hl:=hW.le;have le:(Str.ofString "cloth 1 ").length=8:=by decide
  have le2:(Str.ofString " 3").length=2:=by decide
  have l0:Str.empty.length=0:=rfl;refine⟨lnN (by rw[Y0];lia),W,rfl,lnN (by lia),lnN (by rw[Y0,Y0];lia),lnN (by rw[Y0,Y0,Y0];lia),lnN (by rw[Y0,Y0,Y0];lia),?_⟩;refine⟨cloX W,_,[],_,[],Y,R,λk c hc=>?_,λhg=>?_⟩
  ·obtain rfl:k=0:=by have:=(Aa hc).1;exact lt_one_iff.mp this
   cases hc;rw[e]
   rcases h with ⟨rfl,q⟩|⟨i,rfl,_,q⟩
   ·exact .inl ⟨Y,λH' s'=>⟨_,T.bn,iteT (l7 [oS W,oS (Str.ofString "bad order")] H' (q H' s'))⟩⟩
   ·exact .inr Y
  ·rcases h with ⟨rfl,q⟩|⟨i,rfl,hi,q⟩
   ·exact absurd e (hg _ mem_cons_self)
   ·exact .inl ⟨i,Y,hi,λH' s'=>⟨_,T.dQ,iteF ⟨_,T.e7,iteT (l7 [oS W,oS (Str.ofString "no tent")] H' (q H' s'))⟩⟩⟩
def Zrg{M:Lq}{ns:List Int}(td:TD M ns){a:Int}:¬ [a].Perm (s:):=λpm=>by
 obtain⟨n,n1,_,hn⟩:=td.n;have hl:=td.len;have at':∀i,i<3->ns[i]?=some a:=λi hi=>by
  have e:=Ac (show i<ns.length by lia)
  have:=pm.mem_iff.mpr (Yu.mpr ⟨i,by lia,e⟩)
  rw[e,Af this]
 rcases td.eqv 0 1 a (at' 0 (d:)) (at' 1 (d:))with z|z
 ·cases z
 ·rcases td.eqv 0 2 a (at' 0 (d:)) (at' 2 (d:))with y|y
  ·cases y
  ·rw[z]at y;cases y
abbrev OkE(t:Adr)(H:Hp)(E:XK)(g:Tg):Prop:=∀H',Same H H'->E (.ref (g.cls t)) none H'
section
variable{t:Adr}{H H0:Hp}{p st:Addr}{M:Lq}{ns ks:List Int}{g:Int->Nat×Nat}{q:Option (Int->Int)}{S:List Str}{Q:VK}{E:XK}{x W y:Str}{v:Option Int}
def HZ.ins(hz:HZ t H H0 p st M ns ks g q S):∃dx be sc un mo te wo th po c,H p=some (.ins t.af dx (Xh be sc st un))/\H0 sc=some (.ins t.ai mo (X7 (.ref te) (.ref th) (.ref po) (.ref wo)))/\Z7 t.aa H0 te M ns/\Same H0 H/\(c:Addr)=c:=by
 obtain⟨dx,be,sc,un,mo,te,wo,th,po,c,qs,B⟩:=hz;exact⟨dx,be,sc,un,mo,te,wo,th,po,c,B.ins,B.scn,B.ten,B.low,Y⟩
def wZ:Wd (Str.ofString "z"):=⟨by show ∀c∈([122]:List Nat),c<128;decide,by decide⟩
def Zmu(hz:HZ t H H0 p st M ns ks g q S)(td:TD M ns)(L:Ln x [Str.ofString "lay",Str.ofString "z",W])(hW:Wo W)(my:M.length<=63)(k0:numP W=none->OkE t H E .bo)(k1:∀n,numP W=some n->(M.length:Int)<=n/\OkE t H E .th):X6 t [.str x] H (λu H'=>X5 t [.ref p,u] H' Q E) E:=by
 refine .inl (.inl ⟨x,_,Y,L.len,L.wd,λc H1 s1 hc h1=>⟨c,_,Y,h1,by show 2<=900;decide,λz hz=>?_,λx' y' r' xs e _ e2 l m H2 s2 hl hm h2 h3=>⟨(szR rfl),λu hu=>?_⟩,λz H2 s2=>k0 ?_ _ (s1.trans s2)⟩⟩)
 ·rcases Ar hz with rfl|hz
  ·exact⟨wZ.asc,wZ.len⟩
  ·rw[Af hz];exact⟨hW.asc,hW.wd.len⟩
 ·injection e with e1 e
  injection e with e3 e4
  subst e1 e3 e4;unfold Gr at e2
  cases eW:numP W with
  |none=>rw[if_neg (by rw[all_cons,eW];simp)]at e2;cases e2
  |some n=>
   rw[if_pos (by rw[all_cons,eW];rfl)]at e2;cases e2;obtain⟨hn,kE⟩:=k1 n eW;have s3:=s1.trans (s2.trans (Same.new (o:=.tup [V.str (Str.ofString "lay"),.ref l]) hu));obtain⟨dx,be,sc,un,mo,te,wo,th,po,c',i1,_⟩:=(hz.same s3).ins;refine⟨p,u,l,dx,be,sc,st,un,_,Y,i1,Zc,.inl ⟨Y,_,m,by rw[Ze (Zi h2 hu)];exact h2,λQ' E' _ ke=>⟨p,m,st,_,_,H0,M,ns,ks,g,q,S,Y,hz.same s3,td,wZ,by decide+kernel,by decide,by rw[Ze (Zi h3 hu)];exact h3,by show 1<=1000;decide,?_,λH' s'=>ke _ _ (kE H' (s3.trans s'))⟩⟩⟩;have e:We M n=false:=by unfold We;rw[decide_eq_false (by lia:¬(0<=n/\n<(M.length:Int))),Bool.false_and]
   show W0 M [(numP W).getD 0]=false;rw[eW];show W0 M [n]=false;unfold W0;rw[show([n].map (We M)).all id=false by rw[map_cons,all_cons,e];rfl,Bool.false_and,Bool.and_false]
 ·have:=z (Str.ofString "z") W [] rfl (n:)
  unfold Gr at this
  cases eW:numP W with
  |none=>rfl
  |some n=>rw[if_pos (by rw[all_cons,eW];rfl)]at this;cases this
def Zi0(hz:HZ t H H0 p st M ns ks g q S)(td:TD M ns)(my:ns.length<64)(hS:S.length<=800)(L:Ln x [Str.ofString "pour",Str.ofString "z",y])(hy:Wo y)(k0:prP 58 y=none->OkE t H E .bo)(k1:∀a b,prP 58 y=some (a,b)->0<=b/\b<100000000000000000000000000000000000000000000000000000000000000/\OkE t H E .co):X6 t [.str x] H (λu H'=>X5 t [.ref p,u] H' Q E) E:=by
 refine .inl (.inr ⟨x,_,Y,L.len,L.wd,λc H1 s1 hc h1=>⟨c,_,[y],Y,h1,cons_ne_nil _ _,by show 1<63;decide,λz hz=>?_,by decide+kernel,?_⟩⟩)
 ·rcases Ar hz with rfl|hz
  ·exact⟨wZ.asc,wZ.len⟩
  ·rw[Af hz];exact⟨hy.asc,hy.wd.len⟩
 ·cases ey:prP 58 y with
  |none=>exact .inl ⟨⟨y,mem_cons_self,ey⟩,λH2 s2=>k0 ey _ (s1.trans s2)⟩
  |some ab=>
   obtain⟨a,b⟩:=ab;obtain⟨b0,b1,kE⟩:=k1 a b ey;refine .inr ⟨[a],λ_=>b,⟨Y,pairwise_singleton _ _,λi y' x' e1 e2=>?_⟩,λl m H2 s2 hl hm h2 h3=>⟨(szR Y),λu hu=>?_⟩⟩
   ·obtain rfl:i=0:=by have:=(Aa e1).1;exact lt_one_iff.mp this
    cases e1;cases e2;exact ey
   have s3:=s1.trans (s2.trans (Same.new (o:=.tup [V.str (Str.ofString "pour"),.ref l]) hu));obtain⟨dx,be,sc,un,mo,te,wo,th,po,c',i1,_⟩:=(hz.same s3).ins;have no:∀{X:Prop},[a].Perm (s:)->X:=λz=>absurd z (Zrg td);exact⟨p,u,l,dx,be,sc,st,un,_,Y,i1,Zc,.inr (.inl ⟨Y,_,m,by rw[Ze (Zi h2 hu)];exact h2,λQ' E' _ ke=>⟨p,m,st,_,H0,M,ns,ks,[a],g,S,q,λ_=>b,Y,hz.same s3,td,my,hS,wZ,by decide+kernel,.inr (d:),by rw[Ze (Zi h3 hu)];exact h3,by show 1<64;decide,λ_ _=>b1,λ_ _=>b0,λ_ H' s'=>ke _ _ (kE H' (s3.trans s')),λz=>no z,λz=>no z,λz=>no z,λz=>no z⟩⟩)⟩
def F4{a b:Str}(hz:HZ t H H0 p st M ns ks g q S)(td:TD M ns)(my:ns.length<64)(sw:SwK M ns ks)(hS:S.length<=800)(L:Ln x [Str.ofString "weigh",a,b])(ha:Wo a)(hb:Wo b)(k0:weiP [a,b]=none->OkE t H E .bo)(k1:∀n i j,weiP [a,b]=some (n,i,j)->(n∉keys ns ns.length/\OkE t H E .se)\/n∈keys ns ns.length/\Yf ns n≠"rim"/\∃m' n':Nat,i=m'/\j=n'/\1<=m'/\1<=n'/\(m':Int)<100000000000000000000000000000000000000000000000000000000000000/\(n':Int)<100000000000000000000000000000000000000000000000000000000000000/\(10^60<(lowN m' n').1\/10^60<(lowN m' n').2)/\OkE t H E .gr):X6 t [.str x] H (λu H'=>X5 t [.ref p,u] H' Q E) E:=by
 refine .inr (.inl ⟨x,_,Y,L.len,L.wd,λc H1 s1 hc h1=>⟨c,_,Y,h1,λz hz=>?_,λn i j e l H2 s2 hl h2=>⟨(szR Y),λu hu=>?_⟩,λz H2 s2=>k0 z _ (s1.trans s2)⟩⟩)
 ·rcases Ar hz with rfl|hz
  ·exact⟨ha.asc,ha.wd.len⟩
  ·rw[Af hz];exact⟨hb.asc,hb.wd.len⟩
 have s3:=s1.trans (s2.trans (Same.new (o:=.tup [V.str (Str.ofString "weigh"),.ref l]) hu));obtain⟨dx,be,sc,un,mo,te,wo,th,po,c',i1,_⟩:=(hz.same s3).ins;refine⟨p,u,l,dx,be,sc,st,un,_,Y,i1,Zc,.inr (.inr (.inl ⟨Y,n,i,j,by rw[Ze (Zi h2 hu)];exact h2,λQ' E' _ ke=>⟨p,st,n,i,j,H0,M,ns,ks,g,q,S,Y,hz.same s3,td,my,sw,hS,λz=>?_,λz=>?_⟩⟩))⟩
 ·rcases k1 n i j e with ⟨_,kE⟩|⟨z',_⟩
  ·exact λH' s'=>ke _ _ (kE H' (s3.trans s'))
  ·exact absurd z' z
 ·rcases k1 n i j e with ⟨z',_⟩|⟨_,hr,m',n',e1,e2,l1,l2,b1,b2,hg,kE⟩
  ·exact absurd z z'
  ·exact⟨hr,m',n',e1,e2,l1,l2,b1,b2,.inl ⟨hg,λH' s'=>ke _ _ (kE H' (s3.trans s'))⟩⟩
def Zqd(hz:HZ t H H0 p st M ns ks g q S)(td:TD M ns)(L:Ln x [Str.ofString "turn",W,Str.ofString "left"])(hW:Wo W)(k0:numP W=none->OkE t H E .bo)(k1:∀n,numP W=some n->n∉keys ns ns.length/\OkE t H E .se):X6 t [.str x] H (λu H'=>X5 t [.ref p,u] H' Q E) E:=by
 have e0:trnP [W,Str.ofString "left"]=(numP W).map λn=>(n,Str.ofString "left"):=by
  unfold trnP;dsimp only;rw[if_pos mem_cons_self];cases numP W<;>rfl
 refine .inr (.inr ⟨x,_,Y,L.len,L.wd,λc H1 s1 hc h1=>⟨c,_,Y,h1,λz hz=>?_,λn w e l H2 s2 hl h2=>⟨(szR Y),λu hu=>?_⟩,λz H2 s2=>k0 ?_ _ (s1.trans s2)⟩⟩)
 ·rcases Ar hz with rfl|hz
  ·exact⟨hW.asc,hW.wd.len⟩
  ·rw[Af hz];exact⟨by show ∀c∈([108,101,102,116]:List Nat),c<128;decide,by decide⟩
 ·rw[e0]at e
  cases eW:numP W with
  |none=>rw[eW]at e;cases e
  |some n'=>
   rw[eW]at e;cases e;obtain⟨hn,kE⟩:=k1 n eW;have s3:=s1.trans (s2.trans (Same.new (o:=.tup [V.str (Str.ofString "turn"),.ref l]) hu));obtain⟨dx,be,sc,un,mo,te,wo,th,po,c',i1,i2,ta,low,_⟩:=(hz.same s3).ins;exact⟨p,u,l,dx,be,sc,st,un,_,Y,i1,Zc,.inr (.inr (.inr ⟨Y,n,_,by rw[Ze (Zi h2 hu)];exact h2,p,dx,be,sc,st,un,mo,te,_,_,_,n,_,Y,i1,low _ _ i2,M,ns,ta.same low,td,.inl Y,hn,λH' s'=>kE H' (s3.trans s')⟩))⟩
 ·rw[e0]at z
  cases eW:numP W with
  |none=>rfl
  |some n=>rw[eW]at z;cases z
end
def Zeu{c:Nat}{x a b:Str}(e:x.cps.toList=a.cps.toList++c::b.cps.toList)(wa:Wo a)(wb:Wo b)(hc:c<128/\c≠32/\c≠10)(hl:a.length+b.length<=149):Wo x:=by
 have mm:∀d∈x.cps.toList,d∈a.cps.toList\/d=c\/d∈b.cps.toList:=λd hd=>by
  rw[e]at hd
  rcases mem_append.mp hd with h|h
  ·exact .inl h
  ·exact .inr (Ar h)
 refine⟨λd hd=>?_,?_,λhd=>?_,λhd=>?_⟩
 ·rcases mm d hd with h|rfl|h
  ·exact wa.asc d h
  ·exact hc.1
  ·exact wb.asc d h
 ·rw[X2,X2]at hl
  rw[X2,e,Ae,length_cons];lia
 ·rcases mm _ hd with h|h|h
  ·exact wa.bl h
  ·exact hc.2.1 h.symm
  ·exact wb.bl h
 ·rcases mm _ hd with h|h|h
  ·exact wa.nl h
  ·exact hc.2.2 h.symm
  ·exact wb.nl h
def K1{c:Nat}{x a b:Str}(e:Txt.split x ⟨#[c]⟩=[a,b]):prP c x=(numP a).bind λi=>(numP b).map λj=>(i,j):=by
 unfold prP;rw[e];show(match numP a,numP b with|some i,some j=>some (i,j)|_,_=>none)=_;cases numP a<;>cases numP b<;>rfl
def Zb6(s f:Str):weiP [s,f]=(prP 47 f).bind λij=>(numP s).map λn=>(n,ij.1,ij.2):=by
 show(match prP 47 f,numP s with|some (i,j),some n=>some (n,i,j)|_,_=>none)=_;cases prP 47 f<;>cases numP s<;>rfl
def Gy{x:Str}{ws:List Str}(L:Ln x ws)(h:3<=ws.length):Zkz x:=by
 have ne:∀y:Str,(o6 y).length=1->x≠y:=λy hy z=>by
  rw[<-z,L.wd]at hy;lia
 refine⟨ne _ (n:),ne _ (n:),ne _ (n:),ne _ (n:),λy z e=>?_⟩;rw[L.wd]at e;rw[e]at h;exact absurd h (by show ¬3<=2;decide)
def ln3{x a b c:Str}(e:x.cps.toList=a.cps.toList++32::(b.cps.toList++32::c.cps.toList))(wa:Wo a)(wb:Wo b)(wc:Wo c):Ln x [a,b,c]:=by
 have h:∀y∈[a,b,c],Wo y:=λy hy=>by
  rcases Ar hy with rfl|hy
  ·exact wa
  ·rcases Ar hy with rfl|hy
   ·exact wb
   ·rw[Af hy];exact wc
 exact Gu (B:=150) e (cons_ne_nil _ _) (λy hy=>(h y hy).len) (by show 151*3<=5000;decide) h
noncomputable def oT(s:Int)(W:Str):List Str:=[Str.empty++Str.ofString "lay z "++W,Str.empty++Str.ofString "pour z "++W++Str.ofString ":0",Str.empty++Str.ofString "turn "++W++Str.ofString " left",Str.empty++Str.ofString "weigh "++W++Str.ofString " 1/2",
 Str.empty++Str.ofString "weigh "++(toString s:Str)++Str.ofString " "++W++Str.ofString "/1",Str.empty++Str.ofString "weigh "++(toString s:Str)++Str.ofString " 1/"++W,Str.empty++Str.ofString "pour z "++(toString s:Str)++Str.ofString ":"++W]
noncomputable def dueL:List Tg:=[.th,.co,.se,.se,.gr,.gr,.co]
def Zaw{c:Nat}{x a b:Str}(e:x.cps.toList=a.cps.toList++c::b.cps.toList)(ha:∀d∈a.cps.toList,48<=d/\d<=57)(hb:∀d∈b.cps.toList,48<=d/\d<=57)(hc:c<48\/57<c):Txt.split x ⟨#[c]⟩=[a,b]:=
 Zj8 e (λz=>by have:=ha _ z;lia) (λz=>by have:=hb _ z;lia)
section
variable{t:Adr}{H H0:Hp}{p st:Addr}{M:Lq}{ns ks:List Int}{g:Int->Nat×Nat}{q:Option (Int->Int)}{S:List Str}{Q:VK}{E:XK}{W:Str}{v:Option Int}
def Zmb(hz:HZ t H H0 p st M ns ks g q S)(td:TD M ns)(my:ns.length<64)(sw:SwK M ns ks)(hS:S.length<=800){s:Int}(hs:s∈keys ns ns.length)(hr:Yf ns s≠"rim")(fw:Fw W v)(hv:∀n,v=some n->1000000000000000000000000000000000000000000000000000000000000<n/\n<10000000000000000000000000000000000000000000000000000000000000){i:Nat}{x:Str}{d:Tg}(hx:(oT s W)[i]?=some x)(hd:dueL[i]?=some d)(k0:v=none->OkE t H E .bo)(k1:v≠none->OkE t H E d):
  X6 t [.str x] H (λu H'=>X5 t [.ref p,u] H' Q E) E/\∃ws,Ln x ws/\3<=ws.length:=by
 obtain⟨j,_,hj⟩:=Yu.mp hs;have sr:=td.rng j s hj;have ws:=Vb sr.1 (Int.lt_of_le_of_lt sr.2 (d:));have ls:=Zbx sr.1 (Int.lt_of_le_of_lt sr.2 (d:));have ds:∀d∈(l6 s).cps.toList,48<=d/\d<=57:=by
  obtain⟨m,e⟩:=Int.eq_ofNat_of_zero_le sr.1
  rw[e]
  exact U4 m
 have es:=Wb sr.1 (Int.lt_of_le_of_lt sr.2 (d:));have n0:numP (Str.ofString "0")=some 0:=Wb (n:=0) (d:) (d:);have n1:numP (Str.ofString "1")=some 1:=Wb (n:=1) (d:) (d:);have n2:numP (Str.ofString "2")=some 2:=Wb (n:=2) (d:) (d:);have wz:Wo (Str.ofString "z"):=wo_b (n:);have le:=fw.le;have eN:=fw.num;have hML:M.length<=63:=by have:=td.len;lia
 have p7:∀n,numP W=some n->n∉keys ns ns.length:=λn e z=>by
  obtain⟨k,_,hk⟩:=Yu.mp z;have:=(td.rng k n hk).2;have:=(hv n (eN.symm.trans e)).1;lia
 have kn:numP W=none->OkE t H E .bo:=λe=>k0 (eN.symm.trans e);have kd:∀{n},numP W=some n->OkE t H E d:=λ{n}e=>k1 λz=>by rw[eN,z]at e;cases e
 have dg:∀z:Str,z=Str.ofString "0"\/z=Str.ofString "1"->∀d∈z.cps.toList,48<=d/\d<=57:=λz hz d hd=>by
  rcases hz with rfl|rfl
  ·rw[show d=48 from Af hd];decide
  ·rw[show d=49 from Af hd];decide
 match i,hx,hd with
 |0,hx,hd=>
  cases hx;cases hd;have L:=ln3 (x:=Str.empty++Str.ofString "lay z "++W) (a:=Str.ofString "lay") (b:=Str.ofString "z") (c:=W) (by rw[Zq,Zq];rfl) (wo_b (n:)) wz fw.wo;exact⟨Zmu hz td L fw.wo hML kn λn e=>⟨by have:=(hv n (eN.symm.trans e)).1;lia,kd e⟩,_,L,An _⟩
 |1,hx,hd=>
  cases hx;cases hd;have e1:(W++Str.ofString ":0").cps.toList=W.cps.toList++58::(Str.ofString "0").cps.toList:=Zq _ _;have wy:=Zeu e1 fw.wo (wo_b (n:)) (d:) (by show _+1<=149;lia);have L:=ln3 (x:=Str.empty++Str.ofString "pour z "++W++Str.ofString ":0") (a:=Str.ofString "pour") (b:=Str.ofString "z") (c:=W++Str.ofString ":0") (by rw[Zq,Zq,Zq,Zq,append_assoc];rfl) (wo_b (n:)) wz wy;have ey:=K1 (Zaw e1 fw.dig (dg _ (.inl rfl)) (.inr (d:)));rw[n0]at ey;refine⟨Zi0 hz td my hS L wy (λe=>kn ?_) λa b e=>?_,_,L,An _⟩
  ·cases eW:numP W with
   |none=>rfl
   |some n=>rw[ey,eW]at e;cases e
  ·cases eW:numP W with
   |none=>rw[ey,eW]at e;cases e
   |some n=>rw[ey,eW]at e;cases e;exact⟨by decide,by decide,kd eW⟩
 |2,hx,hd=>
  cases hx;cases hd;have L:=ln3 (x:=Str.empty++Str.ofString "turn "++W++Str.ofString " left") (a:=Str.ofString "turn") (b:=W) (c:=Str.ofString "left") (by rw[Zq,Zq,Zq,append_assoc];rfl) (wo_b (n:)) fw.wo (wo_b (n:));exact⟨Zqd hz td L fw.wo kn λn e=>⟨p7 n e,kd e⟩,_,L,An _⟩
 |3,hx,hd=>
  cases hx;cases hd;have L:=ln3 (x:=Str.empty++Str.ofString "weigh "++W++Str.ofString " 1/2") (a:=Str.ofString "weigh") (b:=W) (c:=Str.ofString "1/2") (by rw[Zq,Zq,Zq,append_assoc];rfl) (wo_b (n:)) fw.wo (wo_b (n:));have ey:weiP [W,Str.ofString "1/2"]=(numP W).map λn=>(n,1,2):=by
   rw[Zb6,K1 (show Txt.split (Str.ofString "1/2") ⟨#[47]⟩=[Str.ofString "1",Str.ofString "2"]from by decide+kernel),n1,n2]
   rfl
  refine⟨F4 hz td my sw hS L fw.wo (wo_b (n:)) (λe=>kn ?_) λn i j e=>.inl ?_,_,L,An _⟩
  ·cases eW:numP W with
   |none=>rfl
   |some n=>rw[ey,eW]at e;cases e
  ·cases eW:numP W with
   |none=>rw[ey,eW]at e;cases e
   |some n=>rw[ey,eW]at e;cases e;exact⟨p7 _ eW,kd eW⟩
 |4,hx,hd=>
  cases hx;cases hd;have e1:(W++Str.ofString "/1").cps.toList=W.cps.toList++47::(Str.ofString "1").cps.toList:=Zq _ _;have wy:=Zeu e1 fw.wo (wo_b (n:)) (d:) (by show _+1<=149;lia);have L:=ln3 (x:=Str.empty++Str.ofString "weigh "++(toString s:Str)++Str.ofString " "++W++Str.ofString "/1") (a:=Str.ofString "weigh") (b:=l6 s) (c:=W++Str.ofString "/1") (by rw[Zq,Zq,Zq,Zq,Zq,Zq,append_assoc,append_assoc,append_assoc];rfl) (wo_b (n:)) ws wy
  have ey:weiP [l6 s,W++Str.ofString "/1"]=(numP W).map λn=>(s,n,1):=by
   rw[Zb6,K1 (Zaw e1 fw.dig (dg _ (.inr rfl)) (.inl (d:))),n1,es];cases numP W<;>rfl
  refine⟨F4 hz td my sw hS L ws wy (λe=>kn ?_) λn i j e=>.inr ?_,_,L,An _⟩
  ·cases eW:numP W with
   |none=>rfl
   |some n=>rw[ey,eW]at e;cases e
  ·cases eW:numP W with
   |none=>rw[ey,eW]at e;cases e
   |some n=>
    rw[ey,eW]at e;cases e;obtain⟨b1,b2⟩:=hv _ (eN.symm.trans eW);obtain⟨m,rfl⟩:=Int.eq_ofNat_of_zero_le (show 0<=i by lia);refine⟨hs,hr,m,1,Y,Y,by lia,An _,by lia,by decide,.inl ?_,kd eW⟩;show 10^60<m/Nat.gcd m 1;rw[gcd_one_right,Nat.div_one,show(10:Nat)^60=1000000000000000000000000000000000000000000000000000000000000 from by decide];lia
 |5,hx,hd=>
  cases hx;cases hd;have e1:(Str.ofString "1/"++W).cps.toList=(Str.ofString "1").cps.toList++47::W.cps.toList:=Zq _ _;have wy:=Zeu e1 (wo_b (n:)) fw.wo (d:) (by show 1+_<=149;lia);have L:=ln3 (x:=Str.empty++Str.ofString "weigh "++(toString s:Str)++Str.ofString " 1/"++W) (a:=Str.ofString "weigh") (b:=l6 s) (c:=Str.ofString "1/"++W) (by rw[Zq,Zq,Zq,Zq,Zq,append_assoc,append_assoc];rfl) (wo_b (n:)) ws wy
  have ey:weiP [l6 s,Str.ofString "1/"++W]=(numP W).map λn=>(s,1,n):=by
   rw[Zb6,K1 (Zaw e1 (dg _ (.inr rfl)) fw.dig (.inl (d:))),n1,es];cases numP W<;>rfl
  refine⟨F4 hz td my sw hS L ws wy (λe=>kn ?_) λn i j e=>.inr ?_,_,L,An _⟩
  ·cases eW:numP W with
   |none=>rfl
   |some n=>rw[ey,eW]at e;cases e
  ·cases eW:numP W with
   |none=>rw[ey,eW]at e;cases e
   |some n=>
    rw[ey,eW]at e;cases e;obtain⟨b1,b2⟩:=hv _ (eN.symm.trans eW);obtain⟨m,rfl⟩:=Int.eq_ofNat_of_zero_le (show 0<=j by lia);refine⟨hs,hr,1,m,Y,Y,An _,by lia,by decide,by lia,.inr ?_,kd eW⟩;show 10^60<m/Nat.gcd 1 m;rw[gcd_one_left,Nat.div_one,show(10:Nat)^60=1000000000000000000000000000000000000000000000000000000000000 from by decide];lia
 |6,hx,hd=>
  cases hx;cases hd;have e1:(l6 s++Str.ofString ":"++W).cps.toList=(l6 s).cps.toList++58::W.cps.toList:=by rw[Zq,Zq,append_assoc];rfl
  have wy:=Zeu e1 ws fw.wo (d:) (by lia);have L:=ln3 (x:=Str.empty++Str.ofString "pour z "++(toString s:Str)++Str.ofString ":"++W) (a:=Str.ofString "pour") (b:=Str.ofString "z") (c:=l6 s++Str.ofString ":"++W) (by rw[Zq,Zq,Zq,Zq,Zq,Zq,append_assoc,append_assoc,append_assoc,append_assoc];rfl) (wo_b (n:)) wz wy;have ey:=K1 (Zaw e1 ds fw.dig (.inr (d:)));rw[es]at ey;refine⟨Zi0 hz td my hS L wy (λe=>kn ?_) λa b e=>?_,_,L,An _⟩
  ·cases eW:numP W with
   |none=>rfl
   |some n=>rw[ey,eW]at e;cases e
  ·cases eW:numP W with
   |none=>rw[ey,eW]at e;cases e
   |some n=>rw[ey,eW]at e;cases e;have:=hv _ (eN.symm.trans eW);exact⟨by lia,by lia,kd eW⟩
 |i+7,hx,_=>cases hx
end
def Zqs(t:Adr):Sp:=λvs H Q _=>∃(p st:Addr)(s p7:Int)(H0:Hp)(M:Lq)(ns ks:List Int)(g:Int->Nat×Nat)(q:Option (Int->Int))(S:List Str),vs=[.ref p,.int s,.int p7]/\HZ t H H0 p st M ns ks g q S/\TD M ns/\ns.length<64/\SwK M ns ks/\S.length<=800/\s∈keys ns ns.length/\Yf ns s≠"rim"/\1000000000000000000000000000000000000000000000000000000000000<p7/\p7<10000000000000000000000000000000000000000000000000000000000000/\∀H',Same H H'->Q (.bl true) H'
def Xc:FnScope ["_law_hall","_law_seam_here","_law_far","_law_dues","_law_more","_law_word","_law_orders","_law_k","_law_due"] ["_law_hall","_law_seam_here","_law_far"] (Zf Fn):=Am
def Zgp(T:Txt w K mg t):(a:) 13 t.fE t.fW ["_law_hall","_law_seam_here","_law_far"] (Zqs t):=by
 refine T.f9.F.aR Xc (b:)
 ·obtain⟨p,st,x,p7,H0,M,ns,ks,g,q,S,rfl,hz,td,my,sw,hS,hx,hr',f0,f1,k⟩:=h
  have hu:=Wc hr;refine ⟨_,(Zg (psN 3 Xc.nd (Y5 (Za Zk (Za Zk (Za Zk (Za Zk (Za Zk (Za Zk (bv:)))))))))
   (Zg (W9 PassesOwn.never rfl (Ws rfl T.bd (Za Zd Zb)) (pgN 4 Xc.nd) (Zg (psN 5 Xc.nd (Zj Oq (Ys Ub (by rfl) T.kI PySem.Pv.boot_str (Z:)) (Zj Zrc Zk (pv 4))))
   (Zg (psN 6 Xc.nd (Y5 (Za (X0 (Yv (J0 (pv 5) W3))) (Za (X0 (Yv (J0 (pv 5) (Yv W3)))) (Za (X0 (Yv (J0 (pv 5) (Yv W3)))) (Za (X0 (Yv (J0 (pv 5) (Yv W3)))) Zb))))))
   (Zg (psN 6 Xc.nd (Zj Zbk (pv 6) (Y5 (Za (X0 (Yv (W4 (pv 1) (Yv (J0 (pv 5) (Yv W3)))))) (Za (X0 (Yv (W4 (pv 1) (Yv (J0 (pv 5) W3))))) (Za (X0 (Yv (W4 (pv 1) (Yv (J0 (pv 5) W3))))) Zb))))))
   (Zg (Z9 (Zn Jo (pcT (Zkg T) hr T.ja (Za (pv 5) Zb)) (Zr Xf (Jj (Za Zk (bv:))) (pv 4) (o:)) (Zm _)) (Zh (Zl Wh)) Zy)
   (Zh (W9 PassesOwn.never rfl (Ws rfl T.bd (Za (Z3 T.aj (Za (pv 6) Zb)) Zb)) (pgN 7 Xc.nd) (Zg (psN 8 Xc.nd (Zr Zs (pv 3) (pv 7) (o:)))
   (Zg (Z9 (Zn Z6 (pv 4) Zd (Zm _)) (Zh (psN 8 Xc.nd Zk)) Zy)
   (Zh (Z9 (Zn Jo (pcT (Uk T) hr T.cK (Za (pv 0) (Za (Zr Zs (pv 6) (pv 7) (o:)) Zb))) (pv 8) (Zm _)) (Zh (Zl Wh)) Zy)))))))))))
   (Zh (Zl Wh)))),?_⟩
  refine Zw λm7 l7=>⟨(szR Y),λl0 hl0=>l7 [oR p,oI x,oI p7,oR l0,none,none,none,none,none] _ ?_⟩;have s1:Same H (upd H l0 (.lst (dueL.map λg=>V.str g.txt))):=Same.new hl0;have h1:(upd H l0 (.lst (dueL.map λg=>V.str g.txt))) l0=some (.lst (dueL.map λg=>V.str g.txt)):=Zc;show tSeq _ _ _ _ (upd H l0 (.lst (dueL.map λg=>V.str g.txt)));generalize upd H l0 (.lst (dueL.map λg=>V.str g.txt))=H1 at s1 h1⊢;refine Z4 (λσ H'=>Same H H') (ah:) (λσ H' s'=>k H' s');obtain⟨FA,FB⟩:=Zu2 (Int.le_of_lt f0) f1;have lf:=Zbx (Int.le_trans (d:) (Int.le_of_lt f0)) f1;obtain⟨j,_,hj⟩:=Yu.mp hx;have xr:=td.rng j x hj;have lx:=Zbx xr.1 (Int.lt_of_le_of_lt xr.2 (d:));refine⟨2,Y,by decide,by decide,?_⟩;refine Qw (n:=2) (λi σ H'=>∃(v4 v5 v6 v7 v8:Option V),σ=[oR p,oI x,oI p7,oR l0,v4,v5,v6,v7,v8]/\Same H1 H') ⟨_,_,_,_,_,Y,Same.refl _⟩ ?_ ?_
  ·rintro i σ H2 hi ⟨v4,v5,v6,v7,v8,rfl,s2⟩
   dsimp only[Zv];rw[Int.zero_add]
   obtain⟨W,v,hW,fw,hv,vn,vs⟩:∃(W:Str)(v:Option Int),W=l6 p7++Txt.mul (Str.ofString "0") i/\Fw W v/\(∀n,v=some n->1000000000000000000000000000000000000000000000000000000000000<n/\n<10000000000000000000000000000000000000000000000000000000000000)/\(i=0->v=some p7)/\(i=1->v=none):=by
    match i,hi with
    |0,_=>exact⟨_,_,rfl,FA,λn e=>by cases e;exact⟨f0,f1⟩,λ_=>rfl,λz=>(nomatch z)⟩
    |1,_=>exact⟨_,_,Y,FB,λn e=>(nomatch e),λz=>(nomatch z),λ_=>rfl⟩
   have lW:=fw.le
   have mok:MulOk (Str.ofString "0") i:=by
    match i,hi with
    |0,_=>unfold MulOk;decide+kernel
    |1,_=>unfold MulOk;decide+kernel
   refine Zw λm7 l7=>?_;refine⟨p7,Y,Xt (by lia) (by lia),_,_,Y,Y,mok,_,_,Y,Y,?_,?_⟩
   ·have:=lW
    rw[hW,Y0]at this;rw[sizeLine_eq];exact Nat.le_trans this (d:)
   show m7 [oR p,oI x,oI p7,oR l0,oI i,oS (l6 p7++Txt.mul (Str.ofString "0") i),v6,v7,v8] _;rw[<-hW];refine l7 _ _ ?_;clear hW mok;have ll:(Str.ofString "lay z ").length=6/\(Str.ofString "pour z ").length=7/\(Str.ofString "turn ").length=5/\(Str.ofString "weigh ").length=6/\(Str.ofString ":0").length=2/\(Str.ofString " left").length=5/\(Str.ofString " 1/2").length=4/\(M:).length=1/\(Str.ofString "/1").length=2/\(Str.ofString " 1/").length=3/\(Str.ofString ":").length=1/\Str.empty.length=0:=by decide
   have lx:(toString x:Str).length<=61:=lx;refine Zw λm7 l7=>?_;refine⟨lnN ?_,W,Y,lnN ?_,lnN ?_,lnN ?_,lnN ?_,W,Y,lnN ?_,lnN ?_,lnN ?_,lnN ?_,lnN ?_,W,Y,lnN ?_,lnN ?_,lnN ?_,lnN ?_,lnN ?_,W,Y,lnN ?_,lnN ?_,lnN ?_,lnN ?_,(szR Y),λl1 n8=>?_⟩
   iterate 19
    ·try simp only[Str.length_append]
     lia
   have s3:Same H2 (upd H2 l1 (.lst (((oT x W).take 4).map V.str))):=Same.new n8;have h3:(upd H2 l1 (.lst (((oT x W).take 4).map V.str))) l1=some (.lst (((oT x W).take 4).map V.str)):=Zc;refine l7 [oR p,oI x,oI p7,oR l0,oI i,oS W,oR l1,v7,v8] (upd H2 l1 (.lst (((oT x W).take 4).map V.str))) ?_;generalize upd H2 l1 (.lst (((oT x W).take 4).map V.str))=H3 at s3 h3⊢;clear l7 m7 n8;refine Zw λm7 l7=>?_;refine⟨lnN ?_,x,Y,Xt xr.1 (by lia),lnN ?_,lnN ?_,W,Y,lnN ?_,lnN ?_,lnN ?_,lnN ?_,lnN ?_,x,Y,Xt xr.1 (by lia),lnN ?_,lnN ?_,W,Y,lnN ?_,lnN ?_,lnN ?_,lnN ?_,x,Y,Xt xr.1 (by lia),lnN ?_,lnN ?_,W,Y,lnN ?_,lnN ?_,lnN ?_,(szR Y),λl2 pf=>?_⟩
   iterate 19
    ·try simp only[Str.length_append]
     lia
   have s4:=s3.trans (Same.new (o:=.lst (((oT x W).drop 4).map V.str)) pf);refine⟨l1,l2,_,_,Y,Y,Same.new pf _ _ h3,Zc,(szR Y),λl3 uq=>?_⟩;have s5:=s4.trans (Same.new (o:=.lst ((oT x W).map V.str)) uq);have h5:=@Zc (upd H3 l2 (.lst (((oT x W).drop 4).map V.str))) l3 (.lst ((oT x W).map V.str));refine l7 [oR p,oI x,oI p7,oR l0,oI i,oS W,oR l3,v7,v8] (upd (upd H3 l2 (.lst (((oT x W).drop 4).map V.str))) l3 (.lst ((oT x W).map V.str))) ?_;generalize upd (upd H3 l2 (.lst (((oT x W).drop 4).map V.str))) l3 (.lst ((oT x W).map V.str))=H5 at s5 h5⊢;clear l7 m7 pf uq s4 s3 h3;refine Z4 (λσ H'=>σ=[oR p,oI x,oI p7,oR l0,oI i,oS W,oR l3,v7,v8]/\Same H5 H') (λnx2 r9=>?_) ?_
   ·match i,hi,vn,vs with
    |0,_,vn,_=>
     refine⟨W,v,Y,fw,.inr ⟨p7,vn Y,by lia,λH6 s6=>⟨(szR Y),λlt mr=>⟨SqT.of Zc,Y,Y,?_⟩⟩⟩⟩;rw[decide_eq_true rfl];exact r9 _ _ ⟨Y,s6.trans (Same.new mr)⟩
    |1,_,_,vs=>
     refine⟨W,v,Y,fw,.inl ⟨vs Y,λH6 s6=>⟨(szR Y),λlt mr=>⟨SqT.of Zc,Y,Y,?_⟩⟩⟩⟩;rw[decide_eq_true rfl];exact r9 _ _ ⟨Y,s6.trans (Same.new mr)⟩
   rintro σ H6 ⟨rfl,s6⟩;have ud:=s5.trans s6;refine⟨l3,_,Y,.inl (SqL.of (s6 _ _ h5)),_,Y,(by rw[Ab];lia),(by rw[Ab,show(oT x W).length=7 from rfl];lia),?_⟩;refine Qw (n:=7) (λk' σ H'=>∃(v7 v8:Option V),σ=[oR p,oI x,oI p7,oR l0,oI i,oS W,oR l3,v7,v8]/\Same H6 H') ⟨_,_,Y,Same.refl _⟩ ?_ ?_
   ·rintro k' σ H7 hk ⟨v7,v8,rfl,s7⟩
    dsimp only[Zv];rw[Int.zero_add];have h07:=(s2.trans (ud.trans s7)) _ _ h1;have h37:=(s6.trans s7) _ _ h5;obtain⟨d,hd⟩:∃d,dueL[k']?=some d:=⟨_,Ac hk⟩;obtain⟨o,ho⟩:∃o,(oT x W)[k']?=some o:=⟨_,Ac hk⟩;refine Zw λm7 l7=>⟨SqL.of h07,Xk hd,l7 [oR p,oI x,oI p7,oR l0,oI i,oS W,oR l3,oI k',oS d.txt] _ ?_⟩
    obtain⟨e,e0,e1⟩:∃e:Tg,(v=none->e=.bo)/\(v≠none->e=d):=by
     cases v with
     |none=>exact⟨.bo,λ_=>rfl,λz=>absurd Y z⟩
     |some n=>exact⟨d,(W:),λ_=>rfl⟩
    refine Z4 (λσ H'=>σ=[oR p,oI x,oI p7,oR l0,oI i,oS W,oR l3,oI k',oS e.txt]/\H'=H7) (λnx3 hnx3=>?_) ?_
    ·match i,hi,vn,vs with
     |0,_,vn,_=>
      refine⟨Y,?_⟩;rw[decide_eq_false (show ¬V.int ((0:Nat):Int)=V.int 1 by decide)];exact hnx3 _ _ ⟨by rw[e1 (by rw[vn rfl];exact λz=>nomatch z)],Y⟩
     |1,_,_,vs=>
      refine⟨Y,?_⟩;rw[decide_eq_true (show V.int ((1:Nat):Int)=V.int 1 from rfl)];exact hnx3 _ _ ⟨by rw[e0 (vs Y)];rfl,rfl⟩
    rintro σ H8 ⟨rfl,rfl⟩;have s08:=(s1.trans s2).trans (ud.trans s7);obtain⟨ws,L,hw3⟩:=(Zmb (Q:=λ_ _=>True) (E:=λ_ _ _=>True) (hz.same s08) td my sw hS hx hr' fw hv ho hd (λ_ _ _=>True.intro) (λ_ _ _=>True.intro)).2;refine⟨SqL.of h37,Xk ho,p,o,Y,L.len,Gy L hw3,λH9 s9 Q' E' kq ke=>?_⟩;have kE:∀H',Same H9 H'->E' (.ref (e.cls t)) none H':=λH' s'=>ke _ _ ⟨e,rfl,rfl,rfl,by rw[decide_eq_true rfl];exact⟨_,_,Y,(s7.trans s9).trans s'⟩⟩;exact(Zmb ((hz.same s08).same s9) td my sw hS hx hr' fw hv ho hd (λz=>e0 z▸kE) (λz=>e1 z▸kE)).1
   ·rintro σ H7 ⟨v7,v8,rfl,s7⟩
    exact⟨_,_,_,_,_,Y,s2.trans (ud.trans s7)⟩
  ·rintro σ H2 ⟨v4,v5,v6,v7,v8,rfl,s2⟩
   exact mq _ _ (s1.trans s2)
def Zsw{M:Lq}{ns ks:List Int}{f:Nat->Int}{g:Int->Int}(td:TD M ns)(pc:PC M f)(nm:Nm ns f g)(pm:ks.Perm (s:))(hb:∀p,p<M.length->f p<10000000000000000000000000000000000000000000000000000000000000):Pob ns ks g/\∀y∈ks,0<=y/\y<=9999/\0<=g y/\g y<10000000000000000000000000000000000000000000000000000000000000:=by
 have hML:=td.len;have rg:∀y∈ks,0<=y/\y<=9999/\0<=g y/\g y<10000000000000000000000000000000000000000000000000000000000000:=λy hy=>by
  obtain⟨i,hi,e⟩:=Yu.mp (pm.mem_iff.mp hy)
  rw[nm i y e]
  exact⟨(td.rng i y e).1,(td.rng i y e).2,pc.nn i (by lia),hb i (by lia)⟩
 have at':∀i,i<ns.length->g (ns.getD i 0)=f i:=λi hi=>nm i _ (by rw[Ad,Ac hi];rfl);have tri:∀k,k<ns.length/3->∃a b c:Int,g3 ns g k=[a,b,c]/\(a+b+c)%2=0/\a<=b+c/\b<=a+c/\c<=a+b:=λk hk=>by
  have e0:=pc.even (3*k) (by lia)
  have t0:=pc.tri (3*k) (by lia)
  have t1:=pc.tri (3*k+1) (by lia)
  have t2:=pc.tri (3*k+2) (by lia)
  rw[aN_0,bN_0]at e0 t0
  rw[aN_1,bN_1]at t1
  rw[aN_2,bN_2]at t2
  refine⟨f (3*k),f (3*k+1),f (3*k+2),?_,e0,t0,by lia,by lia⟩
  unfold g3
  rw[at' _ (by lia),at' _ (by lia),at' _ (by lia)]
 refine⟨⟨pm,λy hy=>⟨(rg y hy).2.2.1,by have:=(rg y hy).2.2.2;lia⟩,?_,?_,?_⟩,rg⟩
 ·rintro⟨x,hx,h0,hr⟩
  rcases Jy td hx with ⟨_,a,e1,ma⟩|⟨e',_⟩|⟨e',_⟩
  ·have hp:a∈pl ns ns.length x:=by rw[e1];exact mem_cons_self
   rw[nm a x (Xj.mp hp).2,pc.rim a ma]at h0;exact absurd h0 (d:)
  ·exact t_lr (e'.symm.trans hr)
  ·exact t_fr (e'.symm.trans hr)
 ·rintro⟨k,hk,h⟩
  obtain⟨a,b,c,e,e0,_⟩:=tri k hk;unfold odB at h;rw[e]at h;have h:=of_decide_eq_true h
  injection h with h
  have h:(a+(b+(c+0)))%2=1:=h;lia
 ·rintro⟨k,hk,h⟩
  obtain⟨a,b,c,e,_,t0,t1,t2⟩:=tri k hk;unfold wdB at h;rw[e,any_eq_true]at h;obtain⟨m,hm,h⟩:=h;have h:a+(b+(c+0))<2*m:=of_decide_eq_true h;simp only[mem_cons,not_mem_nil,or_false]at hm
  rcases hm with rfl|rfl|rfl<;>lia
def Zl0 (r:Str):Str.ofString "pour great " ++ r=Wv (r:) r:=Zcu (by
 unfold Wv;rw[Zq,Jx]
 rfl)
def Zri{m n:Nat}(hm:0<m)(hn:0<n):lowN (lowN m n).1 (lowN m n).2=lowN m n:=by
 have v:=Zi6 hm hn;generalize lowN m n=v' at v;unfold lowN;rw[v.co,Nat.div_one,Nat.div_one]
def Zh4(x y:Int):PySem.SeqAt.shaped (.tuple [.int x,.int y])=true:=by
 unfold PySem.SeqAt.shaped;simp only[PyData.canLay0,PyData.canLayAll0,PyData.depth,PyData.depthAll,Bool.and_true,Bool.true_and];rfl
def Zu7{K:W.Frag}{H:Hp}{p q:Addr}{ks ls:List Int}{g:Int->Nat×Nat}(hp:WAt H p ks g)(hq:WAt H q ls g)(pm:ks.Perm ls):DAl K H (.ref p) (.ref q):=by
 obtain⟨ad,hp,had⟩:=hp;obtain⟨ae,hq,hae⟩:=hq;refine⟨p,q,_,_,Y,Y,.inl hp,.inl hq,by rw[Zas,Zas,pm.length_eq],λk v h=>?_⟩;unfold wD at h;obtain⟨x,hx,e⟩:=mem_map.mp h;cases e;have hy:=pm.mem_iff.mp hx;exact⟨.tuple [.int (g x).1,.int (g x).2],V.ref (ae x),by rw[Zk2,if_pos hy],.tup (SqT.of (had x hx)) (.cons (.int _) (.cons (.int _) .nil)),.tup (SqT.of (hae x hy)) (.cons (.int _) (.cons (.int _) .nil)),Zh4 _ _⟩
def Ztk{out:List Int}{g:Int->Int}(td:out≠[])(hl:out.length<63)(up:out.Pairwise (·<·))(h:∀x∈out,0<=x/\x<=9999/\0<=g x/\g x<10000000000000000000000000000000000000000000000000000000000000):DyR (Wv (r:) (b0:)) (.pour out g):=by
 have h':∀x∈out,0<=x/\x<=9999/\0<=g x/\g x<100000000000000000000000000000000000000000000000000000000000000:=λx hx=>by have:=h x hx;lia
 refine⟨_,Zsv td (by lia) h',λz=>td (map_eq_nil_iff.mp z),by rw[Ab];exact hl,λx hx=>?_,Zop up h⟩;obtain⟨y,hy,rfl⟩:=mem_map.mp hx;obtain⟨a,b,c,d⟩:=h' y hy;exact⟨(Zhd a b c d).asc,(Zhd a b c d).wd.len⟩
def Zng{x:Int}{v:Nat×Nat}(x0:0<=x)(x1:x<=9999)(a1:(v.1:Int)<10000000000000000000000000000000000000000000000000000000000000)(b1:(v.2:Int)<10000000000000000000000000000000000000000000000000000000000000):DyR (weiT x v) (.weigh x v.1 v.2):=by
 refine⟨_,Zr4 x0 x1 (by lia) (by lia),λy hy=>?_,Ztv x0 x1 (Int.natCast_nonneg _) a1 (Int.natCast_nonneg _) b1⟩
 rcases Ar hy with rfl|hy
 ·have:=Vb x0 (Int.lt_of_le_of_lt x1 (d:));exact⟨this.asc,this.wd.len⟩
 ·rw[Af hy]
  have:=(Zpy (Int.natCast_nonneg v.1) (by lia) (Int.natCast_nonneg v.2) (by lia)).1;exact⟨this.asc,this.wd.len⟩
def DyR.ln{d:Str}{y:Dy}(h:DyR d y):d.length<=5000/\Zkz d:=by
 cases y with
 |pour ks f=>
  obtain⟨r,L,r0,_⟩:=h;have:=length_pos_iff.mpr r0;exact⟨L.len,Gy L (by rw[length_cons,length_cons];lia)⟩
 |weigh x a b=>
  obtain⟨r,L,_,e⟩:=h;refine⟨L.len,Gy L ?_⟩
  match r,e with
  |[_,_],_=>exact An _
  |[],e=>cases e
  |[_],e=>cases e
  |_::_::_::_,e=>cases e
def Zil{t:Adr}{H H0:Hp}{p st:Addr}{M:Lq}{ns ks:List Int}{a b:Hs}{y:Dy}{d:Str}{Q:VK}{E:XK}(hz:HZ t H H0 p st M ns ks a.1 a.2.1 a.2.2)(td:TD M ns)(my:ns.length<64)(sw:SwK M ns ks)(hS:a.2.2.length<=800)(h:DyR d y)(hs:DyS ns y a b)(k:∀H' og,Same H0 og->HZ t H' og p st M ns ks b.1 b.2.1 b.2.2->Q (.str (Str.ofString "done")) H'):Zc2 t [.ref p,.str d] H Q E:=by
 refine⟨p,d,Y,h.ln.1,h.ln.2,λH1 s1 Q' E' kq ke=>Zp6 h λu H2 s2 at'=>?_⟩;obtain⟨dx,be,sc,un,mo,te,wo,th,po,c,i1,_⟩:=(hz.same s1).ins;exact Zp7 ((hz.same s1).same s2) td my sw hS ((at' p _ i1).same Zm1) hs λH' og s' rj=>kq _ _ ⟨Y,k H' og s' rj⟩
def HZ.r2{t:Adr}{H H0:Hp}{p st:Addr}{M:Lq}{ns ks:List Int}{g:Int->Nat×Nat}{q:Option (Int->Int)}{S:List Str}(hz:HZ t H H0 p st M ns ks g q S):HZ t H (R2 H p st) p st M ns ks g q S/\Same H0 (R2 H p st)/\Same (R2 H p st) H:=by
 obtain⟨dx,be,sc,un,mo,te,wo,th,po,c,qs,B⟩:=hz;have s:=Gm B.low B.np B.nst;exact⟨⟨dx,be,sc,un,mo,te,wo,th,po,c,qs,B.ins,B.sta,λb u e=>(R2.le e).2.2,R2.out (.inl rfl),R2.out (.inr rfl),s _ _ B.scn,s _ _ B.thr,s _ _ B.poo,λf e=>(B.cnt f e).same s,B.beg.same s,B.ten.same s,B.wor.same s,B.len,λi b x h1 h2=>by obtain⟨v,e⟩:=B.old i b x h1 h2;exact⟨v,s _ _ e⟩⟩,s,λb u e=>(R2.le e).2.2⟩
def HZ.keep{t:Adr}{H H0:Hp}{p st b:Addr}{u:HO}{M:Lq}{ns ks:List Int}{g:Int->Nat×Nat}{q:Option (Int->Int)}{S:List Str}(hz:HZ t H H0 p st M ns ks g q S){H5:Hp}(s:Same H H5)(h:H5 b=some u)(n:H b=none):R2 H5 p st b=some u:=by
 obtain⟨dx,be,sc,un,mo,te,wo,th,po,c,qs,B⟩:=hz;exact R2.at h (λz=>by rw[z,B.ins]at n;cases n) (λz=>by rw[z,B.sta]at n;cases n)
def Zno{ns:List Int}{k:Nat}(h:∀j,0<=ns.getD j 0/\ns.getD j 0<=9999):Asc (cloT ns k)/\(cloT ns k).length<=900:=by
 refine⟨Zrx λx hx=>?_,?_⟩
 ·rcases Ar hx with rfl|hx
  ·show ∀c∈([99,108,111,116,104]:List Nat),c<128
   decide
  ·simp only[mem_cons,not_mem_nil,or_false]at hx
   rcases hx with rfl|rfl|rfl<;>exact True.intro
 ·have f:∀j,(l6 (ns.getD j 0)).length<=62:=λj=>J6 (h j).1 (Int.lt_of_le_of_lt (h j).2 (d:))
  have f0:=f (3*k);have f1:=f (3*k+1);have f2:=f (3*k+2);have jl:=V8 (M:) ((cloW ns k).map wS);have e2:(((cloW ns k).map wS).map (·.length)).sum=5+((l6 (ns.getD (3*k) 0)).length+((l6 (ns.getD (3*k+1) 0)).length+((l6 (ns.getD (3*k+2) 0)).length+0))):=rfl;have e3:((cloW ns k).map wS).length=4:=rfl;unfold cloT;rw[show(M:).length=1 by decide,e2,e3]at jl;lia
def Ztu{ns:List Int}{S:List Str}{Ds:List Dy}(h3:ns.length=3*(bu:))(n1:0<ns.length/3)(my:ns.length<64)(h:∀j,0<=ns.getD j 0/\ns.getD j 0<=9999)(hl:S.length=Ds.length)(h9:S.length<=9)(hS:∀(i:Nat)d y,S[i]?=some d->Ds[i]?=some y->DyR d y)(hH:∀d∈S.head?,Txt.startswith d cloS=false):
  RdX (Txt.join (bj:) (wrT ns S)) (nj ns (bu:)) S ns Ds/\((wrT ns S).map (·.length)).sum<=1000000:=by
 have lc:(nj ns (bu:)).length=ns.length/3:=by unfold nj;rw[Ab,length_range]
 have hS':∀d∈S,10∉d.cps.toList/\d.length<=5000:=λd hd=>by
  obtain⟨i,hi,e⟩:=mem_iff_getElem.mp hd;have e1:S[i]?=some d:=by rw[Ac hi,e]
  have R:=hS i d _ e1 (Ac (by lia));generalize Ds[i]=y at R
  cases y with
  |pour ks f=>obtain⟨r,L,_⟩:=R;exact⟨L.nl,L.len⟩
  |weigh x a b=>obtain⟨r,L,_⟩:=R;exact⟨L.nl,L.len⟩
 have hC:∀r∈nj ns (bu:),∃k,r=cloT ns k:=λr hr=>by
  obtain⟨k,_,rfl⟩:=mem_map.mp hr;exact⟨k,Y⟩
 obtain⟨w1,w2⟩:=Zn0 (ns:=ns) (S:=S) n1 λr hr=>by
  rcases mem_append.mp hr with hr|hr
  ·obtain⟨k,rfl⟩:=hC r hr
   exact⟨(Zhf h).1.nl,(Zhf h).1.len⟩
  ·exact hS' r hr
 have w2:(Txt.join (bj:) (wrT ns S)).length<=5001*30:=Nat.le_trans w2 (mul_le_mul_left _ (by lia));refine⟨⟨by lia,w1,by lia,λz=>by rw[z]at lc;exact absurd lc (by show ¬0=_;lia),λc hc=>?_,hH,hl,hS,by rw[lc];exact h3⟩,?_⟩
 ·obtain⟨k,rfl⟩:=hC c hc
  exact⟨Ztr ns k,Zno h⟩
 ·have sm:=Uq (B:=900) (l:=nj ns (bu:)) λy hy=>by
   obtain⟨k,rfl⟩:=hC y hy;exact(Zno h).2
  have jl:=V8 (bj:) (nj ns (bu:));rw[show(bj:).length=1 by decide]at jl;have s2:=Uq (B:=20000) (l:=wrT ns S) λy hy=>by
   rcases Ar hy with rfl|hy
   ·lia
   ·have:=(hS' y hy).2
    lia
  have:(wrT ns S).length=S.length+1:=rfl;lia
def X8:FnScope ["_law_script","_law_mates","_law_rows_here","_law_hall","_law_word","_law_nums","_law_factor","_law_counts","_law_row","_law_seam_here","_law_top","_law_bottom","_law_other"] ["_law_script"] (Zf Zpz):=Am
def ok_law(T:Txt w K mg t):(a:) 14 t.lH t.kX ["_law_script"] (sp_law K):=by
 refine T.lI.F.aR X8 (λ_ _ _ s H vs Q E hr h=>?_)
 ·obtain⟨a,sc,rfl,hS,hl,k⟩:=h
  have hu:=Wc hr;refine ⟨_,(Zg (Vw (pcT (Zmg T) hr T.j5 (D:)) (Qu Y (Yd (pgN 1 X8.nd) (Yd (pgN 2 X8.nd) Wk))))
   (Zg (psN 3 X8.nd (Vk T.kH (K9 T) (ai:) rfl T.kB T.bK.b .nil Ya (Za (Ys J9 (by rfl) T.ii PySem.Pv.boot_list (Z:)) Zb)))
   (Zg (psN 4 X8.nd (pcT (Zh8 T) hr T.hG (Za (pv 0) (Za Zd (P:)))))
   (Zg (Z9 (Zn Z6 (Z3 T.aj (Za (pv 4) Zb)) Zd (Zm _)) (Zh (Zl (Y3 Z6 (pcT (Uk T) hr T.cK (Za (pv 3) (bv:))) Zk (Zm _)))) Zy)
   (Zg (psN 5 X8.nd (pcT (V3 T) hr T.bO (Za (aw:) (Za Zd Zb))))
   (Zg (psN 6 X8.nd (Zj Qv (Zj Qv (Zj V1 Zd Zd) Zd) (Zj Z5 (aw:) (Zj Qv (Zj V1 Zd Zd) Zd))))
   (Zg (psN 7 X8.nd (pcT (Zkf T) hr T.i8 (Za (pv 2) (Za (Yt (ts:=["_law_many"]) (fv:=[("_law_factor",6)]) (g:) rfl (Yk (pcT (Zke T) hr T.i9 (Za (pv 1) (Za (pv 4) Zb)))) (ak:) (ag:) (ac:) (λ_ _ _ _ _ _=>Yq (Zj W5 (pv 1) (pv 0)))) Zb))))
   (Zg (psN 8 X8.nd (Wa PySem.F.plainAttrs_str PySem.F.slot_str_join PySem.F.type_str_join U5 Zk (Za (Yt (ts:=["_law_seam_here"]) (fv:=[("_law_counts",7)]) (g:) rfl (Yk (Ye (J8 rfl) (by rfl) T.cL PyProof.Rows.boot_sorted (Za (pv 7) Zb))) (ak:) (ag:) (ac:) (λ_ _ _ _ _ _=>Yq (X0 (W4 (pv 0) (Yv (W4 (Wl hu (pv 1) (pv 0) (o:)) W3)))))) Zb)))
   (Zg (Z9 (Zn Jo (pcT (Uk T) hr T.cK (Za (pv 3) (Za (Zj Oq Zk (pv 8)) Zb))) Zk (Zm _)) (Zh (Zl Wh)) Zy)
   (Zg (psN 9 X8.nd (pcT (Zmi T) hr T.j7 (Za (pv 2) (Za (Zr Zs (pv 4) (Zj Z5 (Zr Zs (pv 5) Zd (o:)) (Z3 T.aj (Za (pv 4) Zb))) (o:)) Zb))))
   (Zg (psN 10 X8.nd (Zj Qv (Zj V1 Zd Zd) (Zj Z5 (Zr Zs (pv 5) Zd (o:)) Zd)))
   (Zg (psN 11 X8.nd (Zj Y8 Zd (Zj Z5 (aw:) (Zj V1 Zd Zd))))
   (Zg (Z9 (Zn Z6 (Zj Z5 (Zr Zs (pv 5) Zd (o:)) Zd) Zd (Zm _)) (Zh (Zlx (i:=10) (j:=11) rfl X8.nd rfl rfl (d:) rfl rfl (Za (pv 11) (Za (pv 10) Zb)) (by rfl))) Zy)
   (Zg (Z9 (Zn Jo (pcT (Uk T) hr T.cK (Za (pv 3) (Za (X0 (Yv (W4 (pv 9) (Yv (W4 (pv 10) (Yv (W4 (pv 11) W3))))))) Zb))) Zk (Zm _)) (Zh (Zl Wh)) Zy)
   (Zg (Z9 (PW.pt (Je (Xi (Xn (pcT (Zdm T) hr T.hJ (Za (Xs (pv 3) T.ac T.aG.m (V4 T) (ai:) T.aG.b .nil Ya (bv:)) (Za (pv 7) Zb))))) (Wj (Xi (Xn (pcT (Zmk T) hr T.j8 (Za (Wl hu (Yr (pv 3) T.ac T.aq.m (Jg T) (ai:) T.aq.b .nil Ya) (pv 9) (o:)) (Za (pcT (Zoz T) hr T.kF (Za (pv 10) (Za (pv 11) Zb))) Zb)))))))) (Zh (Zl Wh)) Zy)
   (Zg (Z9 (Zn Jo (pcT (Zre T) hr T.cm (Za (pv 3) (bv:))) (pv 8) (Zm _)) (Zh (Zl Wh)) Zy)
   (Zg (psN 12 X8.nd (pcT (Zi4 T) hr T.kc (Za (pcT (Os T) hr T.cZ (Za (pv 3) Zb)) Zb)))
   (Zg (Z9 (PW.pt (Je (Xi (Xn (pcT (Zdm T) hr T.hJ (Za (Xs (pv 12) T.ac T.aG.m (V4 T) (ai:) T.aG.b .nil Ya (bv:)) (Za (pv 7) Zb))))) (Wj (Zn (Zrb hr.units65) (Yr (pv 12) T.ac T.aq.m (Jg T) (ai:) T.aq.b .nil Ya) (Yr (pv 3) T.ac T.aq.m (Jg T) (ai:) T.aq.b .nil Ya) (Zm _))))) (Zh (Zl Wh)) Zy)
   (Zg (Z9 (PW.pt (Je (Zn Jo (pcT (Os T) hr T.cZ (Za (pv 12) Zb)) (pcT (Os T) hr T.cZ (Za (pv 3) Zb)) (Zm _)) (Wj (Zn Jo (Zr Zs (Yr (pv 12) T.ac T.aV.m (Kc T) (ai:) T.aV.b .nil Ya) Zd (o:)) (Zj Oq Zk (pv 8)) (Zm _))))) (Zh (Zl Wh)) Zy)
   (Zh (Zl (pcT (Zgp T) hr T.f9 (Za (pv 3) (Za (pv 9) (Za (Zj Y8 (Zj Y8 (Zj V1 Zd Zd) Zd) (Zj Z5 (aw:) (Zj V1 Zd Zd))) Zb))))))))))))))))))))))))),?_⟩
  refine Zw λm7 l7=>⟨a,sc,Y,hS,hl,λp m r M ns H1 xf hp hm ny td h42 sj um=>⟨p,_,Y,SqT.of hp,Y,_,_,Y,_,_,Y,Y,l7 [oR a,oR m,oR r,none,none,none,none,none,none,none,none,none,none] _ ?_⟩⟩;clear l7 m7 hp sj um;have hS:=xf.seq hS;clear xf;obtain⟨ts,g1,g2,g3⟩:=id ny;have my:ns.length<64:=by rw[td.len];lia
  refine Zw λm7 l7=>⟨r,_,Y,.inl (SqL.of g1),λl n8=>?_⟩;intro x dx hx hdx mw;obtain⟨rl2,s2⟩:=Zn2 (C:=t.af) g1 g2 g3 n8 hx hdx;have s12:=(Same.new (o:=.lst (ts.map V.ref)) n8).trans s2;refine⟨x,l,dx,M,ns,Y,Zc,rl2,td,my,λH3 old hn=>⟨Y,l7 [oR a,oR m,oR r,oR x,none,none,none,none,none,none,none,none,none] _ ?_⟩⟩;obtain⟨be,sc0,st,un,mo,th,po,wo,ks,hn,n1,n2,su⟩:=hn;obtain⟨vk,hz⟩:=hn.hl td (H1:=H1) (λb u hb e=>old b u hb (s12 b u e)) (Qa hx).2 (s12.free n1);have sw:=hn.sw;generalize R2 H3 x st=H0 at vk hz;replace hS:=vk.seq hS;replace hm:=vk _ _ hm;replace ny:=ny.same vk;clear l7 m7 old rl2 s2 s12 g1 g2 g3 hx hdx mw n8 hn n1 n2 su vk;obtain⟨_,_,_,_,_,_,_,_,_,_,_,_,_,low,_⟩:=hz.ins;refine Zw λm7 l7=>⟨a,m,sc,3,M,Y,low.seq hS,hl,by decide,by decide,low _ _ hm,h42,⟨_,td.n.choose_spec.2.2⟩,td.inv,λw1 ws H4 s4 hw1 h4 l1 p1=>l7 [oR a,oR m,oR r,oR x,oR w1,none,none,none,none,none,none,none,none] _ ?_⟩;clear l7 m7;have yx:=low.trans s4;refine Z4 (λσ H'=>σ=[oR a,oR m,oR r,oR x,oR w1,none,none,none,none,none,none,none,none]/\H'=H4/\Pl M ws) (ah:) ?_
  ·refine⟨w1,_,Y,.inl (SqL.of h4),Y,ite2 (λz=>?_) (λz=>mq _ _ ⟨Y,Y,p1.resolve_left λe=>z (by rw[e];rfl)⟩)⟩
   have L:Ln (Str.ofString "lay z 999") [Str.ofString "lay",Str.ofString "z",Str.ofString "999"]:=ln_b _ (n:);refine⟨x,_,Y,L.len,Gy L (An _),λH5 s5 Q' E' kq ke=>?_⟩;have e9:numP (Str.ofString "999")=some 999:=Wb (n:=999) (d:) (d:);refine Zmu (hz.same (s4.trans s5)) td L (wo_b (n:)) (by lia) (λe=>by rw[e9]at e;cases e) λn e=>?_;rw[e9]at e;cases e;refine⟨by lia,λH' s'=>ke _ _ ⟨.th,Y,Y,Y,?_⟩⟩;rw[decide_eq_true (show V.str Tg.th.txt=V.str (Str.ofString "no thread")from rfl)];exact k _
  rintro σ H' ⟨rfl,rfl,hP⟩;clear p1;refine Zw λm7 l7=>⟨a,sc,4,Y,yx.seq hS,hl,by decide,by decide,?_⟩;generalize cell sc 4=c4;refine⟨c4,4,Y,by decide,λpn xs H5 s5 hpn h5 we hxb=>l7 [oR a,oR m,oR r,oR x,oR w1,oR pn,none,none,none,none,none,none,none] _ ?_⟩;clear l7 m7 c4;have ux:=yx.trans s5;refine Zw λm7 l7=>⟨⟨by decide,by decide,by decide⟩,a,sc,5,Y,ux.seq hS,hl,by decide,by decide,?_⟩;generalize cell sc 5=c5;refine⟨⟨by decide,by decide,by decide⟩,by show(0:Int)<10^59-1;decide,?_⟩;show m7 [oR a,oR m,oR r,oR x,oR w1,oR pn,oI (10^59-1-c5%(10^59-1)),none,none,none,none,none,none] _;obtain⟨F,hF,F0,F1⟩:∃F:Int,(10:Int)^59-1-c5%(10^59-1)=F/\1<=F/\F<100000000000000000000000000000000000000000000000000000000000:=by
   have e:(10:Int)^59=100000000000000000000000000000000000000000000000000000000000:=by decide
   rw[e]
   exact⟨_,Y,by lia,by lia⟩
  rw[hF];refine l7 _ _ ?_;clear l7 m7 hF c5;refine Zw λm7 l7=>⟨m,w1,M,ws,Y,ux _ _ hm,by lia,td.inv,s5 _ _ h4,hP,λtl H6 s6 htl h6=>?_⟩;have low6:=ux.trans s6;refine⟨tl,Y,⟨_,SqL.of h6⟩,λD hD=>Z8 (xs:=rowI M.length (crP M ws)) (λi σ H'=>∃v,σ=[v,oI F]/\Same H6 H'/\H' D=some (.lst (rowI i λp=>F*crP M ws p))) (a0:) ?_ ?_ ?_⟩
  ·rintro i σ H' _ ⟨v,rfl,s',_⟩
   exact SqL.of (s' _ _ h6)
  ·rintro i y σ H' hy ⟨v,rfl,s',h'⟩
   have qu:i<M.length:=by have:=(Aa hy).1;rw[Xz]at this;exact this
   rw[Vh qu]at hy;cases hy;dsimp only[Zv,tYes];rw[if_pos rfl];have c0:0<=crP M ws i:=Int.natCast_nonneg _;have c1:=Znn M ws i;refine⟨.inr ⟨by lia,by lia⟩,_,h',by rw[Xz];exact Zt (by lia),_,Y,Same.add s' hD,?_⟩;rw[Zc];unfold rowI;rw[range_succ,Aj];rfl
  rintro σ H' ⟨v,rfl,s',h'⟩;rw[Xz,<-td.len]at h';refine⟨r,D,ns,λp=>F*crP M ws p,Y,ny.same (low6.trans s'),by lia,h',λcd g H7 s7 oo h7 hg=>l7 [oR a,oR m,oR r,oR x,oR w1,oR pn,oI F,oR cd,none,none,none,none,none] _ ?_⟩;have s57:=s6.trans (s'.trans s7);have hcd5:=(s6.trans s').free oo;clear l7 m7 h' s' hD h6 htl s7 oo low6;obtain⟨hg,hgr⟩:Pob ns (keys ns ns.length) g/\∀y∈keys ns ns.length,0<=y/\y<=9999/\0<=g y/\g y<10000000000000000000000000000000000000000000000000000000000000:=by
   have pc:PC M λp=>F*crP M ws p:=by
    have:=(Ztq td.inv hP).mul (k:=F) (by lia)
    rw[show(λp=>F*crP M ws p)=λp=>crP M ws p*F from funext λp=>Int.mul_comm _ _]
    exact this
   refine Zsw td pc (Nm.of td pc hg) (.refl _) λp _=>?_
   have c1:crP M ws p<=60:=Int.le_trans (Znn M ws p) (by lia)
   have:F*crP M ws p<=F*60:=Int.mul_le_mul_of_nonneg_left c1 (by lia)
   show F*crP M ws p<_
   lia
  clear F0 F1;have low7:=ux.trans s57;have hg2:∀y∈keys ns ns.length,0<=y/\y<=9999/\0<=g y/\g y<100000000000000000000000000000000000000000000000000000000000000:=λy hy=>by have:=hgr y hy;lia
  have qe:=U6 ns ns.length;have hML:=td.len;refine Zw λm7 l7=>⟨Y,cd,_,keys ns ns.length,Y,.inl h7,(by unfold dI;rw[map_map];rfl),by lia,λl out hl pm so=>?_⟩;have s8:Same H7 (upd H7 l (.lst (out.map V.int))):=Same.new hl;have h8:(upd H7 l (.lst (out.map V.int))) l=some (.lst (out.map V.int)):=Zc;generalize upd H7 l (.lst (out.map V.int))=H8 at s8 h8⊢;have uo:=pm.length_eq;have ho:∀y∈out,0<=y/\y<=9999/\0<=g y/\g y<10000000000000000000000000000000000000000000000000000000000000:=λy hy=>hgr y (pm.mem_iff.mp hy);refine⟨l,Y,⟨_,SqL.of h8⟩,λD hD=>Z8 (xs:=out.map V.int) (λi σ H6=>∃v,σ=[v,oR cd]/\Same H8 H6/\H6 D=some (.lst (((out.take i).map (cntS g)).map V.str))) (a0:) ?_ ?_ ?_⟩
  ·rintro i σ H6 _ ⟨v,rfl,s6,_⟩
   exact SqL.of (s6 _ _ h8)
  ·rintro i q σ H6 hq ⟨v,rfl,s6,h6⟩
   obtain⟨y,hy,rfl⟩:=Yi hq;have qu:=(Aa hy).1;have hyk:y∈keys ns ns.length:=pm.mem_iff.mp (Au hy);obtain⟨b1,b2,b3,b4⟩:=hg2 y hyk;dsimp only[Zv,tYes];rw[if_pos rfl];have x2:(toString y:Str).length<=62:=Y9 b1 (by lia);have a2:(toString (g y):Str).length<=62:=Y9 b3 b4;have l0:Str.empty.length=0:=rfl;have l1:(Str.ofString ":").length=1:=by decide
   refine⟨y,Y,Xt b1 (by lia),lnN ?_,lnN ?_,cd,_,Y,Zcv (s6 _ _ (s8 _ _ h7)) hyk,g y,Y,Xt b3 b4,lnN ?_,lnN ?_,?_⟩
   iterate 4
    ·simp only[Str.length_append]
     lia
   refine⟨_,h6,by rw[Ab,Ab,Ai];exact Zt (by lia),_,Y,Same.add s6 hD,?_⟩;rw[Zc,Aw,hy,Aj,Aj];rfl
  rintro σ H9 ⟨v,rfl,s9,h9⟩;rw[Ab,take_length]at h9;have jl:=Zap (g:=g) (out:=out) λy hy=>hg2 y (pm.mem_iff.mp hy);refine⟨_,D,out.map (cntS g),Y,Y,SqL.of h9,by decide,by rw[Ab];lia,l7 [oR a,oR m,oR r,oR x,oR w1,oR pn,oI F,oR cd,oS (b0:),none,none,none,none] _ ?_⟩;clear l7 m7 h9 h8 hl hD;have s39:=(s4.trans (s5.trans s57)).trans (s8.trans s9);have h7':=(s8.trans s9) _ _ h7;have vz:=(s5.trans (s57.trans (s8.trans s9))) _ _ h4;have h5':=(s57.trans (s8.trans s9)) _ _ h5;obtain⟨hz9,z0,z1⟩:=(hz.same s39).r2;have oo:=hz.keep s39 h7' (s4.free (s5.free hcd5));have hw:=hz.keep s39 vz hw1;have hn:=hz.keep s39 h5' (s4.free hpn);generalize R2 H9 x st=og at hz9 z0 z1 oo hw hn;replace hS:=z0.seq hS;replace ny:=ny.same z0;clear hz s39 h7' vz h5' h7 h5 h4 s4 s5 s57 s8 s9 hw1 hpn hcd5 low yx ux low7 z0 hm;have up:out.Pairwise (·<·):=(so.and (pm.nodup_iff.mpr (Vc ns _))).imp λh=>by have h1:=h.1;have h2:=h.2;lia
  have one:out≠[]:=λz=>by
   have e:=Zps td;rw[z,length_nil]at uo;have:=Ge (ns:=ns) (i:=0) (length_pos_iff.mpr e);rw[eq_nil_of_length_eq_zero uo.symm]at this;cases this
  have Rp:=Ztk one (by lia) up ho;have jn:=V8 (M:) (out.map (cntS g));rw[Ab,show(M:).length=1 by decide]at jn;have ct:(b0:).length<=10000:=by unfold cntT;lia
  refine Z4 (λσ H'=>∃H1,σ=[oR a,oR m,oR r,oR x,oR w1,oR pn,oI F,oR cd,oS (b0:),none,none,none,none]/\Same og H1/\HZ t H' H1 x st M ns ks (λ_=>(1,1)) (some g) [Wv (r:) (b0:)]) (ah:) ?_
  ·refine⟨_,_,Y,Y,by rw[sizeLine_eq,show(Str.ofString "pour great ").length=11 by decide];lia,?_⟩
   rw[Zl0];refine Zil (E:=E) (a:=(λ_=>(1,1),none,[])) hz9 td my sw (Az _) Rp ⟨Y,⟨pm,λy hy=>⟨(ho y hy).2.2.1,(hg2 y (pm.mem_iff.mp hy)).2.2.2⟩,hg.rim,hg.odd,hg.wide⟩,so,Y⟩ λH' H1 s' rj=>⟨Y,?_⟩;rw[decide_eq_true rfl];exact mq _ _ ⟨H1,Y,s',rj⟩
  clear hz9 z1 jl;rintro σ H3 ⟨H1,rfl,s1,hz⟩;replace hS:=s1.seq hS;replace ny:=ny.same s1;replace oo:=s1 _ _ oo;replace hw:=s1 _ _ hw;replace hn:=s1 _ _ hn;clear s1;obtain⟨_,_,_,_,_,_,_,_,_,_,_,_,_,low,_⟩:=hz.ins
  obtain⟨n0,n1,n2,n3,rfl⟩:∃n0 n1 n2 n3,xs=[n0,n1,n2,n3]:=by
   match xs,we with
   |[n0,n1,n2,n3],_=>exact⟨_,_,_,_,Y⟩
  have b0:=hxb n0 (by simp);have b1:=hxb n1 (by simp);have b2:=hxb n2 (by simp);have wl:=length_pos_iff.mpr hP.ne;obtain⟨j,hj⟩:∃j:Nat,n0%(((ws.map nV).length:Nat):Int)=j:=⟨_,(Int.toNat_of_nonneg (Int.emod_nonneg _ (by rw[Ab];lia))).symm⟩;have hjl:j<ws.length:=by
   have:=Int.emod_lt_of_pos n0 (show(0:Int)<ws.length by lia)
   rw[Ab]at hj
   lia
  obtain⟨q,hq⟩:∃q,ws[j]?=some q:=⟨_,Ac hjl⟩;obtain⟨q',n9⟩:=hP.has q (Au hq);have hqM:=(Aa n9).1;obtain⟨s,hs⟩:∃s,ns[q]?=some s:=⟨_,Ac (by lia)⟩;have z8:s∈keys ns ns.length:=Yu.mpr ⟨q,by lia,hs⟩;have hsr:Yf ns s≠"rim":=(Vn td z8).mp ⟨q,q',n9,hs⟩;refine Zw λm7 l7=>⟨SqL.of (low _ _ hn),(show atI ([n0,n1,n2,n3].map V.int) 0=some (V.int n0)from Y),w1,_,Y,.inl (SqL.of (low _ _ hw)),(by show(0:Int)<_;rw[Ab];lia),SqL.of (low _ _ hw),(by rw[hj];exact Xk hq),r,ns,q,s,Y,ny.same low,hs,l7 [oR a,oR m,oR r,oR x,oR w1,oR pn,oI F,oR cd,oS (b0:),oI s,none,none,none] _ ?_⟩;clear l7 m7 hw;have e60:(10:Int)^60=1000000000000000000000000000000000000000000000000000000000000:=by decide
  refine Zw λm7 l7=>⟨⟨by decide,by decide,by decide⟩,SqL.of (low _ _ hn),(show atI ([n0,n1,n2,n3].map V.int) 1=some (V.int n1)from Y),by show(0:Int)<3;decide,?_⟩;show m7 [oR a,oR m,oR r,oR x,oR w1,oR pn,oI F,oR cd,oS (b0:),oI s,oI (10^60-n1%3),none,none] _;obtain⟨u,hu',u1,u2⟩:∃u:Nat,(10:Int)^60-n1%3=u/\1<=u/\(u:Int)<=1000000000000000000000000000000000000000000000000000000000000:=by
   rw[e60]
   exact⟨(1000000000000000000000000000000000000000000000000000000000000-n1%3).toNat,by lia,by lia,by lia⟩
  rw[hu'];refine l7 _ _ ?_;clear l7 m7 hu';refine Zw λm7 l7=>⟨a,sc,6,Y,low.seq hS,hl,by decide,by decide,?_⟩;generalize cell sc 6=c6;refine⟨⟨by decide,by decide,by decide⟩,by show(0:Int)<10^60;decide,?_⟩;show m7 [oR a,oR m,oR r,oR x,oR w1,oR pn,oI F,oR cd,oS (b0:),oI s,oI u,oI (1+c6%10^60),none] _;obtain⟨v,wf,v1,v2⟩:∃v:Nat,1+c6%(10:Int)^60=v/\1<=v/\(v:Int)<=1000000000000000000000000000000000000000000000000000000000000:=by
   rw[e60]
   exact⟨(1+c6%1000000000000000000000000000000000000000000000000000000000000).toNat,by lia,by lia,by lia⟩
  rw[wf];refine l7 _ _ ?_;clear l7 m7 wf c6;refine Z4 (λσ H'=>H'=H3/\∃u v:Nat,σ=(ay:)/\1<=u/\1<=v/\(u:Int)<=1000000000000000000000000000000000000000000000000000000000000/\(v:Int)<=1000000000000000000000000000000000000000000000000000000000000) (ah:) ?_
  ·refine⟨SqL.of (low _ _ hn),(show atI ([n0,n1,n2,n3].map V.int) 2=some (V.int n2)from Y),by show(0:Int)<2;decide,rfl,ite2 (λ_=>?_) (λ_=>mq _ _ ⟨rfl,u,v,rfl,u1,v1,u2,v2⟩)⟩
   exact⟨_,_,Y,mq _ _ ⟨Y,v,u,Y,v1,u1,v2,u2⟩⟩
  clear u1 u2 v1 v2;rintro σ H' ⟨rfl,u,v,rfl,u1,v1,u2,v2⟩;have sr:=hgr s z8;have e60':(10:Nat)^60=1000000000000000000000000000000000000000000000000000000000000:=by decide
  have Rw:=Zng (x:=s) (v:=(u,v)) sr.1 sr.2.1 (by show(u:Int)<_;lia) (by show(v:Int)<_;lia);obtain⟨l1,l2⟩:=Zi7 u v;have vl:=Zi6 (m:=u) (n:=v) u1 v1;have ll:=Zri (m:=u) (n:=v) u1 v1;have hgd:putG (λ_=>(1,1)) s (lowN u v) s=lowN u v:=if_pos rfl;refine Z4 (λσ H'=>∃H1',σ=(ay:)/\Same H1 H1'/\HZ t H' H1' x st M ns ks (putG (λ_=>(1,1)) s (lowN u v)) (some g) [Wv (r:) (b0:),weiT s (lowN u v)]) (ah:) ?_
  ·have x2:(toString s:Str).length<=62:=Y9 sr.1 (by lia)
   have a2:(toString (u:Int):Str).length<=62:=Y9 (Int.natCast_nonneg _) (by lia);have b2:(toString (v:Int):Str).length<=62:=Y9 (Int.natCast_nonneg _) (by lia);have ll:Str.empty.length=0/\(Str.ofString "weigh ").length=6/\(M:).length=1/\(Str.ofString "/").length=1:=by decide
   refine⟨lnN ?_,s,Y,Xt sr.1 (by lia),lnN ?_,lnN ?_,u,Y,Xt (Int.natCast_nonneg _) (by lia),lnN ?_,lnN ?_,v,Y,Xt (Int.natCast_nonneg _) (by lia),lnN ?_,lnN ?_,?_⟩
   iterate 7
    ·simp only[Str.length_append]
     lia
   refine Zil (E:=E) (a:=(λ_=>(1,1),some g,[Wv (r:) (b0:)])) (d:=weiT s (u,v)) hz td my sw (by show 1<=800;decide) Rw ⟨z8,hsr,u,v,rfl,rfl,u1,v1,by show(u:Int)<_;lia,by show(v:Int)<_;lia,by lia,by lia,rfl⟩ λH' H1 s' rj=>⟨rfl,?_⟩;rw[decide_eq_true rfl];exact mq _ _ ⟨H1,Y,s',rj⟩
  clear hz low;rintro σ H4 ⟨H5,rfl,s5,hz⟩;replace hS:=s5.seq hS;replace ny:=ny.same s5;replace oo:=s5 _ _ oo;clear s5 hn;obtain⟨dx,be,sc0,un,mo,te,th,po,wo,c',i1,_,_,low,_⟩:=hz.ins;refine Z4 (λσ H'=>σ=(ay:)/\Same H4 H') (ah:) ?_
  ·refine⟨i1,Y,x,st,H5,M,ns,ks,_,g,_,Y,hz,λl o8 hl pm'=>?_⟩
   have s6:Same H4 (upd H4 l (.dK (dI o8 g))):=Same.new hl;refine⟨l,cd,o8,keys ns ns.length,g,g,Y,Zc,s6 _ _ (low _ _ oo),λz=>?_,pm',λ_ _=>rfl,?_⟩
   ·rw[z]at hl;rw[low _ _ oo]at hl;cases hl
   obtain⟨dx',be',sc1,qc,dxs',te',ui,qm,qb,c2',i2,_⟩:=(hz.same s6).ins;refine⟨i2,Y,x,st,H5,M,ns,ks,_,_,_,Y,hz.same s6,λl2 H6 s7 pf w6=>?_⟩;obtain⟨ad,w6,w7⟩:=w6;have hsk2:s∈ks:=(sw.mem s).mpr ((Vn td z8).mpr hsr);refine⟨l2,_,Y,Zr6 (.inl w6) hsk2,u,v,Y,u1,Zml u1 (Nat.lt_of_le_of_lt (show u<=1000000000000000000000000000000000000000000000000000000000000 by lia) (n:)),λp8 vo=>?_⟩;refine⟨ad s,p8,lowN u v,Y,Same.new vo _ _ ?_,Zc,?_⟩
   ·rw[w7 s hsk2]
    unfold putG;rw[if_pos rfl]
   exact mq _ _ ⟨Y,(s6.trans s7).trans (Same.new vo)⟩
  rintro σ H6 ⟨rfl,s6⟩;replace hz:=hz.same s6;replace low:=low.trans s6;clear i1 s6;refine Z4 (λσ H'=>σ=(ay:)/\Same H6 H') (ah:) ?_
  ·refine⟨x,Y,st,H5,M,ns,ks,_,g,_,hz,td,my,λy hy=>(hg2 y hy).2.2,λo' H' s' pm' so'=>⟨Y,?_⟩⟩
   rw[Ud pm' pm so' so,decide_eq_true rfl];exact mq _ _ ⟨Y,s'⟩
  rintro σ H7 ⟨rfl,s7⟩;replace hz:=hz.same s7;replace low:=low.trans s7;clear s7;generalize lowN u v=lv at *;have hrg:∀i,0<=ns.getD i 0/\ns.getD i 0<=9999:=λi=>by
   by_cases c:i<ns.length
   ·have:=hgr _ (Ge c);exact⟨this.1,this.2.1⟩
   ·rw[Ad,Ay (by lia)];decide
  obtain⟨n,hn1,_,hn⟩:=td.n;have Rw2:=Zng (x:=s) (v:=lv) sr.1 sr.2.1 (by lia) (by lia)
  obtain ⟨RD,u4⟩:=Ztu (ns:=ns) (S:=[Wv (r:) (b0:),weiT s lv]) (Ds:=[.pour out g,.weigh s lv.1 lv.2]) (by lia) (by lia) my hrg rfl (by show 2<=9; decide) (λi d y e1 e2=>by
   match i,e1,e2 with
   |0,e1,e2=>cases e1;cases e2;exact Rp
   |1,e1,e2=>cases e1;cases e2;exact Rw2
   |i+2,e1,_=>cases e1) λd hd=>by cases hd;exact Zsu _
  refine Z4 (λσ H'=>∃(y n6:Addr)(H8:Hp)(ls:List Int),σ=[oR a,oR m,oR r,oR x,oR w1,oR pn,oI F,oR cd,oS (b0:),oI s,oI u,oI v,oR y]/\Same H7 H'/\SwK M ns ls/\HZ t H' H8 y n6 M ns ls (putG (λ_=>(1,1)) s lv) (some g) [Wv (r:) (b0:),weiT s lv]) (ah:) ?_
  ·refine⟨x,st,H5,M,ns,ks,_,_,_,Y,hz,td,my,(by show 2<=100;decide),u4,λH' s'=>?_⟩
   refine⟨_,_,_,ns,_,rfl,RD,λk c hc=>.inr ?_,λ_=>.inr ⟨M,λi=>match i with|0=>(λ_=>(1,1),none,[])|1=>(λ_=>(1,1),some g,[Wv (r:) (b0:)])|_+2=>(putG (λ_=>(1,1)) s lv,some g,[Wv (r:) (b0:),weiT s lv]),td,my,λi=>?_,rfl,λi y e=>?_,λy n6 H8 H9 ls s8 sw2 uk=>mq _ _ ⟨y,n6,H8,ls,rfl,(s'.trans s8).trans ?_,sw2,uk⟩⟩⟩
   ·have hk:k<ns.length/3:=by have:=(Aa hc).1;unfold nj at this;rw[Ab,length_range]at this;exact this
    unfold nj at hc;rw[Ah,getElem?_range hk]at hc;cases hc;exact(Zhf hrg).2
   ·match i with
    |0=>exact Az _
    |1=>show 1<=800;decide
    |_+2=>show 2<=800;decide
   ·match i,e with
    |0,e=>cases e;exact⟨Y,⟨pm,λy hy=>⟨(ho y hy).2.2.1,(hg2 y (pm.mem_iff.mp hy)).2.2.2⟩,hg.rim,hg.odd,hg.wide⟩,so,Y⟩
    |1,e=>cases e;exact⟨z8,hsr,lv.1,lv.2,Y,Y,vl.p1,vl.p2,by lia,by lia,by rw[ll];lia,by rw[ll];lia,by rw[ll];rfl⟩
    |i+2,e=>cases e
   ·obtain⟨_,_,_,_,_,_,_,_,_,_,_,_,_,low2,_⟩:=uk.ins
    exact low2
  rintro σ H9 ⟨y,n6,H8,ls,rfl,s9,sw2,uk⟩;replace hz:=hz.same s9;replace low:=low.trans s9;clear s9;refine Z4 (λσ H'=>σ=[oR a,oR m,oR r,oR x,oR w1,oR pn,oI F,oR cd,oS (b0:),oI s,oI u,oI v,oR y]/\Same H9 H') (ah:) ?_
  ·obtain⟨dx1,be1,sc1,un1,dxs1,te1,th1,po1,wo1,c1,i1,_⟩:=uk.ins
   refine⟨i1,Y,y,n6,H8,M,ns,ls,_,g,_,Y,uk,λl o8 hl pm'=>?_⟩;have s6:Same H9 (upd H9 l (.dK (dI o8 g))):=Same.new hl;refine⟨l,cd,o8,keys ns ns.length,g,g,Y,Zc,s6 _ _ (low _ _ oo),λz=>?_,pm',λ_ _=>rfl,?_⟩
   ·rw[z]at hl;rw[low _ _ oo]at hl;cases hl
   refine⟨s6 _ _ i1,Y,y,n6,H8,M,ns,ls,_,_,_,Y,uk.same s6,λl2 H6 s7 pf w6=>?_⟩;obtain⟨dx2,be2,sc2,un2,dxs2,te2,th2,po2,wo2,c2,i2,_⟩:=(hz.same (s6.trans s7)).ins;refine⟨i2,Y,x,st,H5,M,ns,ks,_,_,_,Y,hz.same (s6.trans s7),λl3 H10 s8 uq w7=>⟨Zu7 (w6.same s8) w7 (sw2.perm sw),?_⟩⟩;exact mq _ _ ⟨Y,s6.trans (s7.trans s8)⟩
  rintro σ H10 ⟨rfl,vk⟩;replace hz:=hz.same vk;replace uk:=uk.same vk;replace low:=low.trans vk;clear vk;refine Z4 (λσ H'=>σ=[oR a,oR m,oR r,oR x,oR w1,oR pn,oI F,oR cd,oS (b0:),oI s,oI u,oI v,oR y]/\Same H10 H') (ah:) ?_
  ·refine⟨y,n6,H8,M,ns,ls,_,_,_,Y,uk,td,my,(by show 2<=100;decide),u4,λH' s'=>⟨x,st,H5,M,ns,ks,_,_,_,rfl,hz.same s',td,my,(by show 2<=100;decide),u4,λH2 s2=>⟨rfl,?_⟩⟩⟩
   rw[decide_eq_true rfl];obtain⟨dx1,be1,sc1,un1,dxs1,te1,th1,po1,wo1,c1,i1,_⟩:=(uk.same (s'.trans s2)).ins;refine⟨i1,Y,y,n6,H8,M,ns,ls,_,_,_,Y,uk.same (s'.trans s2),(by show 2<=900;decide),λl3 H3 s3 uq h3=>⟨SqL.of h3,rfl,_,_,rfl,rfl,by rw[sizeLine_eq,show(Str.ofString "pour great ").length=11 by decide];lia,rfl,?_⟩⟩;rw[Zl0,decide_eq_true rfl];exact mq _ _ ⟨Y,(s'.trans s2).trans s3⟩
  rintro σ H11 ⟨rfl,s11⟩;replace hz:=hz.same s11;replace low:=low.trans s11;refine⟨⟨by decide,by decide,by decide⟩,a,sc,7,Y,low.seq hS,hl,by decide,by decide,?_⟩;generalize cell sc 7=c7;refine⟨⟨by decide,by decide,by decide⟩,by show(0:Int)<10^60;decide,x,st,s,10^60+1+c7%10^60,H5,M,ns,ks,_,_,_,rfl,hz,td,my,sw,(by show 2<=800;decide),z8,hsr,by rw[e60];lia,by rw[e60];lia,λH' _=>k H'⟩
end
end KT
open PySem PySem.W PyProof.Rows
namespace PySem.W.Fast
def Z:=True
def tw8912428611011915305:=Z
def tw1669774888105546734:=Z
def tw10598371034428104063:=Z
def tw6316562761855678359:=Z
def tw15880289763933891375:=Z
def tw1427908509049075294:=Z
def tw1151467413796407865:=Z
def tw4723266241638458242:=Z
def tw11645150197519408800:=Z
def tw1668014359454845714:=Z
def tw5447603371951749598:=Z
def tw8863178309987268860:=Z
def tw15095939576533089813:=Z
def tw2161753905618101065:=Z
def tw5313583156580573105:=Z
def tw17649365544200375396:=Z
def tw4648290885453602412:=Z
def tw7252657818736837992:=Z
def tw3586084439684980483:=Z
def tw2471928633916935720:=Z
def tw1387747274357577514:=Z
def tw1606388978562571038:=Z
def tw7021753892858023772:=Z
def tw16213988383358960517:=Z
def tw10767556658766418042:=Z
def tw1220025868254065300:=Z
def tw9869001163313810836:=Z
def tw674750908160115350:=Z
def tw11417973695282915127:=Z
def tw10607049185995712334:=Z
def tw17810358468416341158:=Z
def tw9467235078393865511:=Z
def tw2357210711756522147:=Z
def tw618018660374544087:=Z
def tw13452827894175537815:=Z
def tw10043997509596151921:=Z
def tw15045179059455419510:=Z
def tw15150991082141952347:=Z
def tw5537138938486477243:=Z
def tw3499278621439992911:=Z
def tw2439292752823746803:=Z
def tw15633102965871064578:=Z
def tw3247133026742402036:=Z
def tw4342116663515563705:=Z
def tw10805723045603442035:=Z
def tw1953534232860537631:=Z
def tw5932322214813750022:=Z
def tw11113231575717951449:=Z
def tw1389869403865729316:=Z
def tw14206684101233580738:=Z
def tw11588641118464099613:=Z
def tw15065205993826831505:=Z
def tw16974380817057595565:=Z
def tw3179435112780328455:=Z
def tw2005163613428370559:=Z
def tw14658796281681047123:=Z
def tw6665975236264719147:=Z
def tw6910493922508795670:=Z
def tw13666060034138211361:=Z
def tw12679299095808688872:=Z
def tw4177509635967962345:=Z
def tw11897058428226806042:=Z
def tw11199887945333301923:=Z
def tw8013251708352998814:=Z
def tw4255393416736616289:=Z
def tw3831162711849943584:=Z
def tw12509313554214573467:=Z
def tw10112491980600420274:=Z
def tw8509954532982749814:=Z
def tw9663651937403174331:=Z
def tw2087010805710113856:=Z
def tw8036348817204756136:=Z
def tw4022525069223988552:=Z
def tw1228853348447325903:=Z
def tw8316933593180961092:=Z
def tw1918191780096644625:=Z
def tw9225639020163172229:=Z
def tw411479735998275092:=Z
def tw3549506862940579040:=Z
def tw15283473156177512905:=Z
def tw17776830837660820699:=Z
def tw15342423774200618934:=Z
def tw8864954520154397895:=Z
def tw4622624391804087436:=Z
def tw2191706657487647497:=Z
def tw3869767184541311608:=Z
def tw3888923776423281629:=Z
def tw7092985892341671029:=Z
def tw15737155336429859876:=Z
def tw7377293749473811417:=Z
def tw5364351057193263763:=Z
def tw17620448532397456389:=Z
def tw17449079820677862675:=Z
def tw13724912000613259557:=Z
def tw5506631179010064028:=Z
def tw15012175122084272452:=Z
def tw4071010055098709411:=Z
def tw9884088245054271197:=Z
def tw12972268225763090701:=Z
def tw3660338729801810489:=Z
def tw457540639709864586:=Z
def tw13808370968841882579:=Z
def tw4805423658298548463:=Z
def tw12933668741880042996:=Z
def tw16514421953423439801:=Z
def tw207832623146233025:=Z
def tw13204073559132353464:=Z
def tw12040702108205985501:=Z
def tw17924633179847859621:=Z
def tw8799747996867355646:=Z
def tw8666518442835856254:=Z
def tw3879609360179481597:=Z
def tw3805970896623270687:=Z
def tw1208651504481477390:=Z
def tw11539669174850169613:=Z
def tw1892431260681546841:=Z
def tw12744546560325152559:=Z
def tw1884472878218511634:=Z
def tw477875057497917866:=Z
def tw16268115830006592644:=Z
def tw9110530257825514061:=Z
def tw719320219027696769:=Z
def tw6500491520085521245:=Z
def tw17721365013621277080:=Z
def tw1278371691604567551:=Z
def tw2067773208603597419:=Z
def tw3976018957331733288:=Z
def tw5455096721196499654:=Z
def tw13242493300779875063:=Z
def tw2512998084390405699:=Z
def tw11766132859875504208:=Z
def tw7935614401124803806:=Z
def tw14332887976613834115:=Z
def tw5714981060825571350:=Z
def tw14785223037119314803:=Z
def tw15278644971717560191:=Z
def tw12739917045490714810:=Z
def tw13097804358023670670:=Z
def tw5594940209944724559:=Z
def tw1846476080807155337:=Z
def tw5073085455480401087:=Z
def tw11217526567814726375:=Z
def tw8915537140620639648:=Z
def tw7402480054327457525:=Z
def tw605115358622479184:=Z
def tw5111450006644576664:=Z
def tw16118969548146060136:=Z
def tw16603453963114065552:=Z
def tw1392928774935526727:=Z
def tw66418428758266328:=Z
def tw8433536382754424410:=Z
def tw3344948553173641344:=Z
def tw9650979055615824485:=Z
def tw14856390221464979465:=Z
def tw2394910767337887762:=Z
def tw1279623323888353988:=Z
def tw12021847129191166421:=Z
def tw1065224533819488218:=Z
def tw15896515426924862228:=Z
def tw13913371016446719608:=Z
def tw17235835446132232882:=Z
def tw2986911173298226962:=Z
def tw15095290961573228182:=Z
def tw17850012671957189109:=Z
def tw11546467030144200133:=Z
def tw9854844822384712520:=Z
def tw5824709060600679209:=Z
def tw15356021810794313502:=Z
def tw11975993416658391769:=Z
def tw5501820324016189841:=Z
def tw11030111001578304503:=Z
def tw3406015658564889374:=Z
def tw2150868759342139790:=Z
def tw10372889183424549876:=Z
def tw4543219825992433757:=Z
def tw11476017902670551875:=Z
def tw8477460667073935583:=Z
def tw15074329551056436609:=Z
def tw9185705491889649910:=Z
def tw17793404226872222423:=Z
def tw12449685532702787443:=Z
def tw17610004217050453703:=Z
def tw13488271648275274974:=Z
def tw12298800667350620459:=Z
def tw2878443370635254825:=Z
def tw1895121205847378829:=Z
def tw1686847324231897722:=Z
def tw3226609322114550828:=Z
def tw4467459566438644635:=Z
def tw13833869497501450597:=Z
def tw5142587241540532613:=Z
def tw17760616297196194545:=Z
def tw2928530855645357323:=Z
def tw15944189429808230359:=Z
def tw13780644792530461814:=Z
def tw3850131494187431052:=Z
def tw14239098868637209336:=Z
def tw11789064723123347740:=Z
def tw12976773760094771109:=Z
def tw14153783883638032111:=Z
def tw836224040949330586:=Z
def tw9664515121412475125:=Z
def tw6470076440972676354:=Z
def tw7592956265756779855:=Z
def tw15286829371681455601:=Z
def tw15005590406739004774:=Z
def tw6008324157454186897:=Z
def tw16449712262942765504:=Z
def tw7805307398157762795:=Z
def tw5891208854007648142:=Z
def tw324204475758235560:=Z
def tw17006881412589509111:=Z
def tw16386289500427142476:=Z
def tw5816821166824952887:=Z
def tw18177309650862430704:=Z
def tw13610655053289048099:=Z
def tw13815655638576946715:=Z
def tw10688164080869106582:=Z
def tw18147101144859302318:=Z
def tw6059352765826968444:=Z
def tw18140098556766042641:=Z
def tw7459954330232560437:=Z
def tw3104962755471524176:=Z
def tw7192893465225219866:=Z
def tw13029509797508538528:=Z
def tw4993044228590318636:=Z
def tw17937219335169124198:=Z
def tw16631410639558299143:=Z
def tw14723386971496180645:=Z
def tw15029860615401244677:=Z
def tw17664221645121769072:=Z
def tw8497104571821990961:=Z
def tw17695734148418077396:=Z
def tw12978561913936646731:=Z
def tw17965261291656949739:=Z
def tw12077937711341444118:=Z
def tw5100866354422138018:=Z
def tw13919173032782404146:=Z
def tw3352295297467849163:=Z
def tw4578476406973127922:=Z
def tw7465388214025814389:=Z
def tw14799303991765062786:=Z
def tw14502920018216562067:=Z
def tw16631577619639705911:=Z
def tw7434056047838585328:=Z
def tw13241297922289953907:=Z
def tw16304838135336053334:=Z
def tw8954910068213203259:=Z
def tw15417033052467524309:=Z
def tw639949795309633929:=Z
def tw4617607149956436674:=Z
def tw13766461349590649410:=Z
def tw8452186248920618466:=Z
def tw18106338438665821412:=Z
def tw6196690515430594633:=Z
def tw8234412070929244105:=Z
def tw8254870068231632771:=Z
def tw10619083741292789172:=Z
def tw3432978308337724359:=Z
def tw1659090074351465204:=Z
def tw17386052030060560388:=Z
def tw10772103860757813711:=Z
def tw4462776475920394397:=Z
def tw4888797655062692134:=Z
def tw14546708701471907629:=Z
def tw17763343394637700055:=Z
def tw13608989175800343147:=Z
def tw8677663014511798444:=Z
def tw9182580110763024440:=Z
def tw1270440510662996576:=Z
def tw1024507516263637122:=Z
def tw14818938482156112183:=Z
def tw12070024442356089812:=Z
def tw8819927431940069292:=Z
def tw6947423897667297640:=Z
def tw4918191722227627261:=Z
def tw5081522920788372393:=Z
def tw9964270334310141540:=Z
def tw1964526093828231046:=Z
def tw7867571166703011499:=Z
def tw13274522503049838488:=Z
def tw12146046809706035401:=Z
def tw13881373448069542428:=Z
def tw4512578347565400265:=Z
def tw9086446056104666086:=Z
def tw10208471588118905707:=Z
def tw9747534356581001556:=Z
def tw16135404973228657186:=Z
def tw12952839314513086493:=Z
def tw592548207567390071:=Z
def tw1260823259620365408:=Z
def tw17373663083856366697:=Z
def tw8488214395966827270:=Z
def tw15348177849592961526:=Z
def tw14511907320852444302:=Z
def tw687179859041571802:=Z
def tw12771255881181166565:=Z
def tw4978155467866929610:=Z
def tw3132608659795696363:=Z
def tw10338976179426715213:=Z
def tw4309036454693346252:=Z
def tw4948157506582938941:=Z
def tw3579183567934268881:=Z
def tw18389305367375286147:=Z
def tw11751617642588804391:=Z
def tw88872987189038064:=Z
def tw9817419602019787073:=Z
def tw9907077367498992981:=Z
def tw4500288396559731234:=Z
def tw1396786135801465700:=Z
def tw11479074180587774259:=Z
def tw5662910161708070752:=Z
def tw13660591661122186010:=Z
def tw15596499790546157228:=Z
def tw8352487266477421421:=Z
def tw12935699012982888823:=Z
def tw14759033567627277451:=Z
def tw9195783570449483109:=Z
def tw3994336113985112918:=Z
def tw16409949852175595447:=Z
def tw791068725090076780:=Z
def tw9898407373166052530:=Z
def tw16948528604104724604:=Z
def tw14050480533805346642:=Z
def tw9506564669456053156:=Z
def tw7980152566723257580:=Z
def tw4141582833629398995:=Z
def tw3335270452526870550:=Z
def tw2780413311387289463:=Z
def tw16950768308907207515:=Z
def tw11634597240012354864:=Z
def tw10115369565152082051:=Z
def tw10070485675598277593:=Z
def tw8054383867182322922:=Z
def tw4615791959598685684:=Z
def tw10631474378134095634:=Z
def tw6738353002971809814:=Z
def tw15280933194846139532:=Z
def tw14290978777532199714:=Z
def tw13543724664561447942:=Z
def tw1074632219949680583:=Z
def tw657649039070145450:=Z
def tw12256638458735646120:=Z
def tw8166622911072094906:=Z
def tw9448134437356202231:=Z
def tw6438219638659097154:=Z
def tw15266219031861953890:=Z
def tw11865962934287570394:=Z
def tw11692014966014583569:=Z
def tw14299656761444941509:=Z
end PySem.W.Fast
set_option maxRecDepth 100000 in
set_option maxHeartbeats 0 in
theorem PySem.Challenge.cw_tentloops_k68_great_numbers_written_holds : PySem.Challenge.rw_tentloops_k68_great_numbers_written.Holds := by
 w_on;o_law;k_head;(case hw=>w_witness2)
 k_fill
 refine L2.walk_r (l:=PySem.Challenge.rw_tentloops_k68_great_numbers_written) (k:=14) (spl:=KT.sp_law) rfl rfl ⟨rfl,by decide,by decide⟩ (fun w h Y=>PySem.W.kIn_of Y) (fun K H a ns hl hS=>KT.sp_law_start hl hS) ?F
 case F=>
  intro w mg fa h KX G hmg
  have T:∃t,KT.Txt w (L2.KOf KX) mg t:=by
   dsimp only[L2.KOf]
   refine' ⟨⟨_,_,_,_,_,_,_,_,_,_,_,_,_,_,_,_,_,_,_,_,_,_,_,_,_,_,_,_,_,_,_,_,_,_,_,_,_,_,_,_,_,_,_,_,_,_,_,_,_,_,_,_,_,_,_,_,_,_,_,_,_,_,_,_,_,_,_,_,_,_,_,_,_,_,_,_,_,_,_,_,_,_,_,_,_,_,_,_,_,_,_,_,_,_,_,_,_,_,_,_,_,_,_,_,_,_,_,_,_,_,_,_,_,_,_,_,_,_,_,_,_,_,_,_,_,_,_,_,_,_,_,_,_,_,_,_,_,_,_,_,_,_,_,_,_,_,_,_,_,_,_,_,_,_,_,_,_,_,_,_,_,_,_,_,_,_,_,_,_,_,_,_,_,_,_,_,_,_,_,_,_,_,_,_,_,_,_,_,_,_,_,_,_,_,_,_,_,_,_,_,_,_,_,_,_,_,_,_,_,_,_,_,_,_,_,_,_,_,_,_,_,_,_,_,_,_,_,_,_,_,_,_,_,_⟩,⟨mg_of KX G ?_,⟨?_,?_,?_,?_⟩,?_,?_,?_,?_,mg_of KX G ?_,⟨?_,?_,?_,?_⟩,?_,?_,?_,?_,mg_of KX G ?_,⟨?_,?_,?_,?_⟩,?_,?_,?_,?_,KT.FT.of KX G (KT.ba1 (fun _ _ _ _ _ _ _ _=>rfl) rfl) ?_ ?_ ?_ ?_,KT.FT.of KX G (KT.ba1 (fun _ _ _ _ _ _ _ _=>rfl) rfl) ?_ ?_ ?_ ?_,KT.FT.of KX G (KT.ba1 (fun _ _ _ _ _ _ _ _=>rfl) rfl) ?_ ?_ ?_ ?_,KT.FT.of KX G (KT.ba1 (fun _ _ _ _ _ _ _ _=>rfl) rfl) ?_ ?_ ?_ ?_,KT.FT.of KX G (KT.ba2 (fun _ _ _ _ _ _ _ _ _=>rfl) rfl) ?_ ?_ ?_ ?_,KT.FM.of (KT.ba2 (fun _ _ _ _ _ _ _ _ _=>rfl) rfl) ?_ ?_ ?_ ?_ ?_,KT.FM.of (KT.ba1 (fun _ _ _ _ _ _ _ _=>rfl) rfl) ?_ ?_ ?_ ?_ ?_,KT.FM.of (KT.ba1 (fun _ _ _ _ _ _ _ _=>rfl) rfl) ?_ ?_ ?_ ?_ ?_,KT.FM.of (KT.ba2 (fun _ _ _ _ _ _ _ _ _=>rfl) rfl) ?_ ?_ ?_ ?_ ?_,KT.FM.of (KT.ba2 (fun _ _ _ _ _ _ _ _ _=>rfl) rfl) ?_ ?_ ?_ ?_ ?_,KT.FM.of (KT.ba2 (fun _ _ _ _ _ _ _ _ _=>rfl) rfl) ?_ ?_ ?_ ?_ ?_,KT.FM.of (KT.ba2 (fun _ _ _ _ _ _ _ _ _=>rfl) rfl) ?_ ?_ ?_ ?_ ?_,KT.FM.of (KT.ba2 (fun _ _ _ _ _ _ _ _ _=>rfl) rfl) ?_ ?_ ?_ ?_ ?_,KT.FM.of (KT.ba2 (fun _ _ _ _ _ _ _ _ _=>rfl) rfl) ?_ ?_ ?_ ?_ ?_,KT.FT.of KX G (KT.ba1 (fun _ _ _ _ _ _ _ _=>rfl) rfl) ?_ ?_ ?_ ?_,KT.FT.of KX G (KT.ba2 (fun _ _ _ _ _ _ _ _ _=>rfl) rfl) ?_ ?_ ?_ ?_,KT.FT.of KX G (KT.ba2 (fun _ _ _ _ _ _ _ _ _=>rfl) rfl) ?_ ?_ ?_ ?_,KT.FT.of KX G (KT.ba3 (fun _ _ _ _ _ _ _ _ _ _=>rfl) rfl) ?_ ?_ ?_ ?_,KT.FT.of KX G (KT.ba3 (fun _ _ _ _ _ _ _ _ _ _=>rfl) rfl) ?_ ?_ ?_ ?_,KT.FT.of KX G (KT.ba2 (fun _ _ _ _ _ _ _ _ _=>rfl) rfl) ?_ ?_ ?_ ?_,KT.FT.of KX G (KT.ba3 (fun _ _ _ _ _ _ _ _ _ _=>rfl) rfl) ?_ ?_ ?_ ?_,KT.FT.of KX G (KT.ba2 (fun _ _ _ _ _ _ _ _ _=>rfl) rfl) ?_ ?_ ?_ ?_,KT.FT.of KX G (KT.ba2 (fun _ _ _ _ _ _ _ _ _=>rfl) rfl) ?_ ?_ ?_ ?_,KT.FT.of KX G (KT.ba2 (fun _ _ _ _ _ _ _ _ _=>rfl) rfl) ?_ ?_ ?_ ?_,KT.FT.of KX G (KT.ba2 (fun _ _ _ _ _ _ _ _ _=>rfl) rfl) ?_ ?_ ?_ ?_,KT.FT.of KX G (KT.ba2 (fun _ _ _ _ _ _ _ _ _=>rfl) rfl) ?_ ?_ ?_ ?_,KT.FT.of KX G (KT.ba2 (fun _ _ _ _ _ _ _ _ _=>rfl) rfl) ?_ ?_ ?_ ?_,KT.FT.of KX G (KT.ba2 (fun _ _ _ _ _ _ _ _ _=>rfl) rfl) ?_ ?_ ?_ ?_,KT.FT.of KX G (KT.ba2 (fun _ _ _ _ _ _ _ _ _=>rfl) rfl) ?_ ?_ ?_ ?_,KT.FT.of KX G (KT.ba2 (fun _ _ _ _ _ _ _ _ _=>rfl) rfl) ?_ ?_ ?_ ?_,KT.FT.of KX G (KT.ba1 (fun _ _ _ _ _ _ _ _=>rfl) rfl) ?_ ?_ ?_ ?_,KT.FT.of KX G (KT.ba1 (fun _ _ _ _ _ _ _ _=>rfl) rfl) ?_ ?_ ?_ ?_,KT.FT.of KX G (KT.ba2 (fun _ _ _ _ _ _ _ _ _=>rfl) rfl) ?_ ?_ ?_ ?_,KT.FT.of KX G (KT.ba1 (fun _ _ _ _ _ _ _ _=>rfl) rfl) ?_ ?_ ?_ ?_,KT.FT.of KX G (KT.ba1 (fun _ _ _ _ _ _ _ _=>rfl) rfl) ?_ ?_ ?_ ?_,KT.FT.of KX G (KT.ba1 (fun _ _ _ _ _ _ _ _=>rfl) rfl) ?_ ?_ ?_ ?_,KT.FT.of KX G (KT.ba1 (fun _ _ _ _ _ _ _ _=>rfl) rfl) ?_ ?_ ?_ ?_,KT.FT.of KX G (KT.ba1 (fun _ _ _ _ _ _ _ _=>rfl) rfl) ?_ ?_ ?_ ?_,KT.FM.of (KT.ba5 (fun _ _ _ _ _ _ _ _ _ _ _ _=>rfl) rfl) ?_ ?_ ?_ ?_ ?_,KT.FT.of KX G (KT.ba3 (fun _ _ _ _ _ _ _ _ _ _=>rfl) rfl) ?_ ?_ ?_ ?_,KT.FT.of KX G (KT.ba2 (fun _ _ _ _ _ _ _ _ _=>rfl) rfl) ?_ ?_ ?_ ?_,KT.FT.of KX G (KT.ba2 (fun _ _ _ _ _ _ _ _ _=>rfl) rfl) ?_ ?_ ?_ ?_,KT.FT.of KX G (KT.ba1 (fun _ _ _ _ _ _ _ _=>rfl) rfl) ?_ ?_ ?_ ?_,KT.FT.of KX G (KT.ba1 (fun _ _ _ _ _ _ _ _=>rfl) rfl) ?_ ?_ ?_ ?_,KT.FT.of KX G (KT.ba3 (fun _ _ _ _ _ _ _ _ _ _=>rfl) rfl) ?_ ?_ ?_ ?_,KT.FM.of (KT.ba2 (fun _ _ _ _ _ _ _ _ _=>rfl) rfl) ?_ ?_ ?_ ?_ ?_,KT.FM.of (KT.ba3 (fun _ _ _ _ _ _ _ _ _ _=>rfl) rfl) ?_ ?_ ?_ ?_ ?_,KT.FM.of (KT.ba3 (fun _ _ _ _ _ _ _ _ _ _=>rfl) rfl) ?_ ?_ ?_ ?_ ?_,KT.FM.of (KT.ba3 (fun _ _ _ _ _ _ _ _ _ _=>rfl) rfl) ?_ ?_ ?_ ?_ ?_,KT.FM.of (KT.ba2 (fun _ _ _ _ _ _ _ _ _=>rfl) rfl) ?_ ?_ ?_ ?_ ?_,KT.FM.of (KT.ba4 (fun _ _ _ _ _ _ _ _ _ _ _=>rfl) rfl) ?_ ?_ ?_ ?_ ?_,KT.FM.of (KT.ba3 (fun _ _ _ _ _ _ _ _ _ _=>rfl) rfl) ?_ ?_ ?_ ?_ ?_,KT.FM.of (KT.ba1 (fun _ _ _ _ _ _ _ _=>rfl) rfl) ?_ ?_ ?_ ?_ ?_,KT.FM.of (KT.ba1 (fun _ _ _ _ _ _ _ _=>rfl) rfl) ?_ ?_ ?_ ?_ ?_,KT.FM.of (KT.ba1 (fun _ _ _ _ _ _ _ _=>rfl) rfl) ?_ ?_ ?_ ?_ ?_,KT.FM.of (KT.ba1 (fun _ _ _ _ _ _ _ _=>rfl) rfl) ?_ ?_ ?_ ?_ ?_,KT.FM.of (KT.ba1 (fun _ _ _ _ _ _ _ _=>rfl) rfl) ?_ ?_ ?_ ?_ ?_,KT.FM.of (KT.ba1 (fun _ _ _ _ _ _ _ _=>rfl) rfl) ?_ ?_ ?_ ?_ ?_,KT.FM.of (KT.ba1 (fun _ _ _ _ _ _ _ _=>rfl) rfl) ?_ ?_ ?_ ?_ ?_,KT.FM.of (KT.ba2 (fun _ _ _ _ _ _ _ _ _=>rfl) rfl) ?_ ?_ ?_ ?_ ?_,KT.FM.of (KT.ba2 (fun _ _ _ _ _ _ _ _ _=>rfl) rfl) ?_ ?_ ?_ ?_ ?_,KT.FM.of (KT.ba1 (fun _ _ _ _ _ _ _ _=>rfl) rfl) ?_ ?_ ?_ ?_ ?_,KT.FM.of (KT.ba1 (fun _ _ _ _ _ _ _ _=>rfl) rfl) ?_ ?_ ?_ ?_ ?_,KT.FT.of KX G (KT.ba1 (fun _ _ _ _ _ _ _ _=>rfl) rfl) ?_ ?_ ?_ ?_,KT.FT.of KX G (KT.ba1 (fun _ _ _ _ _ _ _ _=>rfl) rfl) ?_ ?_ ?_ ?_,KT.FT.of KX G (KT.ba1 (fun _ _ _ _ _ _ _ _=>rfl) rfl) ?_ ?_ ?_ ?_,KT.FT.of KX G (KT.ba2 (fun _ _ _ _ _ _ _ _ _=>rfl) rfl) ?_ ?_ ?_ ?_,KT.FT.of KX G (KT.ba1 (fun _ _ _ _ _ _ _ _=>rfl) rfl) ?_ ?_ ?_ ?_,KT.FT.of KX G (KT.ba1 (fun _ _ _ _ _ _ _ _=>rfl) rfl) ?_ ?_ ?_ ?_,KT.FT.of KX G (KT.ba1 (fun _ _ _ _ _ _ _ _=>rfl) rfl) ?_ ?_ ?_ ?_,KT.FT.of KX G (KT.ba1 (fun _ _ _ _ _ _ _ _=>rfl) rfl) ?_ ?_ ?_ ?_,KT.FT.of KX G (KT.ba1 (fun _ _ _ _ _ _ _ _=>rfl) rfl) ?_ ?_ ?_ ?_,KT.FT.of KX G (KT.ba1 (fun _ _ _ _ _ _ _ _=>rfl) rfl) ?_ ?_ ?_ ?_,KT.FT.of KX G (KT.ba1 (fun _ _ _ _ _ _ _ _=>rfl) rfl) ?_ ?_ ?_ ?_,KT.FT.of KX G (KT.ba2 (fun _ _ _ _ _ _ _ _ _=>rfl) rfl) ?_ ?_ ?_ ?_,KT.FT.of KX G (KT.ba1 (fun _ _ _ _ _ _ _ _=>rfl) rfl) ?_ ?_ ?_ ?_,KT.FT.of KX G (KT.ba3 (fun _ _ _ _ _ _ _ _ _ _=>rfl) rfl) ?_ ?_ ?_ ?_,KT.FT.of KX G (KT.ba2 (fun _ _ _ _ _ _ _ _ _=>rfl) rfl) ?_ ?_ ?_ ?_,KT.FT.of KX G (KT.ba1 (fun _ _ _ _ _ _ _ _=>rfl) rfl) ?_ ?_ ?_ ?_,KT.FT.of KX G (KT.ba1 (fun _ _ _ _ _ _ _ _=>rfl) rfl) ?_ ?_ ?_ ?_,KT.FT.of KX G (KT.ba1 (fun _ _ _ _ _ _ _ _=>rfl) rfl) ?_ ?_ ?_ ?_,KT.FT.of KX G (KT.ba1 (fun _ _ _ _ _ _ _ _=>rfl) rfl) ?_ ?_ ?_ ?_,KT.FT.of KX G (KT.ba2 (fun _ _ _ _ _ _ _ _ _=>rfl) rfl) ?_ ?_ ?_ ?_,KT.FT.of KX G (KT.ba2 (fun _ _ _ _ _ _ _ _ _=>rfl) rfl) ?_ ?_ ?_ ?_,KT.FT.of KX G (KT.ba3 (fun _ _ _ _ _ _ _ _ _ _=>rfl) rfl) ?_ ?_ ?_ ?_,KT.FT.of KX G (KT.ba3 (fun _ _ _ _ _ _ _ _ _ _=>rfl) rfl) ?_ ?_ ?_ ?_,KT.FT.of KX G (KT.ba1 (fun _ _ _ _ _ _ _ _=>rfl) rfl) ?_ ?_ ?_ ?_,KT.FT.of KX G (KT.ba2 (fun _ _ _ _ _ _ _ _ _=>rfl) rfl) ?_ ?_ ?_ ?_,KT.FT.of KX G (KT.ba3 (fun _ _ _ _ _ _ _ _ _ _=>rfl) rfl) ?_ ?_ ?_ ?_,KT.FT.of KX G (KT.ba2 (fun _ _ _ _ _ _ _ _ _=>rfl) rfl) ?_ ?_ ?_ ?_,KT.FT.of KX G (KT.ba2 (fun _ _ _ _ _ _ _ _ _=>rfl) rfl) ?_ ?_ ?_ ?_,KT.FT.of KX G (KT.ba2 (fun _ _ _ _ _ _ _ _ _=>rfl) rfl) ?_ ?_ ?_ ?_,KT.FT.of KX G (KT.ba1 (fun _ _ _ _ _ _ _ _=>rfl) rfl) ?_ ?_ ?_ ?_,KT.FT.of KX G (KT.ba2 (fun _ _ _ _ _ _ _ _ _=>rfl) rfl) ?_ ?_ ?_ ?_,KT.FT.of KX G (KT.ba2 (fun _ _ _ _ _ _ _ _ _=>rfl) rfl) ?_ ?_ ?_ ?_,KT.FT.of KX G (KT.ba2 (fun _ _ _ _ _ _ _ _ _=>rfl) rfl) ?_ ?_ ?_ ?_,KT.FT.of KX G (KT.ba2 (fun _ _ _ _ _ _ _ _ _=>rfl) rfl) ?_ ?_ ?_ ?_,KT.FT.of KX G (KT.ba1 (fun _ _ _ _ _ _ _ _=>rfl) rfl) ?_ ?_ ?_ ?_,KT.FT.of KX G (KT.ba3 (fun _ _ _ _ _ _ _ _ _ _=>rfl) rfl) ?_ ?_ ?_ ?_,KT.FT.of KX G (KT.ba1 (fun _ _ _ _ _ _ _ _=>rfl) rfl) ?_ ?_ ?_ ?_,⟨?_,?_,?_,?_⟩,⟨?_,?_,?_,?_⟩,⟨?_,?_,?_,?_⟩,mg_of KX G ?_,mg_of KX G ?_,mg_of KX G ?_,mg_of KX G ?_,mg_of KX G ?_,mg_of KX G ?_,mg_of KX G ?_,mg_of KX G ?_,mg_of KX G ?_,mg_of KX G ?_,L2.kdict_mk2 ?_ ?_ ?_ (by decide) ?_,mg_of KX G ?_,L2.kdict_mk5 ?_ ?_ ?_ ?_ ?_ ?_ (by decide) ?_,mg_of KX G ?_,L2.ktup_mk2 ?_,mg_of KX G ?_,L2.ktup_mk3 ?_,fun s u=>.of_eq rfl,mg_none_of KX G ?_,mg_none_of KX G ?_,mg_none_of KX G ?_,mg_none_of KX G ?_,mg_none_of KX G ?_,mg_none_of KX G ?_,mg_none_of KX G ?_,mg_none_of KX G ?_,mg_none_of KX G ?_,mg_none_of KX G ?_,mg_none_of KX G ?_,mg_none_of KX G ?_,mg_none_of KX G ?_,mg_none_of KX G ?_,mg_none_of KX G ?_,mg_none_of KX G ?_,mg_none_of KX G ?_,mg_none_of KX G ?_,mg_none_of KX G ?_,mg_of KX G ?_,⟨?_⟩,mg_of KX G ?_,⟨?_⟩,mg_of KX G ?_,⟨?_⟩,mg_of KX G ?_,⟨?_⟩,mg_of KX G ?_,⟨?_⟩,mg_of KX G ?_,⟨?_⟩,mg_of KX G ?_,⟨?_⟩,mg_of KX G ?_,⟨?_⟩,mg_of KX G ?_,⟨?_⟩,mg_of KX G ?_,⟨?_⟩,mg_of KX G ?_,⟨?_⟩,mg_of KX G ?_,⟨?_⟩,mg_of KX G ?_,⟨?_⟩,mg_of KX G ?_,⟨?_⟩,mg_of KX G ?_,⟨?_⟩,mg_of KX G ?_,⟨?_⟩,mg_of KX G ?_,⟨?_⟩,mg_of KX G ?_,?_,?_,?_,?_,?_,?_,?_,?_,?_,?_,?_,?_,?_,?_,?_,?_,?_⟩⟩
   any_goals first|k_is|k_exc|rfl|kernel_rfl
  obtain⟨t,T⟩:=T
  have e0:=hmg.symm.trans T.lI.g
  cases e0
  refine' ⟨_,?b,fun base kb nb=>KT.ok_law T⟩
  exact T.bl
#print axioms PySem.Challenge.cw_tentloops_k68_great_numbers_written_holds
