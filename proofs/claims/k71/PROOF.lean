import PyProof.Rows.All
import Wide.All
import OpenK.AllK
import Wide.FinOn
import Lean
import PyProof.EqAt
import PyProof.EqKinds
import PyProof.TupleCall
import PySem.Challenge.RW_tentloops_k71_books_refused_by_deeds
set_option Elab.async false
set_option linter.all false
set_option autoImplicit true
set_option relaxedAutoImplicit true
set_option maxRecDepth 100000
open List
open Nat
universe u v
set_option hygiene false
set_option compiler.extract_closed false
set_option maxHeartbeats 4000000
local macro_rules|`((a:))=>`(FnOk P w K mg base (CXr P w))|`((b:))=>`(λ_ _ _ _ H vs Q E hr h=>?_)|`((c:))=>`(by decide)|`((d:))=>`(model X.prog X.w)|`((e:))=>`(⟨rfl,by decide +kernel,by decide +kernel,Z2 (by rfl),⟨⟨rfl,rfl,Or.inl rfl⟩,trivial⟩⟩)|`((f:))=>`((envOfC qual scope s.heap.objs.size f cd :: outer))|`((g:))=>`(Yd X (blkN ts fv) scope C s₀ H₀ ex)|`((h:))=>`(by decide +kernel)|`((i:))=>`(⟨rfl,by decide +kernel,by decide +kernel,Z2 (by rfl),trivial⟩)|`((j:))=>`(λ_ _=>rfl)|`((k:))=>`(.DictComp kx vx (⟨t0,i0,f0,0⟩ :: j6) scope pos)|`((l:))=>`(putF "names_at" (.ref N) (putF "cloths" (.ref D) []))|`((m:))=>`(forIn f0 true λc r=>if r=true then do let ok <- isTrue c env (eval c env); pure (ForInStep.yield ok) else pure (ForInStep.yield r))|`((n:))=>`(.ListComp m7 (⟨t0,i0,f0,0⟩ :: j6) scope pos)|`((o:))=>`(keys ns ns.length)|`((p:))=>`(Addr × Obj)|`((q:))=>`((∀ σ' H',N σ' H'->∃ m',m' < m/\W (i + 1) m' σ' H'))|`((r:))=>`(putF "cloths" (.ref D) [])|`((s:))=>`(λ_ _ _ z=>nomatch z)|`((t:))=>`(Builtin.Range.rangeFitsLong a && Builtin.Range.rangeFitsLong b && Builtin.Range.rangeFitsLong 1 && Builtin.Range.rangeFitsLong (-1) && Builtin.Range.rangeFitsLong (a - 1) && Builtin.Range.rangeFitsLong (Builtin.Range.rangeSize a b 1))|`((u:))=>`(⟨λi m σ H=>m=xs.length - i/\i<=xs.length/\Pv i σ H,⟨xs.length,by simp,Az _,h0⟩,?_⟩)|`((v:))=>`(cxOf (CXr P w) P w K mg base N qual (Zg st) f kj A outer s H E)|`((w:))=>`(Za (pv 0) Zb)|`((x:))=>`(.ref s.heap.objs.size)|`((y:))=>`(Za (pv 2) Zb)|`((z:))=>`(backTo pos (starEach es X.env))|`((A:))=>`(Za (pv 1) Zb)|`((B:))=>`(match ns[n]? with | some x=>if x∈keys ns n then keys ns n else keys ns n ++ [x] | none=>keys ns n)|`((C:))=>`(k == NameKind.free && env.scope.kind == .function && env.kindOf n == some .cell)|`((D:))=>`(λnx kc=>?_)|`((E:))=>`(putF "scene" (.ref sc) (putF "began" (.ref x) []))|`((F:))=>`(envOfC qual scope s.heap.objs.size f cd)|`((G:))=>`(⟨rfl,I.turned (t':=s.toks) (λb o hb e=>eb b o hb e) f0 f1 f3 f4 f5⟩)|`((H:))=>`(x == ("__debug__":Str))|`((I:))=>`((false,eval e X.env))|`((J:))=>`(.ListComp m7 [⟨t0,i0,f0,0⟩,⟨t1,i1,f1,0⟩] scope pos)|`((K:))=>`(λ_ _ _=>rfl)|`((L:))=>`(ns.map V.int)|`((M:))=>`(⟨⟨xs,xs[i],q,by simp [kn]⟩,Pv (i + 1),λσ' H' p'=>⟨xs.length - (i + 1),by lia,Y,kn,p'⟩,λx H' y=>?_⟩)|`((N:))=>`(λz=>nomatch z)|`((O:))=>`(PySem.W.fnOf x q (Xs st) (Yu st) (Zg st) .none kV k6 pm an kj ct)|`((P:))=>`(I7.pin (b,o) (mem_append_right _ (mem_append_right _ (Jj hb e))))|`((Q:))=>`(λ_ _ _ _=>Z6)|`((R:))=>`(putF "began" (.ref x) [])|`((S:))=>`(s.heap.objs.size + 1)|`((T:))=>`(Ye I q (by simp))|`((U:))=>`(blkN ts fv)|`((V:))=>`(.Call (.Name x p) (e :: es) [] pos)|`((W:))=>`(model P w)|`((X:))=>`(s1.heap.push { cls:=.type "range",data:=.fields #[.int i t,.int (i + n) t',.int 1 s1.toks] })|`((Y:))=>`(model prog w)|`((Z:))=>`(kg ns n ++ [j' ka,Yk,j' kh,d])|`((aa:))=>`(λ_=>(Zh (psN 1 Yw.nd Zj)))|`((ab:))=>`(λ_ _ _ _=>(pgN 0 nd2))|`((ac:))=>`(⟨none,Y,Same.new hD,Zc⟩)|`((ad:))=>`(wpAny_pure ?_)|`((ae:))=>`(.frz o (.dK kvs))|`((af:))=>`(A.deeper (envOfC qual (Zg st) s.heap.objs.size f kj))|`((ag:))=>`(⟨tt,Y,⟨_,SqT.of (sm _ _ (xw i tt ht))⟩,(On (xs:=row3 ns i) (λj σ H4=>∃ (v':Option V),σ=[oR tt,v']/\Same H2 H4/\H4 N=some (.lst ((ns.take (3 * i)).map V.int ++ (row3 ns i).take j))) ⟨v',Y,sm,by rw [h3,take_zero,append_nil]⟩ ?_ ?_ ?_)⟩)|`((ah:))=>`(((s.heap.push o1).push o2).push { cls:=.type "tuple",data:=.seq #[.ref s.heap.objs.size,.ref (s.heap.push o1).objs.size] })|`((ai:))=>`(hr.mono (c:))|`((aj:))=>`(⟨rfl,by decide +kernel,by decide +kernel,Z2 (by rfl),⟨⟨rfl,rfl,Or.inl rfl⟩,⟨rfl,rfl,Or.inl rfl⟩,trivial⟩⟩)|`((ak:))=>`(wpAny_pyIter_list pl.isList ⟨s.heap.objs.size,_,_,_,_,_,λi=>bs.getD i true,Y,Walks.list (A:=X.A.in1) (show X.A.in1.handled=none from I.ok.hd hc) s.heap.objs.size p ne its.toArray,⟨⟨_,Ap _ Y,Y,Y⟩,pl.isList.push _⟩,?_,?_⟩)|`((al:))=>`(cxOf (CXr P w) P w K mg base N qual scope f cd A outer s H E)|`((am:))=>`(wpAny_mono (wpAny_comprehension_free (use:=some (assign (.Name y py) X.env)) (Q:=λ_ s'=>SP X j4 D0 .next s') Y hs (Qt λy hy e=>I.ok.has y.1 (B.free y hy e)) B.kind B.names ?_) (λ_ s' hq=>wpAny_pure (wpAny_pure hq)) λ_ _ e=>e)|`((an:))=>`(Str.ofString " ")|`((ao:))=>`(show false=true from hs)|`((ap:))=>`(by with_unfolding_all rfl)|`((aq:))=>`(⟨kn,Pv (i + 1),λσ' H' p'=>⟨n - (i + 1),by lia,Y,kn,p'⟩,λx H' y=>?_⟩)|`((ar:))=>`((∀ b o,s.heap.get? b=some o->h'.get? b=some o))|`((as:))=>`(λz=>absurd (Ao e) (by rw [Af z]; exact Nat.lt_irrefl _))|`((au:))=>`(⟨o,e,λv z=>by rw [d] at z; cases z⟩)|`((av:))=>`(log2_lt (k:=14) (by show _ < 16384; lia) (c:))|`((aw:))=>`(λ_ _ _ _=>(pgN 0 (nd1 _)))|`((ax:))=>`(⟨e,T,cls,a0,σ2,H2,h1,h2.pins_of (λp hp=>absurd hp (by simp)),h3,h4.none,λt ht=>(h5 t ht).none,h7,h6⟩)|`((ay:))=>`(PySem.W.hideAll s'.heap ((e :: T.toList) ++ frs (f:)))|`((az:))=>`(λz=>hc (by simp [z]))|`((a0:))=>`(s.heap.push { cls:=.type "list",data:=.seq ([]:List Value).toArray })|`((a1:))=>`(if ([]:List Keyword).isEmpty then 0 else 1)|`((a2:))=>`(⟨λi m σ H=>m=n - i/\i<=n/\Pv i σ H,⟨n,by simp,Az _,h0⟩,?_⟩)|`((a3:))=>`(.lst (ts.map V.ref))|`((a4:))=>`(.lst (M.map mV))|`((a5:))=>`(wpAny_attempt (wpAny_callSpecial?_slot (name:=Str.ofString "__next__") hT PySem.F.slot_zip_next (wpAny_call_entry PySem.F.slot_zip_next hT PySem.F.entry_zip_next ?_ (PySem.F.args_zip_next_1 _))))|`((a6:))=>`(⟨λi m σ H=>m=kvs.length - i/\i<=kvs.length/\Pv i σ H,⟨kvs.length,by simp,Az _,h0⟩,?_⟩)|`((a7:))=>`(.tup [kV (Sum.inr kv.1),kv.2])|`((a8:))=>`(ha j4 s σ H _ I h)|`((a9:))=>`(wpAny_callSpecial?_slot (name:=Str.ofString "__next__") ox.typeIs slot_tupleiter_next (wpAny_call_entry slot_tupleiter_next ox.typeIs entry_tupleiter_next ?_ (args_tupleiter_next _)))|`((ba:))=>`(W4 PySem.F.plainAttrs_str PySem.F.slot_str_split PySem.F.type_str_split Om (pv 0) (Za Zj Zb))|`((bb:))=>`((λn s'=>∃ i σ' H',Inv X j4 σ' H' s'/\tn i s'.heap/\(∀ b∈fp,H' b=none)/\W i n σ' H'))|`((bc:))=>`(λcls _ H'=>E cls none H')|`((bd:))=>`(.lst (rowI ns.length λ_=>0))|`((be:))=>`((∀ (i j:Nat),M[i]?=some (some j)->M[j]?=some (some i)/\i≠j))|`((bf:))=>`(λr s'=>r=.ok (.ret (.bool true))/\OldK s₁.heap s'.heap/\s'.os=s₁.os/\AllBare s'.gens)|`((bg:))=>`(wpAny_attempt (wpAny_callSpecial?_slot (name:=Str.ofString "__next__") hTy PySem.F.sti_next (wpAny_call_entry PySem.F.sti_next hTy PySem.F.sti_entry ?_ (PySem.F.sti_args _))))|`((bh:))=>`(s.heap.push { cls:=.type "range",data:=.fields #[.int 0 t,.int (3 * n:Nat) u,.int 3 v] })|`((bi:))=>`(wpAny_attempt (wpAny_callSpecial?_slot (name:=Str.ofString "__next__") hT PySem.F.sti_next (wpAny_call_entry PySem.F.sti_next hT PySem.F.sti_entry ?_ (PySem.F.sti_args _))))|`((bj:))=>`(by show (0:Int) < 3; decide)|`((bk:))=>`(["self","place"])|`((bl:))=>`(Za Zj Zb)|`((bm:))=>`(upd H l1 (.lst (ka.map V.int)))|`((bn:))=>`(⟨m',hm,i + 1,σ7,H7,I7.unpinned,T.keep _ _ _ tz λb hb o e=>(P:).1,λb hb=>?_,w7⟩)|`((bo:))=>`([V.ref mo,V.ref le,V.ref mo,V.ref le])|`((bp:))=>`(.ins t.ah dy (X9 lq (.ref qj) (.ref ow) m9))|`((bq:))=>`(Za (Zt Yr (pv 3) Zd (j:)) (Za (Zt Yr (pv 3) Zd (j:)) Zb))|`((br:))=>`(A.under (.builtin "type.__call__" ⟨.ref C :: us,kw⟩))|`((bs:))=>`(.ins t.ah lf (X9 (.ref x) (.ref th) (.ref po) (.ref wo)))|`((bt:))=>`(upd H2 s2.heap.objs.size (.lst []))|`((bu:))=>`(backToKw kd (keywordEach [] X.env))|`((bv:))=>`(⟨λD σ H'=>t D (λcls _ vz=>E cls none vz) σ H',λj4 s' σ' H' D I hD=>?_,q⟩)|`((bw:))=>`(s.heap.push { cls:=.type "range",data:=.fields #[.int lo t,.int hi u,.int 1 v] })|`((bx:))=>`(keywordEach [] X.env)|`((bz:))=>`(EP X j4 σ Q)|`((b0:))=>`(pcT (J1 T) hr T.a8 (Za (pv 0) (Za Zd Zb)))|`((b1:))=>`(.ins t.aa dx (putF "spots" (.ref d) (l:)))|`((b2:))=>`(upd H2 s2.heap.objs.size (.dK []))|`((b3:))=>`(Zz (pv 0) rfl)|`((b4:))=>`((∀ c o,c≠z->c≠TO->c≠i1->c≠i2->s.heap.get? c=some o->h'.get? c=some o))|`((b5:))=>`(.dK (spk ns ns.length f))|`((b6:))=>`((s.heap.push o1).push o2)|`((b7:))=>`(.compLoop e d (.ref it) j8 X.env)|`((b8:))=>`(by rw [e]; exact True.intro)|`((b9:))=>`(Nat.lt_irrefl _)|`((ca:))=>`(((0:Nat):Int))|`((cb:))=>`((((M.map mV).length:Nat):Int))|`((cc:))=>`(if (ws.length:Int) > 1 then (ws.length:Int) else 1)|`((cd:))=>`([V.int 1,V.int 3,V.int 7,V.int 9,V.int 37,V.int 1009,V.int 3333,V.int 9999])|`((ce:))=>`(I.ok.hd hc)|`((cf:))=>`(upd (upd H1 q (.tup [.int i,.int x])) l (.lst []))|`((cg:))=>`(s.heap.push { cls:=.type "dict",data:=.dict #[] })|`((ch:))=>`(Zh (Zl (Yp (Za (pcT (Jx T) hr T.bb (y:)) (bl:)))))|`((ci:))=>`(λ_ _=>False)|`((cj:))=>`(he j4 s σ H _ I h)|`((ck:))=>`(Zx T.af (w:))|`((cl:))=>`(.ins C dx fs)|`((cm:))=>`(⟨⟨xs,ys,xs[i],ys[i],q1,q2,by simp [kn],by simp [yx]⟩,Pv (i + 1),λσ' H' p'=>⟨xs.length - (i + 1),by lia,Y,kn,p'⟩,λx H' y=>?_⟩)|`((cn:))=>`(⟨ok.mod,ok.kind,ok.glob,ok.blt,ok.above,ok.inj,ok.has,ok.cab,ok.hd,ok.frames,ok.stk,ok.exf,ok.bs,ok.bsz,ok.noex,ok.exfs,ok.funs,ok.frf⟩)|`((co:))=>`(ha pos j4 s σ H _ I h)|`((cp:))=>`(forIn ifs true λc r=>if r=true then do let ok <- isTrue c X.env (eval c X.env); pure (ForInStep.yield ok) else pure (ForInStep.yield r))|`((cq:))=>`((∀ x∈xs,0<=x/\x < 1009))|`((cr:))=>`((λi v=>∃ t,v=.int (out.getD i 0) t))|`((cs:))=>`(a == sysModules)|`((ct:))=>`([(Sum.inr "lay",.ref t.df),(Sum.inr "pour",.ref t.cA),(Sum.inr "lift",.ref t.cB),(Sum.inr "weigh",.ref t.bw),(Sum.inr "turn",.ref t.cC)])|`((cu:))=>`(s.heap.push PySem.W.emptyDict)|`((cv:))=>`(by rw [Ab]; exact Zo (by lia))|`((cw:))=>`(A2.cons rf0 (.cons (rf1 td) (.cons e2 (.cons rf3 (.cons (rf4 td) (.cons (rf5 td) (.cons e6 (.cons e7 (.cons e8 (.cons e9 eR))))))))))|`((cx:))=>`(PySem.W.fnOf x qual (Xs st) (Yu st) (Zg st) .none kV k6 pm an kj ct)|`((cy:))=>`(Ov hr xs.size 0 xs.size (by lia) (by lia) (by lia) (λi x h=>by lia) (λi x h hx=>by rw [Array.getElem?_eq_none h] at hx; cases hx))|`((cz:))=>`((M.set one (some other)).set other (some one))|`((c0:))=>`(Za (Zt Zv (pv 0) Zd (j:)) Zb)|`((c1:))=>`(s1.heap.push { cls:=.type "dict_values",data:=.fields #[.ref a] })|`((c2:))=>`(.tup [kV (Sum.inl y),V.ref (ad y)])|`((c3:))=>`(.lst [.str a,.str b,.str c,.str d])|`((c4:))=>`(["enumerate","zip","dict_itemiterator","dict_reverseitemiterator","odict_iterator","itertools.zip_longest","itertools.pairwise"])|`((c5:))=>`(s1.heap.push { cls:=.type "dict_items",data:=.fields #[.ref a] })|`((c6:))=>`(x ∉ keys ns ns.length->E (.ref ES) none H)|`((c7:))=>`(hi j4 s σ H _ I h)|`((c8:))=>`(PySem.W.hideAll s'.heap ([e,T] ++ frs (f:)))|`((c9:))=>`((its.toArray.size:Int))|`((da:))=>`(codeAny_mono (F.run X.A X.stack s H ⟨us,[]⟩ (us ++ ds) (vs ++ k7) Q E hr I.env0 (hb s us I.kIn hl) r2 h) λr s' hq=>?_)|`((db:))=>`(Zt Zv (pv 1) Zd (j:))|`((dc:))=>`(.lst (out.map V.int))|`((dd:))=>`(⟨λi H=>i < kvs.length/\H d=some (ae:),λi H x H'=>H'=H/\∃ k,kvs[i]?=some (k,x),λi H=>kvs.length<=i/\H d=some (ae:)⟩)|`((de:))=>`((∃ m,W 0 m σ H))|`((df:))=>`((∀ x c,X.env.cells.lookup x=some c->c≠b))|`((dg:))=>`(Int × Value)|`((dh:))=>`(.Call (.Attribute o m kf) (e :: es) [] pos)|`((di:))=>`((List.range i).map λi=>nm st sp (rep M i))|`((dj:))=>`(⟨f0,As (Ao eo),I4.ok.exfs b hb,.inl hb,(I4.ok.exf b hb).2,λp hp=>absurd (show p∈([]:List (p:)) from hp) (by simp)⟩)|`((dk:))=>`(.lst (F'.map λ(i:Nat)=>V.int i))|`((dl:))=>`(!t.plain && decide (es.size > 1))|`((dm:))=>`(names.map λ(n,k)=>if (C:) then (n,NameKind.cell) else (n,k))|`((dn:))=>`(Zs Yf (pv 2) Zj (Zn _))|`((dp:))=>`(⟨e,T',cls,a0,H',Y,I.os,I.bare,?_,λb u hu=>?_,fe.n0,hT'.1,fe.nt,hT'.2,⟨oe,vs,oT,ts,x1,x2,x3,x4,x6,x7,x8,x9⟩,q⟩)|`((dq:))=>`(assignEach es X.env)|`((dr:))=>`(Str.ofString "\n")|`((ds:))=>`(["self","tent","threads","pools","worths"])|`((dt:))=>`(Moved.trans W.gtrans ((hm.mono mn).then_heap (le_succ _) λb o hb e=>ot b o (λz=>hb (z ▸ mem_cons_self)) e) hm3)|`((du:))=>`(Xy be sc st un)|`((dv:))=>`((Sum.inl x:Key))|`((dw:))=>`(Str.ofString (toString i))|`((dx:))=>`(List.map V.str (kg ns n ++ [j' ka,Yk,j' kh]) ++ [V.str d])|`((dy:))=>`(Heap.get?_update_other _ _ (Ne.symm hb))|`((dz:))=>`(λ_ _ _ _ _ _=>Yb (pv 0))|`((d0:))=>`(upIt a (Builtin.Range.rangeSize a b 1))|`((d1:))=>`((C ++ D).map V.str)|`((d2:))=>`(λ_ z=>nomatch z)|`((d3:))=>`(backTo kd (starEach es X.env))|`((d4:))=>`(⟨λb o e n hb hx=>?_,λb o e n hb hx=>?_,I.base.free,λb o e hx=>?_,I.base.tups,I.base.frzs,I.base.tbls⟩)|`((d5:))=>`(PyProof.Rows.callWith_type1 (thn (co:) λus s1 ⟨vs,H1,I1,r1,q1⟩=>?_) (by rw [hs,qo]) (by rw [qo]; rfl))|`((d6:))=>`(["_law_mates","_law_rows_here","_law_counts","_law_way"])|`((d7:))=>`(wpAny_newObj_type (wpAny_pure ⟨_,Y,"set_iterator",_,⟨_,Ap _ rfl,rfl⟩,PySem.F.sti_next.lookup,?_⟩))|`((d8:))=>`([(Sum.inr x1,.ref y1),(Sum.inr x2,.ref y2),(Sum.inr x3,.ref y3),(Sum.inr x4,.ref y4),(Sum.inr x5,.ref y5)])|`((d9:))=>`(Ys Ws (by rfl) T.gB PySem.Pv.boot_str (Za (Zi Qz (Zi Yi (Zx T.af (Za (pv 5) Zb)) Zd) (Zx T.af (y:))) Zb))|`((ea:))=>`([Str.ofString "lay z " ++ far])|`((eb:))=>`(["_law_mates","_law_rows_here","_law_word","_law_pick"])|`((ec:))=>`(wpAny_rule (Al (wpAny_field hz Y (x:=.ref TO) Y (Al (wpAny_setField_rec hz (by simp) λg1 q1 b1=>?_)))))|`((ed:))=>`(if w.params.followText "set-order"=true then _ else _)|`((ee:))=>`(cxOf CX P w K mg base N qual scope f kj A outer s H E)|`((ef:))=>`(by dsimp only [verb]; decide)|`((eg:))=>`(.dK (dI ks g))|`((eh:))=>`(⟨#[],by rw [Ze (Zk q hn),q]; simp⟩)|`((ei:))=>`(Zx T.af (y:))|`((ej:))=>`(.tup [V.int (uy a b i:Nat),V.ref fa])|`((ek:))=>`((λi σ H3=>∃ (v v':Option V),σ=[v,v']/\Same H2 H3/\H3 N=some (.lst ((ns.take (3 * i)).map V.int))))|`((el:))=>`([kr sd 1,kr sd 2])|`((em:))=>`(map_eq_nil_iff.mp z)|`((en:))=>`(intKind P w)|`((eo:))=>`(I1.hok.fresh (An _))|`((ep:))=>`(.lst (xs.map V.int))|`((eq:))=>`(.lst (wl.map V.str))|`((er:))=>`(.Call (.Attribute o m kf) [] [] pos)|`((es:))=>`(⟨.inl ⟨Y,_,SqL.of ph⟩,.inl (G6 mz),(by show (0:Int) < 10000; decide),f,_,_,rfl,rfl,ph,j7,?_⟩)|`((et:))=>`(⟨(szR Y),λq hq=>?_⟩)|`((eu:))=>`(["tent","counts","seam"])|`((ev:))=>`(newFunctionEnv scope X.env.globals (Y7 X.env scope.names []) [] X.env.qual none .none (some X.env))
abbrev Lq:=List (Option Nat)
theorem Y{α:Sort v}{a:α}:a=a:=rfl
def An(n:Nat):n<=n:=Nat.le_refl n
def Ao{h:PySem.Heap}{a:PySem.Addr}{o:PySem.Obj}:h.get? a=some o->a<h.objs.size:=PySem.Heap.lt_size
def Ap(h:PySem.Heap){o:PySem.Obj}:o.isFreed=false->(h.push o).get? h.objs.size=some o:=PySem.Heap.get?_push_size h
def Aq{α:Type u}{a:List α}:a.toArray.size=a.length:=size_toArray
def Ar{α:Type u}{b:α}{l:List α}{a:α}:a∈b::l->a=b\/a∈l:=mem_cons.mp
def As{a b:Nat}:a<b->a≠b:=ne_of_lt
def At{α:Type u}{a:α}:[a].length=1:=length_singleton
def Au{α:Type u}{l:List α}{i:Nat}{a:α}:l[i]?=some a->a∈l:=mem_of_getElem?
def Av{α:Type u}{l k:List α}{i:Nat}:i<l.length->(l++k)[i]?=l[i]?:=getElem?_append_left
def Aw{α:Type u}{l:List α}{i:Nat}:l.take (i+1)=l.take i++l[i]?.toList:=take_add_one
def Ax{α:Type u}{a b:α}:some a=some b->a=b:=Option.some.inj
def Ay{α:Type u}{l:List α}{i:Nat}:l.length<=i->l[i]?=none:=getElem?_eq_none
def Az(n:Nat):0<=n:=zero_le n
def Aa{α:Type u}{i:Nat}{a:α}{l:List α}:l[i]?=some a->∃ h:i<l.length,l[i]=a:=List.getElem?_eq_some_iff.mp
def Ab{α:Type u}{β:Type v}{as:List α}(f:α->β):(as.map f).length=as.length:=length_map f
def Ac{α:Type u}{l:List α}{i:Nat}(h:i<l.length):l[i]?=some l[i]:=getElem?_eq_getElem h
def Ad{α:Type u}{l:List α}{i:Nat}{a:α}:l.getD i a=l[i]?.getD a:=getD_eq_getElem?_getD
def Ae{α:Type u}{as bs:List α}:(as++bs).length=as.length+bs.length:=length_append
def Af{α:Type u}{a b:α}:a∈[b]->a=b:=mem_singleton.mp
def Ag{n m k:Nat}:n<m->m<=k->n<k:=Nat.lt_of_lt_of_le
def Ah{α:Type u}{β:Type v}{f:α->β}{l:List α}{i:Nat}:(l.map f)[i]?=(l[i]?).map f:=getElem?_map
def Ai{α:Type u}{i:Nat}{l:List α}:(l.take i).length=min i l.length:=length_take
def Aj{α:Type u}{β:Type v}{f:α->β}{l₁ l₂:List α}:(l₁++l₂).map f=l₁.map f++l₂.map f:=map_append
def Ak{h:PySem.Heap}{a:PySem.Addr}{o':PySem.Obj}(o:PySem.Obj)(e:h.get? a=some o'):(h.push o).get? a=some o':=PySem.Heap.get?_push_of_some o e
def Al{α β:Type}{M:PySem.Model}{A:PySem.Around}{E:PySem.Value->PySem.Shared->Prop}{s:PySem.Shared}{m:PySem.Sem α}{f:α->PySem.Sem β}{Q:β->PySem.Shared->Prop}(h:PySem.wpAny M A m (λa s'=>PySem.wpAny M A (f a) Q E s') E s):PySem.wpAny M A (m>>=f) Q E s:=PySem.wpAny_bind h
namespace KX
set_option genSizeOf false
set_option genInjectivity false
variable{A B C D F G H I J K L M N O Q R S:Type}
inductive E2(P:A->B->Prop):Prop|mk (a b)(_:P a b):E2 P
inductive E3(P:A->B->C->Prop):Prop|mk (a b c)(_:P a b c):E3 P
inductive E4(P:A->B->C->D->Prop):Prop|mk (a b c d)(_:P a b c d):E4 P
inductive E5(P:A->B->C->D->F->Prop):Prop|mk (a b c d e)(_:P a b c d e):E5 P
inductive E6(P:A->B->C->D->F->G->Prop):Prop|mk (a b c d e f)(_:P a b c d e f):E6 P
inductive E7(P:A->B->C->D->F->G->H->Prop):Prop|mk (a b c d e f g)(_:P a b c d e f g):E7 P
inductive E8(P:A->B->C->D->F->G->H->I->Prop):Prop|mk (a b c d e f g h)(_:P a b c d e f g h):E8 P
inductive E9(P:A->B->C->D->F->G->H->I->J->Prop):Prop|mk (a b c d e f g h i)(_:P a b c d e f g h i):E9 P
inductive E10(P:A->B->C->D->F->G->H->I->J->K->Prop):Prop|mk (a b c d e f g h i j)(_:P a b c d e f g h i j):E10 P
inductive E11(P:A->B->C->D->F->G->H->I->J->K->L->Prop):Prop|mk (a b c d e f g h i j k)(_:P a b c d e f g h i j k):E11 P
inductive E12(P:A->B->C->D->F->G->H->I->J->K->L->M->Prop):Prop|mk (a b c d e f g h i j k l)(_:P a b c d e f g h i j k l):E12 P
inductive E17(P:A->B->C->D->F->G->H->I->J->K->L->M->N->O->Q->R->S->Prop):Prop|mk (a b c d e f g h i j k l m n o p q)(_:P a b c d e f g h i j k l m n o p q):E17 P
inductive A3(a b c:Prop):Prop|mk:a->b->c->A3 a b c
inductive A4(a b c d:Prop):Prop|mk:a->b->c->d->A4 a b c d
inductive A5(a b c d e:Prop):Prop|mk:a->b->c->d->e->A5 a b c d e
inductive A6(a b c d e f:Prop):Prop|mk:a->b->c->d->e->f->A6 a b c d e f
inductive A7(a b c d e f g:Prop):Prop|mk:a->b->c->d->e->f->g->A7 a b c d e f g
inductive A8(a b c d e f g h:Prop):Prop|mk:a->b->c->d->e->f->g->h->A8 a b c d e f g h
inductive A9(a b c d e f g h i:Prop):Prop|mk:a->b->c->d->e->f->g->h->i->A9 a b c d e f g h i
inductive A10(a b c d e f g h i j:Prop):Prop|mk:a->b->c->d->e->f->g->h->i->j->A10 a b c d e f g h i j
inductive A11(a b c d e f g h i j k:Prop):Prop|mk:a->b->c->d->e->f->g->h->i->j->k->A11 a b c d e f g h i j k
inductive A12(a b c d e f g h i j k l:Prop):Prop|mk:a->b->c->d->e->f->g->h->i->j->k->l->A12 a b c d e f g h i j k l
inductive A13(a b c d e f g h i j k l m:Prop):Prop|mk:a->b->c->d->e->f->g->h->i->j->k->l->m->A13 a b c d e f g h i j k l m
open Lean in
def ex(xs:Syntax)(b:Term):MacroM Term:=do
 let x:=xs[0]
 let bs:Array (Syntax×Option Syntax):=if x.getKind==``Lean.unbracketedExplicitBinders then x[0].getArgs.map λi=>(i,if x[1].isNone then none else some x[1][1]) else x.getArgs.foldl (λa y=>a++y[1].getArgs.map λi=>(i,some y[3])) #[]
 if bs.size<2 then Macro.throwUnsupported
 let mut c:Array Term:=#[]
 let mut t:Term:=b
 for _ in [:23] do
  match t with
  |`($p/\$q)=>c:=c.push p;t:=q
  |_=>break
 c:=c.push t
 let mut e:Term:=b
 if c.size≥3 then e:=Syntax.mkApp (mkIdent (.mkStr `_root_.KX s!"A{c.size}")) c
 for (i,y) in bs.reverse do
  let i:Term:=⟨if i[0].isIdent then i[0] else mkIdent `_x⟩
  e←match y with
   |none=>`(fun $i=>$e)
   |some y=>`(fun ($i : $(⟨y⟩))=>$e)
 return Syntax.mkApp (mkIdent (.mkStr `_root_.KX s!"E{bs.size}")) #[e]
end KX
local macro_rules|`(∃ $xs:explicitBinders,$b)=>KX.ex xs b
set_option maxHeartbeats 4000000
namespace L2
open PySem PySem.Spec PyProof.Rows
abbrev Key:=Sum Int Str
noncomputable def Oo:Key->Value->Bool
 | .inl k,v=>Value.isInt k v
 | .inr x,v=>Value.isStrOf x v
noncomputable def keyH (w:World):Key->Int
 | .inl k=>hashInt k
 | .inr x=>hashStr w x
theorem Xn:∀ {k:Key} {v:Value},Oo k v=true->(∃ i t,k=Sum.inl i/\v=Value.int i t)\/(∃ x t,k=Sum.inr x/\v=Value.str x t)
 | .inl i,v,h=>by
  obtain ⟨t,e⟩:=Value.isInt_shape (k:=i) (v:=v) h;exact .inl ⟨i,t,Y,e⟩
 | .inr x,v,h=>by
  obtain ⟨t,e⟩:=Value.isStrOf_shape (x:=x) (v:=v) h;exact .inr ⟨x,t,Y,e⟩
def Zmj (i:Int) (t:Tok):Oo (.inl i) (.int i t)=true:=by simp [Oo,Value.isInt]
def Y0 (x:Str) (t:Tok):Oo (.inr x) (.str x t)=true:=by simp [Oo,Value.isStrOf]
def Zsq (a b:Int):decide ((Sum.inl a:Key)=Sum.inl b)=(a == b):=by
 by_cases e:a=b
 ·subst e; simp
 ·have h:¬ (Sum.inl a:Key)=Sum.inl b:=λq=>e (Sum.inl.inj q)
  rw [decide_eq_false h];exact (beq_eq_false_iff_ne.mpr e).symm
def Zsn (a b:Str):decide ((Sum.inr a:Key)=Sum.inr b)=decide (a=b):=by
 by_cases e:a=b
 ·subst e; simp
 ·have h:¬ (Sum.inr a:Key)=Sum.inr b:=λq=>e (Sum.inr.inj q)
  rw [decide_eq_false h,decide_eq_false e]
def Zsp (a:Int) (b:Str):decide ((Sum.inl a:Key)=Sum.inr b)=false:=decide_eq_false (λq=>nomatch q)
def Zso (a:Str) (b:Int):decide ((Sum.inr a:Key)=Sum.inl b)=false:=decide_eq_false (λq=>nomatch q)
noncomputable def Ya (prog:Program) (w:World):PySem.KeyKind prog w Key where
 is:=Oo
 hash:=keyH w
 inj:=λv a b ha hb=>by
  rcases Xn ha with ⟨i,t,rfl,rfl⟩ | ⟨x,t,rfl,rfl⟩
  ·rcases Xn hb with ⟨j,u,rfl,e⟩ | ⟨y,u,rfl,e⟩
   ·injection e with e1 _; rw [e1]
   ·exact nomatch e
  ·rcases Xn hb with ⟨j,u,rfl,e⟩ | ⟨y,u,rfl,e⟩
   ·exact nomatch e
   ·injection e with e1 _; rw [e1]
 byValue:=λk v h=>by
  rcases Xn h with ⟨i,t,rfl,rfl⟩ | ⟨x,t,rfl,rfl⟩ <;> rfl
 pyHash:=λhv h=>by
  rcases Xn hv with ⟨i,t,rfl,rfl⟩ | ⟨x,t,rfl,rfl⟩
  ·exact wpAny_pyHash_int h
  ·exact wpAny_pyHash_str h
 eqBool:=λhu hv h=>by
  rcases Xn hu with ⟨i,t,rfl,rfl⟩ | ⟨x,t,rfl,rfl⟩
  ·rcases Xn hv with ⟨j,u,rfl,rfl⟩ | ⟨y,u,rfl,rfl⟩
   ·rw [Zsq] at h; exact wpAny_eqBool_int h
   ·rw [Zsp] at h; exact SeqAt.EqAt.int_str i t y u _ _ _ _ h
  ·rcases Xn hv with ⟨j,u,rfl,rfl⟩ | ⟨y,u,rfl,rfl⟩
   ·rw [Zso] at h; exact SeqAt.EqAt.str_int x t j u _ _ _ _ h
   ·rw [Zsn] at h; exact wpAny_eqBool_str h
 «strs»:=λk x t v h=>by
  rcases Xn h with ⟨i,u,rfl,e⟩ | ⟨y,u,rfl,e⟩
  ·exact nomatch e
  ·injection e with e1 _
   subst e1;cases v <;> rfl
def Zhx (prog:Program) (w:World) (i:Int) (t:Tok):(Ya prog w).is (.inl i) (.int i t)=true:=Zmj i t
def Zhw (prog:Program) (w:World) (x:Str) (t:Tok):(Ya prog w).is (.inr x) (.str x t)=true:=Y0 x t
inductive V where
 | non | bl (b:Bool) | int (i:Int) | str (x:Str) | byt (b:Array UInt8) | flt (b:UInt64) | ref (a:Addr) | ty (n:String)
 deriving DecidableEq
set_option genInjectivity false
set_option genSizeOf false
def RelV:V->Value->Prop
 | .non,u=>u=Value.none
 | .bl b,u=>u=Value.bool b
 | .int i,u=>∃ t,u=Value.int i t
 | .str x,u=>∃ t,u=Value.str x t
 | .byt b,u=>∃ t,u=Value.bytes b t
 | .flt b,u=>∃ t,u=Value.float b t
 | .ref a,u=>u=Value.ref a
 | .ty n,u=>u=Value.type n
abbrev Vals:List V->List Value->Prop:=Paired RelV
def Vals.length {xs:List V} {us:List Value} (r:Vals xs us):xs.length=us.length:=Paired.length r
theorem Vals.get:∀ {xs:List V} {us:List Value} {i:Nat} {x:V},Vals xs us->xs[i]?=some x->∃ u,us[i]?=some u/\RelV x u
 | _,_,_,_,.nil,e=>by simp at e
 | _,_,0,_,.cons r _,e=>by simp at e; subst e; exact ⟨_,Y,r⟩
 | _,_,i + 1,x,.cons _ t,e=>by
  obtain ⟨u,h1,h2⟩:=Vals.get (i:=i) (x:=x) t (by simpa using e);exact ⟨u,by simpa using h1,h2⟩
theorem Vals.set (r:RelV x u):∀ {xs:List V} {us:List Value} (i:Nat),Vals xs us->Vals (xs.set i x) (us.set i u)
 | _,_,_,.nil=>.nil
 | _,_,0,.cons _ t=>.cons r t
 | _,_,i + 1,.cons q t=>.cons q (Vals.set r i t)
theorem Vals.append:∀ {xs ys:List V} {us ws:List Value},Vals xs us->Vals ys ws->Vals (xs ++ ys) (us ++ ws)
 | _,_,_,_,.nil,s=>s
 | _,_,_,_,.cons r t,s=>.cons r (Vals.append t s)
theorem Vals.take:∀ {xs:List V} {us:List Value} (n:Nat),Vals xs us->Vals (xs.take n) (us.take n)
 | _,_,0,_=>.nil
 | _,_,_ + 1,.nil=>.nil
 | _,_,n + 1,.cons r t=>.cons r (Vals.take n t)
theorem Vals.drop:∀ {xs:List V} {us:List Value} (n:Nat),Vals xs us->Vals (xs.drop n) (us.drop n)
 | _,_,0,r=>r
 | _,_,_ + 1,.nil=>.nil
 | _,_,n + 1,.cons _ t=>Vals.drop n t
def RelO:Option V->Option Value->Prop
 | some v,some u=>RelV v u
 | none,none=>True
 | _,_=>False
def KV {κ:Type}:List (κ × V)->List (κ × Value)->Prop:=Paired λ(p:κ × V) (q:κ × Value)=>p.1=q.1/\RelV p.2 q.2
noncomputable def kV:Key->V
 | .inl i=>.int i
 | .inr x=>.str x
inductive HO where
 /-- a list -/
 | lst (xs:List V)
 /-- a tuple (never changes) -/
 | tup (xs:List V)
 /-- a dict whose keys are ints and texts; one whose keys are tuples of ints and texts (the empty one is both) -/
 | dK (kvs:List (Key × V)) | dT (kvs:List (List Key × V))
 /-- a set of ints: its members,its size -/
 | set (S:Int->Bool) (n:Nat)
 /-- an instance of the class at C,its dict at dx,its attributes -/
 | ins (C dx:Addr) (fs:List (Str × V))
 /-- the dict of the instance at x -/
 | own (x:Addr)
 /-- the dict of an exception -/
 | xd (fs:List (Str × V))
 /-- a bound method,f of x -/
 | met (f x:Addr)
 /-- a range object lo,lo + 1,.. below hi -/
 | rng (lo hi:Int)
 /-- a thing that is known to the object (the script; a dict while a loop walks it): read,never written while it is so -/
 | frz (o:Obj) (u:HO)
 /-- a code object's table -/
 | tbl (ps:Array Value)
 /-- any other thing,by what is true of its one object (a def of one's own: SetO a S n:=HO.ext λh=>..) -/
 | ext (φ:Heap->Prop)
abbrev Hp:=Addr->Option HO
noncomputable def upd (H:Hp) (a:Addr) (o:HO):Hp:=λb=>if b=a then some o else H b
def Zc:upd H a o a=some o:=by unfold upd; rw [if_pos rfl]
def Ze (h:b≠a):upd H a o b=H b:=by unfold upd; rw [if_neg h]
def Ztu {H:Hp} (h:H a=some o) (h':H b=some u) (d:o≠u):a≠b:=by
 intro e; subst e; rw [h] at h'; exact d (Ax h')
def Zk {H:Hp} (h:H a=some o) (h':H b=none):a≠b:=by
 intro e; subst e; rw [h] at h'; cases h'
section
variable (P:Program) (w:World)
def Yl (H:Hp) (h:Heap) (a:Addr):HO->Prop
 | .lst xs=>xs.length<=sizeLine/\∃ (its:List Value) (n:Nat),Vals xs its/\h.get? a=some { cls:=.type "list",data:=.seq its.toArray n }
 | .tup xs=>xs.length<=sizeLine/\∃ its:List Value,Vals xs its/\IsTup h a its.toArray
 | .dK kvs=>kvs.length<=sizeLine/\(cs:)=false/\∃ vs,KV kvs vs/\h.DictOf (Ya P w) a vs
 | .dT kvs=>kvs.length<=sizeLine/\(cs:)=false/\∃ xs:List (List Key × Addr × Value),
   Paired (λ(p:List Key × V) (q:List Key × Addr × Value)=>p.1=q.1/\H q.2.1=some (.tup (p.1.map kV))/\RelV p.2 q.2.2) kvs xs /\
   ∃ o es ep,h.get? a=some o/\o.ExactDict/\o.data=.dict es ep/\es.toList=xs.map (entryOfKey (tupleKind (Ya P w)))/\(xs.map (·.1)).Nodup
 | .set S n=>h.SetOf (en:) a S n
 | .ins C dx fs=>H dx=some (.own a)/\fs.length<=1000/\dx≠a/\h.get? a=some (PySem.W.instObj C dx) /\
   ∃ mA,h.Ns1 dx mA/\(∀ f,RelO (fs.lookup f) (mA f))/\PySem.Within mA (fs.map (·.1))
 | .own _=>∃ o,h.get? a=some o
 | .xd fs=>∃ mA,h.Ns1 a mA/\∀ f,RelO (fs.lookup f) (mA f)
 | .rng lo hi=>∃ t u v,h.get? a=some { cls:=.type "range",data:=.fields #[.int lo t,.int hi u,.int 1 v] }
 | .frz o u=>h.get? a=some o/\Yl H h a u
 | .tbl ps=>h.get? a=some { cls:=.none,data:=.fields ps }
 | .met f x=>h.get? a=some (PySem.W.methodObj (.ref f) (.ref x))
 | .ext φ=>φ h/\(∃ o,h.get? a=some o)/\∀ h1 h2:Heap,φ h1->(∀ o,h1.get? a=some o->h2.get? a=some o)->φ h2
def HOk (H:Hp) (h:Heap):Prop:=∀ a o,H a=some o->Yl P w H h a o
end
section
variable {P:Program} {w:World} {H H':Hp} {h h':Heap} {a:Addr} {o:HO}
def Yl.lt (x:Yl P w H h a o):a < h.objs.size:=by
 cases o with
 | lst xs=>obtain ⟨_,_,_,_,e⟩:=x; exact Ao e
 | tup xs=>obtain ⟨_,_,_,p⟩:=x; exact p.lt
 | dK kvs=>obtain ⟨_,_,_,_,o,_,_,e,_⟩:=x; exact Ao e
 | dT kvs=>obtain ⟨_,_,_,_,o,_,_,e,_⟩:=x; exact Ao e
 | set S n=>obtain ⟨o,_,_,_,e,_⟩:=x; exact Ao e
 | ins C dx fs=>obtain ⟨_,_,_,e,_⟩:=x; exact Ao e
 | own y=>obtain ⟨_,e⟩:=x; exact Ao e
 | xd fs=>obtain ⟨_,⟨_,_,_,e,_⟩,_⟩:=x; exact Ao e
 | rng lo hi=>obtain ⟨_,_,_,e⟩:=x; exact Ao e
 | frz ob u=>obtain ⟨e,_⟩:=x; exact Ao e
 | tbl ps=>exact Ao (show h.get? a=some _ from x)
 | met f y=>exact Ao (show h.get? a=some _ from x)
 | ext φ=>obtain ⟨_,⟨_,e⟩,_⟩:=x; exact Ao e
theorem Paired.mapP {α β:Type} {F G:α->β->Prop}:∀ {l₁:List α} {l₂:List β},Paired F l₁ l₂->(∀ a b,F a b->G a b)->Paired G l₁ l₂
 | _,_,.nil,_=>.nil
 | _,_,.cons r t,f=>.cons (f _ _ r) (Paired.mapP t f)
def Yl.stay (x:Yl P w H h a o) (k:∀ b u,(b=a\/H b=some (.own a))->h.get? b=some u->h'.get? b=some u)
  (ho:∀ b,H b=some (.own a)->H' b=some (.own a)) (ht:∀ b xs,H b=some (.tup xs)->H' b=some (.tup xs)):Yl P w H' h' a o:=by
 induction o with
 | lst xs=>obtain ⟨z,its,n,r,e⟩:=x; exact ⟨z,its,n,r,k _ _ (.inl Y) e⟩
 | tup xs=>obtain ⟨z,its,r,ob,e,c⟩:=x; exact ⟨z,its,r,ob,k _ _ (.inl Y) e,c⟩
 | dK kvs=>obtain ⟨z,y,vs,r,ob,es,ep,e,c⟩:=x; exact ⟨z,y,vs,r,ob,es,ep,k _ _ (.inl Y) e,c⟩
 | dT kvs =>
  obtain ⟨z,y,xs,r,ob,es,ep,e,c,c1,c2,c3⟩:=x;exact ⟨z,y,xs,Paired.mapP r λp q z=>⟨z.1,ht _ _ z.2.1,z.2.2⟩,ob,es,ep,k _ _ (.inl Y) e,c,c1,c2,c3⟩
 | set S n=>obtain ⟨ob,es,ep,t,e,c⟩:=x; exact ⟨ob,es,ep,t,k _ _ (.inl Y) e,c⟩
 | ins C dx fs =>
  obtain ⟨d,z,ne,e,mA,⟨od,es,ep,e2,c⟩,r⟩:=x;exact ⟨ho _ d,z,ne,k _ _ (.inl Y) e,mA,⟨od,es,ep,k _ _ (.inr d) e2,c⟩,r⟩
 | own y=>obtain ⟨ob,e⟩:=x; exact ⟨ob,k _ _ (.inl Y) e⟩
 | xd fs=>obtain ⟨mA,⟨od,es,ep,e,c⟩,r⟩:=x; exact ⟨mA,⟨od,es,ep,k _ _ (.inl Y) e,c⟩,r⟩
 | rng lo hi=>obtain ⟨t,u,v,e⟩:=x; exact ⟨t,u,v,k _ _ (.inl Y) e⟩
 | frz ob u ih=>obtain ⟨e,q⟩:=x; exact ⟨k _ _ (.inl Y) e,ih q⟩
 | tbl ps =>
  have e:h.get? a=some { cls:=.none,data:=.fields ps }:=x;show h'.get? a=some { cls:=.none,data:=.fields ps };exact k a _ (.inl Y) e
 | met f y =>
  have e:h.get? a=some (PySem.W.methodObj (.ref f) (.ref y)):=x;show h'.get? a=some (PySem.W.methodObj (.ref f) (.ref y));exact k a _ (.inl Y) e
 | ext φ=>obtain ⟨p,⟨o,e⟩,st⟩:=x; exact ⟨st _ _ p λo q=>k _ _ (.inl Y) q,⟨o,k _ _ (.inl Y) e⟩,st⟩
def HOk.lt (x:HOk P w H h) (e:H a=some o):a < h.objs.size:=(x a o e).lt
def HOk.fresh (x:HOk P w H h) (e:h.objs.size<=a):H a=none:=by
 cases q:H a with
 | none=>rfl
 | some u=>exact absurd (Ag (x.lt q) e) (b9:)
def HOk.kept (x:HOk P w H h) (k:∀ b u,h.get? b=some u->h'.get? b=some u):HOk P w H h':=λa o e =>
 (x a o e).stay (λb u _ q=>k b u q) (λ_ q=>q) λ_ _ q=>q
def HOk.laid (x:HOk P w H h) (k:∀ b u,h.get? b=some u->h'.get? b=some u) (hp:h.objs.size<=a) (new:Yl P w (upd H a o) h' a o):HOk P w (upd H a o) h':=λb u e=>by
 have hn:=x.fresh hp;by_cases hb:b=a
 ·subst hb; rw [Zc] at e; cases e; exact new
 ·rw [Ze hb] at e
  exact (x b u e).stay (λc v _ q=>k c v q) (λc q=>by rw [Ze (Zk q hn)]; exact q) λc xs q=>by rw [Ze (Zk q hn)]; exact q
end
def Rd (H:Hp) (a:Addr) (u:HO):Prop:=H a=some u\/∃ o,H a=some (.frz o u)
def Rd.ok {P:Program} {w:World} {H:Hp} {h:Heap} {a:Addr} {u:HO} (r:Rd H a u) (x:HOk P w H h):Yl P w H h a u:=by
 rcases r with r | ⟨o,r⟩
 ·exact x a u r
 ·obtain ⟨_,q⟩:=x a _ r
  exact q
def Mut:Option HO->Prop
 | some (.lst _)=>True
 | some (.dK _)=>True
 | some (.dT _)=>True
 | some (.set _ _)=>True
 | some (.ins _ _ _)=>True
 | some (.ext _)=>True
 | _=>False
section
variable {P:Program} {w:World} {H:Hp} {h h':Heap} {x e:Addr} {o':HO}
def HOk.write (ok:HOk P w H h) (mu:Mut (H x)) (he:e=x\/H e=some (.own x)) (k:∀ b u,b≠e->h.get? b=some u->h'.get? b=some u) (heo:∃ u,h'.get? e=some u)
  (new:Yl P w (upd H x o') h' x o'):HOk P w (upd H x o') h':=λb u q=>by
 have r9:∀ c y,H c=some (.own y)->c≠x:=λc y r z=>by subst z; rw [r] at mu; exact mu
 have qg:∀ c xs,H c=some (.tup xs)->c≠x:=λc xs r z=>by subst z; rw [r] at mu; exact mu
 by_cases hb:b=x
 ·subst hb; rw [Zc] at q; cases q; exact new
 ·rw [Ze hb] at q
  by_cases yj:b=e
  ·have q':H b=some (.own x):=by
    rcases he with z | z
    ·exact absurd (yj.trans z) hb
    ·rw [yj]; exact z
   rw [q] at q'; cases q';obtain ⟨v,hv⟩:=heo;exact ⟨v,by rw [yj]; exact hv⟩
  ·refine (ok b u q).stay (λc v hc r=>k c v ?_ r) (λc r=>by rw [Ze (r9 c b r)]; exact r) λc xs r=>by rw [Ze (qg c xs r)]; exact r
   rcases hc with rfl | hc
   ·exact yj
   ·rintro rfl
    rcases he with z | z
    ·exact r9 c b hc z
    ·rw [hc] at z; cases z; exact hb Y
end
structure Un (fs ex:List Addr) (H H':Hp) (h h':Heap):Prop where
 keep:∀ b o,h.get? b=some o->H b=none->b ∉ fs->b ∉ ex->h'.get? b=some o
 slot:∀ b o,h.get? b=some o->H b=none->b∈fs->b ∉ ex->∃ sl,h'.get? b=some { o with slots:=sl }
 free:∀ b o,h.get? b=some o->H b=none->b ∉ ex->H' b=none
 there:∀ b o,h.get? b=some o->b ∉ ex->∃ o',h'.get? b=some o'
 tups:∀ b xs,H b=some (.tup xs)->H' b=some (.tup xs)
 frzs:∀ b o u,H b=some (.frz o u)->H' b=some (.frz o u)
 tbls:∀ b ps,H b=some (.tbl ps)->∃ lm,H' b=some (.tbl (ps ++ lm))
section
variable {fs fs' ex ex':List Addr} {H H1 H2:Hp} {h h1 h2 h':Heap} {a x e:Addr} {o:HO}
def Un.any (u:Un fs ex H H1 h h1) (q:h.get? b=some ob) (n:H b=none) (hx:b ∉ ex):∃ sl,h1.get? b=some { ob with slots:=sl }:=by
 by_cases hb:b∈fs
 ·exact u.slot b ob q n hb hx
 ·exact ⟨ob.slots,u.keep b ob q n hb hx⟩
def Un.kept (k:∀ b u,h.get? b=some u->h'.get? b=some u):Un fs ex H H h h' :=
 ⟨λb ob q _ _ _=>k b ob q,λb ob q _ _ _=>⟨ob.slots,k b ob q⟩,λ_ _ _ n _=>n,λb ob q _=>⟨ob,k b ob q⟩,λ_ _ q=>q,λ_ _ _ q=>q,λ_ ps q=>⟨#[],by rw [q]; simp⟩⟩
def Un.refl:Un fs ex H H h h:=Un.kept λ_ _ q=>q
def Un.laid (k:∀ b u,h.get? b=some u->h'.get? b=some u) (hp:h.objs.size<=a) (hn:H a=none):Un fs ex H (upd H a o) h h' where
 keep:=λb u q _ _ _=>k b u q
 slot:=λb u q _ _ _=>⟨u.slots,k b u q⟩
 free:=λb u q n _=>by rw [Ze (As (Ag (Ao q) hp))]; exact n
 there:=λb u q _=>⟨u,k b u q⟩
 tups:=λb xs q=>by rw [Ze (Zk q hn)]; exact q
 frzs:=λb u xs q=>by rw [Ze (Zk q hn)]; exact q
 tbls:=λb ps q=>(eh:)
def Un.write (mu:Mut (H x)) (he:e=x\/H e=some (.own x)) (k:∀ b u,b≠e->h.get? b=some u->h'.get? b=some u) (heo:∃ u,h'.get? e=some u):Un fs ex H (upd H x o) h h':=by
 have hx:∀ b,H b=none->b≠x:=λb n z=>by subst z; rw [n] at mu; exact mu
 have hb:∀ b,H b=none->b≠e:=λb n z=>by
  subst z
  rcases he with r | r
  ·exact hx b n r
  ·rw [n] at r; cases r
 have hm:∀ b u,H b=some u->¬ Mut (some u)->b≠x:=λb u q nm z=>by subst z; rw [q] at mu; exact nm mu
 refine ⟨λb u q n _ _=>k b u (hb b n) q,λb u q n _ _=>⟨u.slots,k b u (hb b n) q⟩,λb u q n _=>by rw [Ze (hx b n)]; exact n,λb u q _=>?_,
  λb xs q=>by rw [Ze (hm b _ q λz=>z)]; exact q,λb u xs q=>by rw [Ze (hm b _ q λz=>z)]; exact q,λb ps q=>⟨#[],by rw [Ze (hm b _ q λz=>z),q]; simp⟩⟩;by_cases yj:b=e
 ·subst yj; exact heo
 ·exact ⟨u,k b u yj q⟩
end
noncomputable def rc (h:Heap) (H:Hp):List Addr:=(List.range h.objs.size).filter λa=>(H a).isSome
noncomputable def hidT (h:Heap) (H:Hp):Heap:=PySem.W.hideAll h (rc h H)
def Zmo (h:Heap) (H:Hp):(hidT h H).objs.size=h.objs.size:=PySem.W.hideAll_size _ _
def Zou {h:Heap} (e:h.get? b=some o) (n:H b=none):(hidT h H).get? b=some o :=
 PySem.W.hideAll_get _ e λhm=>by
  have q:(H b).isSome=true:=(mem_filter.mp hm).2;rw [n] at q; simp at q
def Zqn {h:Heap} (e:(hidT h H).get? b=some o):h.get? b=some o/\H b=none:=by
 have e':h.get? b=some o:=PySem.W.of_hideAll (rc h H) e;refine ⟨e',?_⟩
 cases q:H b with
 | none=>rfl
 | some x =>
  have hm:b∈rc h H:=mem_filter.mpr ⟨mem_range.mpr (Ao e'),by simp [q]⟩;have z:(hidT h H).get? b=none:=PySem.W.hideAll_none (rc h H) hm;rw [z] at e; cases e
noncomputable def Zrc (g h:Heap) (L:Addr):List (p:):=(List.range h.objs.size).filterMap λa=>if a=L\/(g.get? a).isSome=true then none else (h.get? a).map λo=>(a,o)
noncomputable def j6 (g h:Heap) (L d:Addr):List (p:):=(Zrc g h L).filter λp=>decide (p.1≠d)
structure Mod (K:W.Frag) (mg:Str->Option Value) (base:Heap):Prop where
 kin:K.In base
 glob:base.Ns mainGlobals mg
 blt:∃ mb,base.Ns builtinsNs mb/\∀ x:Str,x≠"__name__"->mb x=bootBuiltins x
 nolimit:base.NoLimit
structure Cx where
 prog:Program
 w:World
 K:PySem.W.Frag
 mg:Str->Option Value
 base:Heap
 A:Around
 N:List Str
 s₀:Shared
 H₀:Hp
 env:Env
 outer:List Env
 stack:List Env
 ex:List Addr
 fn:Str->Bool
 calm:Bool
 pn:List (p:)
 xe:Value->Shared->Prop
def frs (l:List Env):List Addr:=l.filterMap (·.frame)
abbrev Cx.fs (X:Cx):List Addr:=frs X.outer
def Vis (sc:Scope) (x:Str):Prop:=sc.names.lookup x=some .local\/sc.names.lookup x=some .cell\/sc.names.lookup x=some .free
def Loc (sc:Scope) (x:Str):Prop:=sc.names.lookup x=some .local\/sc.names.lookup x=some .cell
def Look (env:Env) (h:Heap) (m:Str->Option Value) (x:Str) (u:Value):Prop :=
 (env.kindOf x=some .local/\m x=some u)\/((env.kindOf x=some .cell\/env.kindOf x=some .free)/\∃ c,env.cells.lookup x=some c/\h.IsCell c (some u))
structure Cx.Ok (X:Cx):Prop where
 mod:Mod X.K X.mg X.base
 kind:X.env.scope.kind=.function
 glob:X.env.globals=mainGlobals
 blt:X.env.builtins=builtinsNs
 above:X.s₀.heap.objs.size<=X.env.locals
 inj:∀ x y c,X.env.cells.lookup x=some c->X.env.cells.lookup y=some c->x=y
 has:∀ x,(X.env.kindOf x=some .cell\/X.env.kindOf x=some .free)->∃ c,X.env.cells.lookup x=some c
 cab:∀ x c,X.fn x=true->X.env.cells.lookup x=some c->X.s₀.heap.objs.size<=c
 hd:X.calm=true->X.A.handled=none
 frames:X.A.frames=some X.stack
 stk:X.stack=X.outer\/(X.stack=X.env :: X.outer/\X.env.frame=some X.env.locals)
 exf:∀ b∈X.ex,b≠X.env.locals/\∀ x c,X.env.cells.lookup x=some c->c≠b
 bs:∀ b o,X.base.get? b=some o->X.s₀.heap.get? b=some o/\X.H₀ b=none
 bsz:X.base.objs.size<=X.s₀.heap.objs.size
 noex:∀ b o,X.base.get? b=some o->b ∉ X.ex
 exfs:∀ b∈X.ex,b ∉ X.fs
 funs:X.s₀.heap.FunFrames X.base X.outer
 frf:∀ b∈X.fs,X.H₀ b=none
structure Inv (X:Cx) (j4:List (p:)) (σ:List (Option V)) (H:Hp) (s:Shared):Prop where
 ok:X.Ok
 os:s.os=X.s₀.os
 bare:AllBare s.gens
 base:Un X.fs X.ex X.H₀ H X.s₀.heap s.heap
 loc:∃ m,s.heap.Ns X.env.locals m/\∀ (i:Nat) (x:Str) (v:V),X.N[i]?=some x->σ[i]?=some (some v)->Vis X.env.scope x->∃ u,RelV v u/\Look X.env s.heap m x u
 cell:∀ x c,X.env.cells.lookup x=some c->∃ v,s.heap.IsCell c v
 free:H X.env.locals=none
 freeC:∀ x c,X.env.cells.lookup x=some c->H c=none
 pin:∀ p∈X.pn ++ j4,s.heap.get? p.1=some p.2/\H p.1=none/\p.1≠X.env.locals/\p.1 ∉ X.fs/\∀ v,p.2.data≠.cell v
 hok:HOk X.prog X.w H s.heap
 len:σ.length=X.N.length
section
variable {X:Cx} {j4:List (p:)} {σ:List (Option V)} {H H':Hp} {s:Shared} {h':Heap}
def Cx.Ok.nofr (ok:X.Ok) (e:X.base.get? b=some o):b ∉ X.fs:=λhb=>by
 have:=(ok.funs.mem hb).1;rw [e] at this; cases this
def Inv.bs (I:Inv X j4 σ H s):∀ b o,X.base.get? b=some o->s.heap.get? b=some o/\H b=none:=λb o e =>
 ⟨I.base.keep b o (I.ok.bs b o e).1 (I.ok.bs b o e).2 (I.ok.nofr e) (I.ok.noex b o e),I.base.free b o (I.ok.bs b o e).1 (I.ok.bs b o e).2 (I.ok.noex b o e)⟩
def Inv.bk (I:Inv X j4 σ H s):∀ b o,X.base.get? b=some o->s.heap.get? b=some o:=λb o e=>(I.bs b o e).1
def Inv.mod (I:Inv X j4 σ H s):Mod X.K X.mg X.base:=I.ok.mod
def Inv.kIn (I:Inv X j4 σ H s):X.K.In s.heap:=I.ok.mod.kin.keeps I.bk
def Inv.lt (I:Inv X j4 σ H s):X.env.locals < s.heap.objs.size:=let ⟨_,hn,_⟩:=I.loc; hn.lt
def Inv.sz (I:Inv X j4 σ H s):X.s₀.heap.objs.size<=s.heap.objs.size:=Nat.le_trans I.ok.above (Nat.le_of_lt I.lt)
def Inv.nofs (I:Inv X j4 σ H s) {a:Addr} (h:s.heap.objs.size<=a):a ∉ X.fs:=λhb=>by
 obtain ⟨_,o,ho,_⟩:=I.ok.funs.mem hb;exact absurd (Ag (Ao ho) (Nat.le_trans I.sz h)) (b9:)
def Inv.cne (I:Inv X j4 σ H s):∀ x c,X.env.cells.lookup x=some c->c≠X.env.locals:=λx c e z=>by
 obtain ⟨v,o,ho,hd⟩:=I.cell x c e;obtain ⟨m,⟨o',es,ep,rh,qv,_⟩,_⟩:=I.loc;rw [z,rh] at ho; cases ho; rw [qv] at hd; cases hd
def Inv.funs (I:Inv X j4 σ H s):s.heap.FunFrames X.base X.outer:=by
 have all:∀ (l:List Env),(∀ b∈frs l,b∈X.fs)->X.s₀.heap.FunFrames X.base l->s.heap.FunFrames X.base l:=by
  intro l
  induction l with
  | nil=>intro _ _; trivial
  | cons env r ih =>
   intro hs hl;obtain ⟨hk,⟨L,o,hf,hn,ho,hd⟩,hr⟩:=hl;have hL:L∈X.fs:=hs L (by unfold frs; rw [filterMap_cons,hf]; exact mem_cons_self);obtain ⟨sl,e⟩:=I.base.slot L o ho (I.ok.frf L hL) hL λz=>I.ok.exfs L z hL;exact ⟨hk,⟨L,_,hf,hn,e,hd⟩,ih (λb hb=>hs b (by unfold frs; rw [filterMap_cons,hf]; exact mem_cons_of_mem _ hb)) hr⟩
 exact all X.outer (λ_ hb=>hb) I.ok.funs
def Inv.stack (I:Inv X j4 σ H s):s.heap.FunFrames X.base X.stack:=by
 rcases I.ok.stk with e | ⟨e,hf⟩
 ·rw [e]; exact I.funs
 ·rw [e]
  obtain ⟨m,hn,_⟩:=I.loc;refine .cons (by rw [I.ok.kind]; decide) hf hn ?_ I.funs;exact Heap.get?_none_of_le (Nat.le_trans I.ok.bsz I.ok.above)
def Inv.stkSub (I:Inv X j4 σ H s):∀ b∈frs X.stack,b∈X.env.locals :: X.fs:=λb hb=>by
 rcases I.ok.stk with e | ⟨e,hf⟩
 ·rw [e] at hb; exact mem_cons_of_mem _ hb
 ·rw [e] at hb
  unfold frs at hb;rw [filterMap_cons,hf] at hb;exact hb
def Inv.stkFree (I:Inv X j4 σ H s):∀ b∈frs X.stack,H b=none:=λb hb=>by
 rcases Ar (I.stkSub b hb) with e | hb
 ·rw [e]; exact I.free
 ·obtain ⟨_,o,ho,_⟩:=I.ok.funs.mem hb
  exact I.base.free b o ho (I.ok.frf b hb) λz=>I.ok.exfs b z hb
def Inv.step {g':Array GenState} {t':Nat} {d':Drawn} {ch:List Addr} (I:Inv X j4 σ H s)
  (p7:∀ b∈ch,(b∈X.ex\/X.s₀.heap.objs.size<=b)/\b≠X.env.locals/\(df:)/\∀ p∈X.pn ++ j4,p.1≠b)
  (keep:∀ b o,b≠X.env.locals->b ∉ X.fs->b ∉ ch->s.heap.get? b=some o->H b=none->h'.get? b=some o)
  (slot:∀ b o,b≠X.env.locals->b∈X.fs->b ∉ ch->s.heap.get? b=some o->H b=none->∃ sl,h'.get? b=some { o with slots:=sl }) (free:∀ b o,b ∉ ch->s.heap.get? b=some o->H b=none->H' b=none)
  (there:∀ b o,b ∉ ch->s.heap.get? b=some o->∃ o',h'.get? b=some o')
  (tups:∀ b xs,H b=some (.tup xs)->H' b=some (.tup xs)) (frzs:∀ b o u,H b=some (.frz o u)->H' b=some (.frz o u)) (tbls:∀ b ps,H b=some (.tbl ps)->∃ lm,H' b=some (.tbl (ps ++ lm)))
  (ns:∀ m,s.heap.Ns X.env.locals m->h'.Ns X.env.locals m) (hok:HOk X.prog X.w H' h') (hg:AllBare g') :
  Inv X j4 σ H' { s with heap:=h',gens:=g',drawn:=d',toks:=t' }:=by
 have wm:∀ b o,X.s₀.heap.get? b=some o->b≠X.env.locals:=λb o e=>As (Ag (Ao e) I.ok.above);have neC:∀ b o,X.s₀.heap.get? b=some o->b ∉ X.ex->b ∉ ch:=λb o e hx hb=>by
  rcases (p7 b hb).1 with z | z
  ·exact hx z
  ·exact absurd (Ag (Ao e) z) (b9:)
 have p4:∀ x c,X.env.cells.lookup x=some c->∀ v,s.heap.IsCell c v->h'.IsCell c v:=λx c e v ⟨o,ho,hd⟩=>by
  have nch:c ∉ ch:=λz=>(p7 c z).2.2.1 x c e rfl;by_cases hc:c∈X.fs
  ·obtain ⟨sl,q⟩:=slot c o (I.cne x c e) hc nch ho (I.freeC x c e)
   exact ⟨_,q,hd⟩
  ·exact ⟨o,keep c o (I.cne x c e) hc nch ho (I.freeC x c e),hd⟩
 refine ⟨I.ok,I.os,hg,⟨λb o e n hb hx=>?_,λb o e n hb hx=>?_,λb o e n hx=>?_,λb o e hx=>?_,λb xs e=>tups b xs (I.base.tups b xs e),λb o xs e=>frzs b o xs (I.base.frzs b o xs e),λb ps e=>?_⟩,?_,λx c e=>?_,?_,λx c e=>?_,λp hp=>?_,hok,I.len⟩
 ·exact keep b o (wm b o e) hb (neC b o e hx) (I.base.keep b o e n hb hx) (I.base.free b o e n hx)
 ·obtain ⟨sl,e1⟩:=I.base.slot b o e n hb hx
  obtain ⟨sl',e2⟩:=slot b _ (wm b o e) hb (neC b o e hx) e1 (I.base.free b o e n hx);exact ⟨sl',e2⟩
 ·obtain ⟨o',e1⟩:=I.base.there b o e hx
  exact free b o' (neC b o e hx) e1 (I.base.free b o e n hx)
 ·obtain ⟨o',e1⟩:=I.base.there b o e hx
  exact there b o' (neC b o e hx) e1
 ·obtain ⟨m1,e1⟩:=I.base.tbls b ps e
  obtain ⟨m2,e2⟩:=tbls b _ e1;exact ⟨m1 ++ m2,by rw [e2,Array.append_assoc]⟩
 ·obtain ⟨m,hn,hl⟩:=I.loc
  refine ⟨m,ns m hn,λi x v e1 e2 e3=>?_⟩;obtain ⟨u,r,l⟩:=hl i x v e1 e2 e3;refine ⟨u,r,?_⟩
  rcases l with l | ⟨k,c,e,z⟩
  ·exact .inl l
  ·exact .inr ⟨k,c,e,p4 x c e _ z⟩
 ·obtain ⟨v,z⟩:=I.cell x c e
  exact ⟨v,p4 x c e v z⟩
 ·obtain ⟨m,⟨o,_,_,ho,_⟩,_⟩:=I.loc
  exact free _ o (λz=>(p7 _ z).2.1 Y) ho I.free
 ·obtain ⟨v,o,ho,hd⟩:=I.cell x c e
  exact free c o (λz=>(p7 c z).2.2.1 x c e Y) ho (I.freeC x c e)
 ·obtain ⟨e,n,ne,nf,d⟩:=I.pin p hp
  have nch:p.1 ∉ ch:=λz=>(p7 p.1 z).2.2.2 p hp rfl;exact ⟨keep p.1 p.2 ne nf nch e n,free p.1 p.2 nch e n,ne,nf,d⟩
def Inv.un {t':Nat} (I:Inv X j4 σ H s) (u:Un X.fs [] H H' s.heap h') (hok:HOk X.prog X.w H' h'):Inv X j4 σ H' { s with heap:=h',toks:=t' }:=by
 obtain ⟨m,⟨o,es,ep,ho,r⟩,_⟩:=id I.loc;obtain ⟨sl,hL⟩:=u.any ho I.free (by simp);exact I.step (g':=s.gens) (d':=s.drawn) (ch:=[]) (d2:) (λb o _ hb _ e n=>u.keep b o e n hb (by simp)) (λb o _ hb _ e n=>u.slot b o e n hb (by simp)) (λb o _ e n=>u.free b o e n (by simp)) (λb o _ e=>u.there b o e (by simp)) u.tups u.frzs u.tbls (λm' hm=>by
  obtain ⟨o',yn,ep',rh,r'⟩:=hm
  rw [ho] at rh; cases rh
  exact ⟨_,yn,ep',hL,r'⟩) hok I.bare
def Inv.call {t':Nat} {d':Drawn} (I:Inv X j4 σ H s) (u:Un (frs X.stack) ch H H' s.heap h') (hok:HOk X.prog X.w H' h') (hg:AllBare g')
  (p7:∀ b∈ch,(b∈X.ex\/X.s₀.heap.objs.size<=b)/\b≠X.env.locals/\(df:)/\∀ p∈X.pn ++ j4,p.1≠b) :
  Inv X j4 σ H' { s with heap:=h',gens:=g',drawn:=d',toks:=t' }:=by
 obtain ⟨m,⟨o,es,ep,ho,r⟩,_⟩:=id I.loc;obtain ⟨sl,hL⟩:=u.any ho I.free λz=>(p7 _ z).2.1 rfl;exact I.step (ch:=ch) p7 (λb o hL hb hc e n=>u.keep b o e n (λz=>(Ar (I.stkSub b z)).elim hL hb) hc) (λb o _ _ hc e n=>u.any e n hc) (λb o hc e n=>u.free b o e n hc) (λb o hc e=>u.there b o e hc) u.tups u.frzs u.tbls (λm' hm=>by
  obtain ⟨o',yn,ep',rh,r'⟩:=hm
  rw [ho] at rh; cases rh
  exact ⟨_,yn,ep',hL,r'⟩) hok hg
def Inv.turned {t':Nat} (I:Inv X j4 σ H s) (k:∀ b o,b≠it->s.heap.get? b=some o->h'.get? b=some o) (hn:H it=none) (hL:it≠X.env.locals)
  (h1:it∈X.ex\/X.s₀.heap.objs.size<=it) (h2:∀ x c,X.env.cells.lookup x=some c->c≠it) (h3:∀ p∈X.pn ++ j4,p.1≠it):Inv X j4 σ H { s with heap:=h',toks:=t' }:=by
 have nit:∀ b u,H b=some u->b≠it:=λb u e z=>by rw [z,hn] at e; cases e
 refine I.step (g':=s.gens) (d':=s.drawn) (ch:=[it]) (λb hb=>?_) (λb o _ _ hc e _=>k b o (az:) e) (λb o _ _ hc e _=>⟨o.slots,k b o (az:) e⟩) (λ_ _ _ _ n=>n)
  (λb o hc e=>⟨o,k b o (az:) e⟩) (λ_ _ e=>e) (λ_ _ _ e=>e) (λb ps e=>⟨#[],by rw [e]; simp⟩) (λm hm=>?_) (λb u e=>?_) I.bare
 ·have e:b=it:=by simpa using hb
  subst e;exact ⟨h1,hL,h2,h3⟩
 ·obtain ⟨o,es,ep,ho,r⟩:=hm
  exact ⟨o,es,ep,k _ o (Ne.symm hL) ho,r⟩
 ·refine (I.hok b u e).stay (λc v hc q=>k c v ?_ q) (λ_ q=>q) λ_ _ q=>q
  rcases hc with z | z
  ·rw [z]; exact nit b u e
  ·exact nit c _ z
def Inv.tok (I:Inv X j4 σ H s) (t:Nat):Inv X j4 σ H { s with toks:=t }:=I.un (h':=s.heap) (t':=t) Un.refl I.hok
def Inv.kept {t':Nat} (I:Inv X j4 σ H s) (k:∀ b u,s.heap.get? b=some u->h'.get? b=some u):Inv X j4 σ H { s with heap:=h',toks:=t' }:=I.un (Un.kept k) (I.hok.kept k)
def Inv.laid {t':Nat} (I:Inv X j4 σ H s) (k:∀ b u,s.heap.get? b=some u->h'.get? b=some u) (hp:s.heap.objs.size<=a) (new:Yl X.prog X.w (upd H a o) h' a o) :
  Inv X j4 σ (upd H a o) { s with heap:=h',toks:=t' }:=I.un (Un.laid k hp (I.hok.fresh hp)) (I.hok.laid k hp new)
def Inv.write {t':Nat} (I:Inv X j4 σ H s) (mu:Mut (H x)) (he:e=x\/H e=some (.own x)) (k:∀ b u,b≠e->s.heap.get? b=some u->h'.get? b=some u) (heo:∃ u,h'.get? e=some u)
  (new:Yl X.prog X.w (upd H x o) h' x o):Inv X j4 σ (upd H x o) { s with heap:=h',toks:=t' }:=I.un (Un.write mu he k heo) (I.hok.write mu he k heo new)
def Inv.pins_of (I:Inv X j4 σ H s) (h:∀ p∈pins',s.heap.get? p.1=some p.2/\H p.1=none/\p.1≠X.env.locals/\p.1 ∉ X.fs/\∀ v,p.2.data≠.cell v):Inv X pins' σ H s :=
 ⟨I.ok,I.os,I.bare,I.base,I.loc,I.cell,I.free,I.freeC,λp hp=>(mem_append.mp hp).elim (λz=>I.pin p (mem_append_left _ z)) (h p),I.hok,I.len⟩
def Zgi {N:List Str} (hN:N.Nodup) {i j:Nat} (a:N[i]?=some x) (b:N[j]?=some x):i=j:=by
 obtain ⟨h1,e1⟩:=Aa a;obtain ⟨h2,e2⟩:=Aa b;exact (getElem_inj hN).mp (e1.trans e2.symm)
def Kb (I:Inv X j4 σ H s) (hN:X.N.Nodup) (hi:X.N[i]?=some x) (hx:Loc X.env.scope x) (r:RelV v u)
  (h:∀ s',Inv X j4 (σ.set i (some v)) H s'->(∃ a,Heap.SameBut a s.heap s'.heap/\(a=X.env.locals\/X.env.cells.lookup x=some a))->Q () s') (hf:X.fn x=true\/X.env.scope.names.lookup x=some .local:=by first | exact .inl rfl | exact .inr rfl | assumption):wpAny M A (storeName X.env x u) Q E s:=by
 obtain ⟨m,hn,hl⟩:=id I.loc;have zb:(X.env.scope.kind == .class || (X.env.scope.kind == .module && X.env.locals != X.env.globals))=false:=by rw [I.ok.kind]; rfl
 have hiσ:i < σ.length:=by rw [I.len]; exact (Aa hi).1
 have cne:=I.cne
 have qz:∀ {a:Addr} {h':Heap},(∃ o,s.heap.get? a=some o/\H a=none)->Heap.SameBut a s.heap h'->HOk X.prog X.w H h':=λ{a h'} ha hs b ob e=>by
  obtain ⟨_,_,xa⟩:=ha;refine (I.hok b ob e).stay (λc w' hc q=>(hs.2 c ?_).trans q) (λ_ q=>q) λ_ _ q=>q;rintro rfl
  rcases hc with rfl | hc
  ·rw [xa] at e; cases e
  ·rw [xa] at hc; cases hc
 rcases hx with hk | hk
 ·refine wpAny_storeName_local hk hn (λh' hn' hs=>?_) zb
  obtain ⟨oL,_,_,vn,_⟩:=id hn;refine h _ ⟨I.ok,I.os,I.bare,(d4:),⟨_,hn',λj y v' e1 e2 e3=>?_⟩,λy c e=>?_,I.free,I.freeC,λp hp=>?_,qz ⟨oL,vn,I.free⟩ hs,by simpa using I.len⟩ ⟨_,hs,.inl Y⟩
  ·exact (hs.2 b (As (Ag (Ao e) I.ok.above))).trans (I.base.keep b o e n hb hx)
  ·obtain ⟨sl,e1⟩:=I.base.slot b o e n hb hx
   exact ⟨sl,(hs.2 b (As (Ag (Ao e) I.ok.above))).trans e1⟩
  ·obtain ⟨o',e1⟩:=I.base.there b o e hx
   exact ⟨o',(hs.2 b (As (Ag (Ao e) I.ok.above))).trans e1⟩
  ·by_cases hj:j=i
   ·subst hj
    rw [hi] at e1; cases e1;rw [getElem?_set_self hiσ] at e2;cases e2;exact ⟨u,r,.inl ⟨hk,by simp⟩⟩
   ·rw [getElem?_set_ne (Ne.symm hj)] at e2
    obtain ⟨u',r',q⟩:=hl j y v' e1 e2 e3;refine ⟨u',r',?_⟩
    rcases q with ⟨k,e⟩ | ⟨k,c,e,z⟩
    ·refine .inl ⟨k,?_⟩
     have:y≠x:=λe=>hj (Zgi hN e1 (e ▸ hi));simp [this,e]
    ·exact .inr ⟨k,c,e,z.sameBut hs (cne y c e)⟩
  ·obtain ⟨w',z⟩:=I.cell y c e
   exact ⟨w',z.sameBut hs (cne y c e)⟩
  ·obtain ⟨e,n,ne,nf,d⟩:=I.pin p hp
   exact ⟨(hs.2 p.1 ne).trans e,n,ne,nf,d⟩
 ·have hfn:X.fn x=true:=by
   rcases hf with z | z
   ·exact z
   ·rw [z] at hk; cases hk
  obtain ⟨c,hc⟩:=I.ok.has x (.inl hk);obtain ⟨w',z⟩:=I.cell x c hc;refine wpAny_storeName_cell I.ok.kind hk hc z (λh' vt hs=>?_);obtain ⟨oc,hoc,hocd⟩:=id z;refine h { s with heap:=h' } ⟨I.ok,I.os,I.bare,(d4:),⟨m,hn.sameBut hs (Ne.symm (cne x c hc)),λj y v' e1 e2 e3=>?_⟩,λy c' e=>?_,I.free,I.freeC,λp hp=>?_,qz ⟨oc,hoc,I.freeC x c hc⟩ hs,by simpa using I.len⟩ ⟨c,hs,.inr hc⟩
  ·exact (hs.2 b (As (Ag (Ao e) (I.ok.cab x c hfn hc)))).trans (I.base.keep b o e n hb hx)
  ·obtain ⟨sl,e1⟩:=I.base.slot b o e n hb hx
   exact ⟨sl,(hs.2 b (As (Ag (Ao e) (I.ok.cab x c hfn hc)))).trans e1⟩
  ·obtain ⟨o',e1⟩:=I.base.there b o e hx
   exact ⟨o',(hs.2 b (As (Ag (Ao e) (I.ok.cab x c hfn hc)))).trans e1⟩
  ·by_cases hj:j=i
   ·subst hj
    rw [hi] at e1; cases e1;rw [getElem?_set_self hiσ] at e2;cases e2;exact ⟨u,r,.inr ⟨.inl hk,c,hc,vt⟩⟩
   ·rw [getElem?_set_ne (Ne.symm hj)] at e2
    obtain ⟨u',r',q⟩:=hl j y v' e1 e2 e3;refine ⟨u',r',?_⟩
    rcases q with q | ⟨k,c',e,z'⟩
    ·exact .inl q
    ·refine .inr ⟨k,c',e,z'.sameBut hs ?_⟩
     rintro rfl;exact hj (Zgi hN e1 (I.ok.inj _ _ _ e hc ▸ hi))
  ·by_cases hcc:c'=c
   ·subst hcc; exact ⟨_,vt⟩
   ·obtain ⟨w2,z2⟩:=I.cell y c' e
    exact ⟨w2,z2.sameBut hs hcc⟩
  ·obtain ⟨e,n,ne,nf,d⟩:=I.pin p hp
   refine ⟨(hs.2 p.1 ?_).trans e,n,ne,nf,d⟩;intro q;rw [q,hoc] at e;have q':oc=p.2:=Ax e;exact d w' (by rw [<- q']; exact hocd)
def Qb {M:Model} {A:Around} {E:Value->Shared->Prop} {i:Nat} {x:Str} {v:V} {u:Value} {Q:Unit->Shared->Prop} (I:Inv X j4 σ H s) (hN:X.N.Nodup) (hi:X.N[i]?=some x) (hx:Loc X.env.scope x) (r:RelV v u)
  (h:∀ s',Inv X j4 (σ.set i (some v)) H s'->Q () s') (hf:X.fn x=true\/X.env.scope.names.lookup x=some .local:=by first | exact .inl rfl | exact .inr rfl | assumption):wpAny M A (storeName X.env x u) Q E s :=
 Kb I hN hi hx r (λs' I' _=>h s' I') hf
def Inv.call' {s':Shared} (I:Inv X j4 σ H s) (ho:s'.os=s.os) (u:Un (frs X.stack) ch H H' s.heap s'.heap) (hok:HOk X.prog X.w H' s'.heap) (hg:AllBare s'.gens)
  (p7:∀ b∈ch,(b∈X.ex\/X.s₀.heap.objs.size<=b)/\b≠X.env.locals/\(df:)/\∀ p∈X.pn ++ j4,p.1≠b):Inv X j4 σ H' s':=by
 obtain ⟨h',g',d',t',o'⟩:=s';have e:o'=s.os:=ho;subst e;exact I.call (g':=g') (t':=t') (d':=d') u hok hg p7
end
abbrev XK:=Value->Option Addr->Hp->Prop
abbrev St:=List (Option V)
abbrev VK:=V->Hp->Prop
abbrev TE:=St->Hp->VK->Prop
abbrev TT:=St->Hp->(Bool->Hp->Prop)->Prop
abbrev TA:=St->Hp->(List V->Hp->Prop)->Prop
structure Ends where
 nx:St->Hp->Prop
 rt:VK
 bk:St->Hp->Prop:=λ_ _=>False
 ct:St->Hp->Prop:=λ_ _=>False
abbrev TS:=Ends->St->Hp->Prop
def EP (X:Cx) (j4:List (p:)) (σ:St) (Q:VK) (u:Value) (s':Shared):Prop:=∃ v H',Inv X j4 σ H' s'/\RelV v u/\Q v H'
def TP (X:Cx) (j4:List (p:)) (σ:St) (Q:Bool->Hp->Prop) (b:Bool) (s':Shared):Prop:=∃ H',Inv X j4 σ H' s'/\Q b H'
def AP (X:Cx) (j4:List (p:)) (σ:St) (Q:List V->Hp->Prop) (us:List Value) (s':Shared):Prop:=∃ vs H',Inv X j4 σ H' s'/\Vals vs us/\Q vs H'
def SP (X:Cx) (j4:List (p:)) (D:Ends) (f:Flow) (s':Shared):Prop :=
 match f with
 | .next=>∃ σ' H',Inv X j4 σ' H' s'/\D.nx σ' H'
 | .brk=>∃ σ' H',Inv X j4 σ' H' s'/\D.bk σ' H'
 | .cont=>∃ σ' H',Inv X j4 σ' H' s'/\D.ct σ' H'
 | .ret u=>∃ v σ' H',Inv X j4 σ' H' s'/\RelV v u/\D.rt v H'
def PE (X:Cx) (e:Expr) (t:TE):Prop :=
 ∀ j4 s σ H (Q:VK),Inv X j4 σ H s->t σ H Q->wpAny (d:) X.A (eval e X.env) (bz:) X.xe s
def PT (X:Cx) (e:Expr) (t:TT):Prop :=
 ∀ j4 s σ H (Q:Bool->Hp->Prop),Inv X j4 σ H s->t σ H Q->wpAny (d:) X.A (isTrue e X.env (eval e X.env)) (TP X j4 σ Q) X.xe s
def PW (X:Cx) (e:Expr) (t:TT):Prop :=
 ∀ (og:Sem Value) (j4:List (p:)) (s:Shared) (σ:St) (H:Hp) (Q:Bool->Hp->Prop),Inv X j4 σ H s->t σ H Q->wpAny (d:) X.A (isTrue e X.env og) (TP X j4 σ Q) X.xe s
def PW.pt {X:Cx} {e:Expr} {t:TT} (h:PW X e t):PT X e t:=h _
def PA (X:Cx) (es:List Expr) (t:TA):Prop :=
 ∀ (pos:Pos) (j4:List (p:)) (s:Shared) (σ:St) (H:Hp) (Q:List V->Hp->Prop),Inv X j4 σ H s->t σ H Q->wpAny (d:) X.A (spliced (z:)) (AP X j4 σ Q) X.xe s
def PS (X:Cx) (st:Stmt) (t:TS):Prop :=
 ∀ j4 s σ H (D:Ends),Inv X j4 σ H s->t D σ H->wpAny (d:) X.A (exec st X.env) (SP X j4 D) X.xe s
def PSs (X:Cx) (st:List Stmt) (t:TS):Prop :=
 ∀ j4 s σ H (D:Ends),Inv X j4 σ H s->t D σ H->wpAny (d:) X.A (execs st X.env) (SP X j4 D) X.xe s
def thn {α:Type} {t:Sem α} {Q Q':α->Shared->Prop} {M:Model} {A:Around} {E:Value->Shared->Prop} {s:Shared} (h:wpAny M A t Q E s) (hQ:∀ a s,Q a s->Q' a s):wpAny M A t Q' E s:=wpAny_mono h hQ λ_ _ x=>x
section
variable {X:Cx}
def MVar (o:Option (Option V)) (H:Hp) (Q:VK):Prop:=match o with | some (some v)=>Q v H | _=>False
def MVar.ex {o:Option (Option V)} {H:Hp} {Q:VK} (h:MVar o H Q):∃ v,o=some (some v)/\Q v H:=match o,h with | some (some v),h=>⟨v,rfl,h⟩
def MVar.of {o:Option (Option V)} {H:Hp} {Q:VK} {v:V} (e:o=some (some v)) (h:Q v H):MVar o H Q:=by subst e; exact h
def tVar (i:Nat):TE:=λσ H Q=>MVar σ[i]? H Q
def tC (v:V):TE:=λ_ H Q=>Q v H
def Zlt (hN:X.N[i]?=some x) (hv:Vis X.env.scope x) (hd:(H:)=false:=by decide) (oy:(x == ("__classdict__":Str))=false:=by decide):PE X (.Name x pos) (tVar i):=by
 intro j4 s σ H Q I h;obtain ⟨v,e,h⟩:=h.ex;obtain ⟨m,hn,hl⟩:=I.loc;obtain ⟨u,r,l⟩:=hl i x v hN e hv;have km:EP X j4 σ Q u s:=⟨v,H,I,r,h⟩
 rcases l with ⟨hk,hm⟩ | ⟨hk,c,hc,hcell⟩
 ·exact wpAny_Name (wpAny_loadName_local I.ok.kind hk hn hm km) hd
 ·rcases hk with hk | hk
  ·exact wpAny_Name (wpAny_loadName_cell I.ok.kind hk hc hcell km) hd
  ·exact wpAny_Name (wpAny_loadName_free I.ok.kind hk hc hcell km oy) hd
def Zd {i j pos}:PE X (.Constant (.int i) j pos) (tC (.int i)):=λ_ _ _ H _ I h=>wpAny_Constant_int ⟨.int i,H,I.tok _,⟨_,rfl⟩,h⟩
def Zpg {b j pos}:PE X (.Constant (.bool b) j pos) (tC (.bl b)):=λ_ _ _ H _ I h=>Constant_bool ⟨.bl b,H,I,rfl,h⟩
def Uu {j pos}:PE X (.Constant .none j pos) (tC .non):=λ_ _ _ H _ I h=>Constant_none ⟨.non,H,I,rfl,h⟩
def Zj {x j pos}:PE X (.Constant (.str x) j pos) (tC (.str x)):=λ_ _ _ H _ I h=>Calls.Constant_str ⟨.str x,H,I.tok _,⟨_,rfl⟩,h⟩
def Gl (X:Cx) (x:Str):Prop:=X.env.kindOf x=some .globalImplicit
def Vj (I:Inv X j4 σ H s) (hg:Gl X x) (hm:X.mg x=some u) (h:Q u s)
  (hd:(H:)=false:=by decide):wpAny (d:) X.A (eval (.Name x pos) X.env) Q E s :=
 Calls.Name_function_global I.ok.kind hg (Calls.loadGlobal_global (by rw [I.ok.glob]; exact I.mod.glob.keeps I.bk) hm h) hd
def We {E:Value->Shared->Prop} {j4:List (p:)} {s:Shared} {σ:St} {H:Hp} {x:Str} {u:Value} {pos:Pos} {Q:Value->Shared->Prop} (I:Inv X j4 σ H s) (hg:Gl X x) (hm:X.mg x=none) (hv:bootBuiltins x=some u) (h:Q u s)
  (hn:x≠"__name__":=by decide) (hd:(H:)=false:=by decide):wpAny (d:) X.A (eval (.Name x pos) X.env) Q E s:=by
 obtain ⟨mb,h1,h2⟩:=I.mod.blt;exact Calls.Name_function_global I.ok.kind hg (Calls.loadGlobal_builtin (by rw [I.ok.glob]; exact I.mod.glob.keeps I.bk) hm (by rw [I.ok.blt]; exact h1.keeps I.bk) ((h2 x hn).trans hv) h) hd
def X1 (hg:Gl X x) (hm:X.mg x=some u) (r:RelV v u) (hd:(H:)=false:=by decide):PE X (.Name x pos) (tC v) :=
 λ_ _ _ H _ I h=>Vj I hg hm ⟨v,H,I,r,h⟩ hd
def Zqj (hg:Gl X x) (hm:X.mg x=none) (hv:bootBuiltins x=some u) (r:RelV v u) (hn:x≠"__name__":=by decide) (hd:(H:)=false:=by decide):PE X (.Name x pos) (tC v) :=
 λ_ _ _ H _ I h=>We I hg hm hv ⟨v,H,I,r,h⟩ hn hd
variable {a b:Expr} {ta tb:TE} {pos:Pos}
def PC (X:Cx) (op:CmpOp) (a b:Expr) (t:TE):Prop :=
 ∀ j4 s σ H (Q:VK),Inv X j4 σ H s->t σ H Q ->
  wpAny (d:) X.A (eval a X.env) (λv s₁=>wpAny (d:) X.A (eval b X.env) (λu s₂=>wpAny (d:) X.A (compareOp op v u) (bz:) X.xe s₂) X.xe s₁) X.xe s
def MB (Q:Bool->Hp->Prop) (x:V) (H:Hp):Prop:=match x with | .bl c=>Q c H | _=>False
def MB.ex {Q:Bool->Hp->Prop} {x:V} {H:Hp} (h:MB Q x H):∃ c,x=.bl c/\Q c H:=match x,h with | .bl c,h=>⟨c,rfl,h⟩
def tB (t:TE):TT:=λσ H Q=>t σ H (MB Q)
def Zse {op:CmpOp} {t:TE} (h:PC X op a b t) (h1:behindInMarks op b=false:=by first | exact nobehind _ (c:) (c:) | rfl):PE X (.Compare a [op] [b] pos) t:=λj4 s σ H Q I hw=>wpAny_Compare1 (h j4 s σ H Q I hw) h1
def Vt {op:CmpOp} {t:TE} (h:PC X op a b t) (h1:behindInMarks op b=false:=by first | exact nobehind _ (c:) (c:) | rfl):PT X (.Compare a [op] [b] pos) (tB t):=by
 intro j4 s σ H Q I hw;refine wpAny_isTrue_Compare1 (thn (h j4 s σ H _ I hw) λv s1 h1=>thn h1 λu s2 h2=>thn h2 λc s3 zz0=>?_) h1;obtain ⟨x,H1,I1,r1,q1⟩:=zz0;obtain ⟨d,rfl,q⟩:=MB.ex q1;cases r1;exact wpAny_truthy_bool ⟨H1,I1,q⟩
def Jn {e:Expr} {t:TE} (h:PE X e t) (he:∀ og,isTrue e X.env og=(do let v <- og; standAt e.pos; holding [v] (truthy v)):=by intro _; rfl):PT X e (tB t):=by
 intro j4 s σ H Q I hw;refine isTrue_plain (thn (h j4 s σ H _ I hw) λv s1 zz1=>?_) (he _);obtain ⟨x,H1,I1,r1,q1⟩:=zz1;obtain ⟨d,rfl,q⟩:=MB.ex q1;cases r1;exact wpAny_truthy_bool ⟨H1,I1,q⟩
variable {tA tB':TT} {j6:List Expr}
def kAnd (u:TT) (σ:St) (Q:Bool->Hp->Prop) (c:Bool) (H:Hp):Prop:=if c=true then u σ H Q else Q false H
def tAnd (t u:TT):TT:=λσ H Q=>t σ H (kAnd u σ Q)
def kOr (u:TT) (σ:St) (Q:Bool->Hp->Prop) (c:Bool) (H:Hp):Prop:=if c=true then Q true H else u σ H Q
def tOr (t u:TT):TT:=λσ H Q=>t σ H (kOr u σ Q)
def kNot (Q:Bool->Hp->Prop) (c:Bool) (H:Hp):Prop:=Q (!c) H
def tNot (t:TT):TT:=λσ H Q=>t σ H (kNot Q)
def Up (ha:PT X a tA):PW X (.BoolOp .And [a] pos) tA:=by
 intro wh j4 s σ H Q I h;refine isTrue_and (thn (ha j4 s σ H Q I h) λc s1 e=>?_)
 cases c with
 | true=>exact isTrue_and_nil e
 | false=>exact e
def Ks (ha:PT X a tA):PW X (.BoolOp .Or [a] pos) tA:=by
 intro wh j4 s σ H Q I h;refine isTrue_or (thn (ha j4 s σ H Q I h) λc s1 e=>?_)
 cases c with
 | false=>exact isTrue_or_nil e
 | true=>exact e
def Kt (ha:PT X a tA) (hb:PW X (.BoolOp .And (b :: j6) pos) tB'):PW X (.BoolOp .And (a :: b :: j6) pos) (tAnd tA tB'):=by
 intro wh j4 s σ H Q I h;refine isTrue_and (thn (a8:) λc s1 j9=>?_);obtain ⟨H1,I1,q1⟩:=j9
 cases c with
 | true=>exact hb wh j4 s1 σ H1 Q I1 q1
 | false=>exact ⟨H1,I1,q1⟩
def Zba (ha:PT X a tA) (hb:PW X (.BoolOp .Or (b :: j6) pos) tB'):PW X (.BoolOp .Or (a :: b :: j6) pos) (tOr tA tB'):=by
 intro wh j4 s σ H Q I h;refine isTrue_or (thn (a8:) λc s1 j9=>?_);obtain ⟨H1,I1,q1⟩:=j9
 cases c with
 | true=>exact ⟨H1,I1,q1⟩
 | false=>exact hb wh j4 s1 σ H1 Q I1 q1
def Jo (ha:PT X a tA):PT X (.UnaryOp .Not a pos) (tNot tA):=by
 intro j4 s σ H Q I h;exact isTrue_not (ha j4 s σ H (λc H1=>Q (!c) H1) I h)
def Ztm (ta tb:TE):TE:=λσ H Q=>ta σ H λx H1=>∃ c,x=.bl c/\if c=true then tb σ H1 Q else Q (.bl false) H1
def tOrV (ta tb:TE):TE:=λσ H Q=>ta σ H λx H1=>∃ c,x=.bl c/\if c=true then Q (.bl true) H1 else tb σ H1 Q
def Ztd (ta:TE):TE:=λσ H Q=>ta σ H λx H1=>∃ c,x=.bl c/\Q (.bl (!c)) H1
def Ut {op} {t:TE} (h:PE X a t):PE X (.BoolOp op [a] pos) t:=λj4 s σ H Q I hw=>BoolOp_one (h j4 s σ H Q I hw)
def Zbc (ha:PE X a ta) (hb:PE X (.BoolOp .And (b :: j6) pos) tb):PE X (.BoolOp .And (a :: b :: j6) pos) (Ztm ta tb):=by
 intro j4 s σ H Q I h;refine BoolOp_and (thn (a8:) λv s1 j9=>?_);obtain ⟨x,H1,I1,r1,q1⟩:=j9;obtain ⟨c,rfl,q1⟩:=q1;cases r1;refine wpAny_truthy_bool ?_
 cases c with
 | true=>exact hb j4 s1 σ H1 Q I1 q1
 | false=>exact ⟨.bl false,H1,I1,Y,q1⟩
def Ztr (ha:PE X a ta) (hb:PE X (.BoolOp .Or (b :: j6) pos) tb):PE X (.BoolOp .Or (a :: b :: j6) pos) (tOrV ta tb):=by
 intro j4 s σ H Q I h;refine BoolOp_or (thn (a8:) λv s1 j9=>?_);obtain ⟨x,H1,I1,r1,q1⟩:=j9;obtain ⟨c,rfl,q1⟩:=q1;cases r1;refine wpAny_truthy_bool ?_
 cases c with
 | false=>exact hb j4 s1 σ H1 Q I1 q1
 | true=>exact ⟨.bl true,H1,I1,Y,q1⟩
def Zsd (ha:PE X a ta):PE X (.UnaryOp .Not a pos) (Ztd ta):=by
 intro j4 s σ H Q I h;refine UnaryOp_ (thn (a8:) λv s1 j9=>?_);obtain ⟨x,H1,I1,r1,q1⟩:=j9;obtain ⟨c,rfl,q1⟩:=q1;cases r1;exact not_of (wpAny_truthy_bool ⟨.bl (!c),H1,I1,Y,q1⟩)
def tIf (t:TT) (ta tb:TE):TE:=λσ H Q=>t σ H λc H1=>if c=true then ta σ H1 Q else tb σ H1 Q
def F8 {c:Expr} (hc:PT X c tA) (ha:PE X a ta) (hb:PE X b tb):PE X (.IfExp c a b pos) (tIf tA ta tb):=by
 intro j4 s σ H Q I h;refine wpAny_IfExp (thn (hc j4 s σ H _ I h) λd s1 j9=>?_);obtain ⟨H1,I1,q1⟩:=j9
 cases d with
 | true=>exact ha j4 s1 σ H1 Q I1 q1
 | false=>exact hb j4 s1 σ H1 Q I1 q1
end
def SqL (K:W.Frag) (H:Hp) (a:Addr) (xs:List V):Prop :=
 Rd H a (.lst xs) \/
  ∃ (o:Obj) (its:Array Value) (n:Nat),K.lookup a=some o/\o.cls=.type "list"/\o.dict=none/\o.data=.seq its n/\its.size<=sizeLine/\Vals xs its.toList
def SqT (K:W.Frag) (H:Hp) (a:Addr) (xs:List V):Prop :=
 Rd H a (.tup xs) \/
  ∃ (o:Obj) (its:Array Value) (n:Nat),K.lookup a=some o/\o.cls=.type "tuple"/\o.data=.seq its n/\its.size<=sizeLine/\Vals xs its.toList
noncomputable def absV:Value->Option V
 | .none=>some .non
 | .bool b=>some (.bl b)
 | .int i _=>some (.int i)
 | .str x _=>some (.str x)
 | .bytes b _=>some (.byt b)
 | .float b _=>some (.flt b)
 | .ref a=>some (.ref a)
 | .type n=>some (.ty n)
 | _=>none
def RelV.abs (r:RelV x u):absV u=some x:=by
 cases x with
 | non=>cases r; rfl
 | bl _=>cases r; rfl
 | int _=>obtain ⟨t,rfl⟩:=r; rfl
 | str _=>obtain ⟨t,rfl⟩:=r; rfl
 | byt _=>obtain ⟨t,rfl⟩:=r; rfl
 | flt _=>obtain ⟨t,rfl⟩:=r; rfl
 | ref _=>cases r; rfl
 | ty _=>cases r; rfl
def RelV.inj (r:RelV x u) (q:RelV y u):x=y:=Ax (r.abs.symm.trans q.abs)
theorem Vals.inj:∀ {xs ys:List V} {us:List Value},Vals xs us->Vals ys us->xs=ys
 | _,_,_,.nil,.nil=>rfl
 | _,_,_,.cons r t,.cons r' t'=>by rw [r.inj r',Vals.inj t t']
section
variable {X:Cx} {j4:List (p:)} {σ:St} {H:Hp} {s:Shared} {a:Addr} {xs ys:List V}
def SqL.of {K:W.Frag} (h:H a=some (.lst xs)):SqL K H a xs:=.inl (.inl h)
def SqT.of {K:W.Frag} (h:H a=some (.tup xs)):SqT K H a xs:=.inl (.inl h)
def Inv.list (I:Inv X j4 σ H s) (h:SqL X.K H a xs):∃ its:List Value,Vals xs its/\PlainL s.heap a its.toArray/\xs.length<=sizeLine:=by
 rcases h with h | ⟨o,its,n,hk,hc,hd,hs,hz,r⟩
 ·obtain ⟨z,its,n,r,e⟩:=h.ok I.hok
  exact ⟨its,r,⟨_,n,e,Y,Y,Y⟩,z⟩
 ·refine ⟨its.toList,r,⟨o,n,I.kIn a o hk,hc,hd,by simpa using hs⟩,?_⟩
  have e:=r.length;simp only [Array.length_toList] at e;lia
def Inv.tuple (I:Inv X j4 σ H s) (h:SqT X.K H a xs):∃ its:List Value,Vals xs its/\IsTup s.heap a its.toArray/\xs.length<=sizeLine:=by
 rcases h with h | ⟨o,its,n,hk,hc,hs,hz,r⟩
 ·obtain ⟨z,its,r,p⟩:=h.ok I.hok
  exact ⟨its,r,p,z⟩
 ·refine ⟨its.toList,r,⟨o,I.kIn a o hk,hc,n,by simpa using hs⟩,?_⟩
  have e:=r.length;simp only [Array.length_toList] at e;lia
def Inv.list_inj (I:Inv X j4 σ H s) (h:SqL X.K H a xs) (h':SqL X.K H a ys):xs=ys:=by
 obtain ⟨its,r,⟨o,n,e,_,_,d⟩,_⟩:=I.list h;obtain ⟨its',r',⟨o',n',e',_,_,d'⟩,_⟩:=I.list h';rw [e] at e'; cases e';rw [d] at d'
 injection d' with d1 _
 have:its=its':=by simpa using congrArg Array.toList d1
 subst this;exact r.inj r'
def Inv.tuple_inj (I:Inv X j4 σ H s) (h:SqT X.K H a xs) (h':SqT X.K H a ys):xs=ys:=by
 obtain ⟨its,r,⟨o,e,_,n,d⟩,_⟩:=I.tuple h;obtain ⟨its',r',⟨o',e',_,n',d'⟩,_⟩:=I.tuple h';rw [e] at e'; cases e';rw [d] at d'
 injection d' with d1 _
 have:its=its':=by simpa using congrArg Array.toList d1
 subst this;exact r.inj r'
end
abbrev Cx.wish (X:Cx) (E:Value->Shared->Prop):Cx:={ X with xe:=E }
abbrev Cx.nox (X:Cx):Cx:=X.wish λ_ _=>False
def Cx.Ok.wish {X:Cx} (ok:X.Ok) (E:Value->Shared->Prop):(X.wish E).Ok :=
 (cn:)
def Cx.Ok.unwish {X:Cx} (ok:(X.wish E).Ok):X.Ok :=
 (cn:)
section
variable {X:Cx} {j4:List (p:)} {σ:St} {H:Hp} {s:Shared} {E:Value->Shared->Prop}
def Inv.wish (I:Inv X j4 σ H s) (E:Value->Shared->Prop):Inv (X.wish E) j4 σ H s:=⟨I.ok.wish E,I.os,I.bare,I.base,I.loc,I.cell,I.free,I.freeC,I.pin,I.hok,I.len⟩
def Inv.unwish (I:Inv (X.wish E) j4 σ H s):Inv X j4 σ H s:=⟨I.ok.unwish,I.os,I.bare,I.base,I.loc,I.cell,I.free,I.freeC,I.pin,I.hok,I.len⟩
def SP.unwish (h:SP (X.wish E) j4 D f s'):SP X j4 D f s':=by
 cases f with
 | next=>obtain ⟨σ',H',I,q⟩:=h; exact ⟨σ',H',I.unwish,q⟩
 | brk=>obtain ⟨σ',H',I,q⟩:=h; exact ⟨σ',H',I.unwish,q⟩
 | cont=>obtain ⟨σ',H',I,q⟩:=h; exact ⟨σ',H',I.unwish,q⟩
 | ret u=>obtain ⟨v,σ',H',I,r,q⟩:=h; exact ⟨v,σ',H',I.unwish,r,q⟩
def PSs.nox {st:List Stmt} {t:TS} (h:PSs X.nox st t):PSs X st t:=λj4 s σ H D I hw =>
 wpAny_mono (h j4 s σ H D (I.wish _) hw) (λ_ _ q=>q.unwish) λ_ _ z=>False.elim z
end
section
variable {X:Cx} {st:Stmt} {j6:List Stmt} {t u:TS} {e:Expr} {te:TE} {pos:Pos}
def U7:TS:=λD σ H=>D.nx σ H
def tSeq (t u:TS):TS:=λD σ H=>t { D with nx:=u D } σ H
def Z8:PSs X [] U7:=λ_ _ σ H _ I h=>wpAny_execs_nil ⟨σ,H,I,h⟩
def Zf (h1:PS X st t) (h2:PSs X j6 u):PSs X (st :: j6) (tSeq t u):=by
 intro j4 s σ H D I h;refine wpAny_execs_cons (thn (h1 j4 s σ H { D with nx:=u D } I h) λf s1 q=>?_)
 cases f with
 | next =>
  obtain ⟨σ',H',I',q⟩:=q;exact h2 j4 s1 σ' H' D I' q
 | ret v=>exact q
 | brk=>exact q
 | cont=>exact q
def Zh (h1:PS X st t):PSs X [st] t:=by
 intro j4 s σ H D I h;refine wpAny_execs_cons (thn (h1 j4 s σ H D I h) λf s1 q=>?_)
 cases f with
 | next=>exact wpAny_execs_nil q
 | ret v=>exact q
 | brk=>exact q
 | cont=>exact q
def Zrs:TS:=λD σ H=>D.bk σ H
def Zn4:PS X (.Break pos) Zrs:=λ_ _ σ H _ I h=>wpAny_Break ⟨σ,H,I,h⟩
def Inv.quiet {j4:List (p:)} {σ:St} {H:Hp} {s:Shared} (I:Inv X j4 σ H s):interactive X.env=false:=by simp [interactive,I.ok.kind]
def Zpj (σ:St) (N:St->Hp->Prop) (_:V) (H:Hp):Prop:=N σ H
def Zpa (te:TE):TS:=λD σ H=>te σ H (Zpj σ D.nx)
def Z5 (he:PE X e te) (hs:swapsWith e none pos.line X.env=pure false:=by rfl):PS X (.Expr e pos) (Zpa te):=by
 intro j4 s σ H D I h;refine wpAny_Expr_any (thn (cj:) λv s1 zz2=>?_) I.quiet hs;obtain ⟨x,H1,I1,r1,q1⟩:=zz2;exact ⟨σ,H1,I1,q1⟩
def tRet (te:TE):TS:=λD σ H=>te σ H D.rt
def Zl (he:PE X e te):PS X (.Return (some e) pos) (tRet te):=by
 intro j4 s σ H D I h;refine wpAny_Return_some (thn (cj:) λv s1 zz3=>?_);obtain ⟨x,H1,I1,r1,q1⟩:=zz3;exact ⟨x,σ,H1,I1,r1,q1⟩
def kIf (t u:TS) (D:Ends) (σ:St) (b:Bool) (H:Hp):Prop:=if b=true then t D σ H else u D σ H
def tIfS (c:TT) (t u:TS):TS:=λD σ H=>c σ H (kIf t u D σ)
def Yj {c:Expr} {a b:List Stmt} {tc:TT} (hc:PT X c tc) (ha:PSs X a t) (hb:PSs X b u):PS X (.If c a b pos) (tIfS tc t u):=by
 intro j4 s σ H D I h;refine wpAny_If (thn (hc j4 s σ H _ I h) λd s1 j9=>?_);obtain ⟨H1,I1,q1⟩:=j9
 cases d with
 | true=>exact ha j4 s1 σ H1 D I1 q1
 | false=>exact hb j4 s1 σ H1 D I1 q1
def Zky:TS:=λ_ _ _=>False
def Zn3:PS X st Zky:=λ_ _ _ _ _ _ h=>h.elim
def Jb:PSs X sts Zky:=λ_ _ _ _ _ _ h=>h.elim
end
abbrev TG:=V->St->Hp->(St->Hp->Prop)->Prop
abbrev TGs:=List V->St->Hp->(St->Hp->Prop)->Prop
def PG (X:Cx) (ze:Expr) (t:TG):Prop :=
 ∀ j4 s σ H (v:V) (u:Value) (Q:St->Hp->Prop),Inv X j4 σ H s->RelV v u->t v σ H Q ->
  wpAny (d:) X.A (assign ze X.env u) (λ_ s'=>∃ σ' H',Inv X j4 σ' H' s'/\Q σ' H') X.xe s
def PGs (X:Cx) (ts:List Expr) (t:TGs):Prop :=
 ∀ j4 s σ H (vs:List V) (us:List Value) (Q:St->Hp->Prop),Inv X j4 σ H s->Vals vs us->t vs σ H Q ->
  wpAny (d:) X.A (assignInOrder ((assignEach ts X.env).map (·.2)) us) (λ_ s'=>∃ σ' H',Inv X j4 σ' H' s'/\Q σ' H') X.xe s
abbrev TSet:=V->V->V->Hp->(Hp->Prop)->Prop
def PSet (X:Cx) (t:TSet):Prop :=
 ∀ j4 s σ H (o i v:V) (ov iv u:Value) (Q:Hp->Prop),Inv X j4 σ H s->RelV o ov->RelV i iv->RelV v u->t o i v H Q ->
  wpAny (d:) X.A (setItem ov iv u) (λ_ s'=>∃ H',Inv X j4 σ H' s'/\Q H') X.xe s
abbrev TIp:=V->V->Hp->VK->Prop
def PIp (X:Cx) (op:Operator) (t:TIp):Prop :=
 ∀ j4 s σ H (x y:V) (v u:Value) (Q:VK),Inv X j4 σ H s->RelV x v->RelV y u->t x y H Q ->
  wpAny (d:) X.A (inplaceOp op v u) (bz:) X.xe s
section
variable {X:Cx} {pos:Pos}
def Zm (i:Nat):TG:=λv σ H Q=>Q (σ.set i (some v)) H
def Us (hN:X.N.Nodup) (hi:X.N[i]?=some x) (hx:Loc X.env.scope x) (hf:X.fn x=true\/X.env.scope.names.lookup x=some .local:=by first | exact .inl rfl | exact .inr rfl | assumption):PG X (.Name x pos) (Zm i):=by
 intro j4 s σ H v u Q I r h;exact wpAny_assign_Name (Qb I hN hi hx r (λs' I'=>⟨_,H,I',h⟩) hf)
def gNil:TGs:=λvs σ H Q=>vs=[]/\Q σ H
def Zt8 (t:TG) (u:TGs):TGs:=λvs σ H Q=>∃ v r,vs=v :: r/\t v σ H λσ' H'=>u r σ' H' Q
def Ym:PGs X [] gNil:=by
 intro j4 s σ H vs us Q I r h;obtain ⟨e,h⟩:=h;subst e;cases r;exact assignInOrder_nil ⟨σ,H,I,h⟩
def Zq {e:Expr} {es:List Expr} {t:TG} {u:TGs} (h1:PG X e t) (h2:PGs X es u)
  (hs:(assignEach (e :: es) X.env).map (·.2)=assign e X.env :: (dq:).map (·.2):=by rfl):PGs X (e :: es) (Zt8 t u):=by
 intro j4 s σ H vs us Q I r h;obtain ⟨v,vr,e1,h⟩:=h;subst e1
 cases r with
 | cons r rr =>
  rw [hs];refine assignInOrder_cons (thn (h1 j4 s σ H _ _ _ I r h) λ_ s1 j9=>?_);obtain ⟨σ1,H1,I1,q1⟩:=j9;exact h2 j4 s1 σ1 H1 _ _ Q I1 rr q1
def gTup (K:W.Frag) (n:Nat) (t:TGs):TG:=λv σ H Q=>∃ a xs,v=.ref a/\SqT K H a xs/\xs.length=n/\t xs σ H Q
def Wr (hc:X.calm=true) (h:PGs X es t)
  (hn:(dq:).length=n:=by rfl) (mh:(dq:).findIdx? (·.1)=none:=by rfl):PG X (.Tuple es k pos) (gTup X.K n t):=by
 intro j4 s σ H v u Q I r hw;obtain ⟨a,xs,e1,hq,hl,hw⟩:=hw;subst e1;cases r;obtain ⟨its,rv,ht,hz⟩:=I.tuple hq;refine assign_Tuple_tuple (ce:) ht (by simp [hn,<- hl,rv.length]) mh λh' hx=>?_;have I1:Inv X j4 σ H { s with heap:=h' }:=I.kept (t':=s.toks) λb o e=>hx b o (As (Ao e)) e;exact h j4 _ σ H xs _ Q I1 (by simpa using rv) hw
def gSub (to ti:TE) (t:TSet):TG:=λv σ H Q=>to σ H λo H1=>ti σ H1 λi H2=>t o i v H2 λH3=>Q σ H3
def Qy {o i:Expr} {to ti:TE} {t:TSet} (ho:PE X o to) (hi:PE X i ti) (hs:PSet X t)
  (ha:∀ v,assign (.Subscript o i pos) X.env v=(do
   let ov <- holding [v] (eval o X.env)
   let iv <- holding [v,ov] (eval i X.env)
   standAt pos
   holding [v,ov,iv] (setItem ov iv v)
   release [v,ov,iv] []):=by intro _; rfl):PG X (.Subscript o i pos) (gSub to ti t):=by
 intro j4 s σ H v u Q I r h;rw [ha];refine Al (wpAny_holding (thn (ho j4 s σ H _ I h) λov s1 j9=>?_));obtain ⟨x,H1,I1,r1,q1⟩:=j9;refine Al (wpAny_holding (thn (hi j4 s1 σ H1 _ I1 q1) λiv s2 j9=>?_));obtain ⟨y,H2,I2,r2,q2⟩:=j9;refine Al (wpAny_standAt (Al (wpAny_holding (thn (hs j4 s2 σ H2 x y v ov iv u _ I2 r1 r2 r q2) λ_ s3 j9=>?_))));obtain ⟨H3,I3,q3⟩:=j9;exact wpAny_release ⟨σ,H3,I3,q3⟩
def kAsg (g:TG) (σ:St) (N:St->Hp->Prop) (x:V) (H:Hp):Prop:=g x σ H N
def tAsg (te:TE) (g:TG):TS:=λD σ H=>te σ H (kAsg g σ D.nx)
def Xu {tg e:Expr} {te:TE} {g:TG} (he:PE X e te) (hg:PG X tg g) (hs:swapsWithSole [tg] e pos.line X.env=pure false:=by rfl) (hw:swappedStores [tg] e X.env=pure none:=by rfl)
  (h1:(assignEach [tg] X.env).map (·.2)=[assign tg X.env]:=by rfl):PS X (.Assign [tg] e pos) (tAsg te g):=by
 intro j4 s σ H D I h;refine wpAny_Assign_stores (thn (cj:) λv s1 zz4=>?_) hs hw;obtain ⟨x,H1,I1,r1,q1⟩:=zz4;rw [h1];exact thn (hg j4 s1 σ H1 x v _ I1 r1 q1) λ_ s2 q=>q
def Zr5 {i:Nat} {x:Str} {e:Expr} {te:TE} {ml:Pos} (hN:X.N.Nodup) (hi:X.N[i]?=some x) (hx:Loc X.env.scope x) (he:PE X e te) (hs:swapsWith e (some (.Name x ml)) pos.line X.env=pure false:=by rfl) (hf:X.fn x=true\/X.env.scope.names.lookup x=some .local:=by first | exact .inl rfl | exact .inr rfl | assumption) :
  PS X (.Assign [.Name x ml] e pos) (tAsg te (Zm i)):=by
 intro j4 s σ H D I h;refine wpAny_Assign_Name (thn (cj:) λv s1 zz5=>?_) hs;obtain ⟨y,H1,I1,r1,q1⟩:=zz5;exact Qb I1 hN hi hx r1 (λs2 I2=>⟨_,H1,I2,q1⟩) hf
def tPar (i j:Nat) (ta:TA):TS:=λD σ H=>ta σ H λvs H1=>∃ v w,vs=[v,w]/\D.nx ((σ.set i (some v)).set j (some w)) H1
def Zlk {i j:Nat} {x y:Str} {a b:Expr} {ta:TA} {px py pt:Pos} {kt k2 pt2} (hc:X.calm=true) (hN:X.N.Nodup) (hi:X.N[i]?=some x) (hj:X.N[j]?=some y) (hij:i≠j)
  (hx:X.env.scope.names.lookup x=some .local) (hy:X.env.scope.names.lookup y=some .local) (ha:PA X [a,b] ta)
  (hw:swappedStores [.Tuple [.Name x px,.Name y py] kt pt] (.Tuple [a,b] k2 pt2) X.env=pure (some [x,y]))
  (hs:swapsWithSole [.Tuple [.Name x px,.Name y py] kt pt] (.Tuple [a,b] k2 pt2) pos.line X.env=pure false:=by rfl) :
  PS X (.Assign [.Tuple [.Name x px,.Name y py] kt pt] (.Tuple [a,b] k2 pt2) pos) (tPar i j ta):=by
 intro j4 s σ H D I h;rw [exec_Assign_arm];refine Al (wpAny_standAt ?_);rw [hs];refine Al (ad:);rw [if_neg (c:)];refine Al (Tuple_ (thn (ha _ j4 s σ H _ I h) λus s1 j9=>?_));obtain ⟨vs,H1,I1,r1,q1⟩:=j9;obtain ⟨v,w,e1,q1⟩:=q1;subst e1
 obtain ⟨u1,u2,rfl,rv,ou⟩:∃ u1 u2,us=[u1,u2]/\RelV v u1/\RelV w u2:=by
  cases r1 with
  | cons p q =>
   cases q with
   | cons p' q' =>
    cases q';exact ⟨_,_,Y,p,p'⟩
 refine wpAny_newObj_type ?_ (by show 2<=sizeLine; decide);have I2:Inv X j4 σ H1 { s1 with heap:=s1.heap.push { cls:=.type "tuple",data:=.seq [u1,u2].toArray } }:=I1.kept (t':=s1.toks) λb o e=>Ak _ e;rw [hw];refine Al (ad:);show wpAny (d:) X.A (do rule "assign.swapped-stores"; let items <- unpackItems (.ref s1.heap.objs.size) 2 none; assignInOrder [λv=>bindName X.env y v,λv=>bindName X.env x v] items.reverse; pure Flow.next) _ _ _;refine Al (wpAny_rule (Al (unpackItems_tuple (items:=#[u1,u2]) (ce:) (IsTup.new s1.heap _) λh' oo=>?_)));have I3:=I2.kept (h':=h') (t':=s1.toks) λb o e=>oo b o (As (Ao e)) e;show wpAny _ _ (assignInOrder [λv=>bindName X.env y v,λv=>bindName X.env x v] [u2,u1] >>= λ_=>pure Flow.next) _ _ _;refine Al (assignInOrder_cons (wpAny_bindName (Qb I3 hN hj (.inl hy) ou (λs2 I4=>?_) (.inr hy))));refine assignInOrder_cons (wpAny_bindName (Qb I4 hN hi (.inl hx) rv (λs3 I5=>assignInOrder_nil (ad:)) (.inr hx)));rw [set_comm _ _ (Ne.symm hij)] at I5;exact ⟨_,H1,I5,q1⟩
def tAug (i:Nat) (te:TE) (ti:TIp):TS:=λD σ H=>∃ x,σ[i]?=some (some x)/\te σ H λy H1=>ti x y H1 λz H2=>D.nx (σ.set i (some z)) H2
def Zll {i:Nat} {x:Str} {e:Expr} {te:TE} {op:Operator} {ti:TIp} {ml:Pos} (hN:X.N.Nodup) (hi:X.N[i]?=some x) (hx:Loc X.env.scope x) (he:PE X e te) (ho:PIp X op ti) (hf:X.fn x=true\/X.env.scope.names.lookup x=some .local:=by first | exact .inl rfl | exact .inr rfl | assumption) :
  PS X (.AugAssign (.Name x ml) op e pos) (tAug i te ti):=by
 intro j4 s σ H D I h;obtain ⟨v,e1,h⟩:=h;obtain ⟨m,hn,hl⟩:=I.loc
 have vis:Vis X.env.scope x:=by rcases hx with k | k; exact .inl k; exact .inr (.inl k)
 obtain ⟨u,r,l⟩:=hl i x v hi e1 vis;refine wpAny_AugAssign_Name ?_;have go:wpAny (d:) X.A (eval e X.env) (λw s₂=>wpAny (d:) X.A (inplaceOp op u w) (λr s₃=>wpAny (d:) X.A (storeName X.env x r) (λ_=>SP X j4 D .next) X.xe s₃) X.xe s₂) X.xe s:=by
  refine thn (cj:) λw s1 j9=>?_
  obtain ⟨y,H1,I1,r1,q1⟩:=j9
  refine thn (ho j4 s1 σ H1 v y u w _ I1 r r1 q1) λz s2 j9=>?_
  obtain ⟨zv,H2,I2,r2,q2⟩:=j9
  exact Qb I2 hN hi hx r2 (λs3 I3=>⟨_,H2,I3,q2⟩) hf
 rcases l with ⟨hk,hm⟩ | ⟨hk,c,hc,hcell⟩
 ·exact wpAny_loadName_local I.ok.kind hk hn hm go
 ·rcases hk with hk | hk
  ·exact wpAny_loadName_cell I.ok.kind hk hc hcell go
  ·rcases hx with k | k
   ·have:X.env.scope.names.lookup x=some .free:=hk
    rw [k] at this; cases this
   ·have:X.env.scope.names.lookup x=some .free:=hk
    rw [k] at this; cases this
def ipI (f:Int->Int->Int):TIp:=λx y H Q=>∃ i j,x=.int i/\y=.int j/\Q (.int (f i j)) H
def Zst:PIp X .Add (ipI λi j=>i + j):=by
 intro j4 s σ H x y v u Q I r1 r2 h;obtain ⟨i,j,e1,e2,q⟩:=h;subst e1; subst e2;obtain ⟨t,rfl⟩:=r1;obtain ⟨t',rfl⟩:=r2;exact iadd_int ⟨.int _,H,I.tok _,⟨_,Y⟩,q⟩
def Zao (c:TT) (tb:TS):TS:=λD σ H=>∃ W:Nat->St->Hp->Prop,(∃ m,W m σ H)/\∀ m σ H,W m σ H ->
 c σ H λb H1=>if b=true then ∃ N:St->Hp->Prop,(∀ σ' H',N σ' H'->∃ m',m' < m/\W m' σ' H')/\tb { D with nx:=N,ct:=N,bk:=D.nx } σ H1 else D.nx σ H1
def Qg {c:Expr} {body:List Stmt} {tc:TT} {tb:TS} (hp:PassesOwn (d:) X.A X.env X.xe) (hc:PT X c tc) (hb:PSs X body tb):PS X (.While c body [] pos) (Zao tc tb):=by
 intro j4 s σ H D I h;obtain ⟨W,⟨m0,w0⟩,turn⟩:=h;refine wpAny_While (codeAny_whileLoop (λn s'=>∃ σ' H',Inv X j4 σ' H' s'/\W n σ' H') ?_ m0 ⟨σ,H,I,w0⟩);rintro n s1 ⟨σ1,H1,I1,w1⟩;refine wpAny_passesOwn hp (thn (hc j4 s1 σ1 H1 _ I1 (turn n σ1 H1 w1)) λb s2 j9=>?_);obtain ⟨H2,I2,q2⟩:=j9
 cases b with
 | true =>
  obtain ⟨N,hN,q2⟩:=q2;rw [if_pos rfl];refine wpAny_passesOwn hp (thn (hb j4 s2 σ1 H2 _ I2 q2) λf s3 q3=>?_)
  cases f with
  | next =>
   obtain ⟨σ3,H3,I3,n3⟩:=q3;obtain ⟨m',hm,w3⟩:=hN σ3 H3 n3;exact ⟨m',hm,σ3,H3,I3,w3⟩
  | cont =>
   obtain ⟨σ3,H3,I3,n3⟩:=q3;obtain ⟨m',hm,w3⟩:=hN σ3 H3 n3;exact ⟨m',hm,σ3,H3,I3,w3⟩
  | brk=>exact q3
  | ret v=>exact q3
 | false =>
  rw [if_neg Bool.false_ne_true];exact wpAny_execs_nil ⟨σ1,H2,I2,q2⟩
end
structure It where
 go:Nat->Hp->Prop
 yld:Nat->Hp->V->Hp->Prop
 stop:Nat->Hp->Prop
def FpOk (X:Cx) (j4:List (p:)) (H:Hp) (b:Addr):Prop :=
 H b=none/\b≠X.env.locals/\b ∉ X.fs/\(b∈X.ex\/X.s₀.heap.objs.size<=b)/\(df:)/\∀ p∈X.pn ++ j4,p.1≠b
def Inv.fpOk {X:Cx} {j4:List (p:)} {σ:St} {H H':Hp} {s:Shared} {b:Addr} (I:Inv X j4 σ H s) (hb:s.heap.objs.size<=b) (hn:H' b=none):FpOk X j4 H' b:=by
 refine ⟨hn,Nat.ne_of_gt (Ag I.lt hb),I.nofs hb,.inr (Nat.le_trans I.sz hb),λx c e z=>?_,λp hp z=>?_⟩
 ·obtain ⟨v,q⟩:=I.cell x c e
  exact absurd (Ag q.lt (by rw [z]; exact hb)) (b9:)
 ·exact absurd (Ag (Ao (I.pin p hp).1) (by rw [z]; exact hb)) (b9:)
structure Turn (P:Program) (w:World) (K:W.Frag) (tg:Expr) (J:It) (fp:List Addr) (it:Addr) (tn:Nat->Heap->Prop):Prop where
 mem:it∈fp
 obj:∀ i h,tn i h->∀ b∈fp,∃ o,h.get? b=some o/\∀ v,o.data≠.cell v
 keep:∀ i h h',tn i h->(∀ b∈fp,∀ o,h.get? b=some o->h'.get? b=some o)->tn i h'
 item:∀ (X:Cx),X.prog=P->X.w=w->X.K=K->X.calm=true->∀ (i:Nat) (j4:List (p:)) (s:Shared) (σ:St) (H:Hp) (E:Value->Shared->Prop),Inv X j4 σ H s->(∀ b∈fp,FpOk X j4 H b)->tn i s.heap->J.go i H ->
  wpAny (W:) X.A (pyNext (.ref it)) (λr s1=>∃ u,r=some u /\
   wpAny (W:) X.A (letOwnedTupleGo tg (.ref it) u) (λ_ s2=>∃ x H',Inv X j4 σ H' s2/\RelV x u/\J.yld i H x H'/\tn (i + 1) s2.heap/\∀ b∈fp,H' b=none) E s1) E s
 done:∀ (X:Cx),X.prog=P->X.w=w->X.K=K->X.calm=true->∀ (i:Nat) (j4:List (p:)) (s:Shared) (σ:St) (H:Hp) (E:Value->Shared->Prop),Inv X j4 σ H s->(∀ b∈fp,FpOk X j4 H b)->tn i s.heap->J.stop i H ->
  wpAny (W:) X.A (pyNext (.ref it)) (λr s1=>r=none/\Inv X j4 σ H s1) E s
 self:∀ (A:Around) (i:Nat) (s:Shared) (Q:Value->Shared->Prop) (E:Value->Shared->Prop),tn i s.heap->Q (.ref it) s->wpAny (W:) A (pyIter (.ref it)) Q E s
abbrev TI:=St->Hp->(It->Hp->Prop)->Prop
def PIE (X:Cx) (j4:List (p:)) (σ:St) (tg:Expr) (R:It->Hp->Prop) (zr:Value) (s2:Shared):Prop :=
 ∃ (it:Addr) (fp:List Addr) (tn:Nat->Heap->Prop) (J:It) (H':Hp),zr=.ref it/\Inv X j4 σ H' s2/\Turn X.prog X.w X.K tg J fp it tn/\tn 0 s2.heap/\(∀ b∈fp,FpOk X j4 H' b)/\R J H'
def PI (X:Cx) (tg iter:Expr) (wi:TI):Prop :=
 ∀ j4 s σ H (R:It->Hp->Prop),Inv X j4 σ H s->wi σ H R ->
  wpAny (d:) X.A (eval iter X.env) (λv s1=>wpAny (d:) X.A (pyIter v) (PIE X j4 σ tg R) X.xe s1) X.xe s
def Gu {s:Shared} {o:Obj} (ho:s.heap.get? it=some o) (hc:o.cls=.type n) (hd:o.data=.fields vs)
    (hn:(c4:).contains n=false) (hQ:Q () s):wpAny M A (letOwnedTupleGo tg (.ref it) u) Q E s:=by
  unfold letOwnedTupleGo
  cases tg <;> first
    | exact wpAny_pure hQ
    | (cases u <;> first
        | exact wpAny_pure hQ
        | (refine Al (wpAny_load ho ?_)
           rw [hc,hd];show wpAny M A (if ((c4:).contains n && vs[0]? == some (rawInt _))=true then _ else _) Q E s;rw [if_neg (by intro h; rw [hn,Bool.false_and] at h; cases h)]
           exact wpAny_pure hQ))
noncomputable def Itl (K:W.Frag) (a:Addr):It :=
 ⟨λi H=>∃ xs x,SqL K H a xs/\xs[i]?=some x,λi H x H'=>H'=H/\∀ xs,SqL K H a xs->xs[i]?=some x,λi H=>∃ xs,SqL K H a xs/\xs.length<=i⟩
noncomputable def Itt (K:W.Frag) (a:Addr):It :=
 ⟨λi H=>∃ xs x,SqT K H a xs/\xs[i]?=some x,λi H x H'=>H'=H/\∀ xs,SqT K H a xs->xs[i]?=some x,λi H=>∃ xs,SqT K H a xs/\xs.length<=i⟩
noncomputable def Itr (lo:Int) (n:Nat):It:=⟨λi _=>i < n,λi H x H'=>H'=H/\x=.int (lo + i),λi _=>n<=i⟩
def Zkw {P:Program} {w:World} {K:W.Frag} {tg:Expr} (a it:Addr):Turn P w K tg (Itl K a) [it] it (λi h=>h.IsListIter it a i) where
 mem:=by simp
 obj:=λi h st b hb=>by
  have e:b=it:=by simpa using hb
  subst e;obtain ⟨o,e,c,d⟩:=st;exact (au:)
 keep:=λi h h' st k=>st.at λo e=>k it (by simp) o e
 item:=by
  intro X hP hw hK hc i j4 s σ H E I hf st hg;subst hP hw hK;obtain ⟨xs,x,hq,hx⟩:=hg;obtain ⟨its,rv,p,hz⟩:=I.list hq;obtain ⟨u,hu,ru⟩:=rv.get hx;obtain ⟨f0,f1,f2,f3,f4,f5⟩:=hf it (by simp);refine wpAny_pyNext_list_item st p.isList (x:=u) (by simpa using hu) λh' on sb=>?_;have I1:Inv X j4 σ H { s with heap:=h' }:=I.turned (t':=s.toks) (λb o hb e=>(sb.2 b hb).trans e) f0 f1 f3 f4 f5;obtain ⟨o,e,c,d⟩:=id on;exact ⟨u,Y,Gu (s:={ s with heap:=h' }) e c d (c:) ⟨x,H,I1,ru,⟨Y,λys hy=>by rw [I.list_inj hy hq]; exact hx⟩,on,λb hb=>(hf b hb).1⟩⟩
 done:=by
  intro X hP hw hK hc i j4 s σ H E I hf st hg;subst hP hw hK;obtain ⟨xs,hq,hx⟩:=hg;obtain ⟨its,rv,p,hz⟩:=I.list hq;obtain ⟨f0,f1,f2,f3,f4,f5⟩:=hf it (by simp);have hl:=rv.length;exact wpAny_pyNext_list_end (ce:) st p.isList (by simp; lia) λh' eb=>(G:)
 self:=λ_ _ _ _ _ st h=>wpAny_pyIter_listiter st h
def Zi9 {P:Program} {w:World} {K:W.Frag} {tg:Expr} (a it:Addr):Turn P w K tg (Itt K a) [it] it (λi h=>h.IsTupleIter it a i) where
 mem:=by simp
 obj:=λi h st b hb=>by
  have e:b=it:=by simpa using hb
  subst e;obtain ⟨o,e,c,d⟩:=st;exact (au:)
 keep:=λi h h' st k=>st.at λo e=>k it (by simp) o e
 item:=by
  intro X hP hw hK hc i j4 s σ H E I hf st hg;subst hP hw hK;obtain ⟨xs,x,hq,hx⟩:=hg;obtain ⟨its,rv,p,hz⟩:=I.tuple hq;obtain ⟨u,hu,ru⟩:=rv.get hx;obtain ⟨f0,f1,f2,f3,f4,f5⟩:=hf it (by simp);refine wpAny_pyNext_tuple_item st (show s.heap.IsTuple a its.toArray from p) (x:=u) (by simpa using hu) λh' on sb=>?_;have I1:Inv X j4 σ H { s with heap:=h' }:=I.turned (t':=s.toks) (λb o hb e=>(sb.2 b hb).trans e) f0 f1 f3 f4 f5;obtain ⟨o,e,c,d⟩:=id on;exact ⟨u,Y,Gu (s:={ s with heap:=h' }) e c d (c:) ⟨x,H,I1,ru,⟨Y,λys hy=>by rw [I.tuple_inj hy hq]; exact hx⟩,on,λb hb=>(hf b hb).1⟩⟩
 done:=by
  intro X hP hw hK hc i j4 s σ H E I hf st hg;subst hP hw hK;obtain ⟨xs,hq,hx⟩:=hg;obtain ⟨its,rv,p,hz⟩:=I.tuple hq;obtain ⟨f0,f1,f2,f3,f4,f5⟩:=hf it (by simp);have hl:=rv.length;exact wpAny_pyNext_tuple_end (ce:) st (show s.heap.IsTuple a its.toArray from p) (by simp; lia) λh' eb=>(G:)
 self:=λ_ _ _ _ _ st h=>wpAny_pyIter_tupleiter st h
def Zja {P:Program} {w:World} {K:W.Frag} {tg:Expr} (it:Addr) (lo:Int) (n:Nat):Turn P w K tg (Itr lo n) [it] it (λi h=>IsRangeIter h it (lo + (i:Nat) * 1) ((n:Int) - (i:Nat)) 1) where
 mem:=by simp
 obj:=λi h st b hb=>by
  have e:b=it:=by simpa using hb
  subst e;exact ⟨_,st,λv z=>by
   have z':Data.fields _=Data.cell v:=z
   cases z'⟩
 keep:=λi h h' st k=>k it (by simp) _ st
 item:=by
  intro X hP hw hK hc i j4 s σ H E I hf st hg;subst hP hw hK;obtain ⟨f0,f1,f2,f3,f4,f5⟩:=hf it (by simp);have W:=Walks.range (prog:=X.prog) (w:=X.w) (ce:) it lo 1 n;refine W.item i s _ _ hg st λv h' tk hv on kk=>?_;obtain ⟨t,rfl⟩:=hv;have I1:Inv X j4 σ H { s with heap:=h',toks:=tk }:=I.turned (λb o hb e=>kk b o (by simpa using hb) e) f0 f1 f3 f4 f5;refine ⟨_,Y,Gu (s:={ s with heap:=h',toks:=tk }) (n:="range_iterator") on rfl rfl (c:) ⟨.int (lo + i),H,I1,⟨t,?_⟩,⟨rfl,rfl⟩,on,λb hb=>(hf b hb).1⟩⟩;rw [Int.mul_one]
 done:=by
  intro X hP hw hK hc i j4 s σ H E I hf st hg;subst hP hw hK;obtain ⟨f0,f1,f2,f3,f4,f5⟩:=hf it (by simp);exact wpAny_pyNext_range_end (ce:) st (by have:n<=i:=hg; lia) λh' eb=>(G:)
 self:=λ_ _ _ _ _ st h=>wpAny_pyIter_rangeiter st h
section
variable {X:Cx} {tg:Expr}
def Zt4 (K:W.Frag) (tl:TE):TI:=λσ H R=>tl σ H λx H1=>∃ a,x=.ref a/\(∃ xs,SqL K H1 a xs)/\R (Itl K a) H1
def iTup (K:W.Frag) (tl:TE):TI:=λσ H R=>tl σ H λx H1=>∃ a,x=.ref a/\(∃ xs,SqT K H1 a xs)/\R (Itt K a) H1
def Yh {l:Expr} {tl:TE} (hl:PE X l tl):PI X tg l (Zt4 X.K tl):=by
 intro j4 s σ H R I h;refine thn (hl j4 s σ H _ I h) λv s1 j9=>?_;obtain ⟨x,H1,I1,r1,q1⟩:=j9;obtain ⟨a,e,⟨xs,hq⟩,q⟩:=q1;subst e;cases r1;obtain ⟨its,rv,p,hz⟩:=I1.list hq;refine wpAny_pyIter_list p.isList ?_;refine ⟨s1.heap.objs.size,[s1.heap.objs.size],_,_,H1,Y,I1.kept (t':=s1.toks) λb o e=>Ak _ e,Zkw a _,⟨_,Ap _ Y,Y,Y⟩,λb hb=>?_,q⟩;have e:b=s1.heap.objs.size:=by simpa using hb
 subst e;exact I1.fpOk (An _) (eo:)
def Zlp {l:Expr} {tl:TE} (hl:PE X l tl):PI X tg l (iTup X.K tl):=by
 intro j4 s σ H R I h;refine thn (hl j4 s σ H _ I h) λv s1 j9=>?_;obtain ⟨x,H1,I1,r1,q1⟩:=j9;obtain ⟨a,e,⟨xs,hq⟩,q⟩:=q1;subst e;cases r1;obtain ⟨its,rv,p,hz⟩:=I1.tuple hq;refine wpAny_pyIter_tuple (show s1.heap.IsTuple a its.toArray from p) ?_;refine ⟨s1.heap.objs.size,[s1.heap.objs.size],_,_,H1,Y,I1.kept (t':=s1.toks) λb o e=>Ak _ e,Zi9 a _,⟨_,Ap _ Y,Y,Y⟩,λb hb=>?_,q⟩;have e:b=s1.heap.objs.size:=by simpa using hb
 subst e;exact I1.fpOk (An _) (eo:)
def Zn0 {j4:List (p:)} {σ:St} {H:Hp} {s:Shared} {R:It->Hp->Prop} {E:Value->Shared->Prop} {lo hi:Int} {t u v:Tok} {tk:Nat} (I:Inv X j4 σ H s) (h1:-(2 ^ 62)<=lo) (h2:lo < 2 ^ 62) (h3:-(2 ^ 62)<=hi) (h4:hi < 2 ^ 62)
  (q:R (Itr lo (hi - lo).toNat) H):wpAny (d:) X.A (pyIter (x:)) (PIE X j4 σ tg R) E { s with heap:=s.heap.push { cls:=.type "range",data:=.fields #[.int lo t,.int hi u,.int 1 v] },toks:=tk }:=by
 refine wpAny_pyIter_range (IsRange.new ..) (small_one h1 h2 h3 h4) ?_;have I1:Inv X j4 σ H { s with heap:=s.heap.push { cls:=.type "range",data:=.fields #[.int lo t,.int hi u,.int 1 v] },toks:=tk }:=I.kept λb o e=>Ak _ e;refine ⟨(bw:).objs.size,[(bw:).objs.size],_,_,H,rfl,
  I1.kept (t':=tk) λb o e=>Ak _ e,Zja _ lo (hi - lo).toNat,?_,λb hb=>?_,q⟩
 ·have e1:lo + (ca:) * 1=lo:=by simp
  have e2:(((hi - lo).toNat:Nat):Int) - (ca:)=Builtin.Range.rangeSize lo hi 1:=by rw [rangeSize_one]; split <;> lia
  show IsRangeIter _ _ (lo + (ca:) * 1) ((((hi - lo).toNat:Nat):Int) - (ca:)) 1;rw [e1,e2];exact Ap _ Y
 ·have e:b=(bw:).objs.size:=by simpa using hb
  subst e;exact I1.fpOk (An _) (eo:)
def Zt2 (ta:TA):TI:=λσ H R=>ta σ H λvs H1=>∃ j:Int,vs=[.int j]/\-(2 ^ 62)<=j/\j < 2 ^ 62/\R (Itr 0 j.toNat) H1
def Je {a:Expr} {ta:TA} {p pos:Pos} (hg:Gl X "range") (hm:X.mg "range"=none) (ha:PA X [a] ta) (hs:starEach [a] X.env=[(false,eval a X.env)]:=by rfl):PI X tg (.Call (.Name "range" p) [a] [] pos) (Zt2 ta):=by
 intro j4 s σ H R I h;refine Call_ (We I hg hm boot_range (PyProof.Rows.callWith_type1 (thn (co:) λus s1 zz6=>?_) hs Y));obtain ⟨vs,H1,I1,r1,q1⟩:=zz6;obtain ⟨j,e,q1,q2,q⟩:=q1;subst e
 cases r1 with
 | cons r rr =>
  cases rr;obtain ⟨t,rfl⟩:=r;exact call_range_1 (Zn0 I1 (by lia) (by lia) q1 q2 (by simpa using q))
def kFor (g:TG) (tb:TS) (D:Ends) (σ:St) (J:It) (H1:Hp):Prop:=∃ W:Nat->Nat->St->Hp->Prop,(∃ m,W 0 m σ H1)/\∀ i m σ H,W i m σ H ->
 (J.stop i H/\D.nx σ H)\/(J.go i H/\∃ N:St->Hp->Prop,(q:)/\∀ x H',J.yld i H x H'->g x σ H' λσ2 H2=>tb { D with nx:=N,ct:=N,bk:=D.nx } σ2 H2)
def tFor (wi:TI) (g:TG) (tb:TS):TS:=λD σ H=>wi σ H (kFor g tb D σ)
noncomputable def Ur (fp:List Addr) (h:Heap):List (p:):=fp.filterMap λb=>(h.get? b).map λo=>(b,o)
def Jj {fp:List Addr} {h:Heap} {b:Addr} {o:Obj} (hb:b∈fp) (e:h.get? b=some o):(b,o)∈Ur fp h:=mem_filterMap.mpr ⟨b,hb,by rw [e]; rfl⟩
def Zl9 {h:Heap} {p:Addr × Obj} (hp:p∈Ur fp h):p.1∈fp/\h.get? p.1=some p.2:=by
 obtain ⟨b,hb,e⟩:=mem_filterMap.mp hp
 cases q:h.get? b with
 | none=>rw [q] at e; cases e
 | some o =>
  rw [q] at e;have e':(b,o)=p:=Ax e;subst e';exact ⟨hb,q⟩
def Inv.pinned {j4:List (p:)} {σ:St} {H:Hp} {s:Shared} {fp:List Addr} (I:Inv X j4 σ H s) (hf:∀ b∈fp,FpOk X j4 H b) (ho:∀ b∈fp,∃ o,s.heap.get? b=some o/\∀ v,o.data≠.cell v):Inv X (j4 ++ Ur fp s.heap) σ H s :=
 I.pins_of λp hp=>(mem_append.mp hp).elim (λz=>I.pin p (mem_append_right _ z)) λz=>by
  obtain ⟨hb,e⟩:=Zl9 z;obtain ⟨f0,f1,f2,_⟩:=hf p.1 hb;obtain ⟨o,e',d⟩:=ho p.1 hb;rw [e] at e'; cases e';exact ⟨e,f0,f1,f2,d⟩
def Inv.unpinned {j4 pl:List (p:)} {σ:St} {H:Hp} {s:Shared} (I:Inv X (j4 ++ pl) σ H s):Inv X j4 σ H s:=I.pins_of λp hp=>I.pin p (mem_append_right _ (mem_append_left _ hp))
def Wn {iter:Expr} {body:List Stmt} {wi:TI} {g:TG} {tb:TS} {pos:Pos} (hp:PassesOwn (d:) X.A X.env X.xe) (hc:X.calm=true) (hi:PI X tg iter wi) (hg:PG X tg g) (hb:PSs X body tb)
  (hs:∀ x,foldedSetIterable iter X.env x=pure x:=by intro _; rfl):PS X (.For tg iter body [] pos) (tFor wi g tb):=by
 intro j4 s σ H D I h;refine wpAny_For (thn (c7:) λv s1 h1=>thn h1 λzr s2 h2=>?_) hs;obtain ⟨it,fp,tn,J,H2,e,I2,T,mf,f2,W,⟨m0,w0⟩,turn⟩:=h2;subst e;have nz:∀ {H':Hp},(∀ b∈fp,H' b=none)->∀ b∈fp,FpOk X j4 H' b:=λhn b hb=>⟨hn b hb,(f2 b hb).2⟩;refine codeAny_forLoop_any (bb:) ?_ m0 ⟨0,σ,H2,I2,mf,λb hb=>(f2 b hb).1,w0⟩;rintro n s3 ⟨i,σ3,H3,I3,o0,w6,w3⟩
 rcases turn i n σ3 H3 w3 with ⟨stop,qn⟩ | ⟨go,N,hN,step⟩
 ·refine wpAny_passesOwn hp (thn (T.done X rfl rfl rfl hc i j4 s3 σ3 H3 X.xe I3 (nz w6) o0 stop) λr s4 ⟨hr,I4⟩=>?_)
  subst hr;exact wpAny_execs_nil ⟨σ3,H3,I4,qn⟩
 ·refine wpAny_passesOwn hp (thn (T.item X rfl rfl rfl hc i j4 s3 σ3 H3 X.xe I3 (nz w6) o0 go) λr s4 ⟨u,hr,h4⟩=>?_)
  subst hr;refine wpAny_passesOwn hp (thn h4 λ_ s5 j9=>?_);obtain ⟨x,H5,I5,r5,y5,tz,fr5⟩:=j9;have I5':=I5.pinned (nz fr5) (T.obj _ _ tz);refine wpAny_passesOwn hp (thn (hg _ s5 σ3 H5 x u _ I5' r5 (step x H5 y5)) λ_ s6 j9=>?_);obtain ⟨σ6,H6,I6,q6⟩:=j9;refine wpAny_passesOwn hp (thn (hb _ s6 σ6 H6 _ I6 q6) λf s7 q7=>?_);have again:∀ {σ7:St} {H7:Hp},Inv X (j4 ++ Ur fp s5.heap) σ7 H7 s7->N σ7 H7->∃ m,m < n/\∃ i σ' H',Inv X j4 σ' H' s7/\tn i s7.heap/\(∀ b∈fp,H' b=none)/\W i m σ' H':=λ{σ7 H7} I7 n7=>by
   obtain ⟨m',hm,w7⟩:=hN σ7 H7 n7
   refine (bn:)
   obtain ⟨o,e,d⟩:=T.obj _ _ tz b hb
   exact (P:).2.1
  cases f with
  | next=>obtain ⟨σ7,H7,I7,n7⟩:=q7; exact again I7 n7
  | cont=>obtain ⟨σ7,H7,I7,n7⟩:=q7; exact again I7 n7
  | brk=>obtain ⟨σ7,H7,I7,q7⟩:=q7; exact ⟨σ7,H7,I7.unpinned,q7⟩
  | ret v=>obtain ⟨x7,σ7,H7,I7,r7,q7⟩:=q7; exact ⟨x7,σ7,H7,I7.unpinned,r7,q7⟩
end
def Op {K:W.Frag} {a:Addr} {xs:List V} {g:TG} {tb:TS} {D:Ends} {σ:St} {H:Hp} (Pv:Nat->St->Hp->Prop) (h0:Pv 0 σ H) (hl:∀ i σ H,i<=xs.length->Pv i σ H->SqL K H a xs)
  (hs:∀ i x σ H,xs[i]?=some x->Pv i σ H->g x σ H λσ2 H2=>tb { D with nx:=Pv (i + 1),ct:=Pv (i + 1),bk:=D.nx } σ2 H2) (hd:∀ σ H,Pv xs.length σ H->D.nx σ H) :
  ∃ W:Nat->Nat->St->Hp->Prop,(de:)/\∀ i m σ H,W i m σ H ->
   ((Itl K a).stop i H/\D.nx σ H)\/((Itl K a).go i H/\∃ N:St->Hp->Prop,(q:)/\∀ x H',(Itl K a).yld i H x H'->g x σ H' λσ2 H2=>tb { D with nx:=N,ct:=N,bk:=D.nx } σ2 H2):=by
 refine (u:);rintro i m σ H ⟨rfl,hi,p⟩;have q:=hl i σ H hi p;by_cases kn:i < xs.length
 ·refine .inr (M:)
  obtain ⟨e,y⟩:=y;subst e;exact hs i x σ _ (y xs q) p
 ·have e:i=xs.length:=by lia
  subst e;exact .inl ⟨⟨xs,q,An _⟩,hd σ H p⟩
def Ga {lo:Int} {n:Nat} {g:TG} {tb:TS} {D:Ends} {σ:St} {H:Hp} (Pv:Nat->St->Hp->Prop) (h0:Pv 0 σ H)
  (hs:∀ i σ H,i < n->Pv i σ H->g (.int (lo + i)) σ H λσ2 H2=>tb { D with nx:=Pv (i + 1),ct:=Pv (i + 1),bk:=D.nx } σ2 H2) (hd:∀ σ H,Pv n σ H->D.nx σ H) :
  ∃ W:Nat->Nat->St->Hp->Prop,(de:)/\∀ i m σ H,W i m σ H ->
   ((Itr lo n).stop i H/\D.nx σ H)\/((Itr lo n).go i H/\∃ N:St->Hp->Prop,(q:)/\∀ x H',(Itr lo n).yld i H x H'->g x σ H' λσ2 H2=>tb { D with nx:=N,ct:=N,bk:=D.nx } σ2 H2):=by
 refine (a2:);rintro i m σ H ⟨rfl,hi,p⟩;by_cases kn:i < n
 ·refine .inr (aq:)
  obtain ⟨e,y⟩:=y;subst e y;exact hs i σ _ kn p
 ·have e:i=n:=by lia
  subst e;exact .inl ⟨An _,hd σ H p⟩
abbrev R2:=V->V->Hp->VK->Prop
def OpR (X:Cx) (f:Value->Value->Sem Value) (r:R2):Prop :=
 ∀ j4 s σ H (x y:V) (v u:Value) (Q:VK),Inv X j4 σ H s->RelV x v->RelV y u->r x y H Q ->
  wpAny (d:) X.A (f v u) (bz:) X.xe s
def UnR (X:Cx) (f:Value->Sem Value) (r:V->Hp->VK->Prop):Prop :=
 ∀ j4 s σ H (x:V) (v:Value) (Q:VK),Inv X j4 σ H s->RelV x v->r x H Q ->
  wpAny (d:) X.A (f v) (bz:) X.xe s
def Y2 (X:Cx) (f:Value) (r:List V->Hp->VK->Prop):Prop :=
 ∀ j4 s σ H (xs:List V) (us:List Value) (Q:VK),Inv X j4 σ H s->Vals xs us->r xs H Q ->
  wpAny (d:) X.A (call f us) (bz:) X.xe s
def TruR (X:Cx) (r:V->Hp->(Bool->Hp->Prop)->Prop):Prop :=
 ∀ j4 s σ H (x:V) (v:Value) (Q:Bool->Hp->Prop),Inv X j4 σ H s->RelV x v->r x H Q ->
  wpAny (d:) X.A (truthy v) (TP X j4 σ Q) X.xe s
def kOp2 (r:R2) (x:V) (Q:VK) (y:V) (H:Hp):Prop:=r x y H Q
def kOp (r:R2) (tb:TE) (σ:St) (Q:VK) (x:V) (H:Hp):Prop:=tb σ H (kOp2 r x Q)
def tOp (r:R2) (ta tb:TE):TE:=λσ H Q=>ta σ H (kOp r tb σ Q)
def kUn (r:V->Hp->VK->Prop) (Q:VK) (x:V) (H:Hp):Prop:=r x H Q
def tUn (r:V->Hp->VK->Prop) (ta:TE):TE:=λσ H Q=>ta σ H (kUn r Q)
def MI2c (C:Int->Int->Prop) (g:Int->Int->V) (x y:V) (H:Hp) (Q:VK):Prop:=match x,y with | .int i,.int j=>C i j/\Q (g i j) H | _,_=>False
def MI2c.ex {C:Int->Int->Prop} {g:Int->Int->V} {x y:V} {H:Hp} {Q:VK} (h:MI2c C g x y H Q):∃ i j,x=.int i/\y=.int j/\C i j/\Q (g i j) H:=match x,y,h with | .int i,.int j,⟨a,b⟩=>⟨i,j,rfl,rfl,a,b⟩
def rI (C:Int->Int->Prop) (g:Int->Int->V):R2:=MI2c C g
def MI2 (g:Int->Int->V) (x y:V) (H:Hp) (Q:VK):Prop:=match x,y with | .int i,.int j=>Q (g i j) H | _,_=>False
def MI2.ex {g:Int->Int->V} {x y:V} {H:Hp} {Q:VK} (h:MI2 g x y H Q):∃ i j,x=.int i/\y=.int j/\Q (g i j) H:=match x,y,h with | .int i,.int j,h=>⟨i,j,rfl,rfl,h⟩
def rI0 (g:Int->Int->V):R2:=MI2 g
def rU (g:Int->V):V->Hp->VK->Prop:=λx H Q=>∃ i,x=.int i/\Q (g i) H
section
variable {X:Cx} {a b c:Expr} {ta tb tc:TE} {pos:Pos}
def binT (ha:PE X a ta) (hb:PE X b tb) {j4:List (p:)} {s:Shared} {σ:St} {H:Hp} {R:V->V->Hp->Prop} (I:Inv X j4 σ H s)
  (h:ta σ H λx H1=>tb σ H1 λy H2=>R x y H2) {Q:Value->Shared->Prop} {f:Value->Value->Sem Value}
  (hf:∀ v u s2 x y H2,Inv X j4 σ H2 s2->RelV x v->RelV y u->R x y H2->wpAny (d:) X.A (f v u) Q X.xe s2) :
  wpAny (d:) X.A (eval a X.env) (λv s₁=>wpAny (d:) X.A (eval b X.env) (λu s₂=>wpAny (d:) X.A (f v u) Q X.xe s₂) X.xe s₁) X.xe s:=by
 refine thn (a8:) λv s1 j9=>?_;obtain ⟨x,H1,I1,r1,q1⟩:=j9;refine thn (hb j4 s1 σ H1 _ I1 q1) λu s2 j9=>?_;obtain ⟨y,H2,I2,r2,q2⟩:=j9;exact hf v u s2 x y H2 I2 r1 r2 q2
def Zi (ho:OpR X (binaryOp op) r) (ha:PE X a ta) (hb:PE X b tb):PE X (.BinOp a op b pos) (tOp r ta tb):=by
 intro j4 s σ H Q I h;exact wpAny_BinOp (binT ha hb I h λv u s2 x y H2 I2 rx ry q=>ho j4 s2 σ H2 x y v u Q I2 rx ry q)
def Zpf {op:UnaryOp} {r:V->Hp->VK->Prop} (ho:UnR X (unaryOp op) r) (ha:PE X a ta):PE X (.UnaryOp op a pos) (tUn r ta):=by
 intro j4 s σ H Q I h;refine UnaryOp_ (thn (a8:) λv s1 xc=>?_);obtain ⟨x,H1,I1,r1,q1⟩:=xc;exact ho j4 s1 σ H1 x v Q I1 r1 q1
def opI {g:Int->Int->Int}
  (rule:∀ (i j:Int) (t u:Tok) (s:Shared) (Q:Value->Shared->Prop) (E:Value->Shared->Prop),C i j->Q (.int (g i j) s.toks) { s with toks:=s.toks + 1 }->wpAny (d:) X.A (f (.int i t) (.int j u)) Q E s) :
  OpR X f (rI C λi j=>.int (g i j)):=by
 intro j4 s σ H x y v u Q I rx ry h;obtain ⟨i,j,rfl,rfl,hc,q⟩:=MI2c.ex h;obtain ⟨t,rfl⟩:=rx;obtain ⟨t',rfl⟩:=ry;exact rule i j t t' s _ _ hc ⟨.int (g i j),H,I.tok _,⟨_,Y⟩,q⟩
def opI0 {g:Int->Int->Int}
  (rule:∀ (i j:Int) (t u:Tok) (s:Shared) (Q:Value->Shared->Prop) (E:Value->Shared->Prop),Q (.int (g i j) s.toks) { s with toks:=s.toks + 1 }->wpAny (d:) X.A (f (.int i t) (.int j u)) Q E s) :
  OpR X f (rI0 λi j=>.int (g i j)):=by
 intro j4 s σ H x y v u Q I rx ry h;obtain ⟨i,j,rfl,rfl,q⟩:=MI2.ex h;obtain ⟨t,rfl⟩:=rx;obtain ⟨t',rfl⟩:=ry;exact rule i j t t' s _ _ ⟨.int (g i j),H,I.tok _,⟨_,Y⟩,q⟩
def opB0 {g:Int->Int->Bool}
  (rule:∀ (i j:Int) (t u:Tok) (s:Shared) (Q:Value->Shared->Prop) (E:Value->Shared->Prop),Q (.bool (g i j)) s->wpAny (d:) X.A (f (.int i t) (.int j u)) Q E s) :
  OpR X f (rI0 λi j=>.bl (g i j)):=by
 intro j4 s σ H x y v u Q I rx ry h;obtain ⟨i,j,rfl,rfl,q⟩:=MI2.ex h;obtain ⟨t,rfl⟩:=rx;obtain ⟨t',rfl⟩:=ry;exact rule i j t t' s _ _ ⟨.bl (g i j),H,I,Y,q⟩
def CDiv (i j:Int):Prop:=0 < j/\j < 1073741824
def CPow (i j:Int):Prop:=0<=j/\j<=1000000/\i.natAbs < 2 ^ 64
def CMul (i j:Int):Prop:=(-(2 ^ 64) < i/\i < 2 ^ 64)\/(-(2 ^ 64) < j/\j < 2 ^ 64)
def CMul.ok {i j:Int} (h:CMul i j):IntMulOk i j:=by
 rcases h with ⟨h1,h2⟩ | ⟨h1,h2⟩
 ·exact .of_left (intBits_le_64 h1 h2)
 ·exact .of_right (intBits_le_64 h1 h2)
def Yi:OpR X (binaryOp .Add) (rI0 λi j=>.int (i + j)):=opI0 λ_ _ _ _ _ _ _ q=>add_int q
def Qz:OpR X (binaryOp .Sub) (rI0 λi j=>.int (i - j)):=opI0 λ_ _ _ _ _ _ _ q=>sub_int q
def Wy:OpR X (binaryOp .Mult) (rI CMul λi j=>.int (i * j)):=opI λ_ _ _ _ _ _ _ hc q=>mul_int q hc.ok
def Y5:OpR X (binaryOp .FloorDiv) (rI CDiv λi j=>.int (i / j)):=opI λi j _ _ _ _ _ hc q=>by
 have h1:(0:Int) < j:=hc.1;have h2:j < 1073741824:=hc.2;exact floordiv_int (by lia) (by rw [Int.fdiv_eq_ediv_of_nonneg i (by lia)]; exact q) (.inl (PyProof.noPylong_small (by lia)))
def Z7:OpR X (binaryOp .Mod) (rI (λ_ j=>0 < j) λi j=>.int (i % j)):=opI λi j _ _ _ _ _ hc q=>by
 have h1:(0:Int) < j:=hc;exact mod_int' (by lia) (by rw [Int.fmod_eq_emod_of_nonneg i (by lia)]; exact q)
def Zsg:OpR X (binaryOp .Pow) (rI CPow λi j=>.int (i ^ j.toNat)):=opI λ_ _ _ _ _ _ _ hc q=>pow_int_small hc.1 hc.2.1 hc.2.2 q
def unI {g:Int->Int}
  (rule:∀ (i:Int) (t:Tok) (s:Shared) (Q:Value->Shared->Prop) (E:Value->Shared->Prop),Q (.int (g i) s.toks) { s with toks:=s.toks + 1 }->wpAny (d:) X.A (f (.int i t)) Q E s) :
  UnR X f (rU λi=>.int (g i)):=by
 intro j4 s σ H x v Q I rx h;obtain ⟨i,rfl,q⟩:=h;obtain ⟨t,rfl⟩:=rx;exact rule i t s _ _ ⟨.int (g i),H,I.tok _,⟨_,Y⟩,q⟩
def Zks:UnR X (unaryOp .USub) (rU λi=>.int (-i)):=unI λ_ _ _ _ _ q=>neg_int q
noncomputable def scal:V->V->Bool
 | .non,.non=>true | .non,.int _=>true | .int _,.non=>true | .non,.bl _=>true | .bl _,.non=>true | .non,.str _=>true | .str _,.non=>true
 | .int _,.int _=>true | .bl _,.bl _=>true | .str _,.str _=>true | .byt _,.byt _=>true
 | .int _,.str _=>true | .str _,.int _=>true | .bl _,.str _=>true | .str _,.bl _=>true
 | _,_=>false
def rEq:R2:=λx y H Q=>scal x y=true/\Q (.bl (decide (x=y))) H
def rNe:R2:=λx y H Q=>scal x y=true/\Q (.bl (!decide (x=y))) H
def Zi1:decide (V.int i=V.int j)=(i == j):=by
 rw [Bool.eq_iff_iff];simp
def Zm0:decide (V.bl i=V.bl j)=(i == j):=by
 rw [Bool.eq_iff_iff];simp
def Zi0:decide (V.str i=V.str j)=(i == j):=by
 rw [Bool.eq_iff_iff];simp
def Zi2 {i j:Array UInt8}:decide (V.byt i=V.byt j)=(i.toList == j.toList):=by
 rw [Bool.eq_iff_iff];cases i;cases j;simp
def Ye (I:Inv X j4 σ H s) (q:Q (.bl k) H) (e:k=k'):EP X j4 σ Q (.bool k') s:=by
 subst e;exact ⟨.bl k,H,I,Y,q⟩
def Yf:OpR X (compareOp .Eq) rEq:=by
 intro j4 s σ H x y v u Q I rx ry h;obtain ⟨hs,q⟩:=h
 cases x with
 | non =>
  cases rx
  cases y with
  | non=>cases ry; exact PySem.EqNone.eq_none_none (T:)
  | bl j=>cases ry; exact PySem.EqNone.eq_none_bool (T:)
  | int j=>obtain ⟨t',rfl⟩:=ry; exact PySem.EqNone.eq_none_int (T:)
  | str j=>obtain ⟨t',rfl⟩:=ry; exact PySem.EqNone.eq_none_str (T:)
  | _=>exact absurd (ao:) Bool.false_ne_true
 | bl i =>
  cases rx
  cases y with
  | non=>cases ry; exact PySem.EqNone.eq_bool_none (T:)
  | bl j=>cases ry; exact eq_bool (Ye I q Zm0)
  | str j=>obtain ⟨t',rfl⟩:=ry; exact PySem.EqMixed.eq_bool_str (T:)
  | _=>exact absurd (ao:) Bool.false_ne_true
 | int i =>
  obtain ⟨t,rfl⟩:=rx
  cases y with
  | non=>cases ry; exact PySem.EqNone.eq_int_none (T:)
  | int j=>obtain ⟨t',rfl⟩:=ry; exact eq_int (Ye I q Zi1)
  | str j=>obtain ⟨t',rfl⟩:=ry; exact PySem.EqMixed.eq_int_str (T:)
  | _=>exact absurd (ao:) Bool.false_ne_true
 | str i =>
  obtain ⟨t,rfl⟩:=rx
  cases y with
  | non=>cases ry; exact PySem.EqNone.eq_str_none (T:)
  | bl j=>cases ry; exact PySem.EqMixed.eq_str_bool (T:)
  | int j=>obtain ⟨t',rfl⟩:=ry; exact PySem.EqMixed.eq_str_int (T:)
  | str j=>obtain ⟨t',rfl⟩:=ry; exact eq_str (Ye I q Zi0)
  | _=>exact absurd (ao:) Bool.false_ne_true
 | byt i =>
  obtain ⟨t,rfl⟩:=rx
  cases y with
  | byt j=>obtain ⟨t',rfl⟩:=ry; exact PySem.W.eq_bytes (Ye I q Zi2)
  | _=>exact absurd (ao:) Bool.false_ne_true
 | _=>cases y <;> exact absurd (ao:) Bool.false_ne_true
def Zef:OpR X (compareOp .NotEq) rNe:=by
 intro j4 s σ H x y v u Q I rx ry h;obtain ⟨hs,q⟩:=h
 cases x with
 | non =>
  cases rx
  cases y with
  | non=>cases ry; exact PySem.EqNone.ne_none_none (T:)
  | bl j=>cases ry; exact PySem.EqNone.ne_none_bool (T:)
  | int j=>obtain ⟨t',rfl⟩:=ry; exact PySem.EqNone.ne_none_int (T:)
  | str j=>obtain ⟨t',rfl⟩:=ry; exact PySem.EqNone.ne_none_str (T:)
  | _=>exact absurd (ao:) Bool.false_ne_true
 | bl i =>
  cases rx
  cases y with
  | non=>cases ry; exact PySem.EqNone.ne_bool_none (T:)
  | bl j=>cases ry; exact ne_bool (Ye I q (congrArg not Zm0))
  | str j=>obtain ⟨t',rfl⟩:=ry; exact PySem.EqMixed.ne_bool_str (T:)
  | _=>exact absurd (ao:) Bool.false_ne_true
 | int i =>
  obtain ⟨t,rfl⟩:=rx
  cases y with
  | non=>cases ry; exact PySem.EqNone.ne_int_none (T:)
  | int j=>obtain ⟨t',rfl⟩:=ry; exact ne_int (Ye I q (congrArg not Zi1))
  | str j=>obtain ⟨t',rfl⟩:=ry; exact PySem.EqMixed.ne_int_str (T:)
  | _=>exact absurd (ao:) Bool.false_ne_true
 | str i =>
  obtain ⟨t,rfl⟩:=rx
  cases y with
  | non=>cases ry; exact PySem.EqNone.ne_str_none (T:)
  | bl j=>cases ry; exact PySem.EqMixed.ne_str_bool (T:)
  | int j=>obtain ⟨t',rfl⟩:=ry; exact PySem.EqMixed.ne_str_int (T:)
  | str j=>obtain ⟨t',rfl⟩:=ry; exact ne_str (Ye I q (congrArg not Zi0))
  | _=>exact absurd (ao:) Bool.false_ne_true
 | byt i =>
  obtain ⟨t,rfl⟩:=rx
  cases y with
  | byt j=>obtain ⟨t',rfl⟩:=ry; exact PySem.W.ne_bytes (Ye I q (congrArg not Zi2))
  | _=>exact absurd (ao:) Bool.false_ne_true
 | _=>cases y <;> exact absurd (ao:) Bool.false_ne_true
def Jr:OpR X (compareOp .Lt) (rI0 λi j=>.bl (decide (i < j))):=opB0 λ_ _ _ _ _ _ _ q=>lt_int q
def Zbd:OpR X (compareOp .LtE) (rI0 λi j=>.bl (decide (i<=j))):=opB0 λ_ _ _ _ _ _ _ q=>le_int q
def J6:OpR X (compareOp .Gt) (rI0 λi j=>.bl (decide (j < i))):=opB0 λ_ _ _ _ _ _ _ q=>gt_int q
def Zeg:OpR X (compareOp .GtE) (rI0 λi j=>.bl (decide (j<=i))):=opB0 λ_ _ _ _ _ _ _ q=>ge_int q
def Go:OpR X (compareOp .IsNot) (λx y H Q=>y=.non/\Q (.bl (!decide (x=.non))) H):=by
 intro j4 s σ H x y v u Q I rx ry h;obtain ⟨rfl,q⟩:=h;cases ry;refine isnot_none_gen (Ye I q ?_)
 cases x <;> first
  | (cases rx; rfl)
  | (obtain ⟨t,rfl⟩:=rx; rfl)
def Zn (b:Expr) (h:op≠.In:=by decide) (h2:op≠.NotIn:=by decide):behindInMarks op b=false:=by
 have e1:(op == CmpOp.In)=false:=by cases op <;> first | rfl | exact absurd Y h
 have e2:(op == CmpOp.NotIn)=false:=by cases op <;> first | rfl | exact absurd Y h2
 cases b <;> simp [behindInMarks,e1,e2]
def Y4 (ho:OpR X (compareOp op) r) (ha:PE X a ta) (hb:PE X b tb) (hm:behindInMarks op b=false):PE X (.Compare a [op] [b] pos) (tOp r ta tb):=by
 intro j4 s σ H Q I h;exact wpAny_Compare1 (binT ha hb I h λv u s2 x y H2 I2 rx ry q=>ho j4 s2 σ H2 x y v u Q I2 rx ry q) hm
def Zo8 (t:TE):TT:=λσ H Q=>t σ H (MB Q)
def Zs {op:CmpOp} {r:R2} (ho:OpR X (compareOp op) r) (ha:PE X a ta) (hb:PE X b tb) (hm:behindInMarks op b=false):PT X (.Compare a [op] [b] pos) (Zo8 (tOp r ta tb)):=by
 intro j4 s σ H Q I h;refine wpAny_isTrue_Compare1 (thn (a8:) λv s1 ⟨x,H1,I1,r1,q1⟩=>thn (hb j4 s1 σ H1 _ I1 q1) λu s2 ⟨y,H2,I2,r2,q2⟩ =>
  thn (ho j4 s2 σ H2 x y v u _ I2 r1 r2 q2) λc s3 ⟨z,H3,I3,r3,qq⟩=>?_) hm
 obtain ⟨k,e,q3⟩:=MB.ex qq;subst e;cases r3;exact wpAny_truthy_bool ⟨H3,I3,q3⟩
def Zkz (r r':R2) (ta tb tc:TE):TE:=λσ H Q=>ta σ H λx H1=>tb σ H1 λy H2=>r x y H2 λz H3=>∃ k,z=.bl k /\
 (if k=true then tc σ H3 λw' H4=>r' y w' H4 Q else Q (.bl false) H3)
def Zf1 {op xm:CmpOp} {r r':R2} (ho:OpR X (compareOp op) r) (rh:OpR X (compareOp xm) r') (ha:PE X a ta) (hb:PE X b tb) (hc:PE X c tc)
  (hm:lastMarks [op,xm] [b,c]=false:=by with_unfolding_all rfl):PE X (.Compare a [op,xm] [b,c] pos) (Zkz r r' ta tb tc):=by
 intro j4 s σ H Q I h;refine Compare_chain (thn (a8:) λv s1 ⟨x,H1,I1,r1,q1⟩=>chain_link (thn (hb j4 s1 σ H1 _ I1 q1) λu s2 ⟨y,H2,I2,r2,q2⟩ =>
  thn (ho j4 s2 σ H2 x y v u _ I2 r1 r2 q2) λd s3 ⟨z,H3,I3,r3,k,e,q3⟩=>?_)) hm
 subst e;cases r3;refine wpAny_truthy_bool ?_
 cases k with
 | false=>exact ite_ff ⟨.bl false,H3,I3,Y,q3⟩
 | true=>exact ite_tt (chain_last (thn (hc j4 s3 σ H3 _ I3 q3) λw' s4 ⟨z',H4,I4,r4,q4⟩=>rh j4 s4 σ H4 y z' u w' Q I4 r2 r4 q4))
def Zn1 {op xm:CmpOp} {r r':R2} (ho:OpR X (compareOp op) r) (rh:OpR X (compareOp xm) r') (ha:PE X a ta) (hb:PE X b tb) (hc:PE X c tc)
  (hm:lastMarks [op,xm] [b,c]=false:=by with_unfolding_all rfl):PT X (.Compare a [op,xm] [b,c] pos) (Zo8 (Zkz r r' ta tb tc)):=by
 intro j4 s σ H Q I h;refine isTrue_chain (thn (a8:) λv s1 ⟨x,H1,I1,r1,q1⟩=>test_link (thn (hb j4 s1 σ H1 _ I1 q1) λu s2 ⟨y,H2,I2,r2,q2⟩ =>
  thn (ho j4 s2 σ H2 x y v u _ I2 r1 r2 q2) λd s3 ⟨z,H3,I3,r3,k,e,q3⟩=>?_)) hm
 subst e;cases r3;refine wpAny_truthy_bool ?_
 cases k with
 | false =>
  exact ite_ff ⟨H3,I3,q3⟩
 | true =>
  refine ite_tt (test_last (thn (hc j4 s3 σ H3 _ I3 q3) λw' s4 zz8=>?_));obtain ⟨z',H4,I4,r4,q4⟩:=zz8;refine thn (rh j4 s4 σ H4 y z' u w' _ I4 r2 r4 q4) λd' s5 j9=>?_;obtain ⟨z2,H5,I5,r5,qq⟩:=j9;obtain ⟨k2,e2,q5⟩:=MB.ex qq;subst e2;cases r5;exact wpAny_truthy_bool ⟨H5,I5,q5⟩
def TruV (K:W.Frag) (x:V) (H:Hp) (k:Bool):Prop :=
 match x with
 | .non=>k=false
 | .bl b=>k=b
 | .int i=>k=(i != 0)
 | .str y=>y.length<=sizeLine/\k=((y.length:Int) != 0)
 | .byt y=>y.size<=sizeLine/\k=((y.size:Int) != 0)
 | .ref p=>(∃ xs,SqL K H p xs/\k=!xs.isEmpty)\/(∃ xs,SqT K H p xs/\k=!xs.isEmpty)\/∃ kvs,H p=some (.dK kvs)/\k=!kvs.isEmpty
 | _=>False
def Zke {κ:Type} {kvs:List (κ × V)} {vs:List (κ × Value)} (r:KV kvs vs):(!vs.isEmpty)=!kvs.isEmpty:=by
 cases r <;> rfl
def Zbo {xs:List V} {its:List Value} (r:Vals xs its):(!its.toArray.isEmpty)=!xs.isEmpty:=by
 cases r <;> simp
def Vw:(sizeLine:Nat) < 2 ^ 63:=by rw [sizeLine_eq]; decide
def Zrg:TruR X (λx H Q=>∃ k,TruV X.K x H k/\Q k H):=by
 intro j4 s σ H x v Q I rx h;obtain ⟨k,e,q⟩:=h;have hl:=Vw;have hs:sizeLine=16777216:=sizeLine_eq
 cases x with
 | non =>
  cases rx;have e':k=false:=e;subst e';exact truthy_none ⟨H,I,q⟩
 | bl b =>
  cases rx;have e':k=b:=e;subst e';exact wpAny_truthy_bool ⟨H,I,q⟩
 | int i =>
  obtain ⟨t,rfl⟩:=rx;have e':k=(i != 0):=e;subst e';exact PySem.P.truthy_int ⟨H,I,q⟩
 | str y =>
  obtain ⟨t,rfl⟩:=rx;obtain ⟨hy,e'⟩:y.length<=sizeLine/\k=((y.length:Int) != 0):=e;subst e';exact PySem.P.truthy_str (by lia) ⟨H,I.tok _,q⟩
 | byt y =>
  obtain ⟨t,rfl⟩:=rx;obtain ⟨hy,e'⟩:y.size<=sizeLine/\k=((y.size:Int) != 0):=e;subst e';exact PySem.W.truthy_bytes (by lia) ⟨H,I.tok _,q⟩
 | ref p =>
  cases rx;have e':(∃ xs,SqL X.K H p xs/\k=!xs.isEmpty)\/(∃ xs,SqT X.K H p xs/\k=!xs.isEmpty)\/∃ kvs,H p=some (.dK kvs)/\k=!kvs.isEmpty:=e
  rcases e' with ⟨xs,hx,e'⟩ | ⟨xs,hx,e'⟩ | ⟨kvs,hx,e'⟩
  ·subst e'
   obtain ⟨its,r,pl,hz⟩:=I.list hx;have j7:=r.length;exact wpAny_truthy_list pl.isList (by simp only [Aq]; lia) ⟨H,I.tok _,by rw [Zbo r]; exact q⟩
  ·subst e'
   obtain ⟨its,r,pl,hz⟩:=I.tuple hx;have j7:=r.length;exact truthy_tuple pl (by simp only [Aq]; lia) ⟨H,I.tok _,by rw [Zbo r]; exact q⟩
  ·subst e'
   obtain ⟨hz,hS,vs,r,m⟩:kvs.length<=sizeLine/\(p == sysModules)=false/\∃ vs,KV kvs vs/\s.heap.DictOf (Ya X.prog X.w) p vs:=I.hok p _ hx;have j7:kvs.length=vs.length:=Paired.length r;exact wpAny_truthy_dict hS m (by lia) ⟨H,I.tok _,by rw [Zke r]; exact q⟩
 | _=>exact (show False from e).elim
def Of (ha:PE X a ta) (he:∀ og,isTrue a X.env og=(do let v <- og; standAt a.pos; holding [v] (truthy v))) :
  PT X a (λσ H Q=>ta σ H λx H'=>∃ k,TruV X.K x H' k/\Q k H'):=by
 intro j4 s σ H Q I h;refine isTrue_plain (thn (a8:) λv s1 j9=>?_) (he _);obtain ⟨x,H1,I1,r1,q1⟩:=j9;exact Zrg j4 s1 σ H1 x v Q I1 r1 q1
def Ji:OpR X (binaryOp .Add) (λx y H Q=>∃ i j,x=.str i/\y=.str j/\i.length + j.length<=sizeLine/\Q (.str (i ++ j)) H):=by
 intro j4 s σ H x y v u Q I rx ry h;obtain ⟨i,j,rfl,rfl,hz,q⟩:=h;obtain ⟨t,rfl⟩:=rx;obtain ⟨t',rfl⟩:=ry;exact add_str (λt' tk=>⟨.str (i ++ j),H,I.tok _,⟨_,Y⟩,q⟩) hz
def Xg (r:Vals [x] us):∃ u,us=[u]/\RelV x u:=by
 cases r with
 | cons r1 r2=>cases r2; exact ⟨_,Y,r1⟩
def Zi7 (r:Vals [x,y] us):∃ u w',us=[u,w']/\RelV x u/\RelV y w':=by
 cases r with
 | cons r1 r2 =>
  cases r2 with
  | cons r3 r4=>cases r4; exact ⟨_,_,Y,r1,r3⟩
def Zdq (hc:X.calm=true):Y2 X (.builtin "max") (λxs H Q=>∃ i j,xs=[.int i,.int j]/\Q (.int (if j > i then j else i)) H):=by
 intro j4 s σ H xs us Q I r h;obtain ⟨i,j,rfl,q⟩:=h;obtain ⟨u,w',rfl,⟨t,rfl⟩,⟨t',rfl⟩⟩:=Zi7 r;refine max_two_ints (ce:) λh' tk k=>⟨_,H,I.kept k,?_,q⟩;by_cases hj:j > i
 ·rw [if_pos hj,if_pos hj]; exact ⟨_,Y⟩
 ·rw [if_neg hj,if_neg hj]; exact ⟨_,Y⟩
def Ws:Y2 X (.type "str") (λxs H Q=>∃ i,xs=[.int i]/\i.natAbs.log2 < 1920/\Q (.str (toString i)) H):=by
 intro j4 s σ H xs us Q I r h;obtain ⟨i,rfl,hz,q⟩:=h;obtain ⟨u,rfl,t,rfl⟩:=Xg r;exact PySem.P.str_of_int hz ⟨.str _,H,I.tok _,⟨_,Y⟩,q⟩
end
structure ObjM (h:Heap) (x dx C:Addr) (mA:Str->Option Value):Prop where
 obj:h.get? x=some (PySem.W.instObj C dx)
 ns:h.Ns1 dx mA
 ne:dx≠x
def Zme {h:Heap} (n:h.Ns1 dx mA):∃ od,h.get? dx=some od/\∀ name,PySem.W.lookIn name od=some (mA name):=by
 obtain ⟨o,es,ep,ho,hd,hk,_,hm⟩:=n;refine ⟨o,ho,λname=>?_⟩;have e:=hm name;unfold nsFind findBy at e;rw [<- Array.find?_toList] at e;unfold PySem.W.lookIn;rw [hd];dsimp only;split
 ·rename_i y q
  rw [q] at e;exact congrArg some e
 ·rename_i q
  rw [q] at e;have a:es.toList.any (·.refKey)=false:=by
   rw [any_eq_false]
   intro y hy
   obtain ⟨z,t,yz⟩:=hk y (Array.mem_toList_iff.mp hy)
   simp [DictEntry.refKey,yz]
  have a':¬ es.toList.any (·.refKey)=true:=by rw [a]; exact Bool.false_ne_true
  rw [if_neg a'];exact congrArg some e
def ObjM.look (I:ObjM h x dx C mA):∃ od,PySem.W.InstAt h x (PySem.W.instObj C dx) C (some od)/\∀ name,PySem.W.lookIn name od=some (mA name) :=
 let ⟨od,ho,hl⟩:=Zme I.ns
 ⟨od,⟨I.obj,rfl,rfl,ho⟩,hl⟩
section
variable {prog:Program} {w:World} {A:Around} {E:Value->Shared->Prop} {s:Shared} {K:W.Frag} {x dx C f:Addr} {mA:Str->Option Value} {name:Str} {v:Value}
def Zqx (X:K.In s.heap) (I:ObjM s.heap x dx C mA) (hg:PySem.W.plainGet K C name=true) (hh:PySem.W.hasDictIn K C=true)
  (ha:PySem.W.findIn K (.ref C) name=some none) (hv:mA name=some v) (zw:PySem.W.handedIn v=true) (h:Q v { s with toks:=s.toks + 1 }) :
  wpAny (Y:) A (getAttr (.ref x) name expr) Q E s:=by
 obtain ⟨od,J,hl⟩:=I.look;exact PySem.W.get_value X J (PySem.W.plainGet_of hg).1 (PySem.W.findObj_own hh ha Y (by rw [hl,hv])) zw h
def Zov (X:K.In s.heap) (I:ObjM s.heap x dx C mA) (hg:PySem.W.plainGet K C name=true)
  (hf:PySem.W.findIn K (.ref C) name=some (some (.ref f))) (ht:PySem.W.isFn K (.ref f)=true) (hv:mA name=none) (h:Q (.ref f,[.ref x]) s) :
  wpAny (Y:) A (getMethod (.ref x) name pl) Q E s:=by
 obtain ⟨od,J,hl⟩:=I.look;exact PySem.W.method_fn X J (PySem.W.plainGet_of hg).1 (PySem.W.plainGet_of hg).2 hf (beq_iff_eq.mp ht) (by show (PySem.W.lookIn name od).map (·.isSome)=some false; rw [hl,hv]; rfl) h
def Zp6 {ns:List Str} (X:K.In s.heap) (I:ObjM s.heap x dx C mA)
  (hs:PySem.W.findIn K (.ref C) "__setattr__"=some (some (.builtin "object.__setattr__"))) (hp:PySem.W.plainOver K C=true) (ht:PySem.W.takerIn K C name=some none) (hh:PySem.W.hasDictIn K C=true)
  (hw:PySem.Within mA ns) (hsz:ns.length<=sizeLine)
  (h:∀ h',ObjM h' x dx C (λy=>if y=name then some v else mA y)->Heap.SameBut dx s.heap h'->Q () { s with heap:=h',toks:=s.toks + 2 }) :
  wpAny (Y:) A (setAttr (.ref x) name v) Q E s:=by
 obtain ⟨od,J,hl⟩:=I.look;refine PySem.W.set_plain X J hs (PySem.W.osa_open (s:={ s with toks:=s.toks + 1 }) (r:=none) X J hp ht λb=>?_);obtain ⟨cd,hc,qv⟩:=PySem.W.any_some hh;have hx:s.heap.get? x=some ⟨.ref C,some dx,.plain,#[]⟩:=I.obj;refine Al (wpAny_pure (Al (Al (wpAny_loadPart hx (Al (PySem.W.Looks.here (s:={ s with toks:=s.toks + 1 }) (PySem.W.looks_clsIn X hc) ?_))))));rw [qv];refine wpAny_pure (a:=some dx) (Al (wpAny_pure (Al ?_)));refine wpAny_nsSet1 (s:={ s with toks:=s.toks + 1 }) I.ns λh' tf qo=>?_;obtain ⟨oD,esD,epD,hoD,hdD,hcD⟩:=tf.count (PySem.Within.cons name v hw);refine Al (wpAny_lookBehind hoD (by rw [hdD]; exact pastItsLine_dict (Nat.le_trans hcD (by rw [length_cons]; lia))) ?_);exact wpAny_pure (h _ ⟨(qo.2 _ (Ne.symm I.ne)).trans I.obj,tf,I.ne⟩ qo)
def Zoj {vs:List Value} {kw:List (Str × Value)} (X:K.In s.heap) (hm:PySem.W.makesIn K C=true)
  (hi:PySem.W.findIn K (.ref C) "__init__"=some (some (.ref f))) (hf:PySem.W.typeIn K (.ref f)=some (.type "function"))
  (h:codeAny (Y:) (A.under (.builtin "type.__call__" ⟨.ref C :: vs,kw⟩)) (.call (.ref f) ⟨.ref (S:) :: vs,kw⟩) (PySem.W.InitBack (S:) R)
   { s with heap:=(cu:).push (PySem.W.instObj C s.heap.objs.size) }) :
  codeAny (Y:) A (.call (.ref C) ⟨vs,kw⟩) R s:=by
 obtain ⟨hh,g,d,t,os⟩:=s;exact PySem.W.make_core (PySem.W.makes_of X hm) (PySem.W.looks_findIn X hi) (λself=>PySem.W.bind_fn X self hf) (.inl Y) h
end
noncomputable def putF (f:Str) (v:V):List (Str × V)->List (Str × V)
 | []=>[(f,v)]
 | (g,x) :: r=>if g=f then (g,v) :: r else (g,x) :: putF f v r
theorem Z3 (f g:Str) (v:V):∀ fs:List (Str × V),(putF f v fs).lookup g=if g=f then some v else fs.lookup g
 | []=>by
  show List.lookup g [(f,v)]=_;by_cases h:g=f
  ·have hb:(g == f)=true:=beq_iff_eq.mpr h
   simp only [List.lookup,hb,if_pos h]
  ·have hb:(g == f)=false:=beq_eq_false_iff_ne.mpr h
   simp only [List.lookup,hb,if_neg h]
 | (k,x) :: r=>by
  have ih:=Z3 f g v r;rw [show putF f v ((k,x) :: r)=(if k=f then (k,v) :: r else (k,x) :: putF f v r) from rfl];by_cases hk:k=f
  ·rw [if_pos hk]
   by_cases h:g=k
   ·have hb:(g == k)=true:=beq_iff_eq.mpr h
    simp only [List.lookup,hb,if_pos (h.trans hk)]
   ·have hb:(g == k)=false:=beq_eq_false_iff_ne.mpr h
    simp only [List.lookup,hb,if_neg (λe:g=f=>h (e.trans hk.symm))]
  ·rw [if_neg hk]
   by_cases h:g=k
   ·have hb:(g == k)=true:=beq_iff_eq.mpr h
    simp only [List.lookup,hb,if_neg (λe:g=f=>hk (h.symm.trans e))]
   ·have hb:(g == k)=false:=beq_eq_false_iff_ne.mpr h
    simp only [List.lookup,hb];exact ih
theorem K7 (f:Str) (v:V):∀ fs:List (Str × V),f∈(putF f v fs).map (·.1)/\∀ g,g∈fs.map (·.1)->g∈(putF f v fs).map (·.1)
 | []=>⟨by simp [putF],λg h=>by simp at h⟩
 | (k,x) :: r=>by
  obtain ⟨i1,i2⟩:=K7 f v r;rw [show putF f v ((k,x) :: r)=(if k=f then (k,v) :: r else (k,x) :: putF f v r) from rfl];by_cases hk:k=f
  ·rw [if_pos hk]
   subst hk;exact ⟨by simp,λg h=>by simpa using h⟩
  ·rw [if_neg hk]
   refine ⟨?_,λg h=>?_⟩
   ·rw [map_cons]
    exact mem_cons_of_mem _ i1
   ·rw [map_cons] at h ⊢
    rcases Ar h with e | e
    ·exact mem_cons.mpr (.inl e)
    ·exact mem_cons_of_mem _ (i2 g e)
theorem Ft (f:Str) (v:V):∀ fs:List (Str × V),(putF f v fs).length<=fs.length + 1
 | []=>by simp [putF]
 | (k,x) :: r=>by
  have ih:=Ft f v r;rw [show putF f v ((k,x) :: r)=(if k=f then (k,v) :: r else (k,x) :: putF f v r) from rfl];by_cases hk:k=f
  ·rw [if_pos hk,length_cons,length_cons]; lia
  ·rw [if_neg hk,length_cons,length_cons]; lia
def RelO.some_of (r:RelO (some v) o):∃ u,o=some u/\RelV v u:=by
 cases o with
 | none=>exact (show False from r).elim
 | some u=>exact ⟨u,Y,r⟩
def RelO.none_of (r:RelO none o):o=none:=by
 cases o with
 | none=>rfl
 | some u=>exact (show False from r).elim
def Zmq (r:RelV v u):PySem.W.handedIn u=true:=by
 cases v with
 | non=>cases (show u=Value.none from r); rfl
 | bl b=>cases (show u=Value.bool b from r); rfl
 | int i=>obtain ⟨t,e⟩:=(show ∃ t,u=Value.int i t from r); cases e; rfl
 | str x=>obtain ⟨t,e⟩:=(show ∃ t,u=Value.str x t from r); cases e; rfl
 | byt b=>obtain ⟨t,e⟩:=(show ∃ t,u=Value.bytes b t from r); cases e; rfl
 | flt b=>obtain ⟨t,e⟩:=(show ∃ t,u=Value.float b t from r); cases e; rfl
 | ref a=>cases (show u=Value.ref a from r); rfl
 | ty n=>cases (show u=Value.type n from r); rfl
section
variable {P:Program} {w:World} {H H':Hp} {h h':Heap} {a C dx:Addr} {fs fs':List (Str × V)}
def Gr (hok:HOk P w H h) (e:H a=some (cl:)):∃ mA,ObjM h a dx C mA/\(∀ f,RelO (fs.lookup f) (mA f))/\PySem.Within mA (fs.map (·.1))/\fs.length<=1000/\H dx=some (.own a):=by
 obtain ⟨d,z,ne,ob,mA,n,r,q⟩:=(show Yl P w H h a (cl:) from hok a _ e);exact ⟨mA,⟨ob,n,ne⟩,r,q,z,d⟩
end
structure Cls (K:W.Frag) (C:Addr):Prop where
 pg:PySem.W.plainGet K C Str.empty=true
 hd:PySem.W.hasDictIn K C=true
 po:PySem.W.plainOver K C=true
 sa:PySem.W.findIn K (.ref C) "__setattr__"=some (some (.builtin "object.__setattr__"))
def Cls.get {K:W.Frag} {C:Addr} (c:Cls K C) (f:Str):PySem.W.plainGet K C f=true:=c.pg
def Xe (K:W.Frag) (C:Addr) (f:Str):Prop:=PySem.W.findIn K (.ref C) f=some none
def Xe.taker {K:W.Frag} {C:Addr} {f:Str} (n:Xe K C f):PySem.W.takerIn K C f=some none:=by
 unfold PySem.W.takerIn;rw [show PySem.W.findIn K (.ref C) f=some none from n];rfl
structure Meth (K:W.Frag) (C:Addr) (m:Str) (f:Addr):Prop where
 at_:PySem.W.findIn K (.ref C) m=some (some (.ref f))
 fn:PySem.W.isFn K (.ref f)=true
 kp:PySem.W.keepIn K (.ref f)=true
section
variable {X:Cx} {j4:List (p:)} {σ:St} {H:Hp} {s:Shared} {a C dx:Addr} {fs:List (Str × V)} {f:Str} {v:V} {A:Around} {E:Value->Shared->Prop}
def Zkf (I:Inv X j4 σ H s) (e:H a=some (cl:)) (c:Cls X.K C) (n:Xe X.K C f) (l:fs.lookup f=some v)
  (h:∀ u s',Inv X j4 σ H s'->RelV v u->Q u s'):wpAny (d:) A (getAttr (.ref a) f b) Q E s:=by
 obtain ⟨mA,O,r,_,_,_⟩:=Gr I.hok e;obtain ⟨u,hu,ru⟩:=RelO.some_of (v:=v) (o:=mA f) (by rw [<- l]; exact r f);exact Zqx I.kIn O (c.get f) c.hd n hu (Zmq ru) (h u _ (I.tok _) ru)
def Vd (I:Inv X j4 σ H s) (e:H a=some (cl:)) (c:Cls X.K C) (k:Meth X.K C m g) (l:fs.lookup m=none)
  (h:Q (.ref g,[.ref a]) s):wpAny (d:) A (getMethod (.ref a) m pl) Q E s:=by
 obtain ⟨mA,O,r,_,_,_⟩:=Gr I.hok e;have hn:mA m=none:=RelO.none_of (by rw [<- l]; exact r m);exact Zov I.kIn O (c.get m) k.at_ k.fn hn h
def Zjr (I:Inv X j4 σ H s) (e:H a=some (cl:)) (c:Cls X.K C) (n:Xe X.K C f) (hl:fs.length < 1000) (ry:RelV y u)
  (h:∀ s',Inv X j4 σ (upd H a (.ins C dx (putF f y fs))) s'->Q () s'):wpAny (d:) A (setAttr (.ref a) f u) Q E s:=by
 obtain ⟨mA,O,r,wi,_,ho⟩:=Gr I.hok e;have hz:(fs.map (·.1)).length<=sizeLine:=by rw [Ab,sizeLine_eq]; lia
 refine Zp6 I.kIn O c.sa c.po n.taker c.hd wi hz λh' O' sb=>h _ ?_;have hd:∃ o,h'.get? dx=some o:=let ⟨o,_,_,e',_⟩:=O'.ns; ⟨o,e'⟩
 refine I.write (x:=a) (e:=dx) (b8:) (.inr ho) (λb q hb z=>(sb.2 b hb).trans z) hd ?_;refine ⟨by rw [Ze O.ne]; exact ho,?_,O.ne,O'.obj,_,O'.ns,λg=>?_,λg hg=>?_⟩
 ·have:=Ft f y fs; lia
 ·show RelO ((putF f y fs).lookup g) (if g=f then some u else mA g)
  rw [Z3];by_cases q:g=f
  ·rw [if_pos q,if_pos q]; exact ry
  ·rw [if_neg q,if_neg q]; exact r g
 ·by_cases q:g=f
  ·rw [q]; exact (K7 f y fs).1
  ·refine (K7 f y fs).2 g (wi g λz=>hg ?_)
   show (if g=f then some u else mA g)=none;rw [if_neg q]; exact z
def Inv.made (I:Inv X j4 σ H s):Inv X j4 σ (upd (upd H s.heap.objs.size (.own (S:))) (S:) (.ins C s.heap.objs.size []))
  { s with heap:=(cu:).push (PySem.W.instObj C s.heap.objs.size) }:=by
 have e1:(cu:).get? s.heap.objs.size=some PySem.W.emptyDict:=Ap s.heap rfl;have e2:((cu:).push (PySem.W.instObj C s.heap.objs.size)).get? (S:)=some (PySem.W.instObj C s.heap.objs.size):=by
  have:=Ap (cu:) (o:=PySem.W.instObj C s.heap.objs.size) rfl
  rwa [Heap.size_push] at this
 have e3:(cu:).Ns s.heap.objs.size (λ_=>none):=⟨PySem.W.emptyDict,#[],_,e1,rfl,(λe he=>absurd he (by simp)),λ_=>rfl⟩;have I1:=I.laid (a:=s.heap.objs.size) (o:=.own (S:)) (h':=s.heap.push PySem.W.emptyDict) (t':=s.toks) (λb u q=>Ak _ q) (An _) ⟨_,e1⟩;refine I1.laid (a:=s.heap.objs.size + 1) (o:=.ins C s.heap.objs.size []) (t':=s.toks) (λb u q=>Ak _ q) (Nat.le_of_eq (Heap.size_push _ _)) ?_;have ne:s.heap.objs.size≠s.heap.objs.size + 1:=As (lt_succ_self _);refine ⟨by rw [Ze ne,Zc],Az _,ne,e2,λ_=>none,(Heap.Ns1.of_empty e3).at λo q=>Ak _ q,λ_=>True.intro,λy hy=>absurd Y hy⟩
def Zq9 (hb:attributeBase e f env (eval e env)=eval e env)
  (h:wpAny (Y:) A (eval e env) (λo s₁=>wpAny (Y:) A (getAttr o f true) Q E s₁) E s):wpAny (Y:) A (eval (.Attribute e f pos) env) Q E s :=
 Attribute_any_ h (by rw [arm_eval_Attribute,hb])
end
def MVal (o:Option V) (H:Hp) (Q:VK):Prop:=match o with | some v=>Q v H | _=>False
def MVal.of {o:Option V} {H:Hp} {Q:VK} {v:V} (e:o=some v) (h:Q v H):MVal o H Q:=by subst e; exact h
inductive MFl (K:W.Frag) (f:Str) (Q:VK) (a:Addr) (H:Hp):Prop | mk {C dx:Addr} {fs:List (Str × V)}:H a=some (cl:)->Cls K C->Xe K C f->MVal (fs.lookup f) H Q->MFl K f Q a H
def MFld (K:W.Frag) (f:Str) (Q:VK) (x:V) (H:Hp):Prop:=match x with | .ref a=>MFl K f Q a H | _=>False
def MFld.ex {K:W.Frag} {f:Str} {Q:VK} {x:V} {H:Hp} (h:MFld K f Q x H):∃ a C dx fs v,x=.ref a/\H a=some (cl:)/\Cls K C/\Xe K C f/\fs.lookup f=some v/\Q v H:=by
 cases x with
 | ref a =>
  obtain ⟨h1,h2,h3,h4⟩:=(show MFl K f Q a H from h);rename_i C dx fs
  cases e:fs.lookup f with
  | none=>rw [e] at h4; exact h4.elim
  | some v=>rw [e] at h4; exact ⟨a,C,dx,fs,v,Y,h1,h2,h3,e,h4⟩
 | _=>exact False.elim h
def tFld (K:W.Frag) (ta:TE) (f:Str):TE:=λσ H Q=>ta σ H (MFld K f Q)
def sFld (K:W.Frag) (ta tv:TE) (f:Str):TS:=λD σ H=>tv σ H λy H1=>ta σ H1 λx H2=>∃ a C dx fs,x=.ref a/\H2 a=some (cl:)/\Cls K C/\Xe K C f/\fs.length < 1000 /\
 D.nx σ (upd H2 a (.ins C dx (putF f y fs)))
section
variable {X:Cx} {o e value:Expr} {f:Str} {pos ml qe:Pos} {ta tv:TE}
def Zz (he:PE X e ta) (hb:attributeBase e f X.env (eval e X.env)=eval e X.env):PE X (.Attribute e f pos) (tFld X.K ta f):=by
 intro j4 s σ H Q I h;refine Zq9 hb (thn (cj:) λu s1 j9=>?_);obtain ⟨x,H1,I1,rx,qq⟩:=j9;obtain ⟨a,C,dx,fs,v,ex,ea,c,n,l,q⟩:=MFld.ex qq;subst ex;obtain rfl:u=Value.ref a:=rx;exact Zkf I1 ea c n l λu' s2 I2 ru=>⟨v,H1,I2,ru,q⟩
def Wc (ha:PE X o ta) (hv:PE X value tv) (hs:swapsWith value (some (.Attribute o f ml)) pos.line X.env=pure false):PS X (.Assign [.Attribute o f ml] value pos) (sFld X.K ta tv f):=by
 intro j4 s σ H D I h;refine plainObj_wpAny_Assign_Attribute (thn (hv j4 s σ H _ I h) λu s1 zz10=>?_) hs;obtain ⟨y,H1,I1,ry,q⟩:=zz10;refine thn (ha j4 s1 σ H1 _ I1 q) λov s2 zz11=>?_;obtain ⟨x,H2,I2,rx,a,C,dx,fs,ex,ea,c,n,l,q2⟩:=zz11;subst ex;obtain rfl:ov=Value.ref a:=rx;exact Zjr I2 ea c n l ry λs3 I3=>⟨σ,_,I3,q2⟩
end
section
variable {X:Cx} {j4:List (p:)} {σ:St} {H:Hp} {s:Shared} {A:Around} {E:Value->Shared->Prop} {Q:Value->Shared->Prop} {c:Value} {b:Bool}
inductive TyOf (K:W.Frag) (H:Hp):V->Value->Prop where
 | non:TyOf K H .non (.type "NoneType")
 | bl (x:Bool):TyOf K H (.bl x) (.type "bool")
 | int (i:Int):TyOf K H (.int i) (.type "int")
 | str (x:Str):TyOf K H (.str x) (.type "str")
 | flt (x:UInt64):TyOf K H (.flt x) (.type "float")
 | lst {a:Addr} {xs:List V} (e:H a=some (.lst xs)):TyOf K H (.ref a) (.type "list")
 | frz {a:Addr} {o:Obj} {xs:List V} (e:H a=some (.frz o (.lst xs))):TyOf K H (.ref a) (.type "list")
 | tup {a:Addr} {xs:List V} (e:H a=some (.tup xs)):TyOf K H (.ref a) (.type "tuple")
 | dK {a:Addr} {kvs:List (Key × V)} (e:H a=some (.dK kvs)):TyOf K H (.ref a) (.type "dict")
 | dT {a:Addr} {kvs:List (List Key × V)} (e:H a=some (.dT kvs)):TyOf K H (.ref a) (.type "dict")
 | ins {a C dx:Addr} {fs:List (Str × V)} (e:H a=some (cl:)) (cl:Cls K C) (ha:PySem.W.findIn K (.ref C) "__class__"=some (some (.builtin "object.__class__")))
   (hn:PySem.W.specialIn K (.builtin "object.__class__") "__get__"=some (some (.builtin "getset_descriptor.__get__"))) (htk:PySem.W.takesIn K (.builtin "object.__class__")=some true)
   (hm:PySem.W.mroIn K C (.type "object")=some true):TyOf K H (.ref a) (.ref C)
def Zmk (I:Inv X j4 σ H s) (rx:RelV x u) (ty:TyOf X.K H x t) (e:PySem.W.kitOne X.K t c=some b) (h:∀ tk,Q (.bool b) { s with toks:=tk }) :
  wpAny (d:) A (call (.builtin "isinstance") [u,c]) Q E s:=by
 cases ty with
 | non=>cases (show u=Value.none from rx); exact PySem.W.kia_one PySem.W.kitx_none I.kIn True.intro e (N:) h
 | bl y=>cases (show u=Value.bool y from rx); exact PySem.W.kia_one PySem.W.kitx_bool I.kIn True.intro e (N:) h
 | int i=>obtain ⟨t,q⟩:=(show ∃ t,u=Value.int i t from rx); cases q; exact PySem.W.kia_one PySem.W.kitx_int I.kIn True.intro e (N:) h
 | str y=>obtain ⟨t,q⟩:=(show ∃ t,u=Value.str y t from rx); cases q; exact PySem.W.kia_one PySem.W.kitx_str I.kIn True.intro e (N:) h
 | flt y=>obtain ⟨t,q⟩:=(show ∃ t,u=Value.float y t from rx); cases q; exact PySem.W.kia_one PySem.W.kitx_float I.kIn True.intro e (N:) h
 | @lst a xs ea =>
  cases (show u=Value.ref a from rx);obtain ⟨_,_,n,_,h1⟩:=(show Yl X.prog X.w H s.heap a (.lst xs) from I.hok a _ ea);exact PySem.W.kia_one PySem.W.kitx_list I.kIn ⟨_,h1,Y⟩ e (N:) h
 | @frz a ob xs ea =>
  cases (show u=Value.ref a from rx);obtain ⟨_,_,_,n,_,h1⟩:=(show Yl X.prog X.w H s.heap a (.frz ob (.lst xs)) from I.hok a _ ea);exact PySem.W.kia_one PySem.W.kitx_list I.kIn ⟨_,h1,Y⟩ e (N:) h
 | @tup a xs ea =>
  cases (show u=Value.ref a from rx);obtain ⟨_,_,_,p⟩:=(show Yl X.prog X.w H s.heap a (.tup xs) from I.hok a _ ea);obtain ⟨o,h1,h2,_⟩:=p;exact PySem.W.kia_one PySem.W.kitx_tuple I.kIn ⟨o,h1,h2⟩ e (N:) h
 | @dK a kvs ea =>
  cases (show u=Value.ref a from rx);obtain ⟨_,_,vs,_,p⟩:=(show Yl X.prog X.w H s.heap a (.dK kvs) from I.hok a _ ea);obtain ⟨o,es,ep,h1,h2,_⟩:=p;exact PySem.W.kia_one PySem.W.kitx_dict I.kIn ⟨o,h1,h2.1⟩ e (N:) h
 | @dT a kvs ea =>
  cases (show u=Value.ref a from rx);obtain ⟨_,_,xs,_,o,es,ep,h1,h2,_⟩:=(show Yl X.prog X.w H s.heap a (.dT kvs) from I.hok a _ ea);exact PySem.W.kia_one PySem.W.kitx_dict I.kIn ⟨o,h1,h2.1⟩ e (N:) h
 | @ins a C dx fs ea cl ha hn htk hm =>
  cases (show u=Value.ref a from rx);obtain ⟨mA,O,_⟩:=Gr I.hok ea;obtain ⟨od,J,_⟩:=O.look;exact PySem.W.kia_one (PySem.W.kitx_own (cl.get _) cl.hd ha hn htk hm) I.kIn J e (N:) h
end
structure Room (k:Nat) (A:Around):Prop where
 hd:A.handled=none
 dp:A.depth + 3 * k + 5 < recursionLimit
 un:A.units + 16 * k + 200 < cLine
def Room.mono (r:Room k A) (h:j<=k):Room j A:=⟨r.hd,by have:=r.dp; lia,by have:=r.un; lia⟩
def Room.deeper {A:Around} (r:Room (k + 1) A) (env:Env):Room k (A.deeper env) :=
 ⟨r.hd,by have:=r.dp; show A.depth + 1 + 3 * k + 5 < _; lia,by have:=r.un; show A.units + 3 + 16 * k + 200 < _; lia⟩
def Zkd {A:Around} {us:List Value} {kw:List (Str × Value)}:(br:).depth=A.depth + 1:=by
 first | rfl | simp [Around.under,Code.weight,Code.isCreation,Code.isGuard,Code.isCaller,Code.frames,Code.isFrame,guardIds]
def Zkc {A:Around} {us:List Value} {kw:List (Str × Value)}:(br:).units=A.units + 1:=by
 first | rfl | simp [Around.under,Code.cUnits,Code.frames,Code.isFrame]
def Room.make {A:Around} (r:Room (k + 1) A) (C:Addr) (us:List Value) (kw:List (Str × Value)):Room k (br:) :=
 ⟨r.hd,by have:=r.dp; rw [Zkd]; lia,by have:=r.un; rw [Zkc]; lia⟩
def Room.depth {A:Around} (r:Room k A):A.depth < recursionLimit:=by have:=r.dp; lia
def Room.units {A:Around} (r:Room k A):A.units + 64 < cLine:=by have:=r.un; lia
def tNil:TA:=λ_ H Q=>Q [] H
def Zss (x:V) (Q:List V->Hp->Prop) (xs:List V) (H:Hp):Prop:=Q (x :: xs) H
def Ztz (tr:TA) (σ:St) (Q:List V->Hp->Prop) (x:V) (H:Hp):Prop:=tr σ H (Zss x Q)
def Ztk (ta:TE) (tr:TA):TA:=λσ H Q=>ta σ H (Ztz tr σ Q)
section
variable {X:Cx} {e:Expr} {es:List Expr} {te:TE} {t:TA} {pos:Pos}
def Zb:PA X [] tNil:=λ_ _ _ _ H Q I h=>Calls.spliced_nil ⟨[],H,I,.nil,h⟩
def Za (ha:PE X e te) (hr:PA X es t) (hs:starEach (e :: es) X.env=(I:) :: starEach es X.env:=by rfl):PA X (e :: es) (Ztk te t):=by
 intro pos j4 s σ H Q I h;rw [hs];show wpAny _ _ (spliced ((I:) :: backTo pos (starEach es X.env))) _ _ s;refine Calls.spliced_cons (thn (a8:) λu s1 j9=>?_);obtain ⟨x,H1,I1,r1,q1⟩:=j9;refine thn (hr pos j4 s1 σ H1 _ I1 q1) λus s2 zz12=>?_;obtain ⟨xs,H2,I2,r2,q2⟩:=zz12;exact ⟨x :: xs,H2,I2,.cons r1 r2,q2⟩
def kNew (o:List V->HO) (Q:VK) (xs:List V) (H:Hp):Prop:=xs.length<=sizeLine/\∀ p,H p=none->Q (.ref p) (upd H p (o xs))
def tTup (t:TA):TE:=λσ H Q=>t σ H (kNew .tup Q)
def tLst (t:TA):TE:=λσ H Q=>t σ H (kNew .lst Q)
def Yp {x1} (h:PA X es t):PE X (.Tuple es x1 pos) (tTup t):=by
 intro j4 s σ H Q I hq;refine wpAny_Tuple_spliced (thn (h pos j4 s σ H _ I hq) λus s1 xc=>?_);obtain ⟨xs,H1,I1,r,z,q⟩:=xc;refine ⟨by rw [<- r.length]; exact z,?_⟩;have hf:H1 s1.heap.objs.size=none:=I1.hok.fresh (An _);refine ⟨.ref s1.heap.objs.size,upd H1 s1.heap.objs.size (.tup xs),I1.laid (t':=s1.toks) (λb u e=>Ak _ e) (An _) ?_,Y,q _ hf⟩;exact ⟨z,us,r,⟨_,Ap _ Y,Y,_,Y⟩⟩
def Yz (h:PA X es t):PE X (.List es pos) (tLst t):=by
 intro j4 s σ H Q I hq;refine wpAny_List_spliced (thn (h pos j4 s σ H _ I hq) λus s1 xc=>?_);obtain ⟨xs,H1,I1,r,z,q⟩:=xc;refine ⟨by rw [<- r.length]; exact z,?_⟩;have hf:H1 s1.heap.objs.size=none:=I1.hok.fresh (An _);refine ⟨.ref s1.heap.objs.size,upd H1 s1.heap.objs.size (.lst xs),I1.laid (t':=s1.toks) (λb u e=>Ak _ e) (An _) ?_,Y,q _ hf⟩;exact ⟨z,us,0,r,Ap _ Y⟩
end
abbrev Sp:=List V->Hp->VK->XK->Prop
abbrev CXT:=List Env->Hp->Shared->XK->Value->Shared->Prop
structure Env0 (P:Program) (w:World) (K:W.Frag) (mg:Str->Option Value) (base:Heap) (A:Around) (outer:List Env) (s:Shared) (H:Hp):Prop where
 frames:A.frames=some outer
 mod:Mod K mg base
 bs:∀ b o,base.get? b=some o->s.heap.get? b=some o/\H b=none
 bsz:base.objs.size<=s.heap.objs.size
 funs:s.heap.FunFrames base outer
 frf:∀ b∈frs outer,H b=none
 hok:HOk P w H s.heap
 bare:AllBare s.gens
def CE (outer:List Env) (P:Program) (w:World) (H:Hp) (s:Shared) (Q:VK) (u:Value) (s':Shared):Prop :=
 ∃ v H',s'.os=s.os/\AllBare s'.gens/\Un (frs outer) [] H H' s.heap s'.heap/\HOk P w H' s'.heap/\RelV v u/\Q v H'
def CR (CX:CXT) (outer:List Env) (P:Program) (w:World) (H:Hp) (s:Shared) (Q:VK) (E:XK) (r:Result) (s':Shared):Prop :=
 match r with
 | .ok (.ret u)=>CE outer P w H s Q u s'
 | .ok _=>False
 | .error e=>CX outer H s E e s'
structure FnOk (P:Program) (w:World) (K:W.Frag) (mg:Str->Option Value) (base:Heap) (CX:CXT) (k:Nat) (f:Addr) (fd:FuncData) (ps:List Str) (sp:Sp):Prop where
 len:∀ vs H Q E,sp vs H Q E->vs.length=ps.length
 run:∀ (A:Around) (outer:List Env) (s:Shared) (H:Hp) (args:Args) (us:List Value) (vs:List V) (Q:VK) (E:XK),Room k A->Env0 P w K mg base A outer s H->BindsTo s fd args (ps.zip us)->Vals vs us->sp vs H Q E ->
  codeAny (W:) A (.call (.ref f) args) (CR CX outer P w H s Q E) s
def FnOk.mono {P:Program} {w:World} {K:W.Frag} {mg:Str->Option Value} {base:Heap} {CX:CXT} {j k:Nat} {f:Addr} {fd:FuncData} {ps:List Str} {sp:Sp} (F:FnOk P w K mg base CX j f fd ps sp) (h:j<=k) :
  FnOk P w K mg base CX k f fd ps sp:=⟨F.len,λA outer s H args us vs Q E hr=>F.run A outer s H args us vs Q E (hr.mono h)⟩
def FnOk.imp {P:Program} {w:World} {K:W.Frag} {mg:Str->Option Value} {base:Heap} {CX:CXT} {k:Nat} {f:Addr} {fd:FuncData} {ps:List Str} {sp sp':Sp} (F:FnOk P w K mg base CX k f fd ps sp)
  (h:∀ vs H Q E,sp' vs H Q E->sp vs H Q E):FnOk P w K mg base CX k f fd ps sp' :=
 ⟨λvs H Q E q=>F.len vs H Q E (h _ _ _ _ q),λA outer s H args us vs Q E hr he hb hv hs=>F.run A outer s H args us vs Q E hr he hb hv (h _ _ _ _ hs)⟩
def Env0.make {P:Program} {w:World} {K:W.Frag} {mg:Str->Option Value} {base:Heap} {A:Around} {outer:List Env} {s:Shared} {H:Hp} (e:Env0 P w K mg base A outer s H) (C:Addr) (us:List Value) (kw:List (Str × Value)) :
  Env0 P w K mg base (br:) outer s H:=⟨by first | exact e.frames | (simpa [Around.under,Code.envs,Code.isFrame,pushEnvs] using e.frames),e.mod,e.bs,e.bsz,e.funs,e.frf,e.hok,e.bare⟩
section
variable {X:Cx} {j4:List (p:)} {σ:St} {H:Hp} {s s':Shared}
def Inv.env0 (I:Inv X j4 σ H s):Env0 X.prog X.w X.K X.mg X.base X.A X.stack s H :=
 ⟨I.ok.frames,I.ok.mod,I.bs,Nat.le_trans I.ok.bsz I.sz,I.stack,I.stkFree,I.hok,I.bare⟩
def Inv.after (I:Inv X j4 σ H s) (h:CE X.stack X.prog X.w H s Q u s'):EP X j4 σ Q u s':=by
 obtain ⟨v,H',os,bare,un,hok,r,q⟩:=h;obtain ⟨hh,g,d,t,os'⟩:=s';obtain rfl:os'=s.os:=os;exact ⟨v,H',I.call (h':=hh) (g':=g) (d':=d) (t':=t) (ch:=[]) un hok bare (λb z=>absurd z (by simp)),r,q⟩
end
def Zpk (sp:Sp) (k7:List V) (Q:VK) (E:XK) (vs:List V) (H:Hp):Prop:=sp (vs ++ k7) H Q E
def Zjf (sp:Sp) (k7:List V) (E:XK) (t:TA):TE:=λσ H Q=>t σ H (Zpk sp k7 Q E)
def Zpi (sp:Sp) (k7:List V) (Q:VK) (E:XK) (x:V) (vs:List V) (H:Hp):Prop:=sp (x :: (vs ++ k7)) H Q E
inductive MMe (C:Addr) (m:Str) (t:TA) (σ:St) (Q:V->List V->Hp->Prop) (a:Addr) (H:Hp):Prop | mk {dx:Addr} {fs:List (Str × V)}:H a=some (cl:)->fs.lookup m=none->t σ H (Q (.ref a))->MMe C m t σ Q a H
def Ow (C:Addr) (m:Str) (t:TA) (σ:St) (Q:V->List V->Hp->Prop) (x:V) (H:Hp):Prop:=match x with | .ref a=>MMe C m t σ Q a H | _=>False
def Ow.ex {C:Addr} {m:Str} {t:TA} {σ:St} {Q:V->List V->Hp->Prop} {x:V} {H:Hp} (h:Ow C m t σ Q x H):∃ a dx fs,x=.ref a/\H a=some (cl:)/\fs.lookup m=none/\t σ H (Q x):=by
 cases x with
 | ref a=>obtain ⟨h1,h2,h3⟩:=(show MMe C m t σ Q a H from h); exact ⟨a,_,_,Y,h1,h2,h3⟩
 | _=>exact False.elim h
def Zo9 (C:Addr) (m:Str) (sp:Sp) (k7:List V) (E:XK) (ta:TE) (t:TA):TE:=λσ H Q=>ta σ H (Ow C m t σ (Zpi sp k7 Q E))
def Zte (C:Addr) (sp:Sp) (k7:List V) (E:XK) (t:TA):TE:=λσ H Q=>t σ H λvs H1=>∀ x dx,H1 x=none->H1 dx=none->dx≠x ->
 sp (.ref x :: (vs ++ k7)) (upd (upd H1 dx (.own x)) x (.ins C dx [])) (λv H2=>v=.non/\Q (.ref x) H2) E
def Wg (K:W.Frag) (fd:FuncData) (ps:List Str) (ds:List Value):Prop :=
 ∀ (s:Shared) (us:List Value),K.In s.heap->(us ++ ds).length=ps.length->BindsTo s fd ⟨us,[]⟩ (ps.zip (us ++ ds))
def Wg.all {K:W.Frag} {fd:FuncData} {ps:List Str} (h:∀ us:List Value,us.length=ps.length->bindArgs fd ⟨us,[]⟩=pure (ps.zip us)):Wg K fd ps []:=λs us _ hl=>by
 rw [append_nil] at hl ⊢;exact .of_eq (h us hl)
def Q2 (CX:CXT) (X:Cx) (E:XK):Prop:=∀ (j4:List (p:)) (σ:St) (H:Hp) (s:Shared) (e:Value) (s':Shared),Inv X j4 σ H s->CX X.stack H s E e s'->X.xe e s'
section
variable {X:Cx} {CX:CXT} {k:Nat} {f C:Addr} {fd:FuncData} {ps:List Str} {sp:Sp} {k7:List V} {ds:List Value} {E:XK} {x m:Str} {p pos kf:Pos} {e o:Expr} {es:List Expr} {ta:TE} {t:TA}
def Za7 (F:FnOk X.prog X.w X.K X.mg X.base CX k f fd ps sp) (hr:Room k X.A) (hb:Wg X.K fd ps ds) (hd:Vals k7 ds) (hx:Q2 CX X E)
  (I:Inv X j4 σ H s) (r:Vals vs us) (h:sp (vs ++ k7) H Q E):wpAny (d:) X.A (call (.ref f) us) (bz:) X.xe s:=by
 have r2:Vals (vs ++ k7) (us ++ ds):=r.append hd;have hl:(us ++ ds).length=ps.length:=by rw [<- r2.length]; exact F.len _ _ _ _ h
 refine wpAny_call (da:)
 cases r with
 | error e=>exact hx j4 σ H s e s' I hq
 | ok fl =>
  cases fl with
  | ret u=>exact I.after hq
  | next=>exact False.elim hq
  | brk=>exact False.elim hq
  | cont=>exact False.elim hq
def Zqi (F:FnOk X.prog X.w X.K X.mg X.base CX k f fd ps sp) (hr:Room k X.A) (hg:Gl X x) (hm:X.mg x=some (.ref f)) (hk:PySem.W.keepIn X.K (.ref f)=true) (hb:Wg X.K fd ps ds) (hd:Vals k7 ds) (hx:Q2 CX X E)
  (ha:PA X (e :: es) t) (ny:(H:)=false:=by decide) (he:starEach (e :: es) X.env=(I:) :: starEach es X.env:=by rfl) (lg:(z:).any (·.1)=false:=by rfl) :
  PE X (V:) (Zjf sp k7 E t):=by
 intro j4 s σ H Q I h;refine wpAny_Call_Name_kw (Vj I hg hm ?_ ny);refine PySem.W.callWith_K (h₀:=X.base) I.ok.mod.kin hk (thn (co:) λus s1 zz13=>?_) he lg;obtain ⟨vs,H1,I1,r,q⟩:=zz13;refine ⟨I1.kIn,?_⟩;exact Za7 F hr hb hd hx I1 r q
def Xr {pl:Sem Bool} (he:PE X o ta) (c:Cls X.K C) (hm:Meth X.K C m f) (F:FnOk X.prog X.w X.K X.mg X.base CX k f fd ps sp) (hr:Room k X.A) (hb:Wg X.K fd ps ds) (hd:Vals k7 ds) (hx:Q2 CX X E) (ha:PA X (e :: es) t)
  (mh:starEach (e :: es) X.env=(I:) :: starEach es X.env:=by rfl) (lg:(z:).any (·.1)=false:=by rfl)
  (ht:eval (dh:) X.env=(do
   let ov <- eval o X.env
   standAt kf.atName
   let (f,first) <- holding [ov] (getMethod ov m pl)
   callWith pos f first (backTo pos (starEach (e :: es) X.env)) (backToKw pos (bx:))):=by rfl) :
  PE X (dh:) (Zo9 C m sp k7 E ta t):=by
 intro j4 s σ H Q I h;refine PySem.W.methodCall_KW (pl:=pl) (thn (cj:) λu s1 zz14=>?_) ht;obtain ⟨x,H1,I1,rx,qq⟩:=zz14;obtain ⟨a,dx,fs,ex,ea,l,q⟩:=Ow.ex qq;subst ex;obtain rfl:u=Value.ref a:=rx;refine Vd I1 ea c hm l ?_;refine PySem.W.callWith_K (first:=[.ref a]) (h₀:=X.base) I.ok.mod.kin hm.kp (thn (ha pos j4 s1 σ H1 _ I1 q) λus s2 zz15=>?_) mh lg;obtain ⟨vs,H2,I2,r,q2⟩:=zz15;refine ⟨I2.kIn,?_⟩;exact Za7 (us:=.ref a :: us) (vs:=.ref a :: vs) F hr hb hd hx I2 (.cons Y r) q2
def Oi {pl:Sem Bool} (he:PE X o ta) (c:Cls X.K C) (hm:Meth X.K C m f) (F:FnOk X.prog X.w X.K X.mg X.base CX k f fd ps sp) (hr:Room k X.A) (hb:Wg X.K fd ps ds) (hd:Vals k7 ds) (hx:Q2 CX X E)
  (ht:eval (er:) X.env=(do
   let ov <- eval o X.env
   standAt kf.atName
   let (f,first) <- holding [ov] (getMethod ov m pl)
   callWith pos f first (backTo pos (starEach [] X.env)) (backToKw pos (bx:))):=by rfl) :
  PE X (er:) (Zo9 C m sp k7 E ta tNil):=by
 intro j4 s σ H Q I h;refine PySem.W.methodCall_KW (pl:=pl) (thn (cj:) λu s1 zz16=>?_) ht;obtain ⟨x,H1,I1,rx,qq⟩:=zz16;obtain ⟨a,dx,fs,ex,ea,l,q⟩:=Ow.ex qq;subst ex;obtain rfl:u=Value.ref a:=rx;refine Vd I1 ea c hm l ?_;exact PySem.W.callWith_K0 (first:=[.ref a]) I1.kIn hm.kp (Za7 (us:=[.ref a]) (vs:=[.ref a]) F hr hb hd hx I1 (.cons Y .nil) q)
structure Mk (K:W.Frag) (C f:Addr):Prop where
 makes:PySem.W.makesIn K C=true
 init:PySem.W.findIn K (.ref C) "__init__"=some (some (.ref f))
 fn:PySem.W.isFn K (.ref f)=true
 kp:PySem.W.keepIn K (.ref C)=true
def Znx (M:Mk X.K C f) (F:FnOk X.prog X.w X.K X.mg X.base CX k f fd ps sp) (hr:Room (k + 1) X.A) (hb:Wg X.K fd ps ds) (hd:Vals k7 ds)
  (hx:Q2 CX X E) (I:Inv X j4 σ H s) (r:Vals vs us)
  (h:∀ x dx,H x=none->H dx=none->dx≠x->sp (.ref x :: (vs ++ k7)) (upd (upd H dx (.own x)) x (.ins C dx [])) (λv H2=>v=.non/\Q (.ref x) H2) E) :
  wpAny (d:) X.A (call (.ref C) us) (bz:) X.xe s:=by
 have hq:=h (S:) s.heap.objs.size (I.hok.fresh (le_succ _)) (I.hok.fresh (An _)) (As (lt_succ_self _));have I2:=Inv.made (C:=C) I;have r2:Vals (V.ref (S:) :: (vs ++ k7)) (Value.ref (S:) :: (us ++ ds)):=.cons rfl (r.append hd);have hl:(Value.ref (S:) :: us ++ ds).length=ps.length:=by
  have e:=r2.length
  rw [F.len _ _ _ _ hq] at e
  exact e.symm
 refine wpAny_call (Zoj (f:=f) I.kIn M.makes M.init (beq_iff_eq.mp M.fn) (codeAny_mono (F.run _ X.stack _ _ ⟨Value.ref (S:) :: us,[]⟩ (Value.ref (S:) :: (us ++ ds)) _ _ E (hr.make C us [])
  (I2.env0.make C us []) (hb _ (Value.ref (S:) :: us) I2.kIn hl) r2 hq) λr s' my=>?_))
 cases r with
 | error e=>exact hx j4 σ _ _ e s' I2 my
 | ok fl =>
  cases fl with
  | ret u =>
   obtain ⟨v,H',I3,rv,ev,q3⟩:=I2.after my;subst ev;exact ⟨rv,⟨V.ref (S:),H',I3,Y,q3⟩⟩
  | next=>exact False.elim my
  | brk=>exact False.elim my
  | cont=>exact False.elim my
def Jz (M:Mk X.K C f) (F:FnOk X.prog X.w X.K X.mg X.base CX k f fd ps sp) (hr:Room (k + 1) X.A) (hg:Gl X x) (hm:X.mg x=some (.ref C)) (hb:Wg X.K fd ps ds) (hd:Vals k7 ds) (hx:Q2 CX X E)
  (ha:PA X (e :: es) t) (ny:(H:)=false:=by decide) (he:starEach (e :: es) X.env=(I:) :: starEach es X.env:=by rfl) (lg:(z:).any (·.1)=false:=by rfl) :
  PE X (V:) (Zte C sp k7 E t):=by
 intro j4 s σ H Q I h;refine wpAny_Call_Name_kw (Vj I hg hm ?_ ny);refine PySem.W.callWith_K (h₀:=X.base) I.ok.mod.kin M.kp (thn (co:) λus s1 zz17=>?_) he lg;obtain ⟨vs,H1,I1,r,q⟩:=zz17;refine ⟨I1.kIn,?_⟩;exact Znx M F hr hb hd hx I1 r q
end
structure FnScope (N P:List Str) (sc:Scope):Prop where
 kind:sc.kind=.function
 co:sc.isCoroutine=false
 gen:sc.isGenerator=false
 nd:N.Nodup
 pre:N.take P.length=P
 par:∀ x∈P,sc.names.lookup x=some .local\/sc.names.lookup x=some .cell
 nofree:∀ y∈sc.names,y.2≠.free
def Am{N P:List Str}{sc:Scope}(a:sc.kind=.function:=by rfl)(b:sc.isCoroutine=false:=by rfl)(c:sc.isGenerator=false:=by rfl)(d:N.Nodup:=by decide +kernel)(e:N.take P.length=P:=by rfl)(f:∀ x∈P,sc.names.lookup x=some .local\/sc.names.lookup x=some .cell:=by decide +kernel)(g:∀ y∈sc.names,y.2≠.free:=by decide +kernel):FnScope N P sc:=⟨a,b,c,d,e,f,g⟩
theorem Zdt {kindOf:Str->Option NameKind} {x:Str}:∀ {binds:List (Str × Value)} {m:Str->Option Value},(∀ v,(x,v) ∉ binds)->bindL kindOf binds m x=m x
 | [],_,_=>rfl
 | (n,v) :: r,m,h=>by
  unfold bindL;rw [Zdt λw hw=>h w (mem_cons_of_mem _ hw)];split
  ·have:x≠n:=by rintro rfl; exact h v mem_cons_self
   simp [this]
  ·rfl
theorem Zdv {kindOf:Str->Option NameKind} {x:Str}:∀ {binds:List (Str × Value)} {m:Str->Option Value},(∀ v,(x,v) ∉ binds)->bindC kindOf binds m x=m x
 | [],_,_=>rfl
 | (n,v) :: r,m,h=>by
  unfold bindC;rw [Zdv λw hw=>h w (mem_cons_of_mem _ hw)];split
  ·rfl
  ·have:x≠n:=by rintro rfl; exact h v mem_cons_self
   simp [this]
theorem Zdu {kindOf:Str->Option NameKind} {x:Str} {v:Value}:∀ {P:List Str} {vs:List Value} {i:Nat} {m:Str->Option Value},P.Nodup->P[i]?=some x->vs[i]?=some v->kindOf x=some .local ->
  bindL kindOf (P.zip vs) m x=some v
 | [],_,_,_,_,h,_,_=>by simp at h
 | _ :: _,[],_,_,_,_,h,_=>by simp at h
 | p :: P,w :: vs,0,m,nd,h1,h2,hk=>by
  simp at h1 h2; subst h1; subst h2;show bindL kindOf ((p,w) :: P.zip vs) m p=_;unfold bindL;rw [Zdt λv hv=>(nodup_cons.mp nd).1 (of_mem_zip hv).1,if_pos hk];simp
 | p :: P,w :: vs,i + 1,m,nd,h1,h2,hk=>by
  show bindL kindOf ((p,w) :: P.zip vs) m x=_;unfold bindL;exact Zdu (i:=i) (nodup_cons.mp nd).2 (by simpa using h1) (by simpa using h2) hk
theorem Zdw {kindOf:Str->Option NameKind} {x:Str} {v:Value}:∀ {P:List Str} {vs:List Value} {i:Nat} {m:Str->Option Value},P.Nodup->P[i]?=some x->vs[i]?=some v->kindOf x≠some .local ->
  bindC kindOf (P.zip vs) m x=some v
 | [],_,_,_,_,h,_,_=>by simp at h
 | _ :: _,[],_,_,_,_,h,_=>by simp at h
 | p :: P,w :: vs,0,m,nd,h1,h2,hk=>by
  simp at h1 h2; subst h1; subst h2;show bindC kindOf ((p,w) :: P.zip vs) m p=_;unfold bindC;rw [Zdv λv hv=>(nodup_cons.mp nd).1 (of_mem_zip hv).1,if_neg hk];simp
 | p :: P,w :: vs,i + 1,m,nd,h1,h2,hk=>by
  show bindC kindOf ((p,w) :: P.zip vs) m x=_;unfold bindC;exact Zdw (i:=i) (nodup_cons.mp nd).2 (by simpa using h1) (by simpa using h2) hk
noncomputable def start (N:List Str) (vs:List V):St:=vs.map some ++ List.replicate (N.length - vs.length) none
noncomputable def cxOf (CX:CXT) (P:Program) (w:World) (K:W.Frag) (mg:Str->Option Value) (base:Heap) (N:List Str) (qual:Str) (scope:Scope) (f:Addr) (cd:Value) (A:Around) (outer:List Env) (s:Shared) (H:Hp) (E:XK):Cx where
 prog:=P
 w:=w
 K:=K
 mg:=mg
 base:=base
 A:=A.deeper (F:)
 N:=N
 s₀:=s
 H₀:=H
 env:=envOfC qual scope s.heap.objs.size f cd
 outer:=outer
 stack:=envOfC qual scope s.heap.objs.size f cd :: outer
 ex:=[]
 calm:=true
 fn:=λ_=>true
 pn:=[]
 xe:=λe s'=>wpAny (W:) (A.deeper (F:)) (leaving (F:) e) (λ_ nk=>CX outer H s E e nk) (λe' nk=>CX outer H s E e' nk) s'
def Zg0 {sc:Scope} (h:sc.names.lookup x=some .cell):∃ c,(cellsFrom n sc.names []).lookup x=some c:=by
 have q:=PySem.W.cellsFrom_some sc.names n [] (.inl h);exact Option.isSome_iff_exists.mp q
def Zml {CX:CXT} {P:Program} {w:World} {K:W.Frag} {mg:Str->Option Value} {base:Heap} {N ps:List Str} {qual:Str} {scope:Scope} {f:Addr} {cd:Value} {A:Around} {outer:List Env} {s s1:Shared} {H:Hp} {E:XK} {us:List Value} {vs:List V}
  (S:FnScope N ps scope) (hd:A.handled=none) (e0:Env0 P w K mg base A outer s H) (hl:vs.length=ps.length) (r:Vals vs us)
  (x:InCallC s s.heap.objs.size (bindL (F:).kindOf (ps.zip us) λ_=>none) (cellsFrom (S:) scope.names []) (bindC (F:).kindOf (ps.zip us) λ_=>none) s1) :
  Inv (cxOf CX P w K mg base N qual scope f cd A outer s H E) [] (start N vs) H s1:=by
 have lg:ps.length<=N.length:=by have:=congrArg List.length S.pre; rw [Ai] at this; lia
 obtain ⟨h1,tk,rfl,hk⟩:=x.done;have noA:∀ b:Addr,b ∉ (cxOf CX P w K mg base N qual scope f cd A outer s H E).ex:=λb z=>absurd (show b∈([]:List Addr) from z) (by simp);refine ⟨⟨e0.mod,S.kind,Y,Y,An _,λy z c h1 h2=>?_,λy hy=>?_,λy c _ h=>?_,λ_=>hd,Around.frames_deeper e0.frames,.inr ⟨Y,Y⟩,λb z=>absurd z (noA b),e0.bs,e0.bsz,λb _ _=>noA b,λb z=>absurd z (noA b),e0.funs,e0.frf⟩,
  rfl,e0.bare,Un.kept hk,⟨_,x.toInCall.ns,λi y v h1 h2 h3=>?_⟩,λy c h=>⟨_,x.cell y c h⟩,e0.hok.fresh (An _),λy c h=>?_,λp hp=>absurd (show p∈([]:List (p:)) from hp) (by simp),e0.hok.kept hk,?_⟩
 ·exact name_of_addr x.apart (PySem.mem_of_lookup h1) (PySem.mem_of_lookup h2)
 ·have hy:scope.names.lookup y=some .cell\/scope.names.lookup y=some .free:=hy
  rcases hy with hy | hy
  ·exact Zg0 hy
  ·exact absurd Y (S.nofree _ (PySem.mem_of_lookup hy))
 ·exact Nat.le_of_lt (x.above y c (PySem.mem_of_lookup h))
 ·have hi:i < vs.length:=by
   unfold start at h2;by_cases hi:i < vs.length
   ·exact hi
   ·rw [getElem?_append_right (by simpa using hi)] at h2
    rw [getElem?_replicate] at h2;split at h2 <;> cases h2
  have ha:vs[i]?=some v:=by
   unfold start at h2;rw [Av (by simpa using hi),Ah] at h2
   cases e:vs[i]? with
   | none=>rw [e] at h2; cases h2
   | some a=>rw [e] at h2; cases h2; rfl
  obtain ⟨u,hu,rv⟩:=r.get ha;have hp:ps[i]?=some y:=by
   rw [<- S.pre,getElem?_take_of_lt (by lia)]; exact h1
  have ndP:ps.Nodup:=by rw [<- S.pre]; exact S.nd.sublist (take_sublist _ _)
  refine ⟨u,rv,?_⟩
  rcases S.par y (Au hp) with k | k
  ·exact .inl ⟨k,Zdu ndP hp hu k⟩
  ·obtain ⟨c,e⟩:=Zg0 (n:=s.heap.objs.size + 1) k
   refine .inr ⟨.inl k,c,e,?_⟩;have q:=x.cell y c e;rw [Zdw ndP hp hu (by show scope.names.lookup y≠_; rw [k]; decide)] at q;exact q
 ·exact e0.hok.fresh (Nat.le_of_lt (x.above y c (PySem.mem_of_lookup h)))
 ·unfold start
  show _=N.length;rw [Ae,Ab,length_replicate];lia
def Zeh {CX:CXT} {P:Program} {w:World} {K:W.Frag} {mg:Str->Option Value} {base:Heap} {k:Nat} {f:Addr} {name qual:Str} {params:Arguments} {body:List Stmt} {scope:Scope} {dV kV k6 pm kj ct oc:Value} {an od:Option Addr}
  {t7:Array (Option Value)} {N ps:List Str} {sp:Sp} (lk:K.lookup f=some ⟨oc,od,.func (PySem.W.fnOf name qual params body scope dV kV k6 pm an kj ct),t7⟩) (oy:PySem.W.codeIn K kj qual=true) (S:FnScope N ps scope)
  (len:∀ vs H Q E,sp vs H Q E->vs.length=ps.length)
  (lp:∀ (A:Around) (outer:List Env) (s:Shared) (H:Hp) (vs:List V) (Q:VK) (E:XK),Room k (A.deeper (envOfC qual scope s.heap.objs.size f kj))->sp vs H Q E ->
   ∃ t,PSs (ee:) body t/\t { nx:=λ_ H'=>Q .non H',rt:=Q } (start N vs) H) :
  FnOk P w K mg base CX (k + 1) f (PySem.W.fnOf name qual params body scope dV kV k6 pm an kj ct) ps sp:=by
 refine ⟨len,λA outer s H args us vs Q E hr e0 hb r mz=>?_⟩;have hl:=len _ _ _ _ mz;have KX:K.In s.heap:=e0.mod.kin.keeps λb o e=>(e0.bs b o e).1;have lim:s.heap.NoLimit:=e0.mod.nolimit.keeps λb o e=>(e0.bs b o e).1;have hkind:∀ y∈ps.zip us,scope.names.lookup y.1=some .local\/(scope.names.lookup y.1=some .cell/\((cellsFrom (S:) scope.names []).lookup y.1).isSome=true):=λ⟨n,v⟩ hy=>by
  rcases S.par n (of_mem_zip hy).1 with q | q
  ·exact .inl q
  ·exact .inr ⟨q,PySem.W.cellsFrom_some _ _ _ (.inl q)⟩
 refine codeAny_call_function hr.depth (KX _ _ lk) Y S.co S.gen Y (PySem.W.codeRec_of KX oy) (hb _ _ _ _ ?_);refine wpAny_newFunctionEnv_cells S.kind hkind λenv he s1 x=>?_;subst he;refine ⟨lim.keeps x.toInCall.keep,codeAny_func ?_⟩;obtain ⟨t,ht,hq⟩:=lp A outer s H vs Q E (hr.deeper _) mz;have I:Inv (ee:) [] (start N vs) H s1:=Zml S hr.hd e0 hl r x;refine wpAny_mono (ht [] s1 (start N vs) H _ I hq) (λfl s' hs=>?_) λe s' hs=>hs;have km:∀ {σ':St} {H':Hp} {v:V} {u:Value},Inv (ee:) [] σ' H' s'->RelV v u->Q v H'->CE outer P w H s Q u s' :=
  λ{σ' H' v u} J rv q=>⟨v,H',J.os,J.bare,J.base,J.hok,rv,q⟩
 cases fl with
 | ret u =>
  obtain ⟨v,σ',H',J,rv,q⟩:=hs;exact km J rv q
 | next =>
  obtain ⟨σ',H',J,q⟩:=hs;exact km (v:=V.non) (u:=Value.none) J Y q
 | brk =>
  obtain ⟨_,_,_,q⟩:=hs;exact False.elim q
 | cont =>
  obtain ⟨_,_,_,q⟩:=hs;exact False.elim q
section
variable {X:Cx} {x:Str} {p pos:Pos} {e:Expr} {es:List Expr} {t:TA} {id T:String} {r:List V->Hp->VK->Prop}
def kCB (r:List V->Hp->VK->Prop) (Q:VK) (vs:List V) (H:Hp):Prop:=r vs H Q
def tCB (r:List V->Hp->VK->Prop) (t:TA):TE:=λσ H Q=>t σ H (kCB r Q)
def Yg (hc:Y2 X (.builtin id) r) (hg:Gl X x) (hm:X.mg x=none) (hv:bootBuiltins x=some (.builtin id)) (ha:PA X (e :: es) t) (hn:x≠"__name__":=by decide) (ny:(H:)=false:=by decide)
  (he:starEach (e :: es) X.env=(I:) :: starEach es X.env:=by rfl) (lg:(z:).any (·.1)=false:=by rfl):PE X (V:) (tCB r t):=by
 intro j4 s σ H Q I h;refine wpAny_Call_Name_kw (We I hg hm hv ?_ hn ny);refine PyProof.Rows.callWith_builtin1 (thn (co:) λus s1 zz18=>?_) he lg;obtain ⟨vs,H1,I1,r1,q1⟩:=zz18;exact hc j4 s1 σ H1 vs us Q I1 r1 q1
def Ys (hc:Y2 X (.type T) r) (hg:Gl X x) (hm:X.mg x=none) (hv:bootBuiltins x=some (.type T)) (ha:PA X (e :: es) t) (hn:x≠"__name__":=by decide) (ny:(H:)=false:=by decide)
  (he:starEach (e :: es) X.env=(I:) :: starEach es X.env:=by rfl) (lg:(z:).any (·.1)=false:=by rfl):PE X (V:) (tCB r t):=by
 intro j4 s σ H Q I h;refine wpAny_Call_Name_kw (We I hg hm hv ?_ hn ny);refine PyProof.Rows.callWith_type1 (thn (co:) λus s1 zz19=>?_) he lg;obtain ⟨vs,H1,I1,r1,q1⟩:=zz19;exact hc j4 s1 σ H1 vs us Q I1 r1 q1
end
end L2
namespace HT
open PySem PyProof.Rows
section
variable {prog:Program} {w:World} {A:Around} {E:Value->Shared->Prop} {s:Shared}
noncomputable def sIx (n d:Nat):Option Int->Nat
 | none=>d
 | some v=>if v < 0 then (v + (n:Int)).toNat else min v.toNat n
def sIx_none (n d:Nat):sIx n d none=d:=rfl
def sIx_nat (n d k:Nat):sIx n d (some (k:Int))=min k n:=by
 show (if (k:Int) < 0 then ((k:Int) + (n:Int)).toNat else min (k:Int).toNat n)=min k n;rw [if_neg (by lia),Int.toNat_natCast]
end
end HT
namespace L2
open PySem PySem.Spec PyProof.Rows
abbrev TO:=St->Hp->(Option Int->Hp->Prop)->Prop
def PO (X:Cx) (e:Option Expr) (t:TO):Prop :=
 ∀ j4 s σ H (Q:Option Int->Hp->Prop),Inv X j4 σ H s->t σ H Q ->
  wpAny (d:) X.A (evalPart e X.env) (λu s'=>∃ o H',Inv X j4 σ H' s'/\IsPart u o/\Q o H') X.xe s
def Zpr:TO:=λ_ H Q=>Q none H
def Ztx (Q:Option Int->Hp->Prop) (x:V) (H:Hp):Prop:=∃ i,x=.int i/\Q (some i) H
def Ztc (t:TE):TO:=λσ H Q=>t σ H (Ztx Q)
def Qa {ns:List Int}:∀ {us:List Value},Vals (L:) us->IntsAre us ns:=by
 induction ns with
 | nil=>intro us r; rw [map_nil] at r; cases r; exact .nil
 | cons n ns ih =>
  intro us r;rw [map_cons] at r
  cases r with
  | cons r1 r2 =>
   obtain ⟨t,e⟩:=r1;subst e;exact .cons n t (ih r2)
section
variable {X:Cx} {e:Expr} {te:TE} {lo hi:Option Expr} {tl th:TO} {pos p2:Pos}
def Jg:PO X none Zpr:=by
 intro j4 s σ H Q I h;rw [evalPart_none];exact wpAny_pure ⟨none,H,I,.none,h⟩
def X0 (h:PE X e te):PO X (some e) (Ztc te):=by
 intro j4 s σ H Q I hw;rw [evalPart_some];refine thn (h j4 s σ H _ I hw) λu s1 j9=>?_;obtain ⟨x,H1,I1,r1,q1⟩:=j9;obtain ⟨i,rfl,q⟩:=q1;obtain ⟨t,rfl⟩:=r1;exact ⟨some i,H1,I1,.int i t,q⟩
def SlR (X:Cx) (r:V->Option Int->Option Int->Hp->VK->Prop):Prop :=
 ∀ j4 s σ H (x:V) (v vl vu:Value) (lo hi:Option Int) (sl:Addr) (Q:VK),Inv X j4 σ H s->RelV x v->s.heap.IsSliceOf sl vl vu .none->IsPart vl lo->IsPart vu hi->r x lo hi H Q ->
  ∃ T id,typeLookup (.type T) "__getitem__"=pure (some (.builtin id))/\s.TypeIs v T/\wpAny (d:) X.A (getItem v (.ref sl)) (bz:) X.xe s
def tSl (r:V->Option Int->Option Int->Hp->VK->Prop) (te:TE) (tl th:TO):TE:=λσ H Q=>te σ H λx H1=>tl σ H1 λl H2=>th σ H2 λu H3=>r x l u H3 Q
def X3 (hr:SlR X r) (he:PE X e te) (hl:PO X lo tl) (hu:PO X hi th):PE X (.Subscript e (.Slice lo hi none p2) pos) (tSl r te tl th):=by
 intro j4 s σ H Q I h;refine Subscript_ (thn (cj:) λv s1 j9=>?_);obtain ⟨x,H1,I1,r1,q1⟩:=j9;refine wpAny_Slice (thn (hl j4 s1 σ H1 _ I1 q1) λvl s2 zz20=>?_);obtain ⟨l,H2,I2,pl,q2⟩:=zz20;refine thn (hu j4 s2 σ H2 _ I2 q2) λvu s3 j9=>?_;obtain ⟨u,H3,I3,pu,q3⟩:=j9;rw [evalPart_none];refine wpAny_pure ?_;have I4:Inv X j4 σ H3 { s3 with heap:=s3.heap.push { cls:=.type "slice",data:=.fields #[vl,vu,.none] } }:=I3.kept (t':=s3.toks) λb ob q=>Ak _ q;obtain ⟨T,id,hT,ht,hg⟩:=hr j4 { s3 with heap:=s3.heap.push { cls:=.type "slice",data:=.fields #[vl,vu,.none] } } σ H3 x v vl vu l u s3.heap.objs.size Q I4 r1 (Heap.IsSliceOf.new ..) pl pu q3;show wpAny (d:) X.A (subscriptTail e (.Slice lo hi none p2) v (.ref s3.heap.objs.size)) (bz:) X.xe { s3 with heap:=s3.heap.push { cls:=.type "slice",data:=.fields #[vl,vu,.none] } };exact tail_any (ops:=[.ref s3.heap.objs.size,v]) ht hT hg (ap:)
noncomputable def cutV (xs:List V) (lo hi:Option Int):List V:=(xs.drop (HT.sIx xs.length 0 lo)).take (HT.sIx xs.length xs.length hi - HT.sIx xs.length 0 lo)
def Zh1 (xs:List V) (lo hi:Option Int):(cutV xs lo hi).length<=xs.length:=by
 unfold cutV;rw [Ai,length_drop];lia
end
noncomputable def ixN (n:Nat) (i:Int):Option Nat:=if 0<=i then (if i < n then some i.toNat else none) else if -(n:Int)<=i then some (i + n).toNat else none
noncomputable def atI {α:Type} (xs:List α) (i:Int):Option α:=(ixN xs.length i).bind λj=>xs[j]?
def Ziv (h:ixN n i=some j):seqIndex? i n=some j/\j < n/\-(n:Int)<=i/\i < n:=by
 unfold ixN at h;by_cases h0:0<=i
 ·rw [if_pos h0] at h
  by_cases h1:i < n
  ·rw [if_pos h1] at h
   have e:i.toNat=j:=Ax h;exact ⟨by rw [seqIndex_of h0 h1,e],by lia,by lia,h1⟩
  ·rw [if_neg h1] at h; cases h
 ·rw [if_neg h0] at h
  by_cases h1:-(n:Int)<=i
  ·rw [if_pos h1] at h
   have e:(i + n).toNat=j:=Ax h;exact ⟨by rw [seqIndex_neg (by lia) h1,e],by lia,h1,by lia⟩
  ·rw [if_neg h1] at h; cases h
def Zi6 {α:Type} {xs:List α} {i:Int} {v:α} (h:atI xs i=some v):∃ j,seqIndex? i xs.length=some j/\xs[j]?=some v/\j < xs.length/\-(xs.length:Int)<=i/\i < xs.length:=by
 unfold atI at h
 cases e:ixN xs.length i with
 | none=>rw [e] at h; cases h
 | some j =>
  rw [e] at h;obtain ⟨h1,h2,h3,h4⟩:=Ziv e;exact ⟨j,h1,h,h2,h3,h4⟩
def Xa {α:Type} {xs:List α} {j:Nat} {v:α} (h:xs[j]?=some v):atI xs (j:Int)=some v:=by
 have hj:j < xs.length:=(Aa h).1;have e:ixN xs.length (j:Int)=some j:=by
  unfold ixN
  rw [if_pos (by lia),if_pos (by lia)]; simp
 unfold atI; rw [e]; exact h
def Zrd (b:Expr):Prop:=∀ o i,subscripted b false o i=operate [o,i] (getItem o i)
def IxR (X:Cx) (r:R2):Prop :=
 ∀ (value mr:Expr) (j4:List (p:)) (s:Shared) (σ:St) (H:Hp) (x y:V) (v u:Value) (Q:VK),Inv X j4 σ H s->RelV x v->RelV y u->r x y H Q ->
  subscripted mr false v u=operate [v,u] (getItem v u)->wpAny (d:) X.A (subscriptTail value mr v u) (bz:) X.xe s
def MtR (X:Cx) (id:String) (r:V->List V->Hp->VK->Prop):Prop :=
 ∀ j4 s σ H (x:V) (xs:List V) (v:Value) (us:List Value) (Q:VK),Inv X j4 σ H s->RelV x v->Vals xs us->r x xs H Q ->
  wpAny (d:) X.A (call (.builtin id) (v :: us)) (bz:) X.xe s
section
variable {X:Cx} {a b:Expr} {ta tb:TE} {pos:Pos}
def Zt (hr:IxR X r) (ha:PE X a ta) (hb:PE X b tb) (hs:Zrd b):PE X (.Subscript a b pos) (tOp r ta tb):=by
 intro j4 s σ H Q I h;exact Subscript_ (binT ha hb I h λv u s2 x y H2 I2 rx ry q=>hr a b j4 s2 σ H2 x y v u Q I2 rx ry q (hs _ _))
inductive MIxs (S:Hp->Addr->List V->Prop) (p:Addr) (i:Int) (H:Hp) (Q:VK):Prop | mk {xs:List V} {v:V}:S H p xs->atI xs i=some v->Q v H->MIxs S p i H Q
def MIx (S:Hp->Addr->List V->Prop) (x y:V) (H:Hp) (Q:VK):Prop:=match x,y with | .ref p,.int i=>MIxs S p i H Q | _,_=>False
def MIx.ex {S:Hp->Addr->List V->Prop} {x y:V} {H:Hp} {Q:VK} (h:MIx S x y H Q):∃ p xs i v,x=.ref p/\y=.int i/\S H p xs/\atI xs i=some v/\Q v H:=match x,y,h with | .ref p,.int i,⟨a,b,c⟩=>⟨p,_,i,_,rfl,rfl,a,b,c⟩
def rIxL (K:W.Frag):R2:=MIx (SqL K)
def rIxT (K:W.Frag):R2:=MIx (SqT K)
def Zv:IxR X (rIxL X.K):=by
 intro value mr j4 s σ H x y v u Q I rx ry h hs;obtain ⟨p,xs,i,z,rfl,rfl,hq,he,q⟩:=MIx.ex h;cases rx;obtain ⟨t,rfl⟩:=ry;obtain ⟨its,r,pl,hz⟩:=I.list hq;obtain ⟨j,h1,h2,h3,h4,h5⟩:=Zi6 he;obtain ⟨w,ew,ou⟩:=r.get h2;have hl:=r.length;have hn:=Vw;have km:EP X j4 σ Q w s:=⟨z,H,I,ou,q⟩;by_cases h0:0<=i
 ·have hj:i.toNat=j:=by
   rw [seqIndex_of h0 h5] at h1;exact Ax h1
  exact item_listR pl.isList h0 (by lia) (by rw [hj]; simpa using ew) km hs
 ·have hj:(i + (c9:)).toNat=j:=by
   rw [seqIndex_neg (by lia) h4] at h1;rw [Aq,<- hl];exact Ax h1
  exact subscriptTail_builtinR (x:=w) pl.isList.typeIs slot_list_getitem.lookup
   (wpAny_getItem_list_neg (Q:=λr s'=>r=w/\EP X j4 σ Q r s') pl.isList (by lia) (by rw [Aq] <;> lia) (by lia) (by rw [hj]; simpa using ew) ⟨rfl,km⟩) hs
def Yr:IxR X (rIxT X.K):=by
 intro value mr j4 s σ H x y v u Q I rx ry h hs;obtain ⟨p,xs,i,z,rfl,rfl,hq,he,q⟩:=MIx.ex h;cases rx;obtain ⟨t,rfl⟩:=ry;obtain ⟨its,r,pl,hz⟩:=I.tuple hq;obtain ⟨j,h1,h2,h3,h4,h5⟩:=Zi6 he;obtain ⟨w,ew,ou⟩:=r.get h2;have hl:=r.length;have hn:=Vw;have km:EP X j4 σ Q w s:=⟨z,H,I,ou,q⟩;exact subscriptTail_builtinR (x:=w) pl.typeIs slot_tuple_getitem.lookup
  (getItem_tuple (j:=j) (Q:=λr s'=>r=w/\EP X j4 σ Q r s') pl (by lia) (by lia) (by rw [Aq,<- hl]; exact h1) (by simpa using ew) ⟨Y,km⟩) hs
def Zkb (its:List Value) (n j:Nat) (u:Value):Obj.mapSeq (·.setIfInBounds j u) { cls:=.type "list",data:=.seq its.toArray n }={ cls:=.type "list",data:=.seq (its.set j u).toArray n }:=by
 simp [Obj.mapSeq]
def Inv.lst {s:Shared} {xs:List V} (I:Inv X j4 σ H s) (h:H p=some (.lst xs)) :
  ∃ (its:List Value) (n:Nat),Vals xs its/\s.heap.get? p=some { cls:=.type "list",data:=.seq its.toArray n }/\xs.length<=sizeLine:=by
 obtain ⟨z,its,n,r,e⟩:=I.hok p _ h;exact ⟨its,n,r,e,z⟩
def Inv.lstUpd {s:Shared} {ys:List V} {its its':List Value} (I:Inv X j4 σ H s) (h:H p=some (.lst xs))
  (ho:s.heap.get? p=some { cls:=.type "list",data:=.seq its.toArray n }) (hf:f { cls:=.type "list",data:=.seq its.toArray n }={ cls:=.type "list",data:=.seq its'.toArray n' }) (r:Vals ys its') (hz:ys.length<=sizeLine) (t:Nat) :
  Inv X j4 σ (upd H p (.lst ys)) { s with heap:=s.heap.update p f,toks:=t }:=by
 have e:(s.heap.update p f).get? p=some { cls:=.type "list",data:=.seq its'.toArray n' }:=by
  rw [Heap.get?_update_self f ho (by rw [hf] <;> rfl),hf]
 refine I.write (x:=p) (e:=p) (by rw [h]; trivial) (.inl rfl) (λb u hb q=>(dy:).trans q) ⟨_,e⟩ ?_;exact ⟨hz,its',n',r,e⟩
def Zto:V->V->V->Hp->(Hp->Prop)->Prop:=λo i v H Q=>∃ p xs k j,o=.ref p/\i=.int k/\H p=some (.lst xs)/\ixN xs.length k=some j/\Q (upd H p (.lst (xs.set j v)))
def W7:PSet X Zto:=by
 intro j4 s σ H o i v ov iv u Q I ro ri rv h;obtain ⟨p,xs,k,j,rfl,rfl,hp,hj,q⟩:=h;cases ro;obtain ⟨t,rfl⟩:=ri;obtain ⟨its,n,r,ho,hz⟩:=I.lst hp;obtain ⟨h1,h2,h3,h4⟩:=Ziv hj;have hl:=r.length;have hn:=Vw;have I':Inv X j4 σ (upd H p (.lst (xs.set j v))) { s with heap:=s.heap.update p (Obj.mapSeq (·.setIfInBounds j u)) } :=
  I.lstUpd hp ho (Zkb its n j u) (r.set rv j) (by rw [length_set]; exact hz) s.toks
 by_cases h0:0<=k
 ·have hk:k.toNat=j:=by
   rw [seqIndex_of h0 h4] at h1;exact Ax h1
  exact PySem.W.ki_setAt ho h0 (by lia) (by rw [Aq,<- hl]; exact h4) (by rw [hk]; exact ⟨_,I',q⟩)
 ·have hk:(k + (c9:)).toNat=j:=by
   rw [seqIndex_neg (by lia) h3] at h1;rw [Aq,<- hl];exact Ax h1
  exact PySem.W.ki_setBack ho (by lia) (by rw [Aq,<- hl]; exact h3) (by lia) (by rw [hk]; exact ⟨_,I',q⟩)
def Ze9 (lo hi:Option Int) (n:Nat):(sliceBounds lo hi none n).1=((HT.sIx n 0 lo:Nat):Int)/\(sliceBounds lo hi none n).2.1=((HT.sIx n n hi:Nat):Int)/\(sliceBounds lo hi none n).2.2=1:=by
 refine ⟨?_,?_,Y⟩
 ·cases lo with
  | none=>simp [sliceBounds,HT.sIx]
  | some i =>
   simp only [sliceBounds,HT.sIx,Option.getD_none,show (1:Int) > 0 by decide,if_true];by_cases h:i < 0
   ·simp only [h,if_true] <;> lia
   ·simp only [h,if_false] <;> lia
 ·cases hi with
  | none=>simp [sliceBounds,HT.sIx]
  | some i =>
   simp only [sliceBounds,HT.sIx,Option.getD_none,show (1:Int) > 0 by decide,if_true];by_cases h:i < 0
   ·simp only [h,if_true] <;> lia
   ·simp only [h,if_false] <;> lia
def Zd2 (its:List Value) (lo hi:Option Int):slicePick its.toArray lo hi none=((its.drop (HT.sIx its.length 0 lo)).take (HT.sIx its.length its.length hi - HT.sIx its.length 0 lo)).toArray:=by
 obtain ⟨h1,h2,h3⟩:=Ze9 lo hi its.toArray.size;unfold slicePick;rw [h1,h2,h3];simp only [sliceRange_one,pick_run,Aq] <;> rfl
def rSlL (K:W.Frag):V->Option Int->Option Int->Hp->VK->Prop:=λx lo hi H Q=>∃ a xs,x=.ref a/\SqL K H a xs/\∀ p,H p=none->Q (.ref p) (upd H p (.lst (cutV xs lo hi)))
def Wl:SlR X (rSlL X.K):=by
 intro j4 s σ H x v vl vu lo hi sl Q I rx hs pl pu h;obtain ⟨a,xs,rfl,hx,q⟩:=h;cases rx;obtain ⟨its,r,ht,hz⟩:=I.list hx;have j7:=r.length;refine ⟨"list",_,slot_list_getitem.lookup,ht.isList.typeIs,?_⟩;refine wpAny_getItem_list_slice ht.isList hs pl pu .none (by simp) ?_ (by rw [Aq] <;> lia);rw [Zd2,<- j7];refine ⟨.ref s.heap.objs.size,_,I.laid (t':=s.toks) (o:=.lst (cutV xs lo hi)) (λb ob q=>Ak _ q) (An _) ?_,Y,q _ (I.hok.fresh (An _))⟩;exact ⟨Nat.le_trans (Zh1 xs lo hi) hz,_,0,(r.drop (HT.sIx xs.length 0 lo)).take (HT.sIx xs.length xs.length hi - HT.sIx xs.length 0 lo),Ap _ Y⟩
noncomputable def Vf:V->Bool
 | .non=>true
 | .bl _=>true
 | .int _=>true
 | .str _=>true
 | _=>false
noncomputable def eqV:V->V->Bool
 | .non,.non=>true
 | .bl a,.bl b=>a == b
 | .bl a,.int b=>(if a then 1 else 0) == b
 | .int a,.bl b=>a == (if b then 1 else 0)
 | .int a,.int b=>a == b
 | .str a,.str b=>a == b
 | _,_=>false
def Zsy {A:Around} {s:Shared} {y x:V} {u v:Value} (ry:RelV y u) (rx:RelV x v) (fy:Vf y=true) (fx:Vf x=true):SeqAt.EqAt A s u v (eqV y x):=by
 cases y with
 | non =>
  cases ry
  cases x with
  | non=>cases rx; exact SeqAt.EqAt.same _
  | bl b=>cases rx; exact SeqAt.EqAt.none_bool b
  | int b=>obtain ⟨t,rfl⟩:=rx; exact SeqAt.EqAt.none_int b t
  | str b=>obtain ⟨t,rfl⟩:=rx; exact SeqAt.EqAt.none_str b t
  | _=>exact absurd (show false=true from fx) Bool.false_ne_true
 | bl a =>
  cases ry
  cases x with
  | non=>cases rx; exact SeqAt.EqAt.bool_none a
  | bl b=>cases rx; exact SeqAt.EqAt.bool_bool a b
  | int b=>obtain ⟨t,rfl⟩:=rx; exact SeqAt.EqAt.bool_int a b t
  | str b=>obtain ⟨t,rfl⟩:=rx; exact SeqAt.EqAt.bool_str a b t
  | _=>exact absurd (show false=true from fx) Bool.false_ne_true
 | int a =>
  obtain ⟨t',rfl⟩:=ry
  cases x with
  | non=>cases rx; exact SeqAt.EqAt.int_none a t'
  | bl b=>cases rx; exact SeqAt.EqAt.int_bool a t' b
  | int b=>obtain ⟨t,rfl⟩:=rx; exact SeqAt.EqAt.int_int a t' b t
  | str b=>obtain ⟨t,rfl⟩:=rx; exact SeqAt.EqAt.int_str a t' b t
  | _=>exact absurd (show false=true from fx) Bool.false_ne_true
 | str a =>
  obtain ⟨t',rfl⟩:=ry
  cases x with
  | non=>cases rx; exact SeqAt.EqAt.str_none a t'
  | bl b=>cases rx; exact SeqAt.EqAt.str_bool a t' b
  | int b=>obtain ⟨t,rfl⟩:=rx; exact SeqAt.EqAt.str_int a t' b t
  | str b=>obtain ⟨t,rfl⟩:=rx; exact SeqAt.EqAt.str_str a t' b t
  | _=>exact absurd (show false=true from fx) Bool.false_ne_true
 | _=>exact absurd (show false=true from fy) Bool.false_ne_true
noncomputable def eqU (x:V) (u:Value):Bool:=match u with
 | .none=>eqV .non x
 | .bool b=>eqV (.bl b) x
 | .int i _=>eqV (.int i) x
 | .str z _=>eqV (.str z) x
 | _=>false
def Zmy {x y:V} {u:Value} (r:RelV y u) (f:Vf y=true):eqU x u=eqV y x:=by
 cases y with
 | non=>cases r; rfl
 | bl b=>cases r; rfl
 | int i=>obtain ⟨t,rfl⟩:=r; rfl
 | str z=>obtain ⟨t,rfl⟩:=r; rfl
 | _=>exact absurd (show false=true from f) Bool.false_ne_true
theorem Zco {x:V}:∀ {xs:List V} {us:List Value},Vals xs us->xs.all Vf=true->us.any (eqU x)=xs.any λy=>eqV y x
 | _,_,.nil,_=>rfl
 | y :: xs,u :: us,.cons r t,f=>by
  rw [all_cons,Bool.and_eq_true] at f;rw [any_cons,any_cons,Zmy r f.1,Zco t f.2]
theorem Zae {A:Around} {s:Shared} {x:V} {v:Value} (rx:RelV x v) (fx:Vf x=true):∀ {xs:List V} {us:List Value},Vals xs us->xs.all Vf=true->∀ u∈us,SeqAt.EqAt A s u v (eqU x u)
 | _,_,.nil,_=>λu hu=>by cases hu
 | y :: xs,u :: us,.cons r t,f=>λu' hu=>by
  rw [all_cons,Bool.and_eq_true] at f
  rcases Ar hu with rfl | hu
  ·rw [Zmy r f.1]; exact Zsy r rx f.1 fx
  ·exact Zae rx fx t f.2 u' hu
noncomputable def inV (x:V) (xs:List V):Bool:=xs.any λy=>eqV y x
def rIn (K:W.Frag) (neg:Bool):R2:=λx y H Q=>∃ p xs,y=.ref p/\(SqL K H p xs\/SqT K H p xs)/\Vf x=true/\xs.all Vf=true/\Q (.bl (if neg then !inV x xs else inV x xs)) H
def Zlz:OpR X (compareOp .In) (rIn X.K false):=by
 intro j4 s σ H x y v u Q I rx ry h;obtain ⟨p,xs,rfl,hq,fx,fs,q⟩:=h;cases ry
 rcases hq with hq | hq
 ·obtain ⟨its,r,pl,hz⟩:=I.list hq
  refine SeqAt.in_listAt (eqU x) pl.isList (λw hw=>Zae rx fx r fs w (by simpa using hw)) ⟨.bl _,H,I,Y,?_⟩;rw [show its.toArray.any (eqU x)=its.any (eqU x) by simp,Zco r fs];exact q
 ·obtain ⟨its,r,pl,hz⟩:=I.tuple hq
  refine SeqAt.in_tupleAt (eqU x) pl (λw hw=>Zae rx fx r fs w (by simpa using hw)) ⟨.bl _,H,I,Y,?_⟩;rw [show its.toArray.any (eqU x)=its.any (eqU x) by simp,Zco r fs];exact q
def Gg:Y2 X (.builtin "len") (λxs H Q=>∃ p ys,xs=[.ref p]/\(SqL X.K H p ys\/SqT X.K H p ys)/\Q (.int ys.length) H):=by
 intro j4 s σ H xs us Q I r h;obtain ⟨p,ys,rfl,hq,q⟩:=h;obtain ⟨u,rfl,rx⟩:=Xg r;cases rx;have hn:=Vw
 rcases hq with hq | hq
 ·obtain ⟨its,r',pl,hz⟩:=I.list hq
  have j7:=r'.length;exact Calls.call_len_list pl.isList (by simp only [Aq] <;> lia) ⟨.int ys.length,H,I.tok _,⟨s.toks + 1,by rw [Aq,j7]⟩,q⟩
 ·obtain ⟨its,r',pl,hz⟩:=I.tuple hq
  have j7:=r'.length;exact len_tuple pl (by simp only [Aq] <;> lia) ⟨.int ys.length,H,I.tok _,⟨s.toks + 1,by rw [Aq,j7]⟩,q⟩
def Gf:Y2 X (.builtin "len") (λxs H Q=>∃ z,xs=[.str z]/\z.length<=sizeLine/\Q (.int z.length) H):=by
 intro j4 s σ H xs us Q I r h;obtain ⟨z,rfl,hz,q⟩:=h;obtain ⟨u,rfl,t,rfl⟩:=Xg r;have hn:=Vw;exact len_str (by lia) ⟨.int z.length,H,I.tok _,⟨_,Y⟩,q⟩
def Ge:Y2 X (.type "list") (λxs H Q=>∃ p ys,xs=[.ref p]/\(SqL X.K H p ys\/SqT X.K H p ys)/\∀ l,H l=none->Q (.ref l) (upd H l (.lst ys))):=by
 intro j4 s σ H xs us Q I r h;obtain ⟨p,ys,rfl,hq,q⟩:=h;obtain ⟨u,rfl,rx⟩:=Xg r;cases rx;have km:∀ (its:List Value),Vals ys its->ys.length<=sizeLine->∀ (h':Heap) (c':Nat),(∀ b o',s.heap.get? b=some o'->h'.get? b=some o') ->
   h'.get? s.heap.objs.size=some { cls:=.type "list",dict:=none,data:=.seq its.toArray c',slots:=#[] }->EP X j4 σ Q (x:) { s with heap:=h' }:=λits r' hz h' c' kp e =>
  ⟨.ref s.heap.objs.size,_,I.laid (t':=s.toks) kp (An _) (show Yl X.prog X.w _ h' _ (.lst ys) from ⟨hz,its,c',r',e⟩),rfl,q _ (I.hok.fresh (An _))⟩
 rcases hq with hq | hq
 ·obtain ⟨its,r',pl,hz⟩:=I.list hq
  have j7:=r'.length;obtain ⟨o,ho,hc,n,hd⟩:=pl.isList;exact call_list_seq p (.inl Y) ho hc hd (λh' c' kp e=>km its r' hz h' c' kp e) (by simp only [Aq] <;> lia)
 ·obtain ⟨its,r',pl,hz⟩:=I.tuple hq
  have j7:=r'.length;obtain ⟨o,ho,hc,n,hd⟩:=pl;exact call_list_seq p (.inr Y) ho hc hd (λh' c' kp e=>km its r' hz h' c' kp e) (by simp only [Aq] <;> lia)
def Zed:Y2 X (.type "tuple") (λxs H Q=>∃ p ys,xs=[.ref p]/\((SqL X.K H p ys/\∀ l,H l=none->Q (.ref l) (upd H l (.tup ys)))\/(SqT X.K H p ys/\Q (.ref p) H))):=by
 intro j4 s σ H xs us Q I r h;obtain ⟨p,ys,rfl,h⟩:=h;obtain ⟨u,rfl,rx⟩:=Xg r;cases rx
 rcases h with ⟨hq,q⟩ | ⟨hq,q⟩
 ·obtain ⟨its,r',pl,hz⟩:=I.list hq
  have j7:=r'.length;refine call_tuple_list pl.isList (λh' kp=>?_) (by simp only [Aq] <;> lia);have I1:Inv X j4 σ H { s with heap:=h' }:=I.kept (t':=s.toks) kp;have I2:Inv X j4 σ (upd H h'.objs.size (.tup ys)) { s with heap:=h'.push { cls:=.type "tuple",data:=.seq its.toArray } } :=
   I1.laid (t':=s.toks) (λb o e=>Ak _ e) (An _) (show Yl X.prog X.w _ _ _ (.tup ys) from ⟨hz,its,r',IsTup.new _ _⟩)
  exact ⟨.ref h'.objs.size,_,I2,Y,q _ (eo:)⟩
 ·obtain ⟨its,r',pl,hz⟩:=I.tuple hq
  exact call_tuple_same pl ⟨.ref p,H,I,Y,q⟩
def tyV (K:W.Frag) (T:String) (x:V) (H:Hp):Prop:=match x with
 | .str _=>T="str"
 | .int _=>T="int"
 | .ref p=>(T="list"/\∃ xs,SqL K H p xs)\/(T="tuple"/\∃ o,K.lookup p=some o/\o.cls=.type "tuple"/\o.dict=none) \/
   (T="dict"/\((∃ kvs,H p=some (.dK kvs))\/∃ kvs,H p=some (.dT kvs)))\/(T="set"/\∃ S n,H p=some (.set S n))
 | _=>False
def Zkt {s:Shared} (I:Inv X j4 σ H s) (r:RelV x v) (ty:tyV X.K T x H) :
  s.TypeIs v T/\∀ a,v=.ref a->∃ ob,s.heap.get? a=some ob/\ob.dict=none:=by
 cases x with
 | str z =>
  obtain ⟨t,rfl⟩:=r;cases (show T="str" from ty);exact ⟨typeIs_str s z t,λ_ e=>nomatch e⟩
 | int i =>
  obtain ⟨t,rfl⟩:=r;cases (show T="int" from ty);exact ⟨typeIs_int s i t,λ_ e=>nomatch e⟩
 | ref p =>
  cases r
  rcases ty with ⟨rfl,xs,hq⟩ | ⟨rfl,o,hk,hc,hd⟩ | ⟨rfl,hk⟩ | ⟨rfl,S,n,hk⟩
  ·obtain ⟨its,_,pl,_⟩:=I.list hq
   refine ⟨pl.isList.typeIs,λa e=>?_⟩;cases e;obtain ⟨o,n,e,c,hd,_⟩:=pl;exact ⟨o,e,hd⟩
  ·refine ⟨⟨o,I.kIn p o hk,hc⟩,λa e=>?_⟩
   cases e;exact ⟨o,I.kIn _ o hk,hd⟩
  ·have z:∃ o,s.heap.get? p=some o/\o.ExactDict:=by
    rcases hk with ⟨kvs,hk⟩ | ⟨kvs,hk⟩
    ·obtain ⟨_,_,_,_,o,_,_,e,ex,_⟩:=I.hok p _ hk
     exact ⟨o,e,ex⟩
    ·obtain ⟨_,_,_,_,o,_,_,e,ex,_⟩:=I.hok p _ hk
     exact ⟨o,e,ex⟩
   obtain ⟨o,e,ex⟩:=z;refine ⟨⟨o,e,ex.1⟩,λa e2=>?_⟩;cases e2;exact ⟨o,e,ex.2.1⟩
  ·obtain ⟨o,_,_,_,e,ex,_⟩:=I.hok p _ hk
   refine ⟨⟨o,e,ex.1⟩,λa e2=>?_⟩;cases e2;exact ⟨o,e,ex.2.1⟩
 | _=>exact False.elim ty
def kBM2 (r:V->List V->Hp->VK->Prop) (x:V) (Q:VK) (xs:List V) (H:Hp):Prop:=r x xs H Q
def kBM (K:W.Frag) (T:String) (r:V->List V->Hp->VK->Prop) (t:TA) (σ:St) (Q:VK) (x:V) (H:Hp):Prop:=tyV K T x H/\t σ H (kBM2 r x Q)
def tBM (K:W.Frag) (T:String) (r:V->List V->Hp->VK->Prop) (to:TE) (t:TA):TE:=λσ H Q=>to σ H (kBM K T r t σ Q)
variable {o e:Expr} {es:List Expr} {to:TE} {t:TA} {name:Str} {kf kd:Pos} {T id:String} {r:V->List V->Hp->VK->Prop}
def W4 (pa:PlainAttrs T) (slot:Slot T name id) (hty:typeOf (.builtin id)=pure (.type "method_descriptor")) (hm:MtR X id r) (ho:PE X o to) (ha:PA X (e :: es) t)
  (p3:attributeBase o name X.env (eval o X.env)=eval o X.env:=by rfl)
  (ul:((backTo kd (starEach (e :: es) X.env)).all (λx=>!x.1) && (bu:).all (λx=>x.1.isSome)
   && decide ((e :: es).length + ([]:List Keyword).length + (a1:) < 30))=true:=by rfl)
  (pz:(kf.endLine == kd.line)=true:=by rfl) (hs:starEach (e :: es) X.env=(I:) :: starEach es X.env:=by rfl) (qi:(d3:).any (·.1)=false:=by rfl) :
  PE X (.Call (.Attribute o name kf) (e :: es) [] kd) (tBM X.K T r to t):=by
 intro j4 s σ H Q I h;refine wpAny_Call_method_late p3 ul pz Y (thn (ho j4 s σ H _ I h) λv s1 j9=>?_);obtain ⟨x,H1,I1,r1,ty,q1⟩:=j9;obtain ⟨h1,h2⟩:=Zkt I1 r1 ty;refine ⟨T,id,pa,slot,hty,h1,h2,?_⟩;have hA:=ha kd j4 s1 σ H1 _ I1 q1;rw [hs] at hA ⊢;refine Calls.callWith_builtin (by show (false || (d3:).any (·.1))=false; rw [qi] <;> rfl) (Calls.evalArgs_plain ?_);refine thn hA λus s2 zz21=>?_;obtain ⟨vs,H2,I2,r2,q2⟩:=zz21;exact hm j4 s2 σ H2 x vs v us Q I2 r1 r2 q2
end
def MtM (X:Cx) (id:String) (r:V->List V->Hp->VK->Prop):Prop :=
 ∀ j4 s σ H (x:V) (xs:List V) (v:Value) (us:List Value) (Q:VK),Inv X j4 σ H s->RelV x v->Vals xs us->r x xs H Q ->
  wpAny (d:) X.A (call (.builtin id) (v :: us)) (bz:) X.xe s
def Vals.one (h:Vals [x] us):∃ u,us=[u]/\RelV x u:=by
  cases h with
  | cons r t=>cases t; exact ⟨_,Y,r⟩
def Vals.two (h:Vals [x,y] us):∃ u v,us=[u,v]/\RelV x u/\RelV y v:=by
  cases h with
  | cons r t =>
    obtain ⟨v,rfl,q⟩:=Vals.one t;exact ⟨_,v,Y,r,q⟩
theorem Vals.eraseIdx:∀ {xs:List V} {us:List Value} (i:Nat),Vals xs us->Vals (xs.eraseIdx i) (us.eraseIdx i)
 | _,_,_,.nil=>.nil
 | _,_,0,.cons _ t=>t
 | _,_,i + 1,.cons r t=>.cons r (Vals.eraseIdx i t)
theorem Vals.rep (h:Vals xs us):∀ k:Nat,Vals (List.replicate k xs).flatten (List.replicate k us).flatten
 | 0=>.nil
 | k + 1=>by
  rw [replicate_succ,replicate_succ,flatten_cons,flatten_cons];exact Vals.append h (Vals.rep h k)
theorem Zde {α:Type}:∀ (l:List α) (i:Nat),(l.eraseIdx i).length<=l.length
 | [],_=>An _
 | _ :: _,0=>le_succ _
 | _ :: r,i + 1=>succ_le_succ (Zde r i)
theorem Zdl (its:List Value):∀ (k:Nat) (j8:List Value),
  List.foldl (λx1 x2=>x1 ++ x2) j8.toArray (List.replicate k its.toArray)=(j8 ++ (List.replicate k its).flatten).toArray
 | 0,j8=>by simp
 | k + 1,j8=>by
  have e:j8.toArray ++ its.toArray=(j8 ++ its).toArray:=by simp
  have e2:(j8 ++ its) ++ (List.replicate k its).flatten=j8 ++ (List.replicate (k + 1) its).flatten:=by
   rw [replicate_succ,flatten_cons,append_assoc]
  rw [<- e2,<- Zdl its k (j8 ++ its),<- e,replicate_succ,foldl_cons]
section
variable {X:Cx} {j4:List (p:)} {σ:St} {H:Hp} {s:Shared} {l b:Addr} {xs ys zs:List V}
def Inv.lset {its its':List Value} {t':Nat} (I:Inv X j4 σ H s) (hH:H l=some (.lst xs))
  (e:s.heap.get? l=some { cls:=.type "list",data:=.seq its.toArray n }) (hf:f its.toArray=its'.toArray) (hv:Vals ys its') (hz:ys.length<=sizeLine) :
  Inv X j4 σ (upd H l (.lst ys)) { s with heap:=s.heap.update l (Obj.mapSeq f),toks:=t' }:=by
 have q:=PySem.IsL.update e f;rw [hf] at q;refine I.write (x:=l) (e:=l) (by rw [hH]; exact trivial) (.inl Y) (λb' u hb hu=>(Heap.get?_update_other s.heap (Obj.mapSeq f) (Ne.symm hb)).trans hu) ⟨_,q⟩ ?_;exact ⟨hz,its',_,hv,q⟩
def Inv.lnew {its:List Value} {t':Nat} (I:Inv X j4 σ H s) (hv:Vals ys its) (hz:ys.length<=sizeLine) :
  Inv X j4 σ (upd H s.heap.objs.size (.lst ys)) { s with heap:=s.heap.push { cls:=.type "list",data:=.seq its.toArray },toks:=t' } :=
 I.laid (λ_ _ q=>Ak _ q) (An _) ⟨hz,its,0,hv,Ap _ rfl⟩
def Inv.fresh (I:Inv X j4 σ H s):H s.heap.objs.size=none:=I.hok.fresh (An _)
def Inv.lstM (I:Inv X j4 σ H s) (hH:H l=some (.lst xs)):xs.length<=sizeLine/\∃ (its:List Value) (n:Nat),Vals xs its/\xs.length=its.length/\s.heap.get? l=some { cls:=.type "list",data:=.seq its.toArray n }:=by
 obtain ⟨z,its,n,r,e⟩:=I.hok l _ hH;exact ⟨z,its,n,r,r.length,e⟩
def Zog (h:n<=sizeLine):Builtin.List.listTooLong n=false:=by
 unfold Builtin.List.listTooLong;exact decide_eq_false (by lia)
end
section
variable {X:Cx}
inductive MApp (x:V) (vs:List V) (H:Hp) (Q:VK):Prop | mk (l:Addr) (xs:List V) (y:V):x=.ref l->vs=[y]->H l=some (.lst xs)->xs.length < sizeLine->Q .non (upd H l (.lst (xs ++ [y])))->MApp x vs H Q
def Zic:V->List V->Hp->VK->Prop:=MApp
def Zdc:MtM X "list.append" Zic:=by
 intro j4 s σ H x vs v us Q I rx rv h;obtain ⟨l,xs,y,rfl,rfl,hH,hz,q⟩:=h;cases rx;obtain ⟨u,rfl,ru⟩:=rv.one;obtain ⟨z,its,n,r,hl,e⟩:=I.lstM hH;refine call_meets F.slot_list_append ⟨_,e,Y⟩ F.entry_list_append (F.args_list_append_2 _ _) (PySem.list_append l its.toArray n u (by rw [Aq]; lia)) ⟨e,?_⟩;refine ⟨.non,_,I.lset (its':=its ++ [u]) hH e (by simp) (r.append (.cons ru .nil)) ?_,Y,q⟩;rw [Ae,At];lia
def Zr4:V->List V->Hp->VK->Prop:=λx vs H Q=>∃ l xs i k y,x=.ref l/\vs=[.int i]/\H l=some (.lst xs)/\-(2 ^ 63)<=i/\i < 2 ^ 63/\seqIndex? i xs.length=some k/\xs[k]?=some y/\Q y (upd H l (.lst (xs.eraseIdx k)))
def Zgl:MtM X "list.pop" Zr4:=by
 intro j4 s σ H x vs v us Q I rx rv h;obtain ⟨l,xs,i,k,y,rfl,rfl,hH,h1,h2,hk,hy,q⟩:=h;cases rx;obtain ⟨u,rfl,ru⟩:=rv.one;obtain ⟨t,rfl⟩:=ru;obtain ⟨z,its,n,r,hl,e⟩:=I.lstM hH;obtain ⟨w,hw,ou⟩:=r.get hy;refine call_meets F.slot_list_pop ⟨_,e,Y⟩ F.entry_list_pop (F.args_list_pop_2 _ _)
  (MeetsSeq.list_pop_at l its.toArray n i t k w (fitsIndex_both h1 h2) (by rw [Aq,<- hl]; exact hk) (by rw [<- Array.getElem?_toList]; exact hw) (by rw [Aq]; lia)) ⟨e,?_⟩
 refine ⟨y,_,I.lset (its':=its.eraseIdx k) hH e ?_ (r.eraseIdx k) ?_,ou,q⟩
 ·show its.toArray.eraseIdxIfInBounds k=(its.eraseIdx k).toArray
  rw [eraseIdxIfInBounds_toArray]
 ·have:=Zde xs k
  lia
def rCat:R2:=λx y H Q=>∃ l b xs zs,x=.ref l/\y=.ref b/\H l=some (.lst xs)/\H b=some (.lst zs)/\xs.length + zs.length<=sizeLine/\∀ p,H p=none->Q (.ref p) (upd H p (.lst (xs ++ zs)))
def Zf6:OpR X (binaryOp .Add) rCat:=by
 intro j4 s σ H x y v u Q I rx ry h;obtain ⟨l,b,xs,zs,rfl,rfl,hH,hB,hz,q⟩:=h;cases rx;cases ry;obtain ⟨z,its,n,r,hl,e⟩:=I.lstM hH;obtain ⟨z2,its2,n2,r2,nj,e2⟩:=I.lstM hB;refine PySem.P.add_list e e2 ?_ (by rw [Aq,Aq]; lia);have ea:its.toArray ++ its2.toArray=(its ++ its2).toArray:=by simp
 rw [ea];exact ⟨.ref _,_,I.lnew (t':=s.toks) (r.append r2) (by rw [Ae]; lia),rfl,q _ I.fresh⟩
def rRep:R2:=λx y H Q=>∃ l k xs,x=.ref l/\y=.int k/\H l=some (.lst xs)/\-(2 ^ 63)<=k/\k < 2 ^ 63/\xs.length * k.toNat<=sizeLine /\
 ∀ p,H p=none->Q (.ref p) (upd H p (.lst (List.replicate k.toNat xs).flatten))
def Zir {α:Type} (xs:List α) (k:Nat):(List.replicate k xs).flatten.length=k * xs.length:=by
 induction k with
 | zero=>simp
 | succ k ih=>rw [replicate_succ,flatten_cons,Ae,ih,succ_mul,Nat.add_comm]
def Ky:OpR X (binaryOp .Mult) rRep:=by
 intro j4 s σ H x y v u Q I rx ry h;obtain ⟨l,k,xs,rfl,rfl,hH,h1,h2,hz,q⟩:=h;cases rx;obtain ⟨t,rfl⟩:=ry;obtain ⟨z,its,n,r,hl,e⟩:=I.lstM hH;have j7:its.toArray.size * k.toNat<=sizeLine:=by rw [Aq,<- hl]; exact hz
 have hcap:¬ its.toArray.size * k.toNat > (2 ^ 63 - 1) / 8:=by
  have:(sizeLine:Nat)<=(2 ^ 63 - 1) / 8:=by decide
  lia
 have hfit:¬ (!Builtin.List.listFitsIndex k)=true:=by
  rw [fitsIndex_both h1 h2];exact Bool.false_ne_true
 have hlong:¬ Builtin.List.listTooLong (its.toArray.size * k.toNat)=true:=by
  rw [Zog j7];exact Bool.false_ne_true
 have mm:List.foldl (λx1 x2=>x1 ++ x2) #[] (List.replicate (if its.toArray.isEmpty=true then 0 else k.toNat) its.toArray)=(List.replicate k.toNat its).flatten.toArray:=by
  have f0:∀ m:Nat,List.foldl (λx1 x2=>x1 ++ x2) #[] (List.replicate m its.toArray)=(List.replicate m its).flatten.toArray:=λm=>by
   have:=Zdl its m [];rw [nil_append] at this;exact this
  rw [f0]
  cases its with
  | nil=>simp
  | cons a r'=>rw [if_neg (by simp)]
 refine wpAny_binaryOp_repeat_ref (T:="list") (U:="int") (c:) ⟨_,e,rfl⟩ (λs'=>typeIs_int s' k t) noFill_list_mul F.fills_int_mul F.slot_int_rmul repeat_list F.slot_int_index.lookup
  (call_meets F.slot_int_rmul (typeIs_int s k t) F.entry_int_rmul (F.args_int_rmul_2 _ _) (int___rmul___int_list k t l its.toArray n)
   ⟨e,rfl,⟨_,e,rfl⟩,call_meets F.slot_list_mul ⟨_,e,rfl⟩ F.entry_list_mul (F.args_list_mul_2 _ _) (AutoListH.list___mul___list_int_3 l its.toArray n k t hfit hcap hlong) ⟨e,?_⟩⟩)
 rw [mm];exact ⟨.ref _,_,I.lnew (t':=s.toks) (r.rep k.toNat) (by rw [Zir,Nat.mul_comm]; exact hz),Y,q _ I.fresh⟩
end
section
variable {κ:Type} [DecidableEq κ]
noncomputable def valV (kvs:List (κ × V)) (k:κ):Option V:=(kvs.find? λkv=>decide (kv.1=k)).map (·.2)
noncomputable def putK (kvs:List (κ × V)) (k:κ) (v:V):List (κ × V) :=
 if (kvs.any λkv=>decide (kv.1=k))=true then kvs.map (λkv=>if kv.1=k then (kv.1,v) else kv) else kvs ++ [(k,v)]
noncomputable def Os (kvs:List (κ × V)) (k:κ):List (κ × V):=kvs.filter λkv=>decide (kv.1≠k)
def Fu {p:κ × V} {r:List (κ × V)} (e:p.1=k):valV (p :: r) k=some p.2:=by simp [valV,find?_cons,e]
def Fv {p:κ × V} (e:¬ p.1=k):valV (p :: r) k=valV r k:=by simp [valV,find?_cons,e]
theorem Zen (k:κ):∀ kvs:List (κ × V),(kvs.any λkv=>decide (kv.1=k))=(valV kvs k).isSome
 | []=>rfl
 | p :: r=>by
  rw [any_cons];by_cases e:p.1=k
  ·simp only [Fu e,decide_eq_true e,Bool.true_or,Option.isSome_some]
  ·rw [Fv e,decide_eq_false e,Bool.false_or]; exact Zen k r
def Jp (kvs:List (κ × V)) (k:κ) (v:V):(putK kvs k v).length<=kvs.length + 1:=by
 unfold putK;split
 ·rw [Ab]; lia
 ·rw [Ae,length_cons,length_nil]; lia
def RelO.isSome_eq {o:Option V} {u:Option Value} (r:RelO o u):o.isSome=u.isSome:=by
 cases o with
 | none=>cases u with
  | none=>rfl
  | some _=>exact (show False from r).elim
 | some _=>cases u with
  | none=>exact (show False from r).elim
  | some _=>rfl
def KV.val (r:KV kvs vs) (k:κ):RelO (valV kvs k) (valueAt vs k):=by
 unfold KV at r
 induction r with
 | nil=>exact True.intro
 | @cons p q ps qs h t ih =>
  obtain ⟨h1,h2⟩:=h;by_cases e:p.1=k
  ·have e':q.1=k:=h1.symm.trans e
   have b:valueAt (q :: qs) k=some q.2:=by simp [valueAt,find?_cons,e']
   rw [Fu e,b]; exact h2
  ·have e':¬ q.1=k:=λz=>e (h1.trans z)
   have b:valueAt (q :: qs) k=valueAt qs k:=by simp [valueAt,find?_cons,e']
   rw [Fv e,b]; exact ih
def KV.any {kvs:List (κ × V)} {vs:List (κ × Value)} (r:KV kvs vs) (k:κ):(kvs.any λkv=>decide (kv.1=k))=vs.any λkv=>decide (kv.1=k):=by
 unfold KV at r
 induction r with
 | nil=>rfl
 | cons h t ih=>rw [any_cons,any_cons,ih,h.1]
def KV.repl {kvs:List (κ × V)} {vs:List (κ × Value)} (r:KV kvs vs) (k:κ) (ry:RelV y u) :
  KV (kvs.map λkv=>if kv.1=k then (kv.1,y) else kv) (vs.map λkv=>if kv.1=k then (kv.1,u) else kv):=by
 unfold KV at r ⊢
 induction r with
 | nil=>exact .nil
 | @cons p q ps qs h t ih =>
  rw [map_cons,map_cons];refine .cons ?_ ih;obtain ⟨h1,h2⟩:=h;by_cases e:p.1=k
  ·rw [if_pos e,if_pos (h1.symm.trans e)]; exact ⟨h1,ry⟩
  ·rw [if_neg e,if_neg (λz=>e (h1.trans z))]; exact ⟨h1,h2⟩
def KV.put (r:KV kvs vs) (k:κ) (ry:RelV y u):KV (putK kvs k y) (stored vs k u):=by
 unfold putK stored;rw [r.any k];by_cases e:(vs.any λkv=>decide (kv.1=k))=true
 ·rw [if_pos e,if_pos e]; exact r.repl k ry
 ·rw [if_neg e,if_neg e]; exact Paired.snoc r ⟨Y,ry⟩
def KV.drop {kvs:List (κ × V)} {vs:List (κ × Value)} (r:KV kvs vs) (k:κ):KV (Os kvs k) (without vs k):=by
 unfold KV at r ⊢;unfold Os without
 induction r with
 | nil=>exact .nil
 | @cons p q ps qs h t ih =>
  obtain ⟨h1,h2⟩:=h;rw [filter_cons,filter_cons];by_cases e:p.1=k
  ·have a:¬ decide (p.1≠k)=true:=by simp [e]
   have b:¬ decide (q.1≠k)=true:=by simp [h1.symm.trans e]
   rw [if_neg a,if_neg b]; exact ih
  ·have e':¬ q.1=k:=λz=>e (h1.trans z)
   have a:decide (p.1≠k)=true:=by simp [e]
   have b:decide (q.1≠k)=true:=by simp [e']
   rw [if_pos a,if_pos b]; exact .cons ⟨h1,h2⟩ ih
def KV.length {kvs:List (κ × V)} {vs:List (κ × Value)} (r:KV kvs vs):kvs.length=vs.length:=Paired.length r
def Zo1 (kvs:List (κ × V)) (k:κ):(Os kvs k).length<=kvs.length:=length_filter_le _ _
end
def Jl (r:RelV (kV k) u):(Ya P w).is k u=true:=by
 cases k with
 | inl i=>obtain ⟨t,e⟩:=(show ∃ t,u=Value.int i t from r); subst e; exact Zhx P w i t
 | inr x=>obtain ⟨t,e⟩:=(show ∃ t,u=Value.str x t from r); subst e; exact Zhw P w x t
theorem Zdf:∀ {ks:List Key} {us:List Value},Vals (ks.map kV) us->ItemsAre (Ya P w) ks us
 | [],_,r=>by rw [map_nil] at r; cases r; exact .nil
 | k :: ks,_,r=>by
  rw [map_cons] at r
  cases r with
  | cons h t=>exact .cons (Jl h) (Zdf t)
abbrev KT (H:Hp):List (List Key × V)->List (List Key × Addr × Value)->Prop:=Paired λp q=>p.1=q.1/\H q.2.1=some (.tup (p.1.map kV))/\RelV p.2 q.2.2
def KT.val (r:KT H kvs xs) (k:List Key):RelO (valV kvs k) ((atKey xs k).map (·.2)):=by
 induction r with
 | nil=>exact True.intro
 | @cons p q ps qs h t ih =>
  obtain ⟨h1,_,h2⟩:=h;by_cases e:p.1=k
  ·have e':q.1=k:=h1.symm.trans e
   have b:atKey (q :: qs) k=some q.2:=by simp [atKey,find?_cons,e']
   rw [Fu e,b]; exact h2
  ·have e':¬ q.1=k:=λz=>e (h1.trans z)
   have b:atKey (q :: qs) k=atKey qs k:=by simp [atKey,find?_cons,e']
   rw [Fv e,b]; exact ih
def KT.repl {kvs:List (List Key × V)} {xs:List (List Key × Addr × Value)} (r:KT H kvs xs) (k:List Key) (ry:RelV y u) :
  KT H (kvs.map λkv=>if kv.1=k then (kv.1,y) else kv) (xs.map (putAt k u)):=by
 induction r with
 | nil=>exact .nil
 | @cons p q ps qs h t ih =>
  rw [map_cons,map_cons];refine .cons ?_ ih;obtain ⟨h1,h2,h3⟩:=h;unfold putAt;by_cases e:p.1=k
  ·rw [if_pos e,if_pos (h1.symm.trans e)]; exact ⟨h1,h2,ry⟩
  ·rw [if_neg e,if_neg (λz=>e (h1.trans z))]; exact ⟨h1,h2,h3⟩
def KT.put (r:KT H kvs xs) (k:List Key) (hb:H b=some (.tup (k.map kV))) (ry:RelV y u) :
  KT H (putK kvs k y) (storedH xs k b u):=by
 have e:(kvs.any λkv=>decide (kv.1=k))=(atKey xs k).isSome:=by
  rw [Zen,(r.val k).isSome_eq,Option.isSome_map]
 unfold putK storedH;rw [e];by_cases q:(atKey xs k).isSome=true
 ·rw [if_pos q,if_pos q]; exact r.repl k ry
 ·rw [if_neg q,if_neg q]; exact Paired.snoc r ⟨Y,hb,ry⟩
def KT.keeps (r:KT H kvs xs) (ht:∀ b ys,H b=some (.tup ys)->H' b=some (.tup ys)):KT H' kvs xs :=
 Paired.mapP r λ_ _ z=>⟨z.1,ht _ _ z.2.1,z.2.2⟩
section
variable {P:Program} {w:World} {H:Hp} {h:Heap} {a:Addr}
def Zpc (ok:HOk P w H h) (e:Rd H a u):Yl P w H h a u:=e.ok ok
def V9 {kvs:List (Key × V)} (ok:HOk P w H h) (e:Rd H a (.dK kvs)):kvs.length<=sizeLine/\(cs:)=false/\∃ vs,KV kvs vs/\h.DictOf (Ya P w) a vs :=
 show Yl P w H h a (.dK kvs) from Zpc ok e
def Zbt {kvs:List (Key × V)} (ok:HOk P w H h) (e:H a=some (.dK kvs)):kvs.length<=sizeLine/\(cs:)=false/\∃ vs,KV kvs vs/\h.DictOf (Ya P w) a vs:=V9 ok (.inl e)
def K8 {ks:List Key} (ok:HOk P w H h) (e:H a=some (.tup (ks.map kV))):(tupleKind (Ya P w)).is h ks a:=by
 obtain ⟨_,its,r,o,h1,h2,n,h3⟩:=(show Yl P w H h a (.tup (ks.map kV)) from ok a _ e);exact ⟨o,its.toArray,n,h1,h2,h3,by simpa using Zdf r⟩
def Gz {kvs:List (List Key × V)} (ok:HOk P w H h) (e:Rd H a (.dT kvs)):kvs.length<=sizeLine/\(cs:)=false /\
  ∃ xs,KT H kvs xs/\h.DictOfH (tupleKind (Ya P w)) a xs:=by
 obtain ⟨z,y,xs,r,o,es,ep,h1,h2,h3,h4,h5⟩:=(show Yl P w H h a (.dT kvs) from Zpc ok e);refine ⟨z,y,xs,r,o,es,ep,h1,h2,h3,h4,λx hx=>?_,h5⟩
 have all:∀ {l:List (List Key × V)} {m:List (List Key × Addr × Value)},KT H l m->∀ x∈m,(tupleKind (Ya P w)).is h x.1 x.2.1:=by
  intro l m q
  induction q with
  | nil=>intro x hx; exact nomatch hx
  | @cons p q ps qs hq t ih =>
   intro x hx
   rcases Ar hx with e | hx
   ·subst e
    exact K8 ok (by rw [<- hq.1]; exact hq.2.1)
   ·exact ih x hx
 exact all r x hx
def Zua {kvs:List (List Key × V)} (ok:HOk P w H h) (e:H a=some (.dT kvs)):kvs.length<=sizeLine/\(cs:)=false /\
  ∃ xs,KT H kvs xs/\h.DictOfH (tupleKind (Ya P w)) a xs:=Gz ok (.inl e)
end
def DGet (H:Hp) (a:Addr) (y:V) (r:Option V):Prop :=
 (∃ kvs k,Rd H a (.dK kvs)/\y=kV k/\r=valV kvs k)\/∃ kvs k b,Rd H a (.dT kvs)/\y=.ref b/\H b=some (.tup (k.map kV))/\r=valV kvs k
def DPut (H:Hp) (a:Addr) (y v:V) (H':Hp):Prop :=
 (∃ kvs k,H a=some (.dK kvs)/\y=kV k/\kvs.length < sizeLine/\H'=upd H a (.dK (putK kvs k v))) \/
 ∃ kvs k b,H a=some (.dT kvs)/\y=.ref b/\H b=some (.tup (k.map kV))/\kvs.length < sizeLine/\H'=upd H a (.dT (putK kvs k v))
def DPut.k {H:Hp} {a:Addr} {kvs:List (Key × V)} {k:Key} {v:V} (e:H a=some (.dK kvs)) (hl:kvs.length < sizeLine):DPut H a (kV k) v (upd H a (.dK (putK kvs k v))):=.inl ⟨kvs,k,e,rfl,hl,rfl⟩
section
variable {X:Cx} {j4:List (p:)} {σ:St} {H:Hp} {s:Shared} {a:Addr} {y v:V} {u r:Value} {o:Option V} {A:Around} {E:Value->Shared->Prop}
def Inv.big (I:Inv X j4 σ H s):sysModules < s.heap.objs.size:=by
 have h:mainGlobals < s.heap.objs.size:=(I.mod.glob.keeps I.bk).lt;exact Nat.lt_trans (c:) h
def Zm2 (hu:A.units + 1 < cLine) (I:Inv X j4 σ H s) (g:DGet H a y (some v)) (ry:RelV y u) (h:∀ w' s',Inv X j4 σ H s'->RelV v w'->Q w' s') :
  wpAny (d:) A (getItem (.ref a) u) Q E s:=by
 rcases g with ⟨kvs,k,e,ey,l⟩ | ⟨kvs,k,b,e,ey,eb,l⟩
 ·subst ey
  obtain ⟨z,hd,vs,kl,dd⟩:=V9 I.hok e;obtain ⟨w',hw,ou⟩:=RelO.some_of (v:=v) (o:=valueAt vs k) (by rw [l]; exact kl.val k);exact wpAny_getItem_of (Jl ry) dd.mapOf hw (h w' _ (I.tok _) ou)
 ·subst ey
  cases (show u=Value.ref b from ry);obtain ⟨z,hd,xs,kl,dd⟩:=Gz I.hok e;obtain ⟨w',hw,ou⟩:=RelO.some_of (v:=v) (o:=(atKey xs k).map (·.2)) (by rw [l]; exact kl.val k);obtain ⟨p,hp,p6⟩:=Option.map_eq_some_iff.mp hw;refine wpAny_getItem_heap (tupleKind_room_in1 hu) (K8 I.hok eb) dd hp ?_;rw [p6];exact h w' _ (I.tok _) ou
def d_in {Q:Value->Shared->Prop} (hu:A.units + 1 < cLine) (I:Inv X j4 σ H s) (g:DGet H a y o) (ry:RelV y u) (h:∀ s',Inv X j4 σ H s'->Q (.bool o.isSome) s') :
  wpAny (d:) A (compareOp .In u (.ref a)) Q E s:=by
 rcases g with ⟨kvs,k,e,ey,l⟩ | ⟨kvs,k,b,e,ey,eb,l⟩
 ·subst ey
  obtain ⟨z,hd,vs,kl,dd⟩:=V9 I.hok e;refine wpAny_in_of (Jl ry) hd dd.mapOf ?_;rw [<- (kl.val k).isSome_eq,<- l];exact h _ (I.tok _)
 ·subst ey
  cases (show u=Value.ref b from ry);obtain ⟨z,hd,xs,kl,dd⟩:=Gz I.hok e;refine wpAny_in_heap (tupleKind_room_in1 hu) (K8 I.hok eb) hd dd ?_;have q:=(kl.val k).isSome_eq;rw [Option.isSome_map] at q;rw [<- q,<- l];exact h _ (I.tok _)
def Zq2 (hu:A.units + 1 < cLine) (I:Inv X j4 σ H s) (g:DGet H a y o) (ry:RelV y u) (h:∀ s',Inv X j4 σ H s'->Q (.bool (!o.isSome)) s') :
  wpAny (d:) A (compareOp .NotIn u (.ref a)) Q E s:=by
 rcases g with ⟨kvs,k,e,ey,l⟩ | ⟨kvs,k,b,e,ey,eb,l⟩
 ·subst ey
  obtain ⟨z,hd,vs,kl,dd⟩:=V9 I.hok e;refine wpAny_notIn_of (Jl ry) hd dd.mapOf ?_;rw [<- (kl.val k).isSome_eq,<- l];exact h _ (I.tok _)
 ·subst ey
  cases (show u=Value.ref b from ry);obtain ⟨z,hd,xs,kl,dd⟩:=Gz I.hok e;refine wpAny_notIn_heap (tupleKind_room_in1 hu) (K8 I.hok eb) hd dd ?_;have q:=(kl.val k).isSome_eq;rw [Option.isSome_map] at q;rw [<- q,<- l];exact h _ (I.tok _)
def Vl {h':Heap} {t':Nat} (I:Inv X j4 σ H s) (mu:Mut (H a)) (hs:Heap.SameBut a s.heap h') (he:∃ q,h'.get? a=some q) (new:Yl X.prog X.w (upd H a ob) h' a ob) :
  Inv X j4 σ (upd H a ob) { s with heap:=h',toks:=t' } :=
 I.write (x:=a) (e:=a) mu (.inl rfl) (λb q hb z=>(hs.2 b hb).trans z) he new
def Gb {h':Heap} {kvs:List (Key × V)} (z:kvs.length<=sizeLine) (hd:(cs:)=false) (kl:KV kvs vs) (dd:h'.DictOf (Ya P w) a vs) :
  Yl P w H' h' a (.dK kvs):=⟨z,hd,vs,kl,dd⟩
def Zm1 (hu:A.units + 1 < cLine) (I:Inv X j4 σ H s) (g:DPut H a y v H') (ry:RelV y u) (rv:RelV v r) (h:∀ s',Inv X j4 σ H' s'->Q () s') :
  wpAny (d:) A (setItem (.ref a) u r) Q E s:=by
 rcases g with ⟨kvs,k,e,ey,l,eH⟩ | ⟨kvs,k,b,e,ey,eb,l,eH⟩
 ·subst ey eH
  obtain ⟨z,hd,vs,kl,dd⟩:=Zbt I.hok e;have hz:vs.length<=sizeLine:=by rw [<- kl.length]; exact z
  have hl:(putK kvs k v).length<=sizeLine:=by have:=Jp kvs k v; lia
  refine wpAny_setItem_pairs (hsz:=hz) (Jl ry) dd λh' qa hs=>h _ ?_;have he:∃ q,h'.get? a=some q:=let ⟨q,_,_,hq,_⟩:=qa; ⟨q,hq⟩
  exact Vl I (b8:) hs he (Gb hl hd (kl.put k rv) qa)
 ·subst ey eH
  cases (show u=Value.ref b from ry);obtain ⟨z,hd,xs,kl,dd⟩:=Zua I.hok e;have hz:xs.length<=sizeLine:=by rw [<- Paired.length kl]; exact z
  have hl:(putK kvs k v).length<=sizeLine:=by have:=Jp kvs k v; lia
  refine wpAny_setItem_heap (hsz:=hz) (tupleKind_room_in1 hu) (K8 I.hok eb) dd λh' qa hs=>h _ ?_;obtain ⟨q,es,ep,hq,h2,h3,h4,_,h5⟩:=qa;refine Vl I (b8:) hs ⟨q,hq⟩ ⟨hl,hd,_,(kl.put k eb rv).keeps λc ys ec=>?_,q,es,ep,hq,h2,h3,h4,h5⟩;rw [Ze (Ztu ec e (N:))];exact ec
end
section
variable {X:Cx} {j4:List (p:)} {σ:St} {H:Hp} {s:Shared} {a:Addr} {kvs:List (Key × V)} {k:Key} {u:Value} {A:Around} {E:Value->Shared->Prop}
def Zud {v:V} {lm:List Value} {Q:Value->Shared->Prop} (I:Inv X j4 σ H s) (e:H a=some (.dK kvs)) (ry:RelV (kV k) u) (l:valV kvs k=some v) (hm:lm=[]\/∃ x,lm=[x])
  (h:∀ w' s',Inv X j4 σ (upd H a (.dK (Os kvs k))) s'->RelV v w'->Q w' s'):wpAny (d:) A (call (.builtin "dict.pop") (.ref a :: u :: lm)) Q E s:=by
 obtain ⟨z,hd,vs,kl,dd⟩:=Zbt I.hok e;obtain ⟨w',hw,ou⟩:=RelO.some_of (v:=v) (o:=valueAt vs k) (by rw [<- l]; exact kl.val k)
 have hp:(keyPart u).isSome=true:=by
  cases k with
  | inl i=>obtain ⟨t,q⟩:=(show ∃ t,u=Value.int i t from ry); subst q; rfl
  | inr x=>obtain ⟨t,q⟩:=(show ∃ t,u=Value.str x t from ry); subst q; rfl
 have ha:argsOk "dict.pop" ⟨.ref a :: u :: lm,[]⟩:=by
  rcases hm with q | ⟨x,q⟩
  ·subst q; exact PySem.F.args_dict_pop_2 _ _
  ·subst q; exact PySem.F.args_dict_pop_3 _ _ _
 refine call_meetsIn PySem.F.slot_dict_pop dd.typeIs PySem.F.entry_dict_pop ha (meets_dict_pop_there (Ya X.prog X.w) a (Jl ry) lm hm hp)
  ⟨vs,w',dd,by rw [<- kl.length]; exact z,hw,λh' qa hs=>h w' _ ?_ ou⟩
 have he:∃ q,h'.get? a=some q:=let ⟨q,_,_,hq,_⟩:=qa; ⟨q,hq⟩
 exact Vl I (b8:) hs he (Gb (Nat.le_trans (Zo1 kvs k) z) hd (kl.drop k) qa)
end
def NoSl (i:Expr):Prop:=∀ ov iv,subscripted i false ov iv=operate [ov,iv] (getItem ov iv)
def Zh6 {prog:Program} {w:World} {A:Around} {E:Value->Shared->Prop} {s:Shared} {env:Env} {value mr:Expr} {pos:Pos} {T id:String} {Q:Value->Shared->Prop}
  (hl:typeLookup (.type T) "__getitem__"=pure (some (.builtin id))) (hs:NoSl mr)
  (h:wpAny (Y:) A (eval value env) (λo s₁=>wpAny (Y:) A (eval mr env) (λi s₂=>s₂.TypeIs o T/\wpAny (Y:) A (getItem o i) Q E s₂) E s₁) E s) :
  wpAny (Y:) A (eval (.Subscript value mr pos) env) Q E s:=by
 refine Subscript_ (wpAny_mono h (λo s₁ h₁=>wpAny_mono h₁ (λi s₂ h₂=>?_) λ_ _ x=>x) λ_ _ x=>x);obtain ⟨hT,h₂⟩:=h₂;unfold subscriptTail;refine Al ?_;rw [getitemInPython_of_ne hT.not_modules];refine Al (wpAny_specialOf hT hl ?_);have km:wpAny (Y:) A (subscripted mr false o i) (λr s₃=>wpAny (Y:) A (letTemporaryGo value o r >>= λ_=>pure r) Q E s₃) E s₂:=by
  rw [hs o i]
  exact wpAny_operating (wpAny_mono h₂ (λr s₃ h₃=>Al (wpAny_letTemporaryGo (wpAny_pure h₃))) λ_ _ x=>x)
 first
  | exact wpAny_pure (Al km)
  | exact Al (wpAny_pure (Al km))
  | exact Al km
def Zh0 {s:Shared} (I:Inv X j4 σ H s) (g:DGet H a y o):s.TypeIs (.ref a) "dict":=by
 rcases g with ⟨kvs,k,e,_,_⟩ | ⟨kvs,k,b,e,_,_,_⟩
 ·obtain ⟨_,_,vs,_,dd⟩:=V9 I.hok e
  exact dd.typeIs
 ·obtain ⟨_,_,xs,_,dd⟩:=Gz I.hok e
  exact dd.typeIs
def Zsr (Q:VK) (x y:V) (H:Hp):Prop:=∃ a v,x=.ref a/\DGet H a y (some v)/\Q v H
def Zty (ty:TE) (σ:St) (Q:V->VK) (x:V) (H:Hp):Prop:=ty σ H (Q x)
def Ztj (td ty:TE):TE:=λσ H Q=>td σ H (Zty ty σ (Zsr Q))
def tDIn (ty td:TE):TE:=λσ H Q=>ty σ H λy H1=>td σ H1 λx H2=>∃ a o,x=.ref a/\DGet H2 a y o/\Q (.bl o.isSome) H2
def Zpu (ty td:TE):TE:=λσ H Q=>ty σ H λy H1=>td σ H1 λx H2=>∃ a o,x=.ref a/\DGet H2 a y o/\Q (.bl (!o.isSome)) H2
def Ztn (td ty tv:TE):TS:=λD σ H=>tv σ H λv H1=>td σ H1 λx H2=>ty σ H2 λy H3=>∃ a H4,x=.ref a/\DPut H3 a y v H4/\D.nx σ H4
section
variable {X:Cx} {o i e value:Expr} {pos ml qe:Pos} {td ty tv:TE}
def Y3 (hu:X.A.units + 1 < cLine) (ho:PE X o td) (hi:PE X i ty) (hs:NoSl i):PE X (.Subscript o i pos) (Ztj td ty):=by
 intro j4 s σ H Q I h;refine Zh6 PySem.F.slot_dict_getitem.lookup hs (thn (ho j4 s σ H _ I h) λu s1 zz22=>?_);obtain ⟨x,H1,I1,rx,q1⟩:=zz22;refine thn (hi j4 s1 σ H1 _ I1 q1) λiv s2 j9=>?_;obtain ⟨y,H2,I2,ry,a,v,ex,g,q2⟩:=j9;subst ex;obtain rfl:u=Value.ref a:=rx;exact ⟨Zh0 I2 g,Zm2 hu I2 g ry λw' s3 I3 ou=>⟨v,H2,I3,ou,q2⟩⟩
def Zf2 (hu:X.A.units + 1 < cLine) (hi:PE X i ty) (ho:PE X o td):PC X .In i o (tDIn ty td):=by
 intro j4 s σ H Q I h;refine thn (c7:) λiv s1 zz23=>?_;obtain ⟨y,H1,I1,ry,q1⟩:=zz23;refine thn (ho j4 s1 σ H1 _ I1 q1) λu s2 j9=>?_;obtain ⟨x,H2,I2,rx,a,ov,ex,g,q2⟩:=j9;subst ex;obtain rfl:u=Value.ref a:=rx;exact d_in hu I2 g ry λs3 I3=>⟨.bl ov.isSome,H2,I3,Y,q2⟩
def Kx (hu:X.A.units + 1 < cLine) (hi:PE X i ty) (ho:PE X o td):PC X .NotIn i o (Zpu ty td):=by
 intro j4 s σ H Q I h;refine thn (c7:) λiv s1 zz24=>?_;obtain ⟨y,H1,I1,ry,q1⟩:=zz24;refine thn (ho j4 s1 σ H1 _ I1 q1) λu s2 j9=>?_;obtain ⟨x,H2,I2,rx,a,ov,ex,g,q2⟩:=j9;subst ex;obtain rfl:u=Value.ref a:=rx;exact Zq2 hu I2 g ry λs3 I3=>⟨.bl (!ov.isSome),H2,I3,Y,q2⟩
def Qh (hu:X.A.units + 1 < cLine) (ho:PE X o td) (hi:PE X i ty) (hv:PE X value tv) (hs:swapsWith value (some (.Subscript o i ml)) pos.line X.env=pure false) :
  PS X (.Assign [.Subscript o i ml] value pos) (Ztn td ty tv):=by
 intro j4 s σ H D I h;refine wpAny_Assign_Subscript (thn (hv j4 s σ H _ I h) λr s1 zz25=>?_) hs;obtain ⟨v,H1,I1,rv,q1⟩:=zz25;refine thn (ho j4 s1 σ H1 _ I1 q1) λu s2 zz26=>?_;obtain ⟨x,H2,I2,rx,q2⟩:=zz26;refine thn (hi j4 s2 σ H2 _ I2 q2) λiv s3 zz27=>?_;obtain ⟨y,H3,I3,ry,a,H4,ex,g,q3⟩:=zz27;subst ex;obtain rfl:u=Value.ref a:=rx;exact Zm1 hu I3 g ry rv λs4 I4=>⟨σ,H4,I4,q3⟩
end
def Vz (h:Heap) (hb:sysModules < h.objs.size):Yl P w H (h.push { cls:=.type "dict",data:=.dict #[] }) h.objs.size (.dK []) :=
 ⟨Az _,beq_eq_false_iff_ne.mpr (Ne.symm (As hb)),[],.nil,Heap.DictOf.new h⟩
def Zrp:TE:=λ_ H Q=>∀ p,H p=none->Q (.ref p) (upd H p (.dK []))
section
variable {X:Cx} {pos:Pos}
def Oj:PE X (.Dict [] [] pos) Zrp:=λj4 s σ H Q I h =>
 wpAny_Dict_empty ⟨.ref s.heap.objs.size,_,I.laid (a:=s.heap.objs.size) (o:=.dK []) (t':=s.toks) (λ_ _ q=>Ak _ q) (An _) (Vz s.heap I.big),rfl,h _ (I.hok.fresh (An _))⟩
end
def Zep:List (TE × TE)->St->Hp->(List (V × V)->Hp->Prop)->Prop
 | [],_,H,Q=>Q [] H
 | (tk,tv) :: r,σ,H,Q=>tk σ H λx H1=>tv σ H1 λy H2=>Zep r σ H2 λps H3=>Q ((x,y) :: ps) H3
abbrev VV:List (V × V)->List (Value × Value)->Prop:=Paired λp q=>RelV p.1 q.1/\RelV p.2 q.2
def PPs (X:Cx) (pos:Pos) (keys:List (Option Expr)) (om:List Expr) (u8:List (TE × TE)):Prop :=
 ∀ j4 s σ H (Q:List (V × V)->Hp->Prop),Inv X j4 σ H s->Zep u8 σ H Q ->
  wpAny (d:) X.A (evalPairs (pairTrees keys om X.env pos)) (λvs s'=>∃ ps H',Inv X j4 σ H' s'/\VV ps vs/\Q ps H') X.xe s
def Zig {X:Cx} {pos:Pos}:PPs X pos [] [] []:=λj4 s σ H Q I h=>pairTrees_nil_walk ⟨[],H,I,.nil,h⟩
def Jd {X:Cx} {pos:Pos} {k v:Expr} {ks:List (Option Expr)} {vs:List Expr} {tk tv:TE} {u8:List (TE × TE)} (hk:PE X k tk) (hv:PE X v tv) (hr:PPs X pos ks vs u8) :
  PPs X pos (some k :: ks) (v :: vs) ((tk,tv) :: u8):=λj4 s σ H Q I h =>
 pairTrees_cons_walk (thn (hk j4 s σ H _ I h) λu s1 ⟨x,H1,I1,rx,q1⟩=>thn (hv j4 s1 σ H1 _ I1 q1) λw2 s2 ⟨y,H2,I2,ry,q2⟩ =>
  thn (hr j4 s2 σ H2 _ I2 q2) λws s3 ⟨ps,H3,I3,kl,q3⟩=>⟨(x,y) :: ps,H3,I3,.cons ⟨rx,ry⟩ kl,q3⟩)
noncomputable def J8 (kvs lm:List (Key × V)):List (Key × V):=lm.foldl (λj8 kv=>putK j8 kv.1 kv.2) kvs
def KV.merge:∀ {lm:List (Key × V)} {rs:List (Key × Value)} {kvs:List (Key × V)} {vs:List (Key × Value)},KV lm rs->KV kvs vs->KV (J8 kvs lm) (merged vs rs):=by
 intro lm rs kvs vs r;unfold KV at r
 induction r generalizing kvs vs with
 | nil=>intro q; exact q
 | @cons p q ps qs h t ih =>
  intro r0;have e:KV (putK kvs p.1 p.2) (stored vs q.1 q.2):=by
   have:=r0.put p.1 h.2
   rw [<- h.1]; exact this
  exact ih e
theorem O9:∀ (lm kvs:List (Key × V)),(J8 kvs lm).length<=kvs.length + lm.length
 | [],kvs=>by show kvs.length<=kvs.length + 0; lia
 | p :: r,kvs=>by
  have h1:=O9 r (putK kvs p.1 p.2);have h2:=Jp kvs p.1 p.2;show (J8 (putK kvs p.1 p.2) r).length<=_;rw [length_cons]; lia
theorem Zbw {P:Program} {w:World}:∀ {kvs:List (Key × V)} {ws:List (Value × Value)},VV (kvs.map λkv=>(kV kv.1,kv.2)) ws->∃ rs,Carries (Ya P w) ws rs/\KV kvs rs
 | [],_,r=>by rw [map_nil] at r; cases r; exact ⟨[],True.intro,.nil⟩
 | p :: kvs,_,r=>by
  rw [map_cons] at r
  cases r with
  | @cons a b as bs h t =>
   obtain ⟨rs,c,q⟩:=Zbw (P:=P) (w:=w) t;obtain ⟨b1,b2⟩:=b;exact ⟨(p.1,b2) :: rs,⟨Jl h.1,Y,c⟩,.cons ⟨Y,h.2⟩ q⟩
def Zti (u8:List (TE × TE)):TE:=λσ H Q=>∀ p,H p=none->Zep u8 σ (upd H p (.dK [])) λps H2=>H2 p=some (.dK [])/\∃ kvs:List (Key × V),ps=kvs.map (λkv=>(kV kv.1,kv.2))/\kvs.length<=15/\Q (.ref p) (upd H2 p (.dK (J8 [] kvs)))
def Zim {X:Cx} {pos:Pos} {keys:List (Option Expr)} {om:List Expr} {u8:List (TE × TE)} (h:PPs X pos keys om u8) (um:keys.all (·.isSome)=true) (hl:keys.length=om.length) (h0:keys≠[])
  (h15:keys.length<=15):PE X (.Dict keys om pos) (Zti u8):=by
 intro j4 s σ H Q I q;have hn:=I.hok.fresh (An s.heap.objs.size);have I1:=I.laid (a:=s.heap.objs.size) (o:=.dK []) (h':=s.heap.push { cls:=.type "dict",data:=.dict #[] }) (t':=s.toks) (λ_ _ q=>Ak _ q) (An _) (Vz s.heap I.big);refine wpAny_Dict_walk (knd:=Ya X.prog X.w) um hl h0 h15 (thn (h j4 _ σ _ _ I1 (q _ hn)) λws s2 j9=>?_);obtain ⟨ps,H2,I2,kl,e,kvs,ep,lk,q2⟩:=j9;subst ep;obtain ⟨rs,c,rk⟩:=Zbw (P:=X.prog) (w:=X.w) kl;obtain ⟨z,hd,vs0,r0,dd⟩:=Zbt I2.hok e;cases r0;refine ⟨rs,c,dd,λh' qa hs=>⟨.ref s.heap.objs.size,_,?_,Y,q2⟩⟩;have hz:(J8 [] kvs).length<=sizeLine:=by
  have h1:=O9 kvs []
  rw [length_nil] at h1
  rw [sizeLine_eq]; lia
 have he:∃ q,h'.get? s.heap.objs.size=some q:=let ⟨q,_,_,hq,_⟩:=qa; ⟨q,hq⟩
 exact Vl I2 (b8:) hs he (Gb hz hd (rk.merge .nil) qa)
structure M1 (X:Cx) (o:Expr) (m:Str) (kf:Pos) (e:Expr) (kd:Pos):Prop where
 base:attributeBase o m X.env (eval o X.env)=eval o X.env
 few:((backTo kd (starEach [e] X.env)).all (λx=>!x.1) && (bu:).all (λx=>x.1.isSome)
  && decide (([e]:List Expr).length + ([]:List Keyword).length + (a1:) < 30))=true
 line:(kf.endLine == kd.line)=true
 trees:backTo kd (starEach [e] X.env)=[(I:)]
structure M2 (X:Cx) (o:Expr) (m:Str) (kf:Pos) (e f:Expr) (kd:Pos):Prop where
 base:attributeBase o m X.env (eval o X.env)=eval o X.env
 few:((backTo kd (starEach [e,f] X.env)).all (λx=>!x.1) && (bu:).all (λx=>x.1.isSome)
  && decide (([e,f]:List Expr).length + ([]:List Keyword).length + (a1:) < 30))=true
 line:(kf.endLine == kd.line)=true
 trees:backTo kd (starEach [e,f] X.env)=[(I:),(false,eval f X.env)]
def IsD (H:Hp) (a:Addr):Prop:=(∃ kvs,Rd H a (.dK kvs))\/∃ kvs,Rd H a (.dT kvs)
def Zbp {s:Shared} (I:Inv X j4 σ H s) (d:IsD H a) :
  s.TypeIs (.ref a) "dict"/\(∀ b,Value.ref a=.ref b->∃ ob,s.heap.get? b=some ob/\ob.dict=none)/\(cs:)=false:=by
 rcases d with ⟨kvs,e⟩ | ⟨kvs,e⟩
 ·obtain ⟨_,hd,vs,_,dd⟩:=V9 I.hok e
  refine ⟨dd.typeIs,λb q=>?_,hd⟩;cases q;obtain ⟨ob,_,_,h1,h2,_⟩:=dd;exact ⟨ob,h1,h2.2.1⟩
 ·obtain ⟨_,hd,xs,_,dd⟩:=Gz I.hok e
  refine ⟨dd.typeIs,λb q=>?_,hd⟩;cases q;obtain ⟨ob,_,_,h1,h2,_⟩:=dd;exact ⟨ob,h1,h2.2.1⟩
def Zro (td ty:TE):TE:=λσ H Q=>td σ H λx H1=>∃ a,x=.ref a/\IsD H1 a/\ty σ H1 λy H2=>∃ kvs k v,H2 a=some (.dK kvs)/\y=kV k/\valV kvs k=some v/\Q v (upd H2 a (.dK (Os kvs k)))
section
variable {X:Cx} {o e f:Expr} {kf kd:Pos} {td ty tx:TE}
def Zn8 (ho:PE X o td) (he:PE X e ty) (m:M1 X o "pop" kf e kd):PE X (.Call (.Attribute o "pop" kf) [e] [] kd) (Zro td ty):=by
 intro j4 s σ H Q I h;refine wpAny_Call_method m.base m.few m.line PySem.F.plainAttrs_dict PySem.F.slot_dict_pop PySem.F.type_dict_pop (thn (ho j4 s σ H _ I h) λu s1 j9=>?_);obtain ⟨x,H1,I1,rx,a,ex,d,q1⟩:=j9;subst ex;obtain rfl:u=Value.ref a:=rx;obtain ⟨t1,t2,_⟩:=Zbp I1 d;refine ⟨t1,t2,?_⟩;rw [m.trees];refine Calls.callWith_builtin Y (Calls.evalArgs_plain (Calls.spliced_cons (thn (he j4 s1 σ H1 _ I1 q1) λiv s2 zz28=>?_)));obtain ⟨y,H2,I2,ry,kvs,k,v,ea,ey,l,q2⟩:=zz28;refine Calls.spliced_nil ?_;subst ey;exact Zud I2 ea ry l (.inl Y) λw' s3 I3 ou=>⟨v,_,I3,ou,q2⟩
end
end L2
namespace Att
open PySem PySem.W PySem.Calls PyProof.Rows
def Zbq:∀ (ns:List Int) (vs:List Value),WellAll P h vs (ns.map WData.int)->IntsAre vs ns:=by
 intro ns
 induction ns with
 | nil =>
  intro vs w;rw [map_nil] at w;cases w;exact .nil
 | cons n ns ih =>
  intro vs w;rw [map_cons] at w
  cases w with
  | cons a b =>
   cases a;exact .cons _ _ (ih _ b)
def Zld {l:OpenLaw} (hn:l.most=some n) {h:Heap}
  (wf:l.row.toRowW.claim.pre args=true) (hwl:WellAll P h vals args) :
  ∃ a vs ns,vals=[Value.ref a]/\args=[WData.list (ns.map WData.int)]/\h.get? a=some { cls:=.type "list",data:=.seq vs.toArray }/\IntsAre vs ns/\ns.length<=n:=by
 have hsh:WShape.hasAll [] args [.list .int]=true:=(pre_splitW wf).1;have hc:l.pre.holds [] { args:=args }=true:=(pre_splitW wf).2;obtain ⟨d,r,rfl,h1,h2⟩:=hasAllW_cons hsh;obtain rfl:=hasAllW_nil h2;obtain ⟨xs,rfl,h3⟩:=hasW_list h1;obtain ⟨ns,rfl⟩:=items_int h3
 have j7:ns.length<=n:=by
  unfold OpenLaw.pre at hc;have h4:(WTm.not (.lt (.lit (.int (n:Int))) (.len (.arg 0)))).holds [] { args:=[.list (ns.map .int)] }=true:=by
   have h4:=(holds_andW hc).1
   rw [hn] at h4
   exact h4
  have h5:=condW_of h4 (w_not (w_lt w_lit (w_len_list (w_arg rfl))));rw [Ab] at h5;refine Nat.le_of_not_lt λq=>?_;have q':(n:Int) < ((ns.length:Nat):Int):=by lia
  first
   | (rw [decide_eq_true q'] at h5; exact absurd h5 (by decide))
   | (simp at h5; lia)
 cases hwl with
 | cons w1 w2 =>
  cases w2
  cases w1 with
  | list ho um=>exact ⟨_,_,ns,Y,Y,ho,Zbq ns _ um,j7⟩
def Zlm (l:OpenLaw) (args:List WData):l.row.toRowW.claim.post args (.bool true) args=true :=
 postW_of (r:=l.row.toRowW) (X:=(true == true))
  (show WShape.has [] (.bool true) .bool=true by first | rfl | decide | simp [WShape.has,WShape.arms,WShape.armsAll])
  (show (WTm.eq .res (.lit (.bool true))).value [] { args:=args,res:=some (.bool true),after:=args }=some (.bool (true == true)) from w_eq_bool (w_res rfl) w_lit) rfl
def attach_call {l:OpenLaw} {d:DefRec}
  (hn:l.most=some n) (hdf:d.params.defaults=[])
  (call:∀ (w:World) (s₀ s₁:Shared) (mg mb:Str->Option Value) (fa:Addr) (o:Obj) (pm cd k6:Value) (a:Addr) (vs:List Value) (ns:List Int),
   Ground q qy [] XP w s₀ mg mb s₁.heap->YP w s₁.heap ->
   s₁.heap.get? fa=some o->o.data=.func (docDef d.name d.params d.body d.scope pm cd k6)->s₁.heap.CodeRec cd d.name->mg d.name=some (.ref fa) ->
   s₁.heap.get? a=some { cls:=.type "list",data:=.seq vs.toArray }->IntsAre vs ns->ns.length<=n->s₁.gens=#[] ->
   codeAny (model l.prog w) callerA (.call (.ref fa) ⟨[.ref a],[]⟩) (bf:) s₁) :
  WalkO q qy XP YP l.row.toRowW d [] (λf vs=>PySem.call f vs):=by
 intro w s₀ s₁ mg mb G Qzj fa o pm cd k6 dV kV ho hd oy hD hmg hg args vals as wf hlay hrd hwl hlo;obtain rfl:dV=.none:=Dflts.none hD hdf;obtain rfl:kV=.none:=Dflts.noKw hD;obtain ⟨a,vs,ns,rfl,rfl,yv,uv,j7⟩:=Zld hn wf hwl;refine enter_call (codeAny_mono (call w s₀ s₁ mg mb fa o pm cd k6 a vs ns G Qzj ho (fd_plain hd) oy hmg yv uv j7 hg) λr s' hq=>?_);obtain ⟨rfl,h2,h3,h4⟩:=hq;exact ⟨.inl ⟨.bool true,.bool true,[],Y,λ_=>rfl,.bool true,Zlm l _,λ_=>⟨List.Pairwise.nil,λ_ hm=>(nomatch hm)⟩⟩,h2,h3,h4⟩
end Att
namespace L2
open PySem PySem.Spec PyProof.Rows
theorem Zcr:∀ {vs:List Value} {ns:List Int},IntsAre vs ns->Vals (L:) vs
 | _,_,.nil=>.nil
 | _,_,.cons n t h=>.cons ⟨t,rfl⟩ (Zcr h)
def Only (H:Hp):Prop:=∀ b,H b=none\/∃ o xs,H b=some (.frz o (.lst xs))
def Zom {K:W.Frag} {s₁:Shared} {vs:List Value} {ns:List Int}
  (KX:K.In s₁.heap) (rj:s₁.heap.Ns mainGlobals mg) (hb:s₁.heap.Ns builtinsNs mb) (hbb:∀ x:Str,x≠"__name__"->mb x=bootBuiltins x) (hlim:s₁.heap.NoLimit) (hg:s₁.gens=#[])
  (ha:s₁.heap.get? a=some { cls:=.type "list",data:=.seq vs.toArray }) (hi:IntsAre vs ns) (hl:ns.length<=sizeLine) (hr:Room k callerA)
  (F:∀ base:Heap,K.In base->base.Ns mainGlobals mg->FnOk P w K mg base CX k fa fd [x] sp) (hbind:∀ (s:Shared) (u:Value),BindsTo s fd ⟨[u],[]⟩ [(x,u)])
  (mz:∀ H:Hp,Only H->SqL K H a (L:)->sp [.ref a] H (λv _=>v=.bl true) λ_ _ _=>False)
  (hCX:∀ H e s',CX [] H s₁ (λ_ _ _=>False) e s'->False) :
  codeAny (W:) callerA (.call (.ref fa) ⟨[.ref a],[]⟩) (bf:) s₁:=by
 have rv:=Zcr hi;have lenV:=hi.length
 have core:∀ H:Hp,Only H->SqL K H a (L:)->HOk P w H s₁.heap->(∀ b,H b≠none->b=a)->(H a≠none->K.lookup a=none) ->
   codeAny (W:) callerA (.call (.ref fa) ⟨[.ref a],[]⟩) (bf:) s₁:=by
  intro H hO hS hok hA hK;have q0:∀ {b:Addr} {o:Obj},s₁.heap.get? b=some o->H b=none->(hidT s₁.heap H).get? b=some o:=λe n=>Zou e n
  have noA:∀ {b:Addr} {o:Obj} {es:Array DictEntry} {ep:Nat},s₁.heap.get? b=some o->o.data=.dict es ep->H b=none:=λ{b o es ep} e d=>by
   cases q:H b with
   | none=>rfl
   | some u =>
    have e':b=a:=hA b (by rw [q]; simp);subst e';rw [ha] at e; cases e;have d':Data.seq vs.toArray _=Data.dict es ep:=d;cases d'
  have nsK:∀ {b:Addr} {m:Str->Option Value},s₁.heap.Ns b m->(hidT s₁.heap H).Ns b m:=λ{b m} ⟨o,es,ep,e,d,r⟩=>⟨o,es,ep,q0 e (noA e d),d,r⟩
  have hKb:K.In (hidT s₁.heap H):=λb o e=>q0 (KX b o e) (by
   cases q:H b with
   | none=>rfl
   | some u =>
    have e':b=a:=hA b (by rw [q]; simp);subst e'
    rw [hK (by rw [q]; simp)] at e; cases e)
  have hM:Mod K mg (hidT s₁.heap H):=⟨hKb,nsK rj,⟨mb,nsK hb,hbb⟩,let ⟨mc,h1,h2⟩:=hlim; ⟨mc,nsK h1,h2⟩⟩;have e0:Env0 P w K mg (hidT s₁.heap H) callerA [] s₁ H:=⟨rfl,hM,λb o e=>Zqn e,Nat.le_of_eq (Zmo _ _),trivial,λb hb=>absurd (show b∈([]:List Addr) from hb) (by simp),hok,.of_eq hg⟩;refine codeAny_mono ((F _ hKb (nsK rj)).run callerA [] s₁ H ⟨[.ref a],[]⟩ [.ref a] [.ref a] _ _ hr e0 (hbind s₁ (.ref a)) (.cons Y .nil) (mz H hO hS)) λr s' h=>?_
  cases r with
  | error e=>exact (hCX H e s' h).elim
  | ok fl =>
   cases fl with
   | next=>exact False.elim h
   | brk=>exact False.elim h
   | cont=>exact False.elim h
   | ret u =>
    obtain ⟨v,H',os,bare,un,hok',r',q⟩:=h;have q':v=.bl true:=q;subst q';obtain rfl:u=Value.bool true:=r';refine ⟨Y,OldK.of_keep λb o e=>?_,os,bare⟩
    cases q:H b with
    | none=>exact un.keep b o e q (by intro z; exact absurd (show b∈([]:List Addr) from z) (by simp)) (by simp)
    | some u =>
     rcases hO b with z | ⟨ob,xs,z⟩
     ·rw [q] at z; cases z
     ·have z2:=un.frzs b ob _ z
      obtain ⟨e1,_⟩:=hok b _ z;obtain ⟨e2,_⟩:=hok' b _ z2;rw [e] at e1; cases e1;exact e2
 cases hk:K.lookup a with
 | some o =>
  have e:=KX a o hk;rw [ha] at e;cases e;refine core (λ_=>none) (λ_=>.inl Y) (.inr ⟨_,vs.toArray,_,hk,Y,Y,Y,by rw [Aq,lenV]; exact hl,by simpa using rv⟩) (λb u z=>by have z':(none:Option HO)=some u:=z; cases z') (λb z=>absurd rfl z) λz=>absurd rfl z
 | none =>
  refine core (λb=>if b=a then some (.frz { cls:=.type "list",data:=.seq vs.toArray } (.lst (L:))) else none) (λb=>?_) (.inl (.inr ⟨{ cls:=.type "list",data:=.seq vs.toArray },if_pos rfl⟩)) (λb u z=>?_) (λb z=>?_) λ_=>hk
  ·by_cases hb:b=a
   ·exact .inr ⟨_,_,if_pos hb⟩
   ·exact .inl (if_neg hb)
  ·by_cases hb:b=a
   ·have z':=(if_pos hb).symm.trans z
    cases z';subst hb;exact ⟨ha,by rw [Ab]; exact hl,vs,_,rv,ha⟩
   ·have z':=(if_neg hb).symm.trans z
    cases z'
  ·by_cases hb:b=a
   ·exact hb
   ·exact absurd (if_neg hb) z
abbrev KOf {K:W.Frag} {h:Heap} (_:K.In h):PySem.W.Frag:=K
def Zpo {l:PySem.W.OpenLaw} {d:DefRec} {K:Params->PySem.W.Frag} {CX:World->CXT} {sp:World->Sp} {x:Str}
  (hn:l.most=some n) (tf:n<=sizeLine) (hdf:d.params.defaults=[]) (hr:Room k callerA)
  (hY:∀ (w:World) (h:Heap),YP w h->(K w.params).In h)
  (F:∀ (w:World) (mg:Str->Option Value) (fa:Addr) (h:Heap),(K w.params).In h->h.Ns mainGlobals mg->mg d.name=some (.ref fa) ->
   ∃ fd:FuncData,(∀ (s:Shared) (u:Value),BindsTo s fd ⟨[u],[]⟩ [(x,u)]) /\
    ∀ base:Heap,(K w.params).In base->base.Ns mainGlobals mg->FnOk l.prog w (K w.params) mg base (CX w) k fa fd [x] (sp w))
  (mz:∀ (w:World) (H:Hp) (a:Addr) (ns:List Int),ns.length<=n->Only H->SqL (K w.params) H a (L:)->sp w [.ref a] H (λv _=>v=.bl true) λ_ _ _=>False)
  (hCX:∀ (w:World) (H:Hp) (s:Shared) (e:Value) (s':Shared),CX w [] H s (λ_ _ _=>False) e s'->False) :
  PySem.W.WalkO q qy XP YP l.row.toRowW d [] (λf vs=>PySem.call f vs):=by
 refine Att.attach_call hn hdf λw s₀ s₁ mg mb fa o pm cd k6 a vs ns G Qzj ho hd oy hmg yv uv j7 hg=>?_;have KX:=hY w _ Qzj;obtain ⟨fd,hb,hF⟩:=F w mg fa _ KX G.T.g hmg;exact Zom KX G.T.g G.T.b G.T.builtins G.T.nolimit hg yv uv (Nat.le_trans j7 tf) hr hF hb (λH hO hS=>mz w H a ns j7 hO hS) λH e s'=>hCX w H s₁ e s'
def Y6 (s:Stmt) (j:Nat):Stmt:=match s with
 | .ClassDef _ _ _ body _ _ _ _ _ _ _=>body.getD j (.Pass ⟨0,0,0,0⟩)
 | _=>.Pass ⟨0,0,0,0⟩
noncomputable def Xs (s:Stmt):Arguments:=match s with
 | .FunctionDef _ a _ _ _ _ _ _ _ _=>a
 | _=>{ posonlyargs:=[],args:=[],vararg:=none,kwonlyargs:=[],kw_defaults:=[],kwarg:=none,defaults:=[] }
noncomputable def Yu (s:Stmt):List Stmt:=match s with
 | .FunctionDef _ _ b _ _ _ _ _ _ _=>b
 | _=>[]
noncomputable def Zg (s:Stmt):Scope:=match s with
 | .FunctionDef _ _ _ _ _ _ sc _ _ _=>sc
 | _=>{ kind:=.function,names:=[],isGenerator:=false,isCoroutine:=false }
abbrev E0:XK:=λ_ _ _=>False
structure Fun (K:W.Frag) (x qual:Str) (st:Stmt) (f:Addr) (fd:FuncData):Prop where
 ex:∃ (oc:Value) (od:Option Addr) (kV k6 pm:Value) (an:Option Addr) (kj ct:Value) (t7:Array (Option Value)),
  fd=PySem.W.fnOf x qual (Xs st) (Yu st) (Zg st) .none kV k6 pm an kj ct/\K.lookup f=some ⟨oc,od,.func fd,t7⟩/\PySem.W.codeIn K kj qual=true
 kp:PySem.W.keepIn K (.ref f)=true
section
variable {P:Program} {w:World} {K:W.Frag} {mg:Str->Option Value} {base:Heap}
def Fun.binds {x qual:Str} {st:Stmt} {f:Addr} {fd:FuncData} {ps:List Str} (F:Fun K x qual st f fd)
  (h:∀ (kV k6 pm:Value) (an:Option Addr) (kj ct:Value) (us:List Value),us.length=ps.length->bindArgs (cx:) ⟨us,[]⟩=pure (ps.zip us)):Wg K fd ps []:=by
 obtain ⟨oc,od,kV,k6,pm,an,kj,ct,t7,rfl,lk,oy⟩:=F.ex;exact .all (h kV k6 pm an kj ct)
def Zbr {x qual:Str} {st:Stmt} {f:Addr} {oc:Value} {od an:Option Addr} {t7:Array (Option Value)} {kV k6 pm kj ct:Value} (l:K.lookup f=some ⟨oc,od,.func (cx:),t7⟩)
  (c:PySem.W.codeIn K kj qual=true) (k:PySem.W.keepIn K (.ref f)=true):Fun K x qual st f (cx:):=⟨⟨oc,od,kV,k6,pm,an,kj,ct,t7,rfl,l,c⟩,k⟩
end
def Xh {A:Around} (hr:Room k A):A.units + 1 < cLine:=Nat.lt_of_le_of_lt (Nat.add_le_add_left (by decide:1<=64) _) hr.units
def Zo {n:Nat} (h:n<=1000):n < sizeLine:=Nat.lt_of_le_of_lt h (c:)
section
variable {X:Cx}
def pv (i:Nat) (hN:X.N[i]?=some x:=by rfl) (hv:Vis X.env.scope x:=by first | exact Or.inl rfl | exact Or.inr (Or.inl rfl) | exact Or.inr (Or.inr rfl)) (hd:(H:)=false:=by decide)
  (oy:(x == ("__classdict__":Str))=false:=by decide):PE X (.Name x pos) (tVar i):=Zlt hN hv hd oy
end
def iteT {A B:Prop} (h:A):if true=true then A else B:=by
 rw [if_pos rfl];exact h
def ite2 {A B:Prop} [Decidable c] (h1:c->A) (h2:¬ c->B):if c then A else B:=by
 by_cases h:c
 ·rw [if_pos h]
  exact h1 h
 ·rw [if_neg h]
  exact h2 h
def Same (H H':Hp):Prop:=∀ b o,H b=some o->H' b=some o
def Same.refl (H:Hp):Same H H:=λ_ _ h=>h
def Same.trans (a:Same H H1) (b:Same H1 H2):Same H H2:=λc o h=>b c o (a c o h)
def Same.free {H H':Hp} (e:Same H H') {l:Addr} (h:H' l=Option.none):H l=Option.none:=by
 cases q:H l with
 | none=>rfl
 | some o =>
  rw [e l o q] at h;cases h
def Same.seq {K:W.Frag} {H H':Hp} {a:Addr} {xs:List V} (e:Same H H') (h:SqL K H a xs):SqL K H' a xs:=by
 rcases h with (h | ⟨o,h⟩) | h
 ·exact .inl (.inl (e _ _ h))
 ·exact .inl (.inr ⟨o,e _ _ h⟩)
 ·exact .inr h
noncomputable def Y7 (env:Env):List (Str × NameKind)->List (Str × Addr)->List (Str × Addr)
 | [],j8=>j8
 | (n,k) :: r,j8=>if (k == NameKind.free)=true then (match env.cells.lookup n with
  | some c=>Y7 env r ((n,c) :: j8)
  | none=>Y7 env r j8) else Y7 env r j8
theorem Jv {env:Env}:∀ (ns:List (Str × NameKind)) (j8:List (Str × Addr)),(∀ x c,j8.lookup x=some c->env.cells.lookup x=some c) ->
  ∀ x c,(Y7 env ns j8).lookup x=some c->env.cells.lookup x=some c
 | [],j8,h=>h
 | (n,k) :: r,j8,h=>by
  unfold Y7;split
  ·cases e:env.cells.lookup n with
   | none=>exact Jv r j8 h
   | some c =>
    refine Jv r _ λx d hx=>?_;rw [lookup_cons] at hx
    cases hb:x == n with
    | true =>
     rw [hb] at hx;cases hx;rw [beq_iff_eq.mp hb];exact e
    | false =>
     rw [hb] at hx;exact h x d hx
  ·exact Jv r j8 h
theorem Jw:∀ (ns:List (Str × NameKind)) (j8:List (Str × Addr)) (x:Str),(∃ c,j8.lookup x=some c)->∃ c,(Y7 env ns j8).lookup x=some c
 | [],j8,x,h=>h
 | (n,k) :: r,j8,x,h=>by
  unfold Y7;split
  ·cases e:env.cells.lookup n with
   | none=>exact Jw r j8 x h
   | some c =>
    refine Jw r _ x ?_;rw [lookup_cons]
    cases hb:x == n with
    | true=>exact ⟨c,Y⟩
    | false=>exact h
  ·exact Jw r j8 x h
theorem Qu {env:Env}:∀ (ns:List (Str × NameKind)) (j8:List (Str × Addr)) (x:Str),(x,NameKind.free)∈ns->(∃ c,env.cells.lookup x=some c)->∃ c,(Y7 env ns j8).lookup x=some c
 | [],j8,x,h,_=>by cases h
 | (n,k) :: r,j8,x,h,hc=>by
  rcases Ar h with e | h
  ·cases e
   obtain ⟨c,hc⟩:=hc;unfold Y7;rw [if_pos (show (NameKind.free == NameKind.free)=true by decide),hc];exact Jw r _ n ⟨c,by rw [lookup_cons,beq_self_eq_true]⟩
  ·unfold Y7
   split
   ·cases e:env.cells.lookup n with
    | none=>exact Qu r j8 x h hc
    | some c=>exact Qu r _ x h hc
   ·exact Qu r j8 x h hc
theorem Ou {env:Env} (f:Str × NameKind->List (Str × Addr)->Sem (ForInStep (List (Str × Addr))))
  (hf:∀ name kind cs,f (name,kind) cs=if (kind == NameKind.free)=true then (do let a <- cellOf env name; pure (.yield ((name,a) :: cs))) else pure (.yield cs)) :
  ∀ (ns:List (Str × NameKind)) (j8:List (Str × Addr)),(∀ y∈ns,y.2=.free->∃ c,env.cells.lookup y.1=some c)->forIn ns j8 f=pure (Y7 env ns j8)
 | [],j8,_=>by rw [forIn_nil]; rfl
 | (n,k) :: r,j8,h=>by
  rw [forIn_cons,hf];unfold Y7;have hr:∀ y∈r,y.2=.free->∃ c,env.cells.lookup y.1=some c:=λy hy=>h y (mem_cons_of_mem _ hy);split
  ·rename_i hk
   obtain ⟨c,hc⟩:=h (n,k) mem_cons_self (by simpa using hk);have vt:env.cells.lookup n=some c:=hc;have e:cellOf env n=pure c:=by unfold cellOf; rw [vt]
   rw [e,vt];exact Ou f hf r ((n,c) :: j8) hr
  ·exact Ou f hf r j8 hr
def Qt {env:Env} {scope:Scope} (h:∀ y∈scope.names,y.2=.free->∃ c,env.cells.lookup y.1=some c):closureFor scope env=pure (Y7 env scope.names []):=by
 unfold closureFor;dsimp only;rw [Ou (env:=env) _ (λname kind cs=>by split <;> rfl) scope.names [] h];rfl
theorem Qe (env:Env):∀ (names:List (Str × NameKind)) (x:Str),
  (dm:).lookup x =
   (names.lookup x).map λk=>if (k == NameKind.free && env.scope.kind == .function && env.kindOf x == some .cell)=true then NameKind.cell else k
 | [],_=>rfl
 | (n,k) :: r,x=>by
  have ih:=Qe env r x;have e:(if (C:)=true then (n,NameKind.cell) else (n,k))=(n,if (C:)=true then NameKind.cell else k):=by split <;> rfl
  show List.lookup x ((if (C:)=true then (n,NameKind.cell) else (n,k)) :: _)=_;rw [e,lookup_cons,lookup_cons]
  cases hx:x == n with
  | true =>
   have e2:x=n:=beq_iff_eq.mp hx;subst e2;rfl
  | false=>exact ih
def Kr {env:Env} {names:List (Str × NameKind)} (hc:∀ y∈names,y.2≠.cell)
  (h:(dm:).lookup x=some k) (hk:k=.cell\/k=.free):names.lookup x=some .free:=by
 rw [Qe] at h
 cases e:names.lookup x with
 | none=>rw [e] at h; cases h
 | some k' =>
  rw [e] at h;have tm:k'≠.cell:=hc _ (PySem.mem_of_lookup e);have h':(if (k' == NameKind.free && env.scope.kind == .function && env.kindOf x == some .cell)=true then NameKind.cell else k')=k:=Ax h;split at h'
  ·rename_i q
   simp only [Bool.and_eq_true,beq_iff_eq] at q;rw [q.1.1]
  ·subst h'
   rcases hk with z | z
   ·exact absurd z tm
   ·rw [z]
def Za9 {env:Env} {names:List (Str × NameKind)} (h:names.lookup x=some .free) :
  (dm:).lookup x≠some .local:=by
 rw [Qe,h];intro z;have z':(if (NameKind.free == NameKind.free && env.scope.kind == .function && env.kindOf x == some .cell)=true then NameKind.cell else NameKind.free)=.local:=Ax z;split at z' <;> cases z'
noncomputable def Yd (X:Cx) (N':List Str) (scope:Scope) (C:Addr) (s₀:Shared) (H₀:Hp) (ex:List Addr):Cx :=
 { X with N:=N',s₀:=s₀,H₀:=H₀,env:=compEnvC scope (Y7 X.env scope.names []) C X.env,outer:=X.stack,ex:=ex,fn:=λ_=>false,pn:=[],xe:=λ_ _=>False }
def FvOk (X:Cx) (scope:Scope):List (Str × Nat)->Prop
 | []=>True
 | (x,j) :: r=>(X.N[j]?=some x/\scope.names.lookup x=some .free/\(X.env.kindOf x=some .cell\/X.env.kindOf x=some .free))/\FvOk X scope r
theorem FvOk.mem {X:Cx} {scope:Scope}:∀ {l:List (Str × Nat)},FvOk X scope l->∀ y∈l,X.N[y.2]?=some y.1/\scope.names.lookup y.1=some .free/\(X.env.kindOf y.1=some .cell\/X.env.kindOf y.1=some .free)
 | [],_,_,h=>by cases h
 | (x,j) :: r,h,y,hy=>by
  rcases Ar hy with e | hy
  ·cases e; exact h.1
  ·exact FvOk.mem h.2 y hy
noncomputable def blkN (ts:List Str) (fv:List (Str × Nat)):List Str:=ts ++ fv.map (·.1)
noncomputable def blkS (ts:List Str) (fv:List (Str × Nat)) (σ:St):St:=ts.map (λ_=>none) ++ fv.map λy=>(σ[y.2]?).join
structure BlkOk (X:Cx) (scope:Scope) (fv:List (Str × Nat)):Prop where
 kind:scope.kind=.function
 nocell:∀ y∈scope.names,y.2≠.cell
 names:∀ y∈scope.names,y.2=.local->scope.names.lookup y.1=some .local
 free:∀ y∈scope.names,y.2=.free->X.env.kindOf y.1=some .cell\/X.env.kindOf y.1=some .free
 fvs:FvOk X scope fv
section
variable {X:Cx} {j4:List (p:)} {σ:St} {H:Hp} {s:Shared} {scope:Scope} {ts:List Str} {fv:List (Str × Nat)}
def Zds {h':Heap} {tk:Nat} (B:BlkOk X scope fv) (I:Inv X j4 σ H s) (hf:∀ b∈fp,FpOk X j4 H b) (ho:∀ b∈fp,∃ o,s.heap.get? b=some o)
  (hn:h'.Ns s.heap.objs.size (λ_=>none)) (hk:∀ b o,s.heap.get? b=some o->h'.get? b=some o) :
  Inv (Yd X (U:) scope s.heap.objs.size s H fp) [] (blkS ts fv σ) H { s with heap:=h',toks:=tk }:=by
 have has:∀ y∈scope.names,y.2=.free->∃ c,X.env.cells.lookup y.1=some c:=λy hy e=>I.ok.has y.1 (B.free y hy e);have zj:∀ x c,(Y7 X.env scope.names []).lookup x=some c->X.env.cells.lookup x=some c:=Jv _ _ (λx c h=>by simp at h);have fr:∀ x,(scope.names.lookup x=some .free)->∃ c,(Y7 X.env scope.names []).lookup x=some c:=λx hx =>
  Qu _ _ x (PySem.mem_of_lookup hx) (has _ (PySem.mem_of_lookup hx) rfl)
 have nfs:∀ b∈fp,b ∉ frs X.stack:=λb hb z=>by
  obtain ⟨_,h1,h2,_⟩:=hf b hb
  rcases Ar (I.stkSub b z) with e | e
  ·exact h1 e
  ·exact h2 e
 have lt:∀ b∈fp,b < s.heap.objs.size:=λb hb=>let ⟨o,e⟩:=ho b hb; Ao e
 refine ⟨⟨I.ok.mod,?_,I.ok.glob,I.ok.blt,An _,λx y c h1 h2=>I.ok.inj x y c (zj x c h1) (zj y c h2),λx hx=>?_,λ_ _ h=>absurd (show false=true from h) Bool.false_ne_true,I.ok.hd,I.ok.frames,.inl Y,λb hb=>⟨As (lt b hb),λx c e=>(hf b hb).2.2.2.2.1 x c (zj x c e)⟩,I.bs,Nat.le_trans I.ok.bsz I.sz,λb o e hb=>?_,nfs,I.stack,I.stkFree⟩,
  rfl,I.bare,Un.kept hk,⟨_,hn,λi x v h1 h2 h3=>?_⟩,λx c e=>?_,I.fresh,λx c e=>I.freeC x c (zj x c e),λp hp=>?_,I.hok.kept hk,?_⟩
 ·exact B.kind
 ·refine fr x ?_
  have oo:(relabel scope X.env).names.lookup x=some .cell\/(relabel scope X.env).names.lookup x=some .free:=hx
  rcases oo with e | e
  ·exact Kr B.nocell e (.inl Y)
  ·exact Kr B.nocell e (.inr Y)
 ·rcases (hf b hb).2.2.2.1 with z | z
  ·exact I.ok.noex b o e z
  ·exact absurd (Ag (Ao e) (Nat.le_trans I.ok.bsz z)) (b9:)
 ·have h1:(ts ++ fv.map (·.1))[i]?=some x:=h1
  have h2:(ts.map (λ_=>(none:Option V)) ++ fv.map λy=>(σ[y.2]?).join)[i]?=some (some v):=h2;by_cases hi:i < ts.length
  ·rw [Av (by simpa using hi),Ah] at h2
   cases e:ts[i]? with
   | none=>rw [e] at h2; cases h2
   | some z=>rw [e] at h2; cases h2
  ·rw [getElem?_append_right (by simpa using hi),Ab,Ah] at h2
   rw [getElem?_append_right (by simpa using hi),Ah] at h1
   cases e:fv[i - ts.length]? with
   | none=>rw [e] at h2; cases h2
   | some y =>
    rw [e] at h1 h2;have e1:y.1=x:=by simpa using h1
    have e2:(σ[y.2]?).join=some v:=by simpa using h2
    obtain ⟨f1,f2,f3⟩:=B.fvs.mem y (Au e)
    have e3:σ[y.2]?=some (some v):=by
     cases q:σ[y.2]? with
     | none=>rw [q] at e2; cases e2
     | some z=>rw [q] at e2; exact congrArg some e2
    obtain ⟨m,hm,hl⟩:=I.loc;obtain ⟨u,r,l⟩:=hl y.2 y.1 v f1 e3 (by rcases f3 with z | z; exact .inr (.inl z); exact .inr (.inr z));rw [e1] at f2 f3 l;refine ⟨u,r,?_⟩;obtain ⟨c,hc⟩:=fr x f2;have vt:=zj x c hc
    rcases l with ⟨l1,_⟩ | ⟨_,c2,l2,l3⟩
    ·rcases f3 with z | z
     ·rw [l1] at z; cases z
     ·rw [l1] at z; cases z
    ·rw [vt] at l2
     cases l2;have hv:Vis (relabel scope X.env) x:=h3
     rcases hv with z | z | z
     ·exfalso
      exact Za9 f2 z
     ·exact .inr ⟨.inl z,c,hc,l3.keeps hk⟩
     ·exact .inr ⟨.inr z,c,hc,l3.keeps hk⟩
 ·obtain ⟨v,z⟩:=I.cell x c (zj x c e)
  exact ⟨v,z.keeps hk⟩
 ·exact absurd (show p∈([]:List (p:)) from hp) (by simp)
 ·show (ts.map (λ_=>(none:Option V)) ++ fv.map λy=>(σ[y.2]?).join).length=(ts ++ fv.map (·.1)).length
  simp
def Inv.apart (I:Inv X j4 σ H s) (hs:Heap.SameBut C s.heap h') (hC:H C=none) (h0:X.s₀.heap.objs.size<=C) (hL:C≠X.env.locals) (hc:∀ x c,X.env.cells.lookup x=some c->c≠C) (hp:∀ p∈X.pn ++ j4,p.1≠C) :
  Inv X j4 σ H { s with heap:=h' } :=
 I.turned (t':=s.toks) (it:=C) (λb o hb e=>(hs.2 b hb).trans e) hC hL (.inr h0) hc hp
def Zi5 (I:Inv X j4 σ H s) (hf:∀ b∈fp,FpOk X j4 H b) (hC:s.heap.objs.size<=C)
  (J:Inv (Yd X N' scope C s H fp) [] σ' H' s'):Inv X j4 σ H' s'/\H' C=none/\X.s₀.heap.objs.size<=C/\C≠X.env.locals/\(∀ x c,X.env.cells.lookup x=some c->c≠C)/\(∀ p∈X.pn ++ j4,p.1≠C):=by
 refine ⟨I.call' J.os J.base J.hok J.bare λb hb=>?_,J.free,Nat.le_trans I.sz hC,Nat.ne_of_gt (Ag I.lt hC),λx c e z=>?_,λp hp z=>?_⟩
 ·obtain ⟨_,h1,_,h3,h4,h5⟩:=hf b hb
  exact ⟨h3,h1,h4,h5⟩
 ·obtain ⟨v,q⟩:=I.cell x c e
  exact absurd (Ag q.lt (by rw [z]; exact hC)) (b9:)
 ·exact absurd (Ag (Ao (I.pin p hp).1) (by rw [z]; exact hC)) (b9:)
end
abbrev TB:=St->Hp->(St->Hp->Prop)->Prop
def PTs (X:Cx) (ifs:List Expr) (t:TT):Prop :=
 ∀ j4 s σ H (Q:Bool->Hp->Prop),Inv X j4 σ H s->t σ H Q ->
  wpAny (d:) X.A (cp:) (TP X j4 σ Q) X.xe s
def tYes:TT:=λ_ H Q=>Q true H
def Z6:PTs X [] tYes:=λj4 s σ H Q I h=>wpAny_tests_nil ⟨H,I,h⟩
def Uq (h:PT X c t):PTs X [c] t:=λj4 s σ H Q I hq=>wpAny_tests_one (h j4 s σ H Q I hq)
def PB (X:Cx) (lw:Sem Fin) (c:Code) (t:TB):Prop :=
 ∀ j4 s σ H (N:St->Hp->Prop),Inv X j4 σ H s->t σ H N ->
  wpAny (d:) X.A lw (λkm s'=>km=.again c/\∃ σ' H',Inv X j4 σ' H' s'/\N σ' H') X.xe s
def W6 (J:It) (g:TG) (tt:TT) (tb:TB) (R:St->Hp->Prop) (σ:St) (H:Hp):Prop :=
 ∃ W:Nat->Nat->St->Hp->Prop,(de:)/\∀ i m σ H,W i m σ H ->
  (J.stop i H/\R σ H)\/(J.go i H/\∃ N:St->Hp->Prop,(q:) /\
   ∀ x H',J.yld i H x H'->g x σ H' λσ2 H2=>tt σ2 H2 λb H3=>if b=true then tb σ2 H3 N else N σ2 H3)
section
variable {X:Cx}
theorem Gd {s:Shared} (xt:X.xe=λ_ _=>False)
  (hcq:Code.quiet (b7:)=true) (hden:(d:).den (b7:)=(compTurn e d (.ref it) j8 X.env).onRaise (λx=>do noteFrame x X.env; theTreesLotGoes x))
  (hund:X.A.under (b7:)=X.A)
  (rm:compTurn e d (.ref it) j8 X.env=(standAt p >>= λ_=>pyNext (.ref it) >>= λr=>match r with
   | none=>pure (.done .next)
   | some v=>letOwnedTupleGo tg (.ref it) v >>= λ_=>assign tg X.env v >>= λ_ =>
    (cp:) >>= λok =>
     if ok=true then lw else again (b7:)))
  (T:Turn X.prog X.w X.K tg J fp it tn) (hc:X.calm=true) (hg:PG X tg g) (ht:PTs X ifs tt) (hb:PB X lw (b7:) tb)
  (hf:∀ b∈fp,FpOk X j4 H b) (I:Inv X j4 σ H s) (st:tn 0 s.heap) (h:W6 J g tt tb R σ H)
  (hR:∀ s' σ' H',Inv X j4 σ' H' s'->R σ' H'->RR (.ok .next) s') :
  codeAny (d:) X.A (b7:) RR s:=by
 obtain ⟨W,⟨m0,w0⟩,turn⟩:=h;have nz:∀ {H':Hp},(∀ b∈fp,H' b=none)->∀ b∈fp,FpOk X j4 H' b:=λhn b hb=>⟨hn b hb,(hf b hb).2⟩;refine codeAny_loop hcq (bb:) ?_ m0 ⟨0,σ,H,I,st,λb hb=>(hf b hb).1,w0⟩;rintro n s3 ⟨i,σ3,H3,I3,o0,w6,w3⟩;rw [hden,hund];refine wpAny_noted (wpAny_mono (E:=λ_ _=>False) ?_ (λ_ _ q=>q) λ_ _ z=>z.elim);rw [rm];have hxe':∀ {α:Type} {t:Sem α} {Q:α->Shared->Prop} {s:Shared},wpAny (d:) X.A t Q X.xe s->wpAny (d:) X.A t Q (ci:) s:=λh=>by rw [xt] at h; exact h
 refine Al (wpAny_standAt (Al ?_))
 rcases turn i n σ3 H3 w3 with ⟨stop,qn⟩ | ⟨go,N,hN,step⟩
 ·refine thn (T.done X rfl rfl rfl hc i j4 s3 σ3 H3 _ I3 (nz w6) o0 stop) λr s4 ⟨hr,I4⟩=>?_
  subst hr;exact wpAny_pure (hR s4 σ3 H3 I4 qn)
 ·refine thn (T.item X rfl rfl rfl hc i j4 s3 σ3 H3 _ I3 (nz w6) o0 go) λr s4 ⟨u,hr,h4⟩=>?_
  subst hr;refine Al (thn h4 λ_ s5 j9=>?_);obtain ⟨x,H5,I5,r5,y5,tz,fr5⟩:=j9;have I5':=I5.pinned (nz fr5) (T.obj _ _ tz);refine Al (hxe' (thn (hg _ s5 σ3 H5 x u _ I5' r5 (step x H5 y5)) λ_ s6 j9=>?_));obtain ⟨σ6,H6,I6,q6⟩:=j9;refine Al (xt ▸ thn (ht _ s6 σ6 H6 _ I6 q6) λok s7 j9=>?_);obtain ⟨H7,I7,q7⟩:=j9;have back:∀ {σ7:St} {H7:Hp} {s7:Shared},Inv X (j4 ++ Ur fp s5.heap) σ7 H7 s7->N σ7 H7->∃ m,m < n/\∃ i σ' H',Inv X j4 σ' H' s7/\tn i s7.heap/\(∀ b∈fp,H' b=none)/\W i m σ' H':=λ{σ7 H7 s7} I7 n7=>by
   obtain ⟨m',hm,w7⟩:=hN σ7 H7 n7
   refine (bn:)
   obtain ⟨o,e,d⟩:=T.obj _ _ tz b hb
   exact (P:).2.1
  cases ok with
  | false=>exact xt ▸ wpAny_pure ⟨Y,back I7 q7⟩
  | true =>
   refine thn (hb _ s7 σ6 H7 N I7 q7) λkm s8 j9=>?_;obtain ⟨hfin,σ8,H8,I8,q8⟩:=j9;subst hfin;exact ⟨Y,back I8 q8⟩
def Zjd (te:TE) (D:Addr):TB:=λσ H N=>te σ H λv H1=>∃ xs,H1 D=some (.lst xs)/\xs.length < sizeLine/\N σ (upd H1 D (.lst (xs ++ [v])))
def Yb (he:PE X m7 te) :
  PB X ((eval m7 X.env >>= λx=>call (.builtin "list.append") [.ref D,x] >>= λ_=>pure ()) >>= λ_=>again c) c (Zjd te D):=by
 intro j4 s σ H N I h;refine Al (Al (thn (cj:) λu s1 j9=>?_));obtain ⟨v,H1,I1,r1,q1⟩:=j9;obtain ⟨xs,hD,hl,q⟩:=q1;refine Al (thn (Zdc j4 s1 σ H1 (.ref D) [v] (.ref D) [u] (λ_ H2=>N σ H2) I1 Y (.cons r1 .nil) ⟨D,xs,v,Y,Y,hD,hl,q⟩) λ_ s2 j9=>?_);obtain ⟨_,H2,I2,_,q2⟩:=j9;exact wpAny_pure (wpAny_pure ⟨Y,σ,H2,I2,q2⟩)
def tGen (wi:TI) (g:TG) (tt:TT) (tb:TB):TB:=λσ H N=>wi σ H λJ H1=>W6 J g tt tb N σ H1
def Zkj {t0 i0:Expr} {f0:List Expr} {t1 i1:Expr} {f1:List Expr}
  (h0:codeAny (Y:) A (.compLoop (J:) 1 it j8 env) R s)
  (h:wpAny (Y:) A (pyIter it) (λit' s'=>codeAny (Y:) A (.compLoop (J:) 1 it' j8 env) R s')
   (notedBy (Y:) A env λx s'=>R (.error x) s') s) :
  codeAny (Y:) A (.compStart (J:) 1 it j8 env) R s:=by
 refine codeAny_of_tree ?_;show wpAny _ _ ((compStart (J:) 1 it j8 env).onRaise (λx=>do noteFrame x env; standAt theWindowsPlace)) _ _ s;refine wpAny_notedAt ?_;unfold compStart;show wpAny _ _ (ask >>= _) _ _ s;refine Al (wpAny_askSetting (wpAny_ite ?_));split
 ·first
   | exact Al (wpAny_pure (wpAny_pure (And.intro Y h0)))
   | exact wpAny_pure (And.intro Y h0)
 ·first
   | exact Al (wpAny_rule (Al (wpAny_standAt (Al (wpAny_mono h (λit' s' h'=>wpAny_pure (And.intro Y h')) λ_ _ x=>x)))))
   | (refine Al (wpAny_rule ?_); show wpAny _ _ (standAt i1.pos >>= _) _ _ s; exact Al (wpAny_standAt (Al (wpAny_mono h (λit' s' h'=>wpAny_pure (And.intro Y h')) λ_ _ x=>x))))
def Zlv {t0 i0 i1:Expr} {f0:List Expr} (xt:X.xe=λ_ _=>False) (hc:X.calm=true)
  (hi:PI X t1 i1 wi) (hg:PG X t1 g) (ht:PTs X f1 tt) (he:PE X m7 te) (hs:∀ x,foldedSetIterable i1 X.env x=pure x:=by intro _; rfl) :
  PB X (eval i1 X.env >>= λx=>standAt i1.pos >>= λ_=>foldedSetIterable i1 X.env x >>= λx=>holding [x] (pyIter x) >>= λit =>
   runOwn (.compStart (J:) 1 it (.ref D) X.env) X.env >>= λ_=>again c) c (tGen wi g tt (Zjd te D)):=by
 intro j4 s σ H N I h;refine Al (thn (c7:) λv s1 h1=>Al (wpAny_standAt ?_));rw [hs];refine Al (wpAny_pure (Al (wpAny_holding (thn h1 λzr s2 h2=>?_))));obtain ⟨it,fp,tn,J,H2,e,I2,T,mf,f2,L⟩:=h2;subst e;have loop:∀ (A:Around),A=X.A->codeAny (d:) A (.compLoop (J:) 1 (.ref it) (.ref D) X.env)
   (λr s'=>match r with | .ok f=>wpAny (d:) X.A (again c) (λkm s'=>km=.again c/\∃ σ' H',Inv X j4 σ' H' s'/\N σ' H') X.xe s' | .error e=>cameBackBy (d:) X.A X.env X.xe e s') s2:=by
  rintro A rfl
  exact Gd (tg:=t1) (ifs:=f1) (R:=N) xt Y Y Y Y T hc hg ht (Yb (c:=.compLoop (J:) 1 (.ref it) (.ref D) X.env) he) f2 I2 mf L λs' σ' H' I' q=>wpAny_pure ⟨Y,σ',H',I',q⟩
 refine Al (wpAny_runOwn (h:=none) ?_);exact Zkj (loop _ Y) (T.self _ _ _ _ _ mf (loop _ Y))
end
def Zje (ts:List Str) (fv:List (Str × Nat)) (wi:TI) (g:TG) (tt:TT) (tb:Addr->TB):TE:=λσ H Q=>wi σ H λJ H1=>∀ D,H1 D=none ->
 W6 J g tt (tb D) (λ_ H'=>Q (.ref D) H') (blkS ts fv σ) (upd H1 D (.lst []))
section
variable {X:Cx} {ts:List Str} {fv:List (Str × Nat)} {scope:Scope} {m7 t0 i0:Expr} {f0:List Expr} {j6:List Comprehension} {pos:Pos} {wi:TI} {g:TG} {tt:TT} {tb:Addr->TB} {lw:Env->Addr->Addr->Sem Fin}
theorem Zdp (B:BlkOk X scope fv) (hc:X.calm=true) (hi:PI X t0 i0 wi)
  (hg:∀ C s₀ H₀ ex,PG (g:) t0 g) (ht:∀ C s₀ H₀ ex,PTs (g:) f0 tt)
  (rm:∀ (env:Env) (it D:Addr),compTurn (n:) 0 (.ref it) (.ref D) env=(standAt i0.pos >>= λ_=>pyNext (.ref it) >>= λr=>match r with
   | none=>pure (.done .next)
   | some v=>letOwnedTupleGo t0 (.ref it) v >>= λ_=>assign t0 env v >>= λ_ =>
    (m:) >>= λok =>
     if ok=true then lw env it D else again (.compLoop (n:) 0 (.ref it) (.ref D) env)))
  (hb:∀ C s₀ H₀ ex it D,PB (g:) (lw (g:).env it D) (.compLoop (n:) 0 (.ref it) (.ref D) (g:).env) (tb D)) {RR:Value->Addr->Result->Shared->Prop} (I:Inv X j4 σ H s) (h:Zje ts fv wi g tt tb σ H Q)
  (hRR:∀ D C s' H',Inv X j4 σ H' s'->H' C=none->X.s₀.heap.objs.size<=C->C≠X.env.locals->(∀ x c,X.env.cells.lookup x=some c->c≠C)->(∀ p∈X.pn ++ j4,p.1≠C)->(∃ m,s'.heap.Ns C m)->Q (.ref D) H'->RR (.ref D) C (.ok .next) s') :
  wpAny (d:) X.A (eval i0 X.env) (λx s₁=>wpAny (d:) X.A (pyIter x) (λit s₂=>wpAny (d:) X.A (newList []) (λj8 s₃ =>
   wpAny (d:) X.A (ev:) (λuq s₄ =>
    codeAny (d:) X.A (.compStart (n:) 0 it j8 { uq with scope:=relabel scope X.env }) (RR j8 uq.locals) s₄) X.xe s₃) X.xe s₂) X.xe s₁) X.xe s:=by
 refine thn (c7:) λv s1 h1=>thn h1 λzr s2 h2=>?_;obtain ⟨it,fp,tn,J,H2,e,I2,T,mf,f2,L⟩:=h2;subst e;have L:=L s2.heap.objs.size I2.fresh;refine wpAny_newObj_type ?_;have I3:Inv X j4 σ (bt:) { s2 with heap:=s2.heap.push { cls:=.type "list",data:=.seq ([]:List Value).toArray },toks:=s2.toks }:=I2.lnew (its:=[]) (t':=s2.toks) .nil (Az _);have yd:∀ b∈fp,∃ o,s2.heap.get? b=some o/\∀ v,o.data≠.cell v:=T.obj _ _ mf;have f3:∀ b∈fp,FpOk X j4 (bt:) b:=λb hb=>by
  obtain ⟨o,ho,_⟩:=yd b hb
  refine ⟨?_,(f2 b hb).2⟩
  rw [Ze (As (Ao ho))]
  exact (f2 b hb).1
 have o0:tn 0 (s2.heap.push { cls:=.type "list",data:=.seq ([]:List Value).toArray }):=T.keep _ _ _ mf λb _ o e=>Ak _ e;have yc:∀ b∈fp,∃ o,(s2.heap.push { cls:=.type "list",data:=.seq ([]:List Value).toArray }).get? b=some o:=λb hb=>let ⟨o,e,_⟩:=yd b hb; ⟨o,Ak _ e⟩
 generalize hs3:({ s2 with heap:=s2.heap.push { cls:=.type "list",data:=.seq ([]:List Value).toArray },toks:=s2.toks }:Shared)=s3 at I3;have eh:s2.heap.push { cls:=.type "list",data:=.seq ([]:List Value).toArray }=s3.heap:=by rw [<- hs3]
 rw [eh] at o0 yc;refine wpAny_newFunctionEnv B.nocell (by intro y hy; simp at hy) (λh₁ rj sk=>?_) B.kind;have hk:∀ b o,s3.heap.get? b=some o->h₁.get? b=some o:=λb o e=>sk.extBut b o (As (Ao e)) (Ak _ e);have I4:=Zds (ts:=ts) (tk:=s3.toks + ([]:List (Str × Value)).length) B I3 f3 yc rj hk;have f4:∀ b∈fp,FpOk (Yd X (U:) scope s3.heap.objs.size s3 (bt:) fp) [] (bt:) b:=λb hb=>by
  obtain ⟨f0,f1,f2',f3',f4',f5'⟩:=f3 b hb
  obtain ⟨o,eo⟩:=yc b hb
  exact (dj:)
 have xj:tn 0 h₁:=T.keep _ _ _ o0 λb _ o e=>hk b o e;have loop:codeAny (d:) X.A (.compLoop (n:) 0 (.ref it) (.ref s2.heap.objs.size) (Yd X (U:) scope s3.heap.objs.size s3 (bt:) fp).env)
   (RR (.ref s2.heap.objs.size) s3.heap.objs.size) { s3 with heap:=h₁,toks:=s3.toks + ([]:List (Str × Value)).length }:=by
  refine Gd (X:=Yd X (U:) scope s3.heap.objs.size s3 (bt:) fp) (tg:=t0) (ifs:=f0) (R:=λ_ H'=>Q (.ref s2.heap.objs.size) H') Y Y Y Y (rm _ it s2.heap.objs.size) T hc (hg _ _ _ _) (ht _ _ _ _) (hb _ _ _ _ it s2.heap.objs.size) f4 I4 xj L λs' σ' H' J' q=>?_
  obtain ⟨e1,e2,e3,e4,e5,e6⟩:=Zi5 I3 f3 (An _) J'
  obtain ⟨m,hm,_⟩:=J'.loc
  exact hRR _ _ s' H' e1 e2 e3 e4 e5 e6 ⟨m,hm⟩ q
 exact codeAny_compStart_list loop (T.self _ _ _ _ _ xj loop)
theorem Yn (B:BlkOk X scope fv) (hc:X.calm=true) (hi:PI X t0 i0 wi)
  (hg:∀ C s₀ H₀ ex,PG (g:) t0 g) (ht:∀ C s₀ H₀ ex,PTs (g:) f0 tt)
  (rm:∀ (env:Env) (it D:Addr),compTurn (n:) 0 (.ref it) (.ref D) env=(standAt i0.pos >>= λ_=>pyNext (.ref it) >>= λr=>match r with
   | none=>pure (.done .next)
   | some v=>letOwnedTupleGo t0 (.ref it) v >>= λ_=>assign t0 env v >>= λ_ =>
    (m:) >>= λok =>
     if ok=true then lw env it D else again (.compLoop (n:) 0 (.ref it) (.ref D) env)))
  (hb:∀ C s₀ H₀ ex it D,PB (g:) (lw (g:).env it D) (.compLoop (n:) 0 (.ref it) (.ref D) (g:).env) (tb D))
  (hs:∀ x,foldedSetIterable i0 X.env x=pure x:=by intro _; rfl) :
  PE X (n:) (Zje ts fv wi g tt tb):=by
 intro j4 s σ H Q I h;rw [eval_ListComp];refine wpAny_comprehension_free (use:=none) Y hs (Qt λy hy e=>I.ok.has y.1 (B.free y hy e)) B.kind B.names ?_;refine Zdp (RR:=λj8 C=>compPost (d:) X.A X.xe none (bz:) j8 C) B hc hi hg ht rm hb I h λD C s' H' I' e2 e3 e4 e5 e6 hm q=>?_;obtain ⟨m,hm⟩:=hm;exact ⟨m,hm,λh' xx=>⟨.ref D,H',I'.apart xx e2 e3 e4 e5 e6,Y,q⟩⟩
theorem Xm {ue:Pos} (B:BlkOk X scope fv) (hc:X.calm=true) (hN:X.N.Nodup) (hiy:X.N[i]?=some y) (hyl:X.env.scope.names.lookup y=some .local)
  (hsw:swapsWith (n:) (some (.Name y py)) ue.line X.env=pure true) (hi:PI X t0 i0 wi)
  (hg:∀ C s₀ H₀ ex,PG (g:) t0 g) (ht:∀ C s₀ H₀ ex,PTs (g:) f0 tt)
  (rm:∀ (env:Env) (it D:Addr),compTurn (n:) 0 (.ref it) (.ref D) env=(standAt i0.pos >>= λ_=>pyNext (.ref it) >>= λr=>match r with
   | none=>pure (.done .next)
   | some v=>letOwnedTupleGo t0 (.ref it) v >>= λ_=>assign t0 env v >>= λ_ =>
    (m:) >>= λok =>
     if ok=true then lw env it D else again (.compLoop (n:) 0 (.ref it) (.ref D) env)))
  (hb:∀ C s₀ H₀ ex it D,PB (g:) (lw (g:).env it D) (.compLoop (n:) 0 (.ref it) (.ref D) (g:).env) (tb D))
  (hs:∀ x,foldedSetIterable i0 X.env x=pure x:=by intro _; rfl) :
  PS X (.Assign [.Name y py] (n:) ue) (tAsg (Zje ts fv wi g tt tb) (Zm i)):=by
 intro j4 s σ H D0 I h;rw [exec_Assign_Name_used _ _ _ _ hsw];refine Al (wpAny_standAt (Al ?_));show wpAny _ X.A (do let _ <- comprehension (n:) scope X.env _ (newList []) false (eval i0 X.env) (some (assign (.Name y py) X.env))) _ _ s;refine Al (am:);refine Zdp (Q:=λx H1=>Zm i x σ H1 D0.nx) (RR:=λj8 C=>compPost (d:) X.A X.xe (some (assign (.Name y py) X.env)) (λ_ s'=>SP X j4 D0 .next s') j8 C) B hc hi hg ht rm hb I h λD C s' H' I' e2 e3 e4 e5 e6 hm q=>?_;obtain ⟨m,hm⟩:=hm;show wpAny _ X.A (assign (.Name y py) X.env (.ref D)) _ _ _;refine wpAny_assign_Name (Kb I' hN hiy (.inl hyl) (show RelV (.ref D) (.ref D) from Y) (λnk I'' p7=>?_) (.inr hyl));obtain ⟨a,sk,ha⟩:=p7;have haC:C≠a:=by
  rcases ha with e | e
  ·rw [e]; exact e4
  ·exact λz=>e5 y a e z.symm
 exact ⟨m,hm.sameBut sk haC,λh' xx=>⟨_,H',I''.apart xx e2 e3 e4 e5 e6,q⟩⟩
end
def FlyT (e T:Addr) (cls a0:Value) (h:Heap):Prop :=
 ∃ oe vs oT ts,h.get? e=some oe/\(oe.cls=cls/\vs[0]?=some a0)/\oe.data=.fields vs/\vs[1]?=some (.ref T)/\T≠e/\h.get? T=some oT/\oT.data=.fields ts/\ts[3]?=some .none
def CXr (P:Program) (w:World):CXT:=λouter H s E ev s' =>
 ∃ (e T:Addr) (cls a0:Value) (H':Hp),ev=.ref e/\s'.os=s.os/\AllBare s'.gens/\Un (frs outer) [] H H' s.heap s'.heap/\HOk P w H' s'.heap /\
  s.heap.get? e=none/\s.heap.get? T=none/\H' e=none/\H' T=none/\FlyT e T cls a0 s'.heap/\E cls none H'
def Yv {X:Cx}:Q2 (CXr X.prog X.w) X E0:=λ_ _ _ _ _ _ _ h=>by
 obtain ⟨_,_,_,_,_,_,_,_,_,_,_,_,_,_,_,z⟩:=h;exact z.elim
def Zq5 (h:CXr P w [] H s (λ_ _ _=>False) e s'):False:=by
 obtain ⟨_,_,_,_,_,_,_,_,_,_,_,_,_,_,_,z⟩:=h;exact z
section
variable {P:Program} {w:World} {K:W.Frag} {mg:Str->Option Value} {base:Heap}
def Fun.okR {x qual:Str} {st:Stmt} {f:Addr} {fd:FuncData} {N ps:List Str} {k:Nat} {sp:Sp} (F:Fun K x qual st f fd) (S:FnScope N ps (Zg st)) (len:∀ vs H Q E,sp vs H Q E->vs.length=ps.length)
  (lp:∀ (kj:Value) (A:Around) (outer:List Env) (s:Shared) (H:Hp) (vs:List V) (Q:VK) (E:XK),Room k (af:)->sp vs H Q E ->
   ∃ t,PSs (v:).nox (Yu st) t/\t { nx:=λ_ H'=>Q .non H',rt:=Q } (start N vs) H):(a:) (k + 1) f fd ps sp:=by
 obtain ⟨oc,od,kV,k6,pm,an,kj,ct,t7,rfl,lk,oy⟩:=F.ex;refine Zeh lk oy S len λA outer s H vs Q E hr mz=>?_;obtain ⟨t,h,q⟩:=lp kj A outer s H vs Q E hr mz;exact ⟨t,h.nox,q⟩
end
section
variable {X:Cx}
def Zh3:Y2 X (.builtin "isinstance") (λxs H Q=>∃ x T t b,xs=[x,.ty T]/\TyOf X.K H x t/\PySem.W.kitOne X.K t (.type T)=some b/\Q (.bl b) H):=by
 intro j4 s σ H xs us Q I r h;obtain ⟨x,T,t,b,rfl,hty,hk,q⟩:=h;obtain ⟨u,v,rfl,ru,rv⟩:=r.two;obtain rfl:v=Value.type T:=rv;exact Zmk I ru hty hk λtk=>⟨.bl b,H,I.tok _,Y,q⟩
def Zon {K:W.Frag} {T:String}:PySem.W.kitOne K (.type T) (.type T)=some true:=by
 unfold PySem.W.kitOne;rw [if_pos (by simp)]
def Z2 {X:Cx} {scope:Scope} (h:scope.names.all (λy=>y.2 != .free || X.env.kindOf y.1 == some .cell || X.env.kindOf y.1 == some .free)=true) :
  ∀ y∈scope.names,y.2=.free->X.env.kindOf y.1=some .cell\/X.env.kindOf y.1=some .free:=λy hy e=>by
 have:=all_eq_true.mp h y hy;simp [e] at this;exact this
end
def walk_r {l:PySem.W.OpenLaw} {k:Nat} {q:Program} {qy:List Str} {XP:(Str->Option Value)->Heap->Prop} {YP:World->Heap->Prop} {d:DefRec} {K:Params->PySem.W.Frag} {spl:PySem.W.Frag->Sp}
  (hn:l.most=some 63) (hdf:d.params.defaults=[]) (hr:Room k callerA) (hY:∀ (w:World) (h:Heap),YP w h->(K w.params).In h)
  (mz:∀ (K:W.Frag) (H:Hp) (a:Addr) (ns:List Int),ns.length<=63->SqL K H a (L:)->spl K [.ref a] H (λv _=>v=.bl true) λ_ _ _=>False)
  (F:∀ (w:World) (mg:Str->Option Value) (fa:Addr) (h:Heap),(K w.params).In h->h.Ns mainGlobals mg->mg d.name=some (.ref fa) ->
   ∃ fd:FuncData,(∀ (s:Shared) (u:Value),BindsTo s fd ⟨[u],[]⟩ [("_law_script",u)]) /\
    ∀ base:Heap,(K w.params).In base->base.Ns mainGlobals mg->FnOk l.prog w (K w.params) mg base (CXr l.prog w) k fa fd ["_law_script"] (spl (K w.params))) :
  PySem.W.WalkO q qy XP YP l.row.toRowW d [] (λf vs=>PySem.call f vs) :=
 Zpo (n:=63) (k:=k) (x:="_law_script") (CX:=λw=>CXr l.prog w) (sp:=λw=>spl (K w.params)) hn (c:) hdf hr hY F (λw H a ns hl _ hS=>mz _ H a ns hl hS) (λw H s e s' h=>Zq5 h)
def ExT (e:Addr) (T:Option Addr) (cls a0:Value) (h:Heap):Prop:=match T with
 | some T=>FlyT e T cls a0 h
 | none=>∃ oe vs,h.get? e=some oe/\(oe.cls=cls/\vs[0]?=some a0)/\oe.data=.fields vs/\vs[1]?=some .none
structure FxOk (X:Cx) (j4:List (p:)) (H:Hp) (b:Addr):Prop where
 nt:H b=none
 nl:b≠X.env.locals
 nf:b ∉ X.fs
 n0:X.s₀.heap.get? b=none
 nc:∀ x c,X.env.cells.lookup x=some c->c≠b
 np:∀ p∈X.pn ++ j4,p.1≠b
def XS (fr:Bool) (X:Cx) (j4:List (p:)) (R:Value->St->Hp->Prop) (ev:Value) (s':Shared):Prop :=
 ∃ (e:Addr) (T:Option Addr) (cls a0:Value) (σ':St) (H':Hp),ev=.ref e/\Inv X j4 σ' H' s'/\ExT e T cls a0 s'.heap/\FxOk X j4 H' e/\(∀ t,T=some t->FxOk X j4 H' t)/\(T=none->fr=true)/\R cls σ' H'
abbrev TSX:=Ends->(Value->St->Hp->Prop)->St->Hp->Prop
abbrev TEX:=St->Hp->VK->XK->Prop
def PSX (fr:Bool) (X:Cx) (st:Stmt) (t:TSX):Prop :=
 ∀ j4 s σ H (D:Ends) (R:Value->St->Hp->Prop),Inv X j4 σ H s->t D R σ H->wpAny (d:) X.A (exec st X.env) (SP X j4 D) (XS fr X j4 R) s
def PSsX (fr:Bool) (X:Cx) (st:List Stmt) (t:TSX):Prop :=
 ∀ j4 s σ H (D:Ends) (R:Value->St->Hp->Prop),Inv X j4 σ H s->t D R σ H->wpAny (d:) X.A (execs st X.env) (SP X j4 D) (XS fr X j4 R) s
def PEX (fr:Bool) (X:Cx) (e:Expr) (t:TEX):Prop :=
 ∀ j4 s σ H (Q:VK) (E:XK),Inv X j4 σ H s->t σ H Q E->wpAny (d:) X.A (eval e X.env) (bz:) (XS fr X j4 λcls σ' H'=>σ'=σ/\E cls none H') s
section
variable {X:Cx} {fr:Bool}
def Z1 {st:Stmt} {t:TS} (h:PS X st t) (hx:X.xe=(ci:):=by rfl):PSX fr X st (λD _ σ H=>t D σ H):=λj4 s σ H D R I q=>by
 have:=h j4 s σ H D I q;rw [hx] at this;exact wpAny_mono this (λ_ _ z=>z) λ_ _ z=>z.elim
def Zqd {st:List Stmt} {t:TS} (h:PSs X st t) (hx:X.xe=(ci:):=by rfl):PSsX fr X st (λD _ σ H=>t D σ H):=λj4 s σ H D R I q=>by
 have:=h j4 s σ H D I q;rw [hx] at this;exact wpAny_mono this (λ_ _ z=>z) λ_ _ z=>z.elim
def Zjc (t u:TSX):TSX:=λD R σ H=>t { D with nx:=u D R } R σ H
def Zp {st:Stmt} {j6:List Stmt} {t u:TSX} (h1:PSX fr X st t) (h2:PSsX fr X j6 u):PSsX fr X (st :: j6) (Zjc t u):=by
 intro j4 s σ H D R I h;refine wpAny_execs_cons (thn (h1 j4 s σ H { D with nx:=u D R } R I h) λf s1 q=>?_)
 cases f with
 | next =>
  obtain ⟨σ',H',I',q⟩:=q;exact h2 j4 s1 σ' H' D R I' q
 | ret v=>exact q
 | brk=>exact q
 | cont=>exact q
def Zr {st:Stmt} {t:TSX} (h1:PSX fr X st t):PSsX fr X [st] t:=by
 intro j4 s σ H D R I h;refine wpAny_execs_cons (thn (h1 j4 s σ H D R I h) λf s1 q=>?_)
 cases f with
 | next=>exact wpAny_execs_nil q
 | ret v=>exact q
 | brk=>exact q
 | cont=>exact q
def Yy:PSsX fr X [] (λD _ σ H=>D.nx σ H):=λ_ _ σ H _ _ I h=>wpAny_execs_nil ⟨σ,H,I,h⟩
def kIfX (t u:TSX) (D:Ends) (R:Value->St->Hp->Prop) (σ:St) (b:Bool) (H:Hp):Prop:=if b=true then t D R σ H else u D R σ H
def tIfX (c:TT) (t u:TSX):TSX:=λD R σ H=>c σ H (kIfX t u D R σ)
def Y9 (hc:PT X c tc) (ha:PSsX fr X a t) (hb:PSsX fr X b u) (hx:X.xe=(ci:):=by rfl):PSX fr X (.If c a b pos) (tIfX tc t u):=by
 intro j4 s σ H D R I h;have h0:=hc j4 s σ H _ I h;rw [hx] at h0;refine wpAny_If (wpAny_mono h0 (λd s1 zz29=>?_) λ_ _ z=>z.elim);obtain ⟨H1,I1,q1⟩:=zz29
 cases d with
 | true=>exact ha j4 s1 σ H1 D R I1 q1
 | false=>exact hb j4 s1 σ H1 D R I1 q1
def kR (R:Value->St->Hp->Prop) (σ:St) (cls:Value) (_:Option Addr) (H:Hp):Prop:=R cls σ H
def Zrm (te:TEX):TSX:=λD R σ H=>te σ H (Zpj σ D.nx) (kR R σ)
def Yt {pos:Pos} (he:PEX fr X e te) (hs:swapsWith e none pos.line X.env=pure false:=by rfl):PSX fr X (.Expr e pos) (Zrm te):=by
 intro j4 s σ H D R I h;refine wpAny_Expr_any (wpAny_mono (he j4 s σ H _ _ I h) (λv s1 ⟨x,H1,I1,r1,q1⟩=>⟨σ,H1,I1,q1⟩) ?_) I.quiet hs;rintro ev s1 ⟨e,T,cls,a0,σ',H',h1,h2,h3,h4,h5,h7,rfl,h6⟩;exact ⟨e,T,cls,a0,σ',H',h1,h2,h3,h4,h5,h7,h6⟩
def Ztb (i:Nat) (te:TEX):TSX:=λD R σ H=>te σ H (kAsg (Zm i) σ D.nx) (kR R σ)
def Qf {pos:Pos} (hN:X.N.Nodup) (hi:X.N[i]?=some x) (hx:Loc X.env.scope x) (he:PEX fr X e te) (hs:swapsWith e (some (.Name x ml)) pos.line X.env=pure false:=by rfl)
  (hf:X.fn x=true\/X.env.scope.names.lookup x=some .local:=by first | exact .inl rfl | exact .inr rfl | assumption):PSX fr X (.Assign [.Name x ml] e pos) (Ztb i te):=by
 intro j4 s σ H D R I h;refine wpAny_Assign_Name (wpAny_mono (he j4 s σ H _ _ I h) (λv s1 ⟨y,H1,I1,r1,q1⟩=>?_) ?_) hs
 ·exact Qb I1 hN hi hx r1 (λs2 I2=>⟨_,H1,I2,q1⟩) hf
 ·rintro ev s1 ⟨e,T,cls,a0,σ',H',h1,h2,h3,h4,h5,h7,rfl,h6⟩
  exact ⟨e,T,cls,a0,σ',H',h1,h2,h3,h4,h5,h7,h6⟩
def Inv.cxr (I:Inv X j4 σ H s) (hex:X.ex=[]) (h:CXr X.prog X.w X.stack H s E ev s'):XS fr X j4 (λcls σ' H'=>σ'=σ/\E cls none H') ev s':=by
 obtain ⟨e,T,cls,a0,H',rfl,os,bare,un,hok,ne,nT,he,hT,fl,q⟩:=h;have I':Inv X j4 σ H' s':=I.call' os un hok bare λb hb=>absurd hb (by simp)
 have fx:∀ b,s.heap.get? b=none->H' b=none->FxOk X j4 H' b:=λb hb hn=>by
  refine ⟨hn,λz=>?_,λz=>?_,?_,λx c e z=>?_,λp hp z=>?_⟩
  ·obtain ⟨m,⟨o,_,_,ho,_⟩,_⟩:=I.loc
   rw [z,ho] at hb; cases hb
  ·obtain ⟨_,o,ho,_⟩:=I.funs.mem z
   rw [ho] at hb; cases hb
  ·cases q:X.s₀.heap.get? b with
   | none=>rfl
   | some o =>
    obtain ⟨o',e'⟩:=I.base.there b o q (by rw [hex]; simp);rw [hb] at e'; cases e'
  ·obtain ⟨v,o,ho,_⟩:=I.cell x c e
   rw [z,hb] at ho; cases ho
  ·have:=(I.pin p hp).1
   rw [z,hb] at this; cases this
 exact ⟨e,some T,cls,a0,σ,H',rfl,I',fl,fx e ne he,λt ht=>by cases ht; exact fx T nT hT,(N:),Y,q⟩
variable {k:Nat} {f C:Addr} {fd:FuncData} {ps:List Str} {sp:Sp} {k7:List V} {ds:List Value} {x m:Str} {p pos kf:Pos} {e o:Expr} {es:List Expr} {ta:TE} {t:TA}
def Zce (F:FnOk X.prog X.w X.K X.mg X.base (CXr X.prog X.w) k f fd ps sp) (hr:Room k X.A) (hb:Wg X.K fd ps ds) (hd:Vals k7 ds) (hex:X.ex=[])
  (I:Inv X j4 σ H s) (r:Vals vs us) (h:sp (vs ++ k7) H Q E):wpAny (d:) X.A (call (.ref f) us) (bz:) (XS fr X j4 λcls σ' H'=>σ'=σ/\E cls none H') s:=by
 have r2:Vals (vs ++ k7) (us ++ ds):=r.append hd;have hl:(us ++ ds).length=ps.length:=by rw [<- r2.length]; exact F.len _ _ _ _ h
 refine wpAny_call (da:)
 cases r with
 | error e=>exact I.cxr hex hq
 | ok fl =>
  cases fl with
  | ret u=>exact I.after hq
  | next=>exact False.elim hq
  | brk=>exact False.elim hq
  | cont=>exact False.elim hq
def Zk0 (sp:Sp) (k7:List V) (t:TA):TEX:=λσ H Q E=>t σ H (Zpk sp k7 Q E)
def Zn6 (F:FnOk X.prog X.w X.K X.mg X.base (CXr X.prog X.w) k f fd ps sp) (hr:Room k X.A) (hg:Gl X x) (hm:X.mg x=some (.ref f)) (hk:PySem.W.keepIn X.K (.ref f)=true) (hb:Wg X.K fd ps ds) (hd:Vals k7 ds)
  (ha:PA X (e :: es) t) (hex:X.ex=[]:=by rfl) (hx:X.xe=(ci:):=by rfl) (ny:(H:)=false:=by decide) (he:starEach (e :: es) X.env=(I:) :: starEach es X.env:=by rfl) (lg:(z:).any (·.1)=false:=by rfl) :
  PEX fr X (V:) (Zk0 sp k7 t):=by
 intro j4 s σ H Q E I h;have h0:=ha pos j4 s σ H _ I h;rw [hx] at h0;refine wpAny_Call_Name_kw (Vj I hg hm ?_ ny);refine PySem.W.callWith_K (h₀:=X.base) I.ok.mod.kin hk (wpAny_mono h0 (λus s1 zz30=>?_) λ_ _ z=>z.elim) he lg;obtain ⟨vs,H1,I1,r,q⟩:=zz30;refine ⟨I1.kIn,?_⟩;exact Zce F hr hb hd hex I1 r q
def Zrl (C:Addr) (m:Str) (sp:Sp) (k7:List V) (ta:TE) (t:TA):TEX:=λσ H Q E=>ta σ H (Ow C m t σ (Zpi sp k7 Q E))
def Wj (he:PE X o ta) (c:Cls X.K C) (hm:Meth X.K C m f) (F:FnOk X.prog X.w X.K X.mg X.base (CXr X.prog X.w) k f fd ps sp) (hr:Room k X.A) (hb:Wg X.K fd ps ds) (hd:Vals k7 ds) (ha:PA X (e :: es) t)
  (hex:X.ex=[]:=by rfl) (hx:X.xe=(ci:):=by rfl) (mh:starEach (e :: es) X.env=(I:) :: starEach es X.env:=by rfl) (lg:(z:).any (·.1)=false:=by rfl)
  (ht:eval (dh:) X.env=(do
   let ov <- eval o X.env
   standAt kf.atName
   let (f,first) <- holding [ov] (getMethod ov m pl)
   callWith pos f first (backTo pos (starEach (e :: es) X.env)) (backToKw pos (bx:))):=by rfl) :
  PEX fr X (dh:) (Zrl C m sp k7 ta t):=by
 intro j4 s σ H Q E I h;have h0:=he j4 s σ H _ I h;rw [hx] at h0;refine PySem.W.methodCall_KW (pl:=pl) (wpAny_mono h0 (λu s1 zz31=>?_) λ_ _ z=>z.elim) ht;obtain ⟨x,H1,I1,rx,qq⟩:=zz31;obtain ⟨a,dx,fs,ex,ea,l,q⟩:=Ow.ex qq;subst ex;obtain rfl:u=Value.ref a:=rx;refine Vd I1 ea c hm l ?_;have h1:=ha pos j4 s1 σ H1 _ I1 q;rw [hx] at h1;refine PySem.W.callWith_K (first:=[.ref a]) (h₀:=X.base) I.ok.mod.kin hm.kp (wpAny_mono h1 (λus s2 zz32=>?_) λ_ _ z=>z.elim) mh lg;obtain ⟨vs,H2,I2,r,q2⟩:=zz32;refine ⟨I2.kIn,?_⟩;exact Zce (us:=.ref a :: us) (vs:=.ref a :: vs) F hr hb hd hex I2 (.cons Y r) q2
end
theorem Yl.there {h:Heap}:∀ {o:HO},Yl P w H h a o->∃ ob,h.get? a=some ob
 | .lst _,x=>by obtain ⟨_,_,_,_,e⟩:=x; exact ⟨_,e⟩
 | .tup _,x=>by obtain ⟨_,_,_,ob,e,_⟩:=x; exact ⟨_,e⟩
 | .dK _,x=>by obtain ⟨_,_,_,_,o,_,_,e,_⟩:=x; exact ⟨_,e⟩
 | .dT _,x=>by obtain ⟨_,_,_,_,o,_,_,e,_⟩:=x; exact ⟨_,e⟩
 | .set _ _,x=>by obtain ⟨o,_,_,_,e,_⟩:=x; exact ⟨_,e⟩
 | .ins _ _ _,x=>by obtain ⟨_,_,_,e,_⟩:=x; exact ⟨_,e⟩
 | .own _,x=>by obtain ⟨_,e⟩:=x; exact ⟨_,e⟩
 | .xd _,x=>by obtain ⟨_,⟨_,_,_,e,_⟩,_⟩:=x; exact ⟨_,e⟩
 | .rng _ _,x=>by obtain ⟨_,_,_,e⟩:=x; exact ⟨_,e⟩
 | .frz _ _,x=>by obtain ⟨e,_⟩:=x; exact ⟨_,e⟩
 | .tbl _,x=>⟨_,(show h.get? a=some _ from x)⟩
 | .met _ _,x=>⟨_,(show h.get? a=some _ from x)⟩
 | .ext _,x=>by obtain ⟨_,⟨_,e⟩,_⟩:=x; exact ⟨_,e⟩
section
variable {X:Cx} {j4:List (p:)} {σ:St} {H:Hp} {s:Shared}
def Inv.untr (I:Inv X j4 σ H s) (hb:s.heap.get? b=none):H b=none:=by
 cases q:H b with
 | none=>rfl
 | some o =>
  obtain ⟨ob,e⟩:=(I.hok b o q).there;rw [hb] at e; cases e
def Inv.fxOk (I:Inv X j4 σ H s) (hex:X.ex=[]) (hb:s.heap.get? b=none):FxOk X j4 H b:=by
 refine ⟨I.untr hb,λz=>?_,λz=>?_,?_,λx c e z=>?_,λp hp z=>?_⟩
 ·obtain ⟨m,⟨o,_,_,ho,_⟩,_⟩:=I.loc
  rw [z,ho] at hb; cases hb
 ·obtain ⟨_,o,ho,_⟩:=I.funs.mem z
  rw [ho] at hb; cases hb
 ·cases q:X.s₀.heap.get? b with
  | none=>rfl
  | some o =>
   obtain ⟨o',e'⟩:=I.base.there b o q (by rw [hex]; simp);rw [hb] at e'; cases e'
 ·obtain ⟨v,o,ho,_⟩:=I.cell x c e
  rw [z,hb] at ho; cases ho
 ·have:=(I.pin p hp).1
  rw [z,hb] at this; cases this
end
structure ExcK (K:W.Frag) (C:Addr) (bmB:List Value) (pw:String):Prop where
 q:PySem.W.excIn K C bmB pw=true
def Zq1 {K:W.Frag} {h:Heap} (X:K.In h) (q:PySem.W.excIn K C bmB pw=true) :
  ∃ bm N nm q bs hdct sn sub ab col dd k0 k1 k2 k3 k5 mN,h.get? C=some (excClassObj nm q C N bs bm hdct sn sub ab col dd k0 k1 k2 k3 k5 pw)/\h.Ns N mN/\mN "__init__"=none/\OwnTail h bmB bm:=by
 unfold PySem.W.excIn at q;split at q
 ·rename_i dd cd sl ho
  split at q
  ·rename_i C' bm k0 k1 k2 k3 n k5 hm hs
   simp only [Bool.and_eq_true,beq_iff_eq,Bool.not_eq_true'] at q;obtain ⟨⟨⟨⟨⟨rfl,rfl⟩,hdel⟩,ht⟩,hok⟩,hni⟩:=q;obtain ⟨nm,bs,mro,ns,qn,hd,sn,sub,ab,col,del⟩:=cd;dsimp only at hm hdel hok hni;subst hm hdel;have zy:sl=#[k0,k1,k2,k3,some (.builtin n),k5]:=by
    obtain ⟨l⟩:=sl
    simp only at hs
    rw [hs]
   subst zy;exact ⟨bm,ns,nm,qn,bs,hd,sn,sub,ab,col,dd,k0,k1,k2,k3,k5,_,X _ _ ho,.of_isNs (PySem.W.isNs_of_in X hok),PySem.W.nsMap_none_of_in X hok hni,PySem.W.tail_of_in X ht⟩
  ·cases q
 ·cases q
section
variable {X:Cx}
def Zrk (C:Addr) (t:TA):TSX:=λ_ R σ H=>t σ H λvs H1=>vs.length<=1000/\R (.ref C) σ H1
def Yo (K:ExcK X.K C bmB pw) (FB:ExcBaseFacts B pw initId bmB) (hg:Gl X x) (hm:X.mg x=some (.ref C)) (hc:X.calm=true) (ha:PA X (e :: es) t)
  (hex:X.ex=[]:=by rfl) (hx:X.xe=(ci:):=by rfl) (ny:(H:)=false:=by decide) (he:starEach (e :: es) X.env=(I:) :: starEach es X.env:=by rfl) (lg:(d3:).any (·.1)=false:=by rfl) :
  PSX true X (.Raise (some (.Call (.Name x np) (e :: es) [] kd)) none pos) (Zrk C t):=by
 intro j4 s σ H D R I h;obtain ⟨tl,N,nm,q,bs,hdct,sn,sub,ab,col,dd,k0,k1,k2,k3,k5,mN,hC,hN,hni,T⟩:=Zq1 I.ok.mod.kin K.q;refine wpAny_Raise_call_subT (C:=C) (nm:=nm) (q:=q) (N:=N) (bs:=bs) (bm:=tl) (hdct:=hdct) (sn:=sn) (sub:=sub) (ab:=ab) (col:=col) (dd:=dd) (k0:=k0) (k1:=k1) (k2:=k2) (k3:=k3) (k5:=k5)
  FB (mN:=mN) (T.hasType FB.hasBase) (ce:) (by rw [he]; show (false || (d3:).any (·.1))=false; rw [lg]; rfl) hni (Vj I hg hm ⟨rfl,?_⟩ ny)
 have h0:=ha kd j4 s σ H _ I h;rw [hx] at h0;rw [he] at h0 ⊢;refine Calls.evalArgs_plain (wpAny_mono h0 (λus s₂ zz33=>?_) λ_ _ z=>z.elim);obtain ⟨vs,H1,I1,r1,hl,q1⟩:=zz33;have kb:=I1.bk;refine ⟨Y,?_,kb _ _ hC,hN.keeps kb,T.keeps kb,λh' ea vo=>?_⟩
 ·rw [<- r1.length]
  exact Nat.le_of_lt (Zo hl)
 obtain ⟨tt,h1,h2,h3⟩:=vo.there;have I2:Inv X j4 σ H1 { s₂ with heap:=h' }:=I1.kept (t':=s₂.toks) vo.keeps;have fx:=I1.fxOk hex vo.new;exact ⟨ea,none,.ref C,.ref tt,σ,H1,Y,I2,⟨_,_,h1,⟨Y,Y⟩,Y,Y⟩,⟨fx.nt,fx.nl,fx.nf,fx.n0,fx.nc,fx.np⟩,(λt z=>nomatch z),(λ_=>rfl),q1⟩
def Un.leave {h₀ h h':Heap} (u:Un fs [] H₀ H h₀ h) (hk:∀ b o,h₀.get? b=some o->b ∉ fs->h.get? b=some o->h'.get? b=some o)
  (hs:∀ b o,b∈fs->h.get? b=some o->∃ sl,h'.get? b=some { o with slots:=sl }) (ht:∀ b o,h₀.get? b=some o->∀ o',h.get? b=some o'->∃ o'',h'.get? b=some o''):Un fs [] H₀ H h₀ h' where
 keep:=λb o e n hb hx=>hk b o e hb (u.keep b o e n hb hx)
 slot:=λb o e n hb hx=>by
  obtain ⟨sl,e1⟩:=u.slot b o e n hb hx;obtain ⟨sl',e2⟩:=hs b _ hb e1;exact ⟨sl',e2⟩
 free:=u.free
 there:=λb o e hx=>by
  obtain ⟨o',e1⟩:=u.there b o e hx;exact ht b o e o' e1
 tups:=u.tups
 frzs:=u.frzs
 tbls:=u.tbls
def Qo {X:Cx} {s:Shared} (I:Inv X j4 σ H s) (as:List Addr) (hs:∀ b∈frs X.stack,b∈as):s.heap.FunFrames (PySem.W.hideAll s.heap as) X.stack:=by
 have all:∀ (l:List Env),(∀ b∈frs l,b∈as)->s.heap.FunFrames X.base l->s.heap.FunFrames (PySem.W.hideAll s.heap as) l:=by
  intro l
  induction l with
  | nil=>intro _ _; trivial
  | cons env r ih =>
   intro hs hl;obtain ⟨hk,⟨L,o,hf,hn,ho,hd⟩,hr⟩:=hl;have hL:L∈as:=hs L (by unfold frs; rw [filterMap_cons,hf]; exact mem_cons_self);exact ⟨hk,⟨L,o,hf,PySem.W.hideAll_none as hL,ho,hd⟩,ih (λb hb=>hs b (by unfold frs; rw [filterMap_cons,hf]; exact mem_cons_of_mem _ hb)) hr⟩
 exact all X.stack hs I.stack
def Inv.fnd {X:Cx} {s:Shared} (I:Inv X j4 σ H s) (hb:b∈frs X.stack) {o:Obj} (e:s.heap.get? b=some o):∀ vs,o.data≠.fields vs:=by
 obtain ⟨_,o',e',d⟩:=I.stack.mem hb;rw [e] at e'; cases e';exact d
end
def FxOk.none {X:Cx} {j4:List (p:)} {H:Hp} {b:Addr} (h:FxOk X j4 H b):FxOk X [] H b:=⟨h.nt,h.nl,h.nf,h.n0,h.nc,λp hp=>h.np p (by rw [append_nil] at hp; exact mem_append_left _ hp)⟩
section
variable {P:Program} {w:World} {K:W.Frag} {mg:Str->Option Value} {base:Heap}
def Zaf (h:XS fr (al:).nox [] (bc:) ev s'):(al:).xe ev s':=by
 obtain ⟨e,T,cls,a0,σ',H',rfl,I,hx,fe,fT,_,q⟩:=h;show wpAny (W:) (A.deeper (F:)) (leaving (F:) (.ref e)) (λ_ nk=>CXr P w outer H s E (.ref e) nk) (λe' nk=>CXr P w outer H s E e' nk) s';have mh:(al:).nox.stack=envOfC qual scope s.heap.objs.size f cd :: outer:=rfl;have wy:(A.deeper (F:)).frames=some (f:):=I.ok.frames
 have n0:∀ b,b∈e :: T.toList->s.heap.get? b=none:=λb hb=>by
  rcases Ar hb with z | z
  ·rw [z]; exact fe.n0
  ·cases T with
   | none=>simp at z
   | some t =>
    have:b=t:=by simpa using z
    rw [this]; exact (fT t Y).n0
 have nt:∀ b,b∈e :: T.toList->H' b=none:=λb hb=>by
  rcases Ar hb with z | z
  ·rw [z]; exact fe.nt
  ·cases T with
   | none=>simp at z
   | some t =>
    have:b=t:=by simpa using z
    rw [this]; exact (fT t Y).nt
 have hB:∀ b o,b ∉ e :: T.toList->b ∉ frs (f:)->s'.heap.get? b=some o->(ay:).get? b=some o:=λb o h1 h2 e1 =>
  PySem.W.hideAll_get _ e1 λz=>(mem_append.mp z).elim h1 h2
 have hl:s'.heap.FunFrames (ay:) (f:):=Qo I _ λb hb=>mem_append_right _ hb;have yf:(ay:).StaysIn s'.heap:=λb o e1=>PySem.W.of_hideAll _ e1;have hen:(ay:).get? e=none:=PySem.W.hideAll_none _ (mem_append_left _ mem_cons_self)
 have km:∀ h',Heap.LeftW (ay:) (f:) e cls a0 s'.heap h'->CXr P w outer H s E (.ref e) { s' with heap:=h' }:=λh' ⟨k1,k2,k3,k4⟩=>by
  obtain ⟨oe,vs,T',oT,ts,x1,x2,x3,x4,x5,x6,x7,x8,x9⟩:=k3;have oh:∀ b o,b∈frs (f:)->s'.heap.get? b=some o->∃ sl,h'.get? b=some { o with slots:=sl }:=λb o hb e1=>k4 b o e1 (I.fnd hb e1);have kept:∀ b o,b ∉ e :: T.toList->b ∉ frs (f:)->s'.heap.get? b=some o->h'.get? b=some o:=λb o h1 h2 e1=>k1 b o (hB b o h1 h2 e1);have nL:∀ b o,s.heap.get? b=some o->b ∉ frs outer->b ∉ frs (f:):=λb o e1 h2 z=>by
   have z':b∈s.heap.objs.size :: frs outer:=z
   rcases Ar z' with z1 | z1
   ·rw [z1] at e1; exact absurd (Ao e1) (b9:)
   ·exact h2 z1
  have nE:∀ b o,s.heap.get? b=some o->b ∉ e :: T.toList:=λb o e1 z=>by rw [n0 b z] at e1; cases e1
  have rc:∀ b u,H' b=some u->∀ o,s'.heap.get? b=some o->h'.get? b=some o:=λb u hu o e1=>by
   refine kept b o (λz=>by rw [nt b z] at hu; cases hu) (λz=>?_) e1;rw [I.stkFree b z] at hu; cases hu
  have hT':s.heap.get? T'=none/\H' T'=none:=by
   by_cases hz:s'.heap.get? T'=none
   ·refine ⟨?_,I.untr hz⟩
    cases q':s.heap.get? T' with
    | none=>rfl
    | some o =>
     obtain ⟨o',e'⟩:=I.base.there T' o q' (by simp [cxOf]);rw [hz] at e'; cases e'
   ·obtain ⟨o,ho⟩:=Option.ne_none_iff_exists'.mp hz
    by_cases h1:T'∈e :: T.toList
    ·exact ⟨n0 T' h1,nt T' h1⟩
    ·by_cases h2:T'∈frs (envOfC qual scope s.heap.objs.size f cd :: outer)
     ·exfalso
      obtain ⟨sl,e'⟩:=oh T' o h2 ho;rw [x7] at e';cases e';exact I.fnd h2 ho ts x8
     ·rw [hB T' o h1 h2 ho] at x5; cases x5
  refine (dp:)
  ·refine Un.leave I.base (λb o e1 h1 e2=>kept b o (nE b o e1) (nL b o e1 h1) e2) (λb o hb e1=>oh b o (mem_cons_of_mem _ hb) e1) λb o e1 o' e2=>?_
   by_cases h2:b∈frs outer
   ·obtain ⟨sl,e'⟩:=oh b o' (mem_cons_of_mem _ h2) e2
    exact ⟨_,e'⟩
   ·exact ⟨o',kept b o' (nE b o e1) (nL b o e1 h2) e2⟩
  ·refine (I.hok b u hu).stay (λc v hc e1=>?_) (λ_ z=>z) λ_ _ z=>z
   rcases hc with z | z
   ·exact rc c u (by rw [z]; exact hu) v e1
   ·exact rc c _ z v e1
 cases T with
 | none =>
  obtain ⟨oe,vs,x1,x2,x3,x4⟩:=hx;obtain ⟨x21,x22⟩:=x2;subst x21;exact wpAny_leaving_firstW wy hl Y x1 yf hen x3 x4 x22 km
 | some t =>
  obtain ⟨oe,vs,oT,ts,x1,x2,x3,x4,x5,x6,x7,x8⟩:=hx;exact wpAny_leaving_nextW wy hl Y ⟨oe,vs,t,oT,ts,x1,x2,x3,x4,PySem.W.hideAll_none _ (mem_append_left _ (by simp)),x5,x6,x7,x8⟩ yf hen km
def Fun.okX {x qual:Str} {st:Stmt} {f:Addr} {fd:FuncData} {N ps:List Str} {k:Nat} {sp:Sp} (F:Fun K x qual st f fd) (S:FnScope N ps (Zg st)) (len:∀ vs H Q E,sp vs H Q E->vs.length=ps.length)
  (lp:∀ (kj:Value) (A:Around) (outer:List Env) (s:Shared) (H:Hp) (vs:List V) (Q:VK) (E:XK),Room k (af:)->sp vs H Q E ->
   ∃ t,PSsX true (v:).nox (Yu st) t/\t { nx:=λ_ H'=>Q .non H',rt:=Q } (bc:) (start N vs) H):(a:) (k + 1) f fd ps sp:=by
 obtain ⟨oc,od,kV,k6,pm,an,kj,ct,t7,rfl,lk,oy⟩:=F.ex;refine Zeh lk oy S len λA outer s H vs Q E hr mz=>?_;obtain ⟨t,h,q⟩:=lp kj A outer s H vs Q E hr mz;refine (bv:);refine wpAny_mono (h j4 s' σ' H' D _ (I.wish _) hD) (λ_ _ z=>z.unwish) λev nk z=>Zaf (fr:=true) ?_;obtain ⟨e,T,cls,a0,σ2,H2,h1,h2,h3,h4,h5,h7,h6⟩:=z;exact (ax:)
end
section
variable {X:Cx}
def Inv.exc {j4:List (p:)} {σ:St} {H:Hp} {s:Shared} {e T:Addr} {h':Heap} (I:Inv X j4 σ H s) (hex:X.ex=[]) (fe:FxOk X j4 H e) (fT:FxOk X j4 H T)
  (keep:∀ b o,b≠e->b≠T->b ∉ frs X.stack->s.heap.get? b=some o->h'.get? b=some o) (slot:∀ b o,b∈frs X.stack->s.heap.get? b=some o->∃ sl,h'.get? b=some { o with slots:=sl }):Inv X j4 σ H { s with heap:=h' }:=by
 have fss:∀ b∈X.fs,b∈frs X.stack:=λb hb=>by
  rcases I.ok.stk with z | ⟨z,hf⟩
  ·rw [z]; exact hb
  ·rw [z]; unfold frs; rw [filterMap_cons,hf]; exact mem_cons_of_mem _ hb
 have data:∀ b o,b≠e->b≠T->s.heap.get? b=some o->∃ sl,h'.get? b=some { o with slots:=sl }:=λb o h1 h2 e1=>by
  by_cases hb:b∈frs X.stack
  ·exact slot b o hb e1
  ·exact ⟨o.slots,keep b o h1 h2 hb e1⟩
 have ne0:∀ b o,X.s₀.heap.get? b=some o->b≠e/\b≠T:=λb o e1=>⟨λz=>(by rw [z,fe.n0] at e1; cases e1),λz=>(by rw [z,fT.n0] at e1; cases e1)⟩;have p4:∀ x c,X.env.cells.lookup x=some c->∀ v,s.heap.IsCell c v->h'.IsCell c v:=λx c ec v ⟨o,ho,hd⟩=>by
  obtain ⟨sl,e1⟩:=data c o (fe.nc x c ec) (fT.nc x c ec) ho
  exact ⟨_,e1,hd⟩
 refine ⟨I.ok,I.os,I.bare,⟨λb o e0 n hb hx=>?_,λb o e0 n hb hx=>?_,I.base.free,λb o e0 hx=>?_,I.base.tups,I.base.frzs,I.base.tbls⟩,?_,λx c ec=>?_,I.free,I.freeC,λp hp=>?_,λb u hu=>?_,I.len⟩
 ·obtain ⟨n1,n2⟩:=ne0 b o e0
  refine keep b o n1 n2 (λz=>?_) (I.base.keep b o e0 n hb hx)
  rcases Ar (I.stkSub b z) with z1 | z1
  ·rw [z1] at e0; exact absurd (Ag (Ao e0) I.ok.above) (b9:)
  ·exact hb z1
 ·obtain ⟨sl,e1⟩:=I.base.slot b o e0 n hb hx
  obtain ⟨sl',e2⟩:=slot b _ (fss b hb) e1;exact ⟨sl',e2⟩
 ·obtain ⟨n1,n2⟩:=ne0 b o e0
  obtain ⟨o',e1⟩:=I.base.there b o e0 hx;obtain ⟨sl,e2⟩:=data b o' n1 n2 e1;exact ⟨_,e2⟩
 ·obtain ⟨m,hn,hl⟩:=I.loc
  refine ⟨m,?_,λi x v e1 e2 e3=>?_⟩
  ·obtain ⟨o,es,ep,ho,hd,r⟩:=hn
   obtain ⟨sl,e1⟩:=data _ o (Ne.symm fe.nl) (Ne.symm fT.nl) ho;exact ⟨_,es,ep,e1,hd,r⟩
  ·obtain ⟨u,r,l⟩:=hl i x v e1 e2 e3
   refine ⟨u,r,?_⟩
   rcases l with l | ⟨k,c,ec,z⟩
   ·exact .inl l
   ·exact .inr ⟨k,c,ec,p4 x c ec _ z⟩
 ·obtain ⟨v,z⟩:=I.cell x c ec
  exact ⟨v,p4 x c ec v z⟩
 ·obtain ⟨e1,n,ne,nf,d⟩:=I.pin p hp
  refine ⟨keep p.1 p.2 (fe.np p hp) (fT.np p hp) (λz=>?_) e1,n,ne,nf,d⟩
  rcases Ar (I.stkSub p.1 z) with z1 | z1
  ·exact ne z1
  ·exact nf z1
 ·have rc:∀ b u,H b=some u->∀ o,s.heap.get? b=some o->h'.get? b=some o:=λb u hu o e1=>by
   refine keep b o (λz=>by rw [z,fe.nt] at hu; cases hu) (λz=>by rw [z,fT.nt] at hu; cases hu) (λz=>?_) e1;rw [I.stkFree b z] at hu; cases hu
  refine (I.hok b u hu).stay (λc v hc e1=>?_) (λ_ z=>z) λ_ _ z=>z
  rcases hc with z | z
  ·exact rc c u (by rw [z]; exact hu) v e1
  ·exact rc c _ z v e1
noncomputable def Gs (X:Cx) (e:Addr):Cx:={ X with A:=X.A.mark (some (.ref e)),calm:=false }
def Inv.hnd {j4:List (p:)} {σ:St} {H:Hp} {s:Shared} (I:Inv X j4 σ H s) (e:Addr):Inv (Gs X e) j4 σ H s :=
 ⟨⟨I.ok.mod,I.ok.kind,I.ok.glob,I.ok.blt,I.ok.above,I.ok.inj,I.ok.has,I.ok.cab,λh=>absurd (show false=true from h) Bool.false_ne_true,I.ok.frames,I.ok.stk,I.ok.exf,I.ok.bs,I.ok.bsz,I.ok.noex,I.ok.exfs,I.ok.funs,I.ok.frf⟩,
  I.os,I.bare,I.base,I.loc,I.cell,I.free,I.freeC,I.pin,I.hok,I.len⟩
def Inv.unhnd {j4:List (p:)} {σ:St} {H:Hp} {s:Shared} {e:Addr} (I:Inv (Gs X e) j4 σ H s) (ok:X.Ok):Inv X j4 σ H s :=
 ⟨ok,I.os,I.bare,I.base,I.loc,I.cell,I.free,I.freeC,I.pin,I.hok,I.len⟩
def SP.unhnd {j4:List (p:)} {D:Ends} {f:Flow} {s':Shared} {e:Addr} (h:SP (Gs X e) j4 D f s') (ok:X.Ok):SP X j4 D f s':=by
 cases f with
 | next=>obtain ⟨σ',H',I,q⟩:=h; exact ⟨σ',H',I.unhnd ok,q⟩
 | brk=>obtain ⟨σ',H',I,q⟩:=h; exact ⟨σ',H',I.unhnd ok,q⟩
 | cont=>obtain ⟨σ',H',I,q⟩:=h; exact ⟨σ',H',I.unhnd ok,q⟩
 | ret u=>obtain ⟨v,σ',H',I,r,q⟩:=h; exact ⟨v,σ',H',I.unhnd ok,r,q⟩
def Zsw {j4:List (p:)} {σ:St} {H:Hp} {s:Shared} {e T:Addr} {cls a0:Value} (I:Inv X j4 σ H s) (hx:FlyT e T cls a0 s.heap) :
  Heap.FlyingW (PySem.W.hideAll s.heap (e :: T :: frs X.stack)) X.stack e cls a0 s.heap:=by
 obtain ⟨oe,vs,oT,ts,x1,x2,x3,x4,x5,x6,x7,x8⟩:=hx;exact ⟨λb o e1=>PySem.W.of_hideAll _ e1,PySem.W.hideAll_none _ (by simp),Qo I _ λb hb=>by simp [hb],oe,vs,T,oT,ts,x1,x2,x3,x4,PySem.W.hideAll_none _ (by simp),x5,x6,x7,x8⟩
def Inv.flown {j4:List (p:)} {σ:St} {H:Hp} {s:Shared} {e T:Addr} {h':Heap} (I:Inv X j4 σ H s) (hex:X.ex=[]) (fe:FxOk X j4 H e) (fT:FxOk X j4 H T)
  (mh:(PySem.W.hideAll s.heap (e :: T :: frs X.stack)).StaysIn h') (xv:s.heap.UpToSlots h'):Inv X j4 σ H { s with heap:=h' }:=by
 refine I.exc hex fe fT (λb o h1 h2 h3 e1=>mh b o (PySem.W.hideAll_get _ e1 λz=>?_)) λb o hb e1=>xv b o e1 (I.fnd hb e1)
 rcases Ar z with z | z
 ·exact h1 z
 ·rcases Ar z with z | z
  ·exact h2 z
  ·exact h3 z
end
section
variable {X:Cx} {j4:List (p:)} {σ:St} {H:Hp} {s:Shared} {A:Around} {E:Value->Shared->Prop} {a:Addr}
def Zs0 {kvs:List (Key × V)} (I:Inv X j4 σ H s) (e:H a=some (.dK kvs)) (hl:kvs.length < sizeLine) (ry:RelV (kV k) u) (rd:RelV d r)
  (h1:∀ v w' s',valV kvs k=some v->Inv X j4 σ H s'->RelV v w'->Q w' s') (h2:valV kvs k=none->∀ s',Inv X j4 σ (upd H a (.dK (putK kvs k d))) s'->Q r s') :
  wpAny (d:) A (call (.builtin "dict.setdefault") [.ref a,u,r]) Q E s:=by
 obtain ⟨z,hd,vs,kl,dd⟩:=Zbt I.hok e;have hz:vs.length<=sizeLine:=by rw [<- kl.length]; exact z
 refine call_meetsIn PySem.F.slot_dict_setdefault dd.typeIs PySem.F.entry_dict_setdefault (PySem.F.args_dict_setdefault_3 _ _ _) (kt_meets_setdefault (Ya X.prog X.w) a (Jl ry) hd r) ⟨vs,dd,hz,λv hv=>?_,λhv h' qa hs=>?_⟩
 ·have mj:=kl.val k
  rw [hv] at mj
  cases q:valV kvs k with
  | none=>rw [q] at mj; exact mj.elim
  | some y=>rw [q] at mj; exact h1 y v _ q (I.tok _) mj
 ·have mj:=kl.val k
  rw [hv] at mj
  cases q:valV kvs k with
  | some y=>rw [q] at mj; exact mj.elim
  | none =>
   have he:∃ q,h'.get? a=some q:=let ⟨q,_,_,hq,_⟩:=qa; ⟨q,hq⟩
   have nj:(putK kvs k d).length<=sizeLine:=by have:=Jp kvs k d; lia
   exact h2 q _ (Vl I (b8:) hs he (Gb nj hd (kl.put k rd) qa))
end
def Zrn (td ty tx:TE):TE:=λσ H Q=>td σ H λx H1=>∃ a,x=.ref a/\IsD H1 a/\ty σ H1 λy H2=>tx σ H2 λz H3=>∃ kvs k,H3 a=some (.dK kvs)/\kvs.length < sizeLine/\y=kV k /\
 (∀ v,valV kvs k=some v->Q v H3)/\(valV kvs k=none->Q z (upd H3 a (.dK (putK kvs k z))))
section
variable {X:Cx} {o e f:Expr} {kf kd:Pos} {td ty tx:TE}
def Zn7 (ho:PE X o td) (he:PE X e ty) (hf:PE X f tx) (m:M2 X o "setdefault" kf e f kd):PE X (.Call (.Attribute o "setdefault" kf) [e,f] [] kd) (Zrn td ty tx):=by
 intro j4 s σ H Q I h;refine wpAny_Call_method m.base m.few m.line PySem.F.plainAttrs_dict PySem.F.slot_dict_setdefault PySem.F.type_dict_setdefault (thn (ho j4 s σ H _ I h) λu s1 j9=>?_);obtain ⟨x,H1,I1,rx,a,ex,d,q1⟩:=j9;subst ex;obtain rfl:u=Value.ref a:=rx;obtain ⟨t1,t2,_⟩:=Zbp I1 d;refine ⟨t1,t2,?_⟩;rw [m.trees];refine Calls.callWith_builtin rfl (Calls.evalArgs_plain (Calls.spliced_cons (thn (he j4 s1 σ H1 _ I1 q1) λiv s2 ⟨y,H2,I2,ry,q2⟩ =>
  Calls.spliced_cons (thn (hf j4 s2 σ H2 _ I2 q2) λfv s3 ⟨z,H3,I3,rz,kvs,k,hk,hl,ey,q3,q4⟩=>Calls.spliced_nil ?_))))
 subst ey;exact Zs0 I3 hk hl ry rz (λv w' s' hv I' ou=>⟨v,H3,I',ou,q3 v hv⟩) λhv s' I'=>⟨z,_,I',rz,q4 hv⟩
def Zgo {kvs:List (Key × V)} {vs:List (Key × Value)} {ks:List Int} (kl:KV kvs vs) (hk:kvs.map (·.1)=ks.map Sum.inl) {us:List Value} (hl:us.length=vs.length)
  (hu:∀ (j:Nat) (v:Value),us[j]?=some v->∃ k x,vs[j]?=some (k,x)/\(Ya P w).is k v=true):IntsAre us ks:=by
 have l9:kvs.length=ks.length:=by have:=congrArg List.length hk; simpa using this
 have vi:kvs.length=vs.length:=kl.length
 have key:∀ (j:Nat) (v:Value),us[j]?=some v->∃ i t,ks[j]?=some i/\v=Value.int i t:=λj v hv=>by
  obtain ⟨k,x,hx,hi⟩:=hu j v hv;have e1:(vs.map (·.1))[j]?=some k:=by rw [Ah,hx]; rfl
  have e2:vs.map (·.1)=kvs.map (·.1):=by
   clear hk hl hu l9 vi hx hi e1
   induction kl with
   | nil=>rfl
   | cons r t ih=>rw [map_cons,map_cons,ih,r.1]
  rw [e2,hk,Ah] at e1
  cases q:ks[j]? with
  | none=>rw [q] at e1; cases e1
  | some i =>
   rw [q] at e1;have e3:Sum.inl i=k:=Ax e1;subst e3;obtain ⟨t,ht⟩:=Value.isInt_shape (k:=i) (v:=v) hi;exact ⟨i,t,Y,ht⟩
 have gen:∀ (us:List Value) (ks:List Int),us.length=ks.length->(∀ (j:Nat) (v:Value),us[j]?=some v->∃ i t,ks[j]?=some i/\v=Value.int i t)->IntsAre us ks:=by
  intro us
  induction us with
  | nil =>
   intro ks hl _
   cases ks with
   | nil=>exact .nil
   | cons _ _=>simp at hl
  | cons u r ih =>
   intro ks hl h
   cases ks with
   | nil=>simp at hl
   | cons i ks =>
    obtain ⟨i',t,e1,e2⟩:=h 0 u rfl;have e1':i=i':=by simpa using e1
    subst e1' e2;exact .cons i t (ih ks (by simpa using hl) λj v hv=>h (j + 1) v (by simpa using hv))
 exact gen us ks (by lia) key
def Jf (hc:X.calm=true):Y2 X (.builtin "sorted") (λxs H Q=>∃ (d:Addr) (kvs:List (Key × V)) (ks:List Int),xs=[.ref d]/\Rd H d (.dK kvs)/\kvs.map (·.1)=ks.map Sum.inl/\ks.length < 64 /\
  ∀ (p:Addr) (out:List Int),H p=none->out.Perm ks->out.Pairwise (·<=·)->Q (.ref p) (upd H p (dc:))):=by
 intro j4 s σ H xs us Q I r h;obtain ⟨d,kvs,ks,rfl,hd,hk,k9,q⟩:=h;obtain ⟨u,rfl,ru⟩:=Xg r;obtain rfl:u=Value.ref d:=ru;obtain ⟨z,qh,vs,kl,dd⟩:=V9 I.hok hd;obtain ⟨ep,hat⟩:=dd.dictAt;have j7:vs.length=ks.length:=by have:=congrArg List.length hk; rw [Ab,Ab] at this; have:=kl.length; lia
 have hn:vs.length<=sizeLine:=by rw [sizeLine_eq]; lia
 refine Calls.call_function_entry kind_sorted plain_sorted entry_sorted (args_sorted1 _) ?_;unfold Builtin.«sorted»;refine Al (m:=checkCount "sorted" 1 1 _) (ad:);refine Al (PySem.W.kdu_collect (A:=X.A.in1) (PySem.W.kdl_dict (knd:=Ya X.prog X.w) (kvs:=vs) (ep:=ep) qh) (ce:) hat hn λh' tk j8 tm uo=>?_);have hl:j8.toList.length=vs.length:=by rw [Array.length_toList]; exact uo.1
 have hI:IntsAre j8.toList ks:=Zgo (P:=X.prog) (w:=X.w) kl hk hl λj v hv=>let ⟨a,b,c⟩:=uo.2 j v (by rw [<- Array.getElem?_toList]; exact hv); ⟨a,b,c⟩
 refine Al (wpAny_newList ?_ (by rw [hl]; exact hn));have I1:Inv X j4 σ H { s with heap:=h',toks:=tk }:=I.kept tm;have vn:(h'.push { cls:=.type "list",data:=.seq j8.toList.toArray }).get? h'.objs.size=some (seqObj "list" j8.toList.toArray 0):=Ap _ rfl;refine Al (wpAny_holding (wpAny_call_entry slot_list_sort ⟨_,vn,Y⟩ entry_list_sort (list_sort_tree vn hI (by lia) λout vd a1 a2 a3=>⟨_,Y,?_⟩) (args_list_sort _)));refine wpAny_pure ⟨_,Y,?_⟩;obtain ⟨e,he⟩:=sortedHeap_at (out:=out) vn;have kp:∀ b u,h'.get? b=some u->(sortedHeap (h'.push { cls:=.type "list",data:=.seq j8.toList.toArray }) h'.objs.size j8.toList out).get? b=some u:=λb u hb=>by
  have kn:b < h'.objs.size:=Ao hb
  rw [sortedHeap_old (As kn) (by rw [Heap.size_push]; exact lt_succ_of_lt kn)]
  exact Ak _ hb
 have hv:Vals (vd.map V.int) out.toList:=by
  clear he kp;generalize out.toList=l at a1;clear a2 a3
  induction a1 with
  | nil=>exact .nil
  | cons i t _ ih=>exact .cons ⟨_,Y⟩ ih
 refine ⟨.ref h'.objs.size,upd H h'.objs.size (.lst (vd.map V.int)),I1.laid kp (An _) ?_,Y,q _ vd I1.fresh a2 a3⟩;refine ⟨?_,out.toList,e,hv,?_⟩
 ·rw [Ab,a2.length_eq,sizeLine_eq]; lia
 ·rw [he]
end
section
variable {X:Cx} {j4:List (p:)} {σ:St} {H:Hp} {s:Shared} {a:Addr}
def Inv.freeze (I:Inv X j4 σ H s) (e:H a=some u) (mu:Mut (some u)) (ho:s.heap.get? a=some ob):Inv X j4 σ (upd H a (.frz ob u)) s:=by
 have r9:∀ c y,H c=some (.own y)->c≠a:=λc y r z=>by subst z; rw [r] at e; cases e; exact mu
 have qg:∀ c xs,H c=some (.tup xs)->c≠a:=λc xs r z=>by subst z; rw [r] at e; cases e; exact mu
 have nfrz:∀ c o xs,H c=some (.frz o xs)->c≠a:=λc o xs r z=>by subst z; rw [r] at e; cases e; exact mu
 have ntbl:∀ c ps,H c=some (.tbl ps)->c≠a:=λc ps r z=>by subst z; rw [r] at e; cases e; exact mu
 have un:Un X.fs [] H (upd H a (.frz ob u)) s.heap s.heap:=⟨λ_ _ q _ _ _=>q,λ_ o q _ _ _=>⟨o.slots,q⟩,λb o q n _=>by rw [Ze (λz=>by rw [z,e] at n; cases n)]; exact n,λb o q _=>⟨o,q⟩,
  λb xs q=>by rw [Ze (qg b xs q)]; exact q,λb o xs q=>by rw [Ze (nfrz b o xs q)]; exact q,λb ps q=>⟨#[],by rw [Ze (ntbl b ps q),q]; simp⟩⟩
 have hok:HOk X.prog X.w (upd H a (.frz ob u)) s.heap:=λb v q=>by
  have st:∀ c w',Yl X.prog X.w H s.heap c w'->Yl X.prog X.w (upd H a (.frz ob u)) s.heap c w':=λc w' x=>x.stay (λ_ _ _ q=>q) (λd r=>by rw [Ze (r9 d c r)]; exact r) λd xs r=>by rw [Ze (qg d xs r)]; exact r
  by_cases hb:b=a
  ·subst hb
   rw [Zc] at q;cases q;exact ⟨ho,st _ _ (I.hok _ _ e)⟩
  ·rw [Ze hb] at q
   exact st _ _ (I.hok b v q)
 exact I.un (h':=s.heap) (t':=s.toks) un hok
end
section
def KV.at {kvs:List (Key × V)} {vs:List (Key × Value)} (r:KV kvs vs):∀ {i:Nat} {k:Key} {v:V},kvs[i]?=some (k,v)->∃ u,vs[i]?=some (k,u)/\RelV v u:=by
 induction r with
 | nil=>intro i k v h; simp at h
 | cons r t ih =>
  intro i k v h
  cases i with
  | zero =>
   simp at h;subst h;exact ⟨_,by rw [getElem?_cons_zero]; exact congrArg some (Prod.ext r.1.symm Y),r.2⟩
  | succ i =>
   obtain ⟨u,h1,h2⟩:=ih (by simpa using h);exact ⟨u,by simpa using h1,h2⟩
def Ztw (h:(Ya P w).is k u=true):RelV (kV k) u:=by
 cases k with
 | inl i=>obtain ⟨t,e⟩:=Value.isInt_shape (k:=i) (v:=u) h; exact ⟨t,e⟩
 | inr x=>obtain ⟨t,e⟩:=Value.isStrOf_shape (x:=x) (v:=u) h; exact ⟨t,e⟩
def Qp {X:Cx} {s:Shared} (I:Inv X j4 σ H s) (e:H d=some (ae:)) :
  ∃ vs ep,KV kvs vs/\s.heap.DictAt (Ya X.prog X.w) d vs ep/\s.heap.get? d=some o:=by
 obtain ⟨ho,_,_,vs,kl,dd⟩:=I.hok d _ e;obtain ⟨ep,da⟩:=dd.dictAt;exact ⟨vs,ep,kl,da,ho⟩
noncomputable def epOf (o:Obj):Nat:=match o.data with
 | .dict _ ep=>ep
 | _=>0
def Gy {h:Heap} (da:h.DictAt (Ya P w) d vs ep) (ho:h.get? d=some o):ep=epOf o:=by
 obtain ⟨o',es,h1,_,h2,_⟩:=da;rw [ho] at h1;cases h1;unfold epOf;rw [h2]
def Zkv {P:Program} {w:World} {K:W.Frag} {tg:Expr} (d it:Addr) (kvs:List (Key × V)) (o:Obj) :
  Turn P w K tg (dd:) [it] it (λi h=>h.IsValIter it d i kvs.length (epOf o)) where
 mem:=by simp
 obj:=λi h st b hb=>by
  have e:b=it:=by simpa using hb
  subst e;obtain ⟨o,e,c,d⟩:=st;exact (au:)
 keep:=λi h h' st k=>st.at λo e=>k it (by simp) o e
 item:=by
  intro X hP hw hK hc i j4 s σ H E I hf st hg;subst hP hw hK;obtain ⟨hi,hq⟩:=hg;obtain ⟨vs,ep,kl,da,ho⟩:=Qp I hq;have uc:=Gy da ho;subst uc;obtain ⟨f0,f1,f2,f3,f4,f5⟩:=hf it (by simp);obtain ⟨⟨k,v⟩,hx⟩:∃ p,kvs[i]?=some p:=⟨_,Ac hi⟩;obtain ⟨u,hu,ru⟩:=kl.at hx;have j7:vs.length=kvs.length:=kl.length.symm;rw [<- j7] at st;refine wpAny_pyNext_values_item st da hu λh' on sb=>?_;have I1:Inv X j4 σ H { s with heap:=h' }:=I.turned (t':=s.toks) (λb o hb e=>(sb.2 b hb).trans e) f0 f1 f3 f4 f5;rw [j7] at on;obtain ⟨oi,e,c,dd⟩:=id on;exact ⟨u,Y,Gu (s:={ s with heap:=h' }) e c dd (c:) ⟨v,H,I1,ru,⟨Y,k,hx⟩,on,λb hb=>(hf b hb).1⟩⟩
 done:=by
  intro X hP hw hK hc i j4 s σ H E I hf st hg;subst hP hw hK;obtain ⟨hi,hq⟩:=hg;obtain ⟨vs,ep,kl,da,ho⟩:=Qp I hq;have uc:=Gy da ho;subst uc;obtain ⟨f0,f1,f2,f3,f4,f5⟩:=hf it (by simp);have j7:vs.length=kvs.length:=kl.length.symm;rw [<- j7] at st;exact wpAny_pyNext_values_end (ce:) st da (by rw [Ay]; lia) λh' eb=>(G:)
 self:=λ_ _ _ _ _ st h=>wpAny_pyIter_valiter st h
end
section
variable {X:Cx} {tg:Expr} {l:Expr} {tl:TE}
noncomputable def Itv2 (d:Addr) (kvs:List (Key × V)) (o:Obj):It:=(dd:)
def Zpl (J:Addr->List (Key × V)->Obj->It) (tl:TE):TI:=λσ H R=>tl σ H λx H1=>∃ a kvs,x=.ref a/\((H1 a=some (.dK kvs)/\∀ o,R (J a kvs o) (upd H1 a (ae:)))\/∃ o,H1 a=some (ae:)/\R (J a kvs o) H1)
def Zgx {R:Obj->Hp->Prop} (I:Inv X j4 σ H s)
  (h:(H a=some (.dK kvs)/\∀ o,R o (upd H a (ae:)))\/∃ o,H a=some (ae:)/\R o H):∃ o H',H' a=some (ae:)/\Inv X j4 σ H' s/\R o H':=by
 rcases h with ⟨e,r⟩ | ⟨o,e,r⟩
 ·obtain ⟨ob,ho⟩:=(I.hok a _ e).there
  exact ⟨ob,_,Zc,I.freeze e True.intro ho,r ob⟩
 ·exact ⟨o,H,e,I,r⟩
structure M0 (X:Cx) (o:Expr) (m:Str) (kf kd:Pos):Prop where
 base:attributeBase o m X.env (eval o X.env)=eval o X.env
 few:((backTo kd (starEach [] X.env)).all (λx=>!x.1) && (bu:).all (λx=>x.1.isSome)
  && decide (([]:List Expr).length + ([]:List Keyword).length + (a1:) < 30))=true
 line:(kf.endLine == kd.line)=true
def Zch {kf kd:Pos} (hl:PE X l tl) (m:M0 X l "values" kf kd):PI X tg (.Call (.Attribute l "values" kf) [] [] kd) (Zpl Itv2 tl):=by
 intro j4 s σ H R I h;refine wpAny_Call_method m.base m.few m.line PySem.F.plainAttrs_dict PySem.F.slot_dict_values PySem.F.type_dict_values (thn (hl j4 s σ H _ I h) λv s1 j9=>?_);obtain ⟨x,H1,I1,r1,q1⟩:=j9;obtain ⟨a,kvs,e,q⟩:=q1;subst e;cases r1;obtain ⟨o,H2,e2,I2,q2⟩:=Zgx (R:=λo H=>R (Itv2 a kvs o) H) I1 q;obtain ⟨vs,ep,kl,da,ho⟩:=Qp I2 e2;have uc:=Gy da ho;subst uc;obtain ⟨_,_,qh,_⟩:=I2.hok a _ e2;have isd:IsD H2 a:=.inl ⟨kvs,.inr ⟨o,e2⟩⟩;obtain ⟨t1,t2,_⟩:=Zbp I2 isd;refine ⟨t1,t2,?_⟩;refine Calls.callWith_builtin Y (PyProof.Rows.evalArgs_empty ?_);refine call_meetsIn PySem.F.slot_dict_values da.dictOf.typeIs PySem.F.entry_dict_values (PySem.F.args_dict_values_1 _) (meets_dict_values (Ya X.prog X.w) a qh) ⟨⟨vs,da.dictOf⟩,?_⟩;have I3:Inv X j4 σ H2 { s1 with heap:=s1.heap.push { cls:=.type "dict_values",data:=.fields #[.ref a] } }:=I2.kept (t':=s1.toks) λb o e=>Ak _ e;refine wpAny_pyIter_values ⟨_,Ap _ Y,Y,Y⟩ (da.push _) ?_;have j7:vs.length=kvs.length:=kl.length.symm;rw [j7];refine ⟨(c1:).objs.size,[(c1:).objs.size],_,_,H2,rfl,I3.kept (t':=s1.toks) λb o e=>Ak _ e,Zkv a _ kvs o,⟨_,Ap _ rfl,rfl,rfl⟩,λb hb=>?_,q2⟩;have e:b=(c1:).objs.size:=by simpa using hb
 subst e;exact I3.fpOk (An _) (I3.hok.fresh (An _))
end
section
noncomputable def Ite (K:W.Frag) (a:Addr):It :=
 ⟨λi H=>∃ xs x,SqL K H a xs/\xs[i]?=some x,λi H x H'=>∃ q y,H q=none/\x=.ref q/\(∀ xs,SqL K H a xs->xs[i]?=some y)/\H'=upd H q (.tup [.int i,y]),λi H=>∃ xs,SqL K H a xs/\xs.length<=i⟩
def Zkx {P:Program} {w:World} {K:W.Frag} {oa:List Expr} {x1:Nat} {pos:Pos} (a e it:Addr) (kq:e≠it):Turn P w K (.Tuple oa x1 pos) (Ite K a) [e,it] e (λi h=>(∃ old,IsEnum h e it i old)/\h.IsListIter it a i) where
 mem:=by simp
 obj:=λi h st b hb=>by
  obtain ⟨⟨old,h1⟩,o,h2,c,d⟩:=st
  rcases Ar hb with z | z
  ·subst z
   exact ⟨_,h1,λv z=>by
    have z':Data.fields _=Data.cell v:=z
    cases z'⟩
  ·have z:b=it:=by simpa using z
   subst z;exact ⟨o,h2,λv z=>by rw [d] at z; cases z⟩
 keep:=λi h h' st k=>⟨let ⟨old,h1⟩:=st.1; ⟨old,k e (by simp) _ h1⟩,st.2.at λo q=>k it (by simp) o q⟩
 item:=by
  intro X hP hw hK hc i j4 s σ H E I hf st hg;subst hP hw hK;obtain ⟨xs,x,hq,hx⟩:=hg;obtain ⟨its,rv,p,hz⟩:=I.list hq;obtain ⟨u,hu,ru⟩:=rv.get hx;obtain ⟨f0,f1,f2,f3,f4,f5⟩:=hf e (by simp);obtain ⟨g0,g1,g2,g3,g4,g5⟩:=hf it (by simp);obtain ⟨⟨old,he⟩,ox⟩:=st;refine wpAny_pyNext_enum_item he ox p.isList (x:=u) (by simpa using hu) kq λh' rh hit' ht' hsz' kk=>?_;have eo:=Ao he;have io:it < s.heap.objs.size:=let ⟨o,q,_⟩:=ox; Ao q
  refine ⟨.ref s.heap.objs.size,Y,wpAny_letOwnedTupleGo_enum rh λtw he'' sb=>?_⟩;have kz:∀ b o,b≠e->b≠it->s.heap.get? b=some o->tw.get? b=some o:=λb o h1 h2 q=>(sb.2 b h1).trans (kk b o h1 h2 q);have uf:tw.get? s.heap.objs.size=some { cls:=.type "tuple",data:=.seq #[.int i s.toks,u] }:=(sb.2 _ (Nat.ne_of_gt eo)).trans ht';have hn:H s.heap.objs.size=none:=I.hok.fresh (An _)
  have I2:Inv X j4 σ (upd H s.heap.objs.size (.tup [.int i,x])) { s with heap:=tw,toks:=s.toks + 1 }:=by
   refine I.step (g':=s.gens) (d':=s.drawn) (ch:=[e,it]) (λb hb=>?_) (λb o _ _ hc q _=>kz b o (az:) (az:) q) (λb o _ _ hc q _=>⟨o.slots,kz b o (az:) (az:) q⟩) (λb o _ q n=>by rw [Ze (As (Ao q))]; exact n)
    (λb o hc q=>⟨o,kz b o (az:) (az:) q⟩) (λb ys q=>by rw [Ze (Zk q hn)]; exact q) (λb o ys q=>by rw [Ze (Zk q hn)]; exact q) (λb ps q=>(eh:)) (λm hm=>?_) (λb v q=>?_) I.bare
   ·rcases Ar hb with z | z
    ·subst z; exact ⟨f3,f1,f4,f5⟩
    ·have z:b=it:=by simpa using z
     subst z; exact ⟨g3,g1,g4,g5⟩
   ·obtain ⟨o,es,ep,ho,r⟩:=hm
    exact ⟨o,es,ep,kz _ o (Ne.symm f1) (Ne.symm g1) ho,r⟩
   ·by_cases hb:b=s.heap.objs.size
    ·subst hb
     rw [Zc] at q;cases q;exact ⟨by show 2<=sizeLine; decide,[.int i s.toks,u],.cons ⟨_,rfl⟩ (.cons ru .nil),⟨_,uf,rfl,_,rfl⟩⟩
    ·rw [Ze hb] at q
     refine (I.hok b v q).stay (λc w' hc z=>kz c w' ?_ ?_ z) (λd z=>by rw [Ze (Zk z hn)]; exact z) λd ys z=>by rw [Ze (Zk z hn)]; exact z
     ·rintro rfl
      rcases hc with z | z
      ·rw [z,q] at f0; cases f0
      ·rw [f0] at z; cases z
     ·rintro rfl
      rcases hc with z | z
      ·rw [z,q] at g0; cases g0
      ·rw [g0] at z; cases z
  refine ⟨.ref s.heap.objs.size,_,I2,Y,⟨_,x,hn,Y,λys hy=>by rw [I.list_inj hy hq]; exact hx,Y⟩,⟨⟨u,he''⟩,hit'.at λo q=>(sb.2 it (Ne.symm kq)).trans q⟩,λb hb=>?_⟩
  rcases Ar hb with z | z
  ·subst z; rw [Ze (As eo)]; exact f0
  ·have z:b=it:=by simpa using z
   subst z; rw [Ze (As io)]; exact g0
 done:=by
  intro X hP hw hK hc i j4 s σ H E I hf st hg;subst hP hw hK;obtain ⟨xs,hq,hx⟩:=hg;obtain ⟨its,rv,p,hz⟩:=I.list hq;obtain ⟨g0,g1,g2,g3,g4,g5⟩:=hf it (by simp);obtain ⟨⟨old,he⟩,ox⟩:=st;have hl:=rv.length;exact wpAny_pyNext_enum_end (ce:) he ox p.isList (by simp; lia) λh' eb=>⟨rfl,I.turned (t':=s.toks) (λb o hb e=>eb b o hb e) g0 g1 g3 g4 g5⟩
 self:=λ_ _ _ _ _ st h=>by
  obtain ⟨⟨old,he⟩,_⟩:=st;exact wpAny_pyIter_enum he h
variable {X:Cx}
def Zt5 (K:W.Frag) (ta:TA):TI:=λσ H R=>ta σ H λvs H1=>∃ a,vs=[.ref a]/\(∃ xs,SqL K H1 a xs)/\R (Ite K a) H1
def Zqg {oa:List Expr} {x1:Nat} {qe p pos:Pos} {l:Expr} {ta:TA} (hg:Gl X "enumerate") (hm:X.mg "enumerate"=none) (ha:PA X [l] ta) (hs:starEach [l] X.env=[(false,eval l X.env)]:=by rfl):PI X (.Tuple oa x1 qe) (.Call (.Name "enumerate" p) [l] [] pos) (Zt5 X.K ta):=by
 intro j4 s σ H R I h;refine Call_ (We I hg hm boot_enumerate (PyProof.Rows.callWith_type1 (thn (co:) λus s1 zz34=>?_) hs Y));obtain ⟨vs,H1,I1,r1,q1⟩:=zz34;obtain ⟨a,e,⟨xs,hq⟩,q⟩:=q1;subst e;obtain ⟨u,rfl,ru⟩:=Xg r1;cases ru;obtain ⟨its,rv,pl,hz⟩:=I1.list hq;refine call_enumerate_list pl.isList λh' he ox hsz hk=>wpAny_pyIter_enum he ?_;have I2:Inv X j4 σ H1 { s1 with heap:=h' }:=I1.kept (t':=s1.toks) hk;refine ⟨s1.heap.objs.size + 1,[s1.heap.objs.size + 1,s1.heap.objs.size],_,_,H1,Y,I2,Zkx a _ _ (succ_ne_self _),⟨⟨.none,he⟩,ox⟩,λb hb=>?_,q⟩
 rcases Ar hb with z | z
 ·subst z; exact I1.fpOk (le_succ _) (I1.hok.fresh (le_succ _))
 ·have z:b=s1.heap.objs.size:=by simpa using z
  subst z; exact I1.fpOk (An _) (eo:)
def Zox {K:W.Frag} {a:Addr} {xs:List V} {g:TG} {tb:TS} {D:Ends} {σ:St} {H:Hp} (Pv:Nat->St->Hp->Prop) (h0:Pv 0 σ H) (hl:∀ i σ H,i<=xs.length->Pv i σ H->SqL K H a xs)
  (hs:∀ i x σ H q,xs[i]?=some x->H q=none->Pv i σ H->g (.ref q) σ (upd H q (.tup [.int i,x])) λσ2 H2=>tb { D with nx:=Pv (i + 1),ct:=Pv (i + 1),bk:=D.nx } σ2 H2) (hd:∀ σ H,Pv xs.length σ H->D.nx σ H) :
  ∃ W:Nat->Nat->St->Hp->Prop,(de:)/\∀ i m σ H,W i m σ H ->
   ((Ite K a).stop i H/\D.nx σ H)\/((Ite K a).go i H/\∃ N:St->Hp->Prop,(q:)/\∀ x H',(Ite K a).yld i H x H'->g x σ H' λσ2 H2=>tb { D with nx:=N,ct:=N,bk:=D.nx } σ2 H2):=by
 refine (u:);rintro i m σ H ⟨rfl,hi,p⟩;have q:=hl i σ H hi p;by_cases kn:i < xs.length
 ·refine .inr (M:)
  obtain ⟨c,z,hn,e1,e2,e3⟩:=y;subst e1 e3;exact hs i z σ H c (e2 xs q) hn p
 ·have e:i=xs.length:=by lia
  subst e;exact .inl ⟨⟨xs,q,An _⟩,hd σ H p⟩
def Zah {kvs:List (Key × V)} {g:TG} {tb:TS} {D:Ends} (Pv:Nat->St->Hp->Prop) (h0:Pv 0 σ H) (hl:∀ i σ H,i<=kvs.length->Pv i σ H->H d=some (ae:))
  (hs:∀ i k x σ H,kvs[i]?=some (k,x)->Pv i σ H->g x σ H λσ2 H2=>tb { D with nx:=Pv (i + 1),ct:=Pv (i + 1),bk:=D.nx } σ2 H2) (hd:∀ σ H,Pv kvs.length σ H->D.nx σ H) :
  ∃ W:Nat->Nat->St->Hp->Prop,(de:)/\∀ i m σ H,W i m σ H ->
   ((Itv2 d kvs o).stop i H/\D.nx σ H)\/((Itv2 d kvs o).go i H/\∃ N:St->Hp->Prop,(q:)/\∀ x H',(Itv2 d kvs o).yld i H x H'->g x σ H' λσ2 H2=>tb { D with nx:=N,ct:=N,bk:=D.nx } σ2 H2):=by
 refine (a6:);rintro i m σ H ⟨rfl,hi,p⟩;have q:=hl i σ H hi p;by_cases kn:i < kvs.length
 ·refine .inr ⟨⟨kn,q⟩,Pv (i + 1),λσ' H' p'=>⟨kvs.length - (i + 1),by lia,Y,kn,p'⟩,λx H' y=>?_⟩
  obtain ⟨e,k,y⟩:=y;subst e;exact hs i k x σ _ y p
 ·have e:i=kvs.length:=by lia
  subst e;exact .inl ⟨⟨An _,q⟩,hd σ H p⟩
def Zps (ta:TA):TE:=λσ H Q=>ta σ H λvs H1=>∃ n:Nat,vs=[.int n]/\n<=1000/\∀ p,H1 p=none->Q (.ref p) (upd H1 p (.lst ((List.range n).map λ(i:Nat)=>V.int i)))
def Zf0 {p1 p2:Pos} (hgl:Gl X "list") (wv:X.mg "list"=none) (hg:Gl X "range") (hm:X.mg "range"=none) (hc:X.calm=true) (ha:PA X [a] ta) (hs:starEach [a] X.env=[(false,eval a X.env)]:=by rfl)
  (qo:starEach [.Call (.Name "range" p2) [a] [] pk] X.env=[(false,eval (.Call (.Name "range" p2) [a] [] pk) X.env)]:=by rfl):PE X (.Call (.Name "list" p1) [.Call (.Name "range" p2) [a] [] pk] [] pos) (Zps ta):=by
 intro j4 s σ H Q I h;refine Call_ (We I hgl wv PySem.Pv.boot_list (PyProof.Rows.callWith_type1 ?_ qo Y));rw [qo];refine Calls.spliced_cons ?_;refine Call_ (We I hg hm boot_range (PyProof.Rows.callWith_type1 (thn (ha pk j4 s σ H _ I h) λus s1 zz35=>?_) hs Y));obtain ⟨vs,H1,I1,r1,q1⟩:=zz35;obtain ⟨n,e,hn,q⟩:=q1;subst e;obtain ⟨u,rfl,ru⟩:=Xg r1;obtain ⟨t,rfl⟩:=ru;refine call_range_1 (Calls.spliced_nil ?_);have hr:Builtin.Range.rangeSize 0 (n:Int) 1=n:=by rw [rangeSize_one]; split <;> lia
 refine call_list_range (ce:) (IsRange.new ..) (small_one (by lia) (by lia) (by lia) (by lia)) hr (by lia) λh' tk j8 c' hk hS uo=>?_;have hk1:∀ b o,s1.heap.get? b=some o->h'.get? b=some o:=λb o e=>hk b o (Ak _ e)
 have hv:Vals ((List.range n).map λ(i:Nat)=>V.int i) j8.toList:=by
  have gen:∀ (l:List Value) (k:Nat),(∀ (j:Nat) (v:Value),l[j]?=some v->∃ t,v=.int ((k + j:Nat):Int) t)->Vals ((List.range' k l.length).map λ(i:Nat)=>V.int i) l:=by
   intro l
   induction l with
   | nil=>intro k _; exact .nil
   | cons v r ih =>
    intro k h;obtain ⟨t,e⟩:=h 0 v rfl;rw [length_cons,range'_succ,map_cons];refine .cons ⟨t,by rw [e]; rfl⟩ (ih (k + 1) λj w hw=>?_);obtain ⟨t',e'⟩:=h (j + 1) w (by simpa using hw);exact ⟨t',by rw [e']; congr 1; lia⟩
  have hl:j8.toList.length=n:=by rw [Array.length_toList]; exact uo.1
  have:=gen j8.toList 0 λj v hj=>by
   obtain ⟨t,e⟩:=uo.2 j v (by rw [<- Array.getElem?_toList]; exact hj);exact ⟨t,by rw [e]; congr 1; lia⟩
  rw [hl,<- range_eq_range'] at this;exact this
 have hle:s1.heap.objs.size<=(s1.heap.push { cls:=.type "range",data:=.fields #[.int 0 s1.toks,.int (n:Int) t,.int 1 (s1.toks + 1)] }).objs.size:=by rw [Heap.size_push]; exact le_succ _
 refine ⟨.ref _,upd H1 _ (.lst ((List.range n).map λ(i:Nat)=>V.int i)),I1.laid hk1 (Nat.le_of_lt (by first | exact Nat.lt_of_le_of_lt hle (Ao hS) | (rw [Heap.size_push]; exact lt_succ_self _))) ⟨?_,j8.toList,c',hv,?_⟩,Y,q _ (I1.hok.fresh ?_)⟩
 ·rw [Ab,length_range,sizeLine_eq]; lia
 ·simpa using hS
 ·rw [Heap.size_push]; exact le_succ _
end
abbrev TJ:=Str->TE
def PJ (X:Cx) (es:List Expr) (t:TJ):Prop :=
 ∀ (out:Str) (j4:List (p:)) (s:Shared) (σ:St) (H:Hp) (Q:VK),Inv X j4 σ H s->t out σ H Q->wpAny (d:) X.A (joinParts out (evalEach es X.env)) (bz:) X.xe s
section
variable {X:Cx} {es:List Expr} {t:TJ} {pos:Pos}
def jNil:TJ:=λout _ H Q=>out.length<=sizeLine/\Q (.str out) H
def Qx:PJ X [] jNil:=λout j4 s σ H Q I h=>joinParts_nil (⟨.str out,H,I.tok _,⟨_,rfl⟩,h.2⟩) h.1
def jTxt (x:Str) (t:TJ):TJ:=λout σ H Q=>(out ++ x).length<=sizeLine/\t (out ++ x) σ H Q
def Xw {x:Str} {k:Nat} (h:PJ X es t):PJ X (.Constant (.str x) k pos :: es) (jTxt x t):=by
 intro out j4 s σ H Q I hq;refine joinParts_cons (Calls.Constant_str ?_);exact ⟨hq.1,h _ j4 _ σ H Q (I.tok _) hq.2⟩
def jInt (te:TE) (t:TJ):TJ:=λout σ H Q=>te σ H λv H1=>∃ i:Int,v=.int i/\i.natAbs.log2 < 1920/\(out ++ (toString i:Str)).length<=sizeLine/\t (out ++ (toString i:Str)) σ H1 Q
def Wq {e:Expr} {te:TE} (he:PE X e te) (h:PJ X es t):PJ X (.FormattedValue e (-1) none pos :: es) (jInt te t):=by
 intro out j4 s σ H Q I hq;refine joinParts_cons (FormattedValue_plain (thn (he j4 s σ H _ I hq) λu s1 j9=>?_));obtain ⟨v,H1,I1,r1,i,ev,hl,hz,q⟩:=j9;subst ev;obtain ⟨tk,rfl⟩:=r1;exact formatField_int_small hl ⟨hz,h _ j4 _ σ H1 Q (I1.tok _) q⟩
def J0 {v₁ v₂:Expr} {j6:List Expr} (h:PJ X (v₁ :: v₂ :: j6) t):PE X (.JoinedStr (v₁ :: v₂ :: j6) pos) (t Str.empty):=λj4 s σ H Q I hq=>JoinedStr_many (h Str.empty j4 s σ H Q I hq)
end
section
variable {X:Cx}
def Qm (K:W.Frag) (h:X.K=K:=by rfl):IxR X (rIxL K):=h ▸ Zv
def Zqv (K:W.Frag) (h:X.K=K:=by rfl):IxR X (rIxT K):=h ▸ Yr
def U5 (K:W.Frag) (h:X.K=K:=by rfl):Y2 X (.type "tuple") (λxs H Q=>∃ p ys,xs=[.ref p]/\((SqL K H p ys/\∀ l,H l=none->Q (.ref l) (upd H l (.tup ys)))\/(SqT K H p ys/\Q (.ref p) H))):=h ▸ Zed
variable {tg l e:Expr} {tl ta:TE} {f:Str} {pos:Pos}
def Zci (K:W.Frag) (hl:PE X l tl) (h:X.K=K:=by rfl):PI X tg l (iTup K tl):=h ▸ Zlp hl
def Zil (K:W.Frag) (he:PE X e ta) (hb:attributeBase e f X.env (eval e X.env)=eval e X.env) (h:X.K=K:=by rfl):PE X (.Attribute e f pos) (tFld K ta f):=h ▸ Zz he hb
end
section
variable {prog:Program} {w:World} {A:Around} {E:Value->Shared->Prop}
def Zub {it l:Addr} {xs:Array Value} (ne:l≠it) (k:Nat):∀ (i:Nat) (s:Shared) (Q:List Value->Shared->Prop),s.heap.IsListIter it l i->s.heap.IsList l xs->i + k<=xs.size ->
  (∀ h',h'.IsListIter it l (i + k)->Heap.SameBut it s.heap h'->Q ((xs.toList.drop i).take k) { s with heap:=h' })->wpAny (Y:) A (draw (.ref it) k) Q E s:=by
 induction k with
 | zero =>
  intro i s Q a b c q;have z:=q s.heap a (Heap.SameBut.refl ..);rw [take_zero] at z;exact wpAny_pure z
 | succ k ih =>
  intro i s Q a b c q;have lt:i < xs.size:=by lia
  refine Al (m:=pyNext (.ref it)) (wpAny_pyNext_list_item a b (x:=xs[i]) (by simp [lt]) λg st sb=>?_);refine Al (wpAny_holding (ih (i + 1) _ _ st (b.extBut sb.extBut ne) (by lia) λg2 mf sb2=>wpAny_pure ?_));have z:=q g2 (by rw [Nat.add_right_comm] at mf; exact mf) (sb.trans sb2);rwa [drop_eq_getElem_cons (by simpa using lt),take_succ_cons,Array.getElem_toList] at z
def Zpp {l:Addr} {xs:Array Value} {s:Shared} {Q:List Value->Shared->Prop} (hc:A.handled=none) (b:s.heap.IsList l xs)
  (q:∀ h',Heap.ExtBut s.heap.objs.size s.heap h'->Q xs.toList { s with heap:=h' }):wpAny (Y:) A (unpackItems (.ref l) xs.size none) Q E s:=by
 have ne:l≠s.heap.objs.size:=by obtain ⟨o,ho,_⟩:=b; exact As (Ao ho)
 unfold unpackItems notIterableAtAll;refine Al (Al (wpAny_specialOf b.typeIs PySem.F.slot_list_iter.lookup (ad:)));rw [if_neg (c:)];refine Al (wpAny_holding (wpAny_pyIter_list b ?_));refine Al (wpAny_holding (Zub ne xs.size 0 _ _ ⟨_,Ap _ Y,Y,Y⟩ (b.push _) (by lia) λg st sb=>?_));have e:(xs.toList.drop 0).take xs.size=xs.toList:=by rw [drop_zero,take_of_length_le]; simp
 rw [e,if_neg (by simp)];refine Al (wpAny_holding (wpAny_pyNext_list_end hc st ((b.push _).extBut sb.extBut ne) (by simp) λg2 eb=>?_));rw [if_neg (c:)];exact wpAny_pure (q g2 λc o hb z=>eb c o hb (sb.extBut c o hb (Ak _ z)))
end
section
variable {X:Cx} {pos:Pos}
def gLst (K:W.Frag) (n:Nat) (t:TGs):TG:=λv σ H Q=>∃ a xs,v=.ref a/\SqL K H a xs/\xs.length=n/\t xs σ H Q
def Zlr {es:List Expr} {k:Nat} {t:TGs} {n:Nat} (hc:X.calm=true) (h:PGs X es t)
  (hn:(dq:).length=n:=by rfl) (mh:(dq:).findIdx? (·.1)=none:=by rfl):PG X (.Tuple es k pos) (gLst X.K n t):=by
 intro j4 s σ H v u Q I r hw;obtain ⟨a,xs,e1,hq,hl,hw⟩:=hw;subst e1;cases r;obtain ⟨its,rv,p,hz⟩:=I.list hq;rw [assign_Tuple];refine Al (wpAny_standAt ?_);unfold unpack;have tf:(dq:).length=its.toArray.size:=by rw [hn,<- hl,rv.length]; simp
 rw [tf,mh];refine Al (wpAny_holding (Zpp (ce:) p.isList λh' hx=>?_));have I1:Inv X j4 σ H { s with heap:=h' }:=I.kept (t':=s.toks) λb o e=>hx b o (As (Ao e)) e;exact h j4 _ σ H xs _ Q I1 (by simpa using rv) hw
end
def Vh (w:World) (K:W.Frag) (a:Addr) (kvs:List (Key × V)):Prop :=
 ∃ o es ep vs,K.lookup a=some o/\o.ExactDict/\o.data=.dict es ep/\(∀ e∈es,∃ k,Oo k e.key=true/\e.hash=keyH w k)/\(∀ P:Program,Pairs (Ya P w) es.toList vs)/\(vs.map (·.1)).Nodup/\KV kvs vs/\(cs:)=false
section
variable {X:Cx} {i o:Expr} {ty td:TE} {pos:Pos}
def Vh.here {j4:List (p:)} {σ:St} {H:Hp} {s:Shared} {a:Addr} {kvs:List (Key × V)} (h:Vh X.w X.K a kvs) (I:Inv X j4 σ H s):(cs:)=false/\∃ vs,KV kvs vs/\s.heap.DictOf (Ya X.prog X.w) a vs:=by
 obtain ⟨o,es,ep,vs,h1,h2,h3,h4,h5,h6,h7,h8⟩:=h;exact ⟨h8,vs,h7,o,es,ep,I.kIn a o h1,h2,h3,h4,h5 X.prog,h6⟩
def Zpt (w:World) (K:W.Frag) (ty td:TE):TE:=λσ H Q=>ty σ H λy H1=>td σ H1 λx H2=>∃ a kvs k,x=.ref a/\Vh w K a kvs/\y=kV k/\Q (.bl (!(valV kvs k).isSome)) H2
def Zlu (hi:PE X i ty) (ho:PE X o td):PC X .NotIn i o (Zpt X.w X.K ty td):=by
 intro j4 s σ H Q I h;refine thn (c7:) λiv s1 zz36=>?_;obtain ⟨y,H1,I1,ry,q1⟩:=zz36;refine thn (ho j4 s1 σ H1 _ I1 q1) λu s2 j9=>?_;obtain ⟨x,H2,I2,rx,a,kvs,k,ex,g,ey,q2⟩:=j9;subst ex ey;obtain rfl:u=Value.ref a:=rx;obtain ⟨hd,vs,kl,dd⟩:=g.here I2;refine wpAny_notIn_of (Jl ry) hd dd.mapOf ?_;rw [<- (kl.val k).isSome_eq];exact ⟨.bl _,H2,I2.tok _,Y,q2⟩
def Ztf (w:World) (K:W.Frag) (td ty:TE):TE:=λσ H Q=>td σ H λx H1=>ty σ H1 λy H2=>∃ a kvs k v,x=.ref a/\Vh w K a kvs/\y=kV k/\valV kvs k=some v/\Q v H2
def Zqh (ho:PE X o td) (hi:PE X i ty) (hs:NoSl i):PE X (.Subscript o i pos) (Ztf X.w X.K td ty):=by
 intro j4 s σ H Q I h;refine Zh6 PySem.F.slot_dict_getitem.lookup hs (thn (ho j4 s σ H _ I h) λu s1 zz37=>?_);obtain ⟨x,H1,I1,rx,q1⟩:=zz37;refine thn (hi j4 s1 σ H1 _ I1 q1) λiv s2 j9=>?_;obtain ⟨y,H2,I2,ry,a,kvs,k,v,ex,g,ey,hv,q2⟩:=j9;subst ex ey;obtain rfl:u=Value.ref a:=rx;obtain ⟨hd,vs,kl,dd⟩:=g.here I2;have mj:=kl.val k;rw [hv] at mj
 cases q:valueAt vs k with
 | none=>rw [q] at mj; exact mj.elim
 | some z =>
  rw [q] at mj;exact ⟨dd.typeIs,wpAny_getItem_of (Jl ry) dd.mapOf q ⟨v,H2,I2.tok _,mj,q2⟩⟩
end
section
noncomputable def Itm2 (d:Addr) (kvs:List (Key × V)) (o:Obj):It :=
 ⟨λi H=>i < kvs.length/\H d=some (ae:),λi H x H'=>∃ q k v,H q=none/\x=.ref q/\kvs[i]?=some (k,v)/\H'=upd H q (.tup [kV k,v]),λi H=>kvs.length<=i/\H d=some (ae:)⟩
def Zjb {P:Program} {w:World} {K:W.Frag} {oa:List Expr} {x1:Nat} {pos:Pos} (d it:Addr) (kvs:List (Key × V)) (o:Obj) :
  Turn P w K (.Tuple oa x1 pos) (Itm2 d kvs o) [it] it (λi h=>∃ a b,IsItemIter h it d i kvs.length (epOf o) a b) where
 mem:=by simp
 obj:=λi h st b hb=>by
  have e:b=it:=by simpa using hb
  subst e;obtain ⟨a,c,z⟩:=st;exact ⟨_,z,λv y=>by
   have y':Data.fields _=Data.cell v:=y
   cases y'⟩
 keep:=λi h h' st k=>by
  obtain ⟨a,c,z⟩:=st;exact ⟨a,c,k it (by simp) _ z⟩
 item:=by
  intro X hP hw hK hc i j4 s σ H E I hf st hg;subst hP hw hK;obtain ⟨hi,hq⟩:=hg;obtain ⟨vs,ep,kl,da,ho⟩:=Qp I hq;have uc:=Gy da ho;subst uc;obtain ⟨f0,f1,f2,f3,f4,f5⟩:=hf it (by simp);obtain ⟨⟨k,v⟩,hx⟩:∃ p,kvs[i]?=some p:=⟨_,Ac hi⟩;obtain ⟨u,hu,ru⟩:=kl.at hx;have j7:vs.length=kvs.length:=kl.length.symm;obtain ⟨a0,b0,st⟩:=st;rw [<- j7] at st;have itlt:=Ao st;refine wpAny_pyNext_items_item st da hu λkey h' hk on ht hsz kk=>?_;rw [j7] at on;refine ⟨.ref s.heap.objs.size,Y,wpAny_letOwnedTupleGo_items on λtw st'' sb=>?_⟩;have kz:∀ b z,b≠it->s.heap.get? b=some z->tw.get? b=some z:=λb z hb e=>(sb.2 b hb).trans (kk b z hb e);have uf:tw.get? s.heap.objs.size=some { cls:=.type "tuple",data:=.seq #[key,u] }:=(sb.2 _ (Nat.ne_of_gt itlt)).trans ht;have hn:H s.heap.objs.size=none:=I.hok.fresh (An _)
  have I2:Inv X j4 σ (upd H s.heap.objs.size (.tup [kV k,v])) { s with heap:=tw }:=by
   refine I.step (g':=s.gens) (d':=s.drawn) (ch:=[it]) (λb hb=>?_) (λb o _ _ hc q _=>kz b o (az:) q) (λb o _ _ hc q _=>⟨o.slots,kz b o (az:) q⟩) (λb o _ q n=>by rw [Ze (As (Ao q))]; exact n)
    (λb o hc q=>⟨o,kz b o (az:) q⟩) (λb ys q=>by rw [Ze (Zk q hn)]; exact q) (λb o ys q=>by rw [Ze (Zk q hn)]; exact q) (λb ps q=>(eh:)) (λm hm=>?_) (λb v' q=>?_) I.bare
   ·have z:b=it:=by simpa using hb
    subst z; exact ⟨f3,f1,f4,f5⟩
   ·obtain ⟨o,es,ep,ho,r⟩:=hm
    exact ⟨o,es,ep,kz _ o (Ne.symm f1) ho,r⟩
   ·by_cases hb:b=s.heap.objs.size
    ·subst hb
     rw [Zc] at q;cases q;exact ⟨by show 2<=sizeLine; decide,[key,u],.cons (Ztw hk) (.cons ru .nil),⟨_,uf,rfl,_,rfl⟩⟩
    ·rw [Ze hb] at q
     refine (I.hok b v' q).stay (λc w' hc z=>kz c w' ?_ z) (λd z=>by rw [Ze (Zk z hn)]; exact z) λd ys z=>by rw [Ze (Zk z hn)]; exact z
     rintro rfl
     rcases hc with z | z
     ·rw [z,q] at f0; cases f0
     ·rw [f0] at z; cases z
  refine ⟨.ref s.heap.objs.size,_,I2,Y,⟨_,k,v,hn,Y,hx,Y⟩,⟨_,_,st''⟩,λb hb=>?_⟩;have z:b=it:=by simpa using hb
  subst z; rw [Ze (As itlt)]; exact f0
 done:=by
  intro X hP hw hK hc i j4 s σ H E I hf st hg;subst hP hw hK;obtain ⟨hi,hq⟩:=hg;obtain ⟨vs,ep,kl,da,ho⟩:=Qp I hq;have uc:=Gy da ho;subst uc;obtain ⟨f0,f1,f2,f3,f4,f5⟩:=hf it (by simp);have j7:vs.length=kvs.length:=kl.length.symm;obtain ⟨a0,b0,st⟩:=st;rw [<- j7] at st;exact wpAny_pyNext_items_end (ce:) st da (by rw [Ay]; lia) λh' eb=>(G:)
 self:=λ_ _ _ _ _ st h=>by
  obtain ⟨a,b,st⟩:=st;exact PySem.W.kcp_self st h
variable {X:Cx} {l:Expr} {tl:TE}
def Qj {oa:List Expr} {x1:Nat} {qe kf kd:Pos} (hl:PE X l tl) (m:M0 X l "items" kf kd):PI X (.Tuple oa x1 qe) (.Call (.Attribute l "items" kf) [] [] kd) (Zpl Itm2 tl):=by
 intro j4 s σ H R I h;refine wpAny_Call_method m.base m.few m.line PySem.F.plainAttrs_dict PySem.F.slot_dict_items PySem.F.type_dict_items (thn (hl j4 s σ H _ I h) λv s1 j9=>?_);obtain ⟨x,H1,I1,r1,q1⟩:=j9;obtain ⟨a,kvs,e,q⟩:=q1;subst e;cases r1;obtain ⟨o,H2,e2,I2,q2⟩:=Zgx (R:=λo H=>R (Itm2 a kvs o) H) I1 q;obtain ⟨vs,ep,kl,da,ho⟩:=Qp I2 e2;have uc:=Gy da ho;subst uc;obtain ⟨_,_,qh,_⟩:=I2.hok a _ e2;have isd:IsD H2 a:=.inl ⟨kvs,.inr ⟨o,e2⟩⟩;obtain ⟨t1,t2,_⟩:=Zbp I2 isd;refine ⟨t1,t2,?_⟩;refine Calls.callWith_builtin Y (PyProof.Rows.evalArgs_empty ?_);refine call_meetsIn PySem.F.slot_dict_items da.dictOf.typeIs PySem.F.entry_dict_items (PySem.F.args_dict_items_1 _) (meets_dict_items (Ya X.prog X.w) a qh) ⟨⟨vs,da.dictOf⟩,?_⟩;have I3:Inv X j4 σ H2 { s1 with heap:=s1.heap.push { cls:=.type "dict_items",data:=.fields #[.ref a] } }:=I2.kept (t':=s1.toks) λb o e=>Ak _ e;refine wpAny_pyIter_items ⟨_,Ap _ Y,Y,Y⟩ (da.push _) ?_;have j7:vs.length=kvs.length:=kl.length.symm;rw [j7];refine ⟨(c5:).objs.size,[(c5:).objs.size],_,_,H2,rfl,I3.kept (t':=s1.toks) λb o e=>Ak _ e,Zjb a _ kvs o,⟨_,_,Ap _ rfl⟩,λb hb=>?_,q2⟩;have e:b=(c5:).objs.size:=by simpa using hb
 subst e;exact I3.fpOk (An _) (I3.hok.fresh (An _))
def Zdk {kvs:List (Key × V)} {g:TG} {tb:TS} {D:Ends} (Pv:Nat->St->Hp->Prop) (h0:Pv 0 σ H) (hl:∀ i σ H,i<=kvs.length->Pv i σ H->H d=some (ae:))
  (hs:∀ i k x σ H q,kvs[i]?=some (k,x)->H q=none->Pv i σ H->g (.ref q) σ (upd H q (.tup [kV k,x])) λσ2 H2=>tb { D with nx:=Pv (i + 1),ct:=Pv (i + 1),bk:=D.nx } σ2 H2) (hd:∀ σ H,Pv kvs.length σ H->D.nx σ H) :
  ∃ W:Nat->Nat->St->Hp->Prop,(de:)/\∀ i m σ H,W i m σ H ->
   ((Itm2 d kvs o).stop i H/\D.nx σ H)\/((Itm2 d kvs o).go i H/\∃ N:St->Hp->Prop,(q:)/\∀ x H',(Itm2 d kvs o).yld i H x H'->g x σ H' λσ2 H2=>tb { D with nx:=N,ct:=N,bk:=D.nx } σ2 H2):=by
 refine (a6:);rintro i m σ H ⟨rfl,hi,p⟩;have q:=hl i σ H hi p;by_cases kn:i < kvs.length
 ·refine .inr ⟨⟨kn,q⟩,Pv (i + 1),λσ' H' p'=>⟨kvs.length - (i + 1),by lia,Y,kn,p'⟩,λx H' y=>?_⟩
  obtain ⟨c,k,v,hn,e1,y,e2⟩:=y;subst e1 e2;exact hs i k v σ H c y hn p
 ·have e:i=kvs.length:=by lia
  subst e;exact .inl ⟨⟨An _,q⟩,hd σ H p⟩
end
section
noncomputable def Itr3 (lo st:Int) (n:Nat):It:=⟨λi _=>i < n,λi H x H'=>H'=H/\x=.int (lo + i * st),λi _=>n<=i⟩
def G4 {P:Program} {w:World} {K:W.Frag} {tg:Expr} (it:Addr) (lo st:Int) (n:Nat):Turn P w K tg (Itr3 lo st n) [it] it (λi h=>IsRangeIter h it (lo + (i:Nat) * st) ((n:Int) - (i:Nat)) st) where
 mem:=by simp
 obj:=λi h st b hb=>by
  have e:b=it:=by simpa using hb
  subst e;exact ⟨_,st,λv z=>by
   have z':Data.fields _=Data.cell v:=z
   cases z'⟩
 keep:=λi h h' st k=>k it (by simp) _ st
 item:=by
  intro X hP hw hK hc i j4 s σ H E I hf on hg;subst hP hw hK;obtain ⟨f0,f1,f2,f3,f4,f5⟩:=hf it (by simp);have W:=Walks.range (prog:=X.prog) (w:=X.w) (ce:) it lo st n;refine W.item i s _ _ hg on λv h' tk hv mf kk=>?_;obtain ⟨t,rfl⟩:=hv;have I1:Inv X j4 σ H { s with heap:=h',toks:=tk }:=I.turned (λb o hb e=>kk b o (by simpa using hb) e) f0 f1 f3 f4 f5;exact ⟨_,Y,Gu (s:={ s with heap:=h',toks:=tk }) (n:="range_iterator") mf rfl rfl (c:) ⟨.int (lo + i * st),H,I1,⟨t,rfl⟩,⟨rfl,rfl⟩,mf,λb hb=>(hf b hb).1⟩⟩
 done:=by
  intro X hP hw hK hc i j4 s σ H E I hf on hg;subst hP hw hK;obtain ⟨f0,f1,f2,f3,f4,f5⟩:=hf it (by simp);exact wpAny_pyNext_range_end (ce:) on (by have:n<=i:=hg; lia) λh' eb=>(G:)
 self:=λ_ _ _ _ _ st h=>wpAny_pyIter_rangeiter st h
end
section
variable {X:Cx} {tg:Expr}
def Zt1 (ta:TA):TI:=λσ H R=>ta σ H λvs H1=>∃ n:Nat,vs=[.int 0,.int (3 * n:Nat),.int 3]/\n<=1000/\R (Itr3 0 3 n) H1
def Zlj {j4:List (p:)} {σ:St} {H:Hp} {s:Shared} {R:It->Hp->Prop} {E:Value->Shared->Prop} {n:Nat} {t u v:Tok} {tk:Nat} (I:Inv X j4 σ H s) (hn:n<=1000)
  (q:R (Itr3 0 3 n) H):wpAny (d:) X.A (pyIter (x:)) (PIE X j4 σ tg R) E { s with heap:=s.heap.push { cls:=.type "range",data:=.fields #[.int 0 t,.int (3 * n:Nat) u,.int 3 v] },toks:=tk }:=by
 have hr:Builtin.Range.rangeSize 0 ((3 * n:Nat):Int) 3=n:=by
  unfold Builtin.Range.rangeSize;rw [if_pos (c:)];split <;> lia
 have hsm:Builtin.Range.small 0 ((3 * n:Nat):Int) 3=true:=by
  unfold Builtin.Range.small;rw [hr];have e:∀ z:Int,-(2 ^ 62)<=z->z < 2 ^ 62->Builtin.Range.rangeFitsLong z=true:=λz h1 h2=>by
   unfold Builtin.Range.rangeFitsLong
   rw [Bool.and_eq_true,decide_eq_true_eq,decide_eq_true_eq]
   lia
  have e2:=e ((3 * n:Nat):Int) (by lia) (by lia);have e4:=e (n:Int) (by lia) (by lia);have e5:=e (((3 * n:Nat):Int) + (3 - 1)) (by lia) (by lia);rw [e 0 (c:) (c:),e2,e 3 (c:) (c:),e4,if_pos (c:),e5,Bool.or_true];rfl
 refine wpAny_pyIter_range (IsRange.new ..) hsm ?_;have I1:Inv X j4 σ H { s with heap:=s.heap.push { cls:=.type "range",data:=.fields #[.int 0 t,.int (3 * n:Nat) u,.int 3 v] },toks:=tk }:=I.kept λb o e=>Ak _ e;refine ⟨(bh:).objs.size,[(bh:).objs.size],_,_,H,rfl,
  I1.kept (t':=tk) λb o e=>Ak _ e,G4 _ 0 3 n,?_,λb hb=>?_,q⟩
 ·show IsRangeIter _ _ ((0:Int) + (ca:) * 3) (((n:Nat):Int) - (ca:)) 3
  have e1:(0:Int) + (ca:) * 3=0:=by simp
  have e2:((n:Nat):Int) - (ca:)=Builtin.Range.rangeSize 0 ((3 * n:Nat):Int) 3:=by rw [hr]; simp
  rw [e1,e2];exact Ap _ Y
 ·have e:b=(bh:).objs.size:=by simpa using hb
  subst e;exact I1.fpOk (An _) (eo:)
def Zlq {a b c:Expr} {ta:TA} {p pos:Pos} (hg:Gl X "range") (hm:X.mg "range"=none) (ha:PA X [a,b,c] ta) (hs:starEach [a,b,c] X.env=[(false,eval a X.env),(false,eval b X.env),(false,eval c X.env)]:=by rfl) (qo:starEach [b,c] X.env=[(false,eval b X.env),(false,eval c X.env)]:=by rfl) :
  PI X tg (.Call (.Name "range" p) [a,b,c] [] pos) (Zt1 ta):=by
 intro j4 s σ H R I h;refine Call_ (We I hg hm boot_range (d5:));obtain ⟨n,e,hn,q⟩:=q1;subst e
 cases r1 with
 | cons r rr =>
  cases rr with
  | cons r' rr =>
   cases rr with
   | cons r'' rr =>
    cases rr;obtain ⟨t,rfl⟩:=r;obtain ⟨t',rfl⟩:=r';obtain ⟨t'',rfl⟩:=r'';exact call_range_3 (c:) (Zlj I1 hn q) (.inl (PyProof.noPylong_small (c:)))
def Zhy {lo st:Int} {n:Nat} {g:TG} {tt:TT} {tb:TB} {R:St->Hp->Prop} {σ:St} {H:Hp} (Pv:Nat->St->Hp->Prop) (h0:Pv 0 σ H)
  (hs:∀ (i:Nat) σ H,i < n->Pv i σ H->g (.int (lo + i * st)) σ H λσ2 H2=>tt σ2 H2 λb H3=>if b=true then tb σ2 H3 (Pv (i + 1)) else Pv (i + 1) σ2 H3) (hd:∀ σ H,Pv n σ H->R σ H):W6 (Itr3 lo st n) g tt tb R σ H:=by
 refine (a2:);rintro i m σ H ⟨rfl,hi,p⟩;by_cases kn:i < n
 ·refine .inr (aq:)
  obtain ⟨e,y⟩:=y;subst e y;exact hs i σ _ kn p
 ·have e:i=n:=by lia
  subst e;exact .inl ⟨An _,hd σ H p⟩
end
section
variable {X:Cx} {fr:Bool} {pos:Pos}
def Ztl (te:TEX) (g:TG):TSX:=λD R σ H=>te σ H (kAsg g σ D.nx) (kR R σ)
def Zqc {tg e:Expr} {te:TEX} {g:TG} (he:PEX fr X e te) (hg:PG X tg g) (hs:swapsWithSole [tg] e pos.line X.env=pure false:=by rfl) (hw:swappedStores [tg] e X.env=pure none:=by rfl)
  (h1:(assignEach [tg] X.env).map (·.2)=[assign tg X.env]:=by rfl) (hx:X.xe=(ci:):=by rfl):PSX fr X (.Assign [tg] e pos) (Ztl te g):=by
 intro j4 s σ H D R I h;refine wpAny_Assign_stores (wpAny_mono (he j4 s σ H _ _ I h) (λv s1 ⟨x,H1,I1,r1,q1⟩=>?_) ?_) hs hw
 ·rw [h1]
  have z:=hg j4 s1 σ H1 x v _ I1 r1 q1;rw [hx] at z;exact wpAny_mono z (λ_ _ y=>y) λ_ _ y=>y.elim
 ·rintro ev s1 ⟨e,T,cls,a0,σ',H',g1,g2,g3,g4,g5,g7,rfl,g6⟩
  exact ⟨e,T,cls,a0,σ',H',g1,g2,g3,g4,g5,g7,g6⟩
end
def Zns {X:Cx} (K:W.Frag) (h:X.K=K:=by rfl):SlR X (rSlL K):=h ▸ Wl
def kdict_mk2 {w:World} {K:W.Frag} {a:Addr} {h1 h2:Int} {t1 t2 t3 t4:Tok} {ep:Nat} {x1 y1 x2 y2:Str}
  (l:K.lookup a=some ⟨.type "dict",none,.dict #[⟨h1,.str x1 t1,.str y1 t2⟩,⟨h2,.str x2 t3,.str y2 t4⟩] ep,#[]⟩) (e1:h1=hashStr w x1) (e2:h2=hashStr w x2) (ne:x1≠x2) (sy:(cs:)=false) :
  Vh w K a [(Sum.inr x1,.str y1),(Sum.inr x2,.str y2)]:=by
 refine ⟨_,_,_,[(Sum.inr x1,.str y1 t2),(Sum.inr x2,.str y2 t4)],l,⟨Y,Y,Y⟩,Y,λe he=>?_,λP=>?_,?_,?_,sy⟩
 ·have he:e=⟨h1,.str x1 t1,.str y1 t2⟩\/e=⟨h2,.str x2 t3,.str y2 t4⟩:=by simpa using he
  rcases he with rfl | rfl
  ·exact ⟨Sum.inr x1,Y0 x1 t1,e1⟩
  ·exact ⟨Sum.inr x2,Y0 x2 t3,e2⟩
 ·exact .cons (Y0 x1 t1) Y (.cons (Y0 x2 t3) Y .nil)
 ·refine nodup_cons.mpr ⟨?_,by simp⟩
  simp [ne]
 ·exact .cons ⟨Y,⟨_,Y⟩⟩ (.cons ⟨Y,⟨_,Y⟩⟩ .nil)
section
variable {X:Cx}
def rEqL (K:W.Frag):R2:=λx y H Q=>∃ a b ns ms,x=.ref a/\y=.ref b/\SqL K H a (List.map V.int ns)/\SqL K H b (List.map V.int ms)/\Q (.bl (decide (ns=ms))) H
def rNeL (K:W.Frag):R2:=λx y H Q=>∃ a b ns ms,x=.ref a/\y=.ref b/\SqL K H a (List.map V.int ns)/\SqL K H b (List.map V.int ms)/\Q (.bl (!decide (ns=ms))) H
def Zsi (hu:X.A.units + 64 < cLine):OpR X (compareOp .Eq) (rEqL X.K):=by
 intro j4 s σ H x y v u Q I rx ry h;obtain ⟨a,b,ns,ms,rfl,rfl,ha,hb,q⟩:=h;cases rx;cases ry;obtain ⟨ia,ra,pa,_⟩:=I.list ha;obtain ⟨ib,rb,pb,_⟩:=I.list hb;exact PySem.W.eq_intsK pa.isList (Qa ra) pb.isList (Qa rb) hu ⟨.bl _,H,I,Y,q⟩
def Zly (hu:X.A.units + 64 < cLine):OpR X (compareOp .NotEq) (rNeL X.K):=by
 intro j4 s σ H x y v u Q I rx ry h;obtain ⟨a,b,ns,ms,rfl,rfl,ha,hb,q⟩:=h;cases rx;cases ry;obtain ⟨ia,ra,pa,_⟩:=I.list ha;obtain ⟨ib,rb,pb,_⟩:=I.list hb;exact PySem.W.ne_intsK pa.isList (Qa ra) pb.isList (Qa rb) hu ⟨.bl _,H,I,Y,q⟩
def Znc (bs:List Bool):((List.range bs.length).all λi=>bs.getD i true)=bs.all id:=by
 rw [Bool.eq_iff_iff,all_eq_true,all_eq_true];constructor
 ·intro h b hb
  obtain ⟨i,hi,rfl⟩:=mem_iff_getElem.mp hb;have:=h i (mem_range.mpr hi);rw [Ad,Ac hi] at this;exact this
 ·intro h i hi
  have hi:=mem_range.mp hi;rw [Ad,Ac hi];exact h _ (getElem_mem hi)
def Zak (hc:X.calm=true):Y2 X (.builtin "all") (λxs H Q=>∃ p bs,xs=[.ref p]/\SqL X.K H p (List.map V.bl bs)/\Q (.bl (bs.all id)) H):=by
 intro j4 s σ H xs us Q I r h;obtain ⟨p,bs,rfl,hq,q⟩:=h;obtain ⟨u,rfl,ru⟩:=Xg r;cases ru;obtain ⟨its,rv,pl,hz⟩:=I.list hq;have ne:p≠s.heap.objs.size:=by obtain ⟨o,ho,_⟩:=pl.isList; exact As (Ao ho)
 refine call_all_walk (ak:)
 ·intro i v s' Q' E' hv my
  have hv:its[i]?=some v:=by simpa using hv
  have j7:=rv.length;rw [Ab] at j7;have hi:i < bs.length:=by have:=(Aa hv).1; lia
  obtain ⟨u,hu,ru⟩:=rv.get (show (bs.map V.bl)[i]?=some (V.bl bs[i]) by rw [Ah,Ac hi]; rfl);rw [hv] at hu;cases hu;cases ru;have e:bs.getD i true=bs[i]:=by rw [Ad,Ac hi]; rfl
  refine wpAny_truthy_bool ?_;have my:Q' (bs.getD i true) s':=my;rw [e] at my;exact my
 ·intro h' tk hk
  have I1:Inv X j4 σ H { s with heap:=h',toks:=tk }:=I.kept λb o e=>hk b o (as:) (Ak _ e);have j7:its.toArray.size=bs.length:=by have:=rv.length; rw [Ab] at this; simp; lia
  refine ⟨.bl (bs.all id),H,I1,?_,q⟩;show Value.bool _=_;rw [j7,Znc]
end
section
variable {prog:Program} {w:World} {A:Around} {E:Value->Shared->Prop} {s:Shared}
abbrev upIt (a n:Int):Obj:={ cls:=.type "range_iterator",data:=.fields #[rawInt (a + (n - 1) * 1),rawInt n,rawInt (-1)] }
def U1 (h1:-(2 ^ 62)<=z) (h2:z < 2 ^ 62):Builtin.Range.rangeFitsLong z=true:=by
 unfold Builtin.Range.rangeFitsLong;rw [Bool.and_eq_true,decide_eq_true_eq,decide_eq_true_eq];lia
def Zny (r:Addr) (a b:Int) (t u v:Tok) (hs:(t:)=true) :
  Meets (Builtin.«range.__reversed__» ⟨[.ref r],[]⟩) (λ_ R s=>IsRange s.heap r a b 1 t u v/\R (.ok (.ret (x:))) { s with heap:=s.heap.push (d0:) }) :=
 .of_wp λprog w A R s h=>by
  obtain ⟨hp,g,d,tk,os⟩:=s;obtain ⟨hl,h⟩:=h;unfold Builtin.«range.__reversed__»;refine Al (wpAny_of_eq (a:=Value.ref r) Y ?_);refine Al (m:=Builtin.Range.rangeFields (.ref r)) ?_;unfold Builtin.Range.rangeFields;refine Al (wpAny_field hl Y (x:=.int a t) Y ?_);refine Al (wpAny_of_eq (a:=some a) Y ?_);refine Al (wpAny_field hl Y (x:=.int b u) Y ?_);refine Al (wpAny_of_eq (a:=some b) Y ?_);refine Al (wpAny_field hl Y (x:=.int 1 v) Y ?_);refine Al (wpAny_of_eq (a:=some 1) Y ?_);refine wpAny_pure ?_;dsimp only;simp only [hs,Bool.not_true,Bool.false_eq_true,if_false,if_true];exact Al (wpAny_newObj_type (wpAny_pure ⟨_,Y,h⟩))
def Zr0:isSubtype (.type "range_iterator") (.type "reversed")=pure false:=by
 rw [isSubtype_type]
 kernel_rfl
def Zp7 {t:Tok} (hr:IsRange s.heap r a b 1 t u v)
  (hs:(t:)=true)
  (q:Z (x:) { s with heap:=s.heap.push (d0:) }) :
  codeAny (Y:) A (.call (.builtin "reversed.__new__") ⟨[.type "reversed",.ref r],[]⟩) (wants Z E) s:=by
 have hT:s.TypeIs (.ref r) "range":=⟨_,hr,rfl⟩;refine codeAny_of_tree (show wpAny _ A.in1 (checkBuiltinCall "reversed.__new__" ⟨[.type "reversed",.ref r],[]⟩ >>= λ_=>again (.builtin "reversed.__new__" ⟨[.type "reversed",.ref r],[]⟩)) _ _ s from ?_);refine Al (wpAny_of_eq (PySem.F.newCall_reversed_1 (.ref r)) (wpAny_pure ⟨plainId_quiet PySem.F.plain_reversed_new _,codeAny_builtin PySem.F.entry_reversed_new ?_⟩));rw [Around.under_plainId PySem.F.plain_reversed_new _];unfold Builtin.«reversed.__new__»;refine Al (wpAny_of_eq (newClass_reversed (.ref r)) ?_);refine Al (wpAny_of_eq (a:=()) (by first | rfl | kernel_rfl) (Al (wpAny_of_eq (a:=()) (by first | rfl | kernel_rfl) ?_)));refine Al (wpAny_specialOf hT PySem.F.slot_range_reversed.lookup (Al (wpAny_of_eq (PySem.F.slot_range_reversed.bind (.ref r)) ?_)));have ne:¬ ((Value.builtin "range.__reversed__" == Value.none)=true):=Bool.false_ne_true;dsimp only
 first | rw [if_neg ne] | (show wpAny _ _ (if (Value.builtin "range.__reversed__" == Value.none)=true then _ else _) _ _ _; rw [if_neg ne])
 refine Al (wpAny_rule (Al (m:=runValue (.call (.builtin "range.__reversed__") ⟨[.ref r],[]⟩)) ?_));show wpAny _ _ (call (.builtin "range.__reversed__") [.ref r]) _ _ _;refine call_meets PySem.F.slot_range_reversed hT PySem.F.entry_range_reversed (PySem.F.args_range_reversed_1 _) (Zny r a b t u v hs) ⟨hr,?_⟩
 first | exact wpAny_pure q | exact Al (wpAny_pure (wpAny_pure q))
def Zp8 {t:Tok} (hr:IsRange s.heap r a b 1 t u v)
  (hs:(t:)=true)
  (q:Q (x:) { s with heap:=s.heap.push (d0:) }):wpAny (Y:) A (call (.type "reversed") [.ref r]) Q E s:=by
 refine callType_other (U:="range_iterator") (Q₁:=λo z=>o=.ref s.heap.objs.size/\z={ s with heap:=s.heap.push (d0:) }) (h:) PySem.F.create_reversed ⟨_,_,PySem.F.mro_reversed⟩ PySem.F.made_reversed Zr0 (PySem.F.typeCall_reversed_1 _) (Zp7 hr hs ⟨rfl,rfl⟩) ?_;rintro o z ⟨rfl,rfl⟩;exact ⟨⟨_,Ap _ Y,Y⟩,q⟩
end
section
variable {X:Cx} {tg:Expr}
def Zt3 (ta:TA):TI:=λσ H R=>ta σ H λvs H1=>∃ (i:Int) (n:Nat),vs=[.int i,.int (i + n)]/\0<=i/\i + n<=100000/\R (Itr3 (i + n - 1) (-1) n) H1
def Zqf {a b:Expr} {ta:TA} {p1 p2 pos pk:Pos} (hgl:Gl X "reversed") (wv:X.mg "reversed"=none) (hg:Gl X "range") (hm:X.mg "range"=none) (ha:PA X [a,b] ta) (hs:starEach [a,b] X.env=[(false,eval a X.env),(false,eval b X.env)]:=by rfl) (sk:starEach [b] X.env=[(false,eval b X.env)]:=by rfl)
  (qo:starEach [.Call (.Name "range" p2) [a,b] [] pk] X.env=[(false,eval (.Call (.Name "range" p2) [a,b] [] pk) X.env)]:=by rfl):PI X tg (.Call (.Name "reversed" p1) [.Call (.Name "range" p2) [a,b] [] pk] [] pos) (Zt3 ta):=by
 intro j4 s σ H R I h;refine Call_ (We I hgl wv boot_reversed (PyProof.Rows.callWith_type1 ?_ qo Y));rw [qo];refine Calls.spliced_cons ?_;refine Call_ (We I hg hm boot_range (PyProof.Rows.callWith_type1 (thn (ha pk j4 s σ H _ I h) λus s1 ⟨vs,H1,I1,r1,q1⟩=>?_) (by rw [hs,sk]) (by rw [sk]; rfl)));obtain ⟨i,n,e,h0,h1,q⟩:=q1;subst e;obtain ⟨u,v,rfl,ru,rv⟩:=r1.two;obtain ⟨t,rfl⟩:=ru;obtain ⟨t',rfl⟩:=rv;refine call_range_2 (Calls.spliced_nil ?_);have hr:Builtin.Range.rangeSize i (i + n) 1=n:=by rw [rangeSize_one]; split <;> lia
 have fits:(Builtin.Range.rangeFitsLong i && Builtin.Range.rangeFitsLong (i + n) && Builtin.Range.rangeFitsLong 1 && Builtin.Range.rangeFitsLong (-1) && Builtin.Range.rangeFitsLong (i - 1) && Builtin.Range.rangeFitsLong (Builtin.Range.rangeSize i (i + n) 1))=true:=by
  rw [hr,U1 (by lia) (by lia),U1 (by lia) (by lia),U1 (c:) (c:),U1 (c:) (c:),U1 (by lia) (by lia),U1 (by lia) (by lia)];rfl
 refine Zp8 (IsRange.new ..) fits ?_;rw [hr];have I2:Inv X j4 σ H1 { s1 with heap:=s1.heap.push { cls:=.type "range",data:=.fields #[.int i t,.int (i + n) t',.int 1 s1.toks] },toks:=s1.toks + 1 }:=I1.kept λb o e=>Ak _ e;have st:IsRangeIter ((X:).push (upIt i n)) (X:).objs.size (i + n - 1 + (ca:) * (-1)) ((n:Int) - (ca:)) (-1):=by
  have e1:i + (n:Int) - 1 + (ca:) * (-1)=i + ((n:Int) - 1) * 1:=by simp; lia
  have e2:(n:Int) - (ca:)=n:=by simp
  rw [e1,e2]
  exact Ap _ Y
 refine wpAny_pyIter_rangeiter st ?_;refine ⟨_,[(X:).objs.size],_,_,H1,rfl,I2.kept (t':=s1.toks + 1) λb o e=>Ak _ e,G4 _ (i + n - 1) (-1) n,st,λb hb=>?_,q⟩;have e:b=(X:).objs.size:=by simpa using hb
 subst e;exact I2.fpOk (An _) (I2.hok.fresh (An _))
def Zkg {lo st:Int} {n:Nat} {g:TG} {tb:TS} {D:Ends} {σ:St} {H:Hp} (Pv:Nat->St->Hp->Prop) (h0:Pv 0 σ H)
  (hs:∀ (i:Nat) σ H,i < n->Pv i σ H->g (.int (lo + i * st)) σ H λσ2 H2=>tb { D with nx:=Pv (i + 1),ct:=Pv (i + 1),bk:=D.nx } σ2 H2) (hd:∀ σ H,Pv n σ H->D.nx σ H) :
  ∃ W:Nat->Nat->St->Hp->Prop,(de:)/\∀ i m σ H,W i m σ H ->
   ((Itr3 lo st n).stop i H/\D.nx σ H)\/((Itr3 lo st n).go i H/\∃ N:St->Hp->Prop,(q:)/\∀ x H',(Itr3 lo st n).yld i H x H'->g x σ H' λσ2 H2=>tb { D with nx:=N,ct:=N,bk:=D.nx } σ2 H2):=by
 refine (a2:);rintro i m σ H ⟨rfl,hi,p⟩;by_cases kn:i < n
 ·refine .inr (aq:)
  obtain ⟨e,y⟩:=y;subst e y;exact hs i σ _ kn p
 ·have e:i=n:=by lia
  subst e;exact .inl ⟨An _,hd σ H p⟩
def Jh (K:W.Frag) (hc:X.calm=true) (h:PGs X es t)
  (hn:(dq:).length=n:=by rfl) (mh:(dq:).findIdx? (·.1)=none:=by rfl) (hk:X.K=K:=by rfl):PG X (.Tuple es k pos) (gTup K n t):=hk ▸ Wr hc h hn mh
end
end L2
namespace KT
open PySem L2
noncomputable def mV:Option Nat->V
 | none=>.non
 | some j=>.int j
structure TD (M:Lq) (ns:List Int):Prop where
 n:∃ n,1<=n/\n<=40/\M.length=3 * n
 len:ns.length=M.length
 inv:∀ (i j:Nat),M[i]?=some (some j)->M[j]?=some (some i)/\i≠j
 rng:∀ (i:Nat) x,ns[i]?=some x->0<=x/\x<=9999
 eqv:∀ (i j:Nat) x,ns[i]?=some x->ns[j]?=some x->i=j\/M[i]?=some (some j)
 eqm:∀ (i j:Nat),M[i]?=some (some j)->ns[j]?=ns[i]?
structure SewOk (N:Nat) (F:List Nat) (M:Lq):Prop where
 len:M.length=N
 nd:F.Nodup
 free:∀ f∈F,f < N/\M[f]?=some none
 inv:∀ (i j:Nat),M[i]?=some (some j)->M[j]?=some (some i)/\i≠j
def SewOk.start (N:Nat):SewOk N (List.range N) (List.replicate N none):=by
 refine ⟨by simp,nodup_range,λf hf=>?_,λi j h=>?_⟩
 ·have h:=mem_range.mp hf
  exact ⟨h,by rw [getElem?_replicate,if_pos h]⟩
 ·rw [getElem?_replicate] at h
  split at h <;> cases h
def SewOk.skip {one:Nat} (h:SewOk N (one :: F) M):SewOk N F M :=
 ⟨h.len,(nodup_cons.mp h.nd).2,λf hf=>h.free f (mem_cons_of_mem _ hf),h.inv⟩
def SewOk.pair {F:List Nat} {M:Lq} (h:SewOk N (one :: F) M) (hk:F[k]?=some other):SewOk N (F.eraseIdx k) (cz:):=by
 obtain ⟨n1,n2⟩:=nodup_cons.mp h.nd;have hm:other∈F:=Au hk;have kq:one≠other:=λz=>n1 (z ▸ hm);obtain ⟨h1,f1⟩:=h.free one mem_cons_self;obtain ⟨h2,f2⟩:=h.free other (mem_cons_of_mem _ hm);have l1:one < M.length:=by rw [h.len]; exact h1
 have l2:other < M.length:=by rw [h.len]; exact h2
 have g1:(cz:)[one]?=some (some other):=by
  rw [getElem?_set_ne (Ne.symm kq),getElem?_set_self l1]
 have g2:(cz:)[other]?=some (some one):=by
  rw [getElem?_set_self (by rw [length_set]; exact l2)]
 have g3:∀ i,i≠one->i≠other->(cz:)[i]?=M[i]?:=λi a b=>by
  rw [getElem?_set_ne (Ne.symm b),getElem?_set_ne (Ne.symm a)]
 refine ⟨by rw [length_set,length_set]; exact h.len,n2.sublist (eraseIdx_sublist F k),λf hf=>?_,λi j e=>?_⟩
 ·obtain ⟨i,hi,hik,e⟩:=mem_eraseIdx_iff_getElem.mp hf
  have fm:f∈F:=e ▸ getElem_mem hi;obtain ⟨a,b⟩:=h.free f (mem_cons_of_mem _ fm);have c1:f≠one:=λz=>n1 (z ▸ fm);have c2:f≠other:=λz=>by
   obtain ⟨tm,ek⟩:=Aa hk
   exact hik ((getElem_inj n2).mp (e.trans (z.trans ek.symm)))
  exact ⟨a,by rw [g3 f c1 c2]; exact b⟩
 ·by_cases c1:i=one
  ·subst c1
   rw [g1] at e;cases e;exact ⟨g2,kq⟩
  ·by_cases c2:i=other
   ·subst c2
    rw [g2] at e;cases e;exact ⟨g1,Ne.symm kq⟩
   ·rw [g3 i c1 c2] at e
    obtain ⟨a,b⟩:=h.inv i j e;have d1:j≠one:=λz=>by rw [z,f1] at a; cases a
    have d2:j≠other:=λz=>by rw [z,f2] at a; cases a
    exact ⟨by rw [g3 j d1 d2]; exact a,b⟩
noncomputable def nm (s t:Int) (i:Nat):Int:=(s + t * i) % 10000
noncomputable def rep (M:Lq) (i:Nat):Nat:=match M[i]? with
 | some (some j)=>if j < i then j else i
 | _=>i
noncomputable def flat (M:Lq) (s t:Int):List Int:=(List.range M.length).map λi=>nm s t (rep M i)
noncomputable def U8:List Int:=[1,3,7,9,37,1009,3333,9999]
def nm_d:∀ t∈U8,∀ d:Fin 42,t * ((d.val:Nat):Int) % 10000=0->d.val=0:=by decide +kernel
def Zsj (ht:t∈U8) (hi:i < 42) (hj:j < 42) (h:nm s t i=nm s t j):i=j:=by
  have key:∀ a b:Nat,b<=a->a < 42->nm s t a=nm s t b->a=b:=λa b p8 ha e=>by
    have e2:=Int.emod_eq_emod_iff_emod_sub_eq_zero.mp e;rw [Int.add_sub_add_left,<- Int.mul_sub,<- Int.natCast_sub p8] at e2;have:=nm_d t ht ⟨a - b,Nat.lt_of_le_of_lt (sub_le _ _) ha⟩ e2;exact Nat.le_antisymm (Nat.sub_eq_zero_iff_le.mp this) p8
  rcases Nat.le_total i j with h' | h'
  · exact (key j i h' hj h.symm).symm
  · exact key i j h' hi h
def Zli {N:Nat} (h:i < N):rep M i < N:=by
 unfold rep;split
 ·split <;> omega
 ·exact h
def Kq (M:Lq) (i:Nat):rep M i=i\/(∃ j,M[i]?=some (some j)/\j < i/\rep M i=j):=by
 cases e:M[i]? with
 | none=>exact .inl (by unfold rep; rw [e])
 | some o =>
  cases o with
  | none=>exact .inl (by unfold rep; rw [e])
  | some j =>
   by_cases h:j < i
   ·exact .inr ⟨j,Y,h,by unfold rep; rw [e]; exact if_pos h⟩
   ·exact .inl (by unfold rep; rw [e]; exact if_neg h)
def Zai {M:Lq} (h:(flat M s t)[i]?=some x):i < M.length/\x=nm s t (rep M i):=by
 unfold flat at h;rw [Ah] at h;by_cases hi:i < M.length
 ·rw [getElem?_range hi] at h
  exact ⟨hi,(Ax h).symm⟩
 ·rw [Ay (by simpa using hi)] at h
  cases h
def Ziy {M:Lq} (hi:i < M.length):(flat M s t)[i]?=some (nm s t (rep M i)):=by
 unfold flat;rw [Ah,getElem?_range hi];rfl
def Zpq {M:Lq} {n:Nat} (h1:1<=n) (h2:n<=14) (hM:M.length=3 * n) (pq:∀ (i j:Nat),M[i]?=some (some j)->M[j]?=some (some i)/\i≠j) (ht:t∈U8):TD M (flat M s t) where
 n:=⟨n,h1,by omega,hM⟩
 len:=by unfold flat; simp
 inv:=pq
 rng:=λi x h=>by
  obtain ⟨_,rfl⟩:=Zai h;unfold nm;omega
 eqv:=λi j x hi hj=>by
  obtain ⟨li,ei⟩:=Zai hi;obtain ⟨lj,ej⟩:=Zai hj;have e:rep M i=rep M j:=Zsj ht (by have:=Zli (M:=M) li; omega) (by have:=Zli (M:=M) lj; omega) (ei.symm.trans ej)
  rcases Kq M i with a | ⟨a,ha,la,ra⟩
  ·rcases Kq M j with b | ⟨b,hb,lb,rb⟩
   ·exact .inl (a.symm.trans (e.trans b))
   ·have:b=i:=by rw [<- rb,<- e,a]
    subst this;exact .inr (pq j b hb).1
  ·rcases Kq M j with b | ⟨b,hb,lb,rb⟩
   ·have:a=j:=by rw [<- ra,e,b]
    subst this;exact .inr ha
   ·have:a=b:=by rw [<- ra,e,rb]
    subst this;have c1:=(pq i a ha).1;have c2:=(pq j a hb).1;rw [c1] at c2;exact .inl (by cases c2; rfl)
 eqm:=λi j h=>by
  obtain ⟨h',kq⟩:=pq i j h;have li:i < M.length:=(Aa h).1;have lj:j < M.length:=(Aa h').1;rw [Ziy li,Ziy lj];have e:rep M j=rep M i:=by
   by_cases c:j < i
   ·have a:rep M i=j:=by unfold rep; rw [h]; exact if_pos c
    have b:rep M j=j:=by unfold rep; rw [h']; exact if_neg (by omega)
    rw [a,b]
   ·have a:rep M i=i:=by unfold rep; rw [h]; exact if_neg c
    have b:rep M j=i:=by unfold rep; rw [h']; exact if_pos (by omega)
    rw [a,b]
  rw [e]
noncomputable def pl (ns:List Int) (n:Nat) (x:Int):List Nat:=(List.range n).filter λi=>decide (ns[i]?=some x)
noncomputable def keys (ns:List Int):Nat->List Int
 | 0=>[]
 | n + 1=>match ns[n]? with
  | some x=>if x∈keys ns n then keys ns n else keys ns n ++ [x]
  | none=>keys ns n
def Xd {ns:List Int} {i:Nat}:i∈pl ns n x ↔ i < n/\ns[i]?=some x:=by
 unfold pl;rw [mem_filter,mem_range];simp
def Zn5 (ns:List Int) (n:Nat) (x:Int):(pl ns n x).Nodup:=(nodup_range).sublist filter_sublist
def Zlo (ns:List Int) (n:Nat) (x:Int):(pl ns n x).Pairwise (· < ·):=(pairwise_lt_range).sublist filter_sublist
def Zih {ns:List Int} (h:ns[n]?=some x):pl ns (n + 1) x=pl ns n x ++ [n]:=by
 unfold pl;rw [range_succ,filter_append];congr 1;simp [h]
def Zfy {ns:List Int} (h:ns[n]?≠some x):pl ns (n + 1) x=pl ns n x:=by
 unfold pl;rw [range_succ,filter_append];simp [h]
def Ww {ns:List Int} (h:ns[n]?=some x):keys ns (n + 1)=if x∈keys ns n then keys ns n else keys ns n ++ [x]:=by
 show (B:)=_;rw [h]
theorem Y8 {ns:List Int}:∀ {n:Nat} {x:Int},x∈keys ns n ↔ ∃ i,i < n/\ns[i]?=some x
 | 0,x=>by simp [keys]
 | n + 1,x=>by
  have ih:=Y8 (ns:=ns) (n:=n) (x:=x)
  have e:x∈keys ns (n + 1) ↔ x∈keys ns n\/ns[n]?=some x:=by
   cases h:ns[n]? with
   | none =>
    have:keys ns (n + 1)=keys ns n:=by
     show (B:)=_;rw [h]
    rw [this]; simp
   | some y =>
    rw [Ww h];split
    ·constructor
     ·exact .inl
     ·rintro (z | z)
      ·exact z
      ·cases z; assumption
    ·rw [mem_append,mem_singleton]
     constructor
     ·rintro (z | z)
      ·exact .inl z
      ·exact .inr (by rw [z])
     ·rintro (z | z)
      ·exact .inl z
      ·exact .inr (by cases z; rfl)
  rw [e,ih];constructor
  ·rintro (⟨i,h1,h2⟩ | h)
   ·exact ⟨i,by lia,h2⟩
   ·exact ⟨n,by lia,h⟩
  ·rintro ⟨i,h1,h2⟩
   by_cases c:i=n
   ·subst c; exact .inr h2
   ·exact .inl ⟨i,by lia,h2⟩
theorem J9 (ns:List Int):∀ n,(keys ns n).Nodup
 | 0=>nodup_nil
 | n + 1=>by
  have ih:=J9 ns n
  cases h:ns[n]? with
  | none =>
   have:keys ns (n + 1)=keys ns n:=by
    show (B:)=_;rw [h]
   rw [this]; exact ih
  | some y =>
   rw [Ww h];split
   ·exact ih
   ·rename_i c
    refine nodup_append.mpr ⟨ih,by simp,λa ha b hb=>?_⟩;rw [mem_singleton] at hb;subst hb;rintro rfl;exact c ha
theorem Vx (ns:List Int):∀ n,(keys ns n).length<=n
 | 0=>An _
 | n + 1=>by
  have ih:=Vx ns n
  cases h:ns[n]? with
  | none =>
   have:keys ns (n + 1)=keys ns n:=by
    show (B:)=_;rw [h]
   rw [this]; lia
  | some y =>
   rw [Ww h];split
   ·lia
   ·rw [Ae,At]; lia
def Zr8 (h:x ∉ keys ns n):pl ns n x=[]:=by
 cases e:pl ns n x with
 | nil=>rfl
 | cons a r =>
  have:a∈pl ns n x:=by rw [e]; exact mem_cons_self
  obtain ⟨h1,h2⟩:=Xd.mp this;exact absurd (Y8.mpr ⟨a,h1,h2⟩) h
def Zfz (td:TD M ns) (n:Nat) (x:Int):(pl ns n x).length<=2:=by
 match e:pl ns n x with
 | []=>simp
 | [_]=>simp
 | [_,_]=>simp
 | a :: b :: c :: r =>
  exfalso;have nd:=Zn5 ns n x;rw [e] at nd;have ha:=(Xd.mp (show a∈pl ns n x by rw [e]; simp)).2;have hb:=(Xd.mp (show b∈pl ns n x by rw [e]; simp)).2;have hc:=(Xd.mp (show c∈pl ns n x by rw [e]; simp)).2;simp only [nodup_cons,mem_cons,not_or] at nd;obtain ⟨⟨n1,n2,_⟩,⟨n3,_⟩,_⟩:=nd
  rcases td.eqv a b x ha hb with z | z
  ·exact n1 z
  ·rcases td.eqv a c x ha hc with y | y
   ·exact n2 y
   ·rw [z] at y
    cases y;exact n3 Y
def Qi {M:Lq} {ns:List Int} (td:TD M ns) (hx:x∈keys ns ns.length) :
  (∃ a,pl ns ns.length x=[a]/\ns[a]?=some x/\M[a]?=some none)\/(∃ a b,a < b/\pl ns ns.length x=[a,b]/\ns[a]?=some x/\ns[b]?=some x/\M[a]?=some (some b)/\M[b]?=some (some a)):=by
 obtain ⟨i,h1,h2⟩:=Y8.mp hx;have mi:i∈pl ns ns.length x:=Xd.mpr ⟨h1,h2⟩;have l2:=Zfz td ns.length x;have st:=Zlo ns ns.length x
 match e:pl ns ns.length x with
 | []=>rw [e] at mi; simp at mi
 | [a] =>
  obtain ⟨ga,ha⟩:=Xd.mp (show a∈pl ns ns.length x by rw [e]; simp);refine .inl ⟨a,Y,ha,?_⟩;have la:a < M.length:=by rw [<- td.len]; exact ga
  cases q:M[a]? with
  | none=>rw [List.getElem?_eq_none_iff] at q; lia
  | some o =>
   cases o with
   | none=>rfl
   | some b =>
    exfalso;have hb:ns[b]?=some x:=by rw [td.eqm a b q]; exact ha
    have mb:b∈pl ns ns.length x:=Xd.mpr ⟨(Aa hb).1,hb⟩;rw [e,mem_singleton] at mb;exact (td.inv a b q).2 mb.symm
 | [a,b] =>
  obtain ⟨ga,ha⟩:=Xd.mp (show a∈pl ns ns.length x by rw [e]; simp);obtain ⟨gb,hb⟩:=Xd.mp (show b∈pl ns ns.length x by rw [e]; simp);rw [e] at st;have p8:a < b:=by simpa using st
  rcases td.eqv a b x ha hb with z | z
  ·lia
  ·exact .inr ⟨a,b,p8,Y,ha,hb,z,(td.inv a b z).1⟩
 | a :: b :: c :: r=>rw [e] at l2; simp at l2
noncomputable def part (M:Lq) (ns:List Int) (ks:List Int):Lq:=(List.range M.length).map λi=>match ns[i]? with
 | some x=>if x∈ks then M.getD i none else none
 | none=>none
def Wk (M:Lq) (ns ks:List Int):(part M ns ks).length=M.length:=by unfold part; simp
def Qk {M:Lq} {ns:List Int} (td:TD M ns) (h:ns[i]?=some x):(part M ns ks)[i]?=some (if x∈ks then M.getD i none else none):=by
 have li:i < M.length:=by rw [<- td.len]; exact (Aa h).1
 unfold part;rw [Ah,getElem?_range li];simp [h]
def Zob {M:Lq} (td:TD M ns):part M ns []=List.replicate M.length none:=by
 apply ext_getElem?;intro i;by_cases li:i < M.length
 ·obtain ⟨x,hx⟩:∃ x,ns[i]?=some x:=⟨_,Ac (by rw [td.len]; exact li)⟩
  rw [Qk td hx,getElem?_replicate,if_pos li];simp
 ·rw [Ay (by rw [Wk]; lia),Ay (by simp; lia)]
def Zoc {ns:List Int} (td:TD M ns):part M ns (o:)=M:=by
 apply ext_getElem?;intro i;by_cases li:i < M.length
 ·have ln:i < ns.length:=by rw [td.len]; exact li
  obtain ⟨x,hx⟩:∃ x,ns[i]?=some x:=⟨_,Ac ln⟩;rw [Qk td hx,if_pos (Y8.mpr ⟨i,ln,hx⟩),Ad,Ac li];rfl
 ·rw [Ay (by rw [Wk]; lia),Ay (by lia)]
def Zoa {M:Lq} {ns:List Int} (td:TD M ns) {a:Nat} (hp:pl ns ns.length x=[a]) (hm:M[a]?=some none):part M ns (ks ++ [x])=part M ns ks:=by
 apply ext_getElem?;intro i;by_cases li:i < M.length
 ·have ln:i < ns.length:=by rw [td.len]; exact li
  obtain ⟨y,hy⟩:∃ x,ns[i]?=some x:=⟨_,Ac ln⟩;rw [Qk td hy,Qk td hy];by_cases c:y=x
  ·subst c
   have:i∈pl ns ns.length y:=Xd.mpr ⟨ln,hy⟩;rw [hp,mem_singleton] at this;subst this;have:M.getD i none=none:=by rw [Ad,hm]; rfl
   rw [this];simp
  ·simp [c]
 ·rw [Ay (by rw [Wk]; lia),Ay (by rw [Wk]; lia)]
def Zlx {M:Lq} {ns:List Int} (td:TD M ns) (hp:pl ns ns.length x=[a,b]) (p8:a < b) (ha:M[a]?=some (some b)) (hb:M[b]?=some (some a)) :
  part M ns (ks ++ [x])=((part M ns ks).set a (some b)).set b (some a):=by
 have la:a < M.length:=(Aa ha).1;have lb:b < M.length:=(Aa hb).1;have na:=(Xd.mp (show a∈pl ns ns.length x by rw [hp]; simp)).2;have nb:=(Xd.mp (show b∈pl ns ns.length x by rw [hp]; simp)).2;apply ext_getElem?;intro i;by_cases li:i < M.length
 ·have ln:i < ns.length:=by rw [td.len]; exact li
  obtain ⟨y,hy⟩:∃ x,ns[i]?=some x:=⟨_,Ac ln⟩;rw [Qk td hy];by_cases cb:i=b
  ·subst cb
   rw [nb] at hy; cases hy;rw [getElem?_set_self (by rw [length_set,Wk]; exact lb),if_pos (by simp),Ad,hb];rfl
  ·rw [getElem?_set_ne (Ne.symm cb)]
   by_cases ca:i=a
   ·subst ca
    rw [na] at hy; cases hy;rw [getElem?_set_self (by rw [Wk]; exact la),if_pos (by simp),Ad,ha];rfl
   ·rw [getElem?_set_ne (Ne.symm ca),Qk td hy]
    have:y≠x:=by
     rintro rfl;have:i∈pl ns ns.length y:=Xd.mpr ⟨ln,hy⟩;rw [hp] at this;simp at this;lia
    simp [this]
 ·rw [Ay (by rw [Wk]; lia),Ay (by rw [length_set,length_set,Wk]; lia)]
def nV (i:Nat):V:=.int (i:Int)
theorem Jy {g:Int->V}:∀ {ks:List Int},valV (ks.map λx=>((dv:),g x)) (Sum.inl y)=if y∈ks then some (g y) else none
 | []=>by simp [valV]
 | k :: r=>by
  have ih:=Jy (g:=g) (y:=y) (ks:=r);unfold valV at ih ⊢;rw [map_cons,find?_cons];by_cases c:k=y
  ·subst c
   simp
  ·have:(decide ((Sum.inl k:Key)=Sum.inl y))=false:=by
    rw [decide_eq_false_iff_not];intro z;cases z;exact c Y
   simp only [this];rw [ih];have:(y∈k :: r) ↔ y∈r:=by
    rw [mem_cons]
    exact ⟨λz=>z.elim (λw=>absurd w.symm c) id,.inr⟩
   simp only [this]
def Zcg {g:Int->V} {ks:List Int} (h:y ∉ ks):putK (ks.map λx=>((dv:),g x)) (Sum.inl y) v=(ks.map λx=>((dv:),g x)) ++ [(Sum.inl y,v)]:=by
 unfold putK;rw [if_neg];intro z;rw [any_eq_true] at z;obtain ⟨kv,h1,h2⟩:=z;obtain ⟨x,hx,rfl⟩:=mem_map.mp h1;have:(dv:)=Sum.inl y:=of_decide_eq_true h2;cases this;exact h hx
def Zid {g:Int->V} {ks:List Int} (h:y∈ks):putK (ks.map λx=>((dv:),g x)) (Sum.inl y) v=ks.map λx=>((dv:),if x=y then v else g x):=by
 unfold putK;rw [if_pos]
 ·rw [map_map]
  apply map_congr_left;intro x hx;show (if (dv:)=Sum.inl y then ((dv:),v) else (Sum.inl x,g x))=_;by_cases c:x=y
  ·subst c; simp
  ·rw [if_neg (λz=>by cases z; exact c Y),if_neg c]
 ·rw [any_eq_true]
  exact ⟨_,mem_map.mpr ⟨y,h,Y⟩,by simp⟩
def X4 {α:Type} {f:α->V} {l:List α} {i:Nat} {x:α} (h:l[i]?=some x):atI (l.map f) (i:Int)=some (f x):=Xa (by rw [Ah,h]; rfl)
def Wh (h:upd H p o q=none):q≠p/\H q=none:=by
 by_cases c:q=p
 ·subst c; rw [Zc] at h; cases h
 ·rw [Ze c] at h; exact ⟨c,h⟩
noncomputable def after (p:Int):Int:=if p % 3=2 then p - 2 else p + 1
noncomputable def Zy (p:Int):Int:=if p % 3=0 then p + 2 else p - 1
noncomputable def Xi (left:Bool) (a b:Nat):List Int:=if left then [after a,Zy b,after b,Zy a] else [after a,Zy a,after b,Zy b]
noncomputable def mvI (left:Bool) (a b:Nat) (z:Int):Int :=
 if z=after a then (if left then Zy b else Zy a) else if z=Zy b then (if left then after b else after a) else if z=after b then (if left then Zy a else Zy b) else if z=Zy a then (if left then after a else after b) else z
noncomputable def glV (left:Bool) (a b:Nat):List (Key × V):=(Xi left a b).map λx=>((dv:),V.int (mvI left a b x))
def Wf (p:Nat):after p / 3=(p:Int) / 3/\after p≠p/\0<=after p:=by unfold after; split <;> lia
def Xz (p:Nat):Zy p / 3=(p:Int) / 3/\Zy p≠p/\0<=Zy p:=by unfold Zy; split <;> lia
def Gh (p:Nat):after p≠Zy p:=by unfold after Zy; split <;> split <;> lia
def Ve {a b:Nat} (h:a / 3≠b / 3):after a≠Zy a/\after a≠after b/\after a≠Zy b/\Zy a≠after b/\Zy a≠Zy b/\after b≠Zy b:=by
 obtain ⟨h1,_,_⟩:=Wf a;obtain ⟨h2,_,_⟩:=Xz a;obtain ⟨h3,_,_⟩:=Wf b;obtain ⟨h4,_,_⟩:=Xz b;have e:¬ (a:Int) / 3=(b:Int) / 3:=by lia
 refine ⟨Gh a,λz=>e ?_,λz=>e ?_,λz=>e ?_,λz=>e ?_,Gh b⟩
 ·rw [<- h1,<- h3,z]
 ·rw [<- h1,<- h4,z]
 ·rw [<- h2,<- h3,z]
 ·rw [<- h2,<- h4,z]
theorem Zbl:∀ (kvs j8:List (Key × V)),((j8 ++ kvs).map (·.1)).Nodup->J8 j8 kvs=j8 ++ kvs
 | [],j8,_=>by simp [J8]
 | kv :: r,j8,h=>by
  have h1:(j8.any λx=>decide (x.1=kv.1))=false:=by
   rw [any_eq_false];intro x hx z;have z:x.1=kv.1:=of_decide_eq_true z;rw [Aj,map_cons] at h;have:=(nodup_append.mp h).2.2 x.1 (mem_map.mpr ⟨x,hx,rfl⟩) kv.1 mem_cons_self;exact this z
  have h2:putK j8 kv.1 kv.2=j8 ++ [kv]:=by
   unfold putK;rw [if_neg (by rw [h1]; decide)]
  show J8 (putK j8 kv.1 kv.2) r=_;rw [h2,Zbl r (j8 ++ [kv]) (by simpa using h)];simp
def Zgm {left:Bool} {a b:Nat} (h:a / 3≠b / 3):J8 [] (glV left a b)=glV left a b:=by
 obtain ⟨h1,h2,h3,h4,h5,h6⟩:=Ve h;refine Zbl (glV left a b) [] ?_;unfold glV Xi;rw [nil_append,map_map];cases left <;> simp [h1,h2,h3,h4,h5,h6,Ne.symm h1,Ne.symm h2,Ne.symm h3,Ne.symm h4,Ne.symm h5,Ne.symm h6]
def Zgq {a b:Nat} (h:a / 3≠b / 3):glV true a b=[(Sum.inl (after a),.int (Zy b)),(Sum.inl (Zy b),.int (after b)),(Sum.inl (after b),.int (Zy a)),(Sum.inl (Zy a),.int (after a))]:=by
 obtain ⟨h1,h2,h3,h4,h5,h6⟩:=Ve h;unfold glV Xi mvI;simp [h1,h2,h3,h4,h5,h6,Ne.symm h1,Ne.symm h2,Ne.symm h3,Ne.symm h4,Ne.symm h5,Ne.symm h6]
def Zdj {a b:Nat} (h:a / 3≠b / 3):glV false a b=[(Sum.inl (after a),.int (Zy a)),(Sum.inl (Zy a),.int (after b)),(Sum.inl (after b),.int (Zy b)),(Sum.inl (Zy b),.int (after a))]:=by
 obtain ⟨h1,h2,h3,h4,h5,h6⟩:=Ve h;unfold glV Xi mvI;simp [h1,h2,h3,h4,h5,h6,Ne.symm h1,Ne.symm h2,Ne.symm h3,Ne.symm h4,Ne.symm h5,Ne.symm h6]
def Zgk (left:Bool) (i j:Nat) (z:Int):mvI left i j z=z\/mvI left i j z=after i\/mvI left i j z=Zy i\/mvI left i j z=after j\/mvI left i j z=Zy j:=by
 unfold mvI;by_cases c1:z=after i
 ·cases left <;> simp [c1]
 ·by_cases c2:z=Zy j
  ·rw [if_neg c1,if_pos c2]; cases left <;> simp
  ·by_cases c3:z=after j
   ·rw [if_neg c1,if_neg c2,if_pos c3]; cases left <;> simp
   ·by_cases c4:z=Zy i
    ·rw [if_neg c1,if_neg c2,if_neg c3,if_pos c4]; cases left <;> simp
    ·rw [if_neg c1,if_neg c2,if_neg c3,if_neg c4]; exact .inl Y
noncomputable def lc (left:Bool) (i j z:Nat):Nat:=(mvI left i j z).toNat
def Zmb (left:Bool) (i j z:Nat):0<=mvI left i j z:=by
 have h1:=(Wf i).2.2;have h2:=(Xz i).2.2;have h3:=(Wf j).2.2;have h4:=(Xz j).2.2
 rcases Zgk left i j z with e | e | e | e | e <;> rw [e] <;> lia
def Uy (left:Bool) (i j z:Nat):((lc left i j z:Nat):Int)=mvI left i j z:=Int.toNat_of_nonneg (Zmb left i j z)
def Zip {i j:Nat} (h:i / 3≠j / 3) (left:Bool) (z:Int):mvI (!left) i j (mvI left i j z)=z:=by
 obtain ⟨h1,h2,h3,h4,h5,h6⟩:=Ve h;by_cases c1:z=after i
 ·subst c1; cases left <;> simp [mvI,h1,h2,h3,h4,h5,h6,Ne.symm h1,Ne.symm h2,Ne.symm h3,Ne.symm h4,Ne.symm h5,Ne.symm h6]
 ·by_cases c2:z=Zy j
  ·subst c2; cases left <;> simp [mvI,h1,h2,h3,h4,h5,h6,Ne.symm h1,Ne.symm h2,Ne.symm h3,Ne.symm h4,Ne.symm h5,Ne.symm h6]
  ·by_cases c3:z=after j
   ·subst c3; cases left <;> simp [mvI,h1,h2,h3,h4,h5,h6,Ne.symm h1,Ne.symm h2,Ne.symm h3,Ne.symm h4,Ne.symm h5,Ne.symm h6]
   ·by_cases c4:z=Zy i
    ·subst c4; cases left <;> simp [mvI,h1,h2,h3,h4,h5,h6,Ne.symm h1,Ne.symm h2,Ne.symm h3,Ne.symm h4,Ne.symm h5,Ne.symm h6]
    ·cases left <;> simp [mvI,c1,c2,c3,c4]
def Vi {i j:Nat} (h:i / 3≠j / 3) (left:Bool) (z:Nat):lc (!left) i j (lc left i j z)=z:=by
 have:=Zip h left z;rw [<- Uy left,<- Uy] at this;lia
def Zad {i j:Nat} (h:i / 3≠j / 3) (left:Bool) (z:Nat):lc left i j (lc (!left) i j z)=z:=by
 have:=Vi h (!left) z;rw [Bool.not_not] at this;exact this
def Zbv {p:Int} {q i n:Nat} (e:(q:Int)=p) (h:p / 3=(i:Int) / 3) (hi:i < 3 * n):q < 3 * n:=by lia
def Zej {p:Int} {i n:Nat} (h0:0<=p) (h:p / 3=(i:Int) / 3) (hi:i < 3 * n):0<=p/\p < 3 * (n:Int):=⟨h0,by lia⟩
def K6 {i j n:Nat} (hi:i < 3 * n) (hj:j < 3 * n) (left:Bool) {z:Nat} (hz:z < 3 * n):lc left i j z < 3 * n:=by
 have e:=Uy left i j z
 rcases Zgk left i j z with q | q | q | q | q <;> rw [q] at e
 ·exact Zbv e Y hz
 ·exact Zbv e (Wf i).1 hi
 ·exact Zbv e (Xz i).1 hi
 ·exact Zbv e (Wf j).1 hj
 ·exact Zbv e (Xz j).1 hj
def Zqr {i j:Nat} (h:i / 3≠j / 3) (left:Bool) {y z:Nat} (e:lc left i j y=lc left i j z):y=z:=by
 have:=congrArg (lc (!left) i j) e;rw [Vi h,Vi h] at this;exact this
noncomputable def exN (left:Bool) (i j:Nat) (ns:List Int):List Int:=(List.range ns.length).map λz=>ns.getD (lc (!left) i j z) 0
noncomputable def exM (left:Bool) (i j:Nat) (M:Lq):Lq:=(List.range M.length).map λz=>(M.getD (lc (!left) i j z) none).map (lc left i j)
def U2 (left:Bool) (i j:Nat) (ns:List Int):(exN left i j ns).length=ns.length:=by unfold exN; simp
def Gw (left:Bool) (i j:Nat) (M:Lq):(exM left i j M).length=M.length:=by unfold exM; simp
section
variable {M:Lq} {ns:List Int} {i j:Nat}
def U3 (td:TD M ns) (hi:i < M.length) (hj:j < M.length) (h:i / 3≠j / 3) (left:Bool) {z:Nat}:z < M.length->(exN left i j ns)[z]?=ns[lc (!left) i j z]?:=by
 intro hz;obtain ⟨n,_,_,hn⟩:=td.n;rw [hn] at hi hj hz;have si:=K6 hi hj (!left) hz;have l1:z < ns.length:=by rw [td.len,hn]; exact hz
 have l2:lc (!left) i j z < ns.length:=by rw [td.len,hn]; exact si
 unfold exN;rw [Ah,getElem?_range l1];show some (ns.getD _ 0)=_;rw [Ad,Ac l2];rfl
def Gx (td:TD M ns) (hi:i < M.length) (hj:j < M.length) (h:i / 3≠j / 3) (left:Bool) {z:Nat}:z < M.length->(exM left i j M)[z]?=(M[lc (!left) i j z]?).map (Option.map (lc left i j)):=by
 intro hz;obtain ⟨n,_,_,hn⟩:=td.n;have vf:=hz;rw [hn] at hi hj hz;have si:=K6 hi hj (!left) hz;have l2:lc (!left) i j z < M.length:=by rw [hn]; exact si
 unfold exM;rw [Ah,getElem?_range vf];show some ((M.getD _ none).map _)=_;rw [Ad,Ac l2];rfl
def TD.ex (td:TD M ns) (hi:i < M.length) (hj:j < M.length) (h:i / 3≠j / 3) (left:Bool):TD (exM left i j M) (exN left i j ns) where
 n:=by obtain ⟨n,a,b,c⟩:=td.n; exact ⟨n,a,b,by rw [Gw]; exact c⟩
 len:=by rw [U2,Gw]; exact td.len
 inv:=λp q e=>by
  have hp:p < M.length:=by have:=(Aa e).1; rw [Gw] at this; exact this
  rw [Gx td hi hj h left hp] at e
  cases e1:M[lc (!left) i j p]? with
  | none=>rw [e1] at e; cases e
  | some o =>
   cases o with
   | none=>rw [e1] at e; cases e
   | some b =>
    rw [e1] at e;have e2:lc left i j b=q:=by have:=Ax e; exact Ax this
    obtain ⟨i1,i2⟩:=td.inv _ _ e1;have hb:b < M.length:=(Aa i1).1;obtain ⟨n,_,_,hn⟩:=td.n;have hq:q < M.length:=by rw [<- e2,hn]; rw [hn] at hi hj hb; exact K6 hi hj left hb
    have eb:lc (!left) i j q=b:=by rw [<- e2,Vi h]
    refine ⟨?_,λz=>i2 ?_⟩
    ·rw [Gx td hi hj h left hq,eb,i1]
     show some (some (lc left i j (lc (!left) i j p)))=_;rw [Zad h]
    ·rw [z,eb]
 rng:=λp x e=>by
  have hp:p < M.length:=by have:=(Aa e).1; rw [U2,td.len] at this; exact this
  rw [U3 td hi hj h left hp] at e;exact td.rng _ x e
 eqv:=λp q x e1 e2=>by
  have hp:p < M.length:=by have:=(Aa e1).1; rw [U2,td.len] at this; exact this
  have hq:q < M.length:=by have:=(Aa e2).1; rw [U2,td.len] at this; exact this
  rw [U3 td hi hj h left hp] at e1;rw [U3 td hi hj h left hq] at e2
  rcases td.eqv _ _ x e1 e2 with z | z
  ·exact .inl (Zqr h (!left) z)
  ·right
   rw [Gx td hi hj h left hp,z];show some (some (lc left i j (lc (!left) i j q)))=_;rw [Zad h]
 eqm:=λp q e=>by
  have hp:p < M.length:=by have:=(Aa e).1; rw [Gw] at this; exact this
  have e0:=e;rw [Gx td hi hj h left hp] at e
  cases e1:M[lc (!left) i j p]? with
  | none=>rw [e1] at e; cases e
  | some o =>
   cases o with
   | none=>rw [e1] at e; cases e
   | some b =>
    rw [e1] at e;have e2:lc left i j b=q:=by have:=Ax e; exact Ax this
    obtain ⟨i1,i2⟩:=td.inv _ _ e1;have hb:b < M.length:=(Aa i1).1;obtain ⟨n,_,_,hn⟩:=td.n;have hq:q < M.length:=by rw [<- e2,hn]; rw [hn] at hi hj hb; exact K6 hi hj left hb
    have eb:lc (!left) i j q=b:=by rw [<- e2,Vi h]
    rw [U3 td hi hj h left hp,U3 td hi hj h left hq,eb];exact td.eqm _ _ e1
end
noncomputable def nst (left:Bool) (i j:Nat) (ns:List Int) (k:Nat):List Int:=(List.range ns.length).map λz=>if ((lc (!left) i j z:Nat):Int)∈(Xi left i j).take k then ns.getD (lc (!left) i j z) 0 else ns.getD z 0
def Zoe (left:Bool) (i j:Nat) (ns:List Int):nst left i j ns 0=ns:=by
 apply ext_getElem?;intro z;unfold nst;rw [Ah];by_cases hz:z < ns.length
 ·rw [getElem?_range hz,take_zero]
  simp [hz]
 ·rw [Ay (by simpa using hz),Ay (by lia)]
  rfl
def Zoi {i j:Nat} {left:Bool} {z:Int} (h:z ∉ Xi left i j) (l2:Bool):mvI l2 i j z=z:=by
 have n1:¬ z=after i:=λe=>h (by unfold Xi; split <;> simp [e]);have n2:¬ z=Zy j:=λe=>h (by unfold Xi; split <;> simp [e]);have n3:¬ z=after j:=λe=>h (by unfold Xi; split <;> simp [e]);have n4:¬ z=Zy i:=λe=>h (by unfold Xi; split <;> simp [e]);unfold mvI;rw [if_neg n1,if_neg n2,if_neg n3,if_neg n4]
def Zgs (left:Bool) (i j:Nat):(Xi left i j).length=4:=by unfold Xi; split <;> rfl
def Zqo {i j:Nat} (h:i / 3≠j / 3) (left:Bool) (ns:List Int):nst left i j ns 4=exN left i j ns:=by
 unfold nst exN;apply map_congr_left;intro z _;by_cases c:((lc (!left) i j z:Nat):Int)∈(Xi left i j).take 4
 ·rw [if_pos c]
 ·rw [if_neg c]
  rw [take_of_length_le (Nat.le_of_eq (Zgs left i j))] at c;have e1:=Zoi c left;rw [Uy,] at e1;have e2:=Zip h (!left) (z:Int);rw [Bool.not_not] at e2;rw [e2] at e1;have:lc (!left) i j z=z:=by have:=Uy (!left) i j z; lia
  rw [this]
def Zof {i j:Nat} (h:i / 3≠j / 3) {left:Bool} {ns:List Int} {k p:Nat} (hk:(Xi left i j)[k]?=some (p:Int)) (hq:lc left i j p < ns.length) :
  (nst left i j ns k).set (lc left i j p) (ns.getD p 0)=nst left i j ns (k + 1):=by
 apply ext_getElem?;intro z;unfold nst;by_cases c:z=lc left i j p
 ·subst c
  rw [getElem?_set_self (by simpa using hq),Ah,getElem?_range hq];have e:lc (!left) i j (lc left i j p)=p:=Vi h left p;have:((lc (!left) i j (lc left i j p):Nat):Int)∈(Xi left i j).take (k + 1):=by rw [e,Aw,hk]; simp
  simp only [Option.map_some,this,if_true];rw [e]
 ·rw [getElem?_set_ne (Ne.symm c),Ah,Ah]
  by_cases d:z < ns.length
  ·rw [getElem?_range d]
   have ne:¬ ((lc (!left) i j z:Nat):Int)=(p:Int):=λe=>c (by
    have e:lc (!left) i j z=p:=by lia
    rw [<- e,Zad h]);have:((lc (!left) i j z:Nat):Int)∈(Xi left i j).take (k + 1) ↔ ((lc (!left) i j z:Nat):Int)∈(Xi left i j).take k:=by
    rw [Aw,hk]
    simp [ne]
   simp only [Option.map_some,this]
  ·rw [Ay (by simpa using d)]
   rfl
def Zqz {left:Bool} {i j n k:Nat} {p:Int} (hi:i < 3 * n) (hj:j < 3 * n) (hk:(Xi left i j)[k]?=some p):0<=p/\p < 3 * (n:Int):=by
 have hm:p∈Xi left i j:=Au hk;obtain ⟨a1,_,a3⟩:=Wf i;obtain ⟨b1,_,b3⟩:=Xz i;obtain ⟨c1,_,c3⟩:=Wf j;obtain ⟨d1,_,d3⟩:=Xz j;have hm:p=after i\/p=Zy i\/p=after j\/p=Zy j:=by
  unfold Xi at hm
  split at hm <;> simp at hm <;> rcases hm with e | e | e | e <;> simp [e]
 rcases hm with e | e | e | e <;> rw [e]
 ·exact Zej a3 a1 hi
 ·exact Zej b3 b1 hi
 ·exact Zej c3 c1 hj
 ·exact Zej d3 d1 hj
noncomputable def kr (p k:Nat):Nat:=p - p % 3 + (p + k) % 3
def Zp5 {n:Nat} (h:p < 3 * n):kr p k < 3 * n:=by unfold kr; omega
def Zfa (p k:Nat):kr p k / 3=p / 3:=by unfold kr; omega
noncomputable def Xx (M:Lq) (p:Int):Bool:=decide (0<=p/\p < M.length) && (M.getD p.toNat none).isSome
noncomputable def Jm (M:Lq) (a p:Int):Bool:=match M.getD a.toNat none with
 | some m=>decide (p / 3=(m:Int) / 3) && !decide (p=(m:Int))
 | none=>false
noncomputable def rot {α:Type} (ws:List α) (s:Nat):List α:=ws.drop s ++ ws.take s
noncomputable def J5 (M:Lq) (ws vs:List Int):List Bool:=(ws.zip vs).map λp=>Jm M p.1 p.2
noncomputable def Xv (M:Lq) (ws:List Int):Bool:=!ws.isEmpty && ((ws.map (Xx M)).all id && (J5 M ws (rot ws (1 % ws.length))).all id)
def Zcf {α:Type} (ws:List α) (h:s<=ws.length):(rot ws s).length=ws.length:=by
 unfold rot;rw [Ae,length_drop,Ai];lia
def Zib {α:Type} {ws:List α} {k:Nat} (hs:s < ws.length) (hk:k < ws.length):(rot ws s)[k]?=ws[(k + s) % ws.length]?:=by
 unfold rot;by_cases c:k < ws.length - s
 ·rw [Av (by rw [length_drop]; exact c),getElem?_drop,mod_eq_of_lt (by lia),Nat.add_comm]
 ·rw [getElem?_append_right (by rw [length_drop]; lia),length_drop,getElem?_take_of_lt (by lia)]
  have:(k + s) % ws.length=k - (ws.length - s):=by
   rw [show k + s=(k - (ws.length - s)) + ws.length by lia,add_mod_right,mod_eq_of_lt (by lia)]
  rw [this]
structure Pl (M:Lq) (ws:List Nat):Prop where
 ne:ws≠[]
 has:∀ p∈ws,∃ m,M[p]?=some (some m)
 nxt:∀ (k:Nat) (a p:Nat),ws[k]?=some a->ws[(k + 1) % ws.length]?=some p->∀ m,M[a]?=some (some m)->p / 3=m / 3/\p≠m
abbrev wI (ws:List Nat):List Int:=ws.map λ(x:Nat)=>(x:Int)
def Zdo {M:Lq} {p:Nat}:Xx M (p:Int)=true ↔ ∃ m,M[p]?=some (some m):=by
 unfold Xx;rw [Bool.and_eq_true,decide_eq_true_eq,Int.toNat_natCast];constructor
 ·rintro ⟨⟨_,h1⟩,h2⟩
  have h1:p < M.length:=by lia
  rw [Ad,Ac h1] at h2;obtain ⟨m,hm⟩:=Option.isSome_iff_exists.mp h2;exact ⟨m,by rw [Ac h1]; exact congrArg some hm⟩
 ·rintro ⟨m,hm⟩
  have h1:p < M.length:=(Aa hm).1;exact ⟨⟨by lia,by lia⟩,by rw [Ad,hm]; rfl⟩
def Zbs {M:Lq} {a p:Nat} (h:M[a]?=some (some m)):Jm M (a:Int) (p:Int)=true ↔ p / 3=m / 3/\p≠m:=by
 unfold Jm;rw [Int.toNat_natCast,Ad,h];show (decide ((p:Int) / 3=(m:Int) / 3) && !decide ((p:Int)=(m:Int)))=true ↔ _;rw [Bool.and_eq_true,decide_eq_true_eq,Bool.not_eq_true',decide_eq_false_iff_not];lia
def Zh4 {ws vs:List Int} (hl:ws.length=vs.length):(J5 M ws vs).all id=true ↔ ∀ (k:Nat) (a p:Int),ws[k]?=some a->vs[k]?=some p->Jm M a p=true:=by
 unfold J5;rw [all_eq_true];constructor
 ·intro h k a p ha hp
  refine h (Jm M a p) (mem_map.mpr ⟨(a,p),?_,Y⟩);exact Au (i:=k) (by rw [getElem?_zip_eq_some]; exact ⟨ha,hp⟩)
 ·intro h b hb
  obtain ⟨⟨a,p⟩,hm,rfl⟩:=mem_map.mp hb;obtain ⟨k,hk⟩:=getElem?_of_mem hm;rw [getElem?_zip_eq_some] at hk;exact h k a p hk.1 hk.2
def Zc8:Xv M (wI ws)=true ↔ Pl M ws:=by
 have hl:(wI ws).length=ws.length:=by simp
 unfold Xv;rw [Bool.and_eq_true,Bool.and_eq_true,Bool.not_eq_true',hl];constructor
 ·rintro ⟨h0,h1,h2⟩
  have kq:ws≠[]:=by
   rintro rfl;cases h0
  have uh:0 < ws.length:=by cases ws with | nil=>exact absurd rfl kq | cons _ _=>simp
  have hh:∀ p∈ws,∃ m,M[p]?=some (some m):=λp hp=>by
   refine Zdo.mp (all_eq_true.mp h1 _ (mem_map.mpr ⟨(p:Int),mem_map.mpr ⟨p,hp,Y⟩,Y⟩))
  refine ⟨kq,hh,λk a p ha hp m hm=>?_⟩;have hs:1 % ws.length < (wI ws).length:=by rw [hl]; exact mod_lt _ uh
  have hk:k < (wI ws).length:=by rw [hl]; exact (Aa ha).1
  refine (Zbs hm).mp ((Zh4 (by rw [Zcf _ (Nat.le_of_lt hs)])).mp h2 k a p (by rw [Ah,ha]; rfl) ?_);rw [Zib hs hk,hl,show (k + 1 % ws.length) % ws.length=(k + 1) % ws.length by rw [add_mod_mod],Ah,hp];rfl
 ·rintro ⟨h0,h1,h2⟩
  have uh:0 < ws.length:=by cases ws with | nil=>exact absurd rfl h0 | cons _ _=>simp
  have hs:1 % ws.length < (wI ws).length:=by rw [hl]; exact mod_lt _ uh
  refine ⟨by cases ws with | nil=>exact absurd rfl h0 | cons _ _=>rfl,?_,?_⟩
  ·rw [all_eq_true]
   intro b hb;obtain ⟨p',su,rfl⟩:=mem_map.mp hb;obtain ⟨p,hp,rfl⟩:=mem_map.mp su;exact Zdo.mpr (h1 p hp)
  ·refine (Zh4 (by rw [Zcf _ (Nat.le_of_lt hs)])).mpr λk a p ha hp=>?_
   have hk:k < (wI ws).length:=(Aa ha).1;rw [Zib hs hk,hl,show (k + 1 % ws.length) % ws.length=(k + 1) % ws.length by rw [add_mod_mod]] at hp;rw [Ah] at ha hp
   cases ea:ws[k]? with
   | none=>rw [ea] at ha; cases ha
   | some a' =>
    cases ep:ws[(k + 1) % ws.length]? with
    | none=>rw [ep] at hp; cases hp
    | some p' =>
     rw [ea] at ha; cases ha;rw [ep] at hp; cases hp;obtain ⟨m,hm⟩:=h1 a' (Au ea);exact (Zbs hm).mpr (h2 k a' p' ea ep m hm)
structure Ch (M:Lq) (row:List Nat):Prop where
 has:∀ p∈row,∃ m,M[p]?=some (some m)
 nxt:∀ (k:Nat) (a p m:Nat),row[k]?=some a->row[k + 1]?=some p->M[a]?=some (some m)->p / 3=m / 3/\p≠m
def Ch.one {M:Lq} {p:Nat} (h:M[p]?=some (some m)):Ch M [p]:=by
 refine ⟨λq hq=>?_,λk a q m' _ hq=>?_⟩
 ·rw [mem_singleton] at hq; subst hq; exact ⟨m,h⟩
 ·simp at hq
def Ch.snoc {M:Lq} {row:List Nat} {p:Nat} (h:Ch M row) (hl:row.getLast?=some a) (hm:M[a]?=some (some m)) (h1:p / 3=m / 3) (h2:p≠m) (hp:∃ q,M[p]?=some (some q)):Ch M (row ++ [p]):=by
 refine ⟨λq hq=>?_,λk b q m' hb hq vo=>?_⟩
 ·rcases mem_append.mp hq with z | z
  ·exact h.has q z
  ·rw [mem_singleton] at z; subst z; exact hp
 ·by_cases c:k + 1 < row.length
  ·rw [Av c] at hq
   rw [Av (by lia)] at hb;exact h.nxt k b q m' hb hq vo
  ·have hk:k + 1 < (row ++ [p]).length:=(Aa hq).1
   rw [Ae,At] at hk;have hk:k + 1=row.length:=by lia
   rw [getElem?_append_right (by lia),hk] at hq;have:q=p:=by simpa using hq.symm
   subst this;rw [Av (by lia)] at hb;rw [getLast?_eq_getElem?,show row.length - 1=k by lia,hb] at hl;cases hl;rw [hm] at vo;cases vo;exact ⟨h1,h2⟩
def Ch.cut {row:List Nat} {e:Nat} (h:Ch M row) (hse:s < e) (h1:row[s]?=some a) (h2:row[e]?=some a):Pl M ((row.drop s).take (e - s)):=by
 have he:e < row.length:=(Aa h2).1;have hl:((row.drop s).take (e - s)).length=e - s:=by rw [Ai,length_drop]; lia
 have gt:∀ k,k < e - s->((row.drop s).take (e - s))[k]?=row[s + k]?:=λk hk=>by rw [getElem?_take_of_lt hk,getElem?_drop]
 refine ⟨λz=>by rw [z] at hl; simp at hl; lia,λp hp=>?_,λk b p hb hp m hm=>?_⟩
 ·exact h.has p (mem_of_mem_drop (mem_of_mem_take hp))
 ·rw [hl] at hp
  have hk:k < e - s:=by have:=(Aa hb).1; rw [hl] at this; exact this
  rw [gt k hk] at hb;by_cases c:k + 1 < e - s
  ·rw [mod_eq_of_lt c,gt _ c] at hp
   exact h.nxt (s + k) b p m hb (by rw [show s + k + 1=s + (k + 1) by lia]; exact hp) hm
  ·have hk:k + 1=e - s:=by lia
   rw [hk,mod_self,gt 0 (by lia),Nat.add_zero,h1] at hp;cases hp;exact h.nxt (s + k) b a m hb (by rw [show s + k + 1=e by lia]; exact h2) hm
section
variable {α:Type}
theorem Zfv (l:List α):∀ (m k:Nat),k < m * l.length->(List.replicate m l).flatten[k]?=l[k % l.length]?
 | 0,k,h=>by simp at h
 | m + 1,k,h=>by
  rw [replicate_succ,flatten_cons];by_cases c:k < l.length
  ·rw [Av c,mod_eq_of_lt c]
  ·have hl:0 < l.length:=by
    cases l with
    | nil=>simp at h
    | cons _ _=>simp
   rw [getElem?_append_right (by lia),Zfv l m (k - l.length) (by rw [succ_mul] at h; lia)];congr 1;rw [mod_eq_sub_mod (by lia:k ≥ l.length)]
def F7 (l:List α) (m:Nat):(List.replicate m l).flatten.length=m * l.length:=by
 induction m with
 | zero=>simp
 | succ m ih=>rw [replicate_succ,flatten_cons,Ae,ih,succ_mul,Nat.add_comm]
end
end KT
namespace L2
open PySem PySem.Spec PyProof.Rows
section
variable {X:Cx}
def Zek (i j:Int):Prop:=0 < j/\j.natAbs.log2 < 9000
def Zf5:OpR X (binaryOp .FloorDiv) (rI Zek λi j=>.int (i / j)):=opI λi j _ _ _ _ _ hc q=>by
 have h1:(0:Int) < j:=hc.1;exact floordiv_int (by lia) (by rw [Int.fdiv_eq_ediv_of_nonneg i (by lia)]; exact q) (.inl (PyProof.noPylong_of_log2 hc.2))
def Zin:OpR X (binaryOp .Mult) (rI IntMulOk λi j=>.int (i * j)):=opI λ_ _ _ _ _ _ _ hc q=>mul_int q hc
def log2_lt {j:Int} {k:Nat} (h:j.natAbs < 2 ^ k) (hk:0 < k):j.natAbs.log2 < k:=by
 by_cases e:j.natAbs=0
 ·rw [e]; simpa using hk
 ·exact (Nat.log2_lt e).mpr h
end
end L2
namespace HL
open PySem PyProof.Rows HT
end HL
namespace L2
open PySem PySem.Spec PyProof.Rows
end L2
namespace HT
end HT
namespace L2
open PySem PySem.Spec PyProof.Rows
section
variable {X:Cx} {j4:List (p:)} {σ:St} {H:Hp} {s:Shared} {a:Addr} {y v:V} {u r:Value} {A:Around} {E:Value->Shared->Prop}
def Zuc {kvs:List (Key × V)} (I:Inv X j4 σ H s) (e:H a=some (.dK kvs)) (l:kvs.length < sizeLine) (ry:RelV (kV k) u) (rv:RelV v r) (h:∀ s',Inv X j4 σ (upd H a (.dK (putK kvs k v))) s'->Q () s') :
  wpAny (d:) A (dictSet a u r) Q E s:=by
 obtain ⟨z,hd,vs,kl,dd⟩:=Zbt I.hok e;have hz:vs.length<=sizeLine:=by rw [<- kl.length]; exact z
 have hl:(putK kvs k v).length<=sizeLine:=by have:=Jp kvs k v; lia
 refine wpAny_dictSet_pairs (hsz:=hz) (Jl ry) dd λh' qa hs=>h _ ?_;have he:∃ q,h'.get? a=some q:=let ⟨q,_,_,hq,_⟩:=qa; ⟨q,hq⟩
 exact Vl I (b8:) hs he (Gb hl hd (kl.put k rv) qa)
end
def Zrq (tk tv:TE) (D:Addr):TB:=λσ H N=>tk σ H λx H1=>tv σ H1 λv H2=>∃ kvs k,x=kV k/\H2 D=some (.dK kvs)/\kvs.length < sizeLine/\N σ (upd H2 D (.dK (putK kvs k v)))
section
variable {X:Cx}
def Vu (hk:PE X kx tk) (hv:PE X vx tv) :
  PB X ((eval kx X.env >>= λkv=>holding [kv] (eval vx X.env) >>= λvv=>standAt p >>= λ_=>holding [kv,vv] (dictSet D kv vv)) >>= λ_=>again c) c (Zrq tk tv D):=by
 intro j4 s σ H N I h;refine Al (Al (thn (hk j4 s σ H _ I h) λu s1 zz38=>?_));obtain ⟨x,H1,I1,r1,q1⟩:=zz38;refine Al (wpAny_holding (thn (hv j4 s1 σ H1 _ I1 q1) λw s2 zz39=>?_));obtain ⟨v,H2,I2,r2,q2⟩:=zz39;refine Al (wpAny_standAt (wpAny_holding ?_));obtain ⟨kvs,k,rfl,hD,hl,q⟩:=q2;exact Zuc I2 hD hl r1 r2 λs3 I3=>wpAny_pure ⟨Y,σ,_,I3,q⟩
end
def Zeq (ts:List Str) (fv:List (Str × Nat)) (wi:TI) (g:TG) (tt:TT) (tb:Addr->TB):TE:=λσ H Q=>wi σ H λJ H1=>∀ D,H1 D=none ->
 W6 J g tt (tb D) (λ_ H'=>Q (.ref D) H') (blkS ts fv σ) (upd H1 D (.dK []))
section
variable {X:Cx} {ts:List Str} {fv:List (Str × Nat)} {scope:Scope} {kx vx t0 i0:Expr} {f0:List Expr} {j6:List Comprehension} {pos:Pos} {wi:TI} {g:TG} {tt:TT} {tb:Addr->TB} {lw:Env->Addr->Addr->Sem Fin}
theorem Zbu (B:BlkOk X scope fv) (hc:X.calm=true) (hi:PI X t0 i0 wi)
  (hg:∀ C s₀ H₀ ex,PG (g:) t0 g) (ht:∀ C s₀ H₀ ex,PTs (g:) f0 tt)
  (rm:∀ (env:Env) (it D:Addr),compTurn (k:) 0 (.ref it) (.ref D) env=(standAt i0.pos >>= λ_=>pyNext (.ref it) >>= λr=>match r with
   | none=>pure (.done .next)
   | some v=>letOwnedTupleGo t0 (.ref it) v >>= λ_=>assign t0 env v >>= λ_ =>
    (m:) >>= λok =>
     if ok=true then lw env it D else again (.compLoop (k:) 0 (.ref it) (.ref D) env)))
  (hb:∀ C s₀ H₀ ex it D,PB (g:) (lw (g:).env it D) (.compLoop (k:) 0 (.ref it) (.ref D) (g:).env) (tb D)) {RR:Value->Addr->Result->Shared->Prop} (I:Inv X j4 σ H s) (h:Zeq ts fv wi g tt tb σ H Q)
  (hRR:∀ D C s' H',Inv X j4 σ H' s'->H' C=none->X.s₀.heap.objs.size<=C->C≠X.env.locals->(∀ x c,X.env.cells.lookup x=some c->c≠C)->(∀ p∈X.pn ++ j4,p.1≠C)->(∃ m,s'.heap.Ns C m)->Q (.ref D) H'->RR (.ref D) C (.ok .next) s') :
  wpAny (d:) X.A (eval i0 X.env) (λx s₁=>wpAny (d:) X.A (pyIter x) (λit s₂=>wpAny (d:) X.A newDict (λj8 s₃ =>
   wpAny (d:) X.A (ev:) (λuq s₄ =>
    codeAny (d:) X.A (.compStart (k:) 0 it j8 { uq with scope:=relabel scope X.env }) (RR j8 uq.locals) s₄) X.xe s₃) X.xe s₂) X.xe s₁) X.xe s:=by
 refine thn (c7:) λv s1 h1=>thn h1 λzr s2 h2=>?_;obtain ⟨it,fp,tn,J,H2,e,I2,T,mf,f2,L⟩:=h2;subst e;have L:=L s2.heap.objs.size I2.fresh;refine wpAny_newObj_type ?_;have I3:Inv X j4 σ (b2:) { s2 with heap:=s2.heap.push { cls:=.type "dict",data:=.dict #[] },toks:=s2.toks }:=I2.laid (a:=s2.heap.objs.size) (o:=.dK []) (t':=s2.toks) (λ_ _ q=>Ak _ q) (An _) (Vz s2.heap I2.big);have yd:∀ b∈fp,∃ o,s2.heap.get? b=some o/\∀ v,o.data≠.cell v:=T.obj _ _ mf;have f3:∀ b∈fp,FpOk X j4 (b2:) b:=λb hb=>by
  obtain ⟨o,ho,_⟩:=yd b hb
  refine ⟨?_,(f2 b hb).2⟩
  rw [Ze (As (Ao ho))]
  exact (f2 b hb).1
 have o0:tn 0 (s2.heap.push { cls:=.type "dict",data:=.dict #[] }):=T.keep _ _ _ mf λb _ o e=>Ak _ e;have yc:∀ b∈fp,∃ o,(s2.heap.push { cls:=.type "dict",data:=.dict #[] }).get? b=some o:=λb hb=>let ⟨o,e,_⟩:=yd b hb; ⟨o,Ak _ e⟩
 generalize hs3:({ s2 with heap:=s2.heap.push { cls:=.type "dict",data:=.dict #[] },toks:=s2.toks }:Shared)=s3 at I3;have eh:s2.heap.push { cls:=.type "dict",data:=.dict #[] }=s3.heap:=by rw [<- hs3]
 rw [eh] at o0 yc;refine wpAny_newFunctionEnv B.nocell (by intro y hy; simp at hy) (λh₁ rj sk=>?_) B.kind;have hk:∀ b o,s3.heap.get? b=some o->h₁.get? b=some o:=λb o e=>sk.extBut b o (As (Ao e)) (Ak _ e);have I4:=Zds (ts:=ts) (tk:=s3.toks + ([]:List (Str × Value)).length) B I3 f3 yc rj hk;have f4:∀ b∈fp,FpOk (Yd X (U:) scope s3.heap.objs.size s3 (b2:) fp) [] (b2:) b:=λb hb=>by
  obtain ⟨f0,f1,f2',f3',f4',f5'⟩:=f3 b hb
  obtain ⟨o,eo⟩:=yc b hb
  exact (dj:)
 have xj:tn 0 h₁:=T.keep _ _ _ o0 λb _ o e=>hk b o e;have loop:codeAny (d:) X.A (.compLoop (k:) 0 (.ref it) (.ref s2.heap.objs.size) (Yd X (U:) scope s3.heap.objs.size s3 (b2:) fp).env)
   (RR (.ref s2.heap.objs.size) s3.heap.objs.size) { s3 with heap:=h₁,toks:=s3.toks + ([]:List (Str × Value)).length }:=by
  refine Gd (X:=Yd X (U:) scope s3.heap.objs.size s3 (b2:) fp) (tg:=t0) (ifs:=f0) (R:=λ_ H'=>Q (.ref s2.heap.objs.size) H') Y Y Y Y (rm _ it s2.heap.objs.size) T hc (hg _ _ _ _) (ht _ _ _ _) (hb _ _ _ _ it s2.heap.objs.size) f4 I4 xj L λs' σ' H' J' q=>?_
  obtain ⟨e1,e2,e3,e4,e5,e6⟩:=Zi5 I3 f3 (An _) J'
  obtain ⟨m,hm,_⟩:=J'.loc
  exact hRR _ _ s' H' e1 e2 e3 e4 e5 e6 ⟨m,hm⟩ q
 exact codeAny_compStart_dict loop (T.self _ _ _ _ _ xj loop)
theorem Kw (B:BlkOk X scope fv) (hc:X.calm=true) (hi:PI X t0 i0 wi)
  (hg:∀ C s₀ H₀ ex,PG (g:) t0 g) (ht:∀ C s₀ H₀ ex,PTs (g:) f0 tt)
  (rm:∀ (env:Env) (it D:Addr),compTurn (k:) 0 (.ref it) (.ref D) env=(standAt i0.pos >>= λ_=>pyNext (.ref it) >>= λr=>match r with
   | none=>pure (.done .next)
   | some v=>letOwnedTupleGo t0 (.ref it) v >>= λ_=>assign t0 env v >>= λ_ =>
    (m:) >>= λok =>
     if ok=true then lw env it D else again (.compLoop (k:) 0 (.ref it) (.ref D) env)))
  (hb:∀ C s₀ H₀ ex it D,PB (g:) (lw (g:).env it D) (.compLoop (k:) 0 (.ref it) (.ref D) (g:).env) (tb D))
  (hs:∀ x,foldedSetIterable i0 X.env x=pure x:=by intro _; rfl) :
  PE X (k:) (Zeq ts fv wi g tt tb):=by
 intro j4 s σ H Q I h;show wpAny _ X.A (comprehension (k:) scope X.env _ newDict false (eval i0 X.env)) _ _ s;refine wpAny_comprehension_free (use:=none) Y hs (Qt λy hy e=>I.ok.has y.1 (B.free y hy e)) B.kind B.names ?_;refine Zbu (RR:=λj8 C=>compPost (d:) X.A X.xe none (bz:) j8 C) B hc hi hg ht rm hb I h λD C s' H' I' e2 e3 e4 e5 e6 hm q=>?_;obtain ⟨m,hm⟩:=hm;exact ⟨m,hm,λh' xx=>⟨.ref D,H',I'.apart xx e2 e3 e4 e5 e6,Y,q⟩⟩
theorem Ku {ue:Pos} (B:BlkOk X scope fv) (hc:X.calm=true) (hN:X.N.Nodup) (hiy:X.N[i]?=some y) (hyl:X.env.scope.names.lookup y=some .local)
  (hsw:swapsWith (k:) (some (.Name y py)) ue.line X.env=pure true) (hi:PI X t0 i0 wi)
  (hg:∀ C s₀ H₀ ex,PG (g:) t0 g) (ht:∀ C s₀ H₀ ex,PTs (g:) f0 tt)
  (rm:∀ (env:Env) (it D:Addr),compTurn (k:) 0 (.ref it) (.ref D) env=(standAt i0.pos >>= λ_=>pyNext (.ref it) >>= λr=>match r with
   | none=>pure (.done .next)
   | some v=>letOwnedTupleGo t0 (.ref it) v >>= λ_=>assign t0 env v >>= λ_ =>
    (m:) >>= λok =>
     if ok=true then lw env it D else again (.compLoop (k:) 0 (.ref it) (.ref D) env)))
  (hb:∀ C s₀ H₀ ex it D,PB (g:) (lw (g:).env it D) (.compLoop (k:) 0 (.ref it) (.ref D) (g:).env) (tb D))
  (hs:∀ x,foldedSetIterable i0 X.env x=pure x:=by intro _; rfl) :
  PS X (.Assign [.Name y py] (k:) ue) (tAsg (Zeq ts fv wi g tt tb) (Zm i)):=by
 intro j4 s σ H D0 I h;rw [exec_Assign_Name_used _ _ _ _ hsw];refine Al (wpAny_standAt (Al ?_));show wpAny _ X.A (do let _ <- comprehension (k:) scope X.env _ newDict false (eval i0 X.env) (some (assign (.Name y py) X.env))) _ _ s;refine Al (am:);refine Zbu (Q:=λx H1=>Zm i x σ H1 D0.nx) (RR:=λj8 C=>compPost (d:) X.A X.xe (some (assign (.Name y py) X.env)) (λ_ s'=>SP X j4 D0 .next s') j8 C) B hc hi hg ht rm hb I h λD C s' H' I' e2 e3 e4 e5 e6 hm q=>?_;obtain ⟨m,hm⟩:=hm;show wpAny _ X.A (assign (.Name y py) X.env (.ref D)) _ _ _;refine wpAny_assign_Name (Kb I' hN hiy (.inl hyl) (show RelV (.ref D) (.ref D) from Y) (λnk I'' p7=>?_) (.inr hyl));obtain ⟨a,sk,ha⟩:=p7;have haC:C≠a:=by
  rcases ha with e | e
  ·rw [e]; exact e4
  ·exact λz=>e5 y a e z.symm
 exact ⟨m,hm.sameBut sk haC,λh' xx=>⟨_,H',I''.apart xx e2 e3 e4 e5 e6,q⟩⟩
end
section
variable {X:Cx} {j4:List (p:)} {σ:St} {H:Hp} {s:Shared} {a:Addr}
def Inv.thaw (I:Inv X j4 σ H s) (e:H a=some (.frz ob (.dK kvs))) (h0:∀ o u,X.H₀ a≠some (.frz o u)):Inv X j4 σ (upd H a (.dK kvs)) s:=by
 have r9:∀ c y,H c=some (.own y)->c≠a:=λc y r z=>by subst z; rw [r] at e; cases e
 have qg:∀ c xs,H c=some (.tup xs)->c≠a:=λc xs r z=>by subst z; rw [r] at e; cases e
 have we:∀ c,H c=none->c≠a:=λc r z=>by subst z; rw [r] at e; cases e
 have hok:HOk X.prog X.w (upd H a (.dK kvs)) s.heap:=λb v q=>by
  have st:∀ c w',Yl X.prog X.w H s.heap c w'->Yl X.prog X.w (upd H a (.dK kvs)) s.heap c w':=λc w' x=>x.stay (λ_ _ _ q=>q) (λd r=>by rw [Ze (r9 d c r)]; exact r) λd xs r=>by rw [Ze (qg d xs r)]; exact r
  by_cases hb:b=a
  ·subst hb
   rw [Zc] at q;cases q;exact st _ _ (I.hok _ _ e).2
  ·rw [Ze hb] at q
   exact st _ _ (I.hok b v q)
 refine ⟨I.ok,I.os,I.bare,⟨I.base.keep,I.base.slot,λb o q n hx=>?_,I.base.there,λb xs q=>?_,λb o u q=>?_,λb ps q=>?_⟩,I.loc,I.cell,?_,λx c q=>?_,λp hp=>?_,hok,I.len⟩
 ·have:=I.base.free b o q n hx
  rw [Ze (we b this)]; exact this
 ·have:=I.base.tups b xs q
  rw [Ze (qg b xs this)]; exact this
 ·have:=I.base.frzs b o u q
  rw [Ze (λz=>by subst z; exact h0 _ _ q)]; exact this
 ·obtain ⟨lm,z⟩:=I.base.tbls b ps q
  exact ⟨lm,by rw [Ze (λw=>by subst w; rw [z] at e; cases e)]; exact z⟩
 ·have:=I.free
  rw [Ze (we _ this)]; exact this
 ·have:=I.freeC x c q
  rw [Ze (we _ this)]; exact this
 ·obtain ⟨q1,q2,q3⟩:=I.pin p hp
  exact ⟨q1,by rw [Ze (we _ q2)]; exact q2,q3⟩
end
def Zta (H0:Hp) (t:TS):TS:=λD σ H=>t { D with nx:=λσ' H'=>∃ (a:Addr) (o:Obj) (kvs:List (Key × V)),H' a=some (ae:)/\(∀ o u,H0 a≠some (.frz o u))/\D.nx σ' (upd H' a (.dK kvs)) } σ H
def Gm {X:Cx} {st:Stmt} {t:TS} (h:PS X st t):PS X st (Zta X.H₀ t):=by
 intro j4 s σ H D I hw;refine wpAny_mono (h j4 s σ H _ I hw) (λf s' q=>?_) λ_ _ e=>e
 cases f with
 | next =>
  obtain ⟨σ',H',I',a,o,kvs,e,h0,q⟩:=q;exact ⟨σ',_,I'.thaw e h0,q⟩
 | ret v=>exact q
 | brk=>exact q
 | cont=>exact q
section
variable {X:Cx}
def Zap {ys:List Str}:∀ {us:List Value},Vals (ys.map V.str) us->StrsAre us ys:=by
 induction ys with
 | nil=>intro us r; rw [map_nil] at r; cases r; exact .nil
 | cons y ys ih =>
  intro us r;rw [map_cons] at r
  cases r with
  | cons r1 r2 =>
   obtain ⟨t,e⟩:=r1;subst e;exact .cons y t (ih r2)
def Ztq (K:W.Frag):V->List V->Hp->VK->Prop:=λo xs H Q=>∃ nh p ys,o=.str nh/\xs=[.ref p]/\SqL K H p (List.map V.str ys)/\nh.length<=16/\(ys.map (·.length)).sum + ys.length<=1048576/\Q (.str (Txt.join nh ys)) H
def Uz:MtR X "str.join" (Ztq X.K):=by
 intro j4 s σ H x xs v us Q I rx rs h;obtain ⟨nh,p,ys,rfl,rfl,hq,h1,h2,q⟩:=h;obtain ⟨t,rfl⟩:=rx;obtain ⟨u,rfl,ru⟩:=Xg rs;cases ru;obtain ⟨its,rv,pl,_⟩:=I.list hq;exact join_listW pl.isList (by simpa using Zap rv) h1 h2 λt' k=>⟨.str _,H,I.tok _,⟨_,Y⟩,q⟩
def Ztp:R2:=λx y H Q=>∃ z n,x=.str z/\y=.int n/\MulOk z n/\Q (.str (Txt.mul z n)) H
def Zqk:OpR X (binaryOp .Mult) Ztp:=by
 intro j4 s σ H x y v u Q I rx ry h;obtain ⟨z,n,rfl,rfl,hok,q⟩:=h;obtain ⟨t,rfl⟩:=rx;obtain ⟨t',rfl⟩:=ry;exact SB.mul hok λt' k=>⟨.str _,H,I.tok _,⟨_,Y⟩,q⟩
end
def Str.ext' {a b:Str} (h:a.cps.toList=b.cps.toList):a=b:=by
 cases a; cases b;simp only [Str.mk.injEq];exact Array.toList_inj.mp h
theorem Zdi:∀ (l:List Str) (a:Array Nat),(l.foldl (λj8 p=>j8 ++ (Str.ofString "").cps ++ p.cps) a).toList=a.toList ++ (l.map λy=>y.cps.toList).flatten
 | [],a=>by simp
 | y :: r,a=>by
  rw [foldl_cons,Zdi r];have:(Str.ofString "").cps=#[]:=by decide +kernel
  rw [this];simp
def Zop (ys:List Str):(Txt.join (Str.ofString "") ys).cps.toList=(ys.map λy=>y.cps.toList).flatten:=by
 unfold Txt.join Builtin.Str.glued
 cases ys with
 | nil=>rfl
 | cons y r =>
  show ((r.foldl (λj8 p=>j8 ++ (Str.ofString "").cps ++ p.cps) y.cps)).toList=_;rw [Zdi];simp
end L2
namespace KT
open PySem L2
noncomputable def aftN (i:Nat):Nat:=if i % 3=2 then i - 2 else i + 1
noncomputable def ky (M:Lq) (c:Nat):Option Nat:=(M[aftN c]?).join
abbrev sL:Str:=Str.ofString "L"
end KT
namespace L2
open PySem PySem.Spec PyProof.Rows
section
variable {X:Cx} {xl:Value->Shared->Prop} {R0:Value->St->Hp->Prop}
def PSL (X:Cx) (xl:Value->Shared->Prop) (R0:Value->St->Hp->Prop) (st:Stmt) (t:TSX):Prop :=
 ∀ j4 s σ H (D:Ends),Inv X j4 σ H s->t D R0 σ H->wpAny (d:) X.A (exec st X.env) (SP X j4 D) xl s
def PSsL (X:Cx) (xl:Value->Shared->Prop) (R0:Value->St->Hp->Prop) (st:List Stmt) (t:TSX):Prop :=
 ∀ j4 s σ H (D:Ends),Inv X j4 σ H s->t D R0 σ H->wpAny (d:) X.A (execs st X.env) (SP X j4 D) xl s
structure LV (X:Cx) (xl:Value->Shared->Prop) (R0:Value->St->Hp->Prop):Prop where
 lv:∀ (j4:List (p:)) (ev:Value) (s':Shared),XS true X j4 R0 ev s'->xl ev s'
 po:PassesOwn (d:) X.A X.env xl
def Jc {st:Stmt} {t:TSX} (L:LV X xl R0) (h:PSX true X st t):PSL X xl R0 st t:=λj4 s σ H D I q =>
 wpAny_mono (h j4 s σ H D R0 I q) (λ_ _ z=>z) λev s' z=>L.lv j4 ev s' z
def Wb {st:Stmt} {j6:List Stmt} {t u:TSX} (h1:PSL X xl R0 st t) (h2:PSsL X xl R0 j6 u):PSsL X xl R0 (st :: j6) (Zjc t u):=by
 intro j4 s σ H D I h;refine wpAny_execs_cons (thn (h1 j4 s σ H { D with nx:=u D R0 } I h) λf s1 q=>?_)
 cases f with
 | next =>
  obtain ⟨σ',H',I',q⟩:=q;exact h2 j4 s1 σ' H' D I' q
 | ret v=>exact q
 | brk=>exact q
 | cont=>exact q
def Og {st:Stmt} {t:TSX} (h1:PSL X xl R0 st t):PSsL X xl R0 [st] t:=by
 intro j4 s σ H D I h;refine wpAny_execs_cons (thn (h1 j4 s σ H D I h) λf s1 q=>?_)
 cases f with
 | next=>exact wpAny_execs_nil q
 | ret v=>exact q
 | brk=>exact q
 | cont=>exact q
def Zth (wi:TI) (g:TG) (tb:TSX):TSX:=λD R σ H=>tFor wi g (λD' σ' H'=>tb D' R σ' H') D σ H
def thnF {α:Type} {m:Sem α} {Q Q':α->Shared->Prop} {s:Shared} (hx:X.xe=(ci:)) (h:wpAny (d:) X.A m Q X.xe s) (k:∀ a s1,Q a s1->Q' a s1):wpAny (d:) X.A m Q' xl s:=by
 rw [hx] at h;exact wpAny_mono h k λ_ _ z=>z.elim
def Zie {tg iter:Expr} {body:List Stmt} {wi:TI} {g:TG} {tb:TSX} {pos:Pos} (L:LV X xl R0) (hc:X.calm=true) (hi:PI X tg iter wi) (hg:PG X tg g) (hb:PSsL X xl R0 body tb)
  (hx:X.xe=(ci:):=by rfl) (hs:∀ x,foldedSetIterable iter X.env x=pure x:=by intro _; rfl):PSL X xl R0 (.For tg iter body [] pos) (Zth wi g tb):=by
 intro j4 s σ H D I h;have hp:=L.po;refine wpAny_For (thnF hx (c7:) λv s1 h1=>thnF hx h1 λzr s2 h2=>?_) hs;obtain ⟨it,fp,tn,J,H2,e,I2,T,mf,f2,W,⟨m0,w0⟩,turn⟩:=h2;subst e;have nz:∀ {H':Hp},(∀ b∈fp,H' b=none)->∀ b∈fp,FpOk X j4 H' b:=λhn b hb=>⟨hn b hb,(f2 b hb).2⟩;refine codeAny_forLoop_any (bb:) ?_ m0 ⟨0,σ,H2,I2,mf,λb hb=>(f2 b hb).1,w0⟩;rintro n s3 ⟨i,σ3,H3,I3,o0,w6,w3⟩
 rcases turn i n σ3 H3 w3 with ⟨stop,qn⟩ | ⟨go,N,hN,step⟩
 ·refine wpAny_passesOwn hp (thn (T.done X rfl rfl rfl hc i j4 s3 σ3 H3 xl I3 (nz w6) o0 stop) λr s4 ⟨hr,I4⟩=>?_)
  subst hr;exact wpAny_execs_nil ⟨σ3,H3,I4,qn⟩
 ·refine wpAny_passesOwn hp (thn (T.item X rfl rfl rfl hc i j4 s3 σ3 H3 xl I3 (nz w6) o0 go) λr s4 ⟨u,hr,h4⟩=>?_)
  subst hr;refine wpAny_passesOwn hp (thn h4 λ_ s5 j9=>?_);obtain ⟨x,H5,I5,r5,y5,tz,fr5⟩:=j9;have I5':=I5.pinned (nz fr5) (T.obj _ _ tz);refine wpAny_passesOwn hp (thnF hx (hg _ s5 σ3 H5 x u _ I5' r5 (step x H5 y5)) λ_ s6 j9=>?_);obtain ⟨σ6,H6,I6,q6⟩:=j9;refine wpAny_passesOwn hp (thn (hb _ s6 σ6 H6 _ I6 q6) λf s7 q7=>?_);have again:∀ {σ7:St} {H7:Hp},Inv X (j4 ++ Ur fp s5.heap) σ7 H7 s7->N σ7 H7->∃ m,m < n/\∃ i σ' H',Inv X j4 σ' H' s7/\tn i s7.heap/\(∀ b∈fp,H' b=none)/\W i m σ' H':=λ{σ7 H7} I7 n7=>by
   obtain ⟨m',hm,w7⟩:=hN σ7 H7 n7
   refine (bn:)
   obtain ⟨o,e,d⟩:=T.obj _ _ tz b hb
   exact (P:).2.1
  cases f with
  | next=>obtain ⟨σ7,H7,I7,n7⟩:=q7; exact again I7 n7
  | cont=>obtain ⟨σ7,H7,I7,n7⟩:=q7; exact again I7 n7
  | brk=>obtain ⟨σ7,H7,I7,q7⟩:=q7; exact ⟨σ7,H7,I7.unpinned,q7⟩
  | ret v=>obtain ⟨x7,σ7,H7,I7,r7,q7⟩:=q7; exact ⟨x7,σ7,H7,I7.unpinned,r7,q7⟩
end
section
variable {P:Program} {w:World} {K:W.Frag} {mg:Str->Option Value} {base:Heap}
def Fun.okL {x qual:Str} {st:Stmt} {f:Addr} {fd:FuncData} {N ps:List Str} {k:Nat} {sp:Sp} (F:Fun K x qual st f fd) (S:FnScope N ps (Zg st)) (len:∀ vs H Q E,sp vs H Q E->vs.length=ps.length)
  (lp:∀ (kj:Value) (A:Around) (outer:List Env) (s:Shared) (H:Hp) (vs:List V) (Q:VK) (E:XK),Room k (af:)->sp vs H Q E ->
   ∃ t,(∀ xl,LV (v:).nox xl (bc:)->PSsL (v:).nox xl (bc:) (Yu st) t)/\t { nx:=λ_ H'=>Q .non H',rt:=Q } (bc:) (start N vs) H):(a:) (k + 1) f fd ps sp:=by
 obtain ⟨oc,od,kV,k6,pm,an,kj,ct,t7,rfl,lk,oy⟩:=F.ex;refine Zeh lk oy S len λA outer s H vs Q E hr mz=>?_;obtain ⟨t,h,q⟩:=lp kj A outer s H vs Q E hr mz;refine (bv:);refine wpAny_mono (h _ ⟨λj4 ev nk z=>Zaf (fr:=true) ?_,PassesOwn.leaving⟩ j4 s' σ' H' D (I.wish _) hD) (λ_ _ z=>z.unwish) λev nk z=>z;obtain ⟨e,T,cls,a0,σ2,H2,h1,h2,h3,h4,h5,h7,h6⟩:=z;exact (ax:)
end
section
noncomputable def Its (x:Str):It :=
 ⟨λi _=>i < x.cps.size,λi H v H'=>H'=H/\∃ c,x.cps[i]?=some c/\v=.str ⟨#[c]⟩,λi _=>x.cps.size<=i⟩
def Znf {P:Program} {w:World} {K:W.Frag} {tg:Expr} (x:Str) (t:Tok) (it:Addr):Turn P w K tg (Its x) [it] it (λi h=>h.IsStrIter it "str_ascii_iterator" x t i) where
 mem:=by simp
 obj:=λi h st b hb=>by
  have e:b=it:=by simpa using hb
  subst e;obtain ⟨o,e,c,d⟩:=st;exact (au:)
 keep:=λi h h' st k=>by
  obtain ⟨o,ho,r⟩:=st;exact ⟨o,k it (by simp) o ho,r⟩
 item:=by
  intro X hP hw hK hc i j4 s σ H E I hf st hg;subst hP hw hK;have hg:i < x.cps.size:=hg;obtain ⟨f0,f1,f2,f3,f4,f5⟩:=hf it (by simp);have hx:x.cps[i]?=some x.cps[i]:=by simp [hg]
  refine wpAny_pyNext_ascii_item st hx λh' on sb=>?_;have I1:Inv X j4 σ H { s with heap:=h',toks:=s.toks + 1 }:=I.turned (t':=s.toks + 1) (λb o hb e=>(sb.2 b hb).trans e) f0 f1 f3 f4 f5;obtain ⟨o,e,c,d⟩:=id on;exact ⟨_,Y,Gu (s:={ s with heap:=h',toks:=s.toks + 1 }) e c d (c:) ⟨.str ⟨#[x.cps[i]]⟩,H,I1,⟨_,Y⟩,⟨Y,_,hx,Y⟩,on,λb hb=>(hf b hb).1⟩⟩
 done:=by
  intro X hP hw hK hc i j4 s σ H E I hf st hg;subst hP hw hK;have hg:x.cps.size<=i:=hg;obtain ⟨f0,f1,f2,f3,f4,f5⟩:=hf it (by simp);exact wpAny_pyNext_ascii_end (ce:) st (by simp [hg]) λh' eb=>⟨Y,I.turned (t':=s.toks) (λb o hb e=>eb b o hb e) f0 f1 f3 f4 f5⟩
 self:=λ_ _ _ _ _ st h=>wpAny_pyIter_striter_ascii st h
variable {X:Cx} {tg:Expr}
def iStr (tl:TE):TI:=λσ H R=>tl σ H λv H1=>∃ x,v=.str x/\x.cps.all (· < 128)=true/\R (Its x) H1
def Zsa {l:Expr} {tl:TE} (hl:PE X l tl):PI X tg l (iStr tl):=by
 intro j4 s σ H R I h;refine thn (hl j4 s σ H _ I h) λv s1 j9=>?_;obtain ⟨x,H1,I1,r1,q1⟩:=j9;obtain ⟨x,e,ha,q⟩:=q1;subst e;obtain ⟨t,rfl⟩:=r1;refine wpAny_pyIter_ascii ha ?_;refine ⟨s1.heap.objs.size,[s1.heap.objs.size],_,_,H1,Y,I1.kept (t':=s1.toks) λb o e=>Ak _ e,Znf x t _,⟨_,Ap _ Y,Y,Y⟩,λb hb=>?_,q⟩;have e:b=s1.heap.objs.size:=by simpa using hb
 subst e;exact I1.fpOk (An _) (eo:)
end
section
variable {P:Program} {w:World} {K:W.Frag} {mg:Str->Option Value} {base:Heap} {x qual:Str} {st:Stmt} {f:Addr} {fd:FuncData} {N ps:List Str} {k:Nat} {sp:Sp}
def Fun.aR (F:Fun K x qual st f fd) (S:FnScope N ps (Zg st))
  (lp:∀ (kj:Value) (A:Around) (outer:List Env) (s:Shared) (H:Hp) (vs:List V) (Q:VK) (E:XK),Room k (af:)->sp vs H Q E ->
   ∃ t,PSs (v:).nox (Yu st) t/\t { nx:=λ_ H'=>Q .non H',rt:=Q } (start N vs) H)
  (len:∀ vs H Q E,sp vs H Q E->vs.length=ps.length:=by (intro vs H Q E h; (repeat (cases h; rename_i h)); all_goals (subst_vars; rfl))):(a:) (k + 1) f fd ps sp:=F.okR S len lp
def Fun.aX (F:Fun K x qual st f fd) (S:FnScope N ps (Zg st))
  (lp:∀ (kj:Value) (A:Around) (outer:List Env) (s:Shared) (H:Hp) (vs:List V) (Q:VK) (E:XK),Room k (af:)->sp vs H Q E ->
   ∃ t,PSsX true (v:).nox (Yu st) t/\t { nx:=λ_ H'=>Q .non H',rt:=Q } (bc:) (start N vs) H)
  (len:∀ vs H Q E,sp vs H Q E->vs.length=ps.length:=by (intro vs H Q E h; (repeat (cases h; rename_i h)); all_goals (subst_vars; rfl))):(a:) (k + 1) f fd ps sp:=F.okX S len lp
end
section
variable {X:Cx}
def Zrr (i:Nat) (f:Addr) (sp:Sp) (k7:List V) (E:XK) (t:TA):TE:=λσ H Q=>σ[i]?=some (some (.ref f))/\Zjf sp k7 E t σ H Q
def Zn9 {CX:CXT} {k i:Nat} {f:Addr} {fd:FuncData} {ps:List Str} {sp:Sp} {ds:List Value} {k7:List V} {E:XK} {x:Str} {p pos:Pos} {e:Expr} {es:List Expr} {t:TA} (F:FnOk X.prog X.w X.K X.mg X.base CX k f fd ps sp) (hr:Room k X.A) (hN:X.N[i]?=some x) (hv:Vis X.env.scope x) (hk:PySem.W.keepIn X.K (.ref f)=true) (hb:Wg X.K fd ps ds) (hd:Vals k7 ds) (hx:Q2 CX X E)
  (ha:PA X (e :: es) t) (ny:(H:)=false:=by decide) (oy:(x == ("__classdict__":Str))=false:=by decide) (he:starEach (e :: es) X.env=(I:) :: starEach es X.env:=by rfl) (lg:(z:).any (·.1)=false:=by rfl) :
  PE X (V:) (Zrr i f sp k7 E t):=by
 intro j4 s σ H Q I h;obtain ⟨h0,h⟩:=h;refine wpAny_Call_Name_kw (thn (Zlt hN hv ny oy j4 s σ H (λv H'=>v=.ref f/\H'=H) I (MVar.of h0 ⟨Y,Y⟩)) λv s1 j9=>?_);obtain ⟨y,H1,I1,r1,e1,e2⟩:=j9;subst e1 e2;cases r1;refine PySem.W.callWith_K (h₀:=X.base) I1.ok.mod.kin hk (thn (ha pos j4 s1 σ _ _ I1 h) λus s2 zz40=>?_) he lg;obtain ⟨vs,H2,I2,r,q⟩:=zz40;refine ⟨I2.kIn,?_⟩;exact Za7 F hr hb hd hx I2 r q
end
end L2
namespace L2
open PySem PySem.Spec PyProof.Rows PySem.SeqAt
end L2
namespace KT
open PySem L2
def CH (R:Nat->Nat->Prop) (l:List Nat):Prop:=∀ (k u v:Nat),l[k]?=some u->l[k + 1]?=some v->R u v
structure Mv (M:Lq) (ns:List Int) (x:Int) (a b:Nat):Prop where
 hM:M[a]?=some (some b)
 lt:a < b
 nm:ns[a]?=some x
 ab:a / 3≠b / 3
section
variable {M M':Lq} {ns vd:List Int} {ws ws':List Nat} {mv:List (Int × Bool)} {x:Int} {left:Bool} {a b:Nat}
def Mv.lts (h:Mv M ns x a b) (td:TD M ns):a < M.length/\b < M.length:=⟨(Aa h.hM).1,(Aa (td.inv a b h.hM).1).1⟩
end
end KT
namespace L2
open PySem PySem.Spec PyProof.Rows
section
variable {X:Cx} {pos:Pos}
def psN (i:Nat) {x:Str} {e:Expr} {te:TE} {ml:Pos} (hN:X.N.Nodup) (he:PE X e te) (hi:X.N[i]?=some x:=by rfl) (hx:Loc X.env.scope x:=by first | exact Or.inl rfl | exact Or.inr rfl) (hs:swapsWith e (some (.Name x ml)) pos.line X.env=pure false:=by rfl) (hf:X.fn x=true\/X.env.scope.names.lookup x=some .local:=by first | exact .inl rfl | exact .inr rfl | assumption):PS X (.Assign [.Name x ml] e pos) (tAsg te (Zm i)):=Zr5 hN hi hx he hs hf
def pgN (i:Nat) {x:Str} (hN:X.N.Nodup) (hi:X.N[i]?=some x:=by rfl) (hx:Loc X.env.scope x:=by first | exact Or.inl rfl | exact Or.inr rfl) (hf:X.fn x=true\/X.env.scope.names.lookup x=some .local:=by first | exact .inl rfl | exact .inr rfl | assumption):PG X (.Name x pos) (Zm i):=Us hN hi hx hf
end
abbrev oR (a:Addr):Option V:=some (.ref a)
abbrev oI (i:Int):Option V:=some (.int i)
abbrev oS (x:Str):Option V:=some (.str x)
def nd1 (x:Str):[x].Nodup:=pairwise_singleton _ _
def nd2 {x y:Str} (h:x≠y:=by decide +kernel):[x,y].Nodup:=nodup_cons.mpr ⟨λz=>h (Af z),nd1 y⟩
def nd3 {x y z:Str} (h:x≠y:=by decide +kernel) (h1:x≠z:=by decide +kernel) (h2:y≠z:=by decide +kernel):[x,y,z].Nodup:=nodup_cons.mpr ⟨λk=>(Ar k).elim h λk=>h1 (Af k),nd2 h2⟩
section
variable {X:Cx} {o e:Expr} {es:List Expr} {to:TE} {t:TA} {kf kd:Pos}
def Wp (ho:PE X o to) (ha:PA X (e :: es) t)
 (p3:attributeBase o "append" X.env (eval o X.env)=eval o X.env:=by rfl)
 (ul:((backTo kd (starEach (e :: es) X.env)).all (λx=>!x.1) && (bu:).all (λx=>x.1.isSome)
   && decide ((e :: es).length + ([]:List Keyword).length + (a1:) < 30))=true:=by rfl)
 (pz:(kf.endLine == kd.line)=true:=by rfl) (hs:starEach (e :: es) X.env=(I:) :: starEach es X.env:=by rfl) (qi:(d3:).any (·.1)=false:=by rfl) :
  PE X (.Call (.Attribute o "append" kf) (e :: es) [] kd) (tBM X.K "list" Zic to t):=W4 PySem.F.plainAttrs_list PySem.F.slot_list_append PySem.F.type_list_append Zdc ho ha p3 ul pz hs qi
end
def lnN {n:Nat} (h:n<=1000):n<=sizeLine:=Nat.le_trans h (by rw [sizeLine_eq]; decide)
def szR {n:Nat} (h:Nat.ble n 1000=true):n<=sizeLine:=Nat.le_trans (le_of_ble_eq_true h) (by rw [sizeLine_eq]; decide)
section
variable {X:Cx} {e:Expr} {es:List Expr} {t:TA} {p pos:Pos}
def Zx (hm:X.mg "len"=none) (ha:PA X (e :: es) t) (hg:Gl X "len":=by rfl)
  (he:starEach (e :: es) X.env=(I:) :: starEach es X.env:=by rfl) (lg:(z:).any (·.1)=false:=by rfl):PE X (.Call (.Name "len" p) (e :: es) [] pos) (tCB (λxs H Q=>∃ p ys,xs=[.ref p]/\(SqL X.K H p ys\/SqT X.K H p ys)/\Q (.int ys.length) H) t):=Yg Gg hg hm PySem.boot_len ha (c:) (c:) he lg
end
def FlyA (e T:Addr) (cls a0 fl:Value) (h:Heap):Prop :=
 ∃ oe vs oT ts,h.get? e=some oe/\(oe.cls=cls/\vs[0]?=some a0)/\oe.data=.fields vs/\vs[1]?=some (.ref T)/\T≠e/\h.get? T=some oT/\oT.data=.fields ts/\ts[3]?=some fl
def XA (X:Cx) (j4:List (p:)) (E:XK) (ev:Value) (s':Shared):Prop :=
 ∃ (e T:Addr) (cls a0 fl:Value) (σ':St) (H':Hp),ev=.ref e/\Inv X j4 σ' H' s'/\FlyA e T cls a0 fl s'.heap/\FxOk X j4 H' e/\FxOk X j4 H' T/\E cls none H'
abbrev TBX:=St->Hp->(St->Hp->Prop)->XK->Prop
def G0 {M:Model} {A:Around} {E:Value->Shared->Prop} {s:Shared} {base:Heap} {env:Env} {outer:List Env} {L e:Addr} {cls a0 fl:Value} {Q:Unit->Shared->Prop}
  (wy:A.frames=some (env :: outer)) (hl:s.heap.FunFrames base (env :: outer)) (hf:env.frame=some L) (ht:s.heap.TracedAtW base e cls a0 fl) (yf:base.StaysIn s.heap) (hen:base.get? e=none)
  (h:∀ h',Heap.LeftW base (env :: outer) e cls a0 s.heap h'->Q () { s with heap:=h' }):wpAny M A (leaving env (.ref e)) Q E s:=by
 by_cases hb:(fl == rawInt L)=true
 ·have htt:=ht
  obtain ⟨oe,vs,T,oT,ts,he,hc0,hd,h1,hnT,hTe,hT,hdT,h3⟩:=ht;unfold leaving noteFrame;simp only [hf];refine Al (Al (wpAny_field he hd h1 ?_));rw [if_pos (show (Value.ref T != Value.none)=true from by simp)];refine Al (wpAny_field hT hdT h3 ?_);rw [if_pos hb];refine wpAny_pure ?_;refine wpAny_setFlight_noneW yf hl htt λh' k1 k2 k3 k4=>h h' ⟨k1,k2,k3,λb o z n=>⟨o.slots,k4 b o z n⟩⟩
 ·obtain ⟨oe,vs,T,oT,ts,he,⟨zb,h0⟩,hd,h1,hnT,hTe,hT,hdT,h3⟩:=ht
  subst zb;unfold leaving noteFrame;simp only [hf];refine Al (Al (wpAny_field he hd h1 ?_));rw [if_pos (show (Value.ref T != Value.none)=true from by simp)];refine Al (wpAny_field hT hdT h3 ?_);rw [if_neg hb];refine Al (wpAny_setField hT hdT (Array.getElem?_eq_some_iff.mp h3).1 ?_);have other:∀ b,b≠T->(s.heap.update T (Obj.mapFields (·.setIfInBounds 3 Value.none))).get? b=s.heap.get? b:=λb hb=>Heap.get?_update_other _ _ (Ne.symm hb);have rec0:∀ b o,s.heap.get? b=some o->(∀ vs,o.data≠.fields vs)->b≠T:=λb o hb hnf q=>by
   rw [q,hT] at hb; injection hb with hb; subst hb; exact hnf ts hdT
  exact wpAny_newEntryW wy (hl.of_keeps λb o hb hnf=>⟨o,(other b (rec0 b o hb hnf)).trans hb,Y⟩) hf ((other e (Ne.symm hTe)).trans he)
   (λb o hbo=>(other b λq=>by rw [q,hnT] at hbo; cases hbo).trans (yf b o hbo)) hen hd (Array.getElem?_eq_some_iff.mp h1).1 h0
   λh' ⟨x1,x2,x3,x4⟩=>h h' ⟨x1,x2,x3,λb o hb hnf=>x4 b o ((other b (rec0 b o hb hnf)).trans hb) hnf⟩
section
variable {P:Program} {w:World} {K:W.Frag} {mg:Str->Option Value} {base:Heap}
def Zmh {N:List Str} {qual:Str} {scope:Scope} {f:Addr} {cd:Value} {A:Around} {outer:List Env} {s s':Shared} {H:Hp} {E:XK} {ev:Value} {j4:List (p:)}
  (h:XA (al:).nox j4 E ev s'):(al:).xe ev s':=by
 obtain ⟨e,T,cls,a0,fl,σ',H',rfl,I,hx,fe,fT,q⟩:=h;show wpAny (W:) (A.deeper (F:)) (leaving (F:) (.ref e)) (λ_ nk=>CXr P w outer H s E (.ref e) nk) (λe' nk=>CXr P w outer H s E e' nk) s';have wy:(A.deeper (F:)).frames=some (f:):=I.ok.frames;have n0:∀ b,b∈[e,T]->s.heap.get? b=none:=λb hb=>by
  rcases Ar hb with z | z
  ·rw [z]; exact fe.n0
  ·obtain rfl:b=T:=by simpa using z
   exact fT.n0
 have nt:∀ b,b∈[e,T]->H' b=none:=λb hb=>by
  rcases Ar hb with z | z
  ·rw [z]; exact fe.nt
  ·obtain rfl:b=T:=by simpa using z
   exact fT.nt
 have hB:∀ b o,b ∉ [e,T]->b ∉ frs (f:)->s'.heap.get? b=some o->(c8:).get? b=some o:=λb o h1 h2 e1 =>
  PySem.W.hideAll_get _ e1 λz=>(mem_append.mp z).elim h1 h2
 have hl:s'.heap.FunFrames (c8:) (f:):=Qo I _ λb hb=>mem_append_right _ hb;have yf:(c8:).StaysIn s'.heap:=λb o e1=>PySem.W.of_hideAll _ e1;have hen:(c8:).get? e=none:=PySem.W.hideAll_none _ (mem_append_left _ mem_cons_self);obtain ⟨oe,vs,oT,ts,y1,y2,y3,y4,y5,y6,y7,y8⟩:=hx;refine G0 wy hl Y ⟨oe,vs,T,oT,ts,y1,y2,y3,y4,PySem.W.hideAll_none _ (mem_append_left _ (by simp)),y5,y6,y7,y8⟩ yf hen λh' j9=>?_;obtain ⟨k1,k2,k3,k4⟩:=j9;obtain ⟨oe,vs,T',oT,ts,x1,x2,x3,x4,x5,x6,x7,x8,x9⟩:=k3;have oh:∀ b o,b∈frs (f:)->s'.heap.get? b=some o->∃ sl,h'.get? b=some { o with slots:=sl }:=λb o hb e1=>k4 b o e1 (I.fnd hb e1);have kept:∀ b o,b ∉ [e,T]->b ∉ frs (f:)->s'.heap.get? b=some o->h'.get? b=some o:=λb o h1 h2 e1=>k1 b o (hB b o h1 h2 e1);have nL:∀ b o,s.heap.get? b=some o->b ∉ frs outer->b ∉ frs (f:):=λb o e1 h2 z=>by
  have z':b∈s.heap.objs.size :: frs outer:=z
  rcases Ar z' with z1 | z1
  ·rw [z1] at e1; exact absurd (Ao e1) (b9:)
  ·exact h2 z1
 have nE:∀ b o,s.heap.get? b=some o->b ∉ [e,T]:=λb o e1 z=>by rw [n0 b z] at e1; cases e1
 have rc:∀ b u,H' b=some u->∀ o,s'.heap.get? b=some o->h'.get? b=some o:=λb u hu o e1=>by
  refine kept b o (λz=>by rw [nt b z] at hu; cases hu) (λz=>?_) e1;rw [I.stkFree b z] at hu; cases hu
 have hT':s.heap.get? T'=none/\H' T'=none:=by
  by_cases hz:s'.heap.get? T'=none
  ·refine ⟨?_,I.untr hz⟩
   cases q':s.heap.get? T' with
   | none=>rfl
   | some o =>
    obtain ⟨o',e'⟩:=I.base.there T' o q' (by simp [cxOf]);rw [hz] at e'; cases e'
  ·obtain ⟨o,ho⟩:=Option.ne_none_iff_exists'.mp hz
   by_cases h1:T'∈[e,T]
   ·exact ⟨n0 T' h1,nt T' h1⟩
   ·by_cases h2:T'∈frs (envOfC qual scope s.heap.objs.size f cd :: outer)
    ·exfalso
     obtain ⟨sl,e'⟩:=oh T' o h2 ho;rw [x7] at e';cases e';exact I.fnd h2 ho ts x8
    ·rw [hB T' o h1 h2 ho] at x5; cases x5
 refine (dp:)
 ·refine Un.leave I.base (λb o e1 h1 e2=>kept b o (nE b o e1) (nL b o e1 h1) e2) (λb o hb e1=>oh b o (mem_cons_of_mem _ hb) e1) λb o e1 o' e2=>?_
  by_cases h2:b∈frs outer
  ·obtain ⟨sl,e'⟩:=oh b o' (mem_cons_of_mem _ h2) e2
   exact ⟨_,e'⟩
  ·exact ⟨o',kept b o' (nE b o e1) (nL b o e1 h2) e2⟩
 ·refine (I.hok b u hu).stay (λc v hc e1=>?_) (λ_ z=>z) λ_ _ z=>z
  rcases hc with z | z
  ·exact rc c u (by rw [z]; exact hu) v e1
  ·exact rc c _ z v e1
end
def Zms {K:W.Frag} {a:Addr} {xs:List V} {g:TG} {tb:TSX} {R:Value->St->Hp->Prop} {D:Ends} {σ:St} {H:Hp} (Pv:Nat->St->Hp->Prop) (h0:Pv 0 σ H) (hl:∀ i σ H,i<=xs.length->Pv i σ H->SqL K H a xs)
  (hs:∀ i x σ H,xs[i]?=some x->Pv i σ H->g x σ H λσ2 H2=>tb { D with nx:=Pv (i + 1),ct:=Pv (i + 1),bk:=D.nx } R σ2 H2) (hd:∀ σ H,Pv xs.length σ H->D.nx σ H) :
  ∃ W:Nat->Nat->St->Hp->Prop,(de:)/\∀ i m σ H,W i m σ H ->
   ((Itl K a).stop i H/\D.nx σ H)\/((Itl K a).go i H/\∃ N:St->Hp->Prop,(q:)/\∀ x H',(Itl K a).yld i H x H'->g x σ H' λσ2 H2=>tb { D with nx:=N,ct:=N,bk:=D.nx } R σ2 H2) :=
 Op (tb:=λD' σ' H'=>tb D' R σ' H') Pv h0 hl hs hd
section
variable {P:Program} {w:World} {A:Around} {E:Value->Shared->Prop} {s:Shared}
def Zmz (hh:A.handled=none) (it t:Addr) (kq:t≠it) (its:Array Value):Draws P w A it [it,t] its.size (λi v=>its[i]?=some v) (λi h=>IsTupIter h it t i/\IsTup h t its):=by
 refine ⟨λ_ _ st=>let ⟨o,ho,_⟩:=st.1; ⟨o,ho⟩,λ_ _ _ st k=>?_,λi s Q E hi st hQ=>?_,λs Q E st hE=>?_⟩
 ·obtain ⟨⟨o,ho,r⟩,o2,yd,r2⟩:=st
  exact ⟨⟨o,k it (by simp) o ho,r⟩,o2,k t (by simp) o2 yd,r2⟩
 ·obtain ⟨ox,ht⟩:=st
  obtain ⟨o,ho,hc,hd⟩:=id ox;obtain ⟨ol,sv,_,nl,ud⟩:=id ht;have hx:its[i]?=some its[i]:=Array.getElem?_eq_getElem hi;unfold Builtin.SmallTypes.nextOf;refine Al (a9:);refine Al (m:=field (.ref it) 0) (wpAny_field ho hd (x:=.ref t) Y ?_);show wpAny _ _ (if (Value.ref t == Value.none)=true then _ else _) _ _ s;rw [if_neg (show ¬ ((Value.ref t == Value.none)=true) from Bool.false_ne_true)];refine Al (m:=field (.ref it) 1) (wpAny_field ho hd (x:=.int i 0) Y (Al (m:=seqItems? (.ref t)) (wpAny_seqItems sv ud ?_)));simp only [Int.toNat_natCast,hx];refine Al (wpAny_setField ho hd (by simp) (wpAny_pure ⟨its[i],Y,wpAny_pure (hQ _ _ s.toks hx ⟨?_,(Heap.get?_update_other _ _ (Ne.symm kq)).trans sv |> λe=>⟨ol,e,‹_›,nl,ud⟩⟩ (Heap.SameBut.update ..))⟩));exact ⟨_,Heap.get?_update_self _ ho (Obj.isFreed_of_fields (Obj.data_mapFields hd _)),(Obj.cls_mapFields ..).trans hc,by rw [Obj.data_mapFields hd]; simp [rawInt]⟩
 ·obtain ⟨ox,ht⟩:=st
  obtain ⟨o,ho,hc,hd⟩:=id ox;obtain ⟨ol,sv,_,nl,ud⟩:=id ht;unfold Builtin.SmallTypes.nextOf;refine Al (a9:);refine Al (m:=field (.ref it) 0) (wpAny_field ho hd (x:=.ref t) Y ?_);show wpAny _ _ (if (Value.ref t == Value.none)=true then _ else _) _ _ s;rw [if_neg (show ¬ ((Value.ref t == Value.none)=true) from Bool.false_ne_true)];refine Al (m:=field (.ref it) 1) (wpAny_field ho hd (x:=.int its.size 0) Y (Al (m:=seqItems? (.ref t)) (wpAny_seqItems sv ud ?_)));simp only [Int.toNat_natCast,Array.getElem?_eq_none (An its.size)];refine Al (wpAny_rule (Al (wpAny_setField ho hd (by simp) ?_)));refine Al (m:=newExc (.type "StopIteration") []) ?_;simp only [newExc,newTuple];refine Al (wpAny_newObj_type ?_ (by size_fits));refine Al (m:=firstArgMember _ _) (wpAny_of_eq (a:=Value.none) (by first | rfl | (simp only [firstArgMember]; rfl)) (wpAny_newObj_type ?_ (by size_fits)));exact wpAny_raiseNew_none (A:=A.in1) hh (hE _ _ (((Heap.SameBut.update ..).extBut.push _).push _) ⟨_,Ap _ Y,Y⟩)
structure ZA (z TI TO i1 i2:Addr) (f1 f2:List Addr):Prop where
 TIz:TI≠z
 TOz:TO≠z
 i1z:i1≠z
 i2z:i2≠z
 TITO:TI≠TO
 TIi1:TI≠i1
 TIi2:TI≠i2
 TOi1:TO≠i1
 TOi2:TO≠i2
 i12:i1≠i2
 z1:z ∉ f1
 z2:z ∉ f2
 t1:TO ∉ f1
 t2:TO ∉ f2
 a1:i2 ∉ f1
 a2:i1 ∉ f2
variable {z TI TO i1 i2:Addr} {f1 f2:List Addr} {n1 n2:Nat} {P1 P2:Nat->Value->Prop} {S1 S2:Nat->Heap->Prop} {a b:Value}
def Zkn {k:Nat} {Q:Option Value->Shared->Prop} (D1:Draws P w A.in1 i1 f1 n1 P1 S1) (D2:Draws P w A.in1 i2 f2 n2 P2 S2) (D:ZA z TI TO i1 i2 f1 f2) (hz:IsZip s.heap z TI TO .none) (hTI:IsPair s.heap TI (.ref i1) (.ref i2)) (hTO:IsPair s.heap TO a b)
  (s1:S1 k s.heap) (s2:S2 k s.heap) (l1:k < n1) (l2:k < n2)
  (hQ:∀ x y h' tk,P1 k x->P2 k y->IsZip h' z TI TO (rawInt s.heap.objs.size)->IsPair h' TO x y->S1 (k + 1) h'->S2 (k + 1) h'->IsPair h' s.heap.objs.size x y ->
   (b4:)->Q (some (x:)) { s with heap:=h',toks:=tk }):wpAny (W:) A (pyNext (.ref z)) Q E s:=by
 have hT:s.TypeIs (.ref z) "zip":=⟨_,hz,rfl⟩;unfold pyNext;refine Al (a5:);refine Al (m:=field (.ref z) 2) (wpAny_field hz Y (x:=.bool false) Y ?_);refine Al (m:=field (.ref z) 3) (wpAny_field hz Y (x:=.ref TI) Y (Al (wpAny_seqItems hTI Y ?_)));refine Al (m:=Builtin.SmallTypes.ownedTupleIsFree (.ref z)) ?_;unfold Builtin.SmallTypes.ownedTupleIsFree;refine Al (wpAny_field hz Y (x:=.none) Y (ad:));simp only [if_true];refine Al (ec:);replace q1:IsZip g1 z TI TO .ellipsis:=q1;refine Al ?_;simp only [zipIdx_cons,zipIdx_nil,forIn_cons,forIn_nil];refine Al (Al (wpAny_onRaise (Al (m:=Builtin.SmallTypes.nextOf (.ref i1)) (D1.item k _ _ _ l1 (D1.frame k _ _ s1 λc hc o e=>b1.extBut c o (λq=>D.z1 (q ▸ hc)) e) λx g2 tk2 px mf b2=>wpAny_pure ?_))));have r2:IsPair g2 TO a b:=b2.extBut _ _ D.TOi1 (b1.extBut _ _ D.TOz hTO);refine Al (wpAny_seqItems r2 Y (Al (wpAny_updateSeq_pair r2 λg3 r3 b3=>Al (wpAny_letGo (ad:)))));replace r3:IsPair g3 TO x b:=r3;have o0:S2 k g3:=D2.frame k _ _ s2 λc hc o e=>b3.extBut c o (λq=>D.t2 (q ▸ hc)) (b2.extBut c o (λq=>D.a2 (q ▸ hc)) (b1.extBut c o (λq=>D.z2 (q ▸ hc)) e));refine Al (Al (wpAny_onRaise (Al (m:=Builtin.SmallTypes.nextOf (.ref i2)) (D2.item k _ _ _ l2 o0 λy g4 tk4 py xj b4=>wpAny_pure ?_))));have r4:IsPair g4 TO x b:=b4.extBut _ _ D.TOi2 r3;refine Al (wpAny_seqItems r4 Y (Al (wpAny_updateSeq_pair r4 λg5 r5 b5=>Al (wpAny_letGo (wpAny_pure (ad:))))));replace r5:IsPair g5 TO x y:=r5;refine Al (wpAny_seqItems r5 Y (Al (wpAny_newTuple ?_)));have sz:g5.objs.size=s.heap.objs.size:=by rw [b5.1,b4.1,b3.1,b2.1,b1.1]
 have q5:IsZip g5 z TI TO .ellipsis:=b5.extBut _ _ D.TOz.symm (b4.extBut _ _ D.i2z.symm (b3.extBut _ _ D.TOz.symm (b2.extBut _ _ D.i1z.symm q1)));have k5:∀ c o,c≠z->c≠TO->c≠i1->c≠i2->s.heap.get? c=some o->g5.get? c=some o:=λc o c1 c2 c3 c4 e=>b5.extBut _ _ c2 (b4.extBut _ _ c4 (b3.extBut _ _ c2 (b2.extBut _ _ c3 (b1.extBut _ _ c1 e))));have u1:S1 (k + 1) g5:=D1.frame _ _ _ mf λc hc o e=>b5.extBut c o (λq=>D.t1 (q ▸ hc)) (b4.extBut c o (λq=>D.a1 (q ▸ hc)) (b3.extBut c o (λq=>D.t1 (q ▸ hc)) e));have u2:S2 (k + 1) g5:=D2.frame _ _ _ xj λc hc o e=>b5.extBut c o (λq=>D.t2 (q ▸ hc)) e;have zl:z < g5.objs.size:=Ao q5;refine Al (m:=Builtin.SmallTypes.ownedTupleHandOut (.ref z) (.ref g5.objs.size)) ?_;unfold Builtin.SmallTypes.ownedTupleHandOut;refine Al (wpAny_setField_rec (show IsZip (g5.push { cls:=.type "tuple",data:=.seq #[x,y] }) z TI TO .ellipsis from Ak _ q5) (by simp) λg7 q7 b7=>?_);replace q7:IsZip g7 z TI TO (rawInt g5.objs.size):=q7;refine wpAny_setField_rec q7 (by simp) λg8 q8 b8=>?_;replace q8:IsZip g8 z TI TO (rawInt g5.objs.size):=q8;have up:∀ c o,c≠z->g5.get? c=some o->g8.get? c=some o:=λc o c1 e=>b8.extBut _ _ c1 (b7.extBut _ _ c1 (Ak _ e));have r8:IsPair g8 g5.objs.size x y:=b8.extBut _ _ (Nat.ne_of_gt zl) (b7.extBut _ _ (Nat.ne_of_gt zl) (Ap _ rfl));rw [sz] at q8 r8;refine wpAny_pure ⟨_,Y,wpAny_pure ?_⟩;show Q (some (.ref g5.objs.size)) _;rw [sz];exact hQ x y g8 tk4 px py q8 (up _ _ D.TOz r5) (D1.frame _ _ _ u1 λc hc o e=>up c o (λq=>D.z1 (q ▸ hc)) e) (D2.frame _ _ _ u2 λc hc o e=>up c o (λq=>D.z2 (q ▸ hc)) e) r8 λc o c1 c2 c3 c4 e=>up c o c1 (k5 c o c1 c2 c3 c4 e)
def Znd {k:Nat} {Q:Option Value->Shared->Prop} (D1:Draws P w A.in1 i1 f1 n1 P1 S1) (D2:Draws P w A.in1 i2 f2 n2 P2 S2) (D:ZA z TI TO i1 i2 f1 f2) (hz:IsZip s.heap z TI TO .none) (hTI:IsPair s.heap TI (.ref i1) (.ref i2)) (hTO:IsPair s.heap TO a b)
  (s1:S1 k s.heap) (s2:S2 k s.heap) (l1:k=n1\/k < n1/\k=n2)
  (hQ:∀ h' tk,(b4:)->Q none { s with heap:=h',toks:=tk }):wpAny (W:) A (pyNext (.ref z)) Q E s:=by
 have hT:s.TypeIs (.ref z) "zip":=⟨_,hz,rfl⟩;have km:∀ (h':Heap) (tk:Nat) (e:Addr),(b4:)->(∃ o,h'.get? e=some o/\o.cls=.type "StopIteration") ->
   wpAny (W:) A (do if <- isInstance (.ref e) (.type "StopIteration") then pure (none:Option Value) else throw (.ref e)) Q E { s with heap:=h',toks:=tk }:=λh' tk e kp ⟨o,ho,hc⟩ =>
  Al (wpAny_isInstance (T:="StopIteration") (b:=true) ⟨o,ho,hc⟩ isSubtype_stop (wpAny_pure (hQ _ _ kp)))
 unfold pyNext;refine Al (a5:);refine Al (m:=field (.ref z) 2) (wpAny_field hz Y (x:=.bool false) Y ?_);refine Al (m:=field (.ref z) 3) (wpAny_field hz Y (x:=.ref TI) Y (Al (wpAny_seqItems hTI Y ?_)));refine Al (m:=Builtin.SmallTypes.ownedTupleIsFree (.ref z)) ?_;unfold Builtin.SmallTypes.ownedTupleIsFree;refine Al (wpAny_field hz Y (x:=.none) Y (ad:));simp only [if_true];refine Al (ec:);replace q1:IsZip g1 z TI TO .ellipsis:=q1;refine Al ?_;simp only [zipIdx_cons,zipIdx_nil,forIn_cons,forIn_nil];have qk:S1 k g1:=D1.frame k _ _ s1 λc hc o e=>b1.extBut c o (λq=>D.z1 (q ▸ hc)) e
 rcases l1 with rfl | ⟨l1,rfl⟩
 ·refine Al (Al (wpAny_onRaise (Al (m:=Builtin.SmallTypes.nextOf (.ref i1)) (D1.done _ _ _ qk λg2 e b2 ⟨oe,yb,hce⟩=>?_))))
  have q2:IsZip g2 z TI TO .ellipsis:=b2 _ _ D.i1z.symm q1;have ez:e≠z:=λx=>by subst x; rw [q2] at yb; cases yb; simp at hce
  exact wpAny_setField_rec q2 (by simp) λg3 _ b3=>km g3 s.toks e (λc o c1 _ c3 _ x=>b3.extBut _ _ c1 (b2 _ _ c3 (b1.extBut _ _ c1 x))) ⟨oe,b3.extBut _ _ ez yb,hce⟩
 ·refine Al (Al (wpAny_onRaise (Al (m:=Builtin.SmallTypes.nextOf (.ref i1)) (D1.item k _ _ _ l1 qk λx g2 tk2 px mf b2=>wpAny_pure ?_))))
  have r2:IsPair g2 TO a b:=b2.extBut _ _ D.TOi1 (b1.extBut _ _ D.TOz hTO);refine Al (wpAny_seqItems r2 Y (Al (wpAny_updateSeq_pair r2 λg3 r3 b3=>Al (wpAny_letGo (ad:)))));have o0:S2 k g3:=D2.frame k _ _ s2 λc hc o e=>b3.extBut c o (λq=>D.t2 (q ▸ hc)) (b2.extBut c o (λq=>D.a2 (q ▸ hc)) (b1.extBut c o (λq=>D.z2 (q ▸ hc)) e));refine Al (Al (wpAny_onRaise (Al (m:=Builtin.SmallTypes.nextOf (.ref i2)) (D2.done _ _ _ o0 λg4 e b4 j9=>?_))));obtain ⟨oe,yb,hce⟩:=j9;have q4:IsZip g4 z TI TO .ellipsis:=b4 _ _ D.i2z.symm (b3.extBut _ _ D.TOz.symm (b2.extBut _ _ D.i1z.symm q1));have ez:e≠z:=λx=>by subst x; rw [q4] at yb; cases yb; simp at hce
  exact wpAny_setField_rec q4 (by simp) λg5 _ b5=>km g5 tk2 e (λc o c1 c2 c3 c4 x=>b5.extBut _ _ c1 (b4 _ _ c4 (b3.extBut _ _ c2 (b2.extBut _ _ c3 (b1.extBut _ _ c1 x))))) ⟨oe,b5.extBut _ _ ez yb,hce⟩
end
inductive ZS where
 | l (a:Addr)
 | t (a:Addr)
 | s (x:Str)
noncomputable def ZS.ad:ZS->List Addr
 | .l a=>[a]
 | .t a=>[a]
 | .s _=>[]
def ZS.has (K:W.Frag) (H:Hp) (S:ZS) (xs:List V):Prop:=match S with
 | .l a=>SqL K H a xs
 | .t a=>SqT K H a xs
 | .s x=>x.cps.all (· < 128)=true/\xs=x.cps.toList.map λc=>V.str ⟨#[c]⟩
def ZS.it (S:ZS) (i:Addr) (k:Nat) (h:Heap):Prop:=match S with
 | .l a=>h.IsListIter i a k
 | .t a=>IsTupIter h i a k
 | .s x=>∃ t,h.IsStrIter i "str_ascii_iterator" x t k
noncomputable def ZS.v:ZS->V
 | .l a=>.ref a
 | .t a=>.ref a
 | .s x=>.str x
def ZS.it_obj {S:ZS} {i:Addr} {k:Nat} {h:Heap} (st:S.it i k h):∃ o,h.get? i=some o/\∀ v,o.data≠.cell v:=by
 cases S with
 | l a=>obtain ⟨o,e,_,d⟩:=st; exact (au:)
 | t a=>obtain ⟨o,e,_,d⟩:=st; exact (au:)
 | s x=>obtain ⟨t,o,e,_,d⟩:=st; exact (au:)
def ZS.it_keep {S:ZS} {i:Addr} {k:Nat} {h h':Heap} (st:S.it i k h) (kp:∀ o,h.get? i=some o->h'.get? i=some o):S.it i k h':=by
 cases S with
 | l a=>obtain ⟨o,e,r⟩:=st; exact ⟨o,kp o e,r⟩
 | t a=>obtain ⟨o,e,r⟩:=st; exact ⟨o,kp o e,r⟩
 | s x=>obtain ⟨t,o,e,r⟩:=st; exact ⟨t,o,kp o e,r⟩
def ZS.has_inj {X:Cx} {j4:List (p:)} {σ:List (Option V)} {H:Hp} {s:Shared} (I:Inv X j4 σ H s) {S:ZS} {xs ys:List V} (h1:S.has X.K H xs) (h2:S.has X.K H ys):xs=ys:=by
 cases S with
 | l a=>exact I.list_inj h1 h2
 | t a=>exact I.tuple_inj h1 h2
 | s x=>rw [h1.2,h2.2]
section
variable {X:Cx} {j4:List (p:)} {σ:List (Option V)} {H:Hp} {s:Shared}
def ZS.draws (I:Inv X j4 σ H s) {A:Around} (hh:A.handled=none) {S:ZS} {xs:List V} (h:S.has X.K H xs) {i:Addr} (hi:i ∉ S.ad) {k:Nat} (st:S.it i k s.heap) :
  ∃ (P1:Nat->Value->Prop) (St:Nat->Heap->Prop),Draws X.prog X.w A i (i :: S.ad) xs.length P1 St/\St k s.heap/\(∀ k h,St k h->S.it i k h)/\∀ (k:Nat) (v:Value) (x:V),P1 k v->xs[k]?=some x->RelV x v:=by
 cases S with
 | l a =>
  obtain ⟨its,rv,pl,_⟩:=I.list h;have hl:xs.length=its.toArray.size:=by rw [Aq]; exact rv.length
  have kq:a≠i:=λz=>hi (by rw [z]; exact mem_singleton.mpr Y);refine ⟨_,_,hl ▸ Draws.list hh i a kq its.toArray,⟨st,pl.isList⟩,λk h st=>st.1,λk v x hv hx=>?_⟩;obtain ⟨u,hu,ru⟩:=rv.get hx;have:its.toArray[k]?=some v:=hv;rw [getElem?_toArray,hu] at this;cases this;exact ru
 | t a =>
  obtain ⟨its,rv,pl,_⟩:=I.tuple h;have hl:xs.length=its.toArray.size:=by rw [Aq]; exact rv.length
  have kq:a≠i:=λz=>hi (by rw [z]; exact mem_singleton.mpr Y);refine ⟨_,_,hl ▸ Zmz hh i a kq its.toArray,⟨st,pl⟩,λk h st=>st.1,λk v x hv hx=>?_⟩;obtain ⟨u,hu,ru⟩:=rv.get hx;have:its.toArray[k]?=some v:=hv;rw [getElem?_toArray,hu] at this;cases this;exact ru
 | s x =>
  obtain ⟨ha,rfl⟩:=h;obtain ⟨t,st⟩:=st;have hl:(x.cps.toList.map λc=>V.str ⟨#[c]⟩).length=x.cps.size:=by rw [Ab,Array.length_toList]
  refine ⟨_,_,hl ▸ Draws.strAscii hh i x t,st,λk h st=>⟨t,st⟩,λk v y hv hy=>?_⟩;obtain ⟨c,u,hc,rfl⟩:=hv;rw [Ah,Array.getElem?_toList,hc] at hy;cases hy;exact ⟨u,Y⟩
end
noncomputable def Itz2 (K:W.Frag) (S T:ZS):It :=
  ⟨λi H=>∃ xs ys x y,S.has K H xs/\T.has K H ys/\xs[i]?=some x/\ys[i]?=some y,
   λi H v H'=>∃ q x y,H q=none/\v=.ref q/\(∀ xs,S.has K H xs->xs[i]?=some x)/\(∀ ys,T.has K H ys->ys[i]?=some y)/\H'=upd H q (.tup [x,y]),
   λi H=>∃ xs ys,S.has K H xs/\T.has K H ys/\i=xs.length/\xs.length=ys.length⟩
def m5 {α:Type} {c z a b d e:α}:c∈[z,a,b,d,e] ↔ c=z\/c=a\/c=b\/c=d\/c=e:=by simp
def m4 {α:Type} {c z a b d:α}:c∈[z,a,b,d] ↔ c=z\/c=a\/c=b\/c=d:=by simp
def n4 {α:Type} {c z a b d:α} (h:c ∉ [z,a,b,d]):c≠z/\c≠a/\c≠b/\c≠d:=by simpa using h
def Zku {P:Program} {w:World} {K:W.Frag} {oa:List Expr} {x1:Nat} {pos:Pos} (S T:ZS) (z TI TO i1 i2:Addr) (D:ZA z TI TO i1 i2 (i1 :: S.ad) (i2 :: T.ad)) (h1:i1 ∉ S.ad) (h2:i2 ∉ T.ad) :
  Turn P w K (.Tuple oa x1 pos) (Itz2 K S T) [z,TI,TO,i1,i2] z (λi h=>IsZip h z TI TO .none/\IsPair h TI (.ref i1) (.ref i2)/\(∃ u v,IsPair h TO u v)/\S.it i1 i h/\T.it i2 i h) where
 mem:=mem_cons_self
 obj:=λi h st c hc=>by
  obtain ⟨s1,s2,⟨u,v,s3⟩,s4,s5⟩:=st;have hc:=m5.mp hc
  rcases hc with rfl | rfl | rfl | rfl | rfl
  ·exact ⟨_,s1,λv y=>by have y':Data.fields _=Data.cell v:=y; cases y'⟩
  ·exact ⟨_,s2,λv y=>by have y':Data.seq _ _=Data.cell v:=y; cases y'⟩
  ·exact ⟨_,s3,λv y=>by have y':Data.seq _ _=Data.cell v:=y; cases y'⟩
  ·exact ZS.it_obj s4
  ·exact ZS.it_obj s5
 keep:=λi h h' st k=>by
  obtain ⟨s1,s2,⟨u,v,s3⟩,s4,s5⟩:=st;exact ⟨k z (m5.mpr (.inl Y)) _ s1,k TI (m5.mpr (.inr (.inl Y))) _ s2,⟨u,v,k TO (m5.mpr (.inr (.inr (.inl Y)))) _ s3⟩,ZS.it_keep s4 λo e=>k i1 (m5.mpr (.inr (.inr (.inr (.inl Y))))) o e,ZS.it_keep s5 λo e=>k i2 (m5.mpr (.inr (.inr (.inr (.inr Y))))) o e⟩
 item:=by
  intro X hP hw hK hc i j4 s σ H E I hf st hg;subst hP hw hK;obtain ⟨xs,ys,x,y,z6,zz,hx,hy⟩:=hg;obtain ⟨s1,s2,⟨u0,v0,s3⟩,s4,s5⟩:=st;have hh:X.A.in1.handled=none:=I.ok.hd hc;obtain ⟨P1,St1,D1,t1,k1,r1⟩:=ZS.draws I hh z6 h1 s4;obtain ⟨P2,St2,D2,t2,k2,r2⟩:=ZS.draws I hh zz h2 s5;refine Zkn D1 D2 D s1 s2 s3 t1 t2 (Aa hx).1 (Aa hy).1 λu v h' tk pu pv a1 a2 a3 a4 a5 a7=>?_;have ru:=r1 i u x pu hx;have rv:=r2 i v y pv hy;refine ⟨.ref s.heap.objs.size,Y,wpAny_letOwnedTupleGo_zip (s:={ s with heap:=h',toks:=tk }) a1 λtw b1 sb=>?_⟩;replace sb:Heap.SameBut z h' tw:=sb;have lt:∀ c∈[z,TI,TO,i1,i2],c < s.heap.objs.size:=λc hc=>by
   have hc:=m5.mp hc
   rcases hc with rfl | rfl | rfl | rfl | rfl
   ·exact Ao s1
   ·exact Ao s2
   ·exact Ao s3
   ·obtain ⟨o,e,_⟩:=ZS.it_obj s4; exact Ao e
   ·obtain ⟨o,e,_⟩:=ZS.it_obj s5; exact Ao e
  have kz:∀ c o,c≠z->c≠TO->c≠i1->c≠i2->s.heap.get? c=some o->tw.get? c=some o:=λc o n1 n2 n3 n4 e=>(sb.2 c n1).trans (a7 c o n1 n2 n3 n4 e);have uf:tw.get? s.heap.objs.size=some { cls:=.type "tuple",data:=.seq #[u,v] }:=(sb.2 _ (Nat.ne_of_gt (lt z (m5.mpr (.inl rfl))))).trans a5;have hn:H s.heap.objs.size=none:=I.hok.fresh (An _)
  have I2:Inv X j4 σ (upd H s.heap.objs.size (.tup [x,y])) { s with heap:=tw,toks:=tk }:=by
   have out:∀ c,c ∉ [z,TO,i1,i2]->c≠z/\c≠TO/\c≠i1/\c≠i2:=λc hc=>n4 hc;refine I.step (g':=s.gens) (d':=s.drawn) (ch:=[z,TO,i1,i2]) (λc hc=>?_) (λc o _ _ hc q _=>?_) (λc o _ _ hc q _=>⟨o.slots,?_⟩) (λc o _ q n=>by rw [Ze (As (Ao q))]; exact n)
    (λc o hc q=>⟨o,?_⟩) (λc zs q=>by rw [Ze (Zk q hn)]; exact q) (λc o zs q=>by rw [Ze (Zk q hn)]; exact q) (λc ps q=>(eh:)) (λm hm=>?_) (λc v' q=>?_) I.bare
   ·have hm:c∈[z,TI,TO,i1,i2]:=m5.mpr ((m4.mp hc).imp id .inr)
    obtain ⟨f0,f1,f2,f3,f4,f5⟩:=hf c hm;exact ⟨f3,f1,f4,f5⟩
   ·obtain ⟨n1,n2,n3,n4⟩:=out c hc; exact kz c o n1 n2 n3 n4 q
   ·obtain ⟨n1,n2,n3,n4⟩:=out c hc; exact kz c o n1 n2 n3 n4 q
   ·obtain ⟨n1,n2,n3,n4⟩:=out c hc; exact kz c o n1 n2 n3 n4 q
   ·obtain ⟨o,es,ep,ho,r⟩:=hm
    exact ⟨o,es,ep,kz _ o (Ne.symm (hf z (m5.mpr (.inl Y))).2.1) (Ne.symm (hf TO (m5.mpr (.inr (.inr (.inl Y))))).2.1) (Ne.symm (hf i1 (m5.mpr (.inr (.inr (.inr (.inl Y)))))).2.1) (Ne.symm (hf i2 (m5.mpr (.inr (.inr (.inr (.inr Y)))))).2.1) ho,r⟩
   ·by_cases hb:c=s.heap.objs.size
    ·subst hb
     rw [Zc] at q;cases q;exact ⟨by show 2<=sizeLine; decide,[u,v],.cons ru (.cons rv .nil),⟨_,uf,rfl,_,rfl⟩⟩
    ·rw [Ze hb] at q
     refine (I.hok c v' q).stay (λe w' he y'=>kz e w' ?_ ?_ ?_ ?_ y') (λd y'=>by rw [Ze (Zk y' hn)]; exact y') λd zs y'=>by rw [Ze (Zk y' hn)]; exact y'
     all_goals
      rintro rfl;have vf:H e=none:=(hf e (by simp)).1
      rcases he with y' | y'
      ·rw [y',q] at vf; cases vf
      ·rw [vf] at y'; cases y'
  refine ⟨.ref s.heap.objs.size,_,I2,Y,⟨_,x,y,hn,Y,λzs hz=>by rw [ZS.has_inj I hz z6]; exact hx,λzs hz=>by rw [ZS.has_inj I hz zz]; exact hy,Y⟩,
   ⟨b1,(sb.2 TI D.TIz).trans (a7 TI _ D.TIz D.TITO D.TIi1 D.TIi2 s2),⟨u,v,(sb.2 TO D.TOz).trans a2⟩,ZS.it_keep (k1 _ _ a3) λo e=>(sb.2 i1 D.i1z).trans e,ZS.it_keep (k2 _ _ a4) λo e=>(sb.2 i2 D.i2z).trans e⟩,λc hc=>?_⟩;rw [Ze (As (lt c hc))];exact (hf c hc).1
 done:=by
  intro X hP hw hK hc i j4 s σ H E I hf st hg;subst hP hw hK;obtain ⟨xs,ys,z6,zz,e1,e2⟩:=hg;obtain ⟨s1,s2,⟨u0,v0,s3⟩,s4,s5⟩:=st;have hh:X.A.in1.handled=none:=I.ok.hd hc;obtain ⟨P1,St1,D1,t1,k1,r1⟩:=ZS.draws I hh z6 h1 s4;obtain ⟨P2,St2,D2,t2,k2,r2⟩:=ZS.draws I hh zz h2 s5;refine Znd D1 D2 D s1 s2 s3 t1 t2 (.inl e1) λh' tk eb=>⟨Y,?_⟩
  ·have out:∀ c,c ∉ [z,TO,i1,i2]->c≠z/\c≠TO/\c≠i1/\c≠i2:=λc hc=>n4 hc
   refine I.step (g':=s.gens) (d':=s.drawn) (t':=tk) (ch:=[z,TO,i1,i2]) (λc hc=>?_) (λc o _ _ hc q _=>?_) (λc o _ _ hc q _=>⟨o.slots,?_⟩) (λc o _ q n=>n)
    (λc o hc q=>⟨o,?_⟩) (λc zs q=>q) (λc o zs q=>q) (λc ps q=>⟨#[],by rw [q]; simp⟩) (λm hm=>?_) (λc v' q=>?_) I.bare
   ·have hm:c∈[z,TI,TO,i1,i2]:=m5.mpr ((m4.mp hc).imp id .inr)
    obtain ⟨f0,f1,f2,f3,f4,f5⟩:=hf c hm;exact ⟨f3,f1,f4,f5⟩
   ·obtain ⟨n1,n2,n3,n4⟩:=out c hc; exact eb c o n1 n2 n3 n4 q
   ·obtain ⟨n1,n2,n3,n4⟩:=out c hc; exact eb c o n1 n2 n3 n4 q
   ·obtain ⟨n1,n2,n3,n4⟩:=out c hc; exact eb c o n1 n2 n3 n4 q
   ·obtain ⟨o,es,ep,ho,r⟩:=hm
    exact ⟨o,es,ep,eb _ o (Ne.symm (hf z (m5.mpr (.inl Y))).2.1) (Ne.symm (hf TO (m5.mpr (.inr (.inr (.inl Y))))).2.1) (Ne.symm (hf i1 (m5.mpr (.inr (.inr (.inr (.inl Y)))))).2.1) (Ne.symm (hf i2 (m5.mpr (.inr (.inr (.inr (.inr Y)))))).2.1) ho,r⟩
   ·refine (I.hok c v' q).stay (λe w' he y'=>eb e w' ?_ ?_ ?_ ?_ y') (λd y'=>y') λd zs y'=>y'
    all_goals
     rintro rfl;have vf:H e=none:=(hf e (by simp)).1
     rcases he with y' | y'
     ·rw [y',q] at vf; cases vf
     ·rw [vf] at y'; cases y'
 self:=λ_ _ _ _ _ st h=>wpAny_pyIter_zip st.1 h
section
variable {P:Program} {w:World}
def Zg7 (P:Program) (w:World) (v:Value) (o:Obj) (C:Heap->Prop):Prop:=(∀ h u,C h->C (h.push u))/\∀ (A:Around) (E:Value->Shared->Prop) (s:Shared) (Q:Value->Shared->Prop),C s.heap->Q (x:) { s with heap:=s.heap.push o }->wpAny (W:) A (pyIter v) Q E s
def Zm4 {A:Around} {E:Value->Shared->Prop} {s:Shared} {v1 v2:Value} {o1 o2:Obj} {C1 C2:Heap->Prop} {Q:Value->Shared->Prop} (I1:Zg7 P w v1 o1 C1) (I2:Zg7 P w v2 o2 C2) (c1:C1 s.heap) (c2:C2 s.heap)
  (h:∀ h',IsZip h' (s.heap.objs.size + 4) (s.heap.objs.size + 2) (s.heap.objs.size + 3) .none->IsPair h' (s.heap.objs.size + 2) (x:) (.ref (S:)) ->
   IsPair h' (s.heap.objs.size + 3) .none .none->h'.get? s.heap.objs.size=some o1->h'.get? (S:)=some o2->(∀ c o,s.heap.get? c=some o->h'.get? c=some o)->Q (.ref (s.heap.objs.size + 4)) { s with heap:=h' }) (f1:o1.isFreed=false) (f2:o2.isFreed=false) :
  wpAny (W:) A (call (.type "zip") [v1,v2]) Q E s:=by
 have M:MeetsIn P w (Builtin.«zip.__new__» ⟨[.type "zip",v1,v2],[]⟩) (λ_ R s=>C1 s.heap/\C2 s.heap/\R (.ok (.ret (.ref ((ah:).push { cls:=.type "tuple",data:=.seq #[.none,.none] }).objs.size)))
   { s with heap:=((ah:).push { cls:=.type "tuple",data:=.seq #[.none,.none] }).push { cls:=.type "zip",data:=.fields #[.none,.bool false,.bool false,.ref (b6:).objs.size,.ref (ah:).objs.size] } }):=by
  refine .of_wp λA R s h=>?_;obtain ⟨hp,g,d,tk,os⟩:=s;obtain ⟨q1,q2,h⟩:=h;have hsub:=sub_zip;have W1:∀ (A:Around) (E:Value->Shared->Prop) (Q:Value->Shared->Prop),Q (.ref hp.objs.size) ⟨hp.push o1,g,d,tk,os⟩->wpAny (W:) A (pyIter v1) Q E ⟨hp,g,d,tk,os⟩:=λA E Q q=>I1.2 A E _ Q q1 q;have W2:∀ (A:Around) (E:Value->Shared->Prop) (Q:Value->Shared->Prop),Q (.ref (hp.push o1).objs.size) ⟨(hp.push o1).push o2,g,d,tk,os⟩->wpAny (W:) A (pyIter v2) Q E ⟨hp.push o1,g,d,tk,os⟩:=λA E Q q=>I2.2 A E _ Q (I2.1 _ _ q2) q
  wp_walk using W1 _ _ _,W2 _ _ _
  exact ⟨_,Y,h⟩
 refine callType_newIn PySem.F.called_zip (c:) (by kernel_rfl) (by kernel_rfl) (λobj=>PySem.F.args_object_init_3 obj _ _) PySem.F.entry_zip_new M ⟨c1,c2,?_⟩;generalize hN:s.heap.objs.size=N at *;have z1:(s.heap.push o1).objs.size=N + 1:=by rw [Heap.size_push,hN]
 have z2:(b6:).objs.size=N + 2:=by rw [Heap.size_push,z1]
 generalize hT1:({ cls:=.type "tuple",data:=.seq #[.ref N,.ref (s.heap.push o1).objs.size] }:Obj)=T1;have z3:((b6:).push T1).objs.size=N + 3:=by rw [Heap.size_push,z2]
 generalize hT2:({ cls:=.type "tuple",data:=.seq #[.none,.none] }:Obj)=T2;have z4:(((b6:).push T1).push T2).objs.size=N + 4:=by rw [Heap.size_push,z3]
 have e1:(s.heap.push o1).get? N=some o1:=by rw [<- hN]; exact Ap _ f1
 have e2:(b6:).get? (N + 1)=some o2:=by rw [<- z1]; exact Ap _ f2
 have e3:((b6:).push T1).get? (N + 2)=some T1:=by rw [<- z2]; exact Ap _ (by rw [<- hT1]; rfl)
 have e4:(((b6:).push T1).push T2).get? (N + 3)=some T2:=by rw [<- z3]; exact Ap _ (by rw [<- hT2]; rfl)
 rw [z4,z3,z2];generalize hZ:({ cls:=.type "zip",data:=.fields #[.none,.bool false,.bool false,.ref (N + 2),.ref (N + 3)] }:Obj)=Z;have e5:((((b6:).push T1).push T2).push Z).get? (N + 4)=some Z:=by rw [<- z4]; exact Ap _ (by rw [<- hZ]; rfl)
 refine ⟨⟨_,e5,by rw [<- hZ]⟩,h _ (e5.trans (by rw [<- hZ])) (by
  have:=Ak Z (Ak T2 e3)
  rw [<- hT1,z1] at this
  rw [<- hT1,z1]
  exact this) (by
  have:=Ak Z e4
  rw [<- hT2] at this ⊢
  exact this) (Ak _ (Ak _ (Ak _ (Ak _ e1)))) (Ak _ (Ak _ (Ak _ e2))) λc o x=>Ak _ (Ak _ (Ak _ (Ak _ (Ak _ x))))⟩
end
section
variable {X:Cx} {j4:List (p:)} {σ:List (Option V)} {H:Hp} {s:Shared}
def ZS.iter (I:Inv X j4 σ H s) {S:ZS} {xs:List V} (h:S.has X.K H xs) {v:Value} (r:RelV S.v v):∃ (o:Obj) (C:Heap->Prop),Zg7 X.prog X.w v o C/\C s.heap/\o.isFreed=false/\(∀ (h:Heap) (i:Addr),h.get? i=some o->S.it i 0 h)/\∀ a∈S.ad,a < s.heap.objs.size:=by
 cases S with
 | l a =>
  obtain ⟨its,rv,pl,_⟩:=I.list h;cases r;refine ⟨_,λh=>h.IsList a its.toArray,⟨λh u c=>c.push u,λA E s Q c q=>wpAny_pyIter_list c q⟩,pl.isList,Y,λh i e=>⟨_,e,Y,Y⟩,λb hb=>?_⟩;obtain ⟨o,ho,_⟩:=pl.isList;rw [Af hb];exact Ao ho
 | t a =>
  obtain ⟨its,rv,pl,_⟩:=I.tuple h;cases r;refine ⟨_,λh=>IsTup h a its.toArray,⟨λh u c=>c.keeps λb o e=>Ak _ e,λA E s Q c q=>iter_tuple c q⟩,pl,Y,λh i e=>⟨_,e,Y,Y⟩,λb hb=>?_⟩;rw [Af hb];exact pl.lt
 | s x =>
  obtain ⟨ha,rfl⟩:=h;obtain ⟨t,rfl⟩:=r;exact ⟨_,λ_=>True,⟨λh u c=>trivial,λA E s Q c q=>wpAny_pyIter_ascii ha q⟩,trivial,Y,λh i e=>⟨t,_,e,Y,Y⟩,λb hb=>absurd hb not_mem_nil⟩
def Zre {N:Nat} {f g:List Addr} (h1:∀ a∈f,a < N) (h2:∀ a∈g,a < N):ZA (N + 4) (N + 2) (N + 3) N (N + 1) (N :: f) ((N + 1) :: g):=by
 have nf:∀ k,N + k ∉ f:=λk z=>absurd (h1 _ z) (Nat.not_lt.mpr (le_add_right _ _));have ng:∀ k,N + k ∉ g:=λk z=>absurd (h2 _ z) (Nat.not_lt.mpr (le_add_right _ _));have e:∀ {i j:Nat},i≠j->N + i≠N + j:=λh z=>h (Nat.add_left_cancel z);have c1:∀ {k:Nat} {f:List Addr} {i:Addr},N + k≠i->N + k ∉ f->N + k ∉ i :: f:=λh1 h2 z=>by
  rcases Ar z with q | q
  ·exact h1 q
  ·exact h2 q
 exact ⟨e (c:),e (c:),e (i:=0) (c:),e (c:),e (c:),e (j:=0) (c:),e (c:),e (j:=0) (c:),e (c:),e (i:=0) (c:),c1 (e (j:=0) (c:)) (nf 4),c1 (e (c:)) (ng 4),c1 (e (j:=0) (c:)) (nf 3),c1 (e (c:)) (ng 3),c1 (e (j:=0) (c:)) (nf 1),c1 (k:=0) (e (c:)) (ng 0)⟩
def Zt0 (K:W.Frag) (ta:TA):TI:=λσ H R=>ta σ H λvs H1=>∃ (S T:ZS) (xs ys:List V),vs=[S.v,T.v]/\S.has K H1 xs/\T.has K H1 ys/\R (Itz2 K S T) H1
def Zij {oa:List Expr} {x1:Nat} {qe p pos:Pos} {l m:Expr} {ta:TA} (hg:Gl X "zip") (hm:X.mg "zip"=none) (ha:PA X [l,m] ta) (hs:starEach [l,m] X.env=[(false,eval l X.env),(false,eval m X.env)]:=by rfl) (qo:starEach [m] X.env=[(false,eval m X.env)]:=by rfl) :
  PI X (.Tuple oa x1 qe) (.Call (.Name "zip" p) [l,m] [] pos) (Zt0 X.K ta):=by
 intro j4 s σ H R I h;refine Call_ (We I hg hm boot_zip (d5:));obtain ⟨S,T,xs,ys,e,z6,zz,q⟩:=q1;subst e;obtain ⟨u,v,rfl,ru,rv⟩:=r1.two;obtain ⟨o1,C1,i1,c1,f1,t1,l1⟩:=ZS.iter I1 z6 ru;obtain ⟨o2,C2,i2,c2,f2,t2,l2⟩:=ZS.iter I1 zz rv;refine Zm4 i1 i2 c1 c2 (λh' z1 z2 z3 z4 z5 z7=>wpAny_pyIter_zip z1 ?_) f1 f2;have I2:Inv X j4 σ H1 { s1 with heap:=h' }:=I1.kept (t':=s1.toks) z7;generalize hN:s1.heap.objs.size=N at *;have n1:N ∉ S.ad:=λz=>Nat.lt_irrefl _ (l1 _ z);have n2:N + 1 ∉ T.ad:=λz=>absurd (l2 _ z) (Nat.not_lt.mpr (le_succ _));refine ⟨N + 4,[N + 4,N + 2,N + 3,N,N + 1],_,_,H1,Y,I2,Zku S T (N + 4) (N + 2) (N + 3) N (N + 1) (Zre l1 l2) n1 n2,⟨z1,z2,⟨_,_,z3⟩,t1 _ _ z4,t2 _ _ z5⟩,λc hc=>?_,q⟩;have hc:s1.heap.objs.size<=c:=by
  have hc:c=N + 4\/c=N + 2\/c=N + 3\/c=N\/c=N + 1:=by simpa using hc
  rw [hN]
  rcases hc with rfl | rfl | rfl | rfl | rfl
  ·exact le_add_right _ _
  ·exact le_add_right _ _
  ·exact le_add_right _ _
  ·exact An _
  ·exact le_add_right _ _
 exact I1.fpOk hc (I1.hok.fresh hc)
def Zow {K:W.Frag} {S T:ZS} {xs ys:List V} {g:TG} {tb:TS} {D:Ends} {σ:St} {H:Hp} (j7:xs.length=ys.length) (Pv:Nat->St->Hp->Prop) (h0:Pv 0 σ H) (hl:∀ i σ H,i<=xs.length->Pv i σ H->S.has K H xs/\T.has K H ys)
  (hs:∀ i x y σ H q,xs[i]?=some x->ys[i]?=some y->H q=none->Pv i σ H->g (.ref q) σ (upd H q (.tup [x,y])) λσ2 H2=>tb { D with nx:=Pv (i + 1),ct:=Pv (i + 1),bk:=D.nx } σ2 H2) (hd:∀ σ H,Pv xs.length σ H->D.nx σ H) :
  ∃ W:Nat->Nat->St->Hp->Prop,(de:)/\∀ i m σ H,W i m σ H ->
   ((Itz2 K S T).stop i H/\D.nx σ H)\/((Itz2 K S T).go i H/\∃ N:St->Hp->Prop,(q:)/\∀ x H',(Itz2 K S T).yld i H x H'->g x σ H' λσ2 H2=>tb { D with nx:=N,ct:=N,bk:=D.nx } σ2 H2):=by
 refine (u:);rintro i m σ H ⟨rfl,hi,p⟩;obtain ⟨q1,q2⟩:=hl i σ H hi p;by_cases kn:i < xs.length
 ·have yx:i < ys.length:=by lia
  refine .inr (cm:);obtain ⟨c,u,v,hn,e1,y1,y2,e2⟩:=y;subst e1 e2;exact hs i u v σ H c (y1 xs q1) (y2 ys q2) hn p
 ·have e:i=xs.length:=by lia
  subst e;exact .inl ⟨⟨xs,ys,q1,q2,Y,j7⟩,hd σ H p⟩
end
def Vc {d:Addr} {kvs:List (Key × V)} {o:Obj} {g:TG} {tt:TT} {tb:TB} {R:St->Hp->Prop} {σ:St} {H:Hp} (Pv:Nat->St->Hp->Prop) (h0:Pv 0 σ H) (hl:∀ i σ H,i<=kvs.length->Pv i σ H->H d=some (ae:))
  (hs:∀ (i:Nat) k x σ H q,kvs[i]?=some (k,x)->H q=none->Pv i σ H->g (.ref q) σ (upd H q (.tup [kV k,x])) λσ2 H2=>tt σ2 H2 λb H3=>if b=true then tb σ2 H3 (Pv (i + 1)) else Pv (i + 1) σ2 H3) (hd:∀ σ H,Pv kvs.length σ H->R σ H):W6 (Itm2 d kvs o) g tt tb R σ H:=by
 refine (a6:);rintro i m σ H ⟨rfl,hi,p⟩;have q:=hl i σ H hi p;by_cases kn:i < kvs.length
 ·refine .inr ⟨⟨kn,q⟩,Pv (i + 1),λσ' H' p'=>⟨kvs.length - (i + 1),by omega,Y,kn,p'⟩,λx H' y=>?_⟩
  obtain ⟨c,k,v,hn,e1,y,e2⟩:=y;subst e1 e2;exact hs i k v σ H c y hn p
 ·have e:i=kvs.length:=by omega
  subst e;exact .inl ⟨⟨An _,q⟩,hd σ H p⟩
def Zrj (H0:Hp) (t:TE):TE:=λσ H Q=>t σ H λv H'=>∃ (a:Addr) (o:Obj) (kvs:List (Key × V)),H' a=some (ae:)/\(∀ o u,H0 a≠some (.frz o u))/\Q v (upd H' a (.dK kvs))
def Zik {X:Cx} (h:PE X e t):PE X e (Zrj X.H₀ t):=by
 intro j4 s σ H Q I hw;refine wpAny_mono (h j4 s σ H _ I hw) (λv s' q=>?_) λ_ _ e=>e;obtain ⟨x,H',I',r,a,o,kvs,e,h0,q⟩:=q;exact ⟨x,_,I'.thaw e h0,r,q⟩
section
variable {X:Cx}
abbrev THs:=Value->TS
def PHs (X:Cx) (hs:List ExceptHandler) (t:THs):Prop :=
 ∀ j4 s σ H (D:Ends) (e T:Addr) (cls a0:Value) (h':Heap),Inv X j4 σ H s->FxOk X j4 H e->FxOk X j4 H T ->
  Heap.FlyingW (PySem.W.hideAll s.heap (e :: T :: frs X.stack)) X.stack e cls a0 h'->s.heap.UpToSlots h'->t cls D σ H->wpAny (d:) X.A (handleBy (.ref e) X.env hs) (SP X j4 D) X.xe { s with heap:=h' }
def Zsu {hs:List ExceptHandler}:PHs X hs (λ_ _ _ _=>False):=λ_ _ _ _ _ _ _ _ _ _ _ _ _ _ _ z=>z.elim
def X6 {b₀:Stmt} {w8:List Stmt} {x:Str} {np uh:Pos} {j6:List ExceptHandler} {ts:TS} {tr:THs} {C:Addr} (hg:Gl X x) (hm:X.mg x=some (.ref C)) (hs:∀ e,PSs (Gs X e) (b₀ :: w8) ts) (hr:PHs X j6 tr)
  (hex:X.ex=[]:=by rfl) (hx:X.xe=(ci:):=by rfl) (ny:(H:)=false:=by decide) :
  PHs X (.ExceptHandler (some (.Name x np)) none (b₀ :: w8) uh :: j6) (λcls D σ H=>∃ b,PySem.W.exmOne X.K cls (.ref C)=some b/\if b=true then ts D σ H else tr cls D σ H):=by
 intro j4 s σ H D e T cls a0 h' I fe fT oj hsm q;obtain ⟨b,hb,q⟩:=q;have I5:Inv X j4 σ H { s with heap:=h' }:=I.flown hex fe fT oj.1 hsm;obtain ⟨ob,sx,hobc⟩:=oj.there;refine wpAny_handleBy_cons (codeAny_handlers_test (Vj (X:=Gs X e) (I5.hnd e) hg hm ?_ ny)) (by intro q; cases q);have LT:PySem.W.Looks (d:) h' (typeOf (.ref e)) cls:=by
  have:PySem.W.Looks (d:) h' (typeOf (.ref e)) ob.cls:=(PySem.W.Looks.ld sx).andThen .now
  rw [hobc] at this
  exact this
 refine (PySem.W.exm_one I5.kIn LT hb).here ?_
 cases b with
 | false=>exact hr j4 s σ H D e T cls a0 h' I fe fT oj hsm q
 | true =>
  refine codeAny_handlers_suite ?_;refine lands_againW oj λh₆ hfl₆ hsm₆=>?_;have I6:Inv X j4 σ H { s with heap:=h₆ }:=I.flown hex fe fT hfl₆.1 (hsm.trans hsm₆);have h6:=hs e j4 _ σ H D (I6.hnd e) q;have xt:(Gs X e).xe=λ_ _=>False:=hx;rw [xt] at h6;refine wpAny_mono h6 (λf s2 q2=>?_) λ_ _ z=>z.elim;exact q2.unhnd I6.ok
def Zs9 (tb:TSX) (th:THs):TS:=λD σ H=>tb D (λcls σ' H'=>th cls D σ' H') σ H
def Zqe {body:List Stmt} {h₀:ExceptHandler} {hs:List ExceptHandler} {pos:Pos} {tb:TSX} {th:THs} (hb:PSsX false X body tb) (hh:PHs X (h₀ :: hs) th)
  (hex:X.ex=[]:=by rfl) (ug:∃ o,X.stack=X.env :: o:=by exact ⟨_,Y⟩) (wy:X.env.frame=some X.env.locals:=by rfl) :
  PS X (.Try body (h₀ :: hs) [] [] pos) (Zs9 tb th):=by
 intro j4 s σ H D I h;obtain ⟨outer,ug⟩:=ug;refine wpAny_Try_except (wpAny_mono (hb j4 s σ H D _ I h) (λf s1 q=>?_) ?_)
 ·cases f with
  | next=>exact wpAny_execs_nil q
  | ret v=>exact q
  | brk=>exact q
  | cont=>exact q
 ·rintro ev s1 ⟨e,T,cls,a0,σ1,H1,rfl,I1,hx1,fe,fT,hT,q⟩
  obtain ⟨T,rfl⟩:∃ t,T=some t:=by
   cases T with
   | none=>exact absurd (hT Y) Bool.false_ne_true
   | some t=>exact ⟨t,Y⟩
  have fT:=fT T rfl;have wz:=Zsw I1 hx1;have hA:X.A.frames=some (X.env :: outer):=by rw [I.ok.frames,ug]
  have hf1':Heap.FlyingW (PySem.W.hideAll s1.heap (e :: T :: frs X.stack)) (X.env :: outer) e cls a0 s1.heap:=by
   have:=wz;generalize PySem.W.hideAll s1.heap (e :: T :: frs X.stack)=B at this ⊢;rw [ug] at this;exact this
  refine wpAny_looks_onW hA wy hf1' λh₄ hheld₄ hsm₄=>?_;refine wpAny_landsW hheld₄ λh₅ oj hsm₅'=>?_;refine hh j4 s1 σ1 H1 D e T cls a0 h₅ I1 fe fT ?_ (hsm₄.trans hsm₅') q;generalize PySem.W.hideAll s1.heap (e :: T :: frs X.stack)=B at oj ⊢;rw [ug];exact oj
end
def FnOk.or {P:Program} {w:World} {K:W.Frag} {mg:Str->Option Value} {base:Heap} {CX:CXT} {k:Nat} {f:Addr} {fd:FuncData} {ps:List Str} {sp sp':Sp} (F:FnOk P w K mg base CX k f fd ps sp) (G:FnOk P w K mg base CX k f fd ps sp') :
  FnOk P w K mg base CX k f fd ps (λvs H Q E=>sp vs H Q E\/sp' vs H Q E) :=
 ⟨λvs H Q E q=>q.elim (F.len vs H Q E) (G.len vs H Q E),λA outer s H args us vs Q E hr he hb hv hs=>hs.elim (F.run A outer s H args us vs Q E hr he hb hv) (G.run A outer s H args us vs Q E hr he hb hv)⟩
abbrev TAZ:=St->Hp->(List V->Hp->Prop)->XK->Prop
def PAZ (fr:Bool) (X:Cx) (es:List Expr) (t:TAZ):Prop :=
 ∀ (pos:Pos) (j4:List (p:)) (s:Shared) (σ:St) (H:Hp) (Q:List V->Hp->Prop) (E:XK),Inv X j4 σ H s->t σ H Q E->wpAny (d:) X.A (spliced (z:)) (AP X j4 σ Q) (XS fr X j4 λcls σ' H'=>σ'=σ/\E cls none H') s
section
variable {X:Cx} {fr:Bool} {k:Nat} {f:Addr} {fd:FuncData} {ps:List Str} {sp:Sp} {k7:List V} {ds:List Value} {x:Str} {p pos:Pos} {e:Expr} {es:List Expr}
def Zlw {t:TA} (h:PA X es t) (hx:X.xe=(ci:):=by rfl):PAZ fr X es (λσ H Q _=>t σ H Q):=by
 intro pos j4 s σ H Q E I q;have h0:=h pos j4 s σ H Q I q;rw [hx] at h0;exact wpAny_mono h0 (λ_ _ z=>z) λ_ _ z=>z.elim
def Zf3 {te:TEX} {t:TAZ} (ha:PEX fr X e te) (hr:PAZ fr X es t) (hs:starEach (e :: es) X.env=(I:) :: starEach es X.env:=by rfl):PAZ fr X (e :: es) (λσ H Q E=>te σ H (λx H1=>t σ H1 (λxs H2=>Q (x :: xs) H2) E) E):=by
 intro pos j4 s σ H Q E I h;rw [hs];show wpAny _ _ (spliced ((I:) :: backTo pos (starEach es X.env))) _ _ s;refine Calls.spliced_cons (thn (ha j4 s σ H _ E I h) λu s1 j9=>?_);obtain ⟨x,H1,I1,r1,q1⟩:=j9;refine thn (hr pos j4 s1 σ H1 _ E I1 q1) λus s2 zz41=>?_;obtain ⟨xs,H2,I2,r2,q2⟩:=zz41;exact ⟨x :: xs,H2,I2,.cons r1 r2,q2⟩
end
structure LW (X:Cx) (xl:Value->Shared->Prop) (E:XK):Prop where
 l:LV X xl (bc:)
 a:∀ (j4:List (p:)) (ev:Value) (s':Shared),XA X j4 E ev s'->xl ev s'
section
variable {X:Cx} {xl:Value->Shared->Prop} {E:XK} {e:Expr} {es:List Expr} {pos:Pos}
def Zls {fr:Bool} {k:Nat} {f C:Addr} {fd:FuncData} {ps:List Str} {sp:Sp} {ds:List Value} {k7:List V} {m:Str} {kf:Pos} {o:Expr} {ta:TEX} {pl:Sem Bool} (he:PEX fr X o ta) (c:Cls X.K C) (hm:Meth X.K C m f) (F:FnOk X.prog X.w X.K X.mg X.base (CXr X.prog X.w) k f fd ps sp) (hr:Room k X.A) (hb:Wg X.K fd ps ds) (hd:Vals k7 ds) (hex:X.ex=[]:=by rfl)
  (ht:eval (er:) X.env=(do
   let ov <- eval o X.env
   standAt kf.atName
   let (f,first) <- holding [ov] (getMethod ov m pl)
   callWith pos f first (backTo pos (starEach [] X.env)) (backToKw pos (bx:))):=by rfl) :
  PEX fr X (er:) (λσ H Q E=>ta σ H (λx H1=>∃ a dx fs,x=.ref a/\H1 a=some (cl:)/\fs.lookup m=none/\sp (x :: k7) H1 Q E) E):=by
 intro j4 s σ H Q E I h;refine PySem.W.methodCall_KW (pl:=pl) (thn (he j4 s σ H _ E I h) λu s1 zz42=>?_) ht;obtain ⟨x,H1,I1,rx,a,dx,fs,ex,ea,l,q⟩:=zz42;subst ex;obtain rfl:u=Value.ref a:=rx;refine Vd I1 ea c hm l ?_;exact PySem.W.callWith_K0 (first:=[.ref a]) I1.kIn hm.kp (Zce (us:=[.ref a]) (vs:=[.ref a]) F hr hb hd hex I1 (.cons Y .nil) q)
end
section
variable {P:Program} {w:World} {K:W.Frag} {mg:Str->Option Value} {base:Heap}
def Fun.okLA {x qual:Str} {st:Stmt} {f:Addr} {fd:FuncData} {N ps:List Str} {k:Nat} {sp:Sp} (F:Fun K x qual st f fd) (S:FnScope N ps (Zg st)) (len:∀ vs H Q E,sp vs H Q E->vs.length=ps.length)
  (lp:∀ (kj:Value) (A:Around) (outer:List Env) (s:Shared) (H:Hp) (vs:List V) (Q:VK) (E:XK),Room k (af:)->sp vs H Q E ->
   ∃ t,(∀ xl,LW (v:).nox xl E->PSsL (v:).nox xl (bc:) (Yu st) t)/\t { nx:=λ_ H'=>Q .non H',rt:=Q } (bc:) (start N vs) H):(a:) (k + 1) f fd ps sp:=by
 obtain ⟨oc,od,kV,k6,pm,an,kj,ct,t7,rfl,lk,oy⟩:=F.ex;refine Zeh lk oy S len λA outer s H vs Q E hr mz=>?_;obtain ⟨t,h,q⟩:=lp kj A outer s H vs Q E hr mz;refine (bv:);refine wpAny_mono (h _ ⟨⟨λj4 ev nk z=>Zaf (fr:=true) ?_,PassesOwn.leaving⟩,λj4 ev nk z=>Zmh z⟩ j4 s' σ' H' D (I.wish _) hD) (λ_ _ z=>z.unwish) λev nk z=>z;obtain ⟨e,T,cls,a0,σ2,H2,h1,h2,h3,h4,h5,h7,h6⟩:=z;exact (ax:)
def FnOk.no {CX:CXT} {k:Nat} {f:Addr} {fd:FuncData} {ps:List Str}:FnOk P w K mg base CX k f fd ps (λ_ _ _ _=>False):=⟨λ_ _ _ _ q=>q.elim,λ_ _ _ _ _ _ _ _ _ _ _ _ _ q=>q.elim⟩
end
section
variable {X:Cx} {i o:Expr} {ty td:TE} {pos:Pos}
def tKIn (w:World) (K:W.Frag) (ty td:TE):TE:=λσ H Q=>ty σ H λy H1=>td σ H1 λx H2=>∃ a kvs k,x=.ref a/\Vh w K a kvs/\y=kV k/\Q (.bl (valV kvs k).isSome) H2
def Zsf (hi:PE X i ty) (ho:PE X o td):PC X .In i o (tKIn X.w X.K ty td):=by
 intro j4 s σ H Q I h;refine thn (c7:) λiv s1 zz43=>?_;obtain ⟨y,H1,I1,ry,q1⟩:=zz43;refine thn (ho j4 s1 σ H1 _ I1 q1) λu s2 j9=>?_;obtain ⟨x,H2,I2,rx,a,kvs,k,ex,g,ey,q2⟩:=j9;subst ex ey;obtain rfl:u=Value.ref a:=rx;obtain ⟨hd,vs,kl,dd⟩:=g.here I2;refine wpAny_in_of (Jl ry) hd dd.mapOf ?_;rw [<- (kl.val k).isSome_eq];exact ⟨.bl _,H2,I2.tok _,Y,q2⟩
end
def kdict_mk5 {w:World} {K:W.Frag} {a:Addr} {h1 h2 h3 h4 h5:Int} {t1 t2 t3 t4 t5:Tok} {ep:Nat} {x1 x2 x3 x4 x5:Str} {y1 y2 y3 y4 y5:Addr}
  (l:K.lookup a=some ⟨.type "dict",none,.dict #[⟨h1,.str x1 t1,.ref y1⟩,⟨h2,.str x2 t2,.ref y2⟩,⟨h3,.str x3 t3,.ref y3⟩,⟨h4,.str x4 t4,.ref y4⟩,⟨h5,.str x5 t5,.ref y5⟩] ep,#[]⟩)
  (e1:h1=hashStr w x1) (e2:h2=hashStr w x2) (e3:h3=hashStr w x3) (e4:h4=hashStr w x4) (e5:h5=hashStr w x5) (ne:([x1,x2,x3,x4,x5]:List Str).Nodup) (sy:(cs:)=false) :
  Vh w K a (d8:):=by
 refine ⟨_,_,_,(d8:),l,⟨Y,Y,Y⟩,Y,λe he=>?_,λP=>?_,?_,?_,sy⟩
 ·have he:e=⟨h1,.str x1 t1,.ref y1⟩\/e=⟨h2,.str x2 t2,.ref y2⟩\/e=⟨h3,.str x3 t3,.ref y3⟩\/e=⟨h4,.str x4 t4,.ref y4⟩\/e=⟨h5,.str x5 t5,.ref y5⟩:=by simpa using he
  rcases he with rfl | rfl | rfl | rfl | rfl
  ·exact ⟨Sum.inr x1,Y0 x1 t1,e1⟩
  ·exact ⟨Sum.inr x2,Y0 x2 t2,e2⟩
  ·exact ⟨Sum.inr x3,Y0 x3 t3,e3⟩
  ·exact ⟨Sum.inr x4,Y0 x4 t4,e4⟩
  ·exact ⟨Sum.inr x5,Y0 x5 t5,e5⟩
 ·exact .cons (Y0 x1 t1) Y (.cons (Y0 x2 t2) Y (.cons (Y0 x3 t3) Y (.cons (Y0 x4 t4) Y (.cons (Y0 x5 t5) Y .nil))))
 ·have:([x1,x2,x3,x4,x5].map (Sum.inr:Str->Key)).Nodup:=by
   rw [nodup_iff_pairwise_ne,pairwise_map];exact (nodup_iff_pairwise_ne.mp ne).imp λh e=>h (by injection e)
  exact this
 ·exact .cons ⟨Y,Y⟩ (.cons ⟨Y,Y⟩ (.cons ⟨Y,Y⟩ (.cons ⟨Y,Y⟩ (.cons ⟨Y,Y⟩ .nil))))
end L2
namespace L2
open PySem PySem.Spec PyProof.Rows PySem.SeqAt
section
variable {X:Cx}
def Vg:Y2 X (.type "dict") (λxs H Q=>∃ (d:Addr) (kvs:List (Key × V)),xs=[.ref d]/\Rd H d (.dK kvs)/\∀ p,H p=none->Q (.ref p) (upd H p (.dK kvs))):=by
 intro j4 s σ H xs us Q I r h;obtain ⟨d,kvs,rfl,hd,q⟩:=h;obtain ⟨u,rfl,ru⟩:=Xg r;obtain rfl:u=Value.ref d:=ru;obtain ⟨z,qh,vs,kl,dd⟩:=V9 I.hok hd;have hl:vs.length<=sizeLine:=by rw [<- kl.length]; exact z
 refine kt_call_dict qh dd hl λh' hD sk=>?_;have hk:∀ b u,s.heap.get? b=some u->h'.get? b=some u:=λb u e=>(sk.2 b (As (Ao e))).trans (Ak _ e);refine ⟨.ref s.heap.objs.size,_,I.laid (a:=s.heap.objs.size) (o:=.dK kvs) (t':=s.toks) hk (An _) ⟨z,?_,vs,kl,hD⟩,Y,q _ (I.hok.fresh (An _))⟩;exact (Vz (P:=X.prog) (w:=X.w) (H:=H) s.heap I.big).2.1
def Znb (bs:List Bool):((List.range bs.length).any λi=>bs.getD i true)=bs.any id:=by
 rw [Bool.eq_iff_iff,any_eq_true,any_eq_true];constructor
 ·rintro ⟨i,hi,h⟩
  have hi:=mem_range.mp hi;rw [Ad,Ac hi] at h;exact ⟨_,getElem_mem hi,h⟩
 ·rintro ⟨b,hb,h⟩
  obtain ⟨i,hi,rfl⟩:=mem_iff_getElem.mp hb;exact ⟨i,mem_range.mpr hi,by rw [Ad,Ac hi]; exact h⟩
def Zdr (hc:X.calm=true):Y2 X (.builtin "any") (λxs H Q=>∃ p bs,xs=[.ref p]/\SqL X.K H p (List.map V.bl bs)/\Q (.bl (bs.any id)) H):=by
 intro j4 s σ H xs us Q I r h;obtain ⟨p,bs,rfl,hq,q⟩:=h;obtain ⟨u,rfl,ru⟩:=Xg r;cases ru;obtain ⟨its,rv,pl,hz⟩:=I.list hq;have ne:p≠s.heap.objs.size:=by obtain ⟨o,ho,_⟩:=pl.isList; exact As (Ao ho)
 refine call_any_walk (ak:)
 ·intro i v s' Q' E' hv my
  have hv:its[i]?=some v:=by simpa using hv
  have j7:=rv.length;rw [Ab] at j7;have hi:i < bs.length:=by have:=(Aa hv).1; lia
  obtain ⟨u,hu,ru⟩:=rv.get (show (bs.map V.bl)[i]?=some (V.bl bs[i]) by rw [Ah,Ac hi]; rfl);rw [hv] at hu;cases hu;cases ru;have e:bs.getD i true=bs[i]:=by rw [Ad,Ac hi]; rfl
  refine wpAny_truthy_bool ?_;have my:Q' (bs.getD i true) s':=my;rw [e] at my;exact my
 ·intro h' tk hk
  have I1:Inv X j4 σ H { s with heap:=h',toks:=tk }:=I.kept λb o e=>hk b o (as:) (Ak _ e);have j7:its.toArray.size=bs.length:=by have:=rv.length; rw [Ab] at this; simp; lia
  refine ⟨.bl (bs.any id),H,I1,?_,q⟩;show Value.bool _=_;rw [j7,Znb]
theorem Zh5 (ns:List Int):∀ k,k<=ns.length->preSum (λi=>ns.getD i 0) k=(ns.take k).sum
 | 0,_=>by simp [preSum]
 | k + 1,h=>by
  rw [preSum,Zh5 ns k (by lia),Aw,Ac (by lia),sum_append,Ad,Ac (by lia)];simp
def Zag {j4:List (p:)} {σ:St} {H:Hp} {s:Shared} {ns:List Int} {its:List Value} (rv:Vals (L:) its):∀ (i:Nat) (v:Value),its.toArray[i]?=some v->∃ t,v=.int (ns.getD i 0) t:=λi v hv=>by
 have hv:its[i]?=some v:=by simpa using hv
 have j7:=rv.length;rw [Ab] at j7;have hi:i < ns.length:=by have:=(Aa hv).1; lia
 obtain ⟨u,hu,ru⟩:=rv.get (show (L:)[i]?=some (V.int ns[i]) by rw [Ah,Ac hi]; rfl);rw [hv] at hu;cases hu;obtain ⟨t,rfl⟩:=ru;exact ⟨t,by rw [Ad,Ac hi]; rfl⟩
def Zm5 (hc:X.calm=true):Y2 X (.builtin "sum") (λxs H Q=>∃ (p:Addr) (ns:List Int),xs=[.ref p]/\SqL X.K H p (L:)/\Q (.int ns.sum) H):=by
 intro j4 s σ H xs us Q I r h;obtain ⟨p,ns,rfl,hq,q⟩:=h;obtain ⟨u,rfl,ru⟩:=Xg r;cases ru;obtain ⟨its,rv,pl,hz⟩:=I.list hq;have lt:p < s.heap.objs.size:=by obtain ⟨o,ho,_⟩:=pl.isList; exact Ao ho
 have j7:its.toArray.size=ns.length:=by have:=rv.length; rw [Ab] at this; simp; lia
 refine call_sum_walkG (wpAny_pyIter_list pl.isList ⟨s.heap.objs.size,_,_,_,_,_,λi=>ns.getD i 0,Y,Walks.list (A:=X.A.in1) (show X.A.in1.handled=none from I.ok.hd hc) s.heap.objs.size p (As lt) its.toArray,⟨⟨_,Ap _ Y,Y,Y⟩,pl.isList.push _⟩,?_,Zag (j4:=j4) (σ:=σ) (H:=H) (s:=s) rv,?_⟩)
 ·intro b hb
  show b < (s.heap.push _).objs.size;rw [Heap.size_push]
  rcases Ar hb with rfl | hb
  ·exact lt_succ_self _
  ·rw [Af hb]; exact lt_succ_of_lt lt
 ·intro h' tk t' hk
  have I1:Inv X j4 σ H { s with heap:=h',toks:=tk }:=I.kept λb o e=>hk b o (as:) (Ak _ e);refine ⟨.int ns.sum,H,I1,⟨t',?_⟩,q⟩;rw [j7,Zh5 ns _ (An _),take_length]
def Zm8 (hc:X.calm=true):Y2 X (.builtin "max") (λxs H Q=>∃ (p:Addr) (ns:List Int),xs=[.ref p]/\SqL X.K H p (L:)/\0 < ns.length/\∀ m,m∈ns->(∀ a∈ns,a<=m)->Q (.int m) H):=by
 intro j4 s σ H xs us Q I r h;obtain ⟨p,ns,rfl,hq,hn,q⟩:=h;obtain ⟨u,rfl,ru⟩:=Xg r;cases ru;obtain ⟨its,rv,pl,hz⟩:=I.list hq;have lt:p < s.heap.objs.size:=by obtain ⟨o,ho,_⟩:=pl.isList; exact Ao ho
 have j7:its.toArray.size=ns.length:=by have:=rv.length; rw [Ab] at this; simp; lia
 have W:=Zag (j4:=j4) (σ:=σ) (H:=H) (s:=s) rv;refine call_max_walk (wpAny_pyIter_list pl.isList ⟨s.heap.objs.size,_,_,_,_,_,_,Y,Walks.list (A:=X.A.in1) (show X.A.in1.handled=none from I.ok.hd hc) s.heap.objs.size p (As lt) its.toArray,⟨⟨_,Ap _ Y,Y,Y⟩,pl.isList.push _⟩,?_,by rw [j7]; exact hn,CmpOf.ints_gt (λi=>ns.getD i 0) W,?_⟩)
 ·intro b hb
  show b < (s.heap.push _).objs.size;rw [Heap.size_push]
  rcases Ar hb with rfl | hb
  ·exact lt_succ_self _
  ·rw [Af hb]; exact lt_succ_of_lt lt
 ·intro v h' tk hP hk
  have I1:Inv X j4 σ H { s with heap:=h',toks:=tk }:=I.kept λb o e=>hk b o (as:) (Ak _ e);rw [j7] at hP;obtain ⟨a1,a2⟩:=argBest_gt (λi=>ns.getD i 0) (ns.length - 1);obtain ⟨t,e⟩:=W _ _ hP;generalize argBest (λi j=>decide (ns.getD i 0 > ns.getD j 0)) (ns.length - 1)=k at a1 a2 e;have tm:k < ns.length:=by lia
  have ek:ns.getD k 0=ns[k]:=by rw [Ad,Ac tm]; rfl
  refine ⟨.int (ns.getD k 0),H,I1,⟨t,e⟩,q _ (by rw [ek]; exact getElem_mem tm) λa ha=>?_⟩;obtain ⟨j,hj,rfl⟩:=mem_iff_getElem.mp ha;have:=a2 j (by lia);have ej:ns.getD j 0=ns[j]:=by rw [Ad,Ac hj]; rfl
  show ns[j]<=ns.getD k 0;rw [<- ej]; exact this
def Zbx (K:W.Frag) (hc:X.calm=true) (h:X.K=K:=by rfl):Y2 X (.builtin "sum") (λxs H Q=>∃ (p:Addr) (ns:List Int),xs=[.ref p]/\SqL K H p (L:)/\Q (.int ns.sum) H):=h ▸ Zm5 hc
def Zkl (K:W.Frag) (hc:X.calm=true) (h:X.K=K:=by rfl):Y2 X (.builtin "max") (λxs H Q=>∃ (p:Addr) (ns:List Int),xs=[.ref p]/\SqL K H p (L:)/\0 < ns.length/\∀ m,m∈ns->(∀ a∈ns,a<=m)->Q (.int m) H):=h ▸ Zm8 hc
end
end L2
namespace L2
open PySem PySem.Spec PyProof.Rows
def Rise (l:List Nat):Prop:=l.Pairwise (· < ·)
def Uo {xs:Array Nat} (hr:Rise xs.toList) {i k x y:Nat} (hi:xs[i]?=some x) (hk:xs[k]?=some y) (h:i < k):x < y:=by
 have e1:xs.toList[i]?=some x:=by rw [Array.getElem?_toList]; exact hi
 have e2:xs.toList[k]?=some y:=by rw [Array.getElem?_toList]; exact hk
 obtain ⟨l1,q1⟩:=Aa e1;obtain ⟨l2,q2⟩:=Aa e2;have:=pairwise_iff_getElem.mp hr i k l1 l2 h;rw [q1,q2] at this;exact this
theorem Ov {xs:Array Nat} {j:Nat} (hr:Rise xs.toList):∀ (me lo hi:Nat),hi - lo<=me->lo<=hi->hi<=xs.size->(∀ i x,i < lo->xs[i]?=some x->x < j)->(∀ i x,hi<=i->xs[i]?=some x->j<=x) ->
  (∀ i x,i < SetTable.below.go xs j me lo hi->xs[i]?=some x->x < j)/\(∀ i x,SetTable.below.go xs j me lo hi<=i->xs[i]?=some x->j<=x)
 | 0,lo,hi,hf,hl,hs,h1,h2=>by
  have:lo=hi:=by lia
  subst this;exact ⟨h1,h2⟩
 | me + 1,lo,hi,hf,hl,hs,h1,h2=>by
  unfold SetTable.below.go;by_cases c:lo < hi
  ·rw [if_pos c]
   have hm:(lo + hi) / 2 < xs.size:=by lia
   have em:xs[(lo + hi) / 2]?=some xs[(lo + hi) / 2]:=Array.getElem?_eq_getElem hm;have eg:xs.getD ((lo + hi) / 2) j=xs[(lo + hi) / 2]:=by rw [Array.getD_eq_getD_getElem?,em]; rfl
   dsimp only;rw [eg];by_cases z:xs[(lo + hi) / 2] < j
   ·rw [if_pos z]
    refine Ov hr me _ _ (by lia) (by lia) hs (λi x yh hx=>?_) h2;by_cases e:i=(lo + hi) / 2
    ·subst e; rw [em] at hx; cases hx; exact z
    ·exact Nat.lt_trans (Uo hr hx em (by lia)) z
   ·rw [if_neg z]
    refine Ov hr me _ _ (by lia) (by lia) (by lia) h1 (λi x yh hx=>?_);by_cases e:i=(lo + hi) / 2
    ·subst e; rw [em] at hx; cases hx; lia
    ·have:=Uo hr em hx (by lia); lia
  ·rw [if_neg c]
   have:lo=hi:=by lia
   subst this;exact ⟨h1,h2⟩
def Zg3 {xs:Array Nat} {j:Nat} (hr:Rise xs.toList):∀ i x,i < SetTable.below xs j->xs[i]?=some x->x < j :=
 (cy:).1
def Zal {xs:Array Nat} {j:Nat} (hr:Rise xs.toList):∀ i x,SetTable.below xs j<=i->xs[i]?=some x->j<=x :=
 (cy:).2
def Zhm {xs:Array Nat} {j:Nat} (hr:Rise xs.toList) (hn:xs[SetTable.below xs j]?≠some j):Rise (SetTable.insertAt xs (SetTable.below xs j) j).toList:=by
 unfold Rise;rw [SetTable.toList_insertAt,pairwise_append];have hr':xs.toList.Pairwise (· < ·):=hr;have ht:∀ a∈xs.toList.take (SetTable.below xs j),a < j:=λa ha=>by
  obtain ⟨i,hi,e⟩:=mem_iff_getElem.mp ha
  rw [getElem_take] at e
  rw [Ai] at hi
  refine Zg3 hr i a (by lia) ?_
  rw [<- Array.getElem?_toList,Ac (by lia),e]
 have hd:∀ a∈xs.toList.drop (SetTable.below xs j),j < a:=λa ha=>by
  obtain ⟨i,hi,e⟩:=mem_iff_getElem.mp ha;rw [getElem_drop] at e;rw [length_drop] at hi;have ea:xs[SetTable.below xs j + i]?=some a:=by rw [<- Array.getElem?_toList,Ac (by lia),e]
  have h1:=Zal (j:=j) hr _ a (by lia) ea
  rcases Nat.lt_or_ge j a with z | z
  ·exact z
  ·have:a=j:=by lia
   subst this
   cases i with
   | zero=>exact absurd ea hn
   | succ i =>
    have hb:SetTable.below xs a < xs.size:=by rw [Array.length_toList] at hi; lia
    have eb:=Array.getElem?_eq_getElem hb;have h2:=Zal hr _ _ (An _) eb;have h3:=Uo hr eb ea (by lia);lia
 refine ⟨hr'.sublist (take_sublist ..),?_,λa ha b hb=>?_⟩
 ·rw [pairwise_cons]
  exact ⟨hd,hr'.sublist (drop_sublist ..)⟩
 ·rcases Ar hb with rfl | hb
  ·exact ht a ha
  ·exact Nat.lt_trans (ht a ha) (hd b hb)
def Zb1 (t:SetTable) (j:Nat):Prop:=t.place[SetTable.below t.place j]?≠some j
def Zcs {t:SetTable} {j:Nat} (h:∀ i,t.slot j≠.live i):Zb1 t j:=by
 intro e;unfold SetTable.slot at h;refine h (SetTable.below t.place j) ?_;dsimp only;rw [if_pos (by rw [e]; exact beq_self_eq_true _)]
theorem Oh {t:SetTable} {ha:Nat->Int} {h:Int}:∀ (me:Nat) (p:SetTable.Probe) (j:Nat) (d:Option Nat),SetTable.probe.go t ha h me p=some (.empty j d)->(∀ e,p.dummy=some e->Zb1 t e)->Zb1 t j/\∀ e,d=some e->Zb1 t e
 | 0,p,j,d,e,hp=>by unfold SetTable.probe.go at e; cases e
 | me + 1,p,j,d,e,hp=>by
  unfold SetTable.probe.go at e
  cases c:t.slot p.j with
  | empty =>
   rw [c] at e;cases e;exact ⟨Zcs (λi z=>by rw [c] at z; cases z),hp⟩
  | dummy =>
   rw [c] at e;refine Oh me _ j d e λx hx=>?_;have adv:∀ q:SetTable.Probe,(t.advance q).dummy=q.dummy:=λq=>by unfold SetTable.advance; split <;> rfl
   rw [adv] at hx;cases hx;exact Zcs λi z=>by rw [c] at z; cases z
  | live i =>
   rw [c] at e;dsimp only at e;split at e
   ·cases e
   ·refine Oh me _ j d e λx hx=>?_
    have adv:∀ q:SetTable.Probe,(t.advance q).dummy=q.dummy:=λq=>by unfold SetTable.advance; split <;> rfl
    rw [adv] at hx;exact hp x hx
def Va (n:Nat):Rise (Array.range n).toList:=by
 unfold Rise;rw [Array.toList_range];exact pairwise_lt_range
def Zhz {t:SetTable} (es:Array (dg:)) (h:Int) (x:Value) (hr:Rise t.place.toList):Rise (layNew t es h x).2.1.place.toList/\(layNew t es h x).2.1.led=t.led:=by
 unfold layNew;split
 ·rename_i slot wd e
  have hf:Zb1 t slot:=by
   unfold SetTable.freeSlot SetTable.probe at e;split at e
   ·rename_i j d ep
    obtain ⟨h1,h2⟩:=Oh _ _ j d ep (λe he=>by unfold SetTable.probeStart at he; cases he)
    cases d with
    | none=>cases e; exact h1
    | some q=>cases e; exact h2 q Y
   ·cases e
  dsimp only;unfold SetTable.orStandIn;split
  ·exact ⟨Zhm hr hf,Y⟩
  ·exact ⟨Va _,Y⟩
 ·exact ⟨Va _,Y⟩
def Zmf (f:Nat->Option Nat) (n:Nat):Rise (((List.range n).filterMap λj=>(f j).map (j,·)).map (·.1)):=by
 have e:∀ l:List Nat,(l.filterMap λj=>(f j).map (j,·)).map (·.1)=l.filter λj=>(f j).isSome:=λl=>by
  induction l with
  | nil=>rfl
  | cons a l ih =>
   cases c:f a with
   | none=>rw [filterMap_cons_none (by rw [c]; rfl),filter_cons_of_neg (by rw [c]; decide),ih]
   | some b=>rw [filterMap_cons_some (b:=(a,b)) (by rw [c]; rfl),filter_cons_of_pos (by rw [c]; rfl),map_cons,ih]
 unfold Rise;rw [e];exact pairwise_lt_range.filter _
def Zd9 (t:SetTable) (es:Array (dg:)) (n:Nat):Rise (relayAll t es n).2.1.place.toList/\(relayAll t es n).2.1.led=t.led:=by
 unfold relayAll;split
 ·rename_i t' order e
  dsimp only;split
  ·unfold SetTable.relaid SetTable.laid at e
   cases c:SetTable.layClean (SetTable.sizeAbove n - 1) (es.map (·.1)) with
   | none=>rw [c] at e; cases e
   | some owner =>
    rw [c] at e;have e:_=some (t',order):=e;simp only [Option.pure_def,Option.bind_eq_bind,Option.bind_some,Option.some.injEq,Prod.mk.injEq] at e;obtain ⟨rfl,_⟩:=e;exact ⟨Zmf (λj=>owner.getD j none) _,Y⟩
  ·exact ⟨Va _,Y⟩
 ·exact ⟨Va _,Y⟩
def WSet (P:Program) (w:World) (h:Heap) (a:Addr) (ks:List Int):Prop :=
 ∃ (o:Obj) (es:Array (dg:)) (ep:Nat) (t:SetTable) (ve:List Int),h.get? a=some o/\o.ExactSet/\o.data=.set es ep t/\ElemsOf (en:) es.toList/\IntsAre (es.toList.map (·.2)) ve/\ve.Perm ks /\
  es.size < scanBound/\t.fits es.size=true/\Rise t.place.toList/\(w.params.followText "set-order"=true\/t.led=true)
theorem Zdh {k:Int}:∀ {es:List (dg:)} {ks:List Int},IntsAre (es.map (·.2)) ks->((∃ e∈es,Value.isInt k e.2=true) ↔ k∈ks)
 | [],ks,h=>by
  cases h;refine ⟨λzz44=>?_,λhk=>absurd hk not_mem_nil⟩;obtain ⟨e,he,_⟩:=zz44;exact absurd he not_mem_nil
 | (hh,v) :: es,ks,h=>by
  have h:IntsAre (v :: es.map (·.2)) ks:=h
  cases h with
  | @cons _ ns n t hr =>
   have ih:=Zdh (k:=k) hr;constructor
   ·rintro ⟨e,he,hi⟩
    rcases Ar he with rfl | he
    ·obtain ⟨t',e'⟩:=Value.isInt_shape hi
     cases e';exact mem_cons_self
    ·exact mem_cons_of_mem _ (ih.mp ⟨e,he,hi⟩)
   ·intro hk
    rcases Ar hk with rfl | hk
    ·exact ⟨_,mem_cons_self,by simp [Value.isInt]⟩
    ·obtain ⟨e,he,hi⟩:=ih.mpr hk
     exact ⟨e,mem_cons_of_mem _ he,hi⟩
def V8:∀ {us vs:List Value},us.Perm vs->∀ {ks:List Int},IntsAre vs ks->∃ ve,IntsAre us ve/\ve.Perm ks:=by
 intro us vs p
 induction p with
 | nil=>intro ks h; exact ⟨ks,h,.refl _⟩
 | cons x p ih =>
  intro ks h
  cases h with
  | cons n t hr =>
   obtain ⟨ve,h1,h2⟩:=ih hr;exact ⟨n :: ve,.cons n t h1,h2.cons n⟩
 | swap x y l =>
  intro ks h
  cases h with
  | cons n t hr =>
   cases hr with
   | cons m u hr=>exact ⟨m :: n :: _,.cons m u (.cons n t hr),.swap n m _⟩
 | trans p q ihp ihq =>
  intro ks h;obtain ⟨k1,h1,h2⟩:=ihq h;obtain ⟨k2,h3,h4⟩:=ihp h1;exact ⟨k2,h3,h4.trans h2⟩
theorem Zdg:∀ {vs:List Value} {ks:List Int},IntsAre vs ks->∀ (n:Int) (t:Tok),IntsAre (vs ++ [.int n t]) (ks ++ [n])
 | _,_,.nil,n,t=>.cons n t .nil
 | _,_,.cons m u h,n,t=>.cons m u (Zdg h n t)
section
variable {P:Program} {w:World} {A:Around} {E:Value->Shared->Prop} {s:Shared}
def WSet.lt {h:Heap} {a:Addr} {ks:List Int} (x:WSet P w h a ks):a < h.objs.size:=by obtain ⟨o,_,_,_,_,ho,_⟩:=x; exact Ao ho
def WSet.kept {h h':Heap} {a:Addr} {ks:List Int} (x:WSet P w h a ks) (k:∀ o,h.get? a=some o->h'.get? a=some o):WSet P w h' a ks:=by
 obtain ⟨o,es,ep,t,ve,ho,r,r1,r2,r3,r4,r5,r6,r7,r8⟩:=x; exact ⟨o,es,ep,t,ve,k _ ho,r,r1,r2,r3,r4,r5,r6,r7,r8⟩
def Zel {h:Heap} {a:Addr} {o:Obj} {es:Array (dg:)} {ep:Nat} {t:SetTable} (ho:h.get? a=some o) (hd:o.data=.set es ep t) (yn:Array (dg:)) (t':SetTable) :
  (h.update a (Obj.putSet yn t')).get? a=some { o with data:=.set yn (ep + 1) t' }:=by
 have q:=putSet_of yn t' hd;rw [<- q];exact Heap.get?_update_self _ ho (by rw [q]; rfl)
def Zne {a:Addr} {k:Int} {tk:Tok} {ks:List Int} {Q:Bool->Shared->Prop} (hS:WSet P w s.heap a ks) (room:ks.length + 1 < scanBound)
  (h:∀ h',Heap.SameBut a s.heap h'->WSet P w h' a (step_dedup ks k)->Q (!ks.any (· == k)) { s with heap:=h' }) :
  wpAny (W:) A (setAddHashed a (.int k tk) ((en:).hash k)) Q E s:=by
 obtain ⟨o,es,ep,t,ns,ho,ex,od,el,hI,pm,lt,ft,rs,ld⟩:=id hS;have ik:(en:).is k (.int k tk)=true:=intKind_is _ _ _ _;have hmem:=(Zdh (k:=k) hI).trans pm.mem_iff;have sz:es.size=ks.length:=by rw [<- pm.length_eq,<- hI.length,Ab,Array.length_toList]
 have km:∀ (b:Bool) {s₁:Shared} {R:Unit->Shared->Prop},R () s₁->wpAny (W:) A (match b with | true=>rule "set.scan.the-table-gave-way" | false=>pure ()) R E s₁:=λb s₁ R q=>by
  cases b
  ·exact wpAny_pure q
  ·exact wpAny_rule q
 unfold setAddHashed setAddHashedIn; refine wpAny_holding ?_;refine Al (wpAny_setState_of ho od ft ?_);dsimp only;rw [byScan_of (x:=.int k tk) rfl lt el,if_pos rfl];unfold setAddByScan; refine Al (Al (wpAny_rule (Al (wpAny_setScan_of ik ho od ft el ?_))))
 cases c:List.findIdx? (λe=>(intKind P w).is k e.2) es.toList with
 | some j =>
  obtain ⟨hj,pj,_⟩:=findIdx?_eq_some_iff_getElem.mp c;have yes:ks.any (· == k)=true:=any_eq_true.mpr ⟨k,hmem.mp ⟨es.toList[j],getElem_mem hj,pj⟩,beq_self_eq_true _⟩;have z:=h s.heap (Heap.SameBut.refl a s.heap) (by unfold step_dedup; rw [if_pos yes]; exact hS);rw [yes] at z;exact wpAny_pure (wpAny_pure z)
 | none =>
  have no:ks.any (· == k)=false:=by
   rw [any_eq_false];intro x hx z;obtain ⟨e,he,hi⟩:=hmem.mpr (show k∈ks by rw [<- (beq_iff_eq.mp z)]; exact hx);exact absurd (show (en:).is k e.2=true from hi) (by rw [findIdx?_eq_none_iff.mp c e he]; decide)
  rw [no,show step_dedup ks k=ks ++ [k] by unfold step_dedup; rw [no]; rfl] at h;have g1:=layNew_perm t es ((en:).hash k) (.int k tk);have g2:=layNew_fits t es ((en:).hash k) (.int k tk);have g3:=Zhz es ((en:).hash k) (.int k tk) rs;dsimp only;generalize layNew t es ((intKind P w).hash k) (.int k tk)=lay at g1 g2 g3 ⊢;obtain ⟨rp,t1,du,gv⟩:=lay;dsimp only at g1 g2 g3 ⊢;have p1:rp.toList.Perm (es.toList ++ [((en:).hash k,Value.int k tk)]):=by rw [<- Array.toList_push]; exact g1
  have el1:=(el.push ik rfl).perm p1;have lt1:rp.size < scanBound:=by
   have:=p1.length_eq
   rw [Ae,Array.length_toList,Array.length_toList,At] at this
   omega
  have ld1:w.params.followText "set-order"=true\/t1.led=true:=by rw [g3.2]; exact ld
  obtain ⟨n1,i1,i2⟩:=V8 (p1.map (·.2)) (show IntsAre ((es.toList ++ [((en:).hash k,Value.int k tk)]).map (·.2)) (ns ++ [k]) by rw [Aj]; exact Zdg hI k tk);replace i2:=i2.trans (pm.append_right [k]);refine Al (km _ ?_);rw [hashByValue_scannable 8 (x:=.int k tk) rfl,show plainKind (.int k tk)=true from rfl,ite_self];refine Al (ad:)
  try rw [if_pos rfl]
  refine Al (wpAny_storeSet_of ho od ?_ (fits_of_scanBound lt1));have o1:=Zel ho od rp t1;have s1:=Heap.SameBut.update s.heap a (Obj.putSet rp t1);split
  ·have q1:=relayAll_perm t1 rp (SetTable.grown rp.size)
   have q2:=relayAll_fits t1 rp (SetTable.grown rp.size);have q3:=Zd9 t1 rp (SetTable.grown rp.size);generalize relayAll t1 rp (SetTable.grown rp.size)=rl at q1 q2 q3 ⊢;obtain ⟨es2,t2,g2⟩:=rl;dsimp only at q1 q2 q3 ⊢;have lt2:es2.size < scanBound:=by rw [<- Array.length_toList,q1.length_eq,Array.length_toList]; exact lt1
   obtain ⟨n2,j1,j2⟩:=V8 (q1.map (·.2)) i1;refine Al (km _ (Al (wpAny_storeSet_of o1 Y ?_ (fits_of_scanBound lt2))));exact wpAny_pure (wpAny_pure (h _ (s1.trans (Heap.SameBut.update _ a _)) ⟨_,es2,_,t2,n2,Zel o1 Y es2 t2,ex,Y,el1.perm q1,j1,j2.trans i2,lt2,q2,q3.1,by rw [q3.2]; exact ld1⟩))
  ·exact wpAny_pure (wpAny_pure (h _ s1 ⟨_,rp,_,t1,n1,o1,ex,Y,el1,i1,i2,lt1,g2,g3.1,ld1⟩))
noncomputable def set0 (w:World):Obj:={ cls:=.type "set",dict:=none,data:=.set #[] 0 (.fresh 0 0 (!w.params.followText "set-order")) }
def Zrf {h:Heap} {a:Addr} (e:h.get? a=some (set0 w)):WSet P w h a []:=by
 refine ⟨_,#[],0,_,[],e,⟨Y,Y,Y⟩,Y,λe he=>by simp at he,.nil,.refl _,by decide,by rfl,List.Pairwise.nil,?_⟩;show w.params.followText "set-order"=true\/(!w.params.followText "set-order")=true;cases w.params.followText "set-order"
 ·exact .inr Y
 ·exact .inl Y
def Zqq {x:Value} {Q:Value->Shared->Prop} (h:Q (x:) { s with heap:=s.heap.push (set0 w) }):codeAny (W:) A (.call (.builtin "set.__new__") ⟨[.type "set",x],[]⟩) (wants Q E) s:=by
 refine codeAny_call_builtin_code (plainId_quiet PySem.F.plain_set_new _) (wpAny_of_eq (PySem.F.newCall_set_1 x) (codeAny_builtin PySem.F.entry_set_new ?_));rw [Around.under_plainId PySem.F.plain_set_new _];unfold Builtin.«set.__new__» Builtin.Frozenset.newClass;have hsub:=sub_set_self;obtain ⟨hp,g,d,tk,os⟩:=s
 wp_walk
 refine wpAny_askSetting (ad:);simp only [newObj];exact Al (wpAny_alloc (wpAny_pure (wpAny_pure h)))
variable {R:Result->Shared->Prop} {I:Addr} {fp wr:List Addr} {G:Array GenState->Array GenState->Prop} {n:Nat} {Pv:Nat->Value->Prop} {St:Nat->Shared->Prop}
def Zo0 (W:WalksS P w A.in1 I fp wr G n Pv St) {S:Addr} (hS:S ∉ fp) {val:Nat->Int} (hv:∀ i v,Pv i v->∃ t,v=.int (val i) t) (hb:n + 1 < scanBound):∀ (k i:Nat) (s:Shared),n - i=k->i<=n->St i s->WSet P w s.heap S (firstMet val i) ->
   (∀ s',Moved (S :: wr) G s s'->WSet P w s'.heap S (firstMet val n)->R (.ok (.ret .none)) s')->codeAny (W:) A (.builtin "set.update.loop" ⟨[.ref S,.ref I],[]⟩) R s:=by
 have hw:S ∉ wr:=λz=>hS (W.sub _ z);have mn:∀ b∈wr,b∈S :: wr:=λb hb=>mem_cons_of_mem _ hb;intro k
 induction k with
 | zero =>
  intro i s hk hi st ws km;obtain rfl:i=n:=by lia
  refine codeAny_builtin PyProof.Rows.F.entry_set_update_loop ?_;rw [Around.under_plainId PyProof.Rows.F.plain_set_update_loop _];show wpAny _ A.in1 (pyNext (.ref I) >>= _) _ _ s;exact Al (W.done s _ _ st λs' hm=>wpAny_pure (km s' (hm.mono mn) (ws.kept λo e=>hm.heap S o hw e)))
 | succ k ih =>
  intro i s hk hi st ws km;have lt:i < n:=by lia
  refine codeAny_builtin PyProof.Rows.F.entry_set_update_loop ?_;rw [Around.under_plainId PyProof.Rows.F.plain_set_update_loop _];show wpAny _ A.in1 (pyNext (.ref I) >>= _) _ _ s;refine Al (W.item i s _ _ lt st λv s1 hP qk hm=>?_);obtain ⟨t,rfl⟩:=hv i v hP;have ws1:WSet P w s1.heap S (firstMet val i):=ws.kept λo e=>hm.heap S o hw e;show wpAny _ A.in1 (holding [Value.int (val i) t] (setAdd S (.int (val i) t)) >>= _) _ _ s1;have hl:=firstMet_length_le val i;unfold setAdd;refine Al (wpAny_holding (wpAny_holding (Al ((en:).pyHash (k:=val i) (intKind_is _ _ _ _) (Zne (s:={ s1 with toks:=s1.toks + 1 }) ws1 (by lia) λh' sb ws2=>?_)))));rw [<- firstMet_succ] at ws2;have ot:∀ b o,b≠S->s1.heap.get? b=some o->h'.get? b=some o:=λb o hb e=>by rw [sb.2 b hb]; exact e
  refine wpAny_pure ⟨plainId_quiet PyProof.Rows.F.plain_set_update_loop _,ih (i + 1) _ (by lia) lt (W.frame _ s1 _ _ qk (le_succ _) λb hb o e=>ot b o (λz=>hS (z ▸ hb)) e) ws2 λs3 hm3 ws3=>?_⟩;exact km s3 (dt:) ws3
set_option maxHeartbeats 8000000 in
def Zhi {l:Addr} {its:Array Value} {ns:List Int} {Q:Value->Shared->Prop} (hh:A.handled=none) (hl:s.heap.IsList l its) (hi:IntsAre its.toList ns) (hb:its.size + 1 < scanBound)
  (h:∀ (h':Heap) (tk:Nat),WSet P w h' s.heap.objs.size (firstMet (λi=>ns.getD i 0) its.size)->(ar:)->Q (x:) { s with heap:=h',toks:=tk }) :
  wpAny (W:) A (call (.type "set") [.ref l]) Q E s:=by
 obtain ⟨c,tl,hmro⟩:=PySem.F.called_set.mro;have hmade:=PySem.F.called_set.made;have hsub:=PySem.F.called_set.sub;have h1:=PySem.F.called_set.notType;have h2:=PySem.F.called_set.canCreate;have hct:=PySem.F.typeCall_set_1 (.ref l);refine wpAny_call (codeAny_of_tree (wpAny_pure ⟨Code.quiet_builtin _ (h:),codeAny_builtin PySem.F.entry_type_call ?_⟩));rw [Around.under_plain (weight_type_call_type "set" [.ref l] []) rfl]
 repeat (any_goals (first | assumption | wp_step))
 refine codeAny_mono (Zqq (E:=E) (x:=.ref l) (Q:=λv s₁=>v=.ref s.heap.objs.size/\s₁={ s with heap:=s.heap.push (set0 w) }) ⟨Y,Y⟩) λr s₁ hr=>?_
 cases r with
 | error e=>exact hr
 | ok fl =>
  cases fl with
  | ret v =>
   obtain ⟨rfl,rfl⟩:=hr;have e0:(s.heap.push (set0 w)).get? s.heap.objs.size=some (set0 w):=Ap _ rfl;have hT:Shared.TypeIs { s with heap:=s.heap.push (set0 w) } (x:) "set":=⟨_,e0,rfl⟩;have hli:=PySem.F.called_set.init.lookup;have hbi:=PySem.F.called_set.init.bind (x:)
   repeat (any_goals (first | assumption | wp_step))
   refine codeAny_mono (codeAny_call_builtin (R:=wants (λr s₂=>r=.none/\∃ h' tk,s₂={ s with heap:=h',toks:=tk }/\WSet P w h' s.heap.objs.size (firstMet (λi=>ns.getD i 0) its.size)/\∀ b o,s.heap.get? b=some o->h'.get? b=some o) E)
    PySem.F.called_set.init.plain PySem.F.entry_set_init (check_set_init_1 hT ?_)) λr₂ s₂ hr₂=>?_
   ·obtain ⟨ol,sv,hcl,nl,ud⟩:=id hl
    have ll:l < s.heap.objs.size:=Ao sv;obtain ⟨ocls,odict,odata,zf⟩:=ol;simp only at hcl ud;subst hcl; subst ud;have hol':(s.heap.push (set0 w)).get? l=some { cls:=.type "list",dict:=odict,data:=.seq its nl,slots:=zf }:=Ak _ sv;have k1:=PySem.F.sub_list_set;have k2:=PySem.F.sub_list_frozenset;have k3:(Value.type "list" == Value.type "dict")=false:=by decide
    have ly:(s.heap.push (set0 w)).IsList l its:=⟨_,hol',rfl,nl,rfl⟩;unfold Builtin.«set.__init__» noKeywords Builtin.Frozenset.updateFrom;generalize hPI:pyIter=PI;unfold set0 at e0 hol' ly hT ⊢
    wp_walk
    subst hPI;refine wpAny_pyIter_list ly (Al (wpAny_runValue ?_));have hs:(s.heap.push (set0 w)).objs.size=s.heap.objs.size + 1:=Heap.size_push ..;unfold set0 at hs;refine Zo0 ((Walks.list (show A.in1.in1.in1.handled=none by simp [hh]) _ l (by rw [hs]; exact As (lt_succ_of_lt ll)) its).toS) (S:=s.heap.objs.size) (by rw [hs]; simp only [mem_cons,not_mem_nil,or_false,not_or]; exact ⟨As (lt_succ_self _),Nat.ne_of_gt ll⟩) (val:=λi=>ns.getD i 0)
     (λi v hv=>PyProof.Rows.IntsAre.int_at hi i v (by rw [Array.getElem?_toList]; exact hv)) hb (its.size - 0) 0 _ (by lia) (Az _)
     ⟨⟨_,Ap _ rfl,rfl,rfl⟩,(ly.push _)⟩ (Zrf (Ak _ e0)) λs' hm ws=>?_
    obtain ⟨h',g',d',zi,os'⟩:=s';obtain rfl:g'=s.gens:=hm.gens;obtain rfl:d'=s.drawn:=hm.drawn;obtain rfl:os'=s.os:=hm.os;refine wpAny_pure (wpAny_pure ⟨Y,h',zi,Y,ws,λb o e=>?_⟩);have hb:=Ao e;refine hm.heap b o ?_ (Ak _ (Ak _ e));rw [hs];simp only [mem_cons,not_mem_nil,or_false,not_or];exact ⟨As hb,As (lt_succ_of_lt hb)⟩
   ·cases r₂ with
    | error e=>exact hr₂
    | ok fl₂ =>
     cases fl₂ with
     | ret r =>
      obtain ⟨rfl,h',tk,rfl,ws,kp⟩:=hr₂
      repeat (any_goals (first | assumption | wp_step))
      exact h _ _ ws kp
     | _=>exact hr₂.elim
  | _=>exact hr.elim
end
end L2
namespace PySem.F
def sti_next:Slot "set_iterator" "__next__" "set_iterator.__next__" :=
 .of (owner:="set_iterator") (n:="__next__") (by rw [typeLookup_type,builtinLookup_eq_fast]; kernel_rfl) (h:) (h:) (h:) (by first | exact .inl (h:) | exact .inr (h:)) (by rw [isSubtype_type]; kernel_rfl)
def sti_entry:entryFor table "set_iterator.__next__"=some Builtin.«set_iterator.__next__»:=entryFor_of_tree (by kernel_rfl)
def sti_args (a:Value):argsOk "set_iterator.__next__" ⟨[a],[]⟩:=by unfold argsOk; kernel_rfl
def st_iter_entry:entryFor table "set.__iter__"=some Builtin.«frozenset.__iter__»:=entryFor_alias (id':="frozenset.__iter__") (by kernel_rfl) rfl (h:) (by kernel_rfl)
def sti_iter:Slot "set_iterator" "__iter__" "set_iterator.__iter__" :=
 .of (owner:="set_iterator") (n:="__iter__") (by rw [typeLookup_type,builtinLookup_eq_fast]; kernel_rfl) (h:) (h:) (h:) (by first | exact .inl (h:) | exact .inr (h:)) (by rw [isSubtype_type]; kernel_rfl)
def sti_iter_entry:entryFor table "set_iterator.__iter__"=some Builtin.«dict_keyiterator.__iter__»:=entryFor_alias (id':="dict_keyiterator.__iter__") (by kernel_rfl) rfl (h:) (by kernel_rfl)
def sti_iter_args (a:Value):argsOk "set_iterator.__iter__" ⟨[a],[]⟩:=by unfold argsOk; kernel_rfl
end PySem.F
namespace L2
open PySem PySem.Spec PyProof.Rows
theorem Oq {α:Type}:∀ {l:List α} {i:Nat} (hi:i < l.length),(l[i] :: l.eraseIdx i).Perm l
 | a :: l,0,_=>.refl _
 | a :: l,i + 1,hi=>(List.Perm.swap ..).trans ((Oq (l:=l) (lt_of_succ_lt_succ hi)).cons a)
theorem Zii {α:Type} {next:Nat->Nat}:∀ (me k:Nat) (left:List α) (out:Array α),left.length<=me->∃ r,(pickOrder.go next me k left out).toList=out.toList ++ r/\r.Perm left
 | 0,k,left,out,h=>by
  have:left=[]:=eq_nil_of_length_eq_zero (by lia);subst this;exact ⟨[],by unfold pickOrder.go; simp,.nil⟩
 | me + 1,k,left,out,h=>by
  unfold pickOrder.go
  cases left with
  | nil=>exact ⟨[],by simp,.nil⟩
  | cons a l =>
   have hi:next k % (a :: l).length < (a :: l).length:=mod_lt _ (by simp)
   generalize next k % (a :: l).length=i at hi
   rw [Ac hi];dsimp only;obtain ⟨r,h1,h2⟩:=Zii (next:=next) me (k + 1) ((a :: l).eraseIdx i) (out.push (a :: l)[i]) (by rw [length_eraseIdx_of_lt hi]; lia);refine ⟨(a :: l)[i] :: r,by rw [h1,Array.toList_push,append_assoc]; rfl,?_⟩;exact (h2.cons _).trans (Oq hi)
def Zc9 {α:Type} (next:Nat->Nat) (xs:Array α):(pickOrder next xs).toList.Perm xs.toList:=by
 obtain ⟨r,h1,h2⟩:=Zii (next:=next) xs.size 0 xs.toList #[] (by simp);have:(pickOrder next xs).toList=r:=h1;rw [this];exact h2
section
variable {P:Program} {w:World} {A:Around} {E:Value->Shared->Prop} {s:Shared}
def Zko {src:Source} {n:Nat} {Q:Nat->Shared->Prop} (hn:n≠0) (h:∀ i,i < n->Q i { s with drawn:=s.drawn.bump src }):wpAny (W:) A (choose src n) Q E s:=λ_ _ _=>⟨hn,h _ (mod_lt _ (Nat.pos_of_ne_zero hn))⟩
theorem Zdn {α:Type}:∀ (n:Nat) (l:List α) (s:Shared) (Q:List α->Shared->Prop),l.length<=n->(∀ r d',r.Perm l->Q r { s with drawn:=d' })->wpAny (W:) A (drawOrder n l) Q E s
 | 0,l,s,Q,hl,h=>by
  have:l=[]:=eq_nil_of_length_eq_zero (by lia);subst this;exact wpAny_pure (h [] s.drawn .nil)
 | n + 1,[],s,Q,hl,h=>wpAny_pure (h [] s.drawn .nil)
 | n + 1,a :: l,s,Q,hl,h=>by
  unfold drawOrder;refine Al (Zko (by simp) λi hi=>?_);rw [Ac hi];refine Al (Zdn n _ _ _ (by rw [length_eraseIdx_of_lt hi]; lia) λr d' pr=>wpAny_pure (h _ d' ?_));exact (pr.cons _).trans (Oq hi)
noncomputable def X8 (fst:Value) (i:Nat) (a:Addr) (n ep:Nat):Obj:={ cls:=.type "set_iterator",data:=.fields #[fst,.int i 0,.ref a,.int n 0,.int ep 0] }
def Zjs {h:Heap} {I a:Addr} {f g:Value} {i j n ep:Nat} (ho:h.get? I=some (X8 f i a n ep)) :
  ((h.update I (Obj.mapFields (·.setIfInBounds 0 g))).update I (Obj.mapFields (·.setIfInBounds 1 (.int j 0)))).get? I=some (X8 g j a n ep):=by
 have h1:=Heap.get?_update_self (Obj.mapFields (·.setIfInBounds 0 g)) ho rfl;exact Heap.get?_update_self (Obj.mapFields (·.setIfInBounds 1 (.int j 0))) h1 Y
def Zjt {h:Heap} {I a:Addr} {f:Value} {i j n ep:Nat} (ho:h.get? I=some (X8 f i a n ep)) :
  (h.update I (Obj.mapFields (·.setIfInBounds 1 (.int j 0)))).get? I=some (X8 f j a n ep):=Heap.get?_update_self (Obj.mapFields (·.setIfInBounds 1 (.int j 0))) ho rfl
def Znh {I a:Addr} {o:Obj} {es:Array (dg:)} {ep:Nat} {t:SetTable} {i sl sl':Nat} {x:Value} {Q:Option Value->Shared->Prop} (hI:s.heap.get? I=some (X8 (.int sl 0) i a es.size ep)) (ho:s.heap.get? a=some o) (hd:o.data=.set es ep t) (hf:t.fits es.size=true)
  (nx:∀ (B:Around) (F:Value->Shared->Prop) (R:Option (Value × Nat)->Shared->Prop),R (some (x,sl')) s->wpAny (W:) B (setNext a sl i ep) R F s)
  (h:∀ h',h'.get? I=some (X8 (.int sl' 0) (i + 1) a es.size ep)->Heap.SameBut I s.heap h'->Q (some x) { s with heap:=h' }):wpAny (W:) A (pyNext (.ref I)) Q E s:=by
 have hT:s.TypeIs (.ref I) "set_iterator":=⟨_,hI,rfl⟩;unfold pyNext;refine Al (bi:);unfold Builtin.«set_iterator.__next__»;refine Al (m:=slotArgs "__next__" 0 _) (ad:);refine Al (wpAny_fieldsOf hI Y ?_);dsimp only;refine Al (wpAny_setEntries_of ho hd hf ?_);rw [if_neg (by simp)];refine Al (nx _ _ _ ?_);refine Al (wpAny_setField (x:=rawInt sl') hI Y (by simp) ?_);have h1:=Heap.get?_update_self (Obj.mapFields (·.setIfInBounds 0 (rawInt sl'))) hI rfl;refine Al (wpAny_setField (x:=rawInt ((i:Int) + 1)) h1 Y (by simp) ?_);exact wpAny_pure ⟨_,Y,wpAny_pure (h _ (Zjs hI) ((Heap.SameBut.update ..).trans (Heap.SameBut.update ..)))⟩
def Zer {I:Addr} {ob:Obj} {vs:Array Value} {Q:Fin->Shared->Prop} (hh:A.handled=none) (hI:s.heap.get? I=some ob) (hd:ob.data=.fields vs) (hz:2 < vs.size) (h:∀ h' e,Heap.ExtBut I s.heap h'->(∃ o,h'.get? e=some o/\o.cls=.type "StopIteration")->E (.ref e) { s with heap:=h' }) :
  wpAny (W:) A (do setField (.ref I) 2 .none; raiseNew (<- newExc (.type "StopIteration") []):Sem Fin) Q E s:=by
 refine Al (wpAny_setField hI hd hz ?_);simp only [newExc,newTuple];refine Al (Al (wpAny_newObj_type ?_ (by size_fits)));refine Al (m:=firstArgMember _ _) (wpAny_of_eq (a:=Value.none) (by first | rfl | (simp only [firstArgMember]; rfl)) ?_);refine wpAny_newObj_type ?_ (by size_fits);refine wpAny_raiseNew_none hh (h _ _ (((Heap.SameBut.update ..).extBut.push _).push _) ⟨_,Ap _ Y,Y⟩)
def Zni {I a:Addr} {o:Obj} {es:Array (dg:)} {ep:Nat} {t:SetTable} {i sl:Nat} {Q:Option Value->Shared->Prop} (hh:A.handled=none) (hI:s.heap.get? I=some (X8 (.int sl 0) i a es.size ep)) (ho:s.heap.get? a=some o) (hd:o.data=.set es ep t) (hf:t.fits es.size=true)
  (nx:∀ (B:Around) (F:Value->Shared->Prop) (R:Option (Value × Nat)->Shared->Prop),R none s->wpAny (W:) B (setNext a sl i ep) R F s)
  (h:∀ h',Heap.ExtBut I s.heap h'->Q none { s with heap:=h' }):wpAny (W:) A (pyNext (.ref I)) Q E s:=by
 have hT:s.TypeIs (.ref I) "set_iterator":=⟨_,hI,rfl⟩;unfold pyNext;refine Al (bi:);unfold Builtin.«set_iterator.__next__»;refine Al (m:=slotArgs "__next__" 0 _) (ad:);refine Al (wpAny_fieldsOf hI Y ?_);dsimp only;refine Al (wpAny_setEntries_of ho hd hf ?_);rw [if_neg (by simp)];refine Al (nx _ _ _ ?_);dsimp only;refine Zer (A:=A.in1) hh hI Y (by simp) λh' e ex j9=>?_;obtain ⟨ob,he,hc⟩:=j9;refine Al (wpAny_isInstance (T:="StopIteration") (b:=true) ⟨ob,he,hc⟩ isSubtype_stop ?_);exact wpAny_pure (h _ ex)
def Znj {I a T:Addr} {o:Obj} {es:Array (dg:)} {ep:Nat} {t:SetTable} {i p:Nat} {ob:Obj} {ps:Array Value} {c:Nat} {tk:Tok} {e:Int × Value} {Q:Option Value->Shared->Prop} (hI:s.heap.get? I=some (X8 (.ref T) i a es.size ep)) (ho:s.heap.get? a=some o) (hd:o.data=.set es ep t) (hf:t.fits es.size=true)
  (hT:s.heap.get? T=some ob) (sx:ob.data=.seq ps c) (hp:ps[i]?=some (.int p tk)) (he:es[p]?=some e)
  (h:∀ h',h'.get? I=some (X8 (.ref T) (i + 1) a es.size ep)->Heap.SameBut I s.heap h'->Q (some e.2) { s with heap:=h' }):wpAny (W:) A (pyNext (.ref I)) Q E s:=by
 have hTy:s.TypeIs (.ref I) "set_iterator":=⟨_,hI,rfl⟩;unfold pyNext;refine Al (bg:);unfold Builtin.«set_iterator.__next__»;refine Al (m:=slotArgs "__next__" 0 _) (ad:);refine Al (wpAny_fieldsOf hI Y ?_);dsimp only;refine Al (wpAny_setEntries_of ho hd hf ?_);rw [if_neg (by simp)];refine Al (wpAny_seqItems hT sx ?_);dsimp only;rw [show ((i:Int)).toNat=i from Int.toNat_natCast i,hp];dsimp only;refine Al ?_;unfold setNextDrawn;refine Al (wpAny_setState_of ho hd hf ?_);dsimp only;rw [if_neg (by simp),show ((p:Int)).toNat=p from Int.toNat_natCast p,he];refine wpAny_pure ?_;refine Al (wpAny_setField (x:=rawInt ((i:Int) + 1)) hI Y (by simp) ?_);exact wpAny_pure ⟨_,Y,wpAny_pure (h _ (Zjt hI) (Heap.SameBut.update ..))⟩
def Znk {I a T:Addr} {o:Obj} {es:Array (dg:)} {ep:Nat} {t:SetTable} {i:Nat} {ob:Obj} {ps:Array Value} {c:Nat} {Q:Option Value->Shared->Prop} (hh:A.handled=none) (hI:s.heap.get? I=some (X8 (.ref T) i a es.size ep)) (ho:s.heap.get? a=some o) (hd:o.data=.set es ep t) (hf:t.fits es.size=true)
  (hT:s.heap.get? T=some ob) (sx:ob.data=.seq ps c) (hp:ps[i]?=none)
  (h:∀ h',Heap.ExtBut I s.heap h'->Q none { s with heap:=h' }):wpAny (W:) A (pyNext (.ref I)) Q E s:=by
 have hTy:s.TypeIs (.ref I) "set_iterator":=⟨_,hI,rfl⟩;unfold pyNext;refine Al (bg:);unfold Builtin.«set_iterator.__next__»;refine Al (m:=slotArgs "__next__" 0 _) (ad:);refine Al (wpAny_fieldsOf hI Y ?_);dsimp only;refine Al (wpAny_setEntries_of ho hd hf ?_);rw [if_neg (by simp)];refine Al (wpAny_seqItems hT sx ?_);dsimp only;rw [show ((i:Int)).toNat=i from Int.toNat_natCast i,hp];dsimp only;refine Al (wpAny_setField (x:=rawInt 0) hI Y (by simp) ?_);have h1:=Heap.get?_update_self (Obj.mapFields (·.setIfInBounds 0 (rawInt 0))) hI rfl;refine Zer (s:={ s with heap:=s.heap.update I (Obj.mapFields (·.setIfInBounds 0 (rawInt 0))) }) (A:=A.in1) hh h1 Y (by simp) λh' e ex j9=>?_;obtain ⟨ob,he,hc⟩:=j9;refine Al (wpAny_isInstance (T:="StopIteration") (b:=true) ⟨ob,he,hc⟩ isSubtype_stop ?_);exact wpAny_pure (h _ λb u hb hu=>ex b u hb ((dy:).trans hu))
def Zes {I a:Addr} {f:Value} {i n ep:Nat} {Q:Value->Shared->Prop} (hI:s.heap.get? I=some (X8 f i a n ep)) (h:Q (.ref I) s):wpAny (W:) A (pyIter (.ref I)) Q E s:=by
 have hT:s.TypeIs (.ref I) "set_iterator":=⟨_,hI,rfl⟩;refine wpAny_pyIter_slot hT PySem.F.sti_iter (wpAny_call_entry PySem.F.sti_iter hT PySem.F.sti_iter_entry ?_ (PySem.F.sti_iter_args _));exact wpAny_pure ⟨_,Y,"set_iterator",_,hT,PySem.F.sti_next.lookup,h⟩
def Zma {a:Addr} {o:Obj} {es:Array (dg:)} {ep:Nat} {t:SetTable} {i sl:Nat} {R:Option (Value × Nat)->Shared->Prop} (ho:s.heap.get? a=some o) (hd:o.data=.set es ep t) (hf:t.fits es.size=true) (hb:w.params.followText "set-order"=true)
  (h:R (((pickOrder (w.params.setOrder a ep) es)[i]?).map λe=>(e.2,sl)) s):wpAny (W:) A (setNext a sl i ep) R E s:=by
 unfold setNext setsByText;refine Al (wpAny_setState_of ho hd hf ?_);dsimp only;refine Al (Al (wpAny_askSetting (ad:)));show wpAny _ _ (ed:) _ _ _;rw [if_pos hb,if_neg (by simp)];unfold setWalk setsByText;refine Al (Al (wpAny_setState_of ho hd hf ?_));dsimp only;refine Al (Al (wpAny_askSetting (ad:)));show wpAny _ _ (ed:) _ _ _;rw [if_pos hb];exact Al (wpAny_askSetting (wpAny_pure (wpAny_pure h)))
def Zka {a:Addr} {o:Obj} {es:Array (dg:)} {ep:Nat} {t:SetTable} {i sl:Nat} {R:Option (Value × Nat)->Shared->Prop} (ho:s.heap.get? a=some o) (hd:o.data=.set es ep t) (hf:t.fits es.size=true) (hb:w.params.followText "set-order"=false) (hl:t.led=true) (hp:(dl:)=false)
  (h:R (match es[SetTable.below t.place sl]?,t.place[SetTable.below t.place sl]? with | some (_,x),some j=>some (x,j + 1) | _,_=>none) s):wpAny (W:) A (setNext a sl i ep) R E s:=by
 unfold setNext setsByText;refine Al (wpAny_setState_of ho hd hf ?_);dsimp only;refine Al (Al (wpAny_askSetting (ad:)));show wpAny _ _ (ed:) _ _ _;rw [if_neg (by rw [hb]; decide)];show wpAny _ _ (if (dl:)=true then _ else _) _ _ _;rw [if_neg (by rw [hp]; decide)];refine Al ?_;show wpAny _ _ (if (!t.led && !es.isEmpty)=true then _ else _) _ _ _;rw [if_neg (by rw [hl]; simp)];exact wpAny_pure (wpAny_pure h)
def Ziw:∀ {vs:List Value} {ks:List Int},IntsAre vs ks->∀ (i:Nat) (v:Value),vs[i]?=some v->∃ t,v=.int (ks.getD i 0) t:=λh i v e=>PyProof.Rows.IntsAre.int_at h i v e
def Zcp (hh:A.handled=none) {I a:Addr} (kq:a≠I) {o:Obj} {es:Array (dg:)} {ep:Nat} {t:SetTable} {out:List Int} {sl:Nat->Nat} {xs:List Value} (hd:o.data=.set es ep t) (hf:t.fits es.size=true) (hx:IntsAre xs out) (hl:xs.length=es.size)
  (nx:∀ (i:Nat) (s:Shared) (B:Around) (F:Value->Shared->Prop) (R:Option (Value × Nat)->Shared->Prop),s.heap.get? a=some o->i<=es.size->R ((xs[i]?).map λx=>(x,sl (i + 1))) s->wpAny (W:) B (setNext a (sl i) i ep) R F s) :
  Walks P w A I [I,a] [I] out.length (cr:) (λi h=>h.get? I=some (X8 (.int (sl i) 0) i a es.size ep)/\h.get? a=some o):=by
 have hlo:out.length=es.size:=by rw [<- hl]; exact hx.length.symm
 refine ⟨λb hb=>by simp at hb; simp [hb],λi h h' st k=>⟨k I (by simp) _ st.1,k a (by simp) _ st.2⟩,λi s Q E hi st hQ=>?_,λs Q E st hQ=>?_,λi s Q E st hQ=>Zes st.1 hQ⟩
 ·have yh:i < xs.length:=by lia
  have ex:=Ac yh;refine Znh (x:=xs[i]) (sl':=sl (i + 1)) st.1 st.2 hd hf (λB F R r=>nx i s B F R st.2 (by lia) (by rw [ex]; exact r)) λh' e sb=>?_;exact hQ _ h' s.toks (Ziw hx i _ ex) ⟨e,(sb.2 a kq).trans st.2⟩ λb u hb hu=>(sb.2 b (λz=>hb (by simp [z]))).trans hu
 ·rw [hlo] at st
  refine Zni hh st.1 st.2 hd hf (λB F R r=>nx es.size s B F R st.2 (An _) (by rw [Ay (by lia)]; exact r)) λh' ex=>?_;exact hQ h' s.toks λb u hb hu=>ex b u (λz=>hb (by simp [z])) hu
def Zg8 (hh:A.handled=none) {I a T:Addr} (kq:a≠I) (hTI:T≠I) {o ob:Obj} {es:Array (dg:)} {ep c:Nat} {t:SetTable} {out:List Int} {xs:List Value} {ps:List Nat} (hd:o.data=.set es ep t) (hf:t.fits es.size=true) (hx:IntsAre xs out) (sx:ob.data=.seq (ps.map λ(p:Nat)=>rawInt p).toArray c)
  (hp:∀ (i p:Nat),ps[i]?=some p->∃ e,es[p]?=some e/\xs[i]?=some e.2) (hl:xs.length=ps.length) :
  Walks P w A I [I,a,T] [I] out.length (cr:) (λi h=>h.get? I=some (X8 (.ref T) i a es.size ep)/\h.get? a=some o/\h.get? T=some ob):=by
 have hlo:out.length=ps.length:=by rw [<- hl]; exact hx.length.symm
 refine ⟨λb hb=>by simp at hb; simp [hb],λi h h' st k=>⟨k I (by simp) _ st.1,k a (by simp) _ st.2.1,k T (by simp) _ st.2.2⟩,λi s Q E hi st hQ=>?_,λs Q E st hQ=>?_,λi s Q E st hQ=>Zes st.1 hQ⟩
 ·have ep':=Ac (show i < ps.length by lia)
  obtain ⟨e,he,xp⟩:=hp i _ ep';refine Znj (p:=ps[i]) (tk:=0) (e:=e) st.1 st.2.1 hd hf st.2.2 sx (by rw [getElem?_toArray,Ah,ep']; rfl) he λh' eI sb=>?_;exact hQ _ h' s.toks (Ziw hx i _ xp) ⟨eI,(sb.2 a kq).trans st.2.1,(sb.2 T hTI).trans st.2.2⟩ λb u hb hu=>(sb.2 b (λz=>hb (by simp [z]))).trans hu
 ·refine Znk hh st.1 st.2.1 hd hf st.2.2 sx (by rw [getElem?_toArray,Ah,Ay (by lia)]; rfl) λh' ex=>?_
  exact hQ h' s.toks λb u hb hu=>ex b u (λz=>hb (by simp [z])) hu
def Zoq (hh:A.handled=none) {a:Addr} {ks:List Int} {Q:Value->Shared->Prop} (hS:WSet P w s.heap a ks)
  (h:∀ (I:Addr) (h1:Heap) (d1:Drawn) (fp:List Addr) (out:List Int) (St:Nat->Heap->Prop),out.Perm ks->(∀ b o,s.heap.get? b=some o->h1.get? b=some o)->s.heap.objs.size<=I->(∀ b∈fp,b=a\/s.heap.objs.size<=b) ->
   Walks P w A I fp [I] out.length (cr:) St->St 0 h1->Q (.ref I) { s with heap:=h1,drawn:=d1 }) :
  wpAny (W:) A (pyIter (.ref a)) Q E s:=by
 obtain ⟨o,es,ep,t,ns,ho,ex,hd,el,hI,pm,lt,ft,rs,ld⟩:=hS;have hT:s.TypeIs (.ref a) "set":=⟨o,ho,ex.1⟩;have la:a < s.heap.objs.size:=Ao ho;have kq:a≠s.heap.objs.size:=As la;have hsz:es.toList.map (·.2)=(es.map (·.2)).toList:=by simp
 have z9:t.place.size=es.size:=by
  simp only [SetTable.fits,Bool.and_eq_true,beq_iff_eq] at ft;exact ft.1
 refine wpAny_pyIter_slot hT PySem.F.slot_set_iter (wpAny_call_entry PySem.F.slot_set_iter hT PySem.F.st_iter_entry ?_ (PySem.F.args_set_iter_1 _));unfold Builtin.«frozenset.__iter__» Builtin.Frozenset.slot0 Builtin.Frozenset.sizeOf;refine Al (Al (m:=slotArgs "__iter__" 0 _) (wpAny_pure (ad:)));refine Al (Al (wpAny_setEntries_of ho hd ft (ad:)));unfold setDrawn setsByText;refine Al (Al (wpAny_setState_of ho hd ft ?_));dsimp only;refine Al (Al (wpAny_askSetting (wpAny_pure (ad:))))
 have uw:(!w.params.followText "set-order" && (dl:))=false->wpAny (W:) A.in1 (do
   let first <- pure (rawInt 0)
   ret (<- newFields "set_iterator" [first,rawInt 0,.ref a,rawInt es.size,rawInt (<- setEpoch a)])) (λkm s'=>∃ r,km=.done (.ret r)/\∃ T',∃ r',s'.TypeIs r T'/\typeLookup (.type T') "__next__"=pure (some r')/\Q r s') E s:=by
  intro nd;refine Al (wpAny_pure (Al (wpAny_setEpoch_of ho hd ft ?_)));unfold newFields;refine Al (d7:);have e0:(s.heap.push { cls:=.type "set_iterator",data:=.fields [rawInt 0,rawInt 0,.ref a,rawInt es.size,rawInt ep].toArray }).get? s.heap.objs.size=some (X8 (.int 0 0) 0 a es.size ep):=Ap _ rfl
  cases c:w.params.followText "set-order" with
  | true =>
   obtain ⟨k2,j1,j2⟩:=V8 ((Zc9 (w.params.setOrder a ep) es).map (·.2)) hI;refine h _ _ s.drawn [s.heap.objs.size,a] k2 _ (j2.trans pm) (λb u hu=>Ak _ hu) (An _) (λb hb=>?_) (Zcp (sl:=λ_=>0) hh kq hd ft j1 ?_ λi s B F R hs hi r=>Zma hs hd ft c ?_) ⟨e0,Ak _ ho⟩
   ·rcases Ar hb with rfl | hb
    ·exact .inr (An _)
    ·exact .inl (Af hb)
   ·rw [Ab,(Zc9 (w.params.setOrder a ep) es).length_eq,Array.length_toList]
   ·rw [Ah,Array.getElem?_toList,Option.map_map] at r
    exact r
  | false =>
   rw [c] at nd ld;have nd:(dl:)=false:=nd;have ld:t.led=true:=ld.resolve_left (c:);refine h _ _ s.drawn [s.heap.objs.size,a] ns _ pm (λb u hu=>Ak _ hu) (An _) (λb hb=>?_) (Zcp (sl:=λi=>if i=0 then 0 else (t.place.getD (i - 1) 0) + 1) hh kq hd ft hI (by rw [Ab,Array.length_toList]) λi s B F R hs hi r=>Zka hs hd ft c ld nd ?_) ⟨e0,Ak _ ho⟩
   ·rcases Ar hb with rfl | hb
    ·exact .inr (An _)
    ·exact .inl (Af hb)
   ·-- the place below is i
    have hb:SetTable.below t.place (if i=0 then 0 else (t.place.getD (i - 1) 0) + 1)=i\/(es.size<=SetTable.below t.place (if i=0 then 0 else (t.place.getD (i - 1) 0) + 1)/\i=es.size):=by
     generalize hj:(if i=0 then 0 else (t.place.getD (i - 1) 0) + 1)=j
     have ge:∀ k,k < i->∀ x,t.place[k]?=some x->x < j:=λk hk x hx=>by
      rw [if_neg (by lia)] at hj;have e1:=Array.getElem?_eq_getElem (show i - 1 < t.place.size by lia);have e2:t.place.getD (i - 1) 0=t.place[i - 1]'(by lia):=by rw [Array.getD_eq_getD_getElem?,e1]; rfl
      rw [e2] at hj;by_cases z:k=i - 1
      ·subst z; rw [e1] at hx; cases hx; lia
      ·have:=Uo rs hx e1 (by lia); lia
     have lt':i<=SetTable.below t.place j:=by
      rcases Nat.lt_or_ge (SetTable.below t.place j) i with z | z
      ·have e1:=Array.getElem?_eq_getElem (show SetTable.below t.place j < t.place.size by lia)
       have h1:=ge _ z _ e1;have h2:=Zal (j:=j) rs _ _ (An _) e1;lia
      ·exact z
     by_cases q:i < es.size
     ·left
      rcases Nat.lt_or_ge i (SetTable.below t.place j) with z | z
      ·have e1:=Array.getElem?_eq_getElem (show i < t.place.size by lia)
       have h1:=Zg3 (j:=j) rs i _ z e1;by_cases i0:i=0
       ·rw [if_pos i0] at hj; lia
       ·rw [if_neg i0] at hj
        have e3:=Array.getElem?_eq_getElem (show i - 1 < t.place.size by lia);have e2:t.place.getD (i - 1) 0=t.place[i - 1]'(by lia):=by rw [Array.getD_eq_getD_getElem?,e3]; rfl
        rw [e2] at hj;have:=Uo rs e3 e1 (by lia);lia
      ·lia
     ·exact .inr ⟨by lia,by lia⟩
    rcases hb with hb | ⟨hb,rfl⟩
    ·rw [hb]
     rcases Nat.lt_or_ge i es.size with z | z
     ·have e1:=Array.getElem?_eq_getElem (show i < t.place.size by lia)
      have e2:t.place.getD (i + 1 - 1) 0=t.place[i]'(by lia):=by rw [Array.getD_eq_getD_getElem?,Nat.add_sub_cancel,e1]; rfl
      rw [Ah,Array.getElem?_toList,Array.getElem?_eq_getElem z,if_neg (by lia),e2] at r;rw [Array.getElem?_eq_getElem z,e1];exact r
     ·rw [Ah,Array.getElem?_toList,Array.getElem?_eq_none z] at r
      rw [Array.getElem?_eq_none z];exact r
    ·rw [Ah,Array.getElem?_toList,Array.getElem?_eq_none (An _)] at r
     rw [Array.getElem?_eq_none hb];exact r
 show wpAny _ _ (if (!w.params.followText "set-order" && (dl:))=true then _ else _) _ _ _;split
 ·-- drawn
  refine Al (Zdn _ _ _ _ (Nat.le_of_eq length_range) λr d' pr=>?_);refine Al (wpAny_newTuple ?_ (by rw [Ab,pr.length_eq,length_range]; exact fits_of_scanBound lt));refine Al (wpAny_setEpoch_of (s:={ s with heap:=_,drawn:=d' }) (Ak _ ho) hd ft ?_);unfold newFields;refine Al (d7:);have vk:=Heap.size_push s.heap { cls:=.type "tuple",data:=.seq (r.map λ(i:Nat)=>rawInt i).toArray };obtain ⟨k2,j1,j2⟩:∃ k2,IntsAre (r.filterMap λp=>(es[p]?).map (·.2)) k2/\k2.Perm ns:=by
   refine V8 ?_ hI
   have e1:(List.range es.size).filterMap (λp=>(es[p]?).map (·.2))=es.toList.map (·.2):=by
    have:=filterMap_getElem?_range (es.map (·.2))
    rw [Array.size_map] at this
    rw [Array.toList_map] at this
    rw [<- this]
    congr 1
    funext p
    rw [Array.getElem?_map]
   rw [<- e1]
   exact pr.filterMap _
  have um:∀ p∈r,p < es.size:=λp hp=>mem_range.mp (pr.mem_iff.mp hp)
  have tq:∀ (l:List Nat),(∀ p∈l,p < es.size)->(l.filterMap λp=>(es[p]?).map (·.2)).length=l.length/\∀ (i p:Nat),l[i]?=some p->∃ e,es[p]?=some e/\(l.filterMap λp=>(es[p]?).map (·.2))[i]?=some e.2:=λl=>by
   induction l with
   | nil=>intro _; exact ⟨Y,λi p e=>by simp at e⟩
   | cons q l ih =>
    intro hq;have wu:=Array.getElem?_eq_getElem (hq q mem_cons_self);obtain ⟨i1,i2⟩:=ih λp hp=>hq p (mem_cons_of_mem _ hp);rw [filterMap_cons_some (b:=(es[q]'(hq q mem_cons_self)).2) (by rw [wu]; rfl)];refine ⟨by rw [length_cons,length_cons,i1],λi p e=>?_⟩
    cases i with
    | zero=>cases e; exact ⟨_,wu,Y⟩
    | succ i=>exact i2 i p e
  obtain ⟨f1,f2⟩:=tq r um;refine h _ _ d' [_,a,s.heap.objs.size] k2 _ (j2.trans pm) (λb u hu=>Ak _ (Ak _ hu)) (by rw [vk]; exact le_succ _) (λb hb=>?_) (Zg8 (T:=s.heap.objs.size) hh ?_ ?_ hd ft j1 (ob:={ cls:=.type "tuple",data:=.seq (r.map λ(i:Nat)=>rawInt i).toArray }) rfl f2 f1) ⟨Ap _ rfl,Ak _ (Ak _ ho),Ak _ (Ap _ rfl)⟩
  ·rcases Ar hb with rfl | hb
   ·rw [vk]; exact .inr (le_succ _)
   ·rcases Ar hb with rfl | hb
    ·exact .inl Y
    ·rw [Af hb]; exact .inr (An _)
  ·rw [vk]; exact As (lt_succ_of_lt la)
  ·rw [vk]; exact As (lt_succ_self _)
 ·rename_i c
  exact uw (by simpa using c)
end
noncomputable def dd (ks:List Int):List Int:=ks.foldl step_dedup []
theorem Zcn:∀ (ks j8:List Int),j8.Nodup->(ks.foldl step_dedup j8).Nodup/\(∀ x,x∈ks.foldl step_dedup j8 ↔ x∈j8\/x∈ks)/\(ks.foldl step_dedup j8).length<=j8.length + ks.length
 | [],j8,h=>⟨h,λx=>by simp,by simp⟩
 | k :: ks,j8,h=>by
  have hs:(step_dedup j8 k).Nodup/\(∀ x,x∈step_dedup j8 k ↔ x∈j8\/x=k)/\(step_dedup j8 k).length<=j8.length + 1:=by
   unfold step_dedup;by_cases c:j8.any (· == k)=true
   ·rw [if_pos c]
    obtain ⟨y,hy,e⟩:=any_eq_true.mp c;have e:=beq_iff_eq.mp e;subst e;exact ⟨h,λx=>⟨.inl,λz=>z.elim id λe=>e ▸ hy⟩,by lia⟩
   ·rw [if_neg c]
    have hk:k ∉ j8:=λz=>c (any_eq_true.mpr ⟨k,z,beq_self_eq_true _⟩);refine ⟨?_,λx=>by simp,by simp⟩;rw [nodup_append];refine ⟨h,by simp,λa ha b hb e=>?_⟩;rw [mem_singleton] at hb;subst hb e;exact hk ha
  obtain ⟨i1,i2,i3⟩:=Zcn ks _ hs.1;rw [foldl_cons];refine ⟨i1,λx=>?_,?_⟩
  ·rw [i2,hs.2.1,mem_cons,or_assoc]
  ·have:=hs.2.2
   rw [length_cons];lia
def Zo2 (ks:List Int):(dd ks).Nodup:=(Zcn ks [] nodup_nil).1
def Zsz {ks:List Int} {x:Int}:x∈dd ks ↔ x∈ks:=by
 have:=(Zcn ks [] nodup_nil).2.1 x;unfold dd;simpa using this
def Zoz (ks:List Int):firstMet (λi=>ks.getD i 0) ks.length=dd ks:=by
 unfold firstMet dd;congr 1;apply ext_getElem?;intro i;rw [Ah];by_cases h:i < ks.length
 ·rw [getElem?_range h,Ac h]
  show some (ks.getD i 0)=some ks[i];rw [Ad,Ac h];rfl
 ·rw [Ay (by rw [length_range]; lia),Ay (by lia)]
  rfl
section
variable {X:Cx}
def Inv.draw {j4:List (p:)} {σ:List (Option V)} {H:Hp} {s:Shared} {d:Drawn} (I:Inv X j4 σ H s):Inv X j4 σ H { s with drawn:=d }:=⟨I.ok,I.os,I.bare,I.base,I.loc,I.cell,I.free,I.freeC,I.pin,I.hok,I.len⟩
noncomputable def setH (P:Program) (w:World) (a:Addr) (ks:List Int):HO:=.ext λh=>WSet P w h a ks
def Zrz {H:Hp} {h:Heap} {a:Addr} {ks:List Int} (ws:WSet X.prog X.w h a ks):Yl X.prog X.w H h a (setH X.prog X.w a ks):=by
 refine ⟨ws,?_,λh1 h2 w1 k=>w1.kept k⟩;obtain ⟨o,_,_,_,_,ho,_⟩:=ws;exact ⟨o,ho⟩
def Zm6 (hc:X.calm=true):Y2 X (.type "set") (λxs H Q=>∃ (p:Addr) (ks:List Int),xs=[.ref p]/\SqL X.K H p (ks.map V.int)/\ks.length < 64/\∀ q:Addr,H q=none->Q (.ref q) (upd H q (setH X.prog X.w q (dd ks)))):=by
 intro j4 s σ H xs us Q I r h;obtain ⟨p,ks,rfl,hp,k9,q⟩:=h;obtain ⟨u,rfl,ru⟩:=Xg r;obtain rfl:u=Value.ref p:=ru;obtain ⟨its,rv,pl,_⟩:=I.list hp;have hI:IntsAre its ks:=by simpa using Qa rv
 have hl:its.length=ks.length:=hI.length;refine Zhi (its:=its.toArray) (ns:=ks) (ce:) pl.isList (by simpa using hI) (by rw [Aq,hl]; unfold scanBound; lia) λh' tk ws kp=>?_;rw [show its.toArray.size=ks.length by rw [Aq]; exact hl,Zoz] at ws;exact ⟨.ref s.heap.objs.size,_,I.laid (t':=tk) kp (An _) (Zrz ws),Y,q _ (I.hok.fresh (An _))⟩
variable {P:Program} {w:World} {A:Around} {E:Value->Shared->Prop} {s:Shared}
def Zos {r:Addr} {Q:Bool->Shared->Prop} (hT:s.TypeIs (.ref r) "set") (h:Q false s):wpAny (W:) A (Builtin.List.listLengthHint (.ref r)) Q E s:=by
 unfold Builtin.List.listLengthHint;refine Al (wpAny_specialOf hT PySem.F.slot_set_len.lookup ?_);generalize hid:("set.__len__":String)=id0
 wp_delta
 rw [show splitId id0=some ("set","__len__") from by subst hid; decide +kernel];subst hid;refine Al (wpAny_isInstance (T:="set") (b:=true) hT (by rw [isSubtype_type]; kernel_rfl) (wpAny_ite_split (λz=>absurd z (c:)) λ_=>wpAny_ite_split (λ_=>?_) λz=>absurd (h:) z));exact Al (wpAny_typeOf hT (wpAny_pure h))
def Zh2 {a:Addr} {ks:List Int} {R:List Value->Shared->Prop} (hh:A.handled=none) (hS:WSet P w s.heap a ks) (hn:ks.length<=sizeLine)
  (h:∀ (h':Heap) (d':Drawn) (tk:Nat) (vs:List Value) (out:List Int),(ar:)->IntsAre vs out->out.Perm ks->R vs { s with heap:=h',drawn:=d',toks:=tk }) :
  wpAny (W:) A (collect (.ref a)) R E s:=by
 have la:=hS.lt;unfold collect;refine Al (wpAny_runValue (codeAny_builtin entry_proto_collect' ?_));rw [Around.under_plainId PySem.F.plain_proto_collect _];show wpAny _ A.in1 (newList [] >>= λl=>again (.builtin "list.__iadd__" ⟨[l,.ref a],[]⟩)) _ _ s;refine Al (wpAny_newObj_type (wpAny_pure ⟨plainId_quiet PySem.F.plain_list_iadd _,codeAny_builtin entry_list_iadd' ?_⟩));rw [Around.under_plainId PySem.F.plain_list_iadd _];have e0:(a0:).get? s.heap.objs.size=some { cls:=.type "list",data:=.seq #[] }:=Ap _ rfl;have ws1:WSet P w (a0:) a ks:=hS.kept λo e=>Ak _ e;have hT:Shared.TypeIs { s with heap:=s.heap.push { cls:=.type "list",data:=.seq ([]:List Value).toArray } } (.ref a) "set":=by obtain ⟨o,_,_,_,_,ho,ex,_⟩:=ws1; exact ⟨o,ho,ex.1⟩
 have hz:=Heap.size_push s.heap { cls:=.type "list",data:=.seq ([]:List Value).toArray };show wpAny _ A.in1 (Builtin.List.listExtendWith (x:) (.ref a) (x:)) _ _ _;unfold Builtin.List.listExtendWith;refine Al (wpAny_typeOf hT ?_);have n1:Builtin.List.listSameRef (x:) (.ref a)=false:=by
  show (s.heap.objs.size == a)=false
  exact beq_eq_false_iff_ne.mpr (Nat.ne_of_gt la)
 simp only [n1,show (Value.type "set" == Value.type "list")=false by decide,show (Value.type "set" == Value.type "tuple")=false by decide,Bool.or_false,Bool.false_eq_true,if_false];refine Al (Zoq (A:=A.in1) hh ws1 λI h1 d1 fp out St pm kp hI hfp W st=>?_);have eS:=kp _ _ e0;have hSf:s.heap.objs.size ∉ fp:=λz=>by
  rcases hfp _ z with q | q
  ·exact Nat.ne_of_gt la q
  ·rw [hz] at q; exact absurd q (not_succ_le_self _)
 have hSI:s.heap.objs.size≠I:=λz=>by rw [hz,<- z] at hI; exact absurd hI (not_succ_le_self _)
 have tail:∀ (h2:Heap) (c tk:Nat),St 0 h2->(∀ b o,b≠s.heap.objs.size->h1.get? b=some o->h2.get? b=some o)->h2.get? s.heap.objs.size=some { cls:=.type "list",data:=.seq #[] c } ->
   codeAny (W:) A (.builtin "list.extend.loop" ⟨[.ref s.heap.objs.size,.ref I,.ref s.heap.objs.size],[]⟩) (λq s'=>∃ (h':Heap) (tk:Nat) (j8:Array Value) (c':Nat),q=.ok (.ret (x:))/\s'={ s with heap:=h',drawn:=d1,toks:=tk }/\(ar:) /\
    h'.get? s.heap.objs.size=some { cls:=.type "list",dict:=none,data:=.seq j8 c',slots:=#[] }/\ItemsOf (cr:) j8 out.length) { s with heap:=h2,drawn:=d1,toks:=tk }:=by
  intro h2 c tk mf k2 e2;refine codeAny_extend_loopS W.toS (by rw [pm.length_eq]; exact hn) _ hSf _ out.length 0 _ #[] c Y (Az _) mf e2 (ItemsOf.nil _) λs' j8 c' hm e3 it=>?_;refine ⟨s'.heap,s'.toks,j8,c',Y,?_,λb o e=>?_,e3,it⟩
  ·have e1:s'.gens=s.gens:=hm.gens
   have e2:s'.drawn=d1:=hm.drawn;have e3:s'.os=s.os:=hm.os;rw [<- e1,<- e2,<- e3]
  ·have lb:=Ao e
   refine hm.heap b o ?_ (k2 b o (As lb) (kp _ _ (Ak _ e)));simp only [mem_cons,not_mem_nil,or_false,not_or];refine ⟨As lb,λz=>?_⟩;rw [hz,<- z] at hI;exact absurd (Ag (lt_succ_of_lt lb) hI) (b9:)
 refine Al (wpAny_holding (Zos (by obtain ⟨o,ho,hc⟩:=hT; exact ⟨o,kp _ _ ho,hc⟩) ?_))
 have km:∀ (q:Result) (s':Shared),(∃ (h':Heap) (tk:Nat) (j8:Array Value) (c':Nat),q=.ok (.ret (x:))/\s'={ s with heap:=h',drawn:=d1,toks:=tk }/\(ar:) /\
    h'.get? s.heap.objs.size=some { cls:=.type "list",dict:=none,data:=.seq j8 c',slots:=#[] }/\ItemsOf (cr:) j8 out.length)->(match q with | .ok (.ret v)=>wpAny (W:) A (match v with | .ref a=>(do match (<- load a).data with | .seq xs _=>pure xs.toList | _=>unsupported "internal:collect") | _=>unsupported "internal:collect") R E s' | .ok _=>False | .error e=>E e s'):=by
  rintro q s' ⟨h',tk,j8,c',rfl,rfl,kp',e3,it⟩;show wpAny _ A (load s.heap.objs.size >>= _) _ _ _;refine Al (wpAny_load e3 (wpAny_pure (h h' d1 tk j8.toList out kp' ?_ pm)))
  have gen:∀ (us:List Value) (os:List Int),us.length=os.length->(∀ (j:Nat) (v:Value),us[j]?=some v->∃ t,v=Value.int (os.getD j 0) t)->IntsAre us os:=by
   intro us
   induction us with
   | nil =>
    intro os hl _
    cases os with
    | nil=>exact .nil
    | cons _ _=>simp at hl
   | cons u r ih =>
    intro os hl hv
    cases os with
    | nil=>simp at hl
    | cons k ks =>
     obtain ⟨t,e⟩:=hv 0 u rfl;have e:u=Value.int k t:=e;subst e;exact .cons k t (ih ks (by simpa using hl) λj v hj=>hv (j + 1) v hj)
  exact gen _ _ (by rw [Array.length_toList]; exact it.1) λj v hj=>it.2 j v (by rw [<- Array.getElem?_toList]; exact hj)
 refine wpAny_ite_split (λ_=>?_) (λz=>absurd (h:) z);refine Al (wpAny_rule (Al ?_));show wpAny _ _ (updateSeq s.heap.objs.size (·.push .none) >>= λ_=>updateSeq s.heap.objs.size (·.pop)) _ _ _;refine Al (wpAny_updateSeq eS Y ?_);have e2:=Heap.get?_update_self (Obj.mapSeq (·.push Value.none)) eS rfl;refine wpAny_updateSeq (hz:=by seq_fits) e2 Y ?_;have e3:=Heap.get?_update_self (Obj.mapSeq (·.pop)) e2 rfl;have ot:∀ b o,b≠s.heap.objs.size->h1.get? b=some o->((h1.update s.heap.objs.size (Obj.mapSeq (·.push Value.none))).update s.heap.objs.size (Obj.mapSeq (·.pop))).get? b=some o:=λb o hb e =>
  (dy:).trans ((dy:).trans e)
 refine wpAny_pure ⟨plainId_quiet PySem.F.plain_extend_loop _,codeAny_mono (tail _ _ _ (W.frame 0 _ _ st λb hb o e=>ot b o (λz=>hSf (z ▸ hb)) e) ot e3) λq s' y=>?_⟩;exact km q s' y
end
def Zoh:typeLookup (.type "list_reverseiterator") "__len__"=pure none:=by
 rw [typeLookup_type];rw [builtinLookup_eq_fast]
 kernel_rfl
def Zqw:typeLookup (.type "list_reverseiterator") "__length_hint__"=pure (some (.builtin "list_reverseiterator.__length_hint__")):=by
 rw [typeLookup_type];rw [builtinLookup_eq_fast]
 kernel_rfl
section
variable {prog:Program} {w:World} {A:Around} {E:Value->Shared->Prop} {s:Shared}
def Zkk {I:Addr} {fp wr:List Addr} {G:Array GenState->Array GenState->Prop} {n:Nat} {P:Nat->Value->Prop} {St:Nat->Shared->Prop} {Q:List Value->Shared->Prop}
  (W:WalksS prog w A.in1 I fp wr G n P St) (hT:∀ i z,St i z->z.TypeIs (.ref I) "list_reverseiterator") (h0:St 0 s) (kn:∀ b∈fp,b < s.heap.objs.size) (hI:I∈fp)
  (q:∀ z j8,Moved wr G s z->ItemsOf P j8 n->Q j8.toList z) (hn:n<=sizeLine):wpAny (Y:) A (collect (.ref I)) Q E s:=by
 have nf:s.heap.objs.size ∉ fp:=λz=>absurd (kn _ z) (b9:);have ni:s.heap.objs.size≠I:=λz=>nf (by rw [z]; exact hI);unfold collect;refine Al ?_;refine wpAny_runValue ?_;refine codeAny_builtin F.entry_proto_collect ?_;rw [Around.under_plainId F.plain_proto_collect _];refine Al (m:=newList []) ?_;refine wpAny_newObj_type ?_;refine wpAny_pure ?_;refine ⟨plainId_quiet F.plain_list_iadd _,?_⟩;refine codeAny_builtin F.entry_list_iadd ?_;rw [Around.under_plainId F.plain_list_iadd _];have k:∀ b o,s.heap.get? b=some o->(a0:).get? b=some o:=λb o e=>Ak _ e;have h1:=W.frame 0 s _ s.toks h0 (An _) λb _ o e=>k b o e;have hS:(a0:).get? s.heap.objs.size=some { cls:=.type "list",data:=.seq ([]:List Value).toArray }:=Ap _ rfl;have ns:Builtin.List.listSameRef (x:) (.ref I)=false:=by
  unfold Builtin.List.listSameRef
  simp [ni]
 show wpAny _ A.in1 (Builtin.List.listExtendWith (x:) (.ref I) (x:)) _ _ _;unfold Builtin.List.listExtendWith;refine Al ?_;refine wpAny_typeOf (hT 0 _ h1) ?_;rw [if_neg (by rw [ns]; decide)];refine Al ?_;refine W.self 0 _ _ _ h1 ?_;refine Al ?_;refine wpAny_holding ?_;unfold Builtin.List.listLengthHint;refine Al ?_;refine wpAny_specialOf (hT 0 _ h1) Zoh ?_;refine Al (m:=specialOf (.ref I) (Str.ofString "__length_hint__")) ?_;refine wpAny_specialOf (hT 0 _ h1) Zqw ?_;generalize hid:("list_reverseiterator.__length_hint__":String)=nmId
 (fail_if_success (clear hid nmId))
 wp_delta
 rw [show splitId nmId=some ("list_reverseiterator","__length_hint__") by rw [<- hid]; decide +kernel];subst hid;refine Al ?_;refine wpAny_isInstance (b:=true) (hT 0 _ h1) (by rw [isSubtype_type]; kernel_rfl) ?_;refine wpAny_pure ?_;rw [if_neg (c:)];refine wpAny_pure ?_;refine ⟨plainId_quiet F.plain_extend_loop _,?_⟩;refine codeAny_extend_loopS W hn _ nf _ n 0 _ _ _ Y (Az _) h1 hS (ItemsOf.nil P) λz j8 c hm hz ha=>?_;show wpAny _ A (load s.heap.objs.size >>= _) _ _ z;refine Al ?_;refine wpAny_load hz ?_;refine wpAny_pure ?_;exact q z j8 (Moved.drop_new (o:={ cls:=.type "list",data:=.seq ([]:List Value).toArray }) (tk:=s.toks) hm (An _)) ha
def Zqs {I l:Addr} {its:List Value} {ys:List Str} {x:Str} {t:Tok} {Q:Value->Shared->Prop} (hh:A.handled=none) (kq:l≠I) (ox:s.heap.IsRevIter I l ((its.length:Int) - 1)) (hl:s.heap.IsList l its.toArray)
  (hi:StrsAre its ys) (hsep:x.length<=16) (hw:(ys.map (·.length)).sum + ys.length<=1048576)
  (q:∀ h' t' k,(∀ b o,b≠I->s.heap.get? b=some o->h'.get? b=some o)->Q (.str (Txt.join x ys.reverse) t') { s with heap:=h',toks:=k }):wpAny (Y:) A (call (.builtin "str.join") [.str x t,.ref I]) Q E s:=by
 have W:=(Walks.listRev (prog:=prog) (w:=w) (A:=A.in1.in1) hh I l kq its.toArray).toS;have hT:∀ i (z:Shared),(i<=its.toArray.size/\z.heap.IsRevIter I l ((c9:) - 1 - (i:Int))/\z.heap.IsList l its.toArray)->z.TypeIs (.ref I) "list_reverseiterator":=λi z h=>h.2.1.typeIs;have h0:0<=its.toArray.size/\s.heap.IsRevIter I l ((c9:) - 1 - (ca:))/\s.heap.IsList l its.toArray:=⟨Az _,by simpa using ox,hl⟩;have hly:its.length=ys.length:=hi.length;refine wpAny_call ?_;refine codeAny_call_builtin F.slot_str_join.plain F.entry_str_join ?_;refine F.slot_str_join.check _ _ _ _ _ _ _ _ (typeIs_str _ _ _) (F.args_str_join_2 _ _) ?_;rw [join_tree_other];refine Al ?_;refine wpAny_typeOf (hT 0 s h0) ?_;show wpAny _ A.in1 ((pyIter (.ref I)).tryCatch _ >>= λit=>collect it >>= λzs=>joinTail x zs) _ _ s;refine Al ?_;refine wpAny_tryCatch ?_;refine W.of_in1.self 0 s _ _ h0 ?_;refine Al ?_;have kn:∀ b∈[I,l],b < s.heap.objs.size:=λb hb=>by
  rcases Ar hb with z | z
  ·obtain ⟨o,e,_⟩:=ox.typeIs
   subst z
   exact Ao e
  ·rw [Af z]
   obtain ⟨o,e,_⟩:=hl
   exact Ao e
 refine Zkk W hT h0 kn mem_cons_self (λz j8 hm ha=>?_) (by rw [Aq,sizeLine_eq]; lia);have ea:j8.toList=its.reverse:=by
  refine ext_getElem? λj=>?_
  have hz:j8.size=its.length:=ha.1.trans Aq
  by_cases c:j < its.length
  ·have hj:j < j8.size:=by lia
   have h2:=ha.2 j _ (Array.getElem?_eq_getElem hj)
   rw [Array.getElem?_toList,Array.getElem?_eq_getElem hj,getElem?_reverse c,<- h2]
   simp
  ·rw [Ay (by rw [Array.length_toList]; lia),Ay (by rw [length_reverse]; lia)]
 obtain ⟨ps,z9⟩:=exists_strValues its.reverse λv hv=>hi.all v (mem_reverse.mp hv);have ey:ps.map (·.1)=ys.reverse:=by
  rw [<- hi.strs,<- map_reverse,<- z9]
  unfold strValues
  rw [map_map]
  rfl
 rw [ea,<- z9];have ok:JoinOk x (ps.map (·.1))=true:=joinOk_of_weight (by rw [ey]; simpa using hw) hsep;unfold JoinOk at ok;rw [Bool.not_eq_true'] at ok;have g:Gives (joinTail x (strValues ps)) (joinMade x ps):=by
  have g0:=gives_joinTail x ps ok
  rcases ps with _ | ⟨p,_ | ⟨p',r⟩⟩
  ·exact g0
  ·exact g0
  ·exact g0
 refine g prog w A (wants Q E) z (post_join ps ⟨joinFit_length ok,λt' k=>?_⟩);rw [ey];obtain ⟨zh,zg,zd,zt,zo⟩:=z;obtain ⟨m1,m2,m3,m4,m5⟩:=hm;have m2:zg=s.gens:=m2;have m3:zd=s.drawn:=m3;have m4:zo=s.os:=m4;subst m2 m3 m4;exact q zh t' k λb o hb e=>m1 b o (λz=>hb (Af z)) e
end
section
variable {X:Cx}
def Zng (K:W.Frag) (to:TE) (ta:TA):TE:=λσ H Q=>to σ H λx H1=>∃ nh,x=.str nh/\ta σ H1 λvs H2=>∃ a ys,vs=[.ref a]/\SqL K H2 a (List.map V.str ys)/\nh.length<=16/\(ys.map (·.length)).sum + ys.length<=1048576/\Q (.str (Txt.join nh ys.reverse)) H2
def Zj2 {o l:Expr} {to:TE} {ta:TA} {p1 kf kd rq:Pos} (hg:Gl X "reversed") (hm:X.mg "reversed"=none) (hc:X.calm=true) (ho:PE X o to) (ha:PA X [l] ta)
  (p3:attributeBase o "join" X.env (eval o X.env)=eval o X.env:=by rfl)
  (ul:((backTo kd (starEach [.Call (.Name "reversed" p1) [l] [] rq] X.env)).all (λx=>!x.1) && (bu:).all (λx=>x.1.isSome)
   && decide ([Expr.Call (.Name "reversed" p1) [l] [] rq].length + ([]:List Keyword).length + (a1:) < 30))=true:=by rfl)
  (pz:(kf.endLine == kd.line)=true:=by rfl) (hs:starEach [.Call (.Name "reversed" p1) [l] [] rq] X.env=[(false,eval (.Call (.Name "reversed" p1) [l] [] rq) X.env)]:=by rfl) (zy:starEach [l] X.env=[(false,eval l X.env)]:=by rfl) :
  PE X (.Call (.Attribute o "join" kf) [.Call (.Name "reversed" p1) [l] [] rq] [] kd) (Zng X.K to ta):=by
 intro j4 s σ H Q I h;refine wpAny_Call_method_late p3 ul pz Y (thn (ho j4 s σ H _ I h) λv s1 j9=>?_);obtain ⟨x,H1,I1,r1,q1⟩:=j9;obtain ⟨nh,rfl,q1⟩:=q1;obtain ⟨h1,h2⟩:=Zkt (T:="str") I1 r1 (by first | rfl | exact trivial);refine ⟨"str","str.join",PySem.F.plainAttrs_str,PySem.F.slot_str_join,PySem.F.type_str_join,h1,h2,?_⟩;obtain ⟨t,rfl⟩:=r1;rw [hs];refine Calls.callWith_builtin Y (Calls.evalArgs_plain ?_);refine Calls.spliced_cons ?_;refine Call_ (We I1 hg hm boot_reversed (PyProof.Rows.callWith_type1 (thn (ha rq j4 s1 σ H1 _ I1 q1) λus s2 zz45=>?_) zy Y));obtain ⟨vs,H2,I2,r2,q2⟩:=zz45;obtain ⟨a,ys,e,hq,w1,w2,q⟩:=q2;subst e;obtain ⟨u,rfl,ru⟩:=Xg r2;cases ru;obtain ⟨its,rv,pl,_⟩:=I2.list hq;refine call_reversed_list pl.isList ?_;refine Calls.spliced_nil ?_;have I3:Inv X j4 σ H2 { s2 with heap:=s2.heap.push (revObj a ((c9:) - 1)) }:=I2.kept (t':=s2.toks) λb o e=>Ak _ e;have ne:a≠s2.heap.objs.size:=λz=>by
  obtain ⟨o,e,_⟩:=pl.isList
  exact As (Ao e) z
 have hl3:(s2.heap.push (revObj a ((c9:) - 1))).IsList a its.toArray:=pl.isList.at λo e=>Ak _ e;have ox:(s2.heap.push (revObj a ((c9:) - 1))).IsRevIter s2.heap.objs.size a ((its.length:Int) - 1):=by
  rw [show ((its.length:Int) - 1)=((c9:) - 1) by simp]
  exact ⟨_,Ap _ Y,Y,Y⟩
 refine Zqs (I2.ok.hd hc) ne ox hl3 (by simpa using Zap rv) w1 w2 λh' t' k hk=>?_;refine ⟨.str _,H2,I2.kept (t':=k) λb o e=>hk b o (λz=>?_) (Ak _ e),⟨_,Y⟩,q⟩;exact As (Ao e) z
def Zsh:OpR X (compareOp .In) (λx y H Q=>∃ a b,x=.str a/\y=.str b/\Q (.bl (Txt.contains b a)) H):=by
 intro j4 s σ H x y v u Q I rx ry h;obtain ⟨a,b,rfl,rfl,q⟩:=h;obtain ⟨t,rfl⟩:=rx;obtain ⟨t',rfl⟩:=ry;exact PySem.SB.contains ⟨.bl _,H,I,Y,q⟩
def Zg2 (K:W.Frag) (h:X.K=K:=by rfl):Y2 X (.builtin "isinstance") (λxs H Q=>∃ x T t b,xs=[x,V.ty T]/\TyOf K H x t/\PySem.W.kitOne K t (.type T)=some b/\Q (V.bl b) H):=h ▸ Zh3
def jStr (te:TE) (t:TJ):TJ:=λout σ H Q=>te σ H λv H1=>∃ x:Str,v=.str x/\x.length<=sizeLine/\(out ++ x).length<=sizeLine/\t (out ++ x) σ H1 Q
def Zr9 {e:Expr} {es:List Expr} {te:TE} {t:TJ} {pos:Pos} (he:PE X e te) (h:PJ X es t):PJ X (.FormattedValue e (-1) none pos :: es) (jStr te t):=by
 intro out j4 s σ H Q I hq;refine joinParts_cons (FormattedValue_plain (thn (he j4 s σ H _ I hq) λu s1 j9=>?_));obtain ⟨v,H1,I1,r1,x,ev,hl,hz,q⟩:=j9;subst ev;obtain ⟨tk,rfl⟩:=r1;exact formatField_str (λt' k=>⟨hz,h _ j4 _ σ H1 Q (I1.tok _) q⟩) hl
def Asc (x:Str):Prop:=∀ c∈x.cps.toList,c < 128
def Asc.all {x:Str} (h:Asc x):x.cps.all (· < 128)=true:=by
 rw [<- Array.all_toList,all_eq_true];exact λc hc=>decide_eq_true (h c hc)
def Asc.app {x y:Str} (h:Asc x) (h':Asc y):Asc (x ++ y):=by
 intro c hc;have:(x ++ y).cps.toList=x.cps.toList ++ y.cps.toList:=Array.toList_append;rw [this] at hc;exact (mem_append.mp hc).elim (h c) (h' c)
def Asc.join {ys:List Str} (h:∀ y∈ys,Asc y):Asc (Txt.join (Str.ofString "") ys):=by
 intro c hc;rw [Zop] at hc;obtain ⟨l,hl,hc⟩:=mem_flatten.mp hc;obtain ⟨y,hy,rfl⟩:=mem_map.mp hl;exact h y hy c hc
end
section
variable {X:Cx} {a b:Expr} {j6:List Expr} {pos:Pos} {ta tb:TE}
def tOrS (ta tb:TE):TE:=λσ H Q=>ta σ H λx H1=>∃ z:Str,x=.str z/\z.length<=sizeLine/\(z.length=0->tb σ H1 Q)/\(z.length≠0->Q (.str z) H1)
def Zsc (ha:PE X a ta) (hb:PE X (.BoolOp .Or (b :: j6) pos) tb):PE X (.BoolOp .Or (a :: b :: j6) pos) (tOrS ta tb):=by
 intro j4 s σ H Q I h;refine BoolOp_or (thn (a8:) λv s1 j9=>?_);obtain ⟨x,H1,I1,r1,q1⟩:=j9;obtain ⟨z,rfl,hz,q1,q2⟩:=q1;obtain ⟨t,rfl⟩:=r1;have hl:=Vw;have hs:sizeLine=16777216:=sizeLine_eq;refine PySem.P.truthy_str (by lia) ?_;by_cases c:z.length=0
 ·rw [show ((z.length:Int) != 0)=false by rw [c]; rfl]
  exact hb j4 _ σ H1 Q (I1.tok _) (q1 c)
 ·rw [show ((z.length:Int) != 0)=true by simpa using c]
  exact ⟨.str z,H1,I1.tok _,⟨t,Y⟩,q2 c⟩
end
def Asc.num (i:Int):Asc (dw:):=λc hc=>by
 refine Decidable.byContradiction λh=>?_;exact int_text_free' c ⟨by lia,by lia⟩ i hc
theorem Zg5 {nh:Str} (hs:Asc nh):∀ (l:List Str) (a:Array Nat),(∀ c∈a.toList,c < 128)->(∀ y∈l,Asc y)->∀ c∈(l.foldl (λj8 p=>j8 ++ nh.cps ++ p.cps) a).toList,c < 128
 | [],a,ha,_,c,hc=>ha c hc
 | y :: l,a,ha,hl,c,hc=>by
  refine Zg5 hs l (a ++ nh.cps ++ y.cps) (λd hd=>?_) (λz hz=>hl z (mem_cons_of_mem _ hz)) c hc;rw [Array.toList_append,Array.toList_append] at hd
  rcases mem_append.mp hd with h | h
  ·rcases mem_append.mp h with h | h
   ·exact ha d h
   ·exact hs d h
  ·exact hl y mem_cons_self d h
def Asc.joinS {nh:Str} {ys:List Str} (hs:Asc nh) (h:∀ y∈ys,Asc y):Asc (Txt.join nh ys):=by
 unfold Txt.join Builtin.Str.glued
 cases ys with
 | nil=>intro c hc; have hc:c∈([]:List Nat):=hc; cases hc
 | cons y l=>exact Zg5 hs l y.cps (h y mem_cons_self) λz hz=>h z (mem_cons_of_mem _ hz)
theorem Zdm {nh:Str}:∀ (l:List Str) (a:Array Nat),(l.foldl (λj8 p=>j8 ++ nh.cps ++ p.cps) a).size=a.size + (l.map (·.length)).sum + l.length * nh.length
 | [],a=>by simp
 | y :: l,a=>by
  rw [foldl_cons,Zdm l,Array.size_append,Array.size_append,map_cons,sum_cons,length_cons,Nat.add_mul];show a.size + nh.length + y.length + _ + _=_;lia
def Zoo (nh:Str) (ys:List Str):(Txt.join nh ys).length<=(ys.map (·.length)).sum + ys.length * nh.length:=by
 unfold Txt.join Builtin.Str.glued
 cases ys with
 | nil=>exact Az _
 | cons y l =>
  show (l.foldl (λj8 p=>j8 ++ nh.cps ++ p.cps) y.cps).size<=_;rw [Zdm,map_cons,sum_cons,length_cons,Nat.add_mul];show y.length + _ + _<=_;lia
theorem Uf {B:Nat}:∀ {l:List Str},(∀ x∈l,x.length<=B)->(l.map (·.length)).sum<=B * l.length
 | [],_=>An _
 | x :: l,h=>by
  have h1:=h x mem_cons_self;have h2:=Uf (l:=l) λy hy=>h y (mem_cons_of_mem _ hy);rw [map_cons,sum_cons,length_cons,Nat.mul_add];lia
def U6 (x y:Str):(x ++ y).length=x.length + y.length:=Array.size_append
end L2
namespace L2
open PySem PySem.Spec PyProof.Rows PySem.Builtin PySem.Builtin.Str
section
variable {X:Cx}
theorem Zcq:∀ l:List (Str × Tok),Vals ((l.map (·.1)).map V.str) (strValues l)
 | []=>.nil
 | _ :: l=>.cons ⟨_,rfl⟩ (Zcq l)
def Zk3 {x y:Str}:(Txt.split x y).length<=x.length + 2:=by
 unfold Txt.split;have e1:=StrLaws.occ_length_le x y 0 x.length (x.length + 1);split
 ·exact le_add_left 1 (x.length + 1)
 ·split
  ·exact le_add_left 1 (x.length + 1)
  ·rw [length_partsBetween]; lia
def Zr3:V->List V->Hp->VK->Prop:=λo xs H Q=>∃ x y:Str,o=.str x/\xs=[.str y]/\(y.length == 0)=false/\x.length + 2<=sizeLine/\∀ p,H p=none->Q (.ref p) (upd H p (.lst ((Txt.split x y).map V.str)))
def Om:MtR X "str.split" Zr3:=by
 intro j4 s σ H o xs v us Q I rx rs h;obtain ⟨x,y,rfl,rfl,hy,hsz,q⟩:=h;obtain ⟨t,rfl⟩:=rx;obtain ⟨u,rfl,ru⟩:=Xg rs;obtain ⟨tu,rfl⟩:=ru;have hn:(partsBetween x (occurrences x y 0 x.length (x.length + 1)) y.length).length<=sizeLine:=by
  have e1:=StrLaws.occ_length_le x y 0 x.length (x.length + 1)
  rw [length_partsBetween]; lia
 have km:∀ (l:List (Str × Tok)) (k:Nat),l.map (·.1)=Txt.split x y->EP X j4 σ Q (x:) { s with heap:=s.heap.push { cls:=.type "list",data:=.seq (strValues l).toArray },toks:=k }:=λl k e=>by
  refine ⟨.ref s.heap.objs.size,upd H s.heap.objs.size (.lst ((Txt.split x y).map V.str)),I.laid (λb u hb=>Ak _ hb) (An _) ?_,Y,q _ I.fresh⟩;refine ⟨?_,strValues l,0,?_,Ap _ Y⟩
  ·rw [Ab]; exact Nat.le_trans Zk3 hsz
  ·rw [<- e]; exact Zcq l
 cases h1:(decide (x.length < y.length) || decide (strKind x < strKind y))
 ·cases hf:(occurrences x y 0 x.length (x.length + 1)).isEmpty
  ·refine call_meets F.slot_str_split (typeIs_str _ _ _) F.entry_str_split (F.args_str_split_2 _ _) (meets_str_split_sep x y t tu h1 hy hf (by lia) hn) ?_
   show wants _ _ _ { s with toks:=_,heap:=s.heap.push { cls:=.type "list",data:=.seq (strsFrom s.toks (partsBetween x (occurrences x y 0 x.length (x.length + 1)) y.length)).toArray } };rw [strsFrom_eq];exact km (numbered s.toks _) _ ((numbered_texts _ _).trans ((if_neg (ne_true_of_eq_false h1)).trans (if_neg (ne_true_of_eq_false hf))).symm)
  ·exact call_meets F.slot_str_split (typeIs_str _ _ _) F.entry_str_split (F.args_str_split_2 _ _) (meets_str_split_not_found x y t tu h1 hy hf)
    (km [(x,t)] s.toks ((if_neg (ne_true_of_eq_false h1)).trans (if_pos hf)).symm)
 ·exact call_meets F.slot_str_split (typeIs_str _ _ _) F.entry_str_split (F.args_str_split_2 _ _) (meets_str_split_cannot_occur x y t tu h1)
   (km [(x,t)] s.toks (if_pos h1).symm)
def Zqa:V->List V->Hp->VK->Prop:=λo xs H Q=>∃ x y:Str,o=.str x/\xs=[.str y]/\Q (.bl (Txt.startswith x y)) H
def O8:MtR X "str.startswith" Zqa:=by
 intro j4 s σ H o xs v us Q I rx rs h;obtain ⟨x,y,rfl,rfl,q⟩:=h;obtain ⟨t,rfl⟩:=rx;obtain ⟨u,rfl,ru⟩:=Xg rs;obtain ⟨tu,rfl⟩:=ru;exact SC.startswith ⟨.bl _,H,I,Y,q⟩
def Zna:Y2 X (.type "int") (λxs H Q=>∃ (x:Str) (n:Int),xs=[.str x]/\intText? x=some n/\x.length<=640/\Q (.int n) H):=by
 intro j4 s σ H xs us Q I r h;obtain ⟨x,n,rfl,hn,hl,q⟩:=h;obtain ⟨u,rfl,ru⟩:=Xg r;obtain ⟨t,rfl⟩:=ru;exact PySem.W.KIN.call_text hn hl ⟨.int _,H,I.tok _,⟨_,Y⟩,q⟩
end
noncomputable def jnL (c:Nat):List (List Nat)->List Nat
 | []=>[]
 | [a]=>a
 | a :: b :: r=>a ++ c :: jnL c (b :: r)
theorem W0 (c:Nat):∀ l:List Str,(Str.join ⟨#[c]⟩ l).cps.toList=jnL c (l.map λx=>x.cps.toList)
 | []=>rfl
 | [x]=>rfl
 | x :: y :: r=>by
  have ih:=W0 c (y :: r);show (x ++ ⟨#[c]⟩ ++ Str.join ⟨#[c]⟩ (y :: r)).cps.toList=x.cps.toList ++ c :: jnL c ((y :: r).map λx=>x.cps.toList);rw [<- ih];have e:∀ a b:Str,(a ++ b).cps.toList=a.cps.toList ++ b.cps.toList:=λa b=>Array.toList_append;rw [e,e,append_assoc];rfl
theorem Zgr {c:Nat}:∀ {a a' r r':List Nat},c ∉ a->c ∉ a'->a ++ c :: r=a' ++ c :: r'->a=a'/\r=r'
 | [],[],_,_,_,_,e=>by injection e with _ e; exact ⟨Y,e⟩
 | [],x :: a',_,_,_,h',e=>by injection e with e _; exact absurd (mem_cons.mpr (.inl e)) h'
 | x :: a,[],_,_,h,_,e=>by injection e with e _; exact absurd (mem_cons.mpr (.inl e.symm)) h
 | x :: a,y :: a',_,_,h,h',e=>by
  injection e with e1 e2
  obtain ⟨e3,e4⟩:=Zgr (λz=>h (mem_cons_of_mem _ z)) (λz=>h' (mem_cons_of_mem _ z)) e2;exact ⟨by rw [e1,e3],e4⟩
theorem Zis {c:Nat}:∀ {l l':List (List Nat)},l≠[]->l'≠[]->(∀ p∈l,c ∉ p)->(∀ p∈l',c ∉ p)->jnL c l=jnL c l'->l=l'
 | [],_,h,_,_,_,_=>absurd rfl h
 | _,[],_,h,_,_,_=>absurd rfl h
 | [a],[a'],_,_,_,_,e=>by rw [show a=a' from e]
 | [a],a' :: b' :: r',_,_,h,_,e=>by
  have:c∈a:=by rw [show a=a' ++ c :: jnL c (b' :: r') from e]; exact mem_append.mpr (.inr mem_cons_self)
  exact absurd this (h a mem_cons_self)
 | a :: b :: r,[a'],_,_,_,h',e=>by
  have:c∈a':=by rw [<- show a ++ c :: jnL c (b :: r)=a' from e]; exact mem_append.mpr (.inr mem_cons_self)
  exact absurd this (h' a' mem_cons_self)
 | a :: b :: r,a' :: b' :: r',_,_,h,h',e=>by
  obtain ⟨e1,e2⟩:=Zgr (h a mem_cons_self) (h' a' mem_cons_self) (show a ++ c :: jnL c (b :: r)=a' ++ c :: jnL c (b' :: r') from e);have:=Zis (l:=b :: r) (l':=b' :: r') (N:) (N:) (λp hp=>h p (mem_cons_of_mem _ hp)) (λp hp=>h' p (mem_cons_of_mem _ hp)) e2;rw [e1,this]
def Znm (x:Str) (c:Nat):Txt.split x ⟨#[c]⟩≠[]:=λe=>by
 have h:=StrLaws.join_split x ⟨#[c]⟩;rw [e] at h;have hx:x.length=0:=by rw [<- h]; rfl
 unfold Txt.split at e;rw [if_pos (by rw [hx]; rfl)] at e;cases e
def Fw {x:Str} {c:Nat} {l:List Str} (kq:l≠[]) (hf:∀ p∈l,c ∉ p.cps.toList) (hx:x.cps.toList=jnL c (l.map λx=>x.cps.toList)):Txt.split x ⟨#[c]⟩=l:=by
 have h1:jnL c ((Txt.split x ⟨#[c]⟩).map λx=>x.cps.toList)=jnL c (l.map λx=>x.cps.toList):=by rw [<- hx,<- W0,StrLaws.join_split]
 have h2:=Zis (λz=>Znm x c (em:)) (λz=>kq (em:)) (λp hp=>by
  obtain ⟨y,hy,rfl⟩:=mem_map.mp hp
  exact StrLaws.split_free x c y hy) (λp hp=>by
  obtain ⟨y,hy,rfl⟩:=mem_map.mp hp
  exact hf y hy) h1
 have inj:∀ {l l':List Str},(l.map λx=>x.cps.toList)=(l'.map λx=>x.cps.toList)->l=l':=λ{l l'}=>by
  induction l generalizing l' with
  | nil=>intro e; cases l' with
   | nil=>rfl
   | cons y l'=>cases e
  | cons x l ih=>intro e; cases l' with
   | nil=>cases e
   | cons y l' =>
    injection e with e1 e2
    rw [ih e2,show x=y from Str.ext' e1]
 exact inj h2
end L2
namespace L2
open PySem PySem.Spec PyProof.Rows
def KTup (K:W.Frag) (a:Addr) (xs:List Str):Prop:=∀ H:Hp,SqT K H a (xs.map V.str)
def ktup_mk2 {K:W.Frag} {a:Addr} {t1 t2:Tok} {ep:Nat} {x1 x2:Str} (l:K.lookup a=some ⟨.type "tuple",none,.seq #[.str x1 t1,.str x2 t2] ep,#[]⟩):KTup K a [x1,x2] :=
 λH=>.inr ⟨_,_,_,l,rfl,rfl,(by show 2<=sizeLine; decide),.cons ⟨_,rfl⟩ (.cons ⟨_,rfl⟩ .nil)⟩
theorem Zgp (x:Str):∀ xs:List Str,inV (.str x) (xs.map V.str)=decide (x∈xs)
 | []=>rfl
 | y :: xs=>by
  have ih:=Zgp x xs;unfold inV at ih ⊢;rw [map_cons,any_cons,ih];have e:eqV (.str y) (.str x)=decide (x=y):=by
   show decide _=_
   by_cases c:x=y
   ·subst c; simp
   ·rw [decide_eq_false c]; exact decide_eq_false (λz=>c z.symm)
  rw [e];by_cases c:x=y
  ·rw [decide_eq_true c,decide_eq_true (mem_cons.mpr (.inl c))]; rfl
  ·rw [decide_eq_false c,Bool.false_or]
   exact decide_eq_decide.mpr ⟨mem_cons_of_mem _,λz=>(Ar z).resolve_left c⟩
def Zmt (xs:List Str):(xs.map V.str).all Vf=true:=by
 rw [all_eq_true];intro v hv;obtain ⟨x,_,rfl⟩:=mem_map.mp hv;rfl
end L2
namespace HL
open PySem PyProof.Rows HT
end HL
namespace L2
open PySem PySem.Spec PyProof.Rows
def Zor {X:Cx}:PIp X .FloorDiv (λx y H Q=>∃ i j,x=.int i/\y=.int j/\Zek i j/\Q (.int (i / j)) H):=by
 intro j4 s σ H x y v u Q I r1 r2 h;obtain ⟨i,j,e1,e2,hc,q⟩:=h;subst e1; subst e2;obtain ⟨t,rfl⟩:=r1;obtain ⟨t',rfl⟩:=r2;have h1:(0:Int) < j:=hc.1;refine ifloordiv_int (by lia) ?_ (.inl (PyProof.noPylong_of_log2 hc.2));rw [Int.fdiv_eq_ediv_of_nonneg i (by lia)];exact ⟨.int _,H,I.tok _,⟨_,Y⟩,q⟩
section
variable {X:Cx}
def Zg1 (hc:X.calm=true):Y2 X (.builtin "sorted") (λxs H Q=>∃ (p:Addr) (ks:List Int),xs=[.ref p]/\H p=some (setH X.prog X.w p ks)/\ks.length < 64 /\
  ∀ (q:Addr) (out:List Int),H q=none->out.Perm ks->out.Pairwise (·<=·)->Q (.ref q) (upd H q (dc:))):=by
 intro j4 s σ H xs us Q I r h;obtain ⟨p,ks,rfl,hp,k9,q⟩:=h;obtain ⟨u,rfl,ru⟩:=Xg r;obtain rfl:u=Value.ref p:=ru;have ws:WSet X.prog X.w s.heap p ks:=(I.hok p _ hp).1;refine Calls.call_function_entry kind_sorted plain_sorted entry_sorted (args_sorted1 _) ?_;unfold Builtin.«sorted»;refine Al (m:=checkCount "sorted" 1 1 _) (ad:);refine Al (Zh2 (A:=X.A.in1) (ce:) ws (by rw [sizeLine_eq]; lia) λh' d' tk vs out kp hI pm=>?_);have hl:vs.length=out.length:=hI.length;have h64':out.length < 64:=by rw [pm.length_eq]; exact k9
 refine Al (wpAny_newList ?_ (by rw [hl,sizeLine_eq]; lia));have I1:Inv X j4 σ H { s with heap:=h',drawn:=d',toks:=tk }:=(I.kept (t':=tk) kp).draw;have vn:(h'.push { cls:=.type "list",data:=.seq vs.toArray }).get? h'.objs.size=some (seqObj "list" vs.toArray 0):=Ap _ rfl;refine Al (wpAny_holding (wpAny_call_entry slot_list_sort ⟨_,vn,Y⟩ entry_list_sort (list_sort_tree vn (by simpa using hI) (by lia) λres ns a1 a2 a3=>⟨_,Y,?_⟩) (args_list_sort _)));refine wpAny_pure ⟨_,Y,?_⟩;obtain ⟨e,he⟩:=sortedHeap_at (out:=res) vn;have k2:∀ b u,h'.get? b=some u->(sortedHeap (h'.push { cls:=.type "list",data:=.seq vs.toArray }) h'.objs.size vs res).get? b=some u:=λb u hb=>by
  have lb:=Ao hb
  rw [sortedHeap_old (As lb) (by rw [Heap.size_push]; exact lt_succ_of_lt lb)]
  exact Ak _ hb
 have hv:Vals (L:) res.toList:=by
  clear he k2;generalize res.toList=l at a1;clear a2 a3
  induction a1 with
  | nil=>exact .nil
  | cons i t _ ih=>exact .cons ⟨_,Y⟩ ih
 refine ⟨.ref h'.objs.size,upd H h'.objs.size (.lst (L:)),I1.laid k2 (An _) ⟨?_,res.toList,e,hv,by rw [he]⟩,Y,q _ ns I1.fresh (a2.trans pm) a3⟩;rw [Ab,a2.length_eq,sizeLine_eq]; lia
end
section
variable {prog:Program} {w:World} {A:Around} {E:Value->Shared->Prop} {s:Shared}
def Zmc:typeLookup (.type "list") "keys"=pure none:=am_miss_of_fast (h:)
def Zmg {a:Addr} {xs:Array Value} {Q:Option Value->Shared->Prop} (hx:PlainL s.heap a xs) (hA:A.handled=none)
  (h:∀ h' tk,(ar:)->Q none { s with heap:=h',toks:=tk }):wpAny (Y:) A (getAttr? (.ref a) "keys") Q E s:=by
 obtain ⟨⟨c,dct,dat,sl⟩,k,hx,hc,hd,wg⟩:=hx;simp only at hc wg hd;subst hc wg hd;obtain ⟨hp,g,d,tk,os⟩:=s;have hT:∀ zi,(⟨hp,g,d,zi,os⟩:Shared).TypeIs (.ref a) "list":=λ_=>⟨_,hx,rfl⟩;have f1:=sub_AttributeError;have f3:=PySem.F.slot_list_getattribute.lookup;have f4:=PySem.F.slot_list_getattribute.bind (.ref a);have f5:=am_list_getattr_none;unfold getAttr? getAttrBy? getAttrBy
 repeat (any_goals (first | assumption | exact hT _ | ((with_reducible show wpAny _ _ (call (Value.builtin "list.__getattribute__") _ _) _ _ _); refine call_meets PySem.F.slot_list_getattribute (hT _) am_entry_list_getattribute (PySem.F.args_list_getattribute_2 _ _) (meets_getattribute_miss_list a xs k sl "keys" _ Zmc (h:)) ⟨hx,hA,λh' zi e oo=>?_⟩) | wp_step))
 obtain ⟨t',u',he⟩:=oo.there;show wpAny _ _ (getattributeRaised _ _ _ _ _ _ _) _ _ _;unfold getattributeRaised
 repeat (any_goals (first | assumption | wp_step))
 exact h _ _ oo.keeps
def Gn:plainId "dict.update.loop"=true:=by decide +kernel
def Ziz:entryFor table "dict.update.loop"=some Builtin.«dict.update.loop»:=entryFor_of_fast (by kernel_rfl)
variable {κ:Type} [DecidableEq κ] {knd:KeyKind prog w κ} {R:Result->Shared->Prop} {I:Addr} {fp wr:List Addr} {G:Array GenState->Array GenState->Prop} {n:Nat} {Pv:Nat->Value->Prop} {St:Nat->Shared->Prop}
def Zmw (W:WalksS prog w A.in1 I fp wr G n Pv St) {D:Addr} {h₀:Heap} (hD:D ∉ fp) (h0:∀ b o,h₀.get? b=some o->b ∉ wr/\b≠D) {kvs:List (κ × Value)} (hn:kvs.length=n) (nd:(kvs.map (·.1)).Nodup) (hb:n<=sizeLine)
  (hv:∀ i v,Pv i v->∃ q key kv,v=.ref q/\kvs[i]?=some kv/\knd.is kv.1 key=true/\IsTup h₀ q #[key,kv.2]):∀ (k i:Nat) (j:Int) (s:Shared),n - i=k->i<=n->St i s->(∀ b o,h₀.get? b=some o->s.heap.get? b=some o)->s.heap.DictOf knd D (kvs.take i) ->
   (∀ s',Moved (D :: wr) G s s'->s'.heap.DictOf knd D kvs->R (.ok (.ret .none)) s')->codeAny (Y:) A (.builtin "dict.update.loop" ⟨[.ref D,.ref I,rawInt j,.none],[]⟩) R s:=by
 have hw:D ∉ wr:=λz=>hD (W.sub _ z);have mn:∀ b∈wr,b∈D :: wr:=λb hb=>mem_cons_of_mem _ hb;have kp:∀ {s s1:Shared} {l},Moved wr G s s1->s.heap.DictOf knd D l->s1.heap.DictOf knd D l:=λhm hd=>by
  obtain ⟨o,es,ep,ho,r⟩:=hd
  exact ⟨o,es,ep,hm.heap D o hw ho,r⟩
 intro k
 induction k with
 | zero =>
  intro i j s hk hi st hs hd km;obtain rfl:i=n:=by lia
  refine codeAny_builtin Ziz ?_;rw [Around.under_plainId Gn _];show wpAny _ A.in1 (pyNext (.ref I) >>= _) _ _ s;refine Al (W.done s _ _ st λs' hm=>?_);rw [<- hn,take_length] at hd;exact Al (wpAny_pure (wpAny_pure (km s' (hm.mono mn) (kp hm hd))))
 | succ k ih =>
  intro i j s hk hi st hs hd km;have lt:i < n:=by lia
  refine codeAny_builtin Ziz ?_;rw [Around.under_plainId Gn _];show wpAny _ A.in1 (pyNext (.ref I) >>= _) _ _ s;refine Al (W.item i s _ _ lt st λv s1 hP qk hm=>?_);obtain ⟨q,key,kv,rfl,ek,yz,o,ho,hc,m,wg⟩:=hv i v hP;have vk:∀ b o,h₀.get? b=some o->s1.heap.get? b=some o:=λb o e=>hm.heap b o (h0 b o e).1 (hs b o e);have hq:=vk _ _ ho;have qu:=kp hm hd;show wpAny _ A.in1 (holding [Value.ref q] _ >>= _) _ _ s1;refine Al (wpAny_holding (Al (wpAny_tryCatch ?_)));unfold Builtin.Dict.pairItems;refine Al (wpAny_typeOf ⟨_,hq,hc⟩ ?_);rw [if_pos (c:)];refine Al (wpAny_seqItems hq wg (ad:));show wpAny _ A.in1 (holding [key,kv.2] (dictSet D key kv.2)) _ _ s1;have e1:stored (kvs.take i) kv.1 kv.2=kvs.take (i + 1):=by
   have yh:i < kvs.length:=by lia
   rw [Aw,ek]
   unfold stored
   rw [if_neg]
   ·rfl
   ·intro z
    obtain ⟨y,hy,e⟩:=any_eq_true.mp z
    have e:=of_decide_eq_true e
    rw [<- take_append_drop i kvs,Aj,nodup_append] at nd
    refine nd.2.2 y.1 (mem_map.mpr ⟨y,hy,Y⟩) kv.1 ?_ e
    rw [drop_eq_getElem_cons yh,(Aa ek).2]
    exact mem_cons_self
  refine wpAny_holding (wpAny_dictSet_pairs (hsz:=by rw [Ai]; lia) yz qu λh' qd sb=>?_);rw [e1] at qd;have ot:∀ b o,b≠D->s1.heap.get? b=some o->h'.get? b=some o:=λb o hb e=>by rw [sb.2 b hb]; exact e
  refine wpAny_pure ⟨plainId_quiet Gn _,ih (i + 1) _ _ (by lia) lt (W.frame _ s1 _ _ qk (le_succ _) λb hb o e=>ot b o (λz=>hD (z ▸ hb)) e) (λb o e=>ot b o (h0 b o e).2 (vk b o e)) qd λs3 hm3 w5=>?_⟩;exact km s3 (dt:) w5
def Zec {l:Addr} {its:Array Value} {kvs:List (κ × Value)} {Q:Value->Shared->Prop} (hh:A.handled=none) (hl:PlainL s.heap l its) (hn:kvs.length=its.size) (nd:(kvs.map (·.1)).Nodup) (hb:its.size<=sizeLine)
  (hv:∀ (i:Nat) v,its[i]?=some v->∃ q key kv,v=.ref q/\kvs[i]?=some kv/\knd.is kv.1 key=true/\IsTup s.heap q #[key,kv.2])
  (h:∀ (h':Heap) (tk:Nat),h'.DictOf knd s.heap.objs.size kvs->(ar:)->Q (x:) { s with heap:=h',toks:=tk }) :
  wpAny (Y:) A (call (.type "dict") [.ref l]) Q E s:=by
 refine callType_codes (Q₁:=λobj s₁=>obj=.ref s.heap.objs.size/\s₁={ s with heap:=s.heap.push { cls:=.type "dict",data:=.dict #[] } }) PySem.F.kt_called_dict (PySem.F.kt_typeCall_dict_1 _) PySem.F.entry_dict_init (kt_code_dict_new _ ⟨rfl,rfl⟩) ?_;rintro obj s₁ ⟨rfl,rfl⟩;have mm:(cg:).DictOf knd s.heap.objs.size []:=Heap.DictOf.new s.heap;refine ⟨mm.typeIs,PySem.F.args_dict_init_2 _ _,?_⟩;have kp1:∀ b o,s.heap.get? b=some o->(cg:).get? b=some o:=λb o e=>Ak _ e;have ly:PlainL (cg:) l its:=by
  obtain ⟨o,m,ho,r⟩:=hl
  exact ⟨o,m,kp1 _ _ ho,r⟩
 have ll:l < s.heap.objs.size:=by obtain ⟨o,m,ho,r⟩:=hl; exact Ao ho
 have hsz:(cg:).objs.size=s.heap.objs.size + 1:=Heap.size_push ..;unfold Builtin.«dict.__init__»;refine Al ?_;unfold Builtin.Dict.selfAndRest;refine Al (wpAny_notOrdered_dict mm.typeIs ?_);show wpAny _ _ (pure (s.heap.objs.size,[Value.ref l])) _ _ _;refine wpAny_pure ?_;show wpAny _ _ (Builtin.Dict.updateFrom "dict.__init__" s.heap.objs.size (.ref l) [] .none) _ _ _;unfold Builtin.Dict.updateFrom;have hT:Shared.TypeIs { s with heap:=s.heap.push { cls:=.type "dict",data:=.dict #[] } } (.ref l) "list":=by
  obtain ⟨o,m,ho,hc,_⟩:=ly
  exact ⟨o,ho,hc⟩
 refine Al (wpAny_typeOf hT ?_);rw [if_pos (c:)];refine Al (Zmg ly (by simp [hh]) λh2 tk2 kp2=>?_);rw [if_pos (c:)];refine Al (wpAny_rule ?_);have hli:h2.IsList l its:=by
  obtain ⟨o,m,ho,hc,_,hd⟩:=ly
  exact ⟨o,kp2 _ _ ho,hc,m,hd⟩
 have l2:=Ao (kp2 _ _ (Ap s.heap (o:={ cls:=.type "dict",data:=.dict #[] }) rfl));have ll2:l < h2.objs.size:=by obtain ⟨o,ho,_⟩:=hli; exact Ao ho
 refine Al (wpAny_pyIter_list hli (wpAny_pure ⟨plainId_quiet Gn _,?_⟩));refine Zmw (knd:=knd) (h₀:=s.heap) ((Walks.list (show A.in1.in1.handled=none by simp [hh]) _ l (As ll2) its).toS) (D:=s.heap.objs.size) ?_ (λb o e=>?_) hn nd hb (λi v zw=>hv i v zw) (its.size - 0) 0 0 _ (by lia) (Az _) ?_ ?_ ?_ λs' hm hd=>?_
 ·simp only [mem_cons,not_mem_nil,or_false,not_or]
  exact ⟨As l2,Nat.ne_of_gt ll⟩
 ·have hb:=Ao e
  simp only [mem_cons,not_mem_nil,or_false];exact ⟨As (Nat.lt_trans hb l2),As hb⟩
 ·exact ⟨⟨_,Ap _ Y,Y,Y⟩,hli.push _⟩
 ·exact λb o e=>Ak _ (kp2 _ _ (kp1 _ _ e))
 ·obtain ⟨o,es,ep,ho,r⟩:=mm
  exact ⟨o,es,ep,Ak _ (kp2 _ _ ho),r⟩
 ·obtain ⟨h',g',d',zi,os'⟩:=s'
  obtain rfl:g'=s.gens:=hm.gens;obtain rfl:d'=s.drawn:=hm.drawn;obtain rfl:os'=s.os:=hm.os;refine ⟨Y,h h' zi hd λb o e=>?_⟩;have hb:=Ao e;refine hm.heap b o ?_ (Ak _ (kp2 _ _ (kp1 _ _ e)));simp only [mem_cons,not_mem_nil,or_false,not_or];exact ⟨As hb,As (Nat.lt_trans hb l2)⟩
end
section
variable {X:Cx}
theorem Zf4 {j4:List (p:)} {s:Shared} {σ:St} {H:Hp} (I:Inv X j4 σ H s):∀ (qs:List Addr) (kvs:List (Key × V)),qs.length=kvs.length->(∀ (i:Nat) q kv,qs[i]?=some q->kvs[i]?=some kv->H q=some (.tup [kV kv.1,kv.2])) ->
  ∃ vs:List (Key × Value),KV kvs vs/\vs.map (·.1)=kvs.map (·.1)/\∀ (i:Nat) q,qs[i]?=some q->∃ key kv,vs[i]?=some kv/\(Ya X.prog X.w).is kv.1 key=true/\IsTup s.heap q #[key,kv.2]
 | [],[],_,_=>⟨[],.nil,rfl,λi q e=>by simp at e⟩
 | q :: qs,kv :: kvs,hl,h=>by
  obtain ⟨vs,h1,h2,h3⟩:=Zf4 I qs kvs (Nat.succ.inj hl) λi q kv e1 e2=>h (i + 1) q kv e1 e2;obtain ⟨its,rt,ht,_⟩:=I.tuple (SqT.of (h 0 q kv rfl rfl));obtain ⟨key,v,rfl,rk,rv⟩:=Zi7 rt;refine ⟨(kv.1,v) :: vs,.cons ⟨Y,rv⟩ h1,by rw [map_cons,map_cons,h2],λi q' e=>?_⟩
  cases i with
  | zero=>cases e; exact ⟨key,_,Y,Jl rk,ht⟩
  | succ i=>exact h3 i q' e
def Zkm (hc:X.calm=true):Y2 X (.type "dict") (λxs H Q=>∃ (l:Addr) (qs:List Addr) (kvs:List (Key × V)),xs=[.ref l]/\H l=some (.lst (qs.map V.ref))/\qs.length=kvs.length/\(∀ (i:Nat) q kv,qs[i]?=some q->kvs[i]?=some kv->H q=some (.tup [kV kv.1,kv.2]))/\(kvs.map (·.1)).Nodup/\∀ p,H p=none->Q (.ref p) (upd H p (.dK kvs))):=by
 intro j4 s σ H xs us Q I r h;obtain ⟨l,qs,kvs,rfl,hl,j7,hq,nd,q⟩:=h;obtain ⟨u,rfl,ru⟩:=Xg r;obtain rfl:u=Value.ref l:=ru;obtain ⟨its,ra,pl,hz⟩:=I.list (SqL.of hl);obtain ⟨vs,kv,ek,hp⟩:=Zf4 I qs kvs j7 hq;have ly:=ra.length;rw [Ab] at ly hz;have nj:=kv.length;refine Zec (knd:=Ya X.prog X.w) (kvs:=vs) (ce:) pl (by rw [Aq]; lia) (by rw [ek]; exact nd) (by rw [Aq]; lia) (λi v hv=>?_) λh' tk hd kp=>?_
 ·rw [getElem?_toArray] at hv
  obtain ⟨q',my⟩:∃ q',qs[i]?=some q':=⟨_,Ac (by have:=(Aa hv).1; lia)⟩;obtain ⟨v',zw,rv⟩:=ra.get (i:=i) (x:=.ref q') (by rw [Ah,my]; rfl);rw [hv] at zw;cases zw;obtain ⟨key,kv',h1,h2,h3⟩:=hp i q' my;exact ⟨q',key,kv',rv,h1,h2,h3⟩
 ·refine ⟨.ref s.heap.objs.size,_,I.laid (a:=s.heap.objs.size) (o:=.dK kvs) (t':=tk) kp (An _) ⟨by lia,?_,vs,kv,hd⟩,Y,q _ (I.hok.fresh (An _))⟩
  exact (Vz (P:=X.prog) (w:=X.w) (H:=H) s.heap I.big).2.1
end
def Zmd {K:W.Frag} {S T:ZS} {xs ys:List V} {g:TG} {tt:TT} {tb:TB} {R:St->Hp->Prop} {σ:St} {H:Hp} (j7:xs.length=ys.length) (Pv:Nat->St->Hp->Prop) (h0:Pv 0 σ H) (hl:∀ i σ H,i<=xs.length->Pv i σ H->S.has K H xs/\T.has K H ys)
  (hs:∀ (i:Nat) x y σ H q,xs[i]?=some x->ys[i]?=some y->H q=none->Pv i σ H->g (.ref q) σ (upd H q (.tup [x,y])) λσ2 H2=>tt σ2 H2 λb H3=>if b=true then tb σ2 H3 (Pv (i + 1)) else Pv (i + 1) σ2 H3) (hd:∀ σ H,Pv xs.length σ H->R σ H):W6 (Itz2 K S T) g tt tb R σ H:=by
 refine (u:);rintro i m σ H ⟨rfl,hi,p⟩;obtain ⟨q1,q2⟩:=hl i σ H hi p;by_cases kn:i < xs.length
 ·have yx:i < ys.length:=by lia
  refine .inr (cm:);obtain ⟨c,u,v,hn,e1,y1,y2,e2⟩:=y;subst e1 e2;exact hs i u v σ H c (y1 xs q1) (y2 ys q2) hn p
 ·have e:i=xs.length:=by lia
  subst e;exact .inl ⟨⟨xs,ys,q1,q2,Y,j7⟩,hd σ H p⟩
end L2
namespace KT
open PySem L2
noncomputable def aN (a:Nat):Nat:=(after a).toNat
noncomputable def bN (a:Nat):Nat:=(Zy a).toNat
def Zb0 (a:Nat):after a=(aN a:Int):=(Int.toNat_of_nonneg (Wf a).2.2).symm
def Zby (a:Nat):Zy a=(bN a:Int):=(Int.toNat_of_nonneg (Xz a).2.2).symm
def Zg6 (a:Nat):aN a=if a % 3=2 then a - 2 else a + 1:=by
 have h:=Zb0 a;unfold after at h;split at h <;> split <;> lia
def Zg4 (a:Nat):bN a=if a % 3=0 then a + 2 else a - 1:=by
 have h:=Zby a;unfold Zy at h;split at h <;> split <;> lia
def d3_0 (q:Nat):3 * q / 3=q:=Nat.mul_div_cancel_left q (c:)
def d3_1 (q:Nat):(3 * q + 1) / 3=q:=by rw [mul_add_div (c:)]; rfl
def d3_2 (q:Nat):(3 * q + 2) / 3=q:=by rw [mul_add_div (c:)]; rfl
def aN_0 (q:Nat):aN (3 * q)=3 * q + 1:=by rw [Zg6,if_neg (by rw [mul_mod_right]; decide)]
def aN_1 (q:Nat):aN (3 * q + 1)=3 * q + 2:=by rw [Zg6,if_neg (by rw [mul_add_mod]; decide)]
def aN_2 (q:Nat):aN (3 * q + 2)=3 * q:=by rw [Zg6,if_pos (by rw [mul_add_mod])]; rfl
def bN_0 (q:Nat):bN (3 * q)=3 * q + 2:=by rw [Zg4,if_pos (mul_mod_right 3 q)]
def bN_1 (q:Nat):bN (3 * q + 1)=3 * q:=by rw [Zg4,if_neg (by rw [mul_add_mod]; decide)]; rfl
def bN_2 (q:Nat):bN (3 * q + 2)=3 * q + 1:=by rw [Zg4,if_neg (by rw [mul_add_mod]; decide)]; rfl
def three (a:Nat):∃ q,a=3 * q\/a=3 * q + 1\/a=3 * q + 2:=⟨a / 3,by lia⟩
def Zry (a:Nat):aN a / 3=a / 3/\bN a / 3=a / 3/\aN (aN a)=bN a/\bN (aN a)=a/\aN (bN a)=a/\bN (bN a)=aN a/\aN a≠a/\bN a≠a/\aN a≠bN a:=by
 have n1:∀ q,q + 1≠q:=λq=>succ_ne_self q;have n2:∀ q,q + 2≠q:=λq h=>Nat.ne_of_gt (Nat.lt_add_of_pos_right (n:=q) (k:=2) (c:)) h;obtain ⟨q,rfl | rfl | rfl⟩:=three a
 ·rw [aN_0,bN_0,aN_1,bN_1,aN_2,bN_2,d3_0,d3_1,d3_2]
  exact ⟨Y,Y,Y,Y,Y,Y,n1 _,n2 _,λh=>n1 _ h.symm⟩
 ·rw [aN_1,bN_1,aN_2,bN_2,aN_0,bN_0,d3_0,d3_1,d3_2]
  exact ⟨Y,Y,Y,Y,Y,Y,n1 _,λh=>n1 _ h.symm,n2 _⟩
 ·rw [aN_2,bN_2,aN_0,bN_0,aN_1,bN_1,d3_0,d3_1,d3_2]
  exact ⟨Y,Y,Y,Y,Y,Y,λh=>n2 _ h.symm,λh=>n1 _ h.symm,λh=>n1 _ h.symm⟩
def U9 {n:Nat} (h:a < 3 * n):aN a < 3 * n/\bN a < 3 * n:=by
 obtain ⟨h1,h2,_⟩:=Zry a;exact ⟨by lia,by lia⟩
structure PC (M:Lq) (f:Nat->Int):Prop where
 nn:∀ p,p < M.length->0<=f p
 rim:∀ p:Nat,M[p]?=some none->f p=0
 mate:∀ p q:Nat,M[p]?=some (some q)->f q=f p
 even:∀ p,p < M.length->(f p + f (aN p) + f (bN p)) % 2=0
 tri:∀ p,p < M.length->f p<=f (aN p) + f (bN p)
noncomputable def mx (x y:Int):Int:=if y > x then y else x
noncomputable def bh (f:Nat->Int) (a b:Nat):Int:=mx (f (aN a) + f (aN b)) (f (bN a) + f (bN b)) - f a
noncomputable def fx (left:Bool) (a b:Nat) (f:Nat->Int) (z:Nat):Int:=if z=a\/z=b then bh f a b else f (lc (!left) a b z)
noncomputable def sF (f:Nat->Int):Nat->Int
 | 0=>0
 | n + 1=>sF f n + f n
section
variable {M:Lq} {ns:List Int} {f:Nat->Int} {g:Int->Int}
noncomputable def mu (M:Lq) (p:Nat):Nat:=match (M[p]?).join with
 | some q=>q
 | none=>p
end
end KT
namespace KT
noncomputable def lowN (m n:Nat):Nat × Nat:=(m / Nat.gcd m n,n / Nat.gcd m n)
noncomputable def putG (g:Int->Nat × Nat) (x:Int) (v:Nat × Nat):Int->Nat × Nat:=λy=>if y=x then v else g y
noncomputable def lowG (g:Int->Nat × Nat):Int->Nat × Nat:=λx=>lowN (g x).1 (g x).2
end KT
namespace KT
open PySem L2
section
variable {M:Lq} {ns:List Int} {x y:Int} {a b:Nat}
def SwN (M:Lq) (ns:List Int) (x:Int):Prop:=∃ p j:Nat,M[p]?=some (some j)/\ns[p]?=some x
structure SwK (M:Lq) (ns:List Int) (ks:List Int):Prop where
 nd:ks.Nodup
 mem:∀ x,x∈ks ↔ SwN M ns x
def SwK.perm {ks ls:List Int} (h:SwK M ns ks) (g:SwK M ns ls):ks.Perm ls:=(perm_ext_iff_of_nodup h.nd g.nd).mpr λx=>(h.mem x).trans (g.mem x).symm
def SwN.key (td:TD M ns) (h:SwN M ns x):x∈keys ns ns.length:=by
 obtain ⟨p,j,_,e⟩:=h;exact Y8.mpr ⟨p,(Aa e).1,e⟩
noncomputable def sqX (ns:List Int) (a b:Nat):List Int:=[ns.getD (aN a) 0,ns.getD (bN a) 0,ns.getD (aN b) 0,ns.getD (bN b) 0]
noncomputable def uy (a b:Nat):Nat->Nat
 | 0=>aN a
 | 1=>bN a
 | 2=>aN b
 | _=>bN b
def Zrv {k:Nat} (h:k < 4):(sqX ns a b).getD k 0=ns.getD (uy a b k) 0:=by
 have:k=0\/k=1\/k=2\/k=3:=by lia
 rcases this with rfl | rfl | rfl | rfl <;> rfl
def Zrw {n k:Nat} (ha:a < 3 * n) (hb:b < 3 * n):uy a b k < 3 * n:=by
 obtain ⟨a1,a2⟩:=U9 ha;obtain ⟨b1,b2⟩:=U9 hb;unfold uy;split <;> assumption
def Ztt {p:Nat} (td:TD M ns) (hp:p < M.length):ns[p]?=some (ns.getD p 0):=by
 have:=td.len;rw [Ad,Ac (by lia)];rfl
end
end KT
namespace L2
open PySem PySem.Spec PyProof.Rows
section
variable {X:Cx} {fr:Bool}
def Ztg (te:TEX) (r:R2) (tb:TE) (t u:TSX):TSX:=λD R σ H=>te σ H (λx H1=>tb σ H1 λy H2=>r x y H2 λz H3=>∃ k,z=.bl k/\if k=true then t D R σ H3 else u D R σ H3) λcls _ H1=>R cls σ H1
def Zqb {a b:Expr} {op:CmpOp} {s1 s2:List Stmt} {te:TEX} {tb:TE} {r:R2} {t u:TSX} {p1 pos:Pos} (he:PEX fr X a te) (hb:PE X b tb) (ho:OpR X (compareOp op) r) (hm:behindInMarks op b=false) (ha:PSsX fr X s1 t) (hc:PSsX fr X s2 u) (hx:X.xe=(ci:):=by rfl) :
  PSX fr X (.If (.Compare a [op] [b] p1) s1 s2 pos) (Ztg te r tb t u):=by
 intro j4 s σ H D R I h;refine wpAny_If (wpAny_isTrue_Compare1 (wpAny_mono (he j4 s σ H _ _ I h) (λv s1 ⟨x,H1,I1,r1,q1⟩=>?_) ?_) hm)
 ·have h1:=hb j4 s1 σ H1 _ I1 q1
  rw [hx] at h1;refine wpAny_mono h1 (λy' s2 zz46=>?_) λ_ _ z=>z.elim;obtain ⟨y,H2,I2,r2,q2⟩:=zz46;have h2:=ho j4 s2 σ H2 x y v y' _ I2 r1 r2 q2;rw [hx] at h2;refine wpAny_mono h2 (λc' s3 zz47=>?_) λ_ _ z=>z.elim;obtain ⟨z,H3,I3,r3,q3⟩:=zz47;obtain ⟨k,rfl,q3⟩:=q3;cases r3;refine wpAny_truthy_bool ?_
  cases k with
  | true=>exact ha j4 s3 σ H3 D R I3 q3
  | false=>exact hc j4 s3 σ H3 D R I3 q3
 ·rintro ev s1 ⟨e,T,cls,a0,σ',H',h1,h2,h3,h4,h5,h7,rfl,h6⟩
  exact ⟨e,T,cls,a0,σ',H',h1,h2,h3,h4,h5,h7,h6⟩
def Zm7 (hc:X.calm=true):Y2 X (.builtin "max") (λxs H Q=>∃ (p:Addr) (ns:List Int),xs=[.ref p]/\SqT X.K H p (L:)/\0 < ns.length/\∀ m,m∈ns->(∀ a∈ns,a<=m)->Q (.int m) H):=by
 intro j4 s σ H xs us Q I r h;obtain ⟨p,ns,rfl,hq,hn,q⟩:=h;obtain ⟨u,rfl,ru⟩:=Xg r;cases ru;obtain ⟨its,rv,pl,hz⟩:=I.tuple hq;have pl:s.heap.IsTuple p its.toArray:=pl;have lt:p < s.heap.objs.size:=by obtain ⟨o,ho,_⟩:=pl; exact Ao ho
 have j7:its.toArray.size=ns.length:=by have:=rv.length; rw [Ab] at this; simp; lia
 have W:=Zag (j4:=j4) (σ:=σ) (H:=H) (s:=s) rv;refine call_max_walk (wpAny_pyIter_tuple pl ⟨s.heap.objs.size,_,_,_,_,_,_,Y,Walks.tuple (A:=X.A.in1) (show X.A.in1.handled=none from I.ok.hd hc) s.heap.objs.size p (As lt) its.toArray,⟨⟨_,Ap _ Y,Y,Y⟩,pl.push _⟩,?_,by rw [j7]; exact hn,CmpOf.ints_gt (λi=>ns.getD i 0) W,?_⟩)
 ·intro b hb
  show b < (s.heap.push _).objs.size;rw [Heap.size_push]
  rcases Ar hb with rfl | hb
  ·exact lt_succ_self _
  ·rw [Af hb]; exact lt_succ_of_lt lt
 ·intro v h' tk hP hk
  have I1:Inv X j4 σ H { s with heap:=h',toks:=tk }:=I.kept λb o e=>hk b o (as:) (Ak _ e);rw [j7] at hP;obtain ⟨a1,a2⟩:=argBest_gt (λi=>ns.getD i 0) (ns.length - 1);obtain ⟨t,e⟩:=W _ _ hP;generalize argBest (λi j=>decide (ns.getD i 0 > ns.getD j 0)) (ns.length - 1)=k at a1 a2 e;have tm:k < ns.length:=by lia
  have ek:ns.getD k 0=ns[k]:=by rw [Ad,Ac tm]; rfl
  refine ⟨.int (ns.getD k 0),H,I1,⟨t,e⟩,q _ (by rw [ek]; exact getElem_mem tm) λa ha=>?_⟩;obtain ⟨j,hj,rfl⟩:=mem_iff_getElem.mp ha;have:=a2 j (by lia);have ej:ns.getD j 0=ns[j]:=by rw [Ad,Ac hj]; rfl
  show ns[j]<=ns.getD k 0;rw [<- ej]; exact this
end
def Zri (H0:Hp) (t:TSX):TSX:=λD R σ H=>t { D with nx:=λσ' H'=>∃ (a:Addr) (o:Obj) (kvs:List (Key × V)),H' a=some (ae:)/\(∀ o u,H0 a≠some (.frz o u))/\D.nx σ' (upd H' a (.dK kvs)) } R σ H
def Zn2 {X:Cx} {xl:Value->Shared->Prop} {R0:Value->St->Hp->Prop} {st:Stmt} {t:TSX} (h:PSL X xl R0 st t):PSL X xl R0 st (Zri X.H₀ t):=by
 intro j4 s σ H D I hw;refine wpAny_mono (h j4 s σ H _ I hw) (λf s' q=>?_) λ_ _ e=>e
 cases f with
 | next =>
  obtain ⟨σ',H',I',a,o,kvs,e,h0,q⟩:=q;exact ⟨σ',_,I'.thaw e h0,q⟩
 | ret v=>exact q
 | brk=>exact q
 | cont=>exact q
section
variable {X:Cx} {fr:Bool} {x:Str} {p pos:Pos} {e:Expr} {es:List Expr} {t:TAZ} {r:List V->Hp->VK->Prop}
def Zj1 {id:String} (hc:Y2 X (.builtin id) r) (hg:Gl X x) (hm:X.mg x=none) (hv:bootBuiltins x=some (.builtin id)) (ha:PAZ fr X (e :: es) t) (hx:X.xe=(ci:):=by rfl) (hn:x≠"__name__":=by decide) (ny:(H:)=false:=by decide)
  (he:starEach (e :: es) X.env=(I:) :: starEach es X.env:=by rfl) (lg:(z:).any (·.1)=false:=by rfl):PEX fr X (V:) (λσ H Q E=>t σ H (λvs H1=>r vs H1 Q) E):=by
 intro j4 s σ H Q E I h;refine wpAny_Call_Name_kw (We I hg hm hv ?_ hn ny);refine PyProof.Rows.callWith_builtin1 (thn (ha pos j4 s σ H _ E I h) λus s1 zz48=>?_) he lg;obtain ⟨vs,H1,I1,r1,q1⟩:=zz48;exact thnF hx (hc j4 s1 σ H1 vs us Q I1 r1 q1) λ_ _ z=>z
def Zhn {T:String} (hc:Y2 X (.type T) r) (hg:Gl X x) (hm:X.mg x=none) (hv:bootBuiltins x=some (.type T)) (ha:PAZ fr X (e :: es) t) (hx:X.xe=(ci:):=by rfl) (hn:x≠"__name__":=by decide) (ny:(H:)=false:=by decide)
  (he:starEach (e :: es) X.env=(I:) :: starEach es X.env:=by rfl) (lg:(z:).any (·.1)=false:=by rfl):PEX fr X (V:) (λσ H Q E=>t σ H (λvs H1=>r vs H1 Q) E):=by
 intro j4 s σ H Q E I h;refine wpAny_Call_Name_kw (We I hg hm hv ?_ hn ny);refine PyProof.Rows.callWith_type1 (thn (ha pos j4 s σ H _ E I h) λus s1 zz49=>?_) he lg;obtain ⟨vs,H1,I1,r1,q1⟩:=zz49;exact thnF hx (hc j4 s1 σ H1 vs us Q I1 r1 q1) λ_ _ z=>z
end
def Zs4 {x y z:V} {us:List Value} (r:Vals [x,y,z] us):∃ u v w',us=[u,v,w']/\RelV x u/\RelV y v/\RelV z w':=by
 cases r with
 | cons a r =>
  obtain ⟨v,w',rfl,b,c⟩:=Zi7 r;exact ⟨_,_,_,Y,a,b,c⟩
def Zm9 {X:Cx} (hc:X.calm=true):Y2 X (.builtin "max") (λxs H Q=>∃ i j k,xs=[.int i,.int j,.int k]/\Q (.int (max i (max j k))) H):=by
 intro j4 s σ H xs us Q I r h;obtain ⟨i,j,k,rfl,q⟩:=h;obtain ⟨u,v,w',rfl,⟨t,rfl⟩,⟨t',rfl⟩,⟨t2,rfl⟩⟩:=Zs4 r;have e3:max i (max j k)=if j > i then (if k > j then k else j) else (if k > i then k else i):=by split <;> split <;> lia
 rw [e3] at q;refine max_three_ints (ce:) λh' tk kk=>⟨_,H,I.kept kk,?_,q⟩;by_cases h1:j > i
 ·rw [if_pos h1,if_pos h1]
  by_cases h2:k > j
  ·rw [if_pos h2,if_pos h2]; exact ⟨_,Y⟩
  ·rw [if_neg h2,if_neg h2]; exact ⟨_,Y⟩
 ·rw [if_neg h1,if_neg h1]
  by_cases h2:k > i
  ·rw [if_pos h2,if_pos h2]; exact ⟨_,Y⟩
  ·rw [if_neg h2,if_neg h2]; exact ⟨_,Y⟩
end L2
set_option genInjectivity false
set_option genSizeOf false
namespace KT
open PySem L2
def iteN {p A B:Prop} [Decidable p] (h:¬ p) (b:B):if decide p=true then A else B:=by rw [if_neg (λz=>h (of_decide_eq_true z))]; exact b
def iteY {p A B:Prop} [Decidable p] (h:p) (a:A):if decide p=true then A else B:=by rw [if_pos (decide_eq_true h)]; exact a
def iteF {B:Prop} (h:B):B:=h
def iteT {A:Prop} (h:A):A:=h
noncomputable def bmV:List Value:=[.type "ValueError",.type "Exception",.type "BaseException",.type "object"]
def FBV:ExcBaseFacts "ValueError" "ValueError.__new__" "ValueError.__init__" bmV:=PySem.F.excBase_ValueError
def map_some {α:Type} {f:α->V} {l:List α} {i:Nat} {y:V} (h:(l.map f)[i]?=some y):∃ q,l[i]?=some q/\y=f q:=by
 rw [Ah] at h
 cases e:l[i]? with
 | none=>rw [e] at h; cases h
 | some q=>rw [e] at h; cases h; exact ⟨q,Y,Y⟩
structure FT (K:W.Frag) (mg:Str->Option Value) (x:Str) (st:Stmt) (ps:List Str) (f:Addr) (d:FuncData):Prop where
 F:Fun K x x st f d
 b:Wg K d ps []
 g:mg x=some (.ref f)
structure FM (K:W.Frag) (C:Addr) (x q:Str) (st:Stmt) (ps:List Str) (f:Addr) (d:FuncData):Prop where
 F:Fun K x q st f d
 b:Wg K d ps []
 m:Meth K C x f
section
variable {X:Cx} {fr:Bool} {j k:Nat} {f:Addr} {fd:FuncData} {ps:List Str} {sp:Sp} {x:Str} {st:Stmt} {p pos:Pos} {e:Expr} {es:List Expr} {t:TA}
def pcT (F:FnOk X.prog X.w X.K X.mg X.base (CXr X.prog X.w) k f fd ps sp) (hr:Room j X.A) (q:FT X.K X.mg x st ps f fd) (ha:PA X (e :: es) t) (hk:k<=j:=by decide) (hg:Gl X x:=by rfl) (ny:(H:)=false:=by decide) (he:starEach (e :: es) X.env=(I:) :: starEach es X.env:=by rfl) (lg:(z:).any (·.1)=false:=by rfl) :
  PE X (V:) (Zjf sp [] E0 t):=Zqi F (hr.mono hk) hg q.g q.F.kp q.b .nil Yv ha ny he lg
def pxT (F:FnOk X.prog X.w X.K X.mg X.base (CXr X.prog X.w) k f fd ps sp) (hr:Room j X.A) (q:FT X.K X.mg x st ps f fd) (ha:PA X (e :: es) t) (hk:k<=j:=by decide) (hg:Gl X x:=by rfl) (hex:X.ex=[]:=by rfl) (hx:X.xe=(ci:):=by rfl) (ny:(H:)=false:=by decide) (he:starEach (e :: es) X.env=(I:) :: starEach es X.env:=by rfl) (lg:(z:).any (·.1)=false:=by rfl) :
  PEX fr X (V:) (Zk0 sp [] t):=Zn6 F (hr.mono hk) hg q.g q.F.kp q.b .nil ha hex hx ny he lg
end
def BA (q:Str) (st:Stmt) (ps:List Str):Prop:=∀ (x:Str) (kV k6 pm:Value) (an:Option Addr) (kj ct:Value) (us:List Value),us.length=ps.length->bindArgs (O:) ⟨us,[]⟩=pure (ps.zip us)
def Ziq {α:Type} {us:List α} (e:us.length=2):∃ a b,us=[a,b]:=by
 obtain ⟨a,us,rfl⟩:=exists_cons_of_length_eq_add_one e;obtain ⟨b,rfl⟩:=length_eq_one_iff.mp (Nat.succ.inj e);exact ⟨a,b,Y⟩
def Zdd {α:Type} {us:List α} (e:us.length=3):∃ a b c,us=[a,b,c]:=by
 obtain ⟨a,us,rfl⟩:=exists_cons_of_length_eq_add_one e;obtain ⟨b,c,rfl⟩:=Ziq (Nat.succ.inj e);exact ⟨a,b,c,Y⟩
def ba1 {ps:List Str} (h:∀ (x:Str) (kV k6 pm:Value) (an:Option Addr) (kj ct:Value) (a:Value),bindArgs (O:) ⟨[a],[]⟩=pure (ps.zip [a])) (hl:ps.length=1):BA q st ps:=λx kV k6 pm an kj ct us e=>by
 rw [hl] at e;obtain ⟨a,rfl⟩:=length_eq_one_iff.mp e;exact h x kV k6 pm an kj ct a
def ba2 {ps:List Str} (h:∀ (x:Str) (kV k6 pm:Value) (an:Option Addr) (kj ct:Value) (a b:Value),bindArgs (O:) ⟨[a,b],[]⟩=pure (ps.zip [a,b])) (hl:ps.length=2):BA q st ps:=λx kV k6 pm an kj ct us e=>by
 rw [hl] at e;obtain ⟨a,b,rfl⟩:=Ziq e;exact h x kV k6 pm an kj ct a b
def ba3 {ps:List Str} (h:∀ (x:Str) (kV k6 pm:Value) (an:Option Addr) (kj ct:Value) (a b c:Value),bindArgs (O:) ⟨[a,b,c],[]⟩=pure (ps.zip [a,b,c])) (hl:ps.length=3):BA q st ps:=λx kV k6 pm an kj ct us e=>by
 rw [hl] at e;obtain ⟨a,b,c,rfl⟩:=Zdd e;exact h x kV k6 pm an kj ct a b c
def ba4 {q:Str} {st:Stmt} {ps:List Str} (h:∀ (x:Str) (kV k6 pm:Value) (an:Option Addr) (kj ct:Value) (a b c d:Value),bindArgs (O:) ⟨[a,b,c,d],[]⟩=pure (ps.zip [a,b,c,d])) (hl:ps.length=4):BA q st ps:=λx kV k6 pm an kj ct us e=>by
 rw [hl] at e;obtain ⟨a,us,rfl⟩:=exists_cons_of_length_eq_add_one e;obtain ⟨b,c,d,rfl⟩:=Zdd (Nat.succ.inj e);exact h x kV k6 pm an kj ct a b c d
def ba5 {q:Str} {st:Stmt} {ps:List Str} (h:∀ (x:Str) (kV k6 pm:Value) (an:Option Addr) (kj ct:Value) (a b c d e:Value),bindArgs (O:) ⟨[a,b,c,d,e],[]⟩=pure (ps.zip [a,b,c,d,e])) (hl:ps.length=5):BA q st ps:=λx kV k6 pm an kj ct us e=>by
 rw [hl] at e
 match us,e with
 | [a,b,c,d,e],_=>exact h x kV k6 pm an kj ct a b c d e
section
variable {K:W.Frag} {h:Heap} {mg:Str->Option Value} {C:Addr} {x q:Str} {st:Stmt} {ps:List Str} {f:Addr} {oc:Value} {od an:Option Addr} {sl:Array (Option Value)} {kV k6 pm cd ct:Value}
def FT.of (X:K.In h) (G:h.Ns mainGlobals mg) (B:BA x st ps) (a:PySem.W.nsIn K mainGlobals x=some (some (.ref f))) (l:K.lookup f=some ⟨oc,od,.func (PySem.W.fnOf x x (Xs st) (Yu st) (Zg st) .none kV k6 pm an cd ct),sl⟩)
  (c:PySem.W.codeIn K cd x=true) (k:PySem.W.keepIn K (.ref f)=true):FT K mg x st ps f (PySem.W.fnOf x x (Xs st) (Yu st) (Zg st) .none kV k6 pm an cd ct):=⟨Zbr l c k,(Zbr l c k).binds (B x),PySem.W.mg_of X G a⟩
def FM.of (B:BA q st ps) (a:PySem.W.findIn K (.ref C) x=some (some (.ref f))) (i:PySem.W.isFn K (.ref f)=true) (l:K.lookup f=some ⟨oc,od,.func (PySem.W.fnOf x q (Xs st) (Yu st) (Zg st) .none kV k6 pm an cd ct),sl⟩)
  (c:PySem.W.codeIn K cd q=true) (k:PySem.W.keepIn K (.ref f)=true):FM K C x q st ps f (PySem.W.fnOf x q (Xs st) (Yu st) (Zg st) .none kV k6 pm an cd ct):=⟨Zbr l c k,(Zbr l c k).binds (B x),⟨a,i,k⟩⟩
end
def top (i:Nat):Stmt:=PySem.Challenge.pw_tentloops_k71_books_refused_by_deeds.main.body.getD i (.Pass ⟨0,0,0,0⟩)
abbrev Zia:Stmt:=top 24
abbrev Zfu:Stmt:=top 25
abbrev Za4:Stmt:=top 26
abbrev Zax:Stmt:=top 27
abbrev Zaz:Stmt:=top 28
abbrev Fo:Stmt:=Y6 (top 29) 0
abbrev Fm:Stmt:=Y6 (top 29) 1
abbrev Kl:Stmt:=Y6 (top 29) 3
abbrev Vs:Stmt:=Y6 (top 29) 5
abbrev Q6:Stmt:=Y6 (top 29) 6
abbrev Um:Stmt:=Y6 (top 29) 7
abbrev O4:Stmt:=Y6 (top 29) 8
abbrev Fn:Stmt:=Y6 (top 29) 9
abbrev Ul:Stmt:=Y6 (top 29) 10
abbrev Za0:Stmt:=top 32
abbrev Fe:Stmt:=top 33
abbrev Zfk:Stmt:=top 34
abbrev Zfl:Stmt:=top 35
abbrev Fj:Stmt:=top 36
abbrev Fk:Stmt:=top 38
abbrev Zc3:Stmt:=top 39
abbrev Zh8:Stmt:=top 40
abbrev Oz:Stmt:=top 41
abbrev Zfj:Stmt:=top 42
abbrev Uk:Stmt:=top 45
abbrev O1:Stmt:=top 46
abbrev V2:Stmt:=top 47
abbrev V6:Stmt:=top 48
abbrev Znw:Stmt:=top 51
abbrev Vr:Stmt:=top 53
abbrev V5:Stmt:=top 54
abbrev Za3:Stmt:=top 55
abbrev Kj:Stmt:=top 56
abbrev O2:Stmt:=top 57
abbrev V3:Stmt:=top 58
abbrev Zcw:Stmt:=top 59
abbrev Fc:Stmt:=top 60
abbrev Zcz:Stmt:=top 68
abbrev Zc2:Stmt:=top 69
abbrev Fi:Stmt:=top 70
abbrev Zc4:Stmt:=top 71
abbrev Zay:Stmt:=top 72
abbrev O3:Stmt:=top 73
abbrev Km:Stmt:=Y6 (top 77) 0
abbrev Fb:Stmt:=top 78
abbrev Ui:Stmt:=top 79
abbrev V4:Stmt:=top 80
abbrev O0:Stmt:=top 81
abbrev Kk:Stmt:=top 82
abbrev Uj:Stmt:=top 83
abbrev Fs:Stmt:=Y6 (top 84) 0
abbrev Ko:Stmt:=Y6 (top 84) 1
abbrev Za6:Stmt:=Y6 (top 84) 2
abbrev Fq:Stmt:=Y6 (top 84) 3
abbrev Fr:Stmt:=Y6 (top 84) 4
abbrev Kn:Stmt:=Y6 (top 84) 5
abbrev Fp:Stmt:=Y6 (top 84) 6
abbrev Kp:Stmt:=Y6 (top 84) 9
abbrev Ff:Stmt:=top 87
abbrev Zcy:Stmt:=top 88
abbrev Fd:Stmt:=top 89
abbrev Vq:Stmt:=top 90
abbrev Fl:Stmt:=top 91
abbrev Zfm:Stmt:=top 92
abbrev Zcx:Stmt:=top 93
abbrev Zc0:Stmt:=top 94
abbrev Zaw:Stmt:=top 95
abbrev Zcv:Stmt:=top 96
abbrev Zc6:Stmt:=top 98
abbrev Zc5:Stmt:=top 99
abbrev Za5:Stmt:=top 100
abbrev Qw:Stmt:=top 101
abbrev Zlh:Stmt:=top 102
abbrev Zc1:Stmt:=top 104
abbrev Zft:Stmt:=top 105
abbrev Fh:Stmt:=top 106
abbrev Zfr:Stmt:=top 107
abbrev Zfs:Stmt:=top 108
abbrev Zfp:Stmt:=top 109
abbrev Zfn:Stmt:=top 110
abbrev Za1:Stmt:=top 111
abbrev Zfo:Stmt:=top 112
abbrev Zfq:Stmt:=top 113
abbrev Zh9:Stmt:=top 114
abbrev Za2:Stmt:=top 115
abbrev Fg:Stmt:=top 116
abbrev Zpb:Stmt:=top 117
structure Adr where
 (aa ah ag ja il fF fG fH bU dP c6 bg a9 bV cF dQ bW fI dR im ip dU dW gG jb cG iq bX cH bF bG ir bi bH fJ c7 cI bI gH dX gI gJ dY gK fK cJ bv dZ bY bJ cK c9 bZ b6 db fL d0 d4 dc d5 de d6 gL d7 bj d8 df cA cB bw cC dB gM fM aV jt gN iu d9 iw iy iz iA fN iB iC jc fO eu jM aE aT ie bn az cL aG dg aJ ay fP aF b9 fQ aU aK cD bo eA:Addr)
 (jd iD fR fU fV eB eC dh bp ba ce cM eE cf fW eF iE iF eG eJ gO je cN iG cg cO bK bL iH bq bM fX di cP bO gP eK gQ gR eO gS fY cQ dj eP ci bP cR dk cj eQ dm fZ eT eU dn eV dq eW gT eX br eY iI gU gV f6 gW dC gX f7 aW ju gY iJ eZ iK iL iM iN f8 iO iP jf f9 fb jv:FuncData)
 (fz fA jo gc gd jT dw gE fB:Tok)
noncomputable def exL (t:Adr):List Addr:=[t.az,t.cL,t.aG,t.aU,t.aK,t.aF,t.b9,t.fQ,t.ay,t.cD,t.bo,t.aJ]
structure Txt (w:World) (K:W.Frag) (mg:Str->Option Value) (t:Adr):Prop where
 jg:mg "Tent"=some (.ref t.aa)
 ae:Cls K t.aa
 bd:Xe K t.aa "cloths"
 aA:Xe K t.aa "names_at"
 aH:Xe K t.aa "spots"
 dz:Xe K t.aa "mates"
 cm:mg "Scene"=some (.ref t.ah)
 ac:Cls K t.ah
 al:Xe K t.ah "tent"
 am:Xe K t.ah "threads"
 av:Xe K t.ah "pools"
 aB:Xe K t.ah "worths"
 jF:mg "Hall"=some (.ref t.ag)
 ai:Cls K t.ag
 bx:Xe K t.ag "began"
 aq:Xe K t.ag "scene"
 aQ:Xe K t.ag "standing"
 cS:Xe K t.ag "undone"
 ig:FT K mg "after" Zia ["place"] t.ja t.jd
 gf:FT K mg "before" Zfu ["place"] t.il t.iD
 aY:FT K mg "cloth_of" Za4 ["place"] t.fF t.fR
 gh:FT K mg "spots_of" Zax ["names_at"] t.fG t.fU
 gj:FT K mg "mates_of" Zaz ["spots","count"] t.fH t.fV
 cn:FM K t.aa "__init__" "Tent.__init__" Fo ["self","rows"] t.bU t.eB
 aO:FM K t.aa "rows" "Tent.rows" Fm ["self"] t.dP t.eC
 aI:FM K t.aa "seams" "Tent.seams" Kl ["self"] t.c6 t.dh
 ax:FM K t.aa "has_place" "Tent.has_place" Vs (bk:) t.bg t.bp
 ar:FM K t.aa "look_place" "Tent.look_place" Q6 (bk:) t.a9 t.ba
 ap:FM K t.aa "seam_at" "Tent.seam_at" Um (bk:) t.bV t.ce
 aD:FM K t.aa "places" "Tent.places" O4 ["self","seam"] t.cF t.cM
 aP:FM K t.aa "mate" "Tent.mate" Fn (bk:) t.dQ t.eE
 ak:FM K t.aa "sort_of" "Tent.sort_of" Ul ["self","seam"] t.bW t.cf
 gk:FT K mg "look_way" Za0 ["way"] t.fI t.fW
 cp:FT K mg "look_free" Fe ["tent","seam"] t.dR t.eF
 dA:FT K mg "square" Zfk ["tent","seam"] t.im t.iE
 iQ:FT K mg "shifts" Zfl ["tent","seam","way"] t.ip t.iF
 fc:FT K mg "exchanged" Fj ["tent","seam","way"] t.dU t.eG
 fg:FT K mg "crossable" Fk ["tent","place"] t.dW t.eJ
 gZ:FT K mg "follows" Zc3 ["tent","ahead","place"] t.gG t.gO
 jh:FT K mg "plain" Zh8 ["tent","word"] t.jb t.je
 cT:FT K mg "look_thread" Oz ["tent","word"] t.cG t.cN
 iR:FT K mg "turned" Zfj ["word","by"] t.iq t.iG
 cq:FT K mg "look_numbers" Uk ["tent","counts"] t.bX t.cg
 cU:FT K mg "look_counts" O1 ["tent","counts"] t.cH t.cO
 bQ:FT K mg "number_behind" V2 (eu:) t.bF t.bK
 bR:FT K mg "counts_behind" V6 (eu:) t.bG t.bL
 jx:FT K mg "pulled" Znw ["tent","seam","way","word"] t.ir t.iH
 bt:FT K mg "common_measure" Vr ["one","other"] t.bi t.bq
 bS:FT K mg "look_fraction" V5 ["top","bottom"] t.bH t.bM
 bz:FT K mg "fraction" Za3 ["top","bottom"] t.fJ t.fX
 bA:FT K mg "sewn_seams" Kj ["tent"] t.c7 t.di
 cV:FT K mg "even_worths" O2 ["tent"] t.cI t.cP
 bT:FT K mg "lowest_worths" V3 ["tent","worths"] t.bI t.bO
 g9:FT K mg "product" Zcw ["one","other"] t.gH t.gP
 fh:FT K mg "stretched" Fc ["tent","worths","seam"] t.dX t.eK
 dD:FT K mg "made_of" Zcz ["text","signs"] t.gI t.gQ
 dE:FT K mg "is_name" Zc2 ["text"] t.gJ t.gR
 fi:FT K mg "is_number" Fi ["text"] t.dY t.eO
 dF:FT K mg "figures" Zc4 ["number"] t.gK t.gS
 bB:FT K mg "row_text" Zay ["words"] t.fK t.fY
 cW:FT K mg "counts_text" O3 ["counts"] t.cJ t.cQ
 aC:FM K t.ah "__init__" "Scene.__init__" Km (ds:) t.bv t.dj
 cr:FT K mg "with_item" Fb ["table","name","value"] t.dZ t.eP
 aZ:FT K mg "without_item" Ui ["table","name"] t.bY t.ci
 aS:FT K mg "look_new_name" V4 ["scene","name"] t.bJ t.bP
 bf:FT K mg "look_length" O0 ["word"] t.cK t.cR
 bC:FT K mg "look_parts" Kk ["parts"] t.c9 t.dk
 cu:FT K mg "turned_scene" Uj ["scene","seam","way"] t.bZ t.cj
 fj:FM K t.ag "__init__" "Hall.__init__" Fs ["self","rows"] t.b6 t.eQ
 ao:FM K t.ag "enter" "Hall.enter" Ko ["self","text","scene"] t.db t.dm
 cY:FM K t.ag "lay" "Hall.lay" Za6 ["self","name","word"] t.fL t.fZ
 cv:FM K t.ag "pour" "Hall.pour" Fq ["self","name","counts"] t.d0 t.eT
 cw:FM K t.ag "lift" "Hall.lift" Fr ["self","name"] t.d4 t.eU
 bD:FM K t.ag "weigh" "Hall.weigh" Kn ["self","seam","top","bottom"] t.dc t.dn
 cx:FM K t.ag "turn" "Hall.turn" Fp ["self","seam","way"] t.d5 t.eV
 bE:FM K t.ag "deeds" "Hall.deeds" Kp ["self"] t.de t.dq
 aj:FT K mg "look_form" Ff ["right"] t.d6 t.eW
 cE:FT K mg "name_in" Zcy ["word"] t.gL t.gT
 au:FT K mg "number_in" Fd ["word"] t.d7 t.eX
 aL:FT K mg "two_numbers_in" Vq ["word","sign"] t.bj t.br
 fk:FT K mg "counts_in" Fl ["words"] t.d8 t.eY
 gl:FT K mg "lay_in" Zfm ["words"] t.df t.iI
 dG:FT K mg "pour_in" Zcx ["words"] t.cA t.gU
 dH:FT K mg "lift_in" Zc0 ["words"] t.cB t.gV
 cZ:FT K mg "weigh_in" Zaw ["words"] t.bw t.f6
 dJ:FT K mg "turn_in" Zcv ["words"] t.cC t.gW
 hG:FT K mg "deed_in" Zc6 ["text"] t.dB t.dC
 hJ:FT K mg "do_deed" Zc5 ["hall","deed"] t.gM t.gX
 gm:FT K mg "cloth_in" Za5 ["row"] t.fM t.f7
 a6:FT K mg "cloth_rows_ahead" Qw ["rows"] t.aV t.aW
 jy:FT K mg "read" Zlh ["text"] t.jt t.ju
 dL:FT K mg "_law_named" Zc1 ["_law_rows_here","_law_counts"] t.gN t.gY
 a8:FT K mg "_law_cell" Zft ["_law_script","_law_at"] t.iu t.iJ
 cy:FT K mg "_law_numbers" Fh ["_law_cell_here","_law_many"] t.d9 t.eZ
 iS:FT K mg "_law_sewn" Zfr ["_law_nums","_law_many","_law_share"] t.iw t.iK
 iT:FT K mg "_law_rows" Zfs ["_law_mates","_law_start","_law_step"] t.iy t.iL
 iU:FT K mg "_law_tent" Zfp ["_law_script"] t.iz t.iM
 iV:FT K mg "_law_walk" Zfn ["_law_mates","_law_nums"] t.iA t.iN
 gn:FT K mg "_law_thread" Za1 ["_law_script","_law_at","_law_mates"] t.fN t.f8
 iW:FT K mg "_law_told" Zfo ["_law_text"] t.iB t.iO
 gq:FT K mg "_law_sort" Zfq ["_law_mates","_law_rows_here","_law_seam"] t.iC t.iP
 bb:FT K mg "_law_row" Zh9 ["_law_counts"] t.jc t.jf
 gs:FT K mg "_law_spoilt" Za2 (d6:) t.fO t.f9
 fo:FT K mg "_law_refused" Fg (eb:) t.eu t.fb
 jN:FT K mg "law" Zpb ["_law_script"] t.jM t.jv
 ji:Mk K t.aa t.bU
 cz:Mk K t.ah t.bv
 jG:Mk K t.ag t.b6
 fC:mg "GREATEST_NAME"=some (.int 9999 t.fz)
 fD:mg "SMALL_LETTERS"=some (.str (Str.ofString "abcdefghijklmnopqrstuvwxyz") t.fA)
 jp:mg "FIGURES"=some (.str (Str.ofString "0123456789") t.jo)
 gu:mg "LONGEST_NAME"=some (.int 8 t.gc)
 gw:mg "MOST_FIGURES"=some (.int 61 t.gd)
 jz:mg "PART"=some (.int 1000000000000000000000000000000000000000000000000000000000000 t.jT)
 jk:mg "WRITTEN_AT_ONCE"=some (.int 60 t.dw)
 gF:mg "MOST_PLACES"=some (.int 400 t.gE)
 fE:mg "GREATEST_PART"=some (.int 1000000000000000000000000000000000000000000000000000000000000 t.fB)
 dM:mg "CONTRARY_WAYS"=some (.ref t.aE)
 dO:Vh w K t.aE [(Sum.inr "left",.str "right"),(Sum.inr "right",.str "left")]
 gx:mg "READERS"=some (.ref t.aT)
 gy:Vh w K t.aT (ct:)
 jH:mg "WAYS"=some (.ref t.ie)
 jI:KTup K t.ie ["left","right"]
 bl:∀ (s:Shared) (u:Value),BindsTo s t.jv ⟨[u],[]⟩ [("_law_script",u)]
 jA:mg "all"=none
 jO:mg "any"=none
 gz:mg "dict"=none
 iX:mg "enumerate"=none
 jW:mg "int"=none
 ii:mg "isinstance"=none
 af:mg "len"=none
 i4:mg "list"=none
 iY:mg "max"=none
 aM:mg "range"=none
 gA:mg "reversed"=none
 jX:mg "set"=none
 bu:mg "sorted"=none
 gB:mg "str"=none
 jP:mg "sum"=none
 jm:mg "tuple"=none
 jQ:mg "zip"=none
 i5:mg "NoPlace"=some (.ref t.bn)
 jq:ExcK K t.bn bmV "ValueError.__new__"
 hU:mg "NoSeam"=some (.ref t.az)
 jB:ExcK K t.az bmV "ValueError.__new__"
 i6:mg "Rim"=some (.ref t.cL)
 jR:ExcK K t.cL bmV "ValueError.__new__"
 hV:mg "Locked"=some (.ref t.aG)
 jC:ExcK K t.aG bmV "ValueError.__new__"
 jD:mg "NoWay"=some (.ref t.dg)
 jJ:ExcK K t.dg bmV "ValueError.__new__"
 fq:mg "NoThread"=some (.ref t.aJ)
 i8:ExcK K t.aJ bmV "ValueError.__new__"
 cX:mg "NoFraction"=some (.ref t.ay)
 ij:ExcK K t.ay bmV "ValueError.__new__"
 jS:mg "NoWorths"=some (.ref t.fP)
 jU:ExcK K t.fP bmV "ValueError.__new__"
 bc:mg "NoCounts"=some (.ref t.aF)
 c5:ExcK K t.aF bmV "ValueError.__new__"
 hX:mg "Uneven"=some (.ref t.b9)
 jE:ExcK K t.b9 bmV "ValueError.__new__"
 jn:mg "Wide"=some (.ref t.fQ)
 jV:ExcK K t.fQ bmV "ValueError.__new__"
 gC:mg "TooMany"=some (.ref t.aU)
 jr:ExcK K t.aU bmV "ValueError.__new__"
 fu:mg "TooGreat"=some (.ref t.aK)
 i9:ExcK K t.aK bmV "ValueError.__new__"
 iZ:mg "Taken"=some (.ref t.cD)
 jK:ExcK K t.cD bmV "ValueError.__new__"
 gD:mg "Unknown"=some (.ref t.bo)
 js:ExcK K t.bo bmV "ValueError.__new__"
 jL:mg "TentError"=some (.ref t.eA)
 xq:((exL t).all λa=>(exL t).all λb=>PySem.W.exmOne K (.ref a) (.ref b) == some (decide (a=b)))=true
 xb:((exL t).all λa=>PySem.W.exmOne K (.ref a) (.ref t.eA) == some true && PySem.W.kitOne K (.ref a) (.type "ValueError") == some true)=true
 xn:(exL t).Nodup
def Same.add (s:Same H H1) (hp:H p=none):Same H (upd H1 p o):=λb u e=>by rw [Ze (Zk e hp)]; exact s b u e
def Same.new {H:Hp} {p:Addr} {o:HO} (hp:H p=none):Same H (upd H p o):=Same.add (Same.refl H) hp
def Z0 (ur:St->Hp->Prop) (ht:∀ nx:St->Hp->Prop,(∀ σ H,ur σ H->nx σ H)->t { D with nx:=nx } σ H) (hu:∀ σ H,ur σ H->u D σ H):tSeq t u D σ H:=ht (u D) hu
def Zw (ht:∀ nx:St->Hp->Prop,(∀ σ H,u D σ H->nx σ H)->t { D with nx:=nx } σ H):tSeq t u D σ H:=ht (u D) λ_ _ h=>h
def Zgn (xs:List Int) (y:Int):xs.map V.int ++ [V.int y]=(xs ++ [y]).map V.int:=by simp
def getI {ns:List Int} (h:n < ns.length):(L:)[n]?=some (V.int (ns.getD n 0)):=by
 rw [Ah,Ac h,Ad,Ac h];rfl
noncomputable def cell (ns:List Int) (n:Int):Int:=if n < ns.length then ns.getD n.toNat 0 else if ns.length=0 then 31 * n + 7 else ns.getD (n % ns.length).toNat 0 % 1000003 + 101 * n
def Zp4 (K:W.Frag):Sp:=λvs H Q _=>∃ (a:Addr) (ns:List Int) (n:Int),vs=[.ref a,.int n]/\SqL K H a (L:)/\ns.length<=63/\0<=n/\n < 1000000/\Q (.int (cell ns n)) H
def Zji:Sp:=λvs H Q _=>∃ (c:Int) (n:Nat),vs=[.int c,.int n]/\n<=60/\∀ (p:Addr) (xs:List Int) (H':Hp),Same H H'->H p=none->H' p=some (ep:)->xs.length=n->(cq:)->Q (.ref p) H'
section
variable {P:Program} {w:World} {K:W.Frag} {mg:Str->Option Value} {base:Heap} {t:Adr}
def Zlf:FnScope ["_law_script","_law_at"] ["_law_script","_law_at"] (Zg Zft):=Am
def J1 (T:Txt w K mg t):(a:) 1 t.iu t.iJ ["_law_script","_law_at"] (Zp4 K):=by
 refine T.a8.F.aR Zlf (b:)
 ·obtain ⟨a,ns,n,rfl,hS,hl,h0,h1,k⟩:=h
  refine ⟨_,(Zf (Yj (Zs Jr (pv 1) (ck:) (Zn _)) (Zh (Zl (Zt Zv (pv 0) (pv 1) (j:)))) Z8)
   (Zf (Yj (Zs Yf (ck:) Zd (Zn _)) (Zh (Zl (Zi Yi (Zi Wy Zd (pv 1)) Zd))) Z8)
   (Zh (Zl (Zi Yi (Zi Z7 (Zt Zv (pv 0) (Zi Z7 (pv 1) (ck:)) (j:)) Zd) (Zi Wy Zd (pv 1))))))),?_⟩;have el:((L:).length:Int)=ns.length:=by simp
  refine ⟨a,_,Y,.inl hS,?_⟩;rw [el];refine ite2 (λh=>?_) (λh=>?_)
  ·have h:n < ns.length:=by simpa using h
   have e:cell ns n=ns.getD n.toNat 0:=if_pos h;have en:n=(n.toNat:Int):=by lia
   have ei:atI (L:) n=some (V.int (ns.getD n.toNat 0)):=by rw [en]; exact Xa (getI (n:=n.toNat) (by lia))
   rw [e] at k;exact ⟨hS,ei,k⟩
  ·have h:¬ n < ns.length:=by simpa using h
   have e:cell ns n=if ns.length=0 then 31 * n + 7 else ns.getD (n % ns.length).toNat 0 % 1000003 + 101 * n:=if_neg h
   refine ⟨a,_,Y,.inl hS,Y,?_⟩;rw [el];refine ite2 (λg=>?_) (λg=>?_)
   ·have g:ns.length=0:=by simpa using g
    refine ⟨.inl ⟨by decide,by decide⟩,?_⟩;rw [if_pos g] at e;rw [e] at k; exact k
   ·have g:¬ ns.length=0:=by simpa using g
    have gp:(0:Int) < ns.length:=by lia
    rw [if_neg g] at e;have m0:=Int.emod_nonneg n (show (ns.length:Int)≠0 by lia);have m1:=Int.emod_lt_of_pos n gp;refine ⟨a,_,Y,.inl hS,(by rw [el]; exact gp),hS,(?_:atI _ _=some (V.int (ns.getD (n % ns.length).toNat 0))),(by show (0:Int) < 1000003; decide),.inl ⟨by decide,by decide⟩,?_⟩
    ·rw [el]
     have en:n % (ns.length:Int)=((n % (ns.length:Int)).toNat:Int):=by lia
     rw [en];exact Xa (getI (by lia))
    ·rw [e] at k; exact k
def Wm:FnScope ["_law_cell_here","_law_many","_law_row_here","_law_rest","_law_seed"] ["_law_cell_here","_law_many"] (Zg Fh):=Am
def K2 (T:Txt w K mg t):(a:) 1 t.d9 t.eZ ["_law_cell_here","_law_many"] Zji:=by
 refine T.cy.F.aR Wm (b:)
 ·obtain ⟨c,n,rfl,hn60,k⟩:=h
  refine ⟨_,(Zf (psN 2 Wm.nd (Yz Zb))
   (Zf (psN 3 Wm.nd (Zi Qz (pv 0) (Zi Zsg Zd Zd)))
   (Zf (Qg PassesOwn.never (PW.pt (Kt (Zs J6 (pv 3) Zd (Zn _)) (Up (Zs Jr (ei:) (pv 1) (Zn _))))) (Zf (Z5 (Wp (pv 2) (Za (Zi Z7 (pv 3) Zd) Zb)))
   (Zh (psN 3 Wm.nd (Zi Y5 (pv 3) Zd)))))
   (Zf (psN 4 Wm.nd (Zi Z7 (pv 0) Zd))
   (Zf (Qg PassesOwn.never (Zs Jr (ei:) (pv 1) (Zn _)) (Zf (psN 4 Wm.nd (Zi Z7 (Zi Yi (Zi Yi (Zi Wy (pv 4) Zd) Zd) (ei:)) Zd))
   (Zh (Z5 (Wp (pv 2) (Za (Zi Z7 (Zi Y5 (Zi Z7 (Zi Wy (pv 4) Zd) Zd) Zd) Zd) Zb))))))
   (Zh (Zl (pv 2)))))))),?_⟩;refine ⟨Az _,λr ua=>?_⟩;refine ⟨⟨by decide,by decide,by decide⟩,?_⟩;show tSeq (Zao _ _) _ _ _ _;refine Z0 (λσ H1=>∃ (xs:List Int) (j6:Int),σ=[oI c,oI n,oR r,oI j6,none]/\Same H H1/\H1 r=some (ep:)/\xs.length<=n/\(cq:)) (D:) ?_
  ·refine ⟨λm σ H1=>∃ (xs:List Int) (j6:Int),m=n - xs.length/\σ=[oI c,oI n,oR r,oI j6,none]/\Same H H1/\H1 r=some (ep:)/\xs.length<=n/\(cq:),
    ⟨n,[],_,rfl,rfl,Same.new ua,Zc,Az _,λx hx=>absurd hx (by simp)⟩,?_⟩
   rintro m σ H1 ⟨xs,j6,rfl,rfl,sm,h1,hl,hx⟩;have el:((xs.map V.int).length:Int)=xs.length:=by simp
   refine (ite2 (λ_=>?_) (λ_=>?_))
   ·refine ⟨r,_,Y,.inl (SqL.of h1),?_⟩
    rw [el];refine ite2 (λg=>?_) (λ_=>?_)
    ·have g:(xs.length:Int) < n:=by simpa using g
     refine ⟨_,λσ' H' h=>h,?_⟩;refine ⟨.inl ⟨Y,_,SqL.of h1⟩,(by show (0:Int) < 1009; decide),r,_,_,rfl,rfl,h1,(cv:),⟨by decide,by decide⟩,n - (xs ++ [j6 % 1009]).length,?_,xs ++ [j6 % 1009],_,Y,Y,Same.add sm ua,?_,?_,?_⟩
     ·rw [Ae,At]; lia
     ·rw [Zc,<- Zgn]
     ·rw [Ae,At]; lia
     ·intro x hm
      rcases mem_append.mp hm with z | z
      ·exact hx x z
      ·have:x=j6 % 1009:=by simpa using z
       subst this;lia
    ·exact kc _ _ ⟨xs,j6,Y,sm,h1,hl,hx⟩
   ·exact kc _ _ ⟨xs,j6,Y,sm,h1,hl,hx⟩
  rintro σ H1 ⟨xs,j6,rfl,sm,h1,hl,hx⟩;refine ⟨(by show (0:Int) < 2147483629; decide),?_⟩;show tSeq (Zao _ _) _ _ _ _;refine Z0 (λσ H1=>∃ (xs:List Int) (j6 qf:Int),σ=[oI c,oI n,oR r,oI j6,oI qf]/\Same H H1/\H1 r=some (ep:)/\xs.length=n/\(cq:)) (D:) ?_
  ·refine ⟨λm σ H1=>∃ (xs:List Int) (j6 qf:Int),m=n - xs.length/\σ=[oI c,oI n,oR r,oI j6,oI qf]/\Same H H1/\H1 r=some (ep:)/\xs.length<=n/\(cq:),
    ⟨n - xs.length,xs,j6,_,rfl,rfl,sm,h1,hl,hx⟩,?_⟩
   clear h1 hl hx sm xs j6;rintro m σ H1 ⟨xs,j6,qf,rfl,rfl,sm,h1,hl,hx⟩;have el:((xs.map V.int).length:Int)=xs.length:=by simp
   refine ⟨r,_,Y,.inl (SqL.of h1),?_⟩;rw [el];refine ite2 (λg=>?_) (λg=>?_)
   ·have g:(xs.length:Int) < n:=by simpa using g
    refine ⟨_,λσ' H' h=>h,?_⟩;refine ⟨.inr ⟨by decide,by decide⟩,r,_,Y,.inl (SqL.of h1),(by show (0:Int) < 2147483647; decide),?_⟩;obtain ⟨y,hy⟩:∃ y,y=(qf * 48271 + 12345 + ((xs.map V.int).length:Int)) % 2147483647 * 69621 % 2147483629 / 7 % 1009:=⟨_,rfl⟩;refine ⟨.inl ⟨Y,_,SqL.of h1⟩,.inr ⟨by decide,by decide⟩,(by show (0:Int) < 2147483629; decide),⟨by decide,by decide⟩,(by show (0:Int) < 1009; decide),r,_,_,rfl,rfl,h1,(cv:),n - (xs ++ [y]).length,?_,xs ++ [y],_,_,Y,Y,Same.add sm ua,?_,?_,?_⟩
    ·rw [Ae,At]; lia
    ·rw [Zc,<- Zgn,hy]
    ·rw [Ae,At]; lia
    ·intro x hm
     rcases mem_append.mp hm with z | z
     ·exact hx x z
     ·have:x=y:=by simpa using z
      rw [this,hy];exact ⟨Int.emod_nonneg _ (c:),Int.emod_lt_of_pos _ (c:)⟩
   ·have g:¬ (xs.length:Int) < n:=by simpa using g
    exact kc _ _ ⟨xs,j6,qf,Y,sm,h1,by lia,hx⟩
  rintro σ H1 ⟨xs,j6,qf,rfl,sm,h1,hl,hx⟩;exact k r xs H1 sm ua h1 hl hx
def Zpz (K:W.Frag):Sp:=λvs H Q _=>∃ (a:Addr) (xs:List Int) (n:Nat) (sh:Int),vs=[.ref a,.int n,.int sh]/\H a=some (ep:)/\xs.length=60/\(cq:)/\1<=n/\n<=14 /\
 ∀ (p:Addr) (M:Lq) (H':Hp),Same H H'->H p=none->H' p=some (a4:)->M.length=3 * n->(be:)->Q (.ref p) H'
def map_set {α:Type} (f:α->V) (l:List α) (i:Nat) (x:α):(l.map f).set i (f x)=(l.set i x).map f:=by rw [List.map_set]
def U0 (h:i < n):ixN n (i:Int)=some i:=by
 unfold ixN;simp;lia
theorem Zmx {α β:Type} (f:α->β):∀ (l:List α) (i:Nat),(l.map f).eraseIdx i=(l.eraseIdx i).map f
 | [],_=>rfl
 | _ :: _,0=>rfl
 | a :: r,i + 1=>by rw [map_cons,eraseIdx_cons_succ,Zmx f r i,eraseIdx_cons_succ,map_cons]
def natV (F:List Nat) (i:Nat):(F.map λ(j:Nat)=>V.int j)[i]?=(F[i]?).map λ(j:Nat)=>V.int j:=Ah ..
def Wv:FnScope ["_law_nums","_law_many","_law_share","_law_mates","_law_free","_law_at","_law_one","_law_pick","_law_other"] ["_law_nums","_law_many","_law_share"] (Zg Zfr):=Am
def Zl7 (T:Txt w K mg t):(a:) 1 t.iw t.iK ["_law_nums","_law_many","_law_share"] (Zpz K):=by
 refine T.iS.F.aR Wv (b:)
 ·obtain ⟨a,xs,n,sh,rfl,ha,hl,hx,h1,h2,k⟩:=h
  refine ⟨_,(Zf (psN 3 Wv.nd (Zi Ky (Yz (Za Uu Zb)) (Zi Wy Zd (pv 1))))
   (Zf (psN 4 Wv.nd (Zf0 rfl T.i4 rfl T.aM rfl (Za (Zi Wy Zd (pv 1)) Zb)))
   (Zf (psN 5 Wv.nd Zd)
   (Zf (Qg PassesOwn.never (Zs J6 (Zx T.af (Za (pv 4) Zb)) Zd (Zn _)) (Zf (psN 6 Wv.nd (W4 PySem.F.plainAttrs_list PySem.F.slot_list_pop PySem.F.type_list_pop Zgl (pv 4) (Za Zd Zb)))
   (Zf (psN 7 Wv.nd (Zt Zv (pv 0) (pv 5) (j:)))
   (Zf (psN 5 Wv.nd (Zi Yi (pv 5) Zd))
   (Zh (Yj (Zs Zeg (Zi Z7 (pv 7) Zd) (pv 2) (Zn _)) (Zf (psN 8 Wv.nd (W4 PySem.F.plainAttrs_list PySem.F.slot_list_pop PySem.F.type_list_pop Zgl (pv 4) (Za (Zi Z7 (Zi Y5 (pv 7) Zd) (Zx T.af (Za (pv 4) Zb))) Zb)))
   (Zf (Xu (pv 8) (Qy (pv 3) (pv 6) W7))
   (Zh (Xu (pv 6) (Qy (pv 3) (pv 8) W7))))) Z8))))))
   (Zh (Zl (pv 3))))))),?_⟩;refine ⟨(szR Y),λq hq=>⟨.inl ⟨by decide,by decide⟩,q,_,_,Y,Y,Zc,(by lia),(by lia),?_,λm hm=>?_⟩⟩
  ·have:(3 * (n:Int)).toNat=3 * n:=by lia
   show 1 * (3 * (n:Int)).toNat<=sizeLine;rw [this,sizeLine_eq]; lia
  have eN:(3 * (n:Int)).toNat=3 * n:=by lia
  have eM:(List.replicate (3 * (n:Int)).toNat [V.non]).flatten=(List.replicate (3 * n) (none:Option Nat)).map mV:=by
   rw [eN,flatten_replicate_singleton,map_replicate];rfl
  refine ⟨.inl ⟨by decide,by decide⟩,3 * n,(congrArg (λz=>[V.int z]) (by lia:(3 * (n:Int))=((3 * n:Nat):Int))),by lia,λf hf=>?_⟩;have tq:f≠m:=λz=>by rw [z,Zc] at hf; cases hf
  have qr:H m=none:=by
   have:m≠q:=λz=>by rw [z,Zc] at hm; cases hm
   rw [Ze this] at hm; exact hm
  have qt:H f=none:=by
   rw [Ze tq] at hf;have:f≠q:=λz=>by rw [z,Zc] at hf; cases hf
   rw [Ze this] at hf; exact hf
  have sm0:Same H (upd (upd (upd H q (.lst [.non])) m (.lst (List.replicate (3 * (n:Int)).toNat [V.non]).flatten)) f (.lst ((List.range (3 * n)).map λ(i:Nat)=>V.int i))):=Same.add (Same.add (Same.new hq) qr) qt;show tSeq (Zao _ _) _ _ _ _;refine Z0 (λσ H1=>∃ (M:Lq) (v4 v5 v6 v7 v8:Option V),σ=[oR a,oI n,oI sh,oR m,v4,v5,v6,v7,v8]/\Same H H1/\H1 m=some (a4:)/\M.length=3 * n/\∀ (i j:Nat),M[i]?=some (some j)->M[j]?=some (some i)/\i≠j) (D:) ?_
  ·refine ⟨λc σ H1=>∃ (F:List Nat) (M:Lq) (at':Nat) (v6 v7 v8:Option V),c=F.length/\σ=[oR a,oI n,oI sh,oR m,oR f,oI at',v6,v7,v8]/\Same H H1/\H1 m=some (a4:)/\H1 f=some (.lst (F.map λ(i:Nat)=>V.int i))/\SewOk (3 * n) F M/\at' + F.length<=3 * n,
    ⟨_,List.range (3 * n),List.replicate (3 * n) none,0,none,none,none,rfl,rfl,sm0,?_,Zc,SewOk.start _,by simp⟩,?_⟩
   ·rw [Ze tq.symm,Zc,eM]
   rintro c σ H1 ⟨F,M,at',v6,v7,v8,rfl,rfl,sm,g1,g2,hs,hat⟩;refine ⟨f,_,Y,.inl (SqL.of g2),?_⟩;rw [Ab];refine ite2 (λg=>?_) (λg=>?_)
   ·have g:1 < F.length:=by have:=of_decide_eq_true g; lia
    obtain ⟨one,F',rfl⟩:∃ one F',F=one :: F':=by
     cases F with
     | nil=>simp at g
     | cons a b=>exact ⟨a,b,Y⟩
    rw [length_cons] at g hat;refine ⟨_,λσ' H' h=>h,?_⟩;refine ⟨.inl ⟨Y,_,SqL.of g2⟩,f,_,0,0,V.int one,Y,Y,g2,by decide,by decide,(by simp [seqIndex?]),Y,?_⟩;have e0:((one :: F').map λ(i:Nat)=>V.int i).eraseIdx 0=F'.map λ(i:Nat)=>V.int i:=rfl;rw [e0];have g2':(upd H1 f (dk:)) f=some (dk:):=Zc;have g1':(upd H1 f (dk:)) m=some (a4:):=by rw [Ze tq.symm]; exact g1
    have sm':Same H (upd H1 f (dk:)):=Same.add sm qt;generalize upd H1 f (.lst (F'.map λ(i:Nat)=>V.int i))=H2 at g1' g2' sm' ⊢;have uu:at' < xs.length:=by lia
    refine ⟨SqL.of (sm' _ _ ha),Xa (getI uu),?_⟩;obtain ⟨p0,p1⟩:=hx _ (getElem_mem uu);have ep:xs.getD at' 0=xs[at']:=by rw [Ad,Ac uu]; rfl
    rw [ep];generalize xs[at']=ko at p0 p1 ⊢;refine ⟨(by show (0:Int) < 7; decide),(ite2 (λ_=>?_) (λ_=>?_))⟩
    ·-- other=free.pop(..)
     have hF:(0:Int) < F'.length:=by lia
     have k0:=Int.emod_nonneg (ko / 7) (show (F'.length:Int)≠0 by lia);have k1:=Int.emod_lt_of_pos (ko / 7) hF;obtain ⟨kk,ye⟩:∃ kk:Nat,ko / 7 % (F'.length:Int)=kk:=⟨_,(Int.toNat_of_nonneg k0).symm⟩;have l9:kk < F'.length:=by lia
     refine ⟨.inl ⟨Y,_,SqL.of g2'⟩,⟨by decide,by decide⟩,f,_,Y,.inl (SqL.of g2'),(by rw [Ab]; exact hF),f,_,_,kk,V.int F'[kk],Y,Y,g2',?_,?_,?_,?_,?_⟩
     ·rw [Ab,ye]; lia
     ·rw [Ab,ye]; lia
     ·rw [Ab,ye]; simp [seqIndex?]; lia
     ·rw [natV,Ac l9]; rfl
     have e1:(F'.map λ(i:Nat)=>V.int i).eraseIdx kk=(F'.eraseIdx kk).map λ(i:Nat)=>V.int i:=by rw [Zmx]
     rw [e1];have hp:=hs.pair (Ac l9);have l1:one < M.length:=by rw [hs.len]; exact (hs.free one mem_cons_self).1
     have l2:F'[kk] < M.length:=by rw [hs.len]; exact (hs.free _ (mem_cons_of_mem _ (getElem_mem l9))).1
     have g1'':(upd H2 f (.lst ((F'.eraseIdx kk).map λ(i:Nat)=>V.int i))) m=some (a4:):=by rw [Ze tq.symm]; exact g1'
     refine ⟨m,_,_,one,Y,Y,g1'',(by rw [Ab]; exact U0 l1),?_⟩;refine ⟨m,_,_,F'[kk],Y,Y,Zc,(by rw [length_set,Ab]; exact U0 l2),(F'.eraseIdx kk).length,?_,F'.eraseIdx kk,(M.set one (some F'[kk])).set F'[kk] (some one),at' + 1,_,_,_,Y,Y,Same.add (Same.add (Same.add sm' qt) qr) qr,?_,?_,hp,?_⟩
     ·rw [length_eraseIdx_of_lt l9,length_cons]; lia
     ·rw [Zc]
      show some (HO.lst (((M.map mV).set one (mV (some F'[kk]))).set F'[kk] (mV (some one))))=_;rw [map_set,map_set]
     ·rw [Ze tq,Ze tq,Zc]
     ·rw [length_eraseIdx_of_lt l9]; lia
    ·exact ⟨F'.length,by rw [length_cons]; lia,F',M,at' + 1,_,_,_,rfl,rfl,sm',g1',g2',hs.skip,by lia⟩
   ·exact kc _ _ ⟨M,_,_,_,_,_,Y,sm,g1,hs.len,hs.inv⟩
  rintro σ H1 ⟨M,v4,v5,v6,v7,v8,rfl,sm,g1,hl',yh⟩;exact k m M H1 sm qr g1 hl' yh
noncomputable def figS (i:Int):Str:=Txt.join (Str.ofString "") [(dw:)]
def Zjn:Sp:=λvs H Q _=>∃ i:Int,vs=[.int i]/\0<=i/\i < 1000000000000000000000000000000000000000000000000000000000000/\∀ H',Same H H'->Q (.str (figS i)) H'
noncomputable def mdL (x y:Str):List Bool:=x.cps.toList.map λc=>Txt.contains y ⟨#[c]⟩
def Zjk:Sp:=λvs H Q _=>∃ x y:Str,vs=[.str x,.str y]/\x.cps.all (· < 128)=true/\x.cps.size<=900/\∀ H',Same H H'->Q (.bl ((mdL x y).all id)) H'
def Zue:(10:Int) ^ 60=1000000000000000000000000000000000000000000000000000000000000:=by decide
def Zs3:(2:Nat) ^ 200=1606938044258990275541962092341162602522202993782792835301376:=by decide
def Vk {i:Int} (h0:0<=i) (h1:i < 1000000000000000000000000000000000000000000000000000000000000):(dw:).length<=60:=PyProof.Rows.toString_length_le h0 (c:) (by rw [Zue]; exact h1)
def Zok {x:Str} {g:TG} {tt:TT} {tb:TB} {R:St->Hp->Prop} {σ:St} {H:Hp} (Pv:Nat->St->Hp->Prop) (h0:Pv 0 σ H)
  (hs:∀ (i:Nat) c σ H,x.cps[i]?=some c->Pv i σ H->g (.str ⟨#[c]⟩) σ H λσ2 H2=>tt σ2 H2 λb H3=>if b=true then tb σ2 H3 (Pv (i + 1)) else Pv (i + 1) σ2 H3) (hd:∀ σ H,Pv x.cps.size σ H->R σ H):W6 (Its x) g tt tb R σ H:=by
 refine ⟨λi m σ H=>m=x.cps.size - i/\i<=x.cps.size/\Pv i σ H,⟨x.cps.size,by simp,Az _,h0⟩,?_⟩;rintro i m σ H ⟨rfl,hi,p⟩;by_cases kn:i < x.cps.size
 ·refine .inr ⟨kn,Pv (i + 1),λσ' H' p'=>⟨x.cps.size - (i + 1),by lia,Y,kn,p'⟩,λy H' z=>?_⟩
  obtain ⟨e,c,hc,ec⟩:=z;subst e ec;exact hs i c σ _ hc p
 ·have e:i=x.cps.size:=by lia
  subst e;exact .inl ⟨An _,hd σ H p⟩
def Ob:FnScope ["number","parts"] ["number"] (Zg Zc4):=Am
def Zbj (T:Txt w K mg t):(a:) 1 t.gK t.gS ["number"] Zjn:=by
 refine T.dF.F.aR Ob (b:)
 ·obtain ⟨i,rfl,h0,h1,k⟩:=h
  have hu:=Xh hr;refine ⟨_,(Zf (psN 1 Ob.nd (Yz Zb))
   (Zf (Qg PassesOwn.never (Zs Zeg (pv 0) (X1 (v:=.int 1000000000000000000000000000000000000000000000000000000000000) rfl T.jz ⟨_,rfl⟩) (Zn _)) (Zf Zn3
   (Zh (Zll (i:=0) Ob.nd rfl (Or.inl rfl) (X1 (v:=.int 1000000000000000000000000000000000000000000000000000000000000) rfl T.jz ⟨_,rfl⟩) Zor))))
   (Zf (Z5 (Wp (pv 1) (Za (Ys Ws (by rfl) T.gB PySem.Pv.boot_str (w:)) Zb)))
   (Zh (Zl (Zj2 rfl T.gA (by rfl) Zj (A:))))))),?_⟩
  refine Zw λky j5=>?_;refine ⟨Az _,λp hp=>?_⟩;refine j5 _ _ ?_;have s1:Same H (upd H p (.lst [])):=Same.new hp;have h2:(upd H p (.lst [])) p=some (.lst []):=Zc;generalize upd H p (.lst [])=H1 at s1 h2 ⊢
  try dsimp only [Zm]
  refine Z0 (λσ H'=>σ=[oI i,oR p]/\H'=H1) (D:) ?_
  ·refine ⟨λm σ H'=>σ=[oI i,oR p]/\H'=H1,⟨0,Y,Y⟩,?_⟩
   rintro m σ H' ⟨rfl,rfl⟩;exact ite2 (λz=>absurd (of_decide_eq_true z) (by lia)) (λ_=>kc _ _ ⟨Y,Y⟩)
  rintro σ H' ⟨rfl,rfl⟩;have yy:i.natAbs.log2 < 1920:=by
   rcases eq_zero_or_pos i.natAbs with z | z
   ·rw [z]; decide
   ·exact (Nat.log2_lt (by lia)).mpr (Ag (by rw [Zs3]; lia:i.natAbs < 2 ^ 200) (Nat.pow_le_pow_right (c:) (c:)))
  have j7:(dw:).length<=60:=Vk h0 h1;refine Zw λky j5=>?_;refine ⟨.inl ⟨Y,_,SqL.of h2⟩,i,Y,yy,p,_,_,Y,Y,h2,Zo (c:),?_⟩;refine j5 _ _ ?_;refine ⟨_,Y,p,[(dw:)],Y,SqL.of Zc,by decide,(by show ((dw:).length + 0) + 1<=1048576; lia),?_⟩;exact k _ (Same.add s1 hp)
def Zjy:FnScope ["text","signs"] ["text","signs"] (Zg Zcz):=Am
def Zbf (T:Txt w K mg t):(a:) 1 t.gI t.gQ ["text","signs"] Zjk:=by
 refine T.dD.F.aR Zjy (b:)
 ·obtain ⟨x,y,rfl,hx,hz,k⟩:=h
  refine ⟨_,(Zh (Zl (Yg (Zak Y) (by rfl) T.jA PyProof.Rows.boot_all (Za (Yn (ts:=["sign"]) (fv:=[("signs",1)]) (e:) rfl (Zsa (pv 0)) (ab:) (Q:) (K:) (λ_ _ _ _ _ _=>Yb (Y4 Zsh (pv 0) (pv 1) (ap:)))) Zb)))),?_⟩;refine ⟨x,Y,hx,λD hD=>?_⟩;refine Zok (λi σ H6=>∃ v,σ=[v,oS y]/\Same H H6/\H6 D=some (.lst (((mdL x y).take i).map V.bl))) (ac:) ?_ ?_
  ·rintro i c σ H6 hc ⟨v,rfl,s6,h6⟩
   have nv:i < x.cps.size:=(Array.getElem?_eq_some_iff.mp hc).1;have hm:(mdL x y)[i]?=some (Txt.contains y ⟨#[c]⟩):=by
    unfold mdL
    rw [Ah,Array.getElem?_toList,hc]
    rfl
   dsimp only [Zm,tYes];rw [if_pos rfl];refine ⟨_,_,Y,Y,_,h6,by rw [Ab,Ai]; exact Zo (by lia),_,Y,Same.add s6 hD,?_⟩;rw [Zc,Aw,hm,Aj];rfl
  ·rintro σ H6 ⟨v,rfl,s6,h6⟩
   have hl:(mdL x y).length=x.cps.size:=by unfold mdL; rw [Ab,Array.length_toList]
   rw [<- hl,take_length] at h6;exact ⟨D,_,Y,SqL.of h6,k _ s6⟩
def Vb (Pv:Nat->St->Hp->Prop) (h0:Pv 0 σ H)
  (hs:∀ (i:Nat) σ H,i < n->Pv i σ H->g (.int (lo + i)) σ H λσ2 H2=>tt σ2 H2 λb H3=>if b=true then tb σ2 H3 (Pv (i + 1)) else Pv (i + 1) σ2 H3) (hd:∀ σ H,Pv n σ H->R σ H):W6 (Itr lo n) g tt tb R σ H:=by
 refine (a2:);rintro i m σ H ⟨rfl,hi,p⟩;by_cases kn:i < n
 ·refine .inr (aq:)
  obtain ⟨e,y⟩:=y;subst e y;exact hs i σ _ kn p
 ·have e:i=n:=by lia
  subst e;exact .inl ⟨An _,hd σ H p⟩
def Yc {xs:List V} (Pv:Nat->St->Hp->Prop) (h0:Pv 0 σ H) (hl:∀ i σ H,i<=xs.length->Pv i σ H->SqL K H a xs)
  (hs:∀ (i:Nat) x σ H,xs[i]?=some x->Pv i σ H->g x σ H λσ2 H2=>tt σ2 H2 λb H3=>if b=true then tb σ2 H3 (Pv (i + 1)) else Pv (i + 1) σ2 H3) (hd:∀ σ H,Pv xs.length σ H->R σ H):W6 (Itl K a) g tt tb R σ H:=by
 refine (u:);rintro i m σ H ⟨rfl,hi,p⟩;have q:=hl i σ H hi p;by_cases kn:i < xs.length
 ·refine .inr (M:)
  obtain ⟨e,y⟩:=y;subst e;exact hs i x σ _ (y xs q) p
 ·have e:i=xs.length:=by lia
  subst e;exact .inl ⟨⟨xs,q,An _⟩,hd σ H p⟩
def On {xs:List V} (Pv:Nat->St->Hp->Prop) (h0:Pv 0 σ H) (hl:∀ i σ H,i<=xs.length->Pv i σ H->SqT K H a xs)
  (hs:∀ (i:Nat) x σ H,xs[i]?=some x->Pv i σ H->g x σ H λσ2 H2=>tt σ2 H2 λb H3=>if b=true then tb σ2 H3 (Pv (i + 1)) else Pv (i + 1) σ2 H3) (hd:∀ σ H,Pv xs.length σ H->R σ H):W6 (Itt K a) g tt tb R σ H:=by
 refine (u:);rintro i m σ H ⟨rfl,hi,p⟩;have q:=hl i σ H hi p;by_cases kn:i < xs.length
 ·refine .inr (M:)
  obtain ⟨e,y⟩:=y;subst e;exact hs i x σ _ (y xs q) p
 ·have e:i=xs.length:=by lia
  subst e;exact .inl ⟨⟨xs,q,An _⟩,hd σ H p⟩
noncomputable def row3 (ns:List Int) (k:Nat):List V:=[.int (ns.getD (3 * k) 0),.int (ns.getD (3 * k + 1) 0),.int (ns.getD (3 * k + 2) 0)]
def Xq (H:Hp) (r:Addr) (ns:List Int):Prop:=∃ ts:List Addr,H r=some (a3:)/\ns.length=3 * ts.length/\∀ (k:Nat) (t:Addr),ts[k]?=some t->H t=some (.tup (row3 ns k))
def Xq.same (h:Xq H r ns) (s:Same H H'):Xq H' r ns:=by
 obtain ⟨ts,h1,h2,h3⟩:=h;exact ⟨ts,s _ _ h1,h2,λk t e=>s _ _ (h3 k t e)⟩
def Zp0:Sp:=λvs H Q _=>∃ (a:Addr) (M:Lq) (n:Nat) (st sp:Int),vs=[.ref a,.int st,.int sp]/\H a=some (a4:)/\M.length=3 * n/\1<=n/\n<=14/\(be:)/\sp∈U8 /\
 ∀ (p:Addr) (H':Hp),Same H H'->H p=none->Xq H' p (flat M st sp)->Q (.ref p) H'
def G6 {t:Int} (h:t∈U8):-(2 ^ 64) < t/\t < 2 ^ 64:=by
 simp only [U8,mem_cons,not_mem_nil,or_false] at h
 rcases h with rfl | rfl | rfl | rfl | rfl | rfl | rfl | rfl <;> decide
def Zsk {M:Lq} {i:Nat} (h:i < M.length):atI (M.map mV) (0 + (i:Int))=some (mV M[i]):=by
 rw [Int.zero_add];exact Xa (by rw [Ah,Ac h]; rfl)
def V0:FnScope ["_law_mates","_law_start","_law_step","_law_flat","_law_at","_law_mate"] ["_law_mates","_law_start","_law_step"] (Zg Zfs):=Am
def Zl8 (T:Txt w K mg t):(a:) 1 t.iy t.iL ["_law_mates","_law_start","_law_step"] Zp0:=by
 refine T.iT.F.aR V0 (b:)
 ·obtain ⟨a,M,n,st,sp,rfl,ha,hM,h1,h2,hi,mz,k⟩:=h
  refine ⟨_,(Zf (psN 3 V0.nd (Yz Zb))
   (Zf (Wn PassesOwn.never rfl (Je rfl T.aM (Za (ck:) Zb)) (pgN 4 V0.nd) (Zf (psN 5 V0.nd (Zt Zv (pv 0) (pv 4) (j:)))
   (Zh (Yj (PW.pt (Kt (Zs Go (pv 5) Uu (Zn _)) (Up (Zs Jr (pv 5) (pv 4) (Zn _))))) (Zh (Z5 (Wp (pv 3) (Za (Zt Zv (pv 3) (pv 5) (j:)) Zb)))) (Zh (Z5 (Wp (pv 3) (Za (Zi Z7 (Zi Yi (pv 1) (Zi Wy (pv 2) (pv 4))) Zd) Zb))))))))
   (Zh (Zl (Yn (ts:=["_law_k"]) (fv:=[("_law_flat",3)]) (e:) rfl (Je rfl T.aM (Za (Zi Y5 (ck:) Zd) Zb)) (ab:) (Q:) (K:) (λ_ _ _ _ _ _=>Yb (Yp (Za (Zt (Qm K) (pv 1) (Zi Wy Zd (pv 0)) (j:)) (Za (Zt (Qm K) (pv 1) (Zi Yi (Zi Wy Zd (pv 0)) Zd) (j:)) (Za (Zt (Qm K) (pv 1) (Zi Yi (Zi Wy Zd (pv 0)) Zd) (j:)) Zb)))))))))),?_⟩;refine ⟨Az _,λf hf=>?_⟩;have eL:(cb:).toNat=M.length:=by simp
  have ha1:(upd H f (.lst [])) a=some (a4:):=by rw [Ze (Zk ha hf)]; exact ha
  dsimp only [Zm];show tSeq (tFor _ _ _) _ _ _ _;refine Z0 (λσ H1=>∃ (v4 v5:Option V),σ=[oR a,oI st,oI sp,oR f,v4,v5]/\Same H H1/\H1 f=some (.lst ((flat M st sp).map V.int))) (D:) ?_
  ·refine ⟨a,_,Y,.inl (SqL.of ha1),_,Y,by lia,by rw [Ab]; lia,?_⟩
   rw [eL];refine Ga (n:=M.length) (λi σ H1=>∃ (v4 v5:Option V),σ=[oR a,oI st,oI sp,oR f,v4,v5]/\Same H H1/\H1 f=some (.lst ((di:).map V.int))) ⟨none,none,Y,Same.new hf,Zc⟩ ?_ ?_
   ·rintro i σ H1 kn ⟨v4,v5,rfl,sm,ph⟩
    refine ⟨SqL.of (sm _ _ ha),Zsk kn,?_⟩;have km:∀ x:Int,x=nm st sp (rep M i)->(upd H1 f (.lst ((di:).map V.int ++ [V.int x]))) f=some (.lst (((List.range (i + 1)).map λi=>nm st sp (rep M i)).map V.int)):=λx hx=>by
     rw [Zc,hx,range_succ]
     simp
    have j7:((di:).map V.int).length < sizeLine:=by
     rw [Ab,Ab,length_range]; exact Zo (by lia)
    refine ⟨Y,?_⟩
    cases e:M[i] with
    | none =>
     have er:rep M i=i:=by unfold rep; rw [Ac kn,e]
     refine iteF (iteF ?_);refine (es:);exact ⟨_,_,Y,Same.add sm hf,km _ (by rw [er]; unfold nm; rw [Int.zero_add])⟩
    | some j =>
     have hMi:M[i]?=some (some j):=by rw [Ac kn,e]
     refine iteT ((ite2 (λg=>?_) (λg=>?_)))
     ·have g:j < i:=by have:=of_decide_eq_true g; lia
      have er:rep M i=j:=by unfold rep; rw [hMi]; exact if_pos g
      have erj:rep M j=j:=by unfold rep; rw [(hi i j hMi).1]; exact if_neg (by lia)
      have ej:atI ((di:).map V.int) (j:Int)=some (V.int (nm st sp (rep M i))):=by
       refine Xa ?_;rw [Ah,Ah,getElem?_range g,er];show some (V.int (nm st sp (rep M j)))=_;rw [erj]
      refine ⟨.inl ⟨Y,_,SqL.of ph⟩,SqL.of ph,ej,f,_,_,Y,Y,ph,j7,?_⟩;exact ⟨_,_,Y,Same.add sm hf,km _ Y⟩
     ·have g:¬ j < i:=by
       have:¬ ((j:Int) < 0 + (i:Int)):=λz=>g (decide_eq_true z);lia
      have er:rep M i=i:=by unfold rep; rw [hMi]; exact if_neg g
      refine (es:);exact ⟨_,_,Y,Same.add sm hf,km _ (by rw [er]; unfold nm; rw [Int.zero_add])⟩
   ·rintro σ H1 ⟨v4,v5,rfl,sm,ph⟩
    exact kc _ _ ⟨v4,v5,Y,sm,ph⟩
  rintro σ H1 ⟨v4,v5,rfl,sm,ph⟩;refine ⟨a,_,Y,.inl (SqL.of (sm _ _ ha)),⟨by decide,by decide⟩,_,Y,by rw [Ab]; lia,by rw [Ab]; lia,λD hD=>?_⟩;have eD:((cb:) / 3).toNat=n:=by rw [Ab,hM]; lia
  have hD0:H D=none:=sm.free hD;have hfD:f≠D:=λz=>by rw [z] at ph; rw [hD] at ph; cases ph
  have hlf:(flat M st sp).length=3 * n:=by unfold flat; simp [hM]
  show W6 (Itr 0 ((cb:) / 3).toNat) _ _ _ _ _ _;rw [eD];refine Vb (λi σ H2=>∃ (ts:List Addr) (v:Option V),σ=[v,oR f]/\Same H H2/\H2 D=some (a3:)/\ts.length=i/\H2 f=some (.lst ((flat M st sp).map V.int))/\∀ (k:Nat) (t:Addr),ts[k]?=some t->H2 t=some (.tup (row3 (flat M st sp) k)))
   ⟨[],none,rfl,Same.add sm hD0,Zc,rfl,by rw [Ze hfD]; exact ph,λk t z=>by simp at z⟩ ?_ ?_
  ·rintro i σ H2 kn ⟨ts,v,rfl,zk,g1,nj,g2,g3⟩
   have at':∀ (c:Nat) (z:Int),c < 3->z=3 * (0 + (i:Int)) + c->atI ((flat M st sp).map V.int) z=some (V.int ((flat M st sp).getD (3 * i + c) 0)):=λc z hc hz=>by
    have e:z=((3 * i + c:Nat):Int):=by lia
    rw [e];exact Xa (getI (by lia))
   dsimp only [Zm,tYes];rw [if_pos rfl];refine ⟨.inl ⟨by decide,by decide⟩,SqL.of g2,at' 0 _ (c:) (by simp),.inl ⟨by decide,by decide⟩,SqL.of g2,at' 1 _ (c:) Y,.inl ⟨by decide,by decide⟩,SqL.of g2,at' 2 _ (c:) Y,(szR Y),λq hq=>?_⟩;have hqD:q≠D:=λz=>by rw [z,g1] at hq; cases hq
   have hqf:q≠f:=λz=>by rw [z,g2] at hq; cases hq
   have wu:H q=none:=zk.free hq;refine ⟨_,by rw [Ze (Ne.symm hqD)]; exact g1,(cv:),ts ++ [q],_,Y,Same.add (Same.add zk wu) hD0,?_,?_,?_,?_⟩
   ·rw [Zc]; simp
   ·rw [Ae,At,nj]
   ·rw [Ze hfD,Ze (Ne.symm hqf)]; exact g2
   ·intro k t z
    by_cases hk:k < ts.length
    ·rw [Av hk] at z
     have g:=g3 k t z;rw [Ze (λe=>by rw [e,g1] at g; cases g),Ze (Zk g hq)];exact g
    ·have yg:k=ts.length:=by
      have:=(Aa z).1;rw [Ae,At] at this;lia
     subst yg;have:t=q:=by simpa using z.symm
     subst this;rw [Ze hqD,Zc,nj];rfl
  ·rintro σ H2 ⟨ts,v,rfl,zk,g1,nj,g2,g3⟩
   exact k D H2 zk hD0 ⟨ts,g1,by rw [hlf,nj],g3⟩
noncomputable def isN (x:Str):Bool:=decide (1<=(x.length:Int)) && decide ((x.length:Int)<=8) && (mdL x (Str.ofString "abcdefghijklmnopqrstuvwxyz")).all id
def Zjl:Sp:=λvs H Q _=>∃ x:Str,vs=[.str x]/\x.cps.all (· < 128)=true/\x.cps.size<=900/\∀ H',Same H H'->Q (.bl (isN x)) H'
noncomputable def wV:Str ⊕ Int->V
 | .inl x=>.str x
 | .inr i=>.int i
noncomputable def wS:Str ⊕ Int->Str
 | .inl x=>x
 | .inr i=>figS i
def wOk:Str ⊕ Int->Prop
 | .inl _=>True
 | .inr i=>0<=i/\i < 1000000000000000000000000000000000000000000000000000000000000
def Zgv {i:Int} (h0:0<=i) (h1:i < 1000000000000000000000000000000000000000000000000000000000000):(figS i).length<=60:=by
 have e:figS i=Str.ofString (toString i):=rfl;rw [e];exact Vk h0 h1
def Zra (i:Int):Asc (figS i):=Asc.join λy hy=>by rw [Af hy]; exact Asc.num i
def Zha:Sp:=λvs H Q _=>∃ (a:Addr) (ws:List (Str ⊕ Int)),vs=[.ref a]/\H a=some (.lst (ws.map wV))/\ws.length<=900/\(∀ x∈ws,wOk x)/\((ws.map wS).map (·.length)).sum + ws.length<=1048576/\∀ H',Same H H'->Q (.str (Txt.join (an:) (ws.map wS))) H'
def Zj0:FnScope ["text"] ["text"] (Zg Zc2):=Am
def Zbi (T:Txt w K mg t):(a:) 2 t.gJ t.gR ["text"] Zjl:=by
 refine T.dE.F.aR Zj0 (b:)
 ·obtain ⟨x,rfl,hx,hz,k⟩:=h
  refine ⟨_,(Zh (Zl (Zbc (Zf1 Zbd Zbd Zd (Yg Gf (by rfl) T.af PySem.boot_len (w:)) (X1 (v:=.int 8) Y T.gu ⟨_,Y⟩)) (Ut (pcT (Zbf T) hr T.dD (Za (pv 0) (Za (X1 (v:=.str (Str.ofString "abcdefghijklmnopqrstuvwxyz")) rfl T.fD ⟨_,rfl⟩) Zb))))))),?_⟩;have hs:x.length=x.cps.size:=rfl;refine ⟨x,Y,by rw [sizeLine_eq]; lia,_,rfl,?_⟩;unfold isN at k;refine ite2 (λz=>?_) (λz=>?_)
  ·refine ⟨_,Y,?_⟩
   refine ite2 (λz2=>?_) (λz2=>?_)
   ·refine ⟨x,_,Y,hx,hz,λH' s'=>?_⟩
    have:=k H' s';rw [z,z2,Bool.true_and,Bool.true_and] at this;exact this
   ·have:=k H (Same.refl _)
    rw [Bool.eq_false_iff.mpr z2,Bool.and_false,Bool.false_and] at this;exact this
  ·refine ⟨_,Y,iteF ?_⟩
   have:=k H (Same.refl _);rw [Bool.eq_false_iff.mpr z,Bool.false_and,Bool.false_and] at this;exact this
def Zhj:FnScope ["words"] ["words"] (Zg Zay):=Am
def Uc (T:Txt w K mg t):(a:) 2 t.fK t.fY ["words"] Zha:=by
 refine T.bB.F.aR Zhj (b:)
 ·obtain ⟨a,ws,rfl,ha,hl,hw,hsum,k⟩:=h
  refine ⟨_,(Zh (Zl (W4 PySem.F.plainAttrs_str PySem.F.slot_str_join PySem.F.type_str_join Uz Zj (Za (Yn (ts:=["word"]) (fv:=[]) (i:) rfl (Yh (pv 0)) (aw:) (Q:) (K:) (λ_ _ _ _ _ _=>Yb (F8 (Jn (Yg (Zg2 K) (by rfl) T.ii PyProof.Rows.boot_isinstance (Za (pv 0) (Za (Zqj (v:=.ty "str") (by rfl) T.gB PySem.Pv.boot_str rfl) Zb)))) (pv 0) (pcT (Zbj T) hr T.dF (w:))))) Zb)))),?_⟩;refine ⟨Y,a,Y,⟨_,SqL.of ha⟩,λD hD=>?_⟩;refine Yc (xs:=ws.map wV) (λi σ H6=>∃ v,σ=[v]/\Same H H6/\H6 D=some (.lst (((ws.take i).map wS).map V.str))) (ac:) ?_ ?_ ?_
  ·rintro i σ H6 _ ⟨v,rfl,s6,_⟩
   exact SqL.of (s6 _ _ ha)
  ·rintro i y σ H6 hy ⟨v,rfl,s6,h6⟩
   rw [Ah] at hy;obtain ⟨x,hx,rfl⟩:=Option.map_eq_some_iff.mp hy;have nv:i < ws.length:=(Aa hx).1;have ok:=hw x (Au hx);have lt:(((ws.take i).map wS).map V.str).length < sizeLine:=by rw [Ab,Ab,Ai]; exact Zo (by lia)
   dsimp only [Zm,tYes];rw [if_pos rfl]
   cases x with
   | inl y =>
    refine ⟨_,"str",_,true,rfl,TyOf.str y,Zon,iteT ?_⟩;refine ⟨_,h6,lt,_,Y,Same.add s6 hD,?_⟩;rw [Zc,Aw,hx,Aj,Aj];rfl
   | inr j =>
    refine ⟨_,"str",_,false,rfl,TyOf.int j,(by rfl),iteF ?_⟩;refine ⟨j,Y,ok.1,ok.2,λH7 s7=>?_⟩;refine ⟨_,s7 _ _ h6,lt,_,Y,Same.add (s6.trans s7) hD,?_⟩;rw [Zc,Aw,hx,Aj,Aj];rfl
  ·rintro σ H6 ⟨v,rfl,s6,h6⟩
   rw [Ab,take_length] at h6;refine ⟨_,D,ws.map wS,Y,Y,SqL.of h6,by decide,?_,k _ s6⟩;rw [Ab];exact hsum
noncomputable def fgL:Str:=Str.ofString "0123456789"
noncomputable def Gq (x:Str):Bool:=decide (1<=(x.length:Int)) && decide ((x.length:Int)<=61) && (mdL x fgL).all id && (decide (x=Str.ofString "0") || !Txt.startswith x (Str.ofString "0"))
noncomputable def numP (x:Str):Option Int:=if Gq x then intText? x else none
noncomputable def wdS (x:Str):List Str:=Txt.split x (an:)
structure Wd (x:Str):Prop where
 asc:Asc x
 len:x.length<=900
def Zex:Sp:=λvs H Q _=>vs=[.bl true]/\Q .non H
def Zey:Sp:=λvs H Q _=>∃ x:Str,vs=[.str x]/\Wd x/\Gq x=true/\∀ H',Same H H'->Q (.bl true) H'
def Zev:Sp:=λvs H Q _=>∃ (x:Str) (n:Int),vs=[.str x]/\Wd x/\numP x=some n/\∀ H',Same H H'->Q (.int n) H'
def Zjj:Sp:=λvs H Q _=>∃ x:Str,vs=[.str x]/\Wd x/\isN x=true/\∀ H',Same H H'->Q (.str x) H'
structure Pr2 (c:Nat) (x:Str) (i j:Int):Prop where
 ex:∃ a b,Txt.split x ⟨#[c]⟩=[a,b]/\Wd a/\Wd b/\numP a=some i/\numP b=some j
 len:x.length<=900
def Zrx:Sp:=λvs H Q _=>∃ (x:Str) (c:Nat) (i j:Int),vs=[.str x,.str ⟨#[c]⟩]/\Pr2 c x i j/\∀ (l:Addr) (H':Hp),Same H H'->H l=none->H' l=some (.tup [.int i,.int j])->Q (.ref l) H'
def Zfc:FnScope ["right"] ["right"] (Zg Ff):=Am
def Yq (T:Txt w K mg t):(a:) 1 t.d6 t.eW ["right"] Zex:=by
 refine T.aj.F.aR Zfc (b:)
 ·obtain ⟨rfl,k⟩:=h
  exact ⟨_,(Zh (Yj (Jo (Jn (pv 0))) Jb Z8)),k⟩
def Zfd:FnScope ["text"] ["text"] (Zg Fi):=Am
def Zf9 (T:Txt w K mg t):(a:) 2 t.dY t.eO ["text"] Zey:=by
 refine T.fi.F.aR Zfd (b:)
 ·obtain ⟨x,rfl,hx,hn,k⟩:=h
  refine ⟨_,(Zf (Yj (PW.pt (Zba (Jo (Zn1 Zbd Zbd Zd (Yg Gf (by rfl) T.af PySem.boot_len (w:)) (X1 (v:=.int 61) Y T.gw ⟨_,Y⟩))) (Ks (Jo (Jn (pcT (Zbf T) hr T.dD (Za (pv 0) (Za (X1 (v:=.str (Str.ofString "0123456789")) rfl T.jp ⟨_,rfl⟩) Zb)))))))) (Zh (Zl Zpg)) Z8)
   (Zh (Zl (Ztr (Y4 Yf (pv 0) Zj (Zn _)) (Ut (Zsd (W4 PySem.F.plainAttrs_str PySem.F.slot_str_startswith PySem.F.type_str_startswith O8 (pv 0) (bl:)))))))),?_⟩;have hl:x.length<=sizeLine:=by rw [sizeLine_eq]; have:=hx.len; lia
  unfold Gq at hn;rw [Bool.and_eq_true,Bool.and_eq_true,Bool.and_eq_true] at hn;obtain ⟨⟨⟨h1,h2⟩,h3⟩,h4⟩:=hn;refine Z0 (λσ H'=>σ=[oS x]/\Same H H') (D:) ?_
  ·refine ⟨x,Y,hl,_,Y,?_⟩
   rw [h1];refine L2.iteT ?_;dsimp only [tC,rI0,MI2,MB];rw [h2];refine ⟨x,_,Y,hx.asc.all,hx.len,λH' s'=>?_⟩;show if (!(mdL x fgL).all id)=true then _ else _
   rw [h3];exact iteF (kc _ _ ⟨Y,s'⟩)
  rintro σ H1 ⟨rfl,s1⟩;have kk:=k H1 s1;refine ⟨Y,_,Y,?_⟩;have ed:decide (V.str x=V.str (Str.ofString "0"))=decide (x=Str.ofString "0"):=decide_eq_decide.mpr ⟨λe=>by injection e,λe=>by rw [e]⟩;refine ite2 (λz=>?_) (λz=>?_)
  ·exact kk
  ·rw [ed] at z
   rw [Bool.eq_false_iff.mpr z,Bool.false_or] at h4;refine ⟨Y,_,_,Y,Y,_,Y,?_⟩;rw [h4];exact kk
def Zfb:FnScope ["word"] ["word"] (Zg Fd):=Am
def Xp (T:Txt w K mg t):(a:) 3 t.d7 t.eX ["word"] Zev:=by
 refine T.au.F.aR Zfb (b:)
 ·obtain ⟨x,n,rfl,hx,hn,k⟩:=h
  refine ⟨_,(Zf (Z5 (pcT (Yq T) hr T.aj (Za (pcT (Zf9 T) hr T.fi (w:)) Zb)))
   (Zh (Zl (Ys Zna (by rfl) T.jW PySem.Pv.boot_int (w:))))),?_⟩;unfold numP at hn;split at hn
  ·rename_i e
   refine ⟨x,Y,hx,e,λH1 s1=>⟨Y,?_⟩⟩;refine ⟨x,n,Y,hn,?_,k H1 s1⟩;unfold Gq at e;rw [Bool.and_eq_true,Bool.and_eq_true,Bool.and_eq_true,decide_eq_true_eq,decide_eq_true_eq] at e;lia
  ·cases hn
def Zjx:FnScope ["word"] ["word"] (Zg Zcy):=Am
def Ol (T:Txt w K mg t):(a:) 3 t.gL t.gT ["word"] Zjj:=by
 refine T.cE.F.aR Zjx (b:)
 ·obtain ⟨x,rfl,hx,e,k⟩:=h
  refine ⟨_,(Zf (Z5 (pcT (Yq T) hr T.aj (Za (pcT (Zbi T) hr T.dE (w:)) Zb)))
   (Zh (Zl (pv 0)))),?_⟩;refine ⟨x,Y,hx.asc.all,hx.len,λH1 s1=>?_⟩;rw [e];exact ⟨Y,k H1 s1⟩
def Q4:FnScope ["word","sign","parts"] ["word","sign"] (Zg Vq):=Am
def Q7 (T:Txt w K mg t):(a:) 4 t.bj t.br ["word","sign"] Zrx:=by
 refine T.aL.F.aR Q4 (b:)
 ·obtain ⟨x,c,i,j,rfl,⟨⟨a,b,ew,wa,wb,ha,hb⟩,hz⟩,k⟩:=h
  refine ⟨_,(Zf (psN 2 Q4.nd (W4 PySem.F.plainAttrs_str PySem.F.slot_str_split PySem.F.type_str_split Om (pv 0) (A:)))
   (Zf (Z5 (pcT (Yq T) hr T.aj (Za (Y4 Yf (ei:) Zd (Zn _)) Zb)))
   (Zh (Zl (Yp (Za (pcT (Xp T) hr T.au (Za (Zt Zv (pv 2) Zd (j:)) Zb)) (Za (pcT (Xp T) hr T.au (Za (Zt Zv (pv 2) Zd (j:)) Zb)) Zb))))))),?_⟩;refine ⟨Y,x,⟨#[c]⟩,Y,Y,Y,by rw [sizeLine_eq]; lia,λl hl=>?_⟩;rw [ew];have s1:Same H (upd H l (.lst [.str a,.str b])):=Same.new hl;have h1:(upd H l (.lst [.str a,.str b])) l=some (.lst [.str a,.str b]):=Zc;show tSeq _ _ _ _ (upd H l (.lst [.str a,.str b]));generalize upd H l (.lst [.str a,.str b])=H1 at s1 h1 ⊢;refine ⟨l,_,Y,.inl (SqL.of h1),Y,Y,?_⟩;refine ⟨SqL.of h1,Y,a,i,Y,wa,ha,λH2 s2=>?_⟩;refine ⟨SqL.of (s2 _ _ h1),Y,b,j,Y,wb,hb,λH3 s3=>?_⟩;have k8:=s1.trans (s2.trans s3);exact ⟨(szR Y),λq hq=>k q _ (k8.trans (Same.new hq)) (k8.free hq) Zc⟩
def at4 (h0:0<=i) (h1:i < 4):∃ sh:Int,atI [V.int 0,V.int 0,V.int 1,V.int 3] i=some (V.int sh):=by
 obtain rfl | rfl | rfl | rfl:i=0\/i=1\/i=2\/i=3:=by lia
 all_goals exact ⟨_,Y⟩
def at8 (h0:0<=i) (h1:i < 8):∃ sp:Int,sp∈U8/\atI (cd:) i=some (V.int sp):=by
 obtain rfl | rfl | rfl | rfl | rfl | rfl | rfl | rfl:i=0\/i=1\/i=2\/i=3\/i=4\/i=5\/i=6\/i=7:=by lia
 all_goals exact ⟨_,by decide,Y⟩
def Zpy (K:W.Frag):Sp:=λvs H Q _=>∃ (a:Addr) (ns:List Int),vs=[.ref a]/\SqL K H a (L:)/\ns.length<=63 /\
 ∀ (p m r:Addr) (M:Lq) (nms:List Int) (H':Hp),Same H H'->H' p=some (.tup [.ref m,.ref r])->H' m=some (a4:)->Xq H' r nms->TD M nms->M.length<=42->H m=none->H r=none->Q (.ref p) H'
def Wu:FnScope ["_law_script","_law_head","_law_many","_law_names","_law_share","_law_mates","_law_step"] ["_law_script"] (Zg Zfp):=Am
def Zl6 (T:Txt w K mg t):(a:) 2 t.iz t.iM ["_law_script"] (Zpy K):=by
 refine T.iU.F.aR Wu (b:)
 ·obtain ⟨a,ns,rfl,hS,hl,k⟩:=h
  refine ⟨_,(Zf (psN 1 Wu.nd (b0:))
   (Zf (psN 2 Wu.nd (Zi Yi Zd (Zi Z7 (pv 1) Zd)))
   (Zf (Yj (Zs Yf (Zi Z7 (Zi Y5 (pv 1) Zd) Zd) Zd (Zn _)) (Zh (psN 2 Wu.nd (Zi Yi Zd (Zi Z7 (Zi Y5 (pv 1) Zd) Zd)))) Z8)
   (Zf (psN 3 Wu.nd (b0:))
   (Zf (psN 4 Wu.nd (Zt Yr (Yp (Za Zd (Za Zd (Za Zd (Za Zd Zb))))) (Zi Z7 (pv 3) Zd) (j:)))
   (Zf (psN 5 Wu.nd (pcT (Zl7 T) hr T.iS (Za (pcT (K2 T) hr T.cy (Za (b0:) (Za Zd Zb))) (Za (pv 2) (Za (pv 4) Zb)))))
   (Zf (psN 6 Wu.nd (Zt Yr (Yp (Za Zd (Za Zd (Za Zd (Za Zd (Za Zd (Za Zd (Za Zd (Za Zd Zb))))))))) (Zi Z7 (Zi Y5 (pv 3) Zd) Zd) (j:)))
   (Zh (Zl (Yp (Za (pv 5) (Za (pcT (Zl8 T) hr T.iT (Za (pv 5) (Za (Zi Z7 (Zi Y5 (pv 3) Zd) Zd) (Za (pv 6) Zb)))) Zb)))))))))))),?_⟩;refine ⟨a,ns,0,Y,hS,hl,by decide,by decide,?_⟩;generalize cell ns 0=hd;refine ⟨(by show (0:Int) < 6; decide),?_⟩;dsimp only [kOp2,rI0,MI2,kAsg,Zm];refine Z0 (λσ H1=>∃ n:Nat,1<=n/\n<=14/\σ=[oR a,oI hd,oI n,none,none,none,none]/\H1=H) (D:) ?_
  ·refine ⟨⟨by decide,by decide⟩,(by show (0:Int) < 9; decide),rfl,?_⟩
   refine ite2 (λ_=>?_) (λ_=>?_)
   ·refine ⟨⟨by decide,by decide⟩,(by show (0:Int) < 8; decide),?_⟩
    have e:(7 + hd / 54 % 8:Int)=((7 + (hd / 54 % 8).toNat:Nat):Int):=by lia
    exact kc _ _ ⟨7 + (hd / 54 % 8).toNat,by lia,by lia,by rw [<- e]; rfl,rfl⟩
   ·have e:(1 + hd % 6:Int)=((1 + (hd % 6).toNat:Nat):Int):=by lia
    exact kc _ _ ⟨1 + (hd % 6).toNat,by lia,by lia,by rw [<- e]; rfl,rfl⟩
  rintro σ H1 ⟨n,n1,n2,rfl,rfl⟩;refine ⟨a,ns,2,Y,hS,hl,by decide,by decide,?_⟩;generalize cell ns 2=nam;refine (et:);have m4:0<=nam % 4/\nam % 4 < 4:=by lia
  obtain ⟨sh,esh⟩:=at4 m4.1 m4.2;refine ⟨(by show (0:Int) < 4; decide),SqT.of Zc,esh,?_⟩;have s1:Same H1 (upd H1 q (.tup [V.int 0,V.int 0,V.int 1,V.int 3])):=Same.new hq;refine ⟨a,ns,1,Y,s1.seq hS,hl,by decide,by decide,_,60,Y,by decide,λp xs H2 s2 hp h2 h60 hx=>⟨p,xs,n,sh,Y,h2,h60,hx,n1,n2,λm M H3 s3 hm hM j7 pq=>?_⟩⟩;have u4:Same H1 H3:=(s1.trans s2).trans s3;have qr:H1 m=none:=(s1.trans s2).free hm;refine ⟨(szR Y),λq2 hq2=>?_⟩;have m8:0<=nam / 4 % 8/\nam / 4 % 8 < 8:=by lia
  obtain ⟨sp,mz,esp⟩:=at8 m8.1 m8.2;refine ⟨⟨by decide,by decide⟩,(by show (0:Int) < 8; decide),SqT.of Zc,esp,?_⟩;have s14:Same H1 (upd H3 q2 (.tup (cd:))):=Same.add u4 (u4.free hq2);have hM4:(upd H3 q2 (.tup (cd:))) m=some (a4:):=by rw [Ze (Zk hM hq2)]; exact hM
  refine ⟨⟨by decide,by decide⟩,(by show (0:Int) < 10000; decide),m,M,n,_,sp,rfl,hM4,j7,n1,n2,pq,mz,λr H5 s5 hr5 pp=>⟨(szR rfl),λp5 hp5=>?_⟩⟩;have s15:=s14.trans s5;have ua:H1 r=none:=s14.free hr5;refine k p5 m r M _ _ (Same.add s15 (s15.free hp5)) Zc ?_ (pp.same (Same.new hp5)) (Zpq n1 n2 j7 pq mz) (by lia) qr ua;rw [Ze (Zk (s5 _ _ hM4) hp5)];exact s5 _ _ hM4
noncomputable def spk (ns:List Int) (n:Nat) (f:Int->Addr):List (Key × V):=(keys ns n).map λx=>((dv:),V.ref (f x))
structure SpotsF (H:Hp) (ns:List Int) (n:Nat) (f:Int->Addr):Prop where
 inj:∀ x∈keys ns n,∀ y∈keys ns n,f x=f y->x=y
 at':∀ x∈keys ns n,H (f x)=some (.lst ((pl ns n x).map nV))
def Zg9:Sp:=λvs H Q _=>∃ (a:Addr) (M:Lq) (ns:List Int),vs=[.ref a]/\H a=some (.lst (L:))/\TD M ns/\ns.length<=120 /\
 ∀ (d:Addr) (f:Int->Addr) (H':Hp),Same H H'->H d=none->H' d=some (b5:)->SpotsF H' ns ns.length f->(∀ x∈keys ns ns.length,H (f x)=none)->Q (.ref d) H'
def Qr:FnScope ["names_at","spots","place","name"] ["names_at"] (Zg Zax):=Am
def Zhp (T:Txt w K mg t):(a:) 1 t.fG t.fU ["names_at"] Zg9:=by
 refine T.gh.F.aR Qr (b:)
 ·obtain ⟨a,M,ns,rfl,ha,td,hl,k⟩:=h
  have hu:=Xh hr;refine ⟨_,(Zf (psN 1 Qr.nd Oj)
   (Zf (Wn PassesOwn.never rfl (Zqg rfl T.iX (w:)) (Wr rfl (Zq (pgN 2 Qr.nd) (Zq (pgN 3 Qr.nd) Ym))) (Zf (Yj (PW.pt (Zba (Zs Jr (pv 3) Zd (Zn _)) (Ks (Zs J6 (pv 3) (X1 (v:=.int 9999) rfl T.fC ⟨_,rfl⟩) (Zn _))))) Jb Z8)
   (Zf (Z5 (Wp (Zn7 (pv 1) (pv 3) (Yz Zb) ⟨rfl,rfl,rfl,rfl⟩) (y:)))
   (Zh (Yj (Zs J6 (Zx T.af (Za (Y3 hu (pv 1) (pv 3) (j:)) Zb)) Zd (Zn _)) Jb Z8)))))
   (Zh (Zl (pv 1))))),?_⟩
  intro d hd;have hda:a≠d:=Zk ha hd;dsimp only [Zm];show tSeq (tFor _ _ _) _ _ _ _;refine Z0 (λσ H1=>∃ (f:Int->Addr) (v2 v3:Option V),σ=[oR a,oR d,v2,v3]/\Same H H1/\H1 d=some (b5:)/\SpotsF H1 ns ns.length f/\∀ x∈keys ns ns.length,H (f x)=none) (D:) ?_
  ·refine ⟨a,Y,⟨_,SqL.of (by rw [Ze hda]; exact ha)⟩,?_⟩
   have el:(L:).length=ns.length:=by simp
   refine Zox (xs:=ns.map V.int) (λi σ H1=>∃ (f:Int->Addr) (v2 v3:Option V),σ=[oR a,oR d,v2,v3]/\Same H H1/\H1 d=some (.dK (spk ns i f))/\SpotsF H1 ns i f/\∀ x∈keys ns i,H (f x)=none)
    ⟨λ_=>0,none,none,rfl,Same.new hd,Zc,⟨λx hx=>by simp [keys] at hx,λx hx=>by simp [keys] at hx⟩,λx hx=>by simp [keys] at hx⟩ ?_ ?_ ?_
   ·rintro i σ H1 _ ⟨f,v2,v3,rfl,sm,_⟩
    exact SqL.of (sm _ _ ha)
   ·rintro i x0 σ H1 q hx hq ⟨f,v2,v3,rfl,sm,qu,sf,qt⟩
    have hi:i < ns.length:=by rw [<- el]; exact (Aa hx).1
    obtain ⟨x,oo⟩:∃ x,ns[i]?=some x:=⟨_,Ac hi⟩;obtain rfl:x0=V.int x:=by rw [Ah,oo] at hx; exact (Ax hx).symm
    refine ⟨q,_,Y,SqT.of Zc,Y,_,_,Y,_,_,Y,Y,?_⟩;obtain ⟨x0,x1⟩:=td.rng i x oo;refine iteN (by lia:¬ x < 0) (iteN (by lia:¬ x > 9999) ?_);have hdq:d≠q:=Zk qu hq;have qd:(upd H1 q (.tup [.int i,.int x])) d=some (.dK (spk ns i f)):=by rw [Ze hdq]; exact qu
    dsimp only [U7];show tSeq (Zpa _) _ _ _ _;refine Z0 (λσ H2=>∃ (f:Int->Addr),σ=[oR a,oR d,oI i,oI x]/\Same H H2/\H2 d=some (.dK (spk ns (i + 1) f))/\SpotsF H2 ns (i + 1) f/\∀ x∈keys ns (i + 1),H (f x)=none) (λnx2 hnx2=>?_) ?_
    ·refine ⟨d,Y,.inl ⟨_,.inl qd⟩,Az _,λl hl'=>?_⟩
     obtain ⟨hlq,ly⟩:=Wh hl';have ud:d≠l:=Zk qu ly;have w5:(cf:) d=some (.dK (spk ns i f)):=by rw [Ze ud]; exact qd
     have hlk:(spk ns i f).length < sizeLine:=by unfold spk; rw [Ab]; exact Zo (by have:=Vx ns i; lia)
     have wu:H q=none:=sm.free hq;have tj:H l=none:=sm.free ly;have smq:Same H (cf:):=Same.add (Same.add sm wu) tj;have p6:(pl ns i x).length < sizeLine:=Zo (by have:=Zfz td i x; lia);have old:∀ b u,H1 b=some u->(cf:) b=some u:=λb u e=>by rw [Ze (Zk e ly),Ze (Zk e hq)]; exact e
     refine ⟨spk ns i f,Sum.inl x,w5,hlk,Y,λv hv=>?_,λhv=>?_⟩
     ·-- the name stands already
      have u5:x∈keys ns i:=by
       unfold spk at hv;rw [Jy] at hv;by_cases c:x∈keys ns i
       ·exact c
       ·rw [if_neg c] at hv; cases hv
      obtain rfl:v=V.ref (f x):=by
       unfold spk at hv;rw [Jy,if_pos u5] at hv;exact (Ax hv).symm
      have ek:keys ns (i + 1)=keys ns i:=by rw [Ww oo,if_pos u5]
      have vp:=old _ _ (sf.at' x u5);refine ⟨.inl ⟨Y,_,SqL.of vp⟩,f x,_,_,Y,Y,vp,by rw [Ab]; exact p6,hnx2 _ _ ⟨f,Y,Same.add smq (qt x u5),?_,⟨?_,?_⟩,?_⟩⟩
      ·have:d≠f x:=λz=>by rw [<- z,w5] at vp; cases vp
       rw [Ze this,w5];unfold spk;rw [ek]
      ·rw [ek]; exact sf.inj
      ·intro y hy
       rw [ek] at hy;by_cases c:y=x
       ·subst c
        rw [Zc,Zih oo,Aj];rfl
       ·have:f y≠f x:=λz=>c (sf.inj y hy x u5 z)
        rw [Ze this,old _ _ (sf.at' y hy),Zfy (by rw [oo]; intro z; cases z; exact c Y)]
      ·rw [ek]; exact qt
     ·-- a new name
      have u5:x ∉ keys ns i:=by
       intro c;unfold spk at hv;rw [Jy,if_pos c] at hv;cases hv
      have ek:keys ns (i + 1)=keys ns i ++ [x]:=by rw [Ww oo,if_neg u5]
      have ep:putK (spk ns i f) (Sum.inl x) (V.ref l)=spk ns (i + 1) (λy=>if y=x then l else f y):=by
       unfold spk;rw [Zcg u5,ek,Aj];congr 1
       ·apply map_congr_left
        intro y hy;dsimp only;rw [if_neg (λ(z:y=x)=>u5 (z ▸ hy))]
       ·simp
      rw [ep];have hl4:(upd (cf:) d (.dK (spk ns (i + 1) (λy=>if y=x then l else f y)))) l=some (.lst []):=by rw [Ze (Ne.symm ud),Zc]
      refine ⟨.inl ⟨Y,_,SqL.of hl4⟩,l,_,_,Y,Y,hl4,by decide,hnx2 _ _ ⟨λy=>if y=x then l else f y,Y,Same.add (Same.add smq hd) tj,?_,⟨?_,?_⟩,?_⟩⟩
      ·rw [Ze ud,Zc]
      ·intro y hy z hz e
       rw [ek,mem_append,mem_singleton] at hy hz;by_cases c1:y=x
       ·by_cases c2:z=x
        ·rw [c1,c2]
        ·have si:=hz.resolve_right c2
         simp only [c1,c2,if_true,if_false] at e;exact absurd (sf.at' z si) (by rw [<- e,ly]; intro w; cases w)
       ·have vg:=hy.resolve_right c1
        by_cases c2:z=x
        ·simp only [c1,c2,if_true,if_false] at e
         exact absurd (sf.at' y vg) (by rw [e,ly]; intro w; cases w)
        ·have si:=hz.resolve_right c2
         simp only [c1,c2,if_false] at e;exact sf.inj y vg z si e
      ·intro y hy
       rw [ek,mem_append,mem_singleton] at hy;by_cases c:y=x
       ·subst c
        simp only [if_true];rw [Zc,Zih oo,Zr8 u5];rfl
       ·have vg:=hy.resolve_right c
        have e1:=sf.at' y vg;have n1:f y≠l:=Zk e1 ly;have n2:f y≠d:=λz=>by rw [z,qu] at e1; cases e1
        simp only [c,if_false];rw [Ze n1,Ze n2,old _ _ e1,Zfy (by rw [oo]; intro z; cases z; exact c Y)]
      ·intro y hy
       rw [ek,mem_append,mem_singleton] at hy;by_cases c:y=x
       ·simp only [c,if_true]; exact tj
       ·simp only [c,if_false]; exact qt y (hy.resolve_right c)
    rintro σ H2 ⟨f',rfl,zk,hd4,sf2,hf2⟩;have hx3:x∈keys ns (i + 1):=Y8.mpr ⟨i,by lia,oo⟩;have hg:valV (spk ns (i + 1) f') (Sum.inl x)=some (V.ref (f' x)):=by unfold spk; rw [Jy,if_pos hx3]
    refine ⟨d,_,Y,?_,f' x,_,Y,.inl (SqL.of (sf2.at' x hx3)),?_⟩
    ·exact .inl ⟨_,Sum.inl x,.inl hd4,Y,hg.symm⟩
    have h2:=Zfz td (i + 1) x;refine iteN (by rw [Ab]; lia:¬ ((((pl ns (i + 1) x).map nV).length:Nat):Int) > 2) ?_;exact ⟨f',_,_,Y,zk,hd4,sf2,hf2⟩
   ·rintro σ H1 ⟨f,v2,v3,rfl,sm,qu,sf,qt⟩
    rw [el] at qu sf qt;exact kc _ _ ⟨f,v2,v3,Y,sm,qu,sf,qt⟩
  rintro σ H1 ⟨f,v2,v3,rfl,sm,qu,sf,qt⟩;exact k d f H1 sm hd qu sf qt
def Zhb:Sp:=λvs H Q _=>∃ (d:Addr) (M:Lq) (ns:List Int) (f:Int->Addr),vs=[.ref d,.int ns.length]/\H d=some (b5:)/\SpotsF H ns ns.length f/\TD M ns/\ns.length<=120 /\
 ∀ (m:Addr) (o:Obj) (H':Hp),(∀ b u,b≠d->H b=some u->H' b=some u)->H m=none->H' m=some (a4:)->H' d=some (.frz o (b5:))->Q (.ref m) H'
def Ub:FnScope ["spots","count","mates","pair"] ["spots","count"] (Zg Zaz):=Am
def Zhq (T:Txt w K mg t):(a:) 1 t.fH t.fV ["spots","count"] Zhb:=by
 refine T.gj.F.aR Ub (b:)
 ·obtain ⟨d,M,ns,f,rfl,hd,sf,td,hl,k⟩:=h
  refine ⟨_,(Zf (psN 2 Ub.nd (Zi Ky (Yz (Za Uu Zb)) (pv 1)))
   (Zf (Wn PassesOwn.never rfl (Zch (pv 0) ⟨rfl,rfl,rfl⟩) (pgN 3 Ub.nd) (Zh (Yj (Zs Yf (Zx T.af (Za (pv 3) Zb)) Zd (Zn _)) (Zf (Xu (Zt Zv (pv 3) Zd (j:)) (Qy (pv 2) (Zt Zv (pv 3) Zd (j:)) W7))
   (Zh (Xu (Zt Zv (pv 3) Zd (j:)) (Qy (pv 2) (Zt Zv (pv 3) Zd (j:)) W7)))) Z8)))
   (Zh (Zl (pv 2))))),?_⟩;refine ⟨(szR Y),λq hq=>⟨q,_,_,Y,Y,Zc,by lia,by lia,?_,λm hm=>?_⟩⟩
  ·have:((ns.length:Nat):Int).toNat=ns.length:=by lia
   show 1 * ((ns.length:Nat):Int).toNat<=sizeLine;rw [this,sizeLine_eq]; lia
  obtain ⟨hmq,qr⟩:=Wh hm;have eM:(List.replicate ((ns.length:Nat):Int).toNat [V.non]).flatten=(part M ns []).map mV:=by
   have:((ns.length:Nat):Int).toNat=M.length:=by rw [<- td.len]; lia
   rw [this,flatten_replicate_singleton,Zob td,map_replicate]
   rfl
  rw [eM];have hdm:d≠m:=Zk hd qr;have hdq:d≠q:=Zk hd hq;dsimp only [Zm];show tSeq (tFor _ _ _) _ _ _ _;refine Z0 (λσ H1=>∃ (o:Obj) (v:Option V),σ=[oR d,some (.int ns.length),oR m,v]/\(∀ b u,b≠d->H b=some u->H1 b=some u)/\H1 m=some (a4:)/\H1 d=some (.frz o (b5:))) (D:) ?_
  ·refine ⟨d,_,Y,.inl ⟨by rw [Ze hdm,Ze hdq]; exact hd,λo=>?_⟩⟩
   refine Zah (λj σ H1=>∃ (v:Option V),σ=[oR d,some (.int ns.length),oR m,v]/\(∀ b u,b≠d->H b=some u->H1 b=some u)/\H1 m=some (.lst ((part M ns ((o:).take j)).map mV))/\H1 d=some (.frz o (b5:)))
    ⟨none,rfl,λb u hb e=>?_,?_,Zc⟩ ?_ ?_ ?_
   ·rw [Ze hb,Ze (Zk e qr),Ze (Zk e hq)]; exact e
   ·rw [Ze (Ne.symm hdm),Zc]
    rfl
   ·rintro j σ H1 _ ⟨v,rfl,old,h1,h2⟩
    exact h2
   ·rintro j k0 x0 σ H1 hk ⟨v,rfl,old,h1,h2⟩
    obtain ⟨x,hx,rfl⟩:∃ x,(keys ns ns.length)[j]?=some x/\x0=V.ref (f x):=by
     unfold spk at hk;rw [Ah] at hk
     cases e:(keys ns ns.length)[j]? with
     | none=>rw [e] at hk; cases hk
     | some x=>rw [e] at hk; cases hk; exact ⟨x,Y,Y⟩
    have hm1:x∈keys ns ns.length:=Au hx;have et:(o:).take (j + 1)=(o:).take j ++ [x]:=by
     rw [Aw,hx]; rfl
    have vp:=sf.at' x hm1;have hfd:f x≠d:=λz=>by rw [z,hd] at vp; cases vp
    have wz:=old _ _ hfd vp;dsimp only [Zm];refine ⟨f x,_,Y,.inl (SqL.of wz),Y,?_⟩
    rcases Qi td hm1 with ⟨a,e,ea,ma⟩ | ⟨a,b,p8,e,ea,eb,ma,mb⟩
    ·rw [e] at wz ⊢
     refine iteF ⟨_,Y,old,?_,h2⟩;rw [et,Zoa td e ma];exact h1
    ·rw [e] at wz ⊢
     refine iteT ?_;have la:a < (part M ns ((o:).take j)).length:=by rw [Wk]; exact (Aa ma).1
     have lb:b < (part M ns ((o:).take j)).length:=by rw [Wk]; exact (Aa mb).1
     have tq:f x≠m:=Zk vp qr;refine ⟨SqL.of wz,Y,SqL.of wz,Y,m,_,_,a,Y,Y,h1,(by rw [Ab]; exact U0 la),?_⟩;have hf2:(upd H1 m (.lst (((part M ns ((o:).take j)).map mV).set a (nV b)))) (f x)=some (.lst ([a,b].map nV)):=by rw [Ze tq]; exact wz
     refine ⟨SqL.of hf2,Y,SqL.of hf2,Y,m,_,_,b,Y,Y,Zc,(by rw [length_set,Ab]; exact U0 lb),_,Y,λc u hc ec=>?_,?_,?_⟩
     ·have:c≠m:=Zk ec qr
      rw [Ze this,Ze this];exact old c u hc ec
     ·rw [Zc,et,Zlx td e p8 ma mb]
      show some (HO.lst ((((part M ns ((o:).take j)).map mV).set a (mV (some b))).set b (mV (some a))))=_;rw [map_set,map_set]
     ·rw [Ze hdm,Ze hdm]; exact h2
   ·rintro σ H1 ⟨v,rfl,old,h1,h2⟩
    refine kc _ _ ⟨o,v,Y,old,?_,h2⟩;have:(o:).take (spk ns ns.length f).length=keys ns ns.length:=by
     unfold spk; rw [Ab,take_length]
    rw [this,Zoc td] at h1;exact h1
  rintro σ H1 ⟨o,v,rfl,old,h1,h2⟩;exact k m o H1 old qr h1 h2
noncomputable def X7 (cl na sp mt:Addr):List (Str × V):=putF "mates" (.ref mt) (putF "spots" (.ref sp) (putF "names_at" (.ref na) (putF "cloths" (.ref cl) [])))
theorem Xk (f:Str) (v:V):∀ fs:List (Str × V),(putF f v fs).length<=fs.length + 1
 | []=>by simp [putF]
 | (g,x) :: r=>by
  have:=Xk f v r;unfold putF;split
  ·simp
  ·simp only [length_cons]; lia
def s_cn:¬ ("cloths":Str)="names_at":=by decide
def s_cs:¬ ("cloths":Str)="spots":=by decide
def s_cm:¬ ("cloths":Str)="mates":=by decide
def s_ns:¬ ("names_at":Str)="spots":=by decide
def s_nm:¬ ("names_at":Str)="mates":=by decide
def s_sm:¬ ("spots":Str)="mates":=by decide
def Zmv (cl na sp mt:Addr):(X7 cl na sp mt).lookup ("cloths":Str)=some (.ref cl):=by
 unfold X7; rw [Z3,if_neg s_cm,Z3,if_neg s_cs,Z3,if_neg s_cn,Z3,if_pos rfl]
def Zgu (cl na sp mt:Addr):(X7 cl na sp mt).lookup ("names_at":Str)=some (.ref na):=by
 unfold X7; rw [Z3,if_neg s_nm,Z3,if_neg s_ns,Z3,if_pos rfl]
def Zaj (cl na sp mt:Addr):(X7 cl na sp mt).lookup ("spots":Str)=some (.ref sp):=by
 unfold X7; rw [Z3,if_neg s_sm,Z3,if_pos rfl]
def Zoy (cl na sp mt:Addr):(X7 cl na sp mt).lookup ("mates":Str)=some (.ref mt):=by
 unfold X7; rw [Z3,if_pos rfl]
def Y1 (cl na sp mt:Addr) {m:Str} (h:m≠"cloths"/\m≠"names_at"/\m≠"spots"/\m≠"mates":=by decide):(X7 cl na sp mt).lookup m=none:=by
 obtain ⟨h1,h2,h3,h4⟩:=h;unfold X7; rw [Z3,if_neg h4,Z3,if_neg h3,Z3,if_neg h2,Z3,if_neg h1]; rfl
structure TentB (C:Addr) (H:Hp) (p:Addr) (M:Lq) (ns:List Int) (dx cl na sp mt:Addr) (o:Obj) (f:Int->Addr):Prop where
 ins:H p=some (.ins C dx (X7 cl na sp mt))
 rows:Xq H cl ns
 names:H na=some (.lst (L:))
 spots:H sp=some (.frz o (b5:))
 mates:H mt=some (a4:)
 at':∀ x∈keys ns ns.length,H (f x)=some (.lst ((pl ns ns.length x).map nV))
def Z4 (C:Addr) (H:Hp) (p:Addr) (M:Lq) (ns:List Int):Prop:=∃ dx cl na sp mt o f,TentB C H p M ns dx cl na sp mt o f
def Z4.same (h:Z4 C H p M ns) (s:Same H H'):Z4 C H' p M ns:=by
 obtain ⟨dx,cl,na,sp,mt,o,f,b⟩:=h;exact ⟨dx,cl,na,sp,mt,o,f,s _ _ b.ins,b.rows.same s,s _ _ b.names,s _ _ b.spots,s _ _ b.mates,λx hx=>s _ _ (b.at' x hx)⟩
def Zeo {ns:List Int} {n:Nat} (h:ns.length=3 * n) (hk:k < n):(ns.take (3 * k)).map V.int ++ row3 ns k=(ns.take (3 * (k + 1))).map V.int:=by
 have e:ns.take (3 * (k + 1))=ns.take (3 * k) ++ [ns.getD (3 * k) 0,ns.getD (3 * k + 1) 0,ns.getD (3 * k + 2) 0]:=by
  have l0:3 * k < ns.length:=by lia
  have l1:3 * k + 1 < ns.length:=by lia
  have l2:3 * k + 2 < ns.length:=by lia
  have g:∀ i,i < ns.length->ns[i]?=some (ns.getD i 0):=λi hi=>by rw [Ad,Ac hi]; rfl
  rw [show 3 * (k + 1)=3 * k + 1 + 1 + 1 by lia,Aw,Aw,Aw,g _ l0,g _ l1,g _ l2,append_assoc,append_assoc];rfl
 rw [e,Aj];rfl
def Ze4 (C:Addr):Sp:=λvs H Q _=>∃ (p r dx:Addr) (M:Lq) (ns:List Int),vs=[.ref p,.ref r]/\H p=some (.ins C dx [])/\Xq H r ns/\TD M ns/\ns.length<=120 /\
 ∀ (H':Hp),(∀ b u,b≠p->H b=some u->H' b=some u)->Z4 C H' p M ns->Q .non H'
def Zfh:FnScope ["self","rows"] ["self","rows"] (Zg Fo):=Am
def K5 (T:Txt w K mg t):(a:) 2 t.bU t.eB ["self","rows"] (Ze4 t.aa):=by
 refine T.cn.F.aR Zfh (b:)
 ·obtain ⟨p,r,dx,M,ns,rfl,hp,⟨ts,oq,xy,hr3⟩,td,hl,k⟩:=h
  refine ⟨_,(Zf (Yj (Jo (Of (pv 1) (λ_=>rfl))) Jb Z8)
   (Zf (Wc (pv 0) (Yn (ts:=["row"]) (fv:=[]) (i:) rfl (Yh (pv 1)) (aw:) (Q:) (K:) (λ_ _ _ _ _ _=>Yb (Ys (U5 K) (by rfl) T.jm PySem.Pv.boot_tuple (w:)))) rfl)
   (Zf (Wc (pv 0) (Yn (ts:=["row","name"]) (fv:=[]) (i:) rfl (Yh (b3:)) (ab:) (Q:) (K:) (λ_ _ _ _ _ _=>Zlv rfl rfl (Zci K (pv 0)) (pgN 1 nd2) Z6 (pv 1))) rfl)
   (Zf (Wc (pv 0) (pcT (Zhp T) hr T.gh (Za (b3:) Zb)) rfl)
   (Zh (Wc (pv 0) (pcT (Zhq T) hr T.gj (Za (b3:) (Za (Zx T.af (Za (b3:) Zb)) Zb))) rfl)))))),?_⟩;obtain ⟨n,n1,n2,hn⟩:=td.n;have pf:ns.length=3 * n:=by rw [td.len,hn]
  have qm:ts.length=n:=by lia
  have hrp:r≠p:=λz=>by rw [z,hp] at oq; cases oq
  refine ⟨true,.inl ⟨_,SqL.of oq,?_⟩,?_⟩
  ·cases ts with
   | nil=>simp at qm; lia
   | cons _ _=>rfl
  refine ⟨r,Y,⟨_,SqL.of oq⟩,λD hD=>?_⟩;have hDp:D≠p:=λz=>by rw [z,hp] at hD; cases hD
  refine Yc (xs:=ts.map V.ref) (λi σ H1=>∃ (v:Option V),σ=[v]/\Same H H1/\H1 D=some (.lst ((ts.take i).map V.ref))) (ac:) ?_ ?_ ?_
  ·rintro i σ H1 _ ⟨v,rfl,sm,h1⟩
   exact SqL.of (sm _ _ oq)
  ·rintro i x σ H1 hx ⟨v,rfl,sm,h1⟩
   dsimp only [Zm,tYes];rw [if_pos rfl];obtain ⟨tt,ht,rfl⟩:=map_some hx;refine ⟨tt,_,Y,.inr ⟨SqT.of (sm _ _ (hr3 i tt ht)),_,h1,(by rw [Ab,Ai]; exact Zo (by lia)),_,Y,Same.add sm hD,?_⟩⟩;rw [Zc,Aw,ht,Aj];rfl
  rintro σ H1 ⟨v,rfl,zm,h1⟩;rw [Ab,take_length] at h1;have hp1:=zm _ _ hp;refine ⟨p,_,dx,_,Y,hp1,T.ae,T.bd,by decide,?_⟩;have yr:∀ b u,b≠p->H b=some u->(upd H1 p (.ins t.aa dx (r:))) b=some u:=λb u hb e=>by rw [Ze hb]; exact zm b u e
  have md:(upd H1 p (.ins t.aa dx (r:))) D=some (a3:):=by rw [Ze hDp]; exact h1
  have p6:(upd H1 p (.ins t.aa dx (r:))) p=some (.ins t.aa dx (r:)):=Zc
  have xw:∀ (k:Nat) (q:Addr),ts[k]?=some q->(upd H1 p (.ins t.aa dx (r:))) q=some (.tup (row3 ns k)):=λk q e=>by
   have e1:=hr3 k q e;have:q≠p:=λz=>by rw [z,hp] at e1; cases e1
   exact yr q _ this e1
  generalize upd H1 p (.ins t.aa dx (putF "cloths" (.ref D) []))=H2 at yr md p6 xw ⊢;refine ⟨p6,T.ae,T.bd,D,Y,⟨_,SqL.of md⟩,λN hN=>?_⟩;have hND:N≠D:=λz=>by rw [z,md] at hN; cases hN
  have hNp:N≠p:=λz=>by rw [z,p6] at hN; cases hN
  refine Yc (xs:=ts.map V.ref) (ek:) ⟨none,none,Y,Same.new hN,Zc⟩ ?_ ?_ ?_
  ·rintro i σ H3 _ ⟨v,v',rfl,sm,h3⟩
   exact SqL.of (sm _ _ md)
  ·rintro i x σ H3 hx ⟨v,v',rfl,sm,h3⟩
   dsimp only [Zm,tYes];rw [if_pos rfl];obtain ⟨tt,ht,rfl⟩:=map_some hx;have hi:i < n:=by rw [<- qm]; exact (Aa ht).1
   refine (ag:)
   ·rintro j σ H4 _ ⟨v',rfl,sm,h4⟩
    exact SqT.of (sm _ _ (xw i tt ht))
   ·rintro j x σ H4 hx ⟨v',rfl,sm,h4⟩
    dsimp only [Zm,tYes];rw [if_pos rfl];refine ⟨_,h4,?_,_,Y,Same.add sm hN,?_⟩
    ·rw [Ae,Ab,Ai,Ai]
     exact Zo (by have:(row3 ns i).length=3:=rfl; lia)
    ·rw [Zc,Aw,hx,<- append_assoc]
     rfl
   ·rintro σ H4 ⟨v',rfl,sm,h4⟩
    refine ⟨_,_,Y,sm,?_⟩;rw [h4,take_length,Zeo pf hi]
  rintro σ H3 ⟨v,v',rfl,sm3,h3⟩;have zc:ns.take (3 * (ts.map V.ref).length)=ns:=by rw [Ab,qm,<- pf,take_length]
  rw [zc] at h3;have hp3:=sm3 _ _ p6;refine ⟨p,_,dx,_,rfl,hp3,T.ae,T.aA,(by have h1:=Xk "cloths" (.ref D) []; simp only [length_nil] at h1; lia),?_⟩;have old4:∀ b u,b≠p->H2 b=some u->(upd H3 p (.ins t.aa dx (l:))) b=some u:=λb u hb e=>by rw [Ze hb]; exact sm3 b u e
  have hN4:(upd H3 p (.ins t.aa dx (l:))) N=some (.lst (L:)):=by rw [Ze hNp]; exact h3
  have hp4:(upd H3 p (.ins t.aa dx (l:))) p=some (.ins t.aa dx (l:)):=Zc;generalize upd H3 p (.ins t.aa dx (putF "names_at" (.ref N) (putF "cloths" (.ref D) [])))=H4 at old4 hN4 hp4 ⊢;have lk1:(l:).lookup ("names_at":Str)=some (.ref N):=by rw [Z3,if_pos rfl]
  refine ⟨hp4,T.ae,T.aA,MVal.of lk1 ⟨ N,M,ns,Y,hN4,td,hl,λd f H5 sm5 hd5 hd5' sf qt=>?_⟩⟩;have hp5:=sm5 _ _ hp4;refine ⟨p,_,dx,_,rfl,hp5,T.ae,T.aH,(by have h1:=Xk "cloths" (.ref D) []; have h2:=Xk "names_at" (.ref N) (r:); simp only [length_nil] at h1; lia),?_⟩;have hdp:d≠p:=λz=>by rw [z,hp4] at hd5; cases hd5
  have hfp:∀ x∈keys ns ns.length,f x≠p:=λx hx z=>by have:=qt x hx; rw [z,hp4] at this; cases this
  have yq:∀ b u,b≠p->H4 b=some u->(upd H5 p (b1:)) b=some u:=λb u hb e=>by rw [Ze hb]; exact sm5 b u e
  have ss:(upd H5 p (b1:)) p=some (b1:):=Zc;have hd6:(upd H5 p (b1:)) d=some (b5:):=by rw [Ze hdp]; exact hd5'
  have sf6:SpotsF (upd H5 p (b1:)) ns ns.length f:=⟨sf.inj,λx hx=>by rw [Ze (hfp x hx)]; exact sf.at' x hx⟩;generalize upd H5 p (.ins t.aa dx (putF "spots" (.ref d) (putF "names_at" (.ref N) (putF "cloths" (.ref D) []))))=H6 at yq ss hd6 sf6 ⊢;have lk2:(putF "spots" (.ref d) (l:)).lookup ("spots":Str)=some (.ref d):=by rw [Z3,if_pos rfl]
  have lk3:(putF "spots" (.ref d) (l:)).lookup ("names_at":Str)=some (.ref N):=by rw [Z3,if_neg s_ns,Z3,if_pos rfl]
  have hN6:=yq _ _ hNp hN4;have eln:(((L:).length:Nat):Int)=(ns.length:Nat):=by rw [Ab]
  refine ⟨ss,T.ae,T.aH,MVal.of lk2 ⟨ ss,T.ae,T.aA,MVal.of lk3 ⟨ N,_,Y,.inl (SqL.of hN6),d,M,ns,f,(by rw [eln]; rfl),hd6,sf6,td,hl,λm o H7 old7 hm7 hmm hdd=>?_⟩⟩⟩;have hpd:p≠d:=Ne.symm hdp;have hp7:=old7 _ _ hpd ss;refine ⟨p,_,dx,_,rfl,hp7,T.ae,T.dz,(by have h1:=Xk "cloths" (.ref D) []; have h2:=Xk "names_at" (.ref N) (r:); have h3:=Xk "spots" (.ref d) (l:); simp only [length_nil] at h1; lia),?_⟩;have hmp:m≠p:=λz=>by rw [z,ss] at hm7; cases hm7
  have dN:N≠d:=λz=>by rw [z,hd6] at hN6; cases hN6
  have yp:∀ b u,b≠p->b≠d->H6 b=some u->(upd H7 p (.ins t.aa dx (X7 D N d m))) b=some u:=λb u hb vw e=>by rw [Ze hb]; exact old7 b u vw e
  have old46:∀ b u,b≠p->H4 b=some u->H6 b=some u/\b≠d:=λb u hb e=>⟨yq b u hb e,λz=>by rw [z,hd5] at e; cases e⟩;have ut:∀ b u,b≠p->H2 b=some u->(upd H7 p (.ins t.aa dx (X7 D N d m))) b=some u:=λb u hb e=>by
   obtain ⟨e6,vw⟩:=old46 b u hb (old4 b u hb e)
   exact yp b u hb vw e6
  refine k _ (λb u hb e=>ut b u hb (yr b u hb e)) ⟨dx,D,N,d,m,o,f,Zc,⟨ts,ut _ _ hDp md,by lia,λk q e=>?_⟩,?_,?_,?_,?_⟩
  ·have e1:=xw k q e
   exact ut q _ (λz=>by rw [z,p6] at e1; cases e1) e1
  ·exact yp _ _ hNp dN hN6
  ·rw [Ze hdp]; exact hdd
  ·rw [Ze hmp]; exact hmm
  ·intro x hx
   have e1:=sf6.at' x hx;exact yp _ _ (hfp x hx) (λz=>by rw [z,hd6] at e1; cases e1) e1
noncomputable def Zu (ns:List Int) (x:Int):Str:=match pl ns ns.length x with
 | [a,b]=>if a / 3=b / 3 then "locked" else "free"
 | _=>"rim"
def Znr:Sp:=λvs H Q _=>∃ p:Int,vs=[.int p]/\Q (.int (after p)) H
def Zlc:Sp:=λvs H Q _=>∃ p:Int,vs=[.int p]/\Q (.int (Zy p)) H
def Zhf:Sp:=λvs H Q _=>∃ p:Int,vs=[.int p]/\Q (.int (p / 3)) H
def Ze2 (C:Addr):Sp:=λvs H Q _=>∃ (p:Addr) (M:Lq) (ns:List Int),vs=[.ref p]/\Z4 C H p M ns /\
 ∀ (l:Addr) (ts:List Addr),H l=none->ns.length=3 * ts.length->(∀ (k:Nat) (t:Addr),ts[k]?=some t->H t=some (.tup (row3 ns k)))->Q (.ref l) (upd H l (a3:))
def Zd0 (C:Addr):Sp:=λvs H Q _=>∃ (p:Addr) (M:Lq) (ns:List Int),vs=[.ref p]/\Z4 C H p M ns/\ns.length < 64 /\
 ∀ (l:Addr) (out:List Int),H l=none->out.Perm (o:)->out.Pairwise (·<=·)->Q (.ref l) (upd H l (dc:))
def G1 (C:Addr):Sp:=λvs H Q _=>∃ (p:Addr) (M:Lq) (ns:List Int) (x:Int),vs=[.ref p,.int x]/\Z4 C H p M ns/\Q (.bl (decide (0<=x/\x < ns.length))) H
def Kc (C EP:Addr):Sp:=λvs H Q E=>∃ (p:Addr) (M:Lq) (ns:List Int) (x:Int),vs=[.ref p,.int x]/\Z4 C H p M ns/\(0<=x/\x < ns.length->Q .non H)/\(¬ (0<=x/\x < ns.length)->E (.ref EP) none H)
def Zas (C EP:Addr):Sp:=λvs H Q E=>∃ (p:Addr) (M:Lq) (ns:List Int) (x:Int),vs=[.ref p,.int x]/\Z4 C H p M ns/\(∀ (i:Nat) (y:Int),x=i->ns[i]?=some y->Q (.int y) H)/\(¬ (0<=x/\x < ns.length)->E (.ref EP) none H)
def Ze3 (C EP:Addr):Sp:=λvs H Q E=>∃ (p:Addr) (M:Lq) (ns:List Int) (x:Int),vs=[.ref p,.int x]/\Z4 C H p M ns/\M.length=ns.length/\(∀ (i:Nat) (y:Option Nat),x=i->M[i]?=some y->Q (mV y) H)/\(¬ (0<=x/\x < ns.length)->E (.ref EP) none H)
def Zb7 (C ES:Addr):Sp:=λvs H Q E=>∃ (p:Addr) (M:Lq) (ns:List Int) (x:Int),vs=[.ref p,.int x]/\Z4 C H p M ns/\(x∈keys ns ns.length->∀ l,H l=none->Q (.ref l) (upd H l (.lst ((pl ns ns.length x).map nV))))/\(c6:)
def Zar (C ES:Addr):Sp:=λvs H Q E=>∃ (p:Addr) (M:Lq) (ns:List Int) (x:Int),vs=[.ref p,.int x]/\Z4 C H p M ns/\TD M ns/\(x∈keys ns ns.length->∀ H',Same H H'->Q (.str (Zu ns x)) H')/\(c6:)
def Znv:FnScope ["place"] ["place"] (Zg Zia):=Am
def Zgd (T:Txt w K mg t):(a:) 1 t.ja t.jd ["place"] Znr:=by
 refine T.ig.F.aR Znv (b:)
 ·obtain ⟨p,rfl,k⟩:=h
  refine ⟨_,(Zh (Zl (F8 (Zs Yf (Zi Z7 (pv 0) Zd) Zd (Zn _)) (Zi Qz (pv 0) Zd) (Zi Yi (pv 0) Zd)))),?_⟩;refine ⟨(bj:),rfl,(ite2 (λh=>?_) (λh=>?_))⟩
  ·have h:p % 3=2:=by simpa using h
   have e:after p=p - 2:=if_pos h;rw [e] at k; exact k
  ·have h:¬ p % 3=2:=by simpa using h
   have e:after p=p + 1:=if_neg h;rw [e] at k; exact k
def Zlg:FnScope ["place"] ["place"] (Zg Zfu):=Am
def Zdb (T:Txt w K mg t):(a:) 1 t.il t.iD ["place"] Zlc:=by
 refine T.gf.F.aR Zlg (b:)
 ·obtain ⟨p,rfl,k⟩:=h
  refine ⟨_,(Zh (Zl (F8 (Zs Yf (Zi Z7 (pv 0) Zd) Zd (Zn _)) (Zi Yi (pv 0) Zd) (Zi Qz (pv 0) Zd)))),?_⟩;refine ⟨(bj:),rfl,(ite2 (λh=>?_) (λh=>?_))⟩
  ·have h:p % 3=0:=by simpa using h
   have e:Zy p=p + 2:=if_pos h;rw [e] at k; exact k
  ·have h:¬ p % 3=0:=by simpa using h
   have e:Zy p=p - 1:=if_neg h;rw [e] at k; exact k
def Zhl:FnScope ["place"] ["place"] (Zg Za4):=Am
def Qs (T:Txt w K mg t):(a:) 1 t.fF t.fR ["place"] Zhf:=by
 refine T.aY.F.aR Zhl (b:)
 ·obtain ⟨p,rfl,k⟩:=h
  refine ⟨_,(Zh (Zl (Zi Y5 (pv 0) Zd))),?_⟩;exact ⟨⟨by decide,by decide⟩,k⟩
def Zff:FnScope ["self"] ["self"] (Zg Fm):=Am
def K3 (T:Txt w K mg t):(a:) 1 t.dP t.eC ["self"] (Ze2 t.aa):=by
 refine T.aO.F.aR Zff (b:)
 ·obtain ⟨p,M,ns,rfl,⟨dx,cl,na,sp,mt,o,f,b⟩,k⟩:=h
  refine ⟨_,(Zh (Zl (Ys Ge (by rfl) T.i4 PySem.Pv.boot_list (Za (Zz (pv 0) Y) Zb)))),?_⟩;obtain ⟨ts,h1,h2,h3⟩:=b.rows;exact ⟨b.ins,T.ae,T.bd,MVal.of (Zmv ..) ⟨ cl,_,Y,.inl (SqL.of h1),λl hl=>k l ts hl h2 h3⟩⟩
def Zd5:FnScope ["self"] ["self"] (Zg Kl):=Am
def O7 (T:Txt w K mg t):(a:) 1 t.c6 t.dh ["self"] (Zd0 t.aa):=by
 refine T.aI.F.aR Zd5 (b:)
 ·obtain ⟨p,M,ns,rfl,⟨dx,cl,na,sp,mt,o,f,b⟩,k9,k⟩:=h
  refine ⟨_,(Zh (Zl (Yg (Jf Y) (by rfl) T.bu PyProof.Rows.boot_sorted (Za (Zz (pv 0) Y) Zb)))),?_⟩;refine ⟨b.ins,T.ae,T.aH,MVal.of (Zaj ..) ⟨ sp,_,keys ns ns.length,rfl,.inr ⟨o,b.spots⟩,?_,by have:=Vx ns ns.length; lia,k⟩⟩;unfold spk; rw [map_map]; rfl
def G2:FnScope (bk:) (bk:) (Zg Vs):=Am
def Q8 (T:Txt w K mg t):(a:) 1 t.bg t.bp (bk:) (G1 t.aa):=by
 refine T.ax.F.aR G2 (b:)
 ·obtain ⟨p,M,ns,x,rfl,⟨dx,cl,na,sp,mt,o,f,b⟩,k⟩:=h
  refine ⟨_,(Zh (Zl (Zf1 Zbd Jr Zd (pv 1) (Zx T.af (Za (Zz (pv 0) Y) Zb))))),?_⟩;refine ⟨_,Y,?_⟩;refine ite2 (λh=>?_) (λh=>?_)
  ·have h:0<=x:=of_decide_eq_true h
   refine ⟨b.ins,T.ae,T.aA,MVal.of (Zgu ..) ⟨ na,_,Y,.inl (SqL.of b.names),?_⟩⟩;have:decide (x < (((L:).length:Nat):Int))=decide (0<=x/\x < (ns.length:Int)):=by rw [Ab]; simp [h]
   show Q (V.bl (decide (x < (((L:).length:Nat):Int)))) H;rw [this]; exact k
  ·have h:¬ 0<=x:=λz=>h (decide_eq_true z)
   have:decide (0<=x/\x < (ns.length:Int))=false:=decide_eq_false λz=>h z.1;rw [this] at k; exact k
def Kh:FnScope (bk:) (bk:) (Zg Q6):=Am
def Q0 (T:Txt w K mg t):(a:) 2 t.a9 t.ba (bk:) (Kc t.aa t.bn):=by
 refine T.ar.F.aX Kh (b:)
 ·obtain ⟨p,M,ns,x,rfl,ta,k1,k2⟩:=h
  obtain ⟨dx,cl,na,sp,mt,o,f,b⟩:=id ta;refine ⟨_,(Zr (Y9 (Jo (Jn (Xr (pv 0) T.ae T.ax.m (Q8 T) (ai:) T.ax.b .nil Yv (A:)))) (Zr (Yo T.jq FBV Y T.i5 Y (bl:))) Yy)),?_⟩;refine ⟨b.ins,Y1 _ _ _ _,p,M,ns,x,Y,ta,?_⟩;by_cases c:0<=x/\x < (ns.length:Int)
  ·rw [decide_eq_true c]
   exact iteF (k1 c)
  ·rw [decide_eq_false c]
   exact iteT ⟨by decide,k2 c⟩
def Zav:FnScope (bk:) (bk:) (Zg Um):=Am
def J7 (T:Txt w K mg t):(a:) 3 t.bV t.ce (bk:) (Zas t.aa t.bn):=by
 refine T.ap.F.aX Zav (b:)
 ·obtain ⟨p,M,ns,x,rfl,ta,k1,k2⟩:=h
  obtain ⟨dx,cl,na,sp,mt,o,f,b⟩:=id ta;refine ⟨_,(Zp (Yt (Wj (pv 0) T.ae T.ar.m (Q0 T) (ai:) T.ar.b .nil (A:)))
   (Zr (Z1 (Zl (Zt Zv (b3:) (pv 1) (j:)))))),?_⟩
  refine ⟨b.ins,Y1 _ _ _ _,p,M,ns,x,Y,ta,λc=>?_,k2⟩;have hi:x.toNat < ns.length:=by lia
  obtain ⟨y,hy⟩:∃ y,ns[x.toNat]?=some y:=⟨_,Ac hi⟩;have ex:x=(x.toNat:Int):=by lia
  refine ⟨b.ins,T.ae,T.aA,MVal.of (Zgu ..) ⟨ SqL.of b.names,(by rw [ex]; exact X4 hy),k1 _ _ ex hy⟩⟩
def Zfg:FnScope (bk:) (bk:) (Zg Fn):=Am
def K4 (T:Txt w K mg t):(a:) 3 t.dQ t.eE (bk:) (Ze3 t.aa t.bn):=by
 refine T.aP.F.aX Zfg (b:)
 ·obtain ⟨p,M,ns,x,rfl,ta,j7,k1,k2⟩:=h
  obtain ⟨dx,cl,na,sp,mt,o,f,b⟩:=id ta;refine ⟨_,(Zp (Yt (Wj (pv 0) T.ae T.ar.m (Q0 T) (ai:) T.ar.b .nil (A:)))
   (Zr (Z1 (Zl (Zt Zv (b3:) (pv 1) (j:)))))),?_⟩
  refine ⟨b.ins,Y1 _ _ _ _,p,M,ns,x,Y,ta,λc=>?_,k2⟩;have hi:x.toNat < M.length:=by lia
  obtain ⟨y,hy⟩:∃ y,M[x.toNat]?=some y:=⟨_,Ac hi⟩;have ex:x=(x.toNat:Int):=by lia
  refine ⟨b.ins,T.ae,T.dz,MVal.of (Zoy ..) ⟨ SqL.of b.mates,(by rw [ex]; exact X4 hy),k1 _ _ ex hy⟩⟩
def Zcc:FnScope ["self","seam"] ["self","seam"] (Zg O4):=Am
def Ux (T:Txt w K mg t):(a:) 1 t.cF t.cM ["self","seam"] (Zb7 t.aa t.az):=by
 refine T.aD.F.aX Zcc (b:)
 ·obtain ⟨p,M,ns,x,rfl,ta,k1,k2⟩:=h
  obtain ⟨dx,cl,na,sp,mt,o,f,b⟩:=id ta;have hu:=Xh hr;refine ⟨_,(Zp (Y9 (Vt (Kx hu (pv 1) (Zz (pv 0) Y)) (ap:)) (Zr (Yo T.jB FBV Y T.hU Y (bl:))) Yy)
   (Zr (Z1 (Zl (Ys Ge (by rfl) T.i4 PySem.Pv.boot_list (Za (Y3 hu (b3:) (pv 1) (j:)) Zb)))))),?_⟩
  have hg:DGet H sp (.int x) (if x∈keys ns ns.length then some (V.ref (f x)) else none):=.inl ⟨_,Sum.inl x,.inr ⟨o,b.spots⟩,rfl,by unfold spk; rw [Jy]⟩;refine ⟨b.ins,T.ae,T.aH,MVal.of (Zaj ..) ⟨ sp,_,Y,hg,?_⟩⟩;by_cases c:x∈keys ns ns.length
  ·rw [if_pos c] at hg ⊢
   refine iteF ?_;exact ⟨b.ins,T.ae,T.aH,MVal.of (Zaj ..) ⟨ sp,_,Y,hg,f x,_,Y,.inl (SqL.of (b.at' x c)),k1 c⟩⟩
  ·rw [if_neg c] at hg ⊢
   exact iteT ⟨by decide,k2 c⟩
def V1:FnScope ["self","seam","spots"] ["self","seam"] (Zg Ul):=Am
def W5 (T:Txt w K mg t):(a:) 2 t.bW t.cf ["self","seam"] (Zar t.aa t.az):=by
 refine T.ak.F.aX V1 (b:)
 ·obtain ⟨p,M,ns,x,rfl,ta,td,k1,k2⟩:=h
  obtain ⟨dx,cl,na,sp,mt,o,f,b⟩:=id ta;refine ⟨_,(Zp (Qf (i:=2) V1.nd Y (Or.inl Y) (Wj (pv 0) T.ae T.aD.m (Ux T) (ai:) T.aD.b .nil (A:)))
   (Zp (Z1 (Yj (Zs Yf (ei:) Zd (Zn _)) (Zh (Zl Zj)) Z8))
   (Zp (Z1 (Yj (Zs Yf (pcT (Qs T) hr T.aY (Za (Zt Zv (pv 2) Zd (j:)) Zb)) (pcT (Qs T) hr T.aY (Za (Zt Zv (pv 2) Zd (j:)) Zb)) (Zn _)) (Zh (Zl Zj)) Z8))
   (Zr (Z1 (Zl Zj)))))),?_⟩
  refine ⟨b.ins,Y1 _ _ _ _,p,M,ns,x,Y,ta,λc l hl=>?_,k2⟩;have wq:=k1 c _ (Same.new (o:=.lst ((pl ns ns.length x).map nV)) hl);refine ⟨l,_,Y,.inl (SqL.of Zc),Y,?_⟩
  rcases Qi td c with ⟨a,e,_⟩ | ⟨a,b',p8,e,_⟩
  ·rw [e] at wq ⊢
   refine iteT ?_;have:Zu ns x="rim":=by unfold Zu; rw [e]
   rw [this] at wq;exact wq
  ·rw [e] at wq ⊢
   refine iteF ⟨SqL.of Zc,Y,_,Y,SqL.of Zc,Y,_,Y,Y,?_⟩;by_cases q:a / 3=b' / 3
   ·have:Zu ns x="locked":=by unfold Zu; rw [e]; exact if_pos q
    rw [this] at wq;rw [decide_eq_true (by congr 1; lia)];exact iteT wq
   ·have:Zu ns x="free":=by unfold Zu; rw [e]; exact if_neg q
    rw [this] at wq;rw [decide_eq_false (λz=>q (by injection z; lia))];exact iteF wq
def Zew (C ES ER EL:Addr):Sp:=λvs H Q E=>∃ (p:Addr) (M:Lq) (ns:List Int) (x:Int),vs=[.ref p,.int x]/\Z4 C H p M ns/\TD M ns /\
 (x∈keys ns ns.length->∀ H',Same H H'->(Zu ns x="rim"->E (.ref ER) none H')/\(Zu ns x="locked"->E (.ref EL) none H')/\(Zu ns x="free"->Q .non H'))/\(c6:)
noncomputable def sqr (a b:Nat):List V:=[.int (after a),.int (Zy a),.int (after b),.int (Zy b)]
def Zk7 (C ES ER EL:Addr):Sp:=λvs H Q E=>∃ (p:Addr) (M:Lq) (ns:List Int) (x:Int),vs=[.ref p,.int x]/\Z4 C H p M ns/\TD M ns /\
 (x∈keys ns ns.length->∀ H',Same H H'->(Zu ns x="rim"->E (.ref ER) none H')/\(Zu ns x="locked"->E (.ref EL) none H')/\(∀ a b l,pl ns ns.length x=[a,b]->a < b->M[a]?=some (some b)->a / 3≠b / 3->H l=none->H' l=some (.tup (sqr a b))->Q (.ref l) H'))/\(c6:)
def J3 {M:Lq} {ns:List Int} (td:TD M ns) (hx:x∈keys ns ns.length) :
  (Zu ns x="rim"/\∃ a,pl ns ns.length x=[a]/\M[a]?=some none)\/(Zu ns x="locked"/\∃ a b,a < b/\pl ns ns.length x=[a,b]/\M[a]?=some (some b)/\a / 3=b / 3)\/(Zu ns x="free"/\∃ a b,a < b/\pl ns ns.length x=[a,b]/\M[a]?=some (some b)/\a / 3≠b / 3):=by
 rcases Qi td hx with ⟨a,e,_,ma⟩ | ⟨a,b,p8,e,_,_,ma,_⟩
 ·exact .inl ⟨by unfold Zu; rw [e],a,e,ma⟩
 ·by_cases c:a / 3=b / 3
  ·exact .inr (.inl ⟨by unfold Zu; rw [e]; exact if_pos c,a,b,p8,e,ma,c⟩)
  ·exact .inr (.inr ⟨by unfold Zu; rw [e]; exact if_neg c,a,b,p8,e,ma,c⟩)
def t_rf:¬ (("rim":Str))="free":=by decide
def t_lf:¬ (("locked":Str))="free":=by decide
def t_lr:¬ (("locked":Str))="rim":=by decide
def t_fr:¬ (("free":Str))="rim":=by decide
def t_fl:¬ (("free":Str))="locked":=by decide
def Ug (h:¬ x=y):decide (V.str x=V.str y)=false:=decide_eq_false λz=>h (by injection z)
def Zk1 {x:Str}:decide (V.str x=V.str x)=true:=decide_eq_true rfl
def Kg:FnScope ["tent","seam","sort"] ["tent","seam"] (Zg Fe):=Am
def K1 (T:Txt w K mg t):(a:) 3 t.dR t.eF ["tent","seam"] (Zew t.aa t.az t.cL t.aG):=by
 refine T.cp.F.aX Kg (b:)
 ·obtain ⟨p,M,ns,x,rfl,ta,td,k1,k2⟩:=h
  obtain ⟨dx,cl,na,sp,mt,o,f,b⟩:=id ta;refine ⟨_,(Zp (Qf (i:=2) Kg.nd Y (Or.inl Y) (Wj (pv 0) T.ae T.ak.m (W5 T) (ai:) T.ak.b .nil (A:)))
   (Zp (Y9 (dn:) (Zr (Yo T.jR FBV rfl T.i6 rfl (bl:))) Yy)
   (Zr (Y9 (dn:) (Zr (Yo T.jC FBV rfl T.hV rfl (bl:))) Yy)))),?_⟩
  refine ⟨b.ins,Y1 _ _ _ _,p,M,ns,x,Y,ta,td,λc H' sm=>?_,k2⟩;obtain ⟨j1,j2,j3⟩:=k1 c H' sm;refine ⟨Y,?_⟩
  rcases J3 td c with ⟨e,_⟩ | ⟨e,_⟩ | ⟨e,_⟩
  ·rw [e,Zk1]
   exact iteT ⟨by decide,j1 e⟩
  ·rw [e,Ug t_lr]
   refine iteF ⟨Y,?_⟩;rw [Zk1];exact iteT ⟨by decide,j2 e⟩
  ·rw [e,Ug t_fr]
   refine iteF ⟨Y,?_⟩;rw [Ug t_fl];exact iteF (j3 e)
def Kf:FnScope ["tent","seam","lesser","greater"] ["tent","seam"] (Zg Zfk):=Am
def K0 (T:Txt w K mg t):(a:) 4 t.im t.iE ["tent","seam"] (Zk7 t.aa t.az t.cL t.aG):=by
 refine T.dA.F.aX Kf (b:)
 ·obtain ⟨p,M,ns,x,rfl,ta,td,k1,k2⟩:=h
  refine ⟨_,(Zp (Yt (pxT (K1 T) hr T.cp (Za (pv 0) (A:))))
   (Zp (Z1 (Xu (Xr (pv 0) T.ae T.aD.m (Ux T) (ai:) T.aD.b .nil Yv (A:)) (Zlr rfl (Zq (pgN 2 Kf.nd) (Zq (pgN 3 Kf.nd) Ym)))))
   (Zr (Z1 (Zl (Yp (Za (pcT (Zgd T) hr T.ig (y:)) (Za (pcT (Zdb T) hr T.gf (y:)) (Za (pcT (Zgd T) hr T.ig (Za (pv 3) Zb)) (Za (pcT (Zdb T) hr T.gf (Za (pv 3) Zb)) Zb)))))))))),?_⟩;refine ⟨p,M,ns,x,Y,ta,td,λc H' sm=>⟨(k1 c H' sm).1,(k1 c H' sm).2.1,λe=>?_⟩,k2⟩;obtain ⟨a,b,p8,ep,em,ne⟩:∃ a b,a < b/\pl ns ns.length x=[a,b]/\M[a]?=some (some b)/\a / 3≠b / 3:=by
   rcases J3 td c with ⟨e',_⟩ | ⟨e',_⟩ | ⟨e',q⟩
   ·exact absurd (e'.symm.trans e) t_rf
   ·exact absurd (e'.symm.trans e) t_lf
   ·exact q
  have ta':=ta.same sm;obtain ⟨dx,cl,na,sp,mt,o,f,B⟩:=id ta';refine ⟨B.ins,Y1 _ _ _ _,p,M,ns,x,Y,ta',λ_ l hl=>?_,λz=>absurd c z⟩;rw [ep];refine ⟨l,_,Y,SqL.of Zc,Y,_,_,Y,_,_,Y,Y,?_⟩;refine ⟨_,Y,?_⟩;refine ⟨_,Y,?_⟩;refine ⟨_,Y,?_⟩;refine ⟨_,Y,?_⟩;refine (et:);obtain ⟨hql,my⟩:=Wh hq;exact (k1 c _ (Same.add (Same.add sm (sm.free hl)) (sm.free my))).2.2 a b q ep p8 em ne (sm.free my) Zc
def Za8 {ns:List Int} {i:Nat} (h:Xq H r ns) (hx:ns[i]?=some x):∃ ts:List Addr,∃ q,H r=some (a3:)/\ts[i / 3]?=some q/\H q=some (.tup (row3 ns (i / 3)))/\(row3 ns (i / 3))[i % 3]?=some (V.int x):=by
 obtain ⟨ts,h1,h2,h3⟩:=h;have hi:i < ns.length:=(Aa hx).1;have hk:i / 3 < ts.length:=by lia
 refine ⟨ts,ts[i / 3],h1,Ac hk,h3 _ _ (Ac hk),?_⟩;have g:∀ j,ns[j]?=some x->ns.getD j 0=x:=λj hj=>by rw [Ad,hj]; rfl
 have hm:i % 3=0\/i % 3=1\/i % 3=2:=by lia
 rcases hm with m | m | m
 ·have:3 * (i / 3)=i:=by lia
  rw [m]; show some (V.int (ns.getD (3 * (i / 3)) 0))=_; rw [this,g i hx]
 ·have:3 * (i / 3) + 1=i:=by lia
  rw [m]; show some (V.int (ns.getD (3 * (i / 3) + 1) 0))=_; rw [this,g i hx]
 ·have:3 * (i / 3) + 2=i:=by lia
  rw [m]; show some (V.int (ns.getD (3 * (i / 3) + 2) 0))=_; rw [this,g i hx]
def div3 (i:Nat):(i:Int) / 3=((i / 3:Nat):Int):=by lia
def mod3 (i:Nat):(i:Int) % 3=((i % 3:Nat):Int):=by lia
def sp_law (K:W.Frag):Sp:=λvs H Q _=>∃ (a:Addr) (ns:List Int),vs=[.ref a]/\SqL K H a (L:)/\ns.length<=63/\∀ H',Q (.bl true) H'
def sp_law_start {ns:List Int} (hl:ns.length<=63) (hS:SqL K H a (L:)):sp_law K [.ref a] H (λv _=>v=.bl true) λ_ _ _=>False:=⟨a,ns,rfl,hS,hl,λ_=>rfl⟩
def Zln {M:Lq} {ns:List Int} (td:TD M ns) {i j:Nat} {x:Int} (hm:M[i]?=some (some j)) (hij:i < j) (hx:ns[i]?=some x):x∈keys ns ns.length/\pl ns ns.length x=[i,j]:=by
 have hi:i < ns.length:=(Aa hx).1;have hk:x∈keys ns ns.length:=Y8.mpr ⟨i,hi,hx⟩;have mi:i∈pl ns ns.length x:=Xd.mpr ⟨hi,hx⟩;refine ⟨hk,?_⟩
 rcases Qi td hk with ⟨a,e,_,ma⟩ | ⟨a,b,p8,e,_,_,ma,mb⟩
 ·rw [e,mem_singleton] at mi
  subst mi;rw [hm] at ma; cases ma
 ·rw [e] at mi
  rcases Ar mi with z | z
  ·subst z
   rw [hm] at ma;cases ma;exact e
  ·have z:i=b:=by simpa using z
   subst z;rw [hm] at mb;cases mb;lia
def Kd {a b:List Int} (h1:a.Perm c) (h2:b.Perm c) (s1:a.Pairwise (·<=·)) (s2:b.Pairwise (·<=·)):a=b :=
 (h1.trans h2.symm).eq_of_pairwise (λx y _ _ h1 h2=>Int.le_antisymm h1 h2) s1 s2
def Zol {ws:List Int}:(((ws.map V.int).length:Nat):Int)=ws.length:=by rw [Ab]
def Zo3 (x0:Int) (xr:List Int):cutV ((x0 :: xr).map V.int) (some 1) none=xr.map V.int:=by
 unfold cutV;have e1:HT.sIx ((x0 :: xr).map V.int).length 0 (some ((1:Nat):Int))=1:=by
  rw [HT.sIx_nat,Ab,length_cons]
  lia
 rw [show (some (1:Int))=some ((1:Nat):Int) from rfl,e1,HT.sIx_none,map_cons,drop_succ_cons,drop_zero,length_cons,Nat.add_sub_cancel,take_length]
def Zgt {α:Type} {p:α->Bool} {l:List α} {i:Nat} {x:α} (h:l[i]?=some x):(l.take (i + 1)).filter p=if p x=true then (l.take i).filter p ++ [x] else (l.take i).filter p:=by
 rw [Aw,h,filter_append];by_cases c:p x=true
 ·simp [c]
 ·simp [c]
def Zpw:Sp:=λvs H Q _=>∃ (m a:Addr) (M:Lq) (xs:List Int),vs=[.ref m,.ref a]/\H m=some (a4:)/\H a=some (ep:)/\xs≠[]/\xs.length<=60/\(cq:)/\M.length<=42/\(∃ n,M.length=3 * n)/\(be:) /\
 ∀ (l:Addr) (ws:List Nat) (H':Hp),Same H H'->H l=none->H' l=some (.lst (ws.map nV))->ws.length<=60->(ws=[]\/Pl M ws)->Q (.ref l) H'
def Zk6 (K:W.Frag):Sp:=λvs H Q _=>∃ (a m:Addr) (sc:List Int) (i:Int) (M:Lq),vs=[.ref a,.int i,.ref m]/\SqL K H a (sc.map V.int)/\sc.length<=63/\0<=i/\i < 1000/\H m=some (a4:)/\M.length<=42/\(∃ n,M.length=3 * n)/\(be:) /\
 ∀ (l:Addr) (ws:List Nat) (H':Hp),Same H H'->H l=none->H' l=some (.lst (ws.map nV))->ws.length<=60->(ws=[]\/Pl M ws)->Q (.ref l) H'
noncomputable def mq (M:Lq) (i:Nat):Bool:=match M[i]? with
 | some (some _)=>true
 | _=>false
def Qn {M:Lq}:mq M i=true ↔ ∃ j,M[i]?=some (some j):=by
 unfold mq;split
 ·rename_i j h; exact ⟨λ_=>⟨j,h⟩,λ_=>rfl⟩
 ·rename_i h; exact ⟨λz=>absurd z (c:),λ⟨j,e⟩=>absurd e (h j)⟩
def Wa:FnScope ["_law_mates","_law_nums","_law_spots","_law_row_here","_law_pick","_law_side","_law_ways","_law_start","_law_stop"] ["_law_mates","_law_nums"] (Zg Zfn):=Am
def Zl4 (T:Txt w K mg t):(a:) 1 t.iA t.iN ["_law_mates","_law_nums"] Zpw:=by
 refine T.iV.F.aR Wa (b:)
 ·obtain ⟨m,a,M,xs,rfl,hm,ha,vh,hx60,hx,h42,⟨n,hn⟩,inv,k⟩:=h
  refine ⟨_,(Zf (Xm (ts:=["_law_p"]) (fv:=[("_law_mates",0)]) (i:=2) (e:) rfl Wa.nd rfl rfl (by rfl) (Je rfl T.aM (Za (ck:) Zb)) (ab:) (λ_ _ _ _=>(Uq (Zs Go (Zt (Qm K) (pv 1) (pv 0) (j:)) Uu (Zn _)))) (K:) (dz:))
   (Zf (Yj (Zs Yf (ei:) Zd (Zn _)) (Zh (Zl (Yz Zb))) Z8)
   (Zf (psN 3 Wa.nd (Yz (Za (Zt Zv (pv 2) (Zi Z7 (db:) (ei:)) (j:)) Zb)))
   (Zf (Wn PassesOwn.never rfl (Yh (X3 Wl (pv 1) (X0 Zd) Jg)) (pgN 4 Wa.nd) (Zf (psN 5 Wa.nd (Zt Zv (pv 0) (Zt Zv (pv 3) (Zpf Zks Zd) (j:)) (j:)))
   (Zf (Xm (ts:=["_law_k"]) (fv:=[("_law_side",5)]) (i:=6) (e:) rfl Wa.nd rfl rfl (by rfl) (Je rfl T.aM (Za Zd Zb)) (ab:) (Q:) (K:) (λ_ _ _ _ _ _=>Yb (Zi Yi (Zi Qz (pv 1) (Zi Z7 (pv 1) Zd)) (Zi Z7 (Zi Yi (Zi Yi (pv 1) Zd) (pv 0)) Zd))))
   (Zf (Xm (ts:=["_law_p"]) (fv:=[("_law_mates",0)]) (i:=6) (e:) rfl Wa.nd rfl rfl (by rfl) (Yh (pv 6)) (ab:) (λ_ _ _ _=>(Uq (Zs Go (Zt (Qm K) (pv 1) (pv 0) (j:)) Uu (Zn _)))) (K:) (dz:))
   (Zf (Yj (Zs Yf (Zx T.af (Za (pv 6) Zb)) Zd (Zn _)) (Zh Zn4) Z8)
   (Zh (Z5 (Wp (pv 3) (Za (Zt Zv (pv 6) (Zi Z7 (pv 4) (Zx T.af (Za (pv 6) Zb))) (j:)) Zb)))))))))
   (Zf (Wn PassesOwn.never rfl (Je rfl T.aM (Za (Zx T.af (Za (pv 3) Zb)) Zb)) (pgN 7 Wa.nd) (Zh (Wn PassesOwn.never rfl (Zqf rfl T.gA rfl T.aM (Za (Zi Yi (pv 7) Zd) (Za (Zx T.af (Za (pv 3) Zb)) Zb))) (pgN 8 Wa.nd) (Zh (Yj (Zs Yf (Zt Zv (pv 3) (pv 7) (j:)) (Zt Zv (pv 3) (pv 8) (j:)) (Zn _)) (Zh (Zl (X3 Wl (pv 3) (X0 (pv 7)) (X0 (pv 8))))) Z8)))))
   (Zh (Zl (Yz Zb)))))))),?_⟩;refine Zw λky j5=>?_;refine ⟨m,_,Y,.inl (SqL.of hm),_,Y,by lia,by rw [Ab]; lia,λD hD=>?_⟩;have eL:(cb:).toNat=M.length:=by simp
  rw [eL];refine Vb (λi σ H1=>∃ v,σ=[v,oR m]/\Same H H1/\H1 D=some (.lst (((List.range i).filter (mq M)).map nV))) (ac:) ?_ ?_
  ·rintro i σ H1 kn ⟨v,rfl,sm,h1⟩
   dsimp only [Zm];rw [Int.zero_add];obtain ⟨y,hy⟩:∃ y,M[i]?=some y:=⟨_,Ac kn⟩;have lt:(((List.range i).filter (mq M)).map nV).length < sizeLine:=by
    rw [Ab]
    have:=length_filter_le (mq M) (List.range i)
    rw [length_range] at this
    exact Zo (by lia)
   refine ⟨SqL.of (sm _ _ hm),X4 hy,Y,?_⟩
   cases y with
   | none =>
    refine iteF ⟨_,Y,sm,?_⟩;rw [h1,range_succ,filter_append];have:mq M i=false:=by rw [Bool.eq_false_iff]; intro z; obtain ⟨j,e⟩:=Qn.mp z; rw [hy] at e; cases e
    simp [this]
   | some j =>
    refine iteT ⟨_,h1,lt,_,Y,Same.add sm hD,?_⟩;rw [Zc,range_succ,filter_append];have:mq M i=true:=Qn.mpr ⟨j,hy⟩;simp [this];rfl
  rintro σ H1 ⟨v,rfl,s1,h1⟩;refine j5 _ _ ?_;have mz:∀ p∈(List.range M.length).filter (mq M),∃ j,M[p]?=some (some j):=λp hp=>Qn.mp (mem_filter.mp hp).2;generalize (List.range M.length).filter (mq M)=sps at h1 mz;refine Zw λky j5=>⟨D,_,Y,.inl (SqL.of h1),Y,(ite2 (λc=>?_) (λc=>?_))⟩
  ·exact ⟨Az _,λl hl=>k l [] _ (Same.add s1 (s1.free hl)) (s1.free hl) Zc (Az _) (.inl Y)⟩
  have kq:0 < sps.length:=by
   cases sps with
   | nil=>exact absurd Y c
   | cons _ _=>simp
  dsimp only [U7];refine j5 _ _ ?_
  obtain ⟨x0,xr,rfl⟩:∃ x0 xr,xs=x0 :: xr:=by
   cases xs with
   | nil=>exact absurd Y vh
   | cons a b=>exact ⟨a,b,Y⟩
  have k0:=Int.emod_nonneg x0 (show (sps.length:Int)≠0 by lia);have k1:=Int.emod_lt_of_pos x0 (show (0:Int) < sps.length by lia);obtain ⟨kk,ye⟩:∃ kk:Nat,x0 % (sps.length:Int)=kk:=⟨_,(Int.toNat_of_nonneg k0).symm⟩;have l9:kk < sps.length:=by lia
  refine Zw λky j5=>?_;refine ⟨SqL.of (s1 _ _ ha),(show atI _ (ca:)=_ from Xa Y),D,_,Y,.inl (SqL.of h1),(by rw [Ab]; lia),SqL.of h1,(by rw [Ab,ye]; exact X4 (Ac l9)),(szR Y),λr oq=>?_⟩;refine j5 _ _ ?_;have ua:H r=none:=s1.free oq;obtain ⟨j0,hj0⟩:=mz _ (getElem_mem l9);have ch0:Ch M [sps[kk]]:=Ch.one hj0;generalize sps[kk]=p0 at ch0;have s2:Same H (upd H1 r (.lst [nV p0])):=Same.add s1 ua;have h2:(upd H1 r (.lst [nV p0])) r=some (.lst ([p0].map nV)):=Zc;generalize upd H1 r (.lst [nV p0])=H2 at s2 h2;dsimp only [Zm];show tSeq (tFor _ _ _) _ _ _ _;refine Z0 (λσ H3=>∃ (row:List Nat) (v4 v5 v6:Option V),σ=[oR m,oR a,oR D,oR r,v4,v5,v6,none,none]/\Same H H3/\H3 r=some (.lst (row.map nV))/\Ch M row/\row.length<=60) (D:) ?_
  ·refine ⟨_,Y,a,_,Y,SqL.of (s2 _ _ ha),λq hq=>?_⟩
   rw [Zo3];have hrq:r≠q:=Zk h2 hq;have wu:H q=none:=s2.free hq;refine ⟨q,Y,⟨_,SqL.of Zc⟩,?_⟩;rw [length_cons] at hx60;refine Op (xs:=xr.map V.int) (λi σ H3=>∃ (row:List Nat) (v4 v5 v6:Option V),σ=[oR m,oR a,oR D,oR r,v4,v5,v6,none,none]/\Same H H3/\H3 q=some (.lst (xr.map V.int))/\H3 r=some (.lst (row.map nV))/\Ch M row/\row≠[]/\row.length<=i + 1)
    ⟨[p0],none,none,none,rfl,Same.add s2 wu,Zc,by rw [Ze hrq]; exact h2,ch0,by simp,by simp⟩ ?_ ?_ ?_
   ·rintro i σ H3 _ ⟨row,v4,v5,v6,rfl,s3,h3,_⟩
    exact SqL.of h3
   ·rintro i x σ H3 xp ⟨row,v4,v5,v6,rfl,s3,h3,h4,ch,rne,yo⟩
    have hi:i < xr.length:=by have:=(Aa xp).1; rw [Ab] at this; exact this
    obtain ⟨ko,hpk,rfl⟩:∃ ko,xr[i]?=some ko/\x=V.int ko:=by
     rw [Ah,Ac hi] at xp;exact ⟨_,Ac hi,(Ax xp).symm⟩
    obtain ⟨la,hla⟩:∃ la,row.getLast?=some la:=by
     cases e:row.getLast? with
     | none=>exact absurd (getLast?_eq_none_iff.mp e) rne
     | some z=>exact ⟨z,Y⟩
    have hlm:la∈row:=mem_of_getLast? hla;obtain ⟨sd,hsd⟩:=ch.has la hlm;have hsdM:sd < M.length:=(Aa (inv la sd hsd).1).1
    have elast:atI (row.map nV) (-1)=some (nV la):=by
     unfold atI ixN
     have hl:0 < row.length:=by cases row with | nil=>exact absurd rfl rne | cons _ _=>simp
     rw [if_neg (c:),if_pos (by rw [Ab]; lia)];show ((row.map nV)[((-1:Int) + (row.map nV).length).toNat]?)=_;rw [Ab,show ((-1:Int) + (row.length:Int)).toNat=row.length - 1 by lia,Ah,<- getLast?_eq_getElem?,hla];rfl
    dsimp only [Zm];refine Zw λky j5=>⟨_,Y,SqL.of h4,elast,SqL.of (s3 _ _ hm),X4 hsd,(j5 _ _ ?_)⟩;refine Zw λky j5=>⟨2,Y,by decide,by decide,λW hW=>?_⟩;have hW0:H W=none:=s3.free hW;have hWr:r≠W:=Zk h4 hW;have hWq:q≠W:=Zk h3 hW;refine Vb (n:=2) (λc σ H5=>∃ v,σ=[v,some (nV sd)]/\Same H3 H5/\H5 W=some (.lst (((el:).take c).map nV))) ⟨none,Y,Same.new hW,Zc⟩ ?_ ?_
    ·rintro c σ H5 hc ⟨v,rfl,s5,h5⟩
     dsimp only [Zm,tYes];rw [if_pos rfl];refine ⟨(bj:),(bj:),_,h5,?_,_,rfl,Same.add s5 hW,?_⟩
     ·rw [Ab,Ai]; exact Zo (by lia)
     ·rw [Zc]
      have hc:c=0\/c=1:=by lia
      have e:∀ k:Nat,(sd:Int) - (sd:Int) % 3 + ((sd:Int) + 1 + (0 + (k:Int))) % 3=((kr sd (k + 1):Nat):Int):=λk=>by unfold kr; omega
      rcases hc with rfl | rfl
      ·show some (HO.lst ([] ++ [V.int ((sd:Int) - (sd:Int) % 3 + ((sd:Int) + 1 + (0 + (ca:))) % 3)]))=_
       rw [e 0]; rfl
      ·show some (HO.lst ([nV (kr sd 1)] ++ [V.int ((sd:Int) - (sd:Int) % 3 + ((sd:Int) + 1 + (0 + ((1:Nat):Int))) % 3)]))=_
       rw [e 1]; rfl
    rintro σ H5 ⟨v,rfl,s5,h5⟩;refine j5 _ _ ?_;have h5:H5 W=some (.lst ((el:).map nV)):=h5;have sl:∀ c,kr sd c < M.length:=λc=>by rw [hn]; exact Zp5 (by lia)
    refine Zw λky j5=>⟨W,Y,⟨_,SqL.of h5⟩,λW2 hW2=>?_⟩;have s35:=s3.trans s5;refine Yc (xs:=(el:).map nV) (λc σ H6=>∃ v,σ=[v,oR m]/\Same H5 H6/\H6 W2=some (.lst ((((el:).take c).filter (mq M)).map nV))) ⟨none,Y,Same.new hW2,Zc⟩ ?_ ?_ ?_
    ·rintro c σ H6 _ ⟨v,rfl,s6,h6⟩
     exact SqL.of (s6 _ _ h5)
    ·rintro c x σ H6 hxc ⟨v,rfl,s6,h6⟩
     obtain ⟨p,hp,rfl⟩:=map_some hxc;have hpM:p < M.length:=by
      have:=Au hp
      rcases Ar this with rfl | z
      ·exact sl 1
      ·rw [Af z]; exact sl 2
     obtain ⟨y,hy⟩:∃ y,M[p]?=some y:=⟨_,Ac hpM⟩;dsimp only [Zm];refine ⟨SqL.of (s6 _ _ (s35 _ _ hm)),X4 hy,Y,?_⟩
     cases y with
     | none =>
      refine iteF ⟨_,Y,s6,?_⟩;have:mq M p=false:=by rw [Bool.eq_false_iff]; intro z; obtain ⟨j,e⟩:=Qn.mp z; rw [hy] at e; cases e
      rw [h6,Zgt hp,if_neg (by rw [this]; decide)]
     | some jj =>
      refine iteT ⟨_,h6,?_,_,Y,Same.add s6 hW2,?_⟩
      ·rw [Ab]
       have h1:=length_filter_le (mq M) ((el:).take c);have h2:((el:).take c).length<=2:=by rw [Ai]; exact Nat.min_le_right _ _
       exact Zo (by lia)
      ·rw [Zc,Zgt hp,if_pos (Qn.mpr ⟨jj,hy⟩),Aj]
       rfl
    rintro σ H6 ⟨v,rfl,s6,h6⟩;refine j5 _ _ ?_;have h6:H6 W2=some (.lst (((el:).filter (mq M)).map nV)):=h6;have hws:∀ p∈(el:).filter (mq M),(∃ j,M[p]?=some (some j))/\p / 3=sd / 3/\p≠sd:=λp hp=>by
     obtain ⟨z1,z2⟩:=mem_filter.mp hp
     refine ⟨Qn.mp z2,?_,?_⟩
     ·rcases Ar z1 with rfl | z
      ·exact Zfa _ _
      ·rw [Af z]; exact Zfa _ _
     ·rcases Ar z1 with rfl | z
      ·unfold kr; omega
      ·rw [Af z]; unfold kr; omega
    generalize [kr sd 1,kr sd 2].filter (mq M)=wys at h6 hws;have s36:=s5.trans s6;have yk:=s36 _ _ h4;have h3':=s36 _ _ h3;have qb:=s3.trans s36;refine Zw λky j5=>⟨W2,_,Y,.inl (SqL.of h6),Y,(ite2 (λc=>?_) (λc=>?_))⟩
    ·exact kc _ _ ⟨row,_,_,_,Y,qb,yk,ch,by lia⟩
    have hwp:0 < wys.length:=by
     cases wys with
     | nil=>exact absurd Y c
     | cons _ _=>simp
    dsimp only [U7];refine j5 _ _ ?_;have c0:=Int.emod_nonneg ko (show (wys.length:Int)≠0 by lia);have c1:=Int.emod_lt_of_pos ko (show (0:Int) < wys.length by lia);obtain ⟨cc,hcc⟩:∃ cc:Nat,ko % (wys.length:Int)=cc:=⟨_,(Int.toNat_of_nonneg c0).symm⟩;have hcl:cc < wys.length:=by lia
    obtain ⟨w1,w2,w3⟩:=hws _ (getElem_mem hcl);have hget:=Ac hcl;refine ⟨.inl ⟨Y,_,SqL.of yk⟩,W2,_,Y,.inl (SqL.of h6),(by rw [Ab]; lia),SqL.of h6,(by rw [Ab,hcc]; exact X4 hget),r,_,_,Y,Y,yk,(cv:),?_⟩;refine ⟨row ++ [wys[cc]],_,_,_,Y,Same.add qb ua,?_,?_,ch.snoc hla hsd w2 w3 w1,by simp,by rw [Ae,At]; lia⟩
    ·rw [Ze (Ne.symm hrq)]; exact h3'
    ·rw [Zc,Aj]; rfl
   ·rintro σ H3 ⟨row,v4,v5,v6,rfl,s3,h3,h4,ch,rne,yo⟩
    rw [Ab] at yo;exact kc _ _ ⟨row,_,_,_,Y,s3,h4,ch,by lia⟩
  rintro σ H3 ⟨row,v4,v5,v6,rfl,s3,h3,ch,yo⟩;show tSeq (tFor _ _ _) _ _ _ _;refine Z0 (λσ H4=>H4=H3) (D:) ?_
  ·refine ⟨r,_,Y,.inl (SqL.of h3),_,Y,by lia,by rw [Ab]; lia,?_⟩
   have eR:(((row.map nV).length:Nat):Int).toNat=row.length:=by simp
   rw [eR];refine Ga (n:=row.length) (λi σ H4=>∃ v7 v8,σ=[oR m,oR a,oR D,oR r,v4,v5,v6,v7,v8]/\H4=H3) ⟨_,_,Y,Y⟩ ?_ ?_
   ·rintro i σ H4 hi ⟨v7,v8,rfl,rfl⟩
    dsimp only [Zm];rw [Int.zero_add];refine ⟨r,_,Y,.inl (SqL.of h3),((i + 1:Nat):Int),row.length - (i + 1),?_,by lia,by lia,?_⟩
    ·rw [Ab]
     show [V.int ((i:Int) + 1),V.int (row.length:Int)]=_;rw [show ((i:Int) + 1)=((i + 1:Nat):Int) by lia,show (row.length:Int)=((i + 1:Nat):Int) + ((row.length - (i + 1):Nat):Int) by lia]
    refine Zkg (n:=row.length - (i + 1)) (λc σ H5=>∃ v8,σ=[oR m,oR a,oR D,oR r,v4,v5,v6,oI i,v8]/\H5=H4) ⟨_,Y,Y⟩ ?_ ?_
    ·rintro c σ H4 hc ⟨v8,rfl,rfl⟩
     obtain ⟨e,he,hie,hel⟩:∃ e:Nat,((i + 1:Nat):Int) + ((row.length - (i + 1):Nat):Int) - 1 + (c:Int) * -1=(e:Int)/\i < e/\e < row.length:=⟨row.length - 1 - c,by lia,by lia,by lia⟩;dsimp only [Zm];rw [he];have gi:=Ac hi;have ge:=Ac hel;refine ⟨SqL.of h3,X4 gi,SqL.of h3,X4 ge,Y,(ite2 (λz=>?_) (λz=>?_))⟩
     ·have z:nV row[i]=nV row[e]:=of_decide_eq_true z
      have z:row[i]=row[e]:=by unfold nV at z; injection z with z; lia
      refine ⟨_,Y,_,Y,r,_,Y,SqL.of h3,λl hl=>?_⟩;have ec:cutV (row.map nV) (some (i:Int)) (some (e:Int))=((row.drop i).take (e - i)).map nV:=by
       unfold cutV
       rw [HT.sIx_nat,HT.sIx_nat,Ab,Nat.min_eq_left (by lia),Nat.min_eq_left (by lia),map_take,map_drop]
      rw [ec];refine k l _ _ (Same.add s3 (s3.free hl)) (s3.free hl) Zc ?_ (.inr (ch.cut hie gi (by rw [ge,z])));rw [Ai,length_drop]; lia
     ·exact ⟨_,Y,Y⟩
    ·rintro σ H4 ⟨v8,rfl,rfl⟩
     exact ⟨_,_,Y,Y⟩
   ·rintro σ H4 ⟨v7,v8,rfl,rfl⟩
    exact kc _ _ Y
  ·rintro σ H4 rfl
   exact ⟨Az _,λl hl=>k l [] _ (Same.add s3 (s3.free hl)) (s3.free hl) Zc (Az _) (.inl Y)⟩
noncomputable def Gi (ws:List Int) (by':Int):List Int:=rot ws (by' % ws.length).toNat
def Zk4:Sp:=λvs H Q _=>∃ (a:Addr) (ws:List Int) (b:Int),vs=[.ref a,.int b]/\H a=some (.lst (ws.map V.int))/\ws.length<=100000/\∀ (l:Addr) (H':Hp),Same H H'->H l=none->H' l=some (.lst ((Gi ws b).map V.int))->Q (.ref l) H'
def Ze0 (C:Addr):Sp:=λvs H Q _=>∃ (p:Addr) (M:Lq) (ns:List Int) (x:Int),vs=[.ref p,.int x]/\Z4 C H p M ns/\M.length=ns.length/\Q (.bl (Xx M x)) H
def Zjm (C:Addr):Sp:=λvs H Q _=>∃ (p:Addr) (M:Lq) (ns:List Int) (a x:Int),vs=[.ref p,.int a,.int x]/\Z4 C H p M ns/\M.length=ns.length/\Xx M a=true/\Q (.bl (Jm M a x)) H
def Znn (C:Addr):Sp:=λvs H Q _=>∃ (p a:Addr) (M:Lq) (ns ws:List Int),vs=[.ref p,.ref a]/\Z4 C H p M ns/\M.length=ns.length/\H a=some (.lst (ws.map V.int))/\ws.length<=100000/\∀ H',Same H H'->Q (.bl (Xv M ws)) H'
def Zb2 (C EN:Addr):Sp:=λvs H Q E=>∃ (p a:Addr) (M:Lq) (ns ws:List Int),vs=[.ref p,.ref a]/\Z4 C H p M ns/\M.length=ns.length/\H a=some (.lst (ws.map V.int))/\ws.length<=100000/\∀ H',Same H H'->(Xv M ws=true->Q .non H')/\(Xv M ws=false->E (.ref EN) none H')
def Zjq {n:Nat} (h:n<=100000):n<=sizeLine:=by rw [sizeLine_eq]; lia
def Zo5 {ws:List Int} (h:s<=ws.length):cutV (ws.map V.int) (some (s:Int)) none=(ws.drop s).map V.int:=by
 unfold cutV;rw [HT.sIx_nat,HT.sIx_none,Ab,Nat.min_eq_left h,map_drop,take_of_length_le];rw [length_drop,Ab];exact An _
def Zs2 {ws:List Int} (h:s<=ws.length):cutV (ws.map V.int) none (some (s:Int))=(ws.take s).map V.int:=by
 unfold cutV;rw [HT.sIx_none,HT.sIx_nat,Ab,Nat.min_eq_left h,drop_zero,Nat.sub_zero,map_take]
def G7:FnScope ["_law_script","_law_at","_law_mates","_law_cell_here"] ["_law_script","_law_at","_law_mates"] (Zg Za1):=Am
def Zhs (T:Txt w K mg t):(a:) 2 t.fN t.f8 ["_law_script","_law_at","_law_mates"] (Zk6 K):=by
 refine T.gn.F.aR G7 (b:)
 ·obtain ⟨a,m,sc,i,M,rfl,hS,hl,i0,i1,hm,h42,hn,inv,k⟩:=h
  refine ⟨_,(Zf (psN 3 G7.nd (pcT (J1 T) hr T.a8 (Za (pv 0) (A:))))
   (Zh (Zl (pcT (Zl4 T) hr T.iV (Za (pv 2) (Za (pcT (K2 T) hr T.cy (Za (Zi Y5 (pv 3) Zd) (Za (Zi Yi Zd (Zi Z7 (pv 3) Zd)) Zb))) Zb)))))),?_⟩;refine ⟨a,sc,i,Y,hS,hl,i0,by lia,?_⟩;dsimp only [Zm];generalize cell sc i=c;have m0:0<=c % 50:=Int.emod_nonneg _ (c:);have m1:c % 50 < 50:=Int.emod_lt_of_pos _ (c:);have e:(4 + c % 50:Int)=((4 + (c % 50).toNat:Nat):Int):=by lia
  refine ⟨⟨by decide,by decide⟩,(by show (0:Int) < 50; decide),_,4 + (c % 50).toNat,(by rw [<- e]; rfl),by lia,λp xs H1 s1 hp h1 sj hx=>?_⟩;refine ⟨m,p,M,xs,Y,s1 _ _ hm,h1,λz=>by rw [z] at sj; simp at sj; lia,by lia,hx,h42,hn,inv,λl ws H2 s2 nj h2 hw lg=>k l ws H2 (s1.trans s2) (s1.free nj) h2 hw lg⟩
def Zct:FnScope ["word","by","start"] ["word","by"] (Zg Zfj):=Am
def Zl0 (T:Txt w K mg t):(a:) 1 t.iq t.iG ["word","by"] Zk4:=by
 refine T.iR.F.aR Zct (b:)
 ·obtain ⟨a,ws,b,rfl,ha,hl,k⟩:=h
  refine ⟨_,(Zf (Yj (Jo (Of (pv 0) (λ_=>rfl))) (Zh (Zl (Yz Zb))) Z8)
   (Zf (psN 2 Zct.nd (Zi Z7 (pv 1) (ck:)))
   (Zh (Zl (Zi Zf6 (X3 Wl (pv 0) (X0 (pv 2)) Jg) (X3 Wl (pv 0) Jg (X0 (pv 2)))))))),?_⟩;refine Zw λky j5=>⟨_,.inl ⟨_,SqL.of ha,Y⟩,?_⟩;by_cases kq:ws=[]
  ·subst kq
   exact iteT ⟨Az _,λl hl'=>k l _ (Same.new hl') hl' (by rw [Zc]; unfold Gi rot; simp)⟩
  ·have e:(!(ws.map V.int).isEmpty)=true:=by cases ws with | nil=>exact absurd rfl kq | cons _ _=>rfl
   have hp:0 < ws.length:=by cases ws with | nil=>exact absurd rfl kq | cons _ _=>simp
   rw [e];refine iteF ?_;dsimp only [U7];refine j5 _ _ ?_;have k0:=Int.emod_nonneg b (show (ws.length:Int)≠0 by lia);have k1:=Int.emod_lt_of_pos b (show (0:Int) < ws.length by lia);obtain ⟨st,mh⟩:∃ st:Nat,b % (ws.length:Int)=st:=⟨_,(Int.toNat_of_nonneg k0).symm⟩;have zy:st<=ws.length:=by lia
   have et:Gi ws b=ws.drop st ++ ws.take st:=by unfold Gi rot; rw [mh,Int.toNat_natCast]
   refine ⟨a,_,Y,.inl (SqL.of ha),(by rw [Ab]; lia),?_⟩;dsimp only [Zm];rw [Zol,mh];refine ⟨_,Y,a,_,Y,SqL.of ha,λl1 h1=>?_⟩;rw [Zo5 zy];have s1:Same H (upd H l1 (.lst ((ws.drop st).map V.int))):=Same.new h1;refine ⟨_,Y,a,_,Y,SqL.of (s1 _ _ ha),λl2 h2=>?_⟩;rw [Zs2 zy];obtain ⟨uj,h2'⟩:=Wh h2;refine ⟨l1,l2,_,_,Y,Y,by rw [Ze (Ne.symm uj),Zc],Zc,?_,λl3 h3=>?_⟩
   ·rw [Ab,Ab,length_drop,Ai]; exact Zjq (by lia)
   ·have s3:=Same.add (o:=.lst ((ws.take st).map V.int)) s1 h2'
    refine k l3 _ (Same.add s3 (s3.free h3)) (s3.free h3) ?_;rw [Zc,et,Aj]
def Zfe:FnScope ["tent","place"] ["tent","place"] (Zg Fk):=Am
def Zgb (T:Txt w K mg t):(a:) 4 t.dW t.eJ ["tent","place"] (Ze0 t.aa):=by
 refine T.fg.F.aR Zfe (b:)
 ·obtain ⟨p,M,ns,x,rfl,ta,pi,k⟩:=h
  obtain ⟨dx,cl,na,sp,mt,o,f,b⟩:=id ta;refine ⟨_,(Zh (Zl (Zbc (Xr (pv 0) T.ae T.ax.m (Q8 T) (ai:) T.ax.b .nil Yv (A:)) (Ut (Y4 Go (Xr (pv 0) T.ae T.aP.m (K4 T) (ai:) T.aP.b .nil Yv (A:)) Uu (Zn _)))))),?_⟩;refine ⟨b.ins,Y1 _ _ _ _,p,M,ns,x,Y,ta,_,Y,?_⟩;by_cases c:0<=x/\x < (ns.length:Int)
  ·rw [decide_eq_true c]
   refine iteT ⟨b.ins,Y1 _ _ _ _,p,M,ns,x,Y,ta,pi,λi y e1 e2=>?_,λz=>absurd c z⟩;refine ⟨Y,?_⟩
   have:Xx M x=!decide (mV y=.non):=by
    unfold Xx;rw [e1,Int.toNat_natCast,Ad,e2,decide_eq_true (show (0:Int)<=i/\(i:Int) < M.length by lia)];cases y <;> rfl
   rw [this] at k;exact k
  ·rw [decide_eq_false c]
   have:Xx M x=false:=by unfold Xx; rw [decide_eq_false (by lia)]; rfl
   rw [this] at k;exact iteF k
def Zau:FnScope ["tent","ahead","place","entry"] ["tent","ahead","place"] (Zg Zc3):=Am
def Zj7 (T:Txt w K mg t):(a:) 4 t.gG t.gO ["tent","ahead","place"] (Zjm t.aa):=by
 refine T.gZ.F.aR Zau (b:)
 ·obtain ⟨p,M,ns,a,x,rfl,ta,pi,hc,k⟩:=h
  obtain ⟨dx,cl,na,sp,mt,o,f,b⟩:=id ta;refine ⟨_,(Zf (psN 3 Zau.nd (Xr (pv 0) T.ae T.aP.m (K4 T) (ai:) T.aP.b .nil Yv (A:)))
   (Zh (Zl (Zbc (Y4 Yf (pcT (Qs T) hr T.aY (y:)) (pcT (Qs T) hr T.aY (Za (pv 3) Zb)) (Zn _)) (Ut (Y4 Zef (pv 2) (pv 3) (Zn _))))))),?_⟩
  obtain ⟨oq,vk⟩:=Bool.and_eq_true_iff.mp hc;have oq:=of_decide_eq_true oq;obtain ⟨m,hm⟩:=Option.isSome_iff_exists.mp vk;have hal:a.toNat < M.length:=by lia
  have ha:M[a.toNat]?=some (some m):=by rw [Ad,Ac hal] at hm; rw [Ac hal]; exact congrArg some hm
  have ef:Jm M a x=(decide (x / 3=(m:Int) / 3) && !decide (x=(m:Int))):=by unfold Jm; rw [hm]
  rw [ef] at k;refine ⟨b.ins,Y1 _ _ _ _,p,M,ns,a,Y,ta,pi,λi y e1 e2=>?_,λz=>absurd (show 0<=a/\a < (ns.length:Int) by lia) z⟩;have:i=a.toNat:=by lia
  subst this;rw [ha] at e2;cases e2;refine ⟨_,Y,_,Y,Y,_,Y,?_⟩;have dI:∀ u v:Int,decide (V.int u=V.int v)=decide (u=v):=λu v=>by
   by_cases z:u=v
   ·subst z; simp
   ·rw [decide_eq_false z,decide_eq_false (λy=>z (by injection y))]
  rw [dI];by_cases z:x / 3=(m:Int) / 3
  ·rw [decide_eq_true z] at k ⊢
   refine iteT ⟨Y,?_⟩;show Q (.bl (!decide (V.int x=V.int (m:Int)))) H;rw [dI];exact k
  ·rw [decide_eq_false z] at k ⊢
   exact iteF k
def Znt:FnScope ["tent","word"] ["tent","word"] (Zg Zh8):=Am
def Zod (T:Txt w K mg t):(a:) 5 t.jb t.je ["tent","word"] (Znn t.aa):=by
 refine T.jh.F.aR Znt (b:)
 ·obtain ⟨p,a,M,ns,ws,rfl,ta,pi,ha,hl,k⟩:=h
  refine ⟨_,(Zf (Yj (PW.pt (Zba (Jo (Of (pv 1) (λ_=>rfl))) (Ks (Jo (Jn (Yg (Zak Y) (by rfl) T.jA PyProof.Rows.boot_all (Za (Yn (ts:=["place"]) (fv:=[("tent",0)]) (e:) rfl (Yh (pv 1)) (ab:) (Q:) (K:) (λ_ _ _ _ _ _=>Yb (pcT (Zgb T) hr T.fg (Za (pv 1) (w:))))) Zb))))))) (Zh (Zl Zpg)) Z8)
   (Zh (Zl (Yg (Zak rfl) (by rfl) T.jA PyProof.Rows.boot_all (Za (Yn (ts:=["ahead","place"]) (fv:=[("tent",0)]) (e:) rfl (Zij rfl T.jQ (Za (pv 1) (Za (pcT (Zl0 T) hr T.iR (Za (pv 1) (Za Zd Zb))) Zb))) (λ_ _ _ _=>(Jh (n:=2) K rfl (Zq (pgN 0 nd3) (Zq (pgN 1 nd3) Ym)))) (Q:) (K:) (λ_ _ _ _ _ _=>Yb (pcT (Zj7 T) hr T.gZ (Za (pv 2) (Za (pv 0) (A:)))))) Zb))))),?_⟩;refine Zw λky j5=>⟨_,.inl ⟨_,SqL.of ha,Y⟩,?_⟩;by_cases kq:ws=[]
  ·subst kq
   exact iteT (k _ (Same.refl _))
  ·have e:(!(ws.map V.int).isEmpty)=true:=by cases ws with | nil=>exact absurd rfl kq | cons _ _=>rfl
   have e':(!ws.isEmpty)=true:=by cases ws with | nil=>exact absurd rfl kq | cons _ _=>rfl
   have hp:0 < ws.length:=by cases ws with | nil=>exact absurd rfl kq | cons _ _=>simp
   rw [e];refine iteF ?_;refine ⟨a,Y,⟨_,SqL.of ha⟩,λD hD=>Yc (xs:=ws.map V.int) (λi σ H1=>∃ v,σ=[v,oR p]/\Same H H1/\H1 D=some (.lst (((ws.take i).map (Xx M)).map V.bl))) (ac:) ?_ ?_ ?_⟩
   ·rintro i σ H1 _ ⟨v,rfl,sm,h1⟩
    exact SqL.of (sm _ _ ha)
   ·rintro i x σ H1 hx ⟨v,rfl,sm,h1⟩
    obtain ⟨y,hy,rfl⟩:=map_some hx;dsimp only [Zm,tYes];rw [if_pos rfl];refine ⟨p,M,ns,y,Y,ta.same sm,pi,_,h1,?_,_,Y,Same.add sm hD,?_⟩
    ·rw [Ab,Ab,Ai,sizeLine_eq]; lia
    ·rw [Zc,Aw,hy,Aj,Aj]; rfl
   rintro σ H1 ⟨v,rfl,s1,h1⟩;rw [Ab,take_length] at h1;refine ⟨D,_,Y,SqL.of h1,?_⟩;by_cases hc:(ws.map (Xx M)).all id=true
   ·rw [hc]
    refine iteF ?_;dsimp only [U7];refine j5 _ _ ?_;refine ⟨a,ws,1,Y,s1 _ _ ha,hl,λtl H2 s2 htl h2=>?_⟩;have o6:=s1.trans s2;have et:Gi ws 1=rot ws (1 % ws.length):=by
     unfold Gi
     congr 1
    rw [et] at h2;have hrl:(rot ws (1 % ws.length)).length=ws.length:=Zcf ws (Nat.le_of_lt (mod_lt _ hp));have hcr:∀ y∈ws,Xx M y=true:=λy hy=>all_eq_true.mp hc _ (mem_map.mpr ⟨y,hy,rfl⟩);have ep:Xv M ws=(J5 M ws (rot ws (1 % ws.length))).all id:=by unfold Xv; rw [e',hc]; rfl
    have k':=λH' s'=>k H' s';rw [ep] at k';generalize rot ws (1 % ws.length)=vs at h2 hrl k';refine ⟨.l a,.l tl,_,_,Y,SqL.of (o6 _ _ ha),SqL.of h2,λD2 md=>Zmd (S:=.l a) (T:=.l tl) (xs:=ws.map V.int) (ys:=vs.map V.int) (by rw [Ab,Ab,hrl]) (λi σ H3=>∃ v v',σ=[v,v',oR p]/\Same H2 H3/\H3 D2=some (.lst (((J5 M ws vs).take i).map V.bl))) ⟨none,none,Y,Same.new md,Zc⟩ ?_ ?_ ?_⟩
    ·rintro i σ H3 _ ⟨v,v',rfl,s3,h3⟩
     exact ⟨SqL.of (s3 _ _ (o6 _ _ ha)),SqL.of (s3 _ _ h2)⟩
    ·rintro i x y σ H3 q hx hy hq ⟨v,v',rfl,s3,h3⟩
     obtain ⟨x',oo,rfl⟩:=map_some hx;obtain ⟨y',vg,rfl⟩:=map_some hy;have s4:Same H3 (upd H3 q (.tup [V.int x',V.int y'])):=Same.new hq;refine ⟨q,_,Y,SqT.of Zc,Y,_,_,Y,_,_,Y,Y,?_⟩;dsimp only [tYes];rw [if_pos rfl];refine ⟨p,M,ns,x',y',Y,((ta.same o6).same s3).same s4,pi,hcr x' (Au oo),_,s4 _ _ h3,?_,_,_,Y,Same.add (s3.trans s4) md,?_⟩
     ·rw [Ab,Ai]
      have:(J5 M ws vs).length<=ws.length:=by unfold J5; rw [Ab,length_zip]; lia
      rw [sizeLine_eq]; lia
     ·have:(J5 M ws vs)[i]?=some (Jm M x' y'):=by
       unfold J5;rw [Ah,getElem?_zip_eq_some (z:=(x',y')) |>.mpr ⟨oo,vg⟩];rfl
      rw [Zc,Aw,this,Aj];rfl
    rintro σ H3 ⟨v,v',rfl,s3,h3⟩;have lg:(J5 M ws vs).length=ws.length:=by unfold J5; rw [Ab,length_zip]; lia
    rw [Ab,take_of_length_le (Nat.le_of_eq lg)] at h3;exact ⟨D2,_,Y,SqL.of h3,k' _ (o6.trans s3)⟩
   ·have hc:(ws.map (Xx M)).all id=false:=by rw [Bool.eq_false_iff]; exact hc
    rw [hc];have ep:Xv M ws=false:=by unfold Xv; rw [hc]; simp
    have:=k _ s1;rw [ep] at this;exact iteT this
def Zb8:FnScope ["tent","word"] ["tent","word"] (Zg Oz):=Am
def Zcj (T:Txt w K mg t):(a:) 6 t.cG t.cN ["tent","word"] (Zb2 t.aa t.aJ):=by
 refine T.cT.F.aX Zb8 (b:)
 ·obtain ⟨p,a,M,ns,ws,rfl,ta,pi,ha,hl,k⟩:=h
  refine ⟨_,(Zr (Y9 (Jo (Jn (pcT (Zod T) hr T.jh (Za (pv 0) (A:))))) (Zr (Yo T.i8 FBV Y T.fq Y (bl:))) Yy)),?_⟩;refine ⟨p,a,M,ns,ws,Y,ta,pi,ha,hl,λH' s'=>?_⟩;obtain ⟨k1,k2⟩:=k H' s'
  cases e:Xv M ws with
  | true=>exact iteF (k1 e)
  | false=>exact iteT ⟨by decide,k2 e⟩
noncomputable def dI (ks:List Int) (f:Int->Int):List (Key × V):=ks.map λx=>((dv:),V.int (f x))
def Zm3 (h:y∈ks):valV (dI ks f) (Sum.inl y)=some (V.int (f y)):=by unfold dI; rw [Jy,if_pos h]
def Zgz (h:y∈ks):putK (dI ks f) (Sum.inl y) (V.int v)=dI ks λx=>if x=y then v else f x:=by
 unfold dI;rw [Zid h];apply map_congr_left;intro x _;by_cases c:x=y
 ·simp [c]
 ·simp [c]
def Zs1 (h:y ∉ ks):putK (dI ks f) (Sum.inl y) (V.int v)=dI (ks ++ [y]) λx=>if x=y then v else f x:=by
 unfold dI;rw [Zcg h,Aj];congr 1
 ·apply map_congr_left
  intro x hx;have:x≠y:=λz=>h (z ▸ hx);simp [this]
 ·simp
def U4 {ks:List Int}:(dI ks f).length=ks.length:=by unfold dI; simp
noncomputable def rowI (n:Nat) (f:Nat->Int):List V:=(List.range n).map λp=>V.int (f p)
def F6 (n:Nat) (f:Nat->Int):(rowI n f).length=n:=by unfold rowI; simp
def Zp9 (h:p < n):(rowI n f)[p]?=some (V.int (f p)):=by unfold rowI; rw [Ah,getElem?_range h]; rfl
def Zno:Sp:=λvs H Q _=>∃ (r c:Addr) (ns:List Int) (f:Nat->Int),vs=[.ref r,.ref c]/\Xq H r ns/\ns.length<=1000/\H c=some (.lst (rowI ns.length f)) /\
 ∀ (l:Addr) (g:Int->Int) (H':Hp),Same H H'->H l=none->H' l=some (.dK (dI (o:) g))->(∀ x∈keys ns ns.length,∃ p,ns[p]?=some x/\g x=f p)->Q (.ref l) H'
theorem Ql (ns:List Int):∀ n,(keys ns n).length<=n
 | 0=>An _
 | n + 1=>by
  have ih:=Ql ns n
  cases h:ns[n]? with
  | none =>
   have:keys ns (n + 1)=keys ns n:=by
    show (B:)=_;rw [h]
   rw [this]; lia
  | some x =>
   rw [Ww h];split
   ·lia
   ·rw [Ae,At]; lia
def Oa:FnScope ["_law_rows_here","_law_counts","_law_due","_law_p"] ["_law_rows_here","_law_counts"] (Zg Zc1):=Am
def Zbh (T:Txt w K mg t):(a:) 1 t.gN t.gY ["_law_rows_here","_law_counts"] Zno:=by
 refine T.dL.F.aR Oa (λ_ _ _ s H vs Q E hr h=>?_)
 ·obtain ⟨r,c,ns,f,rfl,oq,hl,hc,k⟩:=h
  have hu:=Xh hr;refine ⟨_,(Zf (psN 2 Oa.nd Oj)
   (Zf (Wn PassesOwn.never rfl (Je rfl T.aM (Za (Zx T.af (A:)) Zb)) (pgN 3 Oa.nd) (Zh (Qh hu (pv 2) (Zt Yr (Zt Zv (pv 0) (Zi Y5 (pv 3) Zd) (j:)) (Zi Z7 (pv 3) Zd) (j:)) (Zt Zv (pv 1) (pv 3) (j:)) rfl)))
   (Zh (Zl (pv 2))))),?_⟩
  intro d hd;have s1:Same H (upd H d (.dK [])):=Same.new hd;dsimp only [Zm];show tSeq (tFor _ _ _) _ _ _ _;refine Z0 (λσ H'=>∃ (g:Int->Int) (v:Option V),σ=[oR r,oR c,oR d,v]/\Same H H'/\H' d=some (.dK (dI (o:) g))/\∀ x∈keys ns ns.length,∃ p,ns[p]?=some x/\g x=f p) (D:) ?_
  ·refine ⟨c,_,Y,.inl (SqL.of (s1 _ _ hc)),_,Y,by rw [F6]; lia,by rw [F6]; lia,?_⟩
   have eL:((((rowI ns.length f).length:Nat):Int)).toNat=ns.length:=by rw [F6,Int.toNat_natCast]
   rw [eL];refine Ga (n:=ns.length) (λi σ H'=>∃ (g:Int->Int) (v:Option V),σ=[oR r,oR c,oR d,v]/\Same H H'/\H' d=some (.dK (dI (keys ns i) g))/\∀ x∈keys ns i,∃ p,ns[p]?=some x/\g x=f p) ⟨λ_=>0,_,Y,s1,Zc,λx hx=>by simp [keys] at hx⟩ ?_ ?_
   ·rintro i σ H' hi ⟨g,v,rfl,s2,qd,hg⟩
    dsimp only [Zm];rw [Int.zero_add];obtain ⟨y,hy⟩:∃ y,ns[i]?=some y:=⟨_,Ac hi⟩;obtain ⟨xi,q,e1,e2,e3,e4⟩:=Za8 (oq.same s2) hy;have vq:=s2 _ _ hc;refine ⟨SqL.of vq,Xa (Zp9 hi),?_⟩;refine ⟨⟨by decide,by decide⟩,SqL.of e1,(show atI _ _=some (.ref q) by rw [div3]; exact X4 e2),(bj:),SqT.of e3,(by rw [mod3]; exact Xa e4),?_⟩;refine ⟨d,_,Y,DPut.k (k:=Sum.inl y) qd (by rw [U4]; exact Zo (by have:=Ql ns i; lia)),?_⟩;refine ⟨λx=>if x=y then f i else g x,_,Y,Same.add s2 hd,?_,?_⟩
    ·rw [Zc,Ww hy]
     by_cases z:y∈keys ns i
     ·rw [if_pos z,Zgz z]
     ·rw [if_neg z,Zs1 z]
    ·intro x hx
     by_cases z:x=y
     ·subst z
      exact ⟨i,hy,if_pos Y⟩
     ·have:x∈keys ns i:=by
       rw [Ww hy] at hx;split at hx
       ·exact hx
       ·rcases mem_append.mp hx with q' | q'
        ·exact q'
        ·exact absurd (Af q') z
      obtain ⟨p,h1,h2⟩:=hg x this;exact ⟨p,h1,by show (if x=y then f i else g x)=f p; rw [if_neg z]; exact h2⟩
   ·rintro σ H' ⟨g,v,rfl,s2,qd,hg⟩
    exact kc _ _ ⟨g,v,Y,s2,qd,hg⟩
  ·rintro σ H' ⟨g,v,rfl,s2,qd,hg⟩
   exact k d g H' s2 hd qd hg
inductive Dd where
 | lay (x:Str) (ws:List Int) | pour (x:Str) (ks:List Int) (f:Int->Int) | lift (x:Str) | weigh (s a b:Int) | turn (s:Int) (w:Str)
def Nums (wl:List Str) (ws:List Int):Prop:=wl.length=ws.length/\∀ (i:Nat) y n,wl[i]?=some y->ws[i]?=some n->Wd y/\numP y=some n
def Cnts (wl:List Str) (ks:List Int) (f:Int->Int):Prop:=wl.length=ks.length/\ks.length < 64/\ks.Pairwise (· < ·)/\∀ (i:Nat) y k,wl[i]?=some y->ks[i]?=some k->Pr2 58 y k (f k)
def Rdo:List Str->Dd->Prop
 | v :: x :: wl,.lay y ws=>v=Str.ofString "lay"/\x=y/\Wd x/\isN x=true/\wl≠[]/\wl.length<=900/\Nums wl ws
 | v :: x :: wl,.pour y ks f=>v=Str.ofString "pour"/\x=y/\Wd x/\isN x=true/\wl≠[]/\Cnts wl ks f
 | [v,x],.lift y=>v=Str.ofString "lift"/\x=y/\Wd x/\isN x=true
 | [v,x,y],.weigh s a b=>v=Str.ofString "weigh"/\Wd x/\numP x=some s/\Pr2 47 y a b
 | [v,x,y],.turn s w=>v=Str.ofString "turn"/\Wd x/\numP x=some s/\y=w/\(w=Str.ofString "left"\/w=Str.ofString "right")
 | _,_=>False
def Zbb (H:Hp) (u:Addr):Dd->Prop
 | .lay x ws=>∃ m,H u=some (.tup [.str x,.ref m])/\H m=some (.lst (ws.map V.int))
 | .pour x ks f=>∃ m,H u=some (.tup [.str x,.ref m])/\H m=some (.dK (dI ks f))
 | .lift x=>H u=some (.tup [.str x])
 | .weigh s a b=>H u=some (.tup [.int s,.int a,.int b])
 | .turn s w=>H u=some (.tup [.int s,.str w])
noncomputable def verb:Dd->Str
 | .lay _ _=>Str.ofString "lay" | .pour _ _ _=>Str.ofString "pour" | .lift _=>Str.ofString "lift" | .weigh _ _ _=>Str.ofString "weigh" | .turn _ _=>Str.ofString "turn"
def DdAt (H:Hp) (u:Addr) (D:Dd):Prop:=∃ m,H u=some (.tup [.str (verb D),.ref m])/\Zbb H m D
def Zbb.same {H H':Hp} {u:Addr} {D:Dd} (h:Zbb H u D) (s:Same H H'):Zbb H' u D:=by
 cases D with
 | lay x ws=>obtain ⟨m,h1,h2⟩:=h; exact ⟨m,s _ _ h1,s _ _ h2⟩
 | pour x ks f=>obtain ⟨m,h1,h2⟩:=h; exact ⟨m,s _ _ h1,s _ _ h2⟩
 | lift x=>exact s _ _ h
 | weigh a b c=>exact s _ _ h
 | turn a b=>exact s _ _ h
def DdAt.same {H H':Hp} {u:Addr} {D:Dd} (h:DdAt H u D) (s:Same H H'):DdAt H' u D:=by
 obtain ⟨m,h1,h2⟩:=h;exact ⟨m,s _ _ h1,h2.same s⟩
noncomputable def hid (H:Hp) (D:Addr):Hp:=λb=>if b=D then none else H b
def Zmn {H:Hp} {D b:Addr} {u:HO} (h:H b=some u) (n:b≠D):hid H D b=some u:=by unfold hid; rw [if_neg n]; exact h
def Zmm {H:Hp} {D:Addr}:Same (hid H D) H:=λb u e=>by
 unfold hid at e;by_cases z:b=D
 ·rw [if_pos z] at e; cases e
 ·rw [if_neg z] at e; exact e
def Zot {H H':Hp} {D:Addr} {o:HO} (s:Same H H'):Same (hid H D) (hid (upd H' D o) D):=λb u e=>by
 unfold hid at e ⊢;by_cases z:b=D
 ·rw [if_pos z] at e; cases e
 ·rw [if_neg z] at e
  rw [if_neg z,Ze z];exact s _ _ e
def J2 {H H':Hp} {D b:Addr} {o u:HO} (h:H D=some o) (hb:H b=none) (e:H' b=some u):hid H' D b=some u:=Zmn e λz=>by rw [z,h] at hb; cases hb
def cut1 (x:Str) (l:List Str):cutV ((x :: l).map V.str) (some 1) none=l.map V.str:=by
 unfold cutV;rw [show (some (1:Int))=some ((1:Nat):Int) from rfl,HT.sIx_nat];show List.take (((x :: l).map V.str).length - min 1 _) (List.drop (min 1 _) _)=_;rw [Ab,length_cons,Nat.min_eq_left (by lia)];show List.take (l.length + 1 - 1) (l.map V.str)=_;rw [Nat.add_sub_cancel,<- Ab (f:=V.str),take_length]
def Zhg:Sp:=λvs H Q _=>∃ (x a b c d:Str) (i j k:Int),vs=[.str x]/\x.length<=5000/\wdS x=[a,b,c,d]/\Wd b/\Wd c/\Wd d/\numP b=some i/\numP c=some j/\numP d=some k/\∀ (l:Addr) (H':Hp),Same H H'->H l=none->H' l=some (.tup [.int i,.int j,.int k])->Q (.ref l) H'
def Ze1:Sp:=λvs H Q _=>∃ (a:Addr) (wl:List Str) (ks:List Int) (f:Int->Int),vs=[.ref a]/\H a=some (eq:)/\Cnts wl ks f/\∀ (c:Addr) (H':Hp),Same H H'->H c=none->H' c=some (.dK (dI ks f))->Q (.ref c) H'
def Gj (v0:Str):Sp:=λvs H Q _=>∃ (a:Addr) (wl:List Str) (D:Dd),vs=[.ref a]/\verb D=v0/\H a=some (eq:)/\Rdo (v0 :: wl) D/\∀ (u:Addr) (H':Hp),Same H H'->H u=none->(∀ b o,H b=some o->Zbb (hid H' b) u D)->Q (.ref u) H'
def Zp3 (v0:Str):Sp:=λvs H Q _=>∃ (x:Str) (D:Dd),vs=[.str x]/\verb D=v0/\x.length<=50000/\Rdo (wdS x) D/\∀ (u:Addr) (H':Hp),Same H H'->(∀ b o,H b=some o->DdAt (hid H' b) u D)->Q (.ref u) H'
def Zjp:Sp:=λvs H Q _=>∃ (x:Str) (D:Dd),vs=[.str x]/\x.length<=50000/\Rdo (wdS x) D/\∀ (u:Addr) (H':Hp),Same H H'->(∀ b o,H b=some o->DdAt (hid H' b) u D)->Q (.ref u) H'
noncomputable def rdK (t:Adr):List (Key × V):=(ct:)
def G9:FnScope ["row","words"] ["row"] (Zg Za5):=Am
def Zhu (T:Txt w K mg t):(a:) 4 t.fM t.f7 ["row"] Zhg:=by
 refine T.gm.F.aR G9 (b:)
 ·obtain ⟨x,a,b,c,d,i,j,m,rfl,hz,ew,wb,wc,wd,hb,hc,hd,k⟩:=h
  refine ⟨_,(Zf (psN 1 G9.nd (ba:))
   (Zf (Z5 (pcT (Yq T) hr T.aj (Za (Y4 Yf (Zx T.af (A:)) Zd (Zn _)) Zb)))
   (Zh (Zl (Yp (Za (pcT (Xp T) hr T.au (Za (db:) Zb)) (Za (pcT (Xp T) hr T.au (Za (db:) Zb)) (Za (pcT (Xp T) hr T.au (Za (db:) Zb)) Zb)))))))),?_⟩;refine ⟨Y,x,Str.ofString " ",rfl,rfl,rfl,by rw [sizeLine_eq]; lia,λl hl=>?_⟩;rw [show Txt.split x (an:)=[a,b,c,d] from ew];have s1:Same H (upd H l (c3:)):=Same.new hl;have h1:(upd H l (c3:)) l=some (c3:):=Zc;show tSeq _ _ _ _ (upd H l (c3:));generalize upd H l (.lst [.str a,.str b,.str c,.str d])=H1 at s1 h1 ⊢;refine ⟨l,_,Y,.inl (SqL.of h1),Y,Y,SqL.of h1,Y,b,i,Y,wb,hb,λH2 s2=>⟨SqL.of (s2 _ _ h1),Y,c,j,Y,wc,hc,λH3 s3=>⟨SqL.of (s3 _ _ (s2 _ _ h1)),Y,d,m,Y,wd,hd,λH4 s4=>?_⟩⟩⟩;have m6:=s1.trans (s2.trans (s3.trans s4));exact ⟨(szR Y),λq hq=>k q _ (m6.trans (Same.new hq)) (m6.free hq) Zc⟩
def Vm:FnScope ["words","pairs","seams"] ["words"] (Zg Fl):=Am
def Zgc (T:Txt w K mg t):(a:) 5 t.d8 t.eY ["words"] Ze1:=by
 refine T.fk.F.aR Vm (b:)
 ·obtain ⟨a,wl,ks,f,rfl,ha,⟨hl,hk,xv,hp⟩,k⟩:=h
  refine ⟨_,(Zf (Xm (ts:=["word"]) (fv:=[]) (i:=1) (i:) rfl Vm.nd rfl rfl (by rfl) (Yh (pv 0)) (aw:) (Q:) (K:) (λ_ _ _ _ _ _=>Yb (pcT (Q7 T) hr T.aL (Za (pv 0) (bl:)))))
   (Zf (Xm (ts:=["seam","number"]) (fv:=[]) (i:=2) (i:) rfl Vm.nd rfl rfl (by rfl) (Yh (pv 1)) (λ_ _ _ _=>(Jh (n:=2) K rfl (Zq (pgN 0 nd2) (Zq (pgN 1 nd2) Ym)))) (Q:) (K:) (dz:))
   (Zf (Z5 (pcT (Yq T) hr T.aj (Za (Y4 (Zsi hr.units) (pv 2) (Yg (Zg1 rfl) (by rfl) T.bu PyProof.Rows.boot_sorted (Za (Ys (Zm6 rfl) (by rfl) T.jX PySem.Pv.boot_set (y:)) Zb)) (Zn _)) Zb)))
   (Zh (Zl (Ys (Zkm rfl) (by rfl) T.gz PySem.Pv.boot_dict (A:))))))),?_⟩;refine Z0 (λσ H'=>∃ (D:Addr) (us:List Addr),σ=[oR a,oR D,none]/\Same H H'/\H' D=some (.lst (us.map V.ref))/\us.length=ks.length/\∀ (i:Nat) u x,us[i]?=some u->ks[i]?=some x->H' u=some (.tup [.int x,.int (f x)])) (D:) ?_
  ·refine ⟨a,Y,⟨_,SqL.of ha⟩,λD hD=>?_⟩
   refine Yc (xs:=wl.map V.str) (λi σ H6=>∃ (v:Option V) (us:List Addr),σ=[v]/\Same H H6/\H6 D=some (.lst (us.map V.ref))/\us.length=i/\∀ (j:Nat) u x,us[j]?=some u->ks[j]?=some x->H6 u=some (.tup [.int x,.int (f x)])) ⟨none,[],Y,Same.new hD,Zc,Y,λj u x e=>by simp at e⟩ ?_ ?_ ?_
   ·rintro i σ H6 _ ⟨v,us,rfl,s6,_⟩
    exact SqL.of (s6 _ _ ha)
   ·rintro i q σ H6 hq ⟨v,us,rfl,s6,h6,qc,rg⟩
    obtain ⟨y,hy,rfl⟩:=map_some hq;have nv:i < ks.length:=by rw [<- hl]; exact (Aa hy).1
    have hki:=Ac nv;dsimp only [Zm,tYes];rw [if_pos rfl];refine ⟨y,58,_,_,Y,hp i y _ hy hki,λu H7 s7 hu h7=>?_⟩;have nu:u≠D:=λz=>by rw [z,h6] at hu; cases hu
    refine ⟨_,s7 _ _ h6,by rw [Ab]; exact Zo (by lia),_,us ++ [u],Y,Same.add (s6.trans s7) hD,by rw [Zc,Aj]; rfl,by rw [Ae,qc]; rfl,λj u' x e1 e2=>?_⟩;by_cases c:j < us.length
    ·rw [Av c] at e1
     have g:=rg j u' x e1 e2;rw [Ze (λz=>by rw [z,h6] at g; cases g)];exact s7 _ _ g
    ·have hj:j=us.length:=by
      have:=(Aa e1).1;rw [Ae,At] at this;lia
     subst hj;rw [getElem?_append_right (An _),Nat.sub_self] at e1;cases e1;rw [qc,hki] at e2;cases e2;rw [Ze nu];exact h7
   ·rintro σ H6 ⟨v,us,rfl,s6,h6,qc,rg⟩
    rw [Ab,hl] at qc;exact kc _ _ ⟨D,us,Y,s6,h6,qc,rg⟩
  rintro σ H1 ⟨D,us,rfl,s1,h1,qc,rg⟩;refine Z0 (λσ H'=>∃ D2:Addr,σ=[oR a,oR D,oR D2]/\Same H1 H'/\H' D2=some (.lst (ks.map V.int))) (D:) ?_
  ·refine ⟨D,Y,⟨_,SqL.of h1⟩,λD2 hD=>?_⟩
   refine Yc (xs:=us.map V.ref) (λi σ H6=>∃ (v0 v1:Option V),σ=[v0,v1]/\Same H1 H6/\H6 D2=some (.lst ((ks.take i).map V.int))) ⟨none,none,Y,Same.new hD,Zc⟩ ?_ ?_ ?_
   ·rintro i σ H6 _ ⟨v0,v1,rfl,s6,_⟩
    exact SqL.of (s6 _ _ h1)
   ·rintro i q σ H6 hq ⟨v0,v1,rfl,s6,h6⟩
    obtain ⟨u,hu,rfl⟩:=map_some hq;have nv:i < ks.length:=by rw [<- qc]; exact (Aa hu).1
    have hki:=Ac nv;have hu6:=s6 _ _ (rg i u _ hu hki);refine ⟨u,_,Y,SqT.of hu6,Y,_,_,Y,_,_,Y,Y,?_⟩;dsimp only [Zm,tYes];rw [if_pos rfl];refine ⟨_,h6,by rw [Ab,Ai]; exact Zo (by lia),_,_,Y,Same.add s6 hD,?_⟩;rw [Zc,Aw,hki,Aj];rfl
   ·rintro σ H6 ⟨v0,v1,rfl,s6,h6⟩
    rw [Ab,qc,take_length] at h6;exact kc _ _ ⟨D2,Y,s6,h6⟩
  rintro σ H2 ⟨D2,rfl,s2,h2⟩;refine Z0 (λσ H'=>σ=[oR a,oR D,oR D2]/\Same H2 H') (D:) ?_
  ·refine ⟨D2,ks,Y,SqL.of h2,by lia,λq hq=>?_⟩
   have s3:=Same.new (o:=setH P w q (dd ks)) hq;have nd:ks.Nodup:=xv.imp λh e=>absurd (e ▸ h) (Int.lt_irrefl _);have pm:(dd ks).Perm ks:=(perm_ext_iff_of_nodup (Zo2 ks) nd).mpr λx=>Zsz;refine ⟨q,dd ks,Y,Zc,(by rw [pm.length_eq]; lia),λl out nj pm2 mf=>?_⟩;have s4:=Same.new (o:=.lst (out.map V.int)) nj;have eo:ks=out:=Kd (.refl _) (pm2.trans pm) (xv.imp λh=>Int.le_of_lt h) mf;refine ⟨D2,l,ks,out,Y,Y,SqL.of (s4 _ _ (s3 _ _ h2)),SqL.of Zc,?_⟩;rw [decide_eq_true eo];exact ⟨Y,kc _ _ ⟨Y,s3.trans s4⟩⟩
  rintro σ H3 ⟨rfl,s3⟩;have u4:=s2.trans s3;refine ⟨D,us,dI ks f,Y,u4 _ _ h1,by rw [qc,U4],λi u kv e1 e2=>?_,?_,λp su=>k p _ ((s1.trans u4).trans (Same.new su)) ((s1.trans u4).free su) Zc⟩
  ·unfold dI at e2
   obtain ⟨x,hx,rfl⟩:=by rw [Ah] at e2; exact Option.map_eq_some_iff.mp e2
   exact u4 _ _ (rg i u x e1 hx)
  ·unfold dI
   rw [map_map]
   exact xv.map _ λa b h e=>by injection e with e; exact absurd (e ▸ h) (Int.lt_irrefl _)
def Zph {x:Str} {wl:List Str} (ne:wl≠[]):decide ((2:Int)<=((((x :: wl).map V.str).length:Nat):Int))=true:=by
 have:=length_pos_iff.mpr ne;exact decide_eq_true (by rw [Ab,length_cons]; lia)
def at0 {x:Str} {wl:List Str}:atI ((x :: wl).map V.str) (ca:)=some (V.str x):=X4 (i:=0) rfl
def Zle:FnScope ["words"] ["words"] (Zg Zfm):=Am
def Zl3 (T:Txt w K mg t):(a:) 4 t.df t.iI ["words"] (Gj "lay"):=by
 refine T.gl.F.aR Zle (b:)
 ·obtain ⟨a,wl,D,rfl,hv,ha,hR,k⟩:=h
  cases D with
  | lay y ws =>
   obtain ⟨x,wl,rfl⟩:∃ x r,wl=x :: r:=by
    cases wl with
    | nil=>exact hR.elim
    | cons x r=>exact ⟨x,r,Y⟩
   obtain ⟨_,rfl,wx,nx,ne,hl,hn1,tf⟩:=hR
   refine ⟨_,(Zf (Z5 (pcT (Yq T) hr T.aj (Za (Y4 Zeg (ck:) Zd (Zn _)) Zb)))
   (Zh (Zl (Yp (Za (pcT (Ol T) hr T.cE (c0:)) (Za (Yn (ts:=["word"]) (fv:=[]) (i:) rfl (Yh (X3 Wl (pv 0) (X0 Zd) Jg)) (aw:) (Q:) (K:) (λ_ _ _ _ _ _=>Yb (pcT (Xp T) hr T.au (w:)))) Zb)))))),?_⟩
   refine ⟨a,_,Y,.inl (SqL.of ha),congrArg (λb=>[V.bl b]) (Zph ne),SqL.of ha,at0,x,Y,wx,nx,λH2 s2=>⟨_,Y,a,_,Y,SqL.of (s2 _ _ ha),λc hc=>?_⟩⟩;rw [cut1];have s3:Same H2 (upd H2 c (eq:)):=Same.new hc;have h3:(upd H2 c (eq:)) c=some (eq:):=Zc;generalize upd H2 c (.lst (wl.map V.str))=H3 at s3 h3 ⊢;have k8:=s2.trans s3;refine ⟨c,Y,⟨_,SqL.of h3⟩,λD hD=>Yc (xs:=wl.map V.str) (λi σ H6=>∃ v,σ=[v]/\Same H3 H6/\H6 D=some (.lst ((ws.take i).map V.int))) (ac:) ?_ ?_ ?_⟩
   ·rintro i σ H6 _ ⟨v,rfl,s6,_⟩
    exact SqL.of (s6 _ _ h3)
   ·rintro i q σ H6 hq ⟨v,rfl,s6,h6⟩
    obtain ⟨p,hp,rfl⟩:=map_some hq;have nv:i < ws.length:=by rw [<- hn1]; exact (Aa hp).1
    obtain ⟨n,hw⟩:∃ n,ws[i]?=some n:=⟨_,Ac nv⟩;obtain ⟨wp,hn⟩:=tf i p n hp hw;dsimp only [Zm,tYes];rw [if_pos rfl];refine ⟨p,n,Y,wp,hn,λH7 s7=>?_⟩;refine ⟨_,s7 _ _ h6,by rw [Ab,Ai]; exact Zo (by lia),_,Y,Same.add (s6.trans s7) hD,?_⟩;rw [Zc,Aw,hw,Aj];rfl
   ·rintro σ H6 ⟨v,rfl,s6,h6⟩
    rw [Ab,hn1,take_length] at h6;refine (et:);have qb:=k8.trans s6;exact k q _ (qb.trans (Same.new hq)) (qb.free hq) λb o e=>⟨D,J2 e (qb.free hq) Zc,J2 e (k8.free hD) (Same.new hq _ _ h6)⟩
  | _=>exact absurd hv (ef:)
def Zjw:FnScope ["words"] ["words"] (Zg Zcx):=Am
def Zj5 (T:Txt w K mg t):(a:) 6 t.cA t.gU ["words"] (Gj "pour"):=by
 refine T.dG.F.aR Zjw (b:)
 ·obtain ⟨a,wl,D,rfl,hv,ha,hR,k⟩:=h
  cases D with
  | pour y ks f =>
   obtain ⟨x,wl,rfl⟩:∃ x r,wl=x :: r:=by
    cases wl with
    | nil=>exact hR.elim
    | cons x r=>exact ⟨x,r,Y⟩
   obtain ⟨_,rfl,wx,nx,ne,hc⟩:=hR
   refine ⟨_,(Zf (Z5 (pcT (Yq T) hr T.aj (Za (Y4 Zeg (ck:) Zd (Zn _)) Zb)))
   (Zh (Zl (Yp (Za (pcT (Ol T) hr T.cE (c0:)) (Za (pcT (Zgc T) hr T.fk (Za (X3 Wl (pv 0) (X0 Zd) Jg) Zb)) Zb)))))),?_⟩
   refine ⟨a,_,Y,.inl (SqL.of ha),congrArg (λb=>[V.bl b]) (Zph ne),SqL.of ha,at0,x,Y,wx,nx,λH2 s2=>⟨_,Y,a,_,Y,SqL.of (s2 _ _ ha),λc vt=>?_⟩⟩;rw [cut1];have k8:=s2.trans (Same.new (o:=.lst (wl.map V.str)) vt);refine ⟨c,wl,ks,f,Y,Zc,hc,λD H6 s6 hD h6=>(et:)⟩;have qb:=k8.trans s6;exact k q _ (qb.trans (Same.new hq)) (qb.free hq) λb o e=>⟨D,J2 e (qb.free hq) Zc,J2 e (k8.free hD) (Same.new hq _ _ h6)⟩
  | _=>exact absurd hv (ef:)
def Zjz:FnScope ["words"] ["words"] (Zg Zc0):=Am
def Zj6 (T:Txt w K mg t):(a:) 4 t.cB t.gV ["words"] (Gj "lift"):=by
 refine T.dH.F.aR Zjz (b:)
 ·obtain ⟨a,wl,D,rfl,hv,ha,hR,k⟩:=h
  cases D with
  | lift y =>
   obtain ⟨x,rfl⟩:∃ x,wl=[x]:=by
    match wl,hR with
    | [x],_=>exact ⟨x,Y⟩
   obtain ⟨_,rfl,wx,nx⟩:=hR
   refine ⟨_,(Zf (Z5 (pcT (Yq T) hr T.aj (Za (Y4 Yf (ck:) Zd (Zn _)) Zb)))
   (Zh (Zl (Yp (Za (pcT (Ol T) hr T.cE (c0:)) Zb))))),?_⟩
   refine ⟨a,_,Y,.inl (SqL.of ha),Y,Y,SqL.of ha,at0,x,Y,wx,nx,λH2 s2=>?_⟩;exact ⟨(szR Y),λq hq=>k q _ (s2.trans (Same.new hq)) (s2.free hq) λb o e=>J2 e (s2.free hq) Zc⟩
  | _=>exact absurd hv (ef:)
def Ua:FnScope ["words","top","bottom"] ["words"] (Zg Zaw):=Am
def Zho (T:Txt w K mg t):(a:) 5 t.bw t.f6 ["words"] (Gj "weigh"):=by
 refine T.cZ.F.aR Ua (b:)
 ·obtain ⟨a,wl,D,rfl,hv,ha,hR,k⟩:=h
  cases D with
  | weigh sm i j =>
   obtain ⟨x,y,rfl⟩:∃ x y,wl=[x,y]:=by
    match wl,hR with
    | [x,y],_=>exact ⟨x,y,Y⟩
   obtain ⟨_,wx,nx,p2⟩:=hR
   refine ⟨_,(Zf (Z5 (pcT (Yq T) hr T.aj (Za (Y4 Yf (ck:) Zd (Zn _)) Zb)))
   (Zf (Xu (pcT (Q7 T) hr T.aL (Za (Zt Zv (pv 0) Zd (j:)) (bl:))) (Wr rfl (Zq (pgN 1 Ua.nd) (Zq (pgN 2 Ua.nd) Ym))))
   (Zh (Zl (Yp (Za (pcT (Xp T) hr T.au (c0:)) (Za (pv 1) (y:)))))))),?_⟩
   refine ⟨a,_,Y,.inl (SqL.of ha),Y,Y,SqL.of ha,(show atI [V.str x,V.str y] 1=some (V.str y) from Y),y,47,_,_,Y,p2,λl H2 s2 hl h2=>⟨l,_,Y,SqT.of h2,Y,_,_,Y,_,_,Y,Y,SqL.of (s2 _ _ ha),at0,x,_,Y,wx,nx,λH3 s3=>?_⟩⟩;have k8:=s2.trans s3;refine ⟨(szR Y),λq hq=>k q _ (k8.trans (Same.new hq)) (k8.free hq) λb o e=>J2 e (k8.free hq) Zc⟩
  | _=>exact absurd hv (ef:)
def Zju:FnScope ["words"] ["words"] (Zg Zcv):=Am
def Zj3 (T:Txt w K mg t):(a:) 4 t.cC t.gW ["words"] (Gj "turn"):=by
 refine T.dJ.F.aR Zju (b:)
 ·obtain ⟨a,wl,D,rfl,hv,ha,hR,k⟩:=h
  cases D with
  | turn sm ke =>
   obtain ⟨x,y,rfl⟩:∃ x y,wl=[x,y]:=by
    match wl,hR with
    | [x,y],_=>exact ⟨x,y,Y⟩
   obtain ⟨_,wx,nx,rfl,hw⟩:=hR
   refine ⟨_,(Zf (Z5 (pcT (Yq T) hr T.aj (Za (Zbc (Y4 Yf (ck:) Zd (Zn _)) (Ut (Y4 Zlz (Zt Zv (pv 0) Zd (j:)) (X1 (v:=.ref t.ie) Y T.jH Y) (ap:)))) Zb)))
   (Zh (Zl (Yp (Za (pcT (Xp T) hr T.au (c0:)) (c0:)))))),?_⟩
   refine ⟨a,_,Y,.inl (SqL.of ha),Y,_,Y,iteT ⟨SqL.of ha,(show atI [V.str x,V.str y] 1=some (V.str y) from Y),t.ie,_,Y,.inr (T.jI H),Y,Zmt _,?_,?_⟩⟩
   ·have e:y∈([Str.ofString "left",Str.ofString "right"]:List Str):=by rcases hw with e | e <;> simp [e]
    rw [Zgp,decide_eq_true e];rfl
   refine ⟨SqL.of ha,at0,x,_,Y,wx,nx,λH3 s3=>⟨SqL.of (s3 _ _ ha),(show atI [V.str x,V.str y] 1=some (V.str y) from Y),(szR Y),λq hq=>k q _ (s3.trans (Same.new hq)) (s3.free hq) λb o e=>J2 e (s3.free hq) Zc⟩⟩
  | _=>exact absurd hv (ef:)
def Od:FnScope ["text","words","reader"] ["text"] (Zg Zc6):=Am
def Uw (T:Txt w K mg t) {fa:Addr} {fd:FuncData} {v:Str} (F:(a:) 6 fa fd ["words"] (Gj v)) (hk:PySem.W.keepIn K (.ref fa)=true) (hb:Wg K fd ["words"] []) (hf:valV (rdK t) (Sum.inr v)=some (.ref fa)) :
  FnOk P w K mg base (CXr P w) 7 t.dB t.dC ["text"] (Zp3 v):=by
 refine T.hG.F.aR Od (b:)
 ·obtain ⟨x,D,rfl,hv,hz,hR,k⟩:=h
  refine ⟨_,(Zf (psN 1 Od.nd (ba:))
   (Zf (Z5 (pcT (Yq T) hr T.aj (Za (Zse (Zsf (db:) (X1 (v:=.ref t.aT) rfl T.gx rfl)) (ap:)) Zb)))
   (Zf (psN 2 Od.nd (Zqh (X1 (v:=.ref t.aT) rfl T.gx rfl) (db:) (j:)))
   (Zh (Zl (Yp (Za (db:) (Za (Zn9 (i:=2) F (ai:) rfl (Or.inl rfl) hk hb .nil Yv (Za (X3 Wl (pv 1) (X0 Zd) Jg) Zb)) Zb)))))))),?_⟩;refine ⟨Y,x,Str.ofString " ",rfl,rfl,rfl,by rw [sizeLine_eq]; lia,λl hl=>?_⟩
  obtain ⟨v',wl,ew⟩:∃ v' wl,wdS x=v' :: wl:=by
   cases e:wdS x with
   | nil=>rw [e] at hR; cases D <;> exact hR.elim
   | cons v' wl=>exact ⟨_,_,Y⟩
  have hvv:v'=v:=by
   rw [ew] at hR;rw [<- hv]
   cases D with
   | lay _ _=>cases wl with
    | nil=>exact hR.elim
    | cons _ _=>exact hR.1
   | pour _ _ _=>cases wl with
    | nil=>exact hR.elim
    | cons _ _=>exact hR.1
   | lift _=>match wl,hR with
    | [_],h=>exact h.1
   | weigh _ _ _=>match wl,hR with
    | [_,_],h=>exact h.1
   | turn _ _=>match wl,hR with
    | [_,_],h=>exact h.1
  subst hvv;have s1:Same H (upd H l (.lst ((Txt.split x (an:)).map V.str))):=Same.new hl;have h1:(upd H l (.lst ((Txt.split x (an:)).map V.str))) l=some (.lst ((Txt.split x (an:)).map V.str)):=Zc;generalize upd H l (.lst ((Txt.split x (Str.ofString " ")).map V.str))=H1 at s1 h1 ⊢;replace h1:H1 l=some (.lst ((wdS x).map V.str)):=h1;rw [ew] at h1 hR;refine ⟨SqL.of h1,at0,t.aT,_,Sum.inr v',Y,T.gy,Y,?_,?_⟩
  ·have e:(valV (rdK t) (Sum.inr v')).isSome=true:=by rw [hf]; rfl
   show [V.bl (valV (rdK t) (Sum.inr v')).isSome]=_;rw [e]
  refine ⟨SqL.of h1,at0,t.aT,_,Sum.inr v',_,Y,T.gy,Y,hf,SqL.of h1,at0,Y,_,Y,l,_,Y,SqL.of h1,λc hc=>?_⟩;rw [cut1];have s2:Same H1 (upd H1 c (eq:)):=Same.new hc;have o6:=s1.trans s2;refine ⟨c,wl,D,Y,hv,Zc,hR,λu H3 s3 hu h3=>?_⟩;have k8:=o6.trans s3;refine (et:);refine k q _ (k8.trans (Same.new hq)) λb o e=>⟨u,by rw [hv]; exact J2 e (k8.free hq) Zc,?_⟩;have nb:b≠q:=λz=>by rw [z,k8.free hq] at e; cases e
  refine (h3 b o (o6 _ _ e)).same λd o' ed=>?_;have nd:d≠b:=λz=>by rw [z] at ed; unfold hid at ed; rw [if_pos rfl] at ed; cases ed
  exact Zmn (Same.new hq _ _ (Zmm _ _ ed)) nd
def Zj9 (T:Txt w K mg t):(a:) 7 t.dB t.dC ["text"] Zjp:=by
 refine (((Uw T ((Zl3 T).mono (c:)) T.gl.F.kp T.gl.b Y).or ((Uw T ((Zj5 T).mono (c:)) T.dG.F.kp T.dG.b Y).or ((Uw T ((Zj6 T).mono (c:)) T.dH.F.kp T.dH.b Y).or ((Uw T ((Zho T).mono (c:)) T.cZ.F.kp T.cZ.b Y).or (Uw T ((Zj3 T).mono (c:)) T.dJ.F.kp T.dJ.b Y)))))).imp λvs H Q E h=>?_;obtain ⟨x,D,rfl,hz,hR,k⟩:=h
 cases D with
 | lay y ws=>exact .inl ⟨x,_,Y,Y,hz,hR,k⟩
 | pour y ks f=>exact .inr (.inl ⟨x,_,Y,Y,hz,hR,k⟩)
 | lift y=>exact .inr (.inr (.inl ⟨x,_,Y,Y,hz,hR,k⟩))
 | weigh a b c=>exact .inr (.inr (.inr (.inl ⟨x,_,Y,Y,hz,hR,k⟩)))
 | turn a b=>exact .inr (.inr (.inr (.inr ⟨x,_,Y,Y,hz,hR,k⟩)))
noncomputable def isL (ke:Str):Bool:=decide (ke="left")
def Zhc (EW:Addr):Sp:=λvs H Q E=>∃ ke:Str,vs=[.str ke]/\(ke="left"\/ke="right"->Q .non H)/\(¬ (ke="left"\/ke="right")->E (.ref EW) none H)
structure Wrong (EW ES ER EL:Addr) (M:Lq) (ns:List Int) (x:Int) (ke:Str) (H:Hp) (E:XK) (G:Nat->Nat->Hp->Prop):Prop where
 noway:¬ (ke="left"\/ke="right")->E (.ref EW) none H
 seam:ke="left"\/ke="right"->x ∉ keys ns ns.length->E (.ref ES) none H
 rim:ke="left"\/ke="right"->∀ H',Same H H'->x∈keys ns ns.length->Zu ns x="rim"->E (.ref ER) none H'
 lock:ke="left"\/ke="right"->∀ H',Same H H'->x∈keys ns ns.length->Zu ns x="locked"->E (.ref EL) none H'
 go:ke="left"\/ke="right"->∀ a b H',Same H H'->pl ns ns.length x=[a,b]->a < b->M[a]?=some (some b)->a / 3≠b / 3->G a b H'
def Zk9 (C EW ES ER EL:Addr):Sp:=λvs H Q E=>∃ (p:Addr) (M:Lq) (ns:List Int) (x:Int) (ke:Str),vs=[.ref p,.int x,.str ke]/\Z4 C H p M ns/\TD M ns /\
 Wrong EW ES ER EL M ns x ke H E λa b H'=>∀ l,H l=none->H' l=some (.dK (glV (isL ke) a b))->Q (.ref l) H'
def Zem (ke:Str):(valV [((Sum.inr "left":Key),V.str "right"),(Sum.inr "right",V.str "left")] (Sum.inr ke)).isSome=true ↔ ke="left"\/ke="right":=by
 unfold valV;by_cases c1:ke="left"
 ·subst c1; simp
 ·by_cases c2:ke="right"
  ·subst c2
   simp [find?_cons];split <;> simp
  ·have n1:¬ (Sum.inr "left":Key)=Sum.inr ke:=λz=>c1 (by injection z with z; exact z.symm)
   have n2:¬ (Sum.inr "right":Key)=Sum.inr ke:=λz=>c2 (by injection z with z; exact z.symm);simp [find?_cons,n1,n2,c1,c2]
def Zhk:FnScope ["way"] ["way"] (Zg Za0):=Am
def Zhr (T:Txt w K mg t):(a:) 1 t.fI t.fW ["way"] (Zhc t.dg):=by
 refine T.gk.F.aX Zhk (b:)
 ·obtain ⟨ke,rfl,k1,k2⟩:=h
  refine ⟨_,(Zr (Y9 (Vt (Zlu (pv 0) (X1 (v:=.ref t.aE) Y T.dM Y)) (ap:)) (Zr (Yo T.jJ FBV Y T.jD Y (bl:))) Yy)),?_⟩;refine ⟨t.aE,_,Sum.inr ke,Y,T.dO,Y,?_⟩;by_cases c:ke="left"\/ke="right"
  ·rw [(Zem ke).mpr c]
   exact iteF (k1 c)
  ·have:(valV [((Sum.inr "left":Key),V.str "right"),(Sum.inr "right",V.str "left")] (Sum.inr ke)).isSome=false:=by
    rw [Bool.eq_false_iff]; exact λz=>c ((Zem ke).mp z)
   rw [this];exact iteT ⟨by decide,k2 c⟩
def Qv:FnScope ["tent","seam","way","a","b","c","d"] ["tent","seam","way"] (Zg Zfl):=Am
def Zl1 (T:Txt w K mg t):(a:) 5 t.ip t.iF ["tent","seam","way"] (Zk9 t.aa t.dg t.az t.cL t.aG):=by
 refine T.iQ.F.aX Qv (b:)
 ·obtain ⟨p,M,ns,x,ke,rfl,ta,td,W⟩:=h
  refine ⟨_,(Zp (Yt (pxT (Zhr T) hr T.gk (y:)))
   (Zp (Zqc (pxT (K0 T) hr T.dA (Za (pv 0) (A:))) (Wr rfl (Zq (pgN 3 Qv.nd) (Zq (pgN 4 Qv.nd) (Zq (pgN 5 Qv.nd) (Zq (pgN 6 Qv.nd) Ym))))))
   (Zp (Z1 (Yj (dn:) (Zh (Zl (Zim (Jd (pv 3) (pv 6) (Jd (pv 6) (pv 5) (Jd (pv 5) (pv 4) (Jd (pv 4) (pv 3) Zig)))) rfl rfl (cons_ne_nil _ _) (c:)))) Z8))
   (Zr (Z1 (Zl (Zim (Jd (pv 3) (pv 4) (Jd (pv 4) (pv 5) (Jd (pv 5) (pv 6) (Jd (pv 6) (pv 3) Zig)))) rfl rfl (cons_ne_nil _ _) (c:)))))))),?_⟩;refine ⟨ke,Y,λhw=>?_,W.noway⟩;refine ⟨p,M,ns,x,Y,ta,td,λc H' sm=>⟨λe=>W.rim hw H' sm c e,λe=>W.lock hw H' sm c e,λa b l e1 e2 e3 e4 e5 e6=>?_⟩,λc=>W.seam hw c⟩;refine ⟨l,_,Y,SqT.of e6,Y,_,_,Y,_,_,Y,_,_,Y,_,_,Y,Y,?_⟩;refine ⟨Y,?_⟩;by_cases c:ke="left"
  ·have cl:isL ke=true:=decide_eq_true c
   have:=λvz nk=>W.go hw a b vz nk e1 e2 e3 e4;rw [cl] at this;rw [decide_eq_true (show V.str ke=V.str "left" by rw [c])];refine iteT ?_;intro d hd;refine ⟨Zc,glV true a b,?_,?_,?_⟩
   ·rw [Zgq e4]; rfl
   ·rw [Zgq e4]; show 4<=15; decide
   ·rw [Zgm e4]
    exact this _ (Same.add (Same.add sm (sm.free hd)) (sm.free hd)) d (sm.free hd) Zc
  ·have cl:isL ke=false:=decide_eq_false c
   have:=λvz nk=>W.go hw a b vz nk e1 e2 e3 e4;rw [cl] at this;rw [Ug c];refine iteF ?_;intro d hd;refine ⟨Zc,glV false a b,?_,?_,?_⟩
   ·rw [Zdj e4]; rfl
   ·rw [Zdj e4]; show 4<=15; decide
   ·rw [Zgm e4]
    exact this _ (Same.add (Same.add sm (sm.free hd)) (sm.free hd)) d (sm.free hd) Zc
def Zmu {K:W.Frag} {D N:Addr} {ns:List Int} {ts:List Addr} {n:Nat} {H2:Hp} {R:St->Hp->Prop} (md:H2 D=some (a3:)) (xw:∀ (k:Nat) (q:Addr),ts[k]?=some q->H2 q=some (.tup (row3 ns k))) (pf:ns.length=3 * n) (qm:ts.length=n) (n2:n<=40) (hN:H2 N=none)
  (hR:∀ σ H3,Same H2 H3->H3 N=some (.lst (L:))->R σ H3):W6 (Itl K D) (Zm 0) tYes (tGen (iTup K (tVar 0)) (Zm 1) tYes (Zjd (tVar 1) N)) R [none,none] (upd H2 N (.lst [])):=by
 refine Yc (xs:=ts.map V.ref) (ek:) ⟨none,none,Y,Same.new hN,Zc⟩ ?_ ?_ ?_
 ·rintro i σ H3 _ ⟨v,v',rfl,sm,h3⟩
  exact SqL.of (sm _ _ md)
 ·rintro i x σ H3 hx ⟨v,v',rfl,sm,h3⟩
  dsimp only [Zm,tYes];rw [if_pos rfl];obtain ⟨tt,ht,rfl⟩:=map_some hx;have hi:i < n:=by rw [<- qm]; exact (Aa ht).1
  refine (ag:)
  ·rintro j σ H4 _ ⟨v',rfl,sm,h4⟩
   exact SqT.of (sm _ _ (xw i tt ht))
  ·rintro j x σ H4 hx ⟨v',rfl,sm,h4⟩
   dsimp only [Zm,tYes];rw [if_pos rfl];refine ⟨_,h4,?_,_,Y,Same.add sm hN,?_⟩
   ·rw [Ae,Ab,Ai,Ai]
    exact Zo (by have:(row3 ns i).length=3:=rfl; lia)
   ·rw [Zc,Aw,hx,<- append_assoc]
    rfl
  ·rintro σ H4 ⟨v',rfl,sm,h4⟩
   refine ⟨_,_,Y,sm,?_⟩;rw [h4,take_length,Zeo pf hi]
 rintro σ H3 ⟨v,v',rfl,sm3,h3⟩;have zc:ns.take (3 * (ts.map V.ref).length)=ns:=by rw [Ab,qm,<- pf,take_length]
 rw [zc] at h3;exact hR _ _ sm3 h3
def Zq6 {ns:List Int} {i n:Nat} (hn:ns.length=3 * n) (hi:i < n):cutV (L:) (some (0 + (i:Int) * 3)) (some (0 + (i:Int) * 3 + 3))=row3 ns i:=by
 have e0:(0 + (i:Int) * 3)=((3 * i:Nat):Int):=by lia
 have e3:(0 + (i:Int) * 3 + 3)=((3 * i + 3:Nat):Int):=by lia
 have l0:3 * i < ns.length:=by lia
 have l1:3 * i + 1 < ns.length:=by lia
 have l2:3 * i + 2 < ns.length:=by lia
 unfold cutV;rw [e3,e0,HT.sIx_nat,HT.sIx_nat,Ab,Nat.min_eq_left (by lia),Nat.min_eq_left (by lia),show 3 * i + 3 - 3 * i=3 by lia];have g:∀ k,(hk:k < ns.length)->(L:).drop k=V.int (ns.getD k 0) :: (L:).drop (k + 1):=λk hk=>by
  rw [drop_eq_getElem_cons (by rw [Ab]; exact hk),getElem_map,Ad,Ac hk]
  rfl
 rw [g _ l0,g _ l1,g _ l2];rfl
def Zez (C EW ES ER EL:Addr):Sp:=λvs H Q E=>∃ (p:Addr) (M:Lq) (ns:List Int) (x:Int) (ke:Str),vs=[.ref p,.int x,.str ke]/\Z4 C H p M ns/\TD M ns /\
 Wrong EW ES ER EL M ns x ke H E λa b H'=>∀ p',H p'=none->Z4 C H' p' (exM (isL ke) a b M) (exN (isL ke) a b ns)->Q (.ref p') H'
def W9:FnScope ["tent","seam","way","goals","names","place","goal"] ["tent","seam","way"] (Zg Fj):=Am
def Zga (T:Txt w K mg t):(a:) 6 t.dU t.eG ["tent","seam","way"] (Zez t.aa t.dg t.az t.cL t.aG):=by
 refine T.fc.F.aX W9 (b:)
 ·obtain ⟨p,M,ns,x,ke,rfl,ta,td,W⟩:=h
  refine ⟨_,(Zp (Qf (i:=3) W9.nd Y (Or.inl Y) (pxT (Zl1 T) hr T.iQ (Za (pv 0) (Za (pv 1) (y:)))))
   (Zp (Z1 (psN 4 W9.nd (Yn (ts:=["row","name"]) (fv:=[]) (i:) rfl (Yh (Oi (pv 0) T.ae T.aO.m (K3 T) (ai:) T.aO.b .nil Yv)) (ab:) (Q:) (K:) (λ_ _ _ _ _ _=>Zlv rfl rfl (Zci K (pv 0)) (pgN 1 nd2) Z6 (pv 1)))))
   (Zp (Z1 (Wn PassesOwn.never rfl (Qj (pv 3) ⟨rfl,rfl,rfl⟩) (Wr rfl (Zq (pgN 5 W9.nd) (Zq (pgN 6 W9.nd) Ym))) (Zh (Xu (Xr (pv 0) T.ae T.ap.m (J7 T) (ai:) T.ap.b .nil Yv (Za (pv 5) Zb)) (Qy (pv 4) (pv 6) W7)))))
   (Zr (Z1 (Zl (Jz T.ji (K5 T) (ai:) rfl T.jg T.cn.b .nil Yv (Za (Yn (ts:=["k"]) (fv:=[("names",4)]) (e:) rfl (Zlq rfl T.aM (Za Zd (Za (Zx T.af (Za (pv 4) Zb)) (Za Zd Zb)))) (ab:) (Q:) (K:) (λ_ _ _ _ _ _=>Yb (Ys (U5 K) (by rfl) T.jm PySem.Pv.boot_tuple (Za (X3 (Zns K) (pv 1) (X0 (pv 0)) (X0 (Zi Yi (pv 0) Zd))) Zb)))) Zb)))))))),?_⟩;refine ⟨p,M,ns,x,ke,Y,ta,td,⟨W.noway,W.seam,W.rim,W.lock,λhw i j H1 s1 e1 e2 e3 e4 l hl qu=>?_⟩⟩;have g:=λH' s'=>W.go hw i j H' s' e1 e2 e3 e4;generalize isL ke=left at g qu;obtain ⟨n,n1,wn,hn⟩:=td.n;have pi:=td.len;have pf:ns.length=3 * n:=by lia
  have hi:i < 3 * n:=by rw [<- hn]; exact (Aa e3).1
  have hj:j < 3 * n:=by rw [<- hn]; exact (Aa (td.inv i j e3).1).1
  have ux:=ta.same s1;obtain ⟨dx,cl,na,sp,mt,o,f,B⟩:=id ux;refine ⟨B.ins,Y1 _ _ _ _,p,M,ns,Y,ux,λl2 ts nj j7 h3=>?_⟩;have s2:Same H1 (upd H1 l2 (a3:)):=Same.new nj;refine ⟨l2,Y,⟨_,SqL.of Zc⟩,λN hN=>Zmu (n:=n) Zc (λk q e=>s2 _ _ (h3 k q e)) pf (by lia) wn hN λσ3 H3 s3 h3'=>?_⟩;have u4:=s2.trans s3;have hN0:H N=none:=(s1.trans s2).free hN;have w5:=u4 _ _ qu;have hNl:N≠l:=λz=>by rw [z,w5] at h3'; cases h3'
  clear h3 j7;dsimp only [Zm];show tSeq (tFor _ _ _) _ _ _ _;refine Z0 (λσ H4=>∃ v5 v6,σ=[oR p,oI x,oS ke,oR l,oR N,v5,v6]/\Same H H4/\H4 N=some (.lst ((exN left i j ns).map V.int))) (D:) ?_
  ·refine ⟨l,_,Y,.inl ⟨w5,λo=>?_⟩⟩
   refine Zdk (λk σ H4=>∃ v5 v6,σ=[oR p,oI x,oS ke,oR l,oR N,v5,v6]/\Same H H4/\H4 l=some (.frz o (.dK (glV left i j)))/\H4 N=some (.lst ((nst left i j ns k).map V.int)))
    ⟨_,_,rfl,Same.add (s1.trans u4) hl,Zc,by rw [Ze hNl,Zoe]; exact h3'⟩ ?_ ?_ ?_
   ·rintro k σ H4 _ ⟨v5,v6,rfl,s4,h4,_⟩
    exact h4
   ·rintro k key v σ H4 q hk hq ⟨v5,v6,rfl,s4,h4,h5⟩
    obtain ⟨z,hz,rfl,rfl⟩:∃ z,(Xi left i j)[k]?=some z/\key=Sum.inl z/\v=V.int (mvI left i j z):=by
     unfold glV at hk;rw [Ah] at hk
     cases e:(Xi left i j)[k]? with
     | none=>rw [e] at hk; cases hk
     | some z=>rw [e] at hk; cases hk; exact ⟨z,Y,Y,Y⟩
    obtain ⟨z0,z1⟩:=Zqz hi hj hz;obtain ⟨c,rfl⟩:∃ c:Nat,z=c:=⟨z.toNat,by lia⟩;have hc:c < ns.length:=by lia
    have my:lc left i j c < ns.length:=by rw [pf]; exact K6 hi hj left (by lia)
    have s5:Same H4 (upd H4 q (.tup [kV (Sum.inl (c:Int)),V.int (mvI left i j c)])):=Same.new hq;have ta4:=(ta.same s4).same s5;obtain ⟨dx4,cl4,na4,sp4,mt4,o4,ff4,B4⟩:=id ta4;have hNq:N≠q:=Zk h5 hq;have hlq:l≠q:=Zk h4 hq;refine ⟨q,_,Y,SqT.of Zc,Y,_,_,Y,_,_,Y,Y,B4.ins,Y1 _ _ _ _,p,M,ns,c,Y,ta4,λi' y z1 z2=>?_,λz=>absurd ⟨by lia,by lia⟩ z⟩;obtain rfl:c=i':=by lia
    have ey:ns.getD c 0=y:=by rw [Ad,z2]; rfl
    have j7:((nst left i j ns k).map V.int).length=ns.length:=by unfold nst; simp
    refine ⟨N,_,_,lc left i j c,Y,Y,(by rw [Ze hNq]; exact h5),(by rw [j7,<- Uy]; exact U0 my),_,_,Y,Same.add (Same.add s4 (s4.free hq)) hN0,?_,?_⟩
    ·rw [Ze (Ne.symm hNl),Ze hlq]; exact h4
    ·rw [Zc,<- Zof e4 hz my,ey,List.map_set]
   ·rintro σ H4 ⟨v5,v6,rfl,s4,h4,h5⟩
    have e:(glV left i j).length=4:=by unfold glV; rw [Ab,Zgs]
    rw [e,Zqo e4] at h5;exact kc _ _ ⟨_,_,Y,s4,h5⟩
  rintro σ H4 ⟨v5,v6,rfl,s4,h4⟩;have tdx:TD (exM left i j M) (exN left i j ns):=td.ex (by lia) (by lia) e4 left;have sj:(exN left i j ns).length=3 * n:=by rw [U2]; exact pf
  generalize exN left i j ns=vd at h4 tdx sj g ⊢;refine ⟨N,_,Y,.inl (SqL.of h4),n,(by rw [Ab,sj]),by lia,λD hD=>?_⟩;have hND:N≠D:=Zk h4 hD;refine Zhy (λc σ H5=>∃ v ts,σ=[v,oR N]/\Same H4 H5/\H5 D=some (a3:)/\ts.length=c/\∀ (k:Nat) (q:Addr),ts[k]?=some q->H5 q=some (.tup (row3 vd k)))
   ⟨none,[],rfl,Same.new hD,Zc,rfl,λk q e=>by simp at e⟩ ?_ ?_
  ·rintro c σ H5 hc ⟨v,ts,rfl,s5,h5,hts,pp⟩
   dsimp only [Zm,tYes];rw [if_pos rfl];have h45:=s5 _ _ h4;refine ⟨_,Y,_,Y,N,_,Y,SqL.of h45,λq hq=>?_⟩;rw [Zq6 sj hc];refine ⟨q,_,Y,.inl ⟨SqL.of Zc,λq2 hq2=>?_⟩⟩;obtain ⟨vm,hq2'⟩:=Wh hq2;have hDq:D≠q:=Zk h5 hq;have hDq2:D≠q2:=Zk h5 hq2';have s6:Same H5 (upd (upd H5 q (.lst (row3 vd c))) q2 (.tup (row3 vd c))):=Same.add (Same.new hq) hq2';refine ⟨_,s6 _ _ h5,(cv:),_,ts ++ [q2],Y,Same.add (s5.trans s6) hD,?_,?_,?_⟩
   ·rw [Zc]; simp
   ·rw [Ae,At,hts]
   ·intro k q3 z
    by_cases hk:k < ts.length
    ·rw [Av hk] at z
     have g3:=s6 _ _ (pp k q3 z);rw [Ze (λe=>by rw [e,s6 _ _ h5] at g3; cases g3)];exact g3
    ·have yg:k=ts.length:=by
      have:=(Aa z).1;rw [Ae,At] at this;lia
     subst yg;have:q3=q2:=by simpa using z.symm
     subst this;rw [Ze (Ne.symm hDq2),Zc,hts]
  rintro σ H5 ⟨v,ts,rfl,s5,h5,hts,pp⟩;intro y dy hy hdy kq;have s6:Same H5 (upd (upd H5 dy (.own y)) y (.ins t.aa dy [])):=Same.add (Same.new hdy) hy;refine ⟨y,D,dy,_,vd,Y,Zc,⟨ts,s6 _ _ h5,by lia,λk q e=>s6 _ _ (pp k q e)⟩,tdx,by lia,λH7 old ta7=>⟨Y,?_⟩⟩;have s57:Same H5 H7:=λb u e=>old b u (Zk e hy) (s6 b u e);have o5:=(s4.trans s5).trans s57;exact g H7 o5 y ((s4.trans s5).free hy) ta7
noncomputable def tp (v:Nat × Nat):HO:=.tup [V.int v.1,V.int v.2]
noncomputable def wD (ks:List Int) (ad:Int->Addr):List (Key × V):=ks.map λx=>((dv:),V.ref (ad x))
def WAt (H:Hp) (d:Addr) (ks:List Int) (g:Int->Nat × Nat):Prop:=∃ ad:Int->Addr,H d=some (.dK (wD ks ad))/\∀ x∈ks,H (ad x)=some (tp (g x))
def WAt.same {H H':Hp} {d:Addr} {ks:List Int} {g:Int->Nat × Nat} (h:WAt H d ks g) (s:Same H H'):WAt H' d ks g:=by
 obtain ⟨ad,h1,h2⟩:=h;exact ⟨ad,s _ _ h1,λx hx=>s _ _ (h2 x hx)⟩
def WAt.congr {H:Hp} {d:Addr} {ks:List Int} {g g':Int->Nat × Nat} (h:WAt H d ks g) (e:∀ x∈ks,g x=g' x):WAt H d ks g':=by
 obtain ⟨ad,h1,h2⟩:=h;exact ⟨ad,h1,λx hx=>by rw [<- e x hx]; exact h2 x hx⟩
def Ue (ks:List Int) (ad:Int->Addr):(wD ks ad).length=ks.length:=by unfold wD; rw [Ab]
def Zkq {ks:List Int} {ad:Int->Addr} {y:Int}:valV (wD ks ad) (Sum.inl y)=if y∈ks then some (V.ref (ad y)) else none:=by unfold wD; rw [Jy]
def Zkr {H:Hp} {d:Addr} {ks:List Int} {ad:Int->Addr} {y:Int} (h:Rd H d (.dK (wD ks ad))) (hy:y∈ks):DGet H d (.int y) (some (V.ref (ad y))):=.inl ⟨_,Sum.inl y,h,rfl,by rw [Zkq,if_pos hy]⟩
def Zo6 {ks:List Int} {ad:Int->Addr} {i:Nat} {k:Key} {v:V} (h:(wD ks ad)[i]?=some (k,v)):∃ y,ks[i]?=some y/\k=Sum.inl y/\v=V.ref (ad y):=by
 unfold wD at h;rw [Ah] at h
 cases e:ks[i]? with
 | none=>rw [e] at h; cases h
 | some z=>rw [e] at h; cases h; exact ⟨z,Y,Y,Y⟩
def WAt.put {H:Hp} {d q:Addr} {ks:List Int} {g:Int->Nat × Nat} {ad:Int->Addr} {y:Int} {v:Nat × Nat} (h1:H d=some (.dK (wD ks ad))) (h2:∀ x∈ks,H (ad x)=some (tp (g x))) (hq:H q=some (tp v)) (hy:y∈ks) :
  WAt (upd H d (.dK (putK (wD ks ad) (Sum.inl y) (V.ref q)))) d ks (putG g y v):=by
 have nd:∀ r u,H r=some (tp u)->r≠d:=λr u h z=>by rw [z,h1] at h; cases h
 refine ⟨λx=>if x=y then q else ad x,?_,λx hx=>?_⟩
 ·rw [Zc]
  unfold wD;rw [Zid hy];congr 2;apply map_congr_left;intro x _;by_cases c:x=y
  ·simp [c]
  ·simp [c]
 ·unfold putG
  show upd H d _ (if x=y then q else ad x)=some (tp (if x=y then v else g x));by_cases c:x=y
  ·rw [if_pos c,if_pos c,Ze (nd _ _ hq)]; exact hq
  ·rw [if_neg c,if_neg c,Ze (nd _ _ (h2 x hx))]; exact h2 x hx
def WAt.new {H:Hp} {d q:Addr} {ks:List Int} {g:Int->Nat × Nat} {ad:Int->Addr} {y:Int} {v:Nat × Nat} (h1:H d=some (.dK (wD ks ad))) (h2:∀ x∈ks,H (ad x)=some (tp (g x))) (hq:H q=some (tp v)) (hy:y ∉ ks) :
  WAt (upd H d (.dK (putK (wD ks ad) (Sum.inl y) (V.ref q)))) d (ks ++ [y]) (putG g y v):=by
 have nd:∀ r u,H r=some (tp u)->r≠d:=λr u h z=>by rw [z,h1] at h; cases h
 refine ⟨λx=>if x=y then q else ad x,?_,λx hx=>?_⟩
 ·rw [Zc]
  unfold wD;rw [Zcg hy,Aj];congr 3
  ·apply map_congr_left
   intro x hx;have:x≠y:=λz=>hy (z ▸ hx);simp [this]
  ·simp
 ·unfold putG
  show upd H d _ (if x=y then q else ad x)=some (tp (if x=y then v else g x));by_cases c:x=y
  ·rw [if_pos c,if_pos c,Ze (nd _ _ hq)]; exact hq
  ·rw [if_neg c,if_neg c]
   have oo:x∈ks:=by
    rcases mem_append.mp hx with z | z
    ·exact z
    ·exact absurd (Af z) c
   rw [Ze (nd _ _ (h2 x oo))]; exact h2 x oo
def okD (m n:Nat):Prop:=Nat.gcd m n < 2 ^ 8900
def Zqm {m n:Nat} (hm:1<=m) (h:okD m n):Zek (m:Int) (Nat.gcd m n:Nat)/\Zek (n:Int) (Nat.gcd m n:Nat):=by
 have h1:0 < Nat.gcd m n:=gcd_pos_of_pos_left _ hm;have h3:(((Nat.gcd m n:Nat):Int)).natAbs.log2 < 9000:=by
  refine Ag (log2_lt (k:=8900) ?_ (c:)) (c:)
  rw [Int.natAbs_natCast]
  exact h
 exact ⟨⟨by lia,h3⟩,⟨by lia,h3⟩⟩
def Zbk {m n:Nat} (hm:1<=m) (h:m < 2 ^ 8900):okD m n:=Nat.lt_of_le_of_lt (le_of_dvd hm (gcd_dvd_left _ _)) h
def Zlb:Sp:=λvs H Q _=>∃ a b:Nat,vs=[.int a,.int b]/\Q (.int (Nat.gcd a b:Nat)) H
def Fz (EF:Addr):Sp:=λvs H Q E=>∃ a b:Int,vs=[.int a,.int b]/\(1<=a->1<=b->Q .non H)/\(a < 1\/b < 1->E (.ref EF) none H)
def Zhe (EF:Addr):Sp:=λvs H Q E=>∃ a b:Int,vs=[.int a,.int b]/\(∀ m n:Nat,a=m->b=n->1<=m->1<=n->okD m n/\∀ p,H p=none->Q (.ref p) (upd H p (tp (lowN m n))))/\(a < 1\/b < 1->E (.ref EF) none H)
def Zdx (C:Addr):Sp:=λvs H Q _=>∃ (p:Addr) (M:Lq) (ns:List Int),vs=[.ref p]/\Z4 C H p M ns/\TD M ns/\ns.length < 64/\∀ (l:Addr) (H':Hp) (out:List Int),Same H H'->H l=none->H' l=some (dc:)->out.Pairwise (·<=·)->SwK M ns out->Q (.ref l) H'
def Zb5 (C:Addr):Sp:=λvs H Q _=>∃ (p:Addr) (M:Lq) (ns:List Int),vs=[.ref p]/\Z4 C H p M ns/\TD M ns/\ns.length < 64/\∀ (d:Addr) (H':Hp) (ks:List Int),Same H H'->H d=none->WAt H' d ks (λ_=>(1,1))->SwK M ns ks->Q (.ref d) H'
def Zla (C:Addr):Sp:=λvs H Q _=>∃ (p d:Addr) (M:Lq) (ns ks:List Int) (g:Int->Nat × Nat),vs=[.ref p,.ref d]/\Z4 C H p M ns/\TD M ns/\ns.length < 64/\WAt H d ks g/\SwK M ns ks/\(∀ x∈ks,1<=(g x).1/\1<=(g x).2/\(g x).1 < 2 ^ 8900) /\
 ∀ (d':Addr) (H':Hp),Same H H'->H d'=none->WAt H' d' ks (lowG g)->Q (.ref d') H'
def SmP (B:Nat) (v:Nat × Nat):Prop:=1<=v.1/\v.1<=B/\1<=v.2/\v.2<=B
def SmP.up {B C:Nat} {v:Nat × Nat} (h:SmP B v) (c:B<=C):SmP C v:=⟨h.1,Nat.le_trans h.2.1 c,h.2.2.1,Nat.le_trans h.2.2.2 c⟩
def Zsl {m n B:Nat} (hm:1<=m) (hn:1<=n) (h1:m<=B) (h2:n<=B):SmP B (lowN m n):=by
 have g0:=gcd_pos_of_pos_left n hm;exact ⟨div_pos (le_of_dvd hm (gcd_dvd_left m n)) g0,Nat.le_trans (div_le_self _ _) h1,div_pos (le_of_dvd hn (gcd_dvd_right m n)) g0,Nat.le_trans (div_le_self _ _) h2⟩
def Zjh:Sp:=λvs H Q _=>∃ (p q:Addr) (v f:Nat × Nat) (B:Nat),vs=[.ref p,.ref q]/\H p=some (tp v)/\H q=some (tp f)/\SmP B v/\B<=1000/\SmP 2 f/\∀ r u,H r=none->SmP (2 * B) u->Q (.ref r) (upd H r (tp u))
def Zeu (C:Addr):Sp:=λvs H Q _=>∃ (p d:Addr) (M:Lq) (ns ks:List Int) (x:Int) (a b:Nat),vs=[.ref p,.ref d,.int x]/\Z4 C H p M ns/\TD M ns/\ns.length < 64/\WAt H d ks (λ_=>(1,1))/\SwK M ns ks/\Mv M ns x a b /\
 ∀ (d':Addr) (H':Hp) (g:Int->Nat × Nat),Same H H'->H d'=none->WAt H' d' ks g->(∀ y∈ks,SmP 16 (g y))->Q (.ref d') H'
def F2 {M:Lq} {ns:List Int} (td:TD M ns) {x:Int} (hx:x∈keys ns ns.length):SwN M ns x ↔ Zu ns x≠"rim":=by
 constructor
 ·rintro ⟨p,j,h1,h2⟩ e
  rcases J3 td hx with ⟨_,a,e1,ma⟩ | ⟨e',_⟩ | ⟨e',_⟩
  ·have hp:p∈pl ns ns.length x:=Xd.mpr ⟨(Aa h2).1,h2⟩
   rw [e1,mem_singleton] at hp;rw [hp,ma] at h1;cases h1
  ·exact t_lr (e'.symm.trans e)
  ·exact t_fr (e'.symm.trans e)
 ·intro e
  rcases J3 td hx with ⟨e',_⟩ | ⟨_,a,b,_,e1,ma,_⟩ | ⟨_,a,b,_,e1,ma,_⟩
  ·exact absurd e' e
  ·have hp:a∈pl ns ns.length x:=by rw [e1]; exact mem_cons_self
   exact ⟨a,b,ma,(Xd.mp hp).2⟩
  ·have hp:a∈pl ns ns.length x:=by rw [e1]; exact mem_cons_self
   exact ⟨a,b,ma,(Xd.mp hp).2⟩
def SwK.len {M:Lq} {ns ks:List Int} (sw:SwK M ns ks) (td:TD M ns):ks.length<=ns.length:=by
 have e:ks.Perm ((o:).filter λx=>decide (x∈ks)):=(perm_ext_iff_of_nodup sw.nd ((J9 ns ns.length).filter _)).mpr λx=>by
  rw [mem_filter,decide_eq_true_eq];exact ⟨λh=>⟨((sw.mem x).mp h).key td,h⟩,λh=>h.2⟩
 have h1:=e.length_eq;have h2:=length_filter_le (λx=>decide (x∈ks)) (o:);have h3:=Vx ns ns.length;lia
noncomputable def swB (ns:List Int) (x:Int):Bool:=!decide (V.str (Zu ns x)=V.str "rim")
def Zpv {ns:List Int} {x:Int}:swB ns x=true ↔ Zu ns x≠"rim":=by
 unfold swB;rw [Bool.not_eq_true',decide_eq_false_iff_not];exact ⟨λh e=>h (by rw [e]),λh e=>h (by injection e)⟩
def G5 {α:Type} {f:α->Bool} {l:List α} {i:Nat} {x:α} (h:l[i]?=some x):(l.take (i + 1)).filter f=if f x=true then (l.take i).filter f ++ [x] else (l.take i).filter f:=by
 rw [Aw,h,filter_append];by_cases c:f x=true
 ·simp [c]
 ·simp [c]
def Q5:FnScope ["one","other"] ["one","other"] (Zg Vr):=Am
def G3 (T:Txt w K mg t):(a:) 1 t.bi t.bq ["one","other"] Zlb:=by
 refine T.bt.F.aR Q5 (b:)
 ·obtain ⟨a,b,rfl,k⟩:=h
  refine ⟨_,(Zf (Qg PassesOwn.never (Of (pv 1) (λ_=>rfl)) (Zh (Zlk (i:=0) (j:=1) Y Q5.nd Y Y (c:) Y Y (Za (pv 1) (Za (Zi Z7 (pv 0) (pv 1)) Zb)) (by rfl))))
   (Zh (Zl (pv 0)))),?_⟩;refine ⟨λm σ H1=>∃ a' b':Nat,b'=m/\H1=H/\σ=[oI a',oI b']/\Nat.gcd a' b'=Nat.gcd a b,⟨b,a,b,Y,Y,Y,Y⟩,?_⟩;rintro m σ H1 ⟨a',b',rfl,rfl,rfl,e⟩;refine ⟨_,Y,?_⟩;by_cases z:b'=0
  ·subst z
   refine iteF ?_;rw [gcd_zero_right] at e;rw [e];exact k
  ·have hz:((b':Int) != 0)=true:=by simp; lia
   rw [hz];refine iteT ⟨_,λσ' H' h=>h,?_⟩;refine ⟨(by show (0:Int) < b'; lia),_,_,rfl,a' % b',mod_lt _ (by lia),b',a' % b',rfl,rfl,?_,?_⟩
   ·rw [Int.natCast_emod]; rfl
   ·rw [<- e,gcd_comm a' b',gcd_rec b' a',gcd_comm]
def F5:FnScope ["top","bottom"] ["top","bottom"] (Zg V5):=Am
def Zab (T:Txt w K mg t):(a:) 1 t.bH t.bM ["top","bottom"] (Fz t.ay):=by
 refine T.bS.F.aX F5 (b:)
 ·obtain ⟨a,b,rfl,k1,k2⟩:=h
  refine ⟨_,(Zr (Y9 (PW.pt (Zba (Zs Jr (pv 0) Zd (Zn _)) (Ks (Zs Jr (pv 1) Zd (Zn _))))) (Zr (Yo T.ij FBV Y T.cX Y (bl:))) Yy)),?_⟩;refine ite2 (λc=>?_) (λc=>?_)
  ·have c:a < 1:=by simpa using c
   exact iteT ⟨by decide,k2 (.inl c)⟩
  ·have c:¬ a < 1:=by simpa using c
   refine (ite2 (λd=>?_) (λd=>?_))
   ·have d:b < 1:=by simpa using d
    exact ⟨by decide,k2 (.inr d)⟩
   ·have d:¬ b < 1:=by simpa using d
    exact k1 (by lia) (by lia)
def G8:FnScope ["top","bottom","measure"] ["top","bottom"] (Zg Za3):=Am
def Ud (T:Txt w K mg t):(a:) 2 t.fJ t.fX ["top","bottom"] (Zhe t.ay):=by
 refine T.bz.F.aX G8 (b:)
 ·obtain ⟨a,b,rfl,k1,k2⟩:=h
  refine ⟨_,(Zp (Yt (pxT (Zab T) hr T.bS (Za (pv 0) (A:))))
   (Zp (Z1 (psN 2 G8.nd (pcT (G3 T) hr T.bt (Za (pv 0) (A:)))))
   (Zr (Z1 (Zl (Yp (Za (Zi Zf5 (pv 0) (pv 2)) (Za (Zi Zf5 (pv 1) (pv 2)) Zb)))))))),?_⟩;refine ⟨a,b,Y,λha hb=>?_,k2⟩;obtain ⟨m,rfl⟩:∃ m:Nat,a=m:=⟨a.toNat,by lia⟩;obtain ⟨n,rfl⟩:∃ n:Nat,b=n:=⟨b.toNat,by lia⟩;obtain ⟨hbg,k⟩:=k1 m n rfl rfl (by lia) (by lia);obtain ⟨g1,g2⟩:=Zqm (m:=m) (n:=n) (by lia) hbg;refine ⟨m,n,Y,?_⟩;dsimp only [Zm];refine ⟨g1,g2,(szR Y),λp hp=>?_⟩;exact k p hp
def Zd3:FnScope ["tent"] ["tent"] (Zg Kj):=Am
def O5 (T:Txt w K mg t):(a:) 3 t.c7 t.di ["tent"] (Zdx t.aa):=by
 refine T.bA.F.aR Zd3 (b:)
 ·obtain ⟨p,M,ns,rfl,ta,td,k9,k⟩:=h
  refine ⟨_,(Zh (Zl (Yn (ts:=["seam"]) (fv:=[("tent",0)]) (e:) rfl (Yh (Oi (pv 0) T.ae T.aI.m (O7 T) (ai:) T.aI.b .nil Yv)) (ab:) (λ_ _ _ _=>(Uq (Zs Zef (Xr (pv 1) T.ae T.ak.m (W5 T) (ai:) T.ak.b .nil Yv (w:)) Zj (Zn _)))) (K:) (dz:)))),?_⟩;obtain ⟨dx,cl,na,sp,mt,o,ff,b⟩:=id ta;refine ⟨b.ins,Y1 _ _ _ _,p,M,ns,Y,ta,k9,λl ks ly hpm mh=>?_⟩;have s1:Same H (upd H l (.lst (ks.map V.int))):=Same.new ly;have h1:(upd H l (.lst (ks.map V.int))) l=some (.lst (ks.map V.int)):=Zc;generalize upd H l (.lst (ks.map V.int))=H1 at s1 h1 ⊢;have l9:ks.length<=64:=by rw [hpm.length_eq]; have:=Vx ns ns.length; lia
  refine ⟨l,Y,⟨_,SqL.of h1⟩,λD hD=>Yc (xs:=ks.map V.int) (λi σ H3=>∃ v,σ=[v,oR p]/\Same H1 H3/\H3 D=some (.lst (((ks.take i).filter (swB ns)).map V.int))) (ac:) ?_ ?_ ?_⟩
  ·rintro i σ H3 _ ⟨v,rfl,s3,h3⟩
   exact SqL.of (s3 _ _ h1)
  ·rintro i x σ H3 hx ⟨v,rfl,s3,h3⟩
   obtain ⟨y,hy,rfl⟩:=map_some hx;have ql:y∈keys ns ns.length:=hpm.mem_iff.mp (Au hy);have ta3:=(ta.same s1).same s3;obtain ⟨dx,cl,na,sp,mt,o,ff,b⟩:=id ta3;dsimp only [Zm];refine ⟨b.ins,Y1 _ _ _ _,p,M,ns,y,Y,ta3,td,λ_ H4 s4=>?_,λz=>absurd ql z⟩;refine ⟨Y,?_⟩;show if swB ns y=true then _ else _
   have lt:(((ks.take i).filter (swB ns)).map V.int).length < sizeLine:=by
    rw [Ab];have:=length_filter_le (swB ns) (ks.take i);rw [Ai] at this;exact Zo (by lia)
   by_cases c:swB ns y=true
   ·rw [if_pos c]
    refine ⟨_,s4 _ _ h3,lt,_,Y,Same.add (s3.trans s4) hD,?_⟩;rw [Zc,G5 hy,if_pos c,Aj];rfl
   ·rw [if_neg c]
    refine ⟨_,Y,s3.trans s4,?_⟩;rw [s4 _ _ h3,G5 hy,if_neg c]
  ·rintro σ H3 ⟨v,rfl,s3,h3⟩
   rw [Ab,take_length] at h3;refine k D H3 _ (s1.trans s3) (s1.free hD) h3 (mh.filter _) ⟨(hpm.nodup_iff.mpr (J9 ns ns.length)).filter _,λx=>?_⟩;rw [mem_filter,hpm.mem_iff,Zpv];refine ⟨λzz50=>?_,λh=>⟨h.key td,(F2 td (h.key td)).mp h⟩⟩;obtain ⟨h1,h2⟩:=zz50;exact (F2 td h1).mpr h2
def Zca:FnScope ["tent"] ["tent"] (Zg O2):=Am
def Zcl (T:Txt w K mg t):(a:) 4 t.cI t.cP ["tent"] (Zb5 t.aa):=by
 refine T.cV.F.aR Zca (b:)
 ·obtain ⟨p,M,ns,rfl,ta,td,k9,k⟩:=h
  have hu:=Xh hr;refine ⟨_,(Zh (Zl (Kw (ts:=["seam"]) (fv:=[]) (i:) rfl (Yh (pcT (O5 T) hr T.bA (w:))) (aw:) (Q:) (K:) (λ_ _ _ _ _ _=>Vu (pv 0) (Yp (Za Zd (Za Zd Zb))))))),?_⟩;refine ⟨p,M,ns,Y,ta,td,k9,λl H1 ks s1 ly h1 _ sw=>?_⟩;have l9:ks.length<=64:=by
   have:=sw.len td
   lia
  refine ⟨l,Y,⟨_,SqL.of h1⟩,λD hD=>Yc (xs:=ks.map V.int) (λi σ H3=>∃ v,σ=[v]/\Same H1 H3/\WAt H3 D (ks.take i) λ_=>(1,1)) ⟨none,Y,Same.new hD,λ_=>0,Zc,λx hx=>by simp at hx⟩ ?_ ?_ ?_⟩
  ·rintro i σ H3 _ ⟨v,rfl,s3,h3⟩
   exact SqL.of (s3 _ _ h1)
  ·rintro i x σ H3 hx ⟨v,rfl,s3,ad,h3,h4⟩
   obtain ⟨y,hy,rfl⟩:=map_some hx;dsimp only [Zm,tYes];rw [if_pos rfl];refine (et:);have sq:Same H3 (upd H3 q (.tup [V.int 1,V.int 1])):=Same.new hq;have my:(upd H3 q (.tup [V.int 1,V.int 1])) q=some (tp (1,1)):=Zc;have hny:y ∉ ks.take i:=λz=>by
    have hi:i < ks.length:=(Aa hy).1
    have nd:=sw.nd
    rw [<- take_append_drop i ks,nodup_append] at nd
    refine nd.2.2 y z y ?_ Y
    rw [drop_eq_getElem_cons hi,(Aa hy).2]
    exact mem_cons_self
   refine ⟨_,Sum.inl y,Y,sq _ _ h3,(by rw [Ue,Ai]; exact Zo (by lia)),_,Y,Same.add (s3.trans sq) hD,?_⟩;rw [Aw,hy];have:=WAt.new (g:=λ_=>(1,1)) (v:=(1,1)) (sq _ _ h3) (λx hx=>sq _ _ (h4 x hx)) my hny;exact this.congr λx _=>by unfold putG; split <;> rfl
  ·rintro σ H3 ⟨v,rfl,s3,h3⟩
   rw [Ab,take_length] at h3;exact k D H3 ks (s1.trans s3) (s1.free hD) h3 sw
def F3:FnScope ["tent","worths"] ["tent","worths"] (Zg V3):=Am
def Zaa (T:Txt w K mg t):(a:) 4 t.bI t.bO ["tent","worths"] (Zla t.aa):=by
 refine T.bT.F.aR F3 (b:)
 ·obtain ⟨p,d,M,ns,ks,g,rfl,ta,td,k9,wa,sw,ok,k⟩:=h
  have hu:=Xh hr;refine ⟨_,(Zf (Yj (Zs (Zly hr.units) (Yg (Jf Y) (by rfl) T.bu PyProof.Rows.boot_sorted (A:)) (pcT (O5 T) hr T.bA (w:)) (Zn _)) Jb Z8)
   (Zh (Zl (Zik (Kw (ts:=["seam","top","bottom"]) (fv:=[]) (i:) rfl (Qj (pv 1) ⟨rfl,rfl,rfl⟩) (λ_ _ _ _=>(Jh (n:=2) K rfl (Zq (pgN 0 nd3) (Zq (Jh (n:=2) K rfl (Zq (pgN 1 nd3) (Zq (pgN 2 nd3) Ym))) Ym)))) (Q:) (K:) (λ_ _ _ _ _ _=>Vu (pv 0) (pcT (Ud T) hr T.bz (Za (pv 1) (y:))))))))),?_⟩
  obtain ⟨ad,hd,had⟩:=id wa;have l9:ks.length < 64:=by
   have:=sw.len td
   lia
  refine Zw λky j5=>⟨d,_,ks,Y,.inl hd,(by unfold wD; rw [map_map]; rfl),l9,λl1 ka ly vc qk=>?_⟩;have s1:Same H (bm:):=Same.new ly;have h1:(bm:) l1=some (.lst (ka.map V.int)):=Zc;generalize upd H l1 (.lst (ka.map V.int))=H1 at s1 h1 ⊢;refine ⟨p,M,ns,Y,ta.same s1,td,k9,λl2 H2 kh s2 nj h2 mf sw2=>⟨l1,l2,ka,kh,Y,Y,SqL.of (s2 _ _ h1),SqL.of h2,?_⟩⟩;obtain rfl:=Kd vc (sw2.perm sw) qk mf;rw [decide_eq_true rfl];refine iteF ?_
  try dsimp only [U7]
  refine j5 _ _ ?_;have zp:=s1.trans s2;have qd:=zp _ _ hd;have had2:∀ x∈ks,H2 (ad x)=some (tp (g x)):=λx hx=>zp _ _ (had x hx);clear h1 h2 qk mf vc sw2 nj;refine ⟨d,_,Y,.inl ⟨qd,λo=>?_⟩⟩;intro D hD;obtain ⟨qw,md⟩:=Wh hD;have hda:∀ x∈ks,ad x≠d:=λx hx z=>by have:=had2 x hx; rw [z,qd] at this; cases this
  refine Vc (λi σ H3=>∃ v0 v1 v2,σ=[v0,v1,v2]/\(∀ b u,b≠d->H2 b=some u->H3 b=some u)/\H3 d=some (.frz o (.dK (wD ks ad)))/\WAt H3 D (ks.take i) (lowG g)) ⟨none,none,none,Y,λb u hb e=>by rw [Ze (Zk e md),Ze hb]; exact e,by rw [Ze (Ne.symm qw),Zc],λ_=>0,Zc,λx hx=>by simp at hx⟩ ?_ ?_ ?_
  ·rintro i σ H3 _ ⟨v0,v1,v2,rfl,_,e,_⟩
   exact e
  ·rintro i k0 x0 σ H3 q pd hq ⟨v0,v1,v2,rfl,s3,e3,ad3,h3,h4⟩
   obtain ⟨y,hy,rfl,rfl⟩:=Zo6 pd;have ql:=Au hy;obtain ⟨o1,o2,o3⟩:=ok y ql;have sq:Same H3 (upd H3 q (c2:)):=Same.new hq;have vm:(upd H3 q (c2:)) q=some (c2:):=Zc;have hay:(upd H3 q (c2:)) (ad y)=some (tp (g y)):=sq _ _ (s3 _ _ (hda y ql) (had2 y ql));generalize upd H3 q (.tup [kV (Sum.inl y),V.ref (ad y)])=H4 at sq vm hay ⊢;dsimp only [Zm];refine ⟨q,_,Y,SqT.of vm,Y,_,_,Y,_,_,Y,⟨ad y,_,Y,SqT.of hay,Y,_,_,Y,_,_,Y,Y,Y,?_⟩⟩;dsimp only [Zm,tYes];rw [if_pos rfl];refine ⟨((g y).1:Int),((g y).2:Int),Y,λm n em en hm hn=>?_,λz=>by lia⟩;obtain rfl:m=(g y).1:=by lia
   obtain rfl:n=(g y).2:=by lia
   refine ⟨Zbk hm o3,λr hr=>?_⟩;have sr:Same H4 (upd H4 r (tp (lowN (g y).1 (g y).2))):=Same.new hr;have hny:y ∉ ks.take i:=λz=>by
    have hi:i < ks.length:=(Aa hy).1
    have nd:=sw.nd
    rw [<- take_append_drop i ks,nodup_append] at nd
    refine nd.2.2 y z y ?_ Y
    rw [drop_eq_getElem_cons hi,(Aa hy).2]
    exact mem_cons_self
   have s34:=sq.trans sr;refine ⟨_,Sum.inl y,Y,s34 _ _ h3,(by rw [Ue,Ai]; exact Zo (by lia)),_,_,_,Y,λb u hb e=>?_,?_,?_⟩
   ·rw [Ze (Zk e md)]; exact s34 _ _ (s3 b u hb e)
   ·rw [Ze (Ne.symm qw)]; exact s34 _ _ e3
   ·rw [Aw,hy]
    have:=WAt.new (g:=lowG g) (v:=lowN (g y).1 (g y).2) (s34 _ _ h3) (λx hx=>s34 _ _ (h4 x hx)) (Zc (H:=H4) (a:=r)) hny;exact this.congr λx _=>by
     unfold putG
     split
     ·rename_i z; rw [z]; rfl
     ·rfl
  ·rintro σ H3 ⟨v0,v1,v2,rfl,s3,e3,w3⟩
   rw [Ue,take_length] at w3;refine ⟨d,o,_,e3,(λo' u z=>by have z:H d=some (.frz o' u):=z; rw [hd] at z; cases z),?_⟩;have sF:Same H2 (upd H3 d (.dK (wD ks ad))):=λb u e=>by
    by_cases c:b=d
    ·subst c; rw [qd] at e; rw [Zc]; exact e
    ·rw [Ze c]; exact s3 b u c e
   refine k D _ (zp.trans sF) (zp.free md) ?_;obtain ⟨ad3,h5,h6⟩:=w3;exact ⟨ad3,by rw [Ze qw]; exact h5,λx hx=>by rw [Ze (λz=>by have:=h6 x hx; rw [z,e3] at this; cases this)]; exact h6 x hx⟩
def Zjv:FnScope ["one","other"] ["one","other"] (Zg Zcw):=Am
def Zj4 (T:Txt w K mg t):(a:) 3 t.gH t.gP ["one","other"] Zjh:=by
 refine T.g9.F.aR Zjv (b:)
 ·obtain ⟨p,q,v,f,B,rfl,hp,hq,⟨a1,a2,a3,a4⟩,hB,⟨b1,b2,b3,b4⟩,k⟩:=h
  refine ⟨_,(Zh (Zl (pcT (Ud T) hr T.bz (Za (Zi Zin (Zt Yr (pv 0) Zd (j:)) (Zt Yr (pv 1) Zd (j:))) (Za (Zi Zin (Zt Yr (pv 0) Zd (j:)) (Zt Yr (pv 1) Zd (j:))) Zb))))),?_⟩;refine ⟨SqT.of hp,Y,SqT.of hq,Y,CMul.ok (.inl ⟨by lia,by lia⟩),?_⟩;refine ⟨SqT.of hp,Y,SqT.of hq,Y,CMul.ok (.inl ⟨by lia,by lia⟩),?_⟩;have m1:=Nat.mul_le_mul a2 b2;have m2:=Nat.mul_le_mul a4 b4;have p1:=Nat.mul_le_mul a1 b1;have p2:=Nat.mul_le_mul a3 b3;refine ⟨(v.1:Int) * f.1,(v.2:Int) * f.2,Y,λm n em en hm hn=>?_,λz=>?_⟩
  ·have em:m=v.1 * f.1:=by rw [<- Int.natCast_mul] at em; lia
   have en:n=v.2 * f.2:=by rw [<- Int.natCast_mul] at en; lia
   subst em en;exact ⟨Zbk hm (Nat.lt_of_le_of_lt (by lia:_<=2 ^ 11) (Nat.pow_lt_pow_right (c:) (c:))),λr hr=>k r _ hr (Zsl hm hn (by lia) (by lia))⟩
  ·exfalso
   rw [<- Int.natCast_mul,<- Int.natCast_mul] at z;lia
def Xc:FnScope ["tent","worths","seam","behind","top","bottom","more","less","place","factor","name"] ["tent","worths","seam"] (Zg Fc):=Am
def Zf7 (T:Txt w K mg t):(a:) 5 t.dX t.eK ["tent","worths","seam"] (Zeu t.aa):=by
 refine T.fh.F.aR Xc (b:)
 ·obtain ⟨p,d,M,ns,ks,x,a,b,rfl,ta,td,k9,wa,sw,mv,k⟩:=h
  have hu:=Xh hr;refine ⟨_,(Zf (Z5 (pcT (K1 T) hr T.cp (Za (pv 0) (y:))))
   (Zf (psN 3 Xc.nd (pcT (Zaa T) hr T.bT (Za (pv 0) (A:))))
   (Zf (Xu (Y3 hu (pv 3) (pv 2) (j:)) (Wr rfl (Zq (pgN 4 Xc.nd) (Zq (pgN 5 Xc.nd) Ym))))
   (Zf (psN 6 Xc.nd (Yp (Za (Zi Yi (pv 4) (pv 5)) (Za (pv 5) Zb))))
   (Zf (psN 7 Xc.nd (Yp (Za (pv 4) (Za (Zi Yi (pv 4) (pv 5)) Zb))))
   (Zf (Wn PassesOwn.never rfl (Zij rfl T.jQ (Za (pcT (K0 T) hr T.dA (Za (pv 0) (y:))) (Za (Yz (Za (pv 6) (Za (pv 7) (Za (pv 6) (Za (pv 7) Zb))))) Zb))) (Wr rfl (Zq (pgN 8 Xc.nd) (Zq (pgN 9 Xc.nd) Ym))) (Zf (psN 10 Xc.nd (Xr (pv 0) T.ae T.ap.m (J7 T) (ai:) T.ap.b .nil Yv (Za (pv 8) Zb)))
   (Zh (Yj (Vt (Zf2 hu (pv 10) (pv 3)) (ap:)) (Zh (Qh hu (pv 3) (pv 10) (pcT (Zj4 T) hr T.g9 (Za (Y3 hu (pv 3) (pv 10) (j:)) (Za (pv 9) Zb))) rfl)) Z8))))
   (Zf (Qh hu (pv 3) (pv 2) (Yp (Za (pv 5) (Za (pv 4) Zb))) rfl)
   (Zh (Zl (pv 3)))))))))),?_⟩
  obtain ⟨ha,hb⟩:=mv.lts td;obtain ⟨n,n1,wn,hn⟩:=td.n;have pi:=td.len;obtain ⟨hk,lg⟩:=Zln td mv.hM mv.lt mv.nm;have hs:Zu ns x="free":=by unfold Zu; rw [lg]; exact if_neg mv.ab
  have o8:x∈ks:=(sw.mem x).mpr ⟨a,b,mv.hM,mv.nm⟩;refine Zw λky j5=>⟨p,M,ns,x,Y,ta,td,λ_ H1 s1=>⟨λe=>absurd (hs.symm.trans e) (c:),λe=>absurd (hs.symm.trans e) (c:),λ_=>?_⟩,λz=>absurd hk z⟩;refine j5 _ _ ?_;refine Zw λky j5=>⟨p,d,M,ns,ks,_,Y,ta.same s1,td,k9,wa.same s1,sw,λy hy=>⟨An _,An _,Nat.one_lt_two_pow (c:)⟩,λd' H2 s2 qv w2=>?_⟩;rw [show lowG (λ_:Int=>((1:Nat),(1:Nat)))=λ_=>(1,1) from funext λ_=>(show lowN 1 1=(1,1) by decide)] at w2;refine j5 _ _ ?_
  try dsimp only [Zm]
  have hd0:H d'=none:=s1.free qv;have zp:=s1.trans s2;obtain ⟨ad,e1,e2⟩:=id w2;refine Zw λky j5=>⟨d',_,Y,Zkr (.inl e1) o8,ad x,_,Y,SqT.of (e2 x o8),Y,_,_,Y,_,_,Y,Y,(j5 _ _ ?_)⟩
  try dsimp only [Zm]
  refine Zw λky j5=>⟨(szR Y),λmo hmo=>j5 _ _ ?_⟩;have s3:Same H2 (upd H2 mo (tp (2,1))):=Same.new hmo;have h3:(upd H2 mo (tp (2,1))) mo=some (tp (2,1)):=Zc;show tSeq _ _ _ _ (upd H2 mo (tp (2,1)));generalize upd H2 mo (tp (2,1))=H3 at s3 h3 ⊢
  try dsimp only [Zm]
  refine Zw λky j5=>⟨(szR Y),λle hle=>j5 _ _ ?_⟩;have s4:Same H3 (upd H3 le (tp (1,2))):=Same.new hle;have h4:(upd H3 le (tp (1,2))) le=some (tp (1,2)):=Zc;show tSeq _ _ _ _ (upd H3 le (tp (1,2)));generalize upd H3 le (tp (1,2))=H4 at s4 h4 ⊢
  try dsimp only [Zm]
  have s24:=s3.trans s4;have h34:=s4 _ _ h3;have sH4:=zp.trans s24;clear s3 h3 hmo hle;refine Z0 (λσ H'=>∃ v8 v9 xh,σ=[oR p,oR d,oI x,oR d',oI 1,oI 1,oR mo,oR le,v8,v9,xh]/\Same H H'/\∃ g,WAt H' d' ks g/\∀ y∈ks,SmP 16 (g y)) (D:) ?_
  ·refine ⟨p,M,ns,x,Y,ta.same sH4,td,λ_ H5 s5=>⟨λe=>absurd (hs.symm.trans e) (c:),λe=>absurd (hs.symm.trans e) (c:),λa' b' sq e1 e2 e3 e4 e5 e6=>?_⟩,λz=>absurd hk z⟩
   rw [lg] at e1;cases e1;refine ⟨(szR Y),λls hls=>?_⟩;have s6:Same H5 (upd H5 ls (.lst (bo:))):=Same.new hls;have h6:(upd H5 ls (.lst (bo:))) ls=some (.lst (bo:)):=Zc;have e7:=s6 _ _ e6;generalize upd H5 ls (.lst [V.ref mo,V.ref le,V.ref mo,V.ref le])=H6 at s6 h6 e7 ⊢;have vb:=s5.trans s6;refine ⟨.t sq,.l ls,_,_,Y,SqT.of e7,SqL.of h6,(Zow (xs:=sqr a b) (ys:=(bo:)) Y (λi σ H'=>∃ v8 v9 xh,σ=[oR p,oR d,oI x,oR d',oI 1,oI 1,oR mo,oR le,v8,v9,xh]/\Same H H'/\H' sq=some (.tup (sqr a b))/\H' ls=some (.lst (bo:))/\H' mo=some (tp (2,1))/\H' le=some (tp (1,2))/\∃ g,WAt H' d' ks g/\∀ y∈ks,SmP (2 ^ i) (g y)) ⟨_,_,_,Y,sH4.trans vb,e7,h6,vb _ _ h34,vb _ _ h4,_,w2.same (s24.trans vb),λy _=>⟨An _,An _,An _,An _⟩⟩ ?_ ?_ ?_)⟩
   ·rintro i σ H' _ ⟨v8,v9,xh,rfl,_,q1,q2,_⟩
    exact ⟨SqT.of q1,SqL.of q2⟩
   ·rintro i x0 y0 σ H7 q vh hy0 hq ⟨v8,v9,xh,rfl,s7,q1,q2,q3,q4,g,w7,sm⟩
    have hi:i < 4:=(Aa vh).1
    obtain ⟨rfl,fa,f,rfl,hfa,hf2⟩:x0=V.int (uy a b i:Nat)/\∃ fa f,y0=V.ref fa/\H7 fa=some (tp f)/\SmP 2 f:=by
     have:i=0\/i=1\/i=2\/i=3:=by lia
     unfold sqr at vh;rw [Zb0,Zby,Zb0,Zby] at vh
     rcases this with rfl | rfl | rfl | rfl
     ·cases vh; cases hy0; exact ⟨Y,mo,_,Y,q3,by unfold SmP; decide⟩
     ·cases vh; cases hy0; exact ⟨Y,le,_,Y,q4,by unfold SmP; decide⟩
     ·cases vh; cases hy0; exact ⟨Y,mo,_,Y,q3,by unfold SmP; decide⟩
     ·cases vh; cases hy0; exact ⟨Y,le,_,Y,q4,by unfold SmP; decide⟩
    have t6:Same H7 (upd H7 q (ej:)):=Same.new hq;have hq8:(upd H7 q (ej:)) q=some (ej:):=Zc;generalize upd H7 q (.tup [V.int (uy a b i:Nat),V.ref fa])=H8 at t6 hq8 ⊢;have hpt:uy a b i < M.length:=by rw [hn] at ha hb ⊢; exact Zrw ha hb
    have hnm:=Ztt td hpt;rw [<- Zrv hi] at hnm;refine ⟨q,_,Y,SqT.of hq8,Y,_,_,Y,_,_,Y,Y,?_⟩;have s78:=s7.trans t6;have ta8:=ta.same s78;obtain ⟨dx,cl,na,sp,mt,o,ff,B⟩:=id ta8;refine Zw λky j5=>⟨B.ins,Y1 _ _ _ _,p,M,ns,_,Y,ta8,λi' y' z1 z2=>?_,λz=>absurd ⟨by lia,by lia⟩ z⟩;obtain rfl:uy a b i=i':=by lia
    rw [hnm] at z2;cases z2;refine j5 _ _ ?_
    try dsimp only [Zm]
    obtain ⟨ad8,e8,e9⟩:=w7.same t6;refine ⟨d',_,Y,.inl ⟨_,Sum.inl ((sqX ns a b).getD i 0),.inl e8,Y,Y⟩,?_⟩;rw [Zkq];generalize hxy:(sqX ns a b).getD i 0=y at *;by_cases hy:y∈ks
    ·rw [if_pos hy]
     refine iteT ?_;have h16:2 ^ i<=8:=Nat.pow_le_pow_right (n:=2) (c:) (show i<=3 by lia);refine ⟨d',_,Y,Zkr (.inl e8) hy,ad8 y,fa,_,f,_,Y,e9 y hy,t6 _ _ hfa,sm y hy,by lia,hf2,λr u hr hu2=>?_⟩;have sr:Same H8 (upd H8 r (tp u)):=Same.new hr;have hr9:(upd H8 r (tp u)) r=some (tp u):=Zc;generalize upd H8 r (tp u)=H9 at sr hr9 ⊢;have l9:=sw.len td;refine ⟨d',_,Y,DPut.k (k:=Sum.inl y) (sr _ _ e8) (by rw [Ue]; exact Zo (by lia)),?_⟩;have ndt:∀ r u,H9 r=some (.tup u)->r≠d':=λr u h z=>by rw [z,sr _ _ e8] at h; cases h
     have ndl:ls≠d':=λz=>by have:=sr _ _ (t6 _ _ q2); rw [z,sr _ _ e8] at this; cases this
     have re:=t6.trans sr;refine ⟨_,_,_,Y,Same.add (s7.trans re) hd0,?_,?_,?_,?_,putG g y u,?_,λx hx=>?_⟩
     ·rw [Ze (ndt _ _ (re _ _ q1))]; exact re _ _ q1
     ·rw [Ze ndl]; exact re _ _ q2
     ·rw [Ze (ndt _ _ (re _ _ q3))]; exact re _ _ q3
     ·rw [Ze (ndt _ _ (re _ _ q4))]; exact re _ _ q4
     ·exact WAt.put (sr _ _ e8) (λx hx=>sr _ _ (e9 x hx)) hr9 hy
     ·unfold putG
      split
      ·rw [Nat.pow_succ,Nat.mul_comm]; exact hu2
      ·exact (sm x hx).up (Nat.pow_le_pow_right (c:) (le_succ i))
    ·rw [if_neg hy]
     exact iteF ⟨_,_,_,Y,s78,t6 _ _ q1,t6 _ _ q2,t6 _ _ q3,t6 _ _ q4,g,w7.same t6,λx hx=>(sm x hx).up (Nat.pow_le_pow_right (c:) (le_succ i))⟩
   ·rintro σ H7 ⟨v8,v9,xh,rfl,s7,q1,q2,q3,q4,g,w7,sm⟩
    exact kc _ _ ⟨_,_,_,Y,s7,g,w7,sm⟩
  rintro σ H7 ⟨v8,v9,xh,rfl,s7,g,⟨ad7,e7,e8⟩,sm⟩;have l9:=sw.len td;refine Zw λky j5=>⟨(szR Y),λr hr=>?_⟩;have sr:Same H7 (upd H7 r (tp (1,1))):=Same.new hr;have hr9:(upd H7 r (tp (1,1))) r=some (tp (1,1)):=Zc;refine ⟨d',_,Y,DPut.k (k:=Sum.inl x) (sr _ _ e7) (by rw [Ue]; exact Zo (by lia)),(j5 _ _ (k d' _ (putG g x (1,1)) (Same.add (s7.trans sr) hd0) hd0 (WAt.put (sr _ _ e7) (λx hx=>sr _ _ (e8 x hx)) hr9 o8) λy hy=>?_))⟩;unfold putG;split
  ·unfold SmP; decide
  ·exact sm y hy
def Wt {H:Hp} {p:Addr} {a b:HO}:upd (upd H p a) p b=upd H p b:=by
 funext c;by_cases z:c=p
 ·subst z; rw [Zc,Zc]
 ·rw [Ze z,Ze z,Ze z]
noncomputable def X9 (te th po wo:V):List (Str × V):=putF "worths" wo (putF "pools" po (putF "threads" th (putF "tent" te [])))
noncomputable def Xy (be sc st un:Addr):List (Str × V):=putF "undone" (.ref un) (putF "standing" (.ref st) (putF "scene" (.ref sc) (putF "began" (.ref be) [])))
structure HallNew (CT CS CH:Addr) (H:Hp) (p:Addr) (M:Lq) (ns:List Int) (dx be sc st un lf th po wo:Addr) (ks:List Int):Prop where
 ins:H p=some (.ins CH dx (du:))
 tent:Z4 CT H be M ns
 scn:H sc=some (.ins CS lf (X9 (.ref be) (.ref th) (.ref po) (.ref wo)))
 thr:H th=some (.dK [])
 poo:H po=some (.dK [])
 wor:WAt H wo ks λ_=>(1,1)
 sw:SwK M ns ks
 sta:H st=some (.lst [])
 und:H un=some (.lst [])
def OthP (p:Addr) (H H':Hp):Prop:=∀ b u,b≠p->H b=some u->H' b=some u
def OthP.trans {p:Addr} {H H1 H':Hp} (s:OthP p H H1) (s1:OthP p H1 H'):OthP p H H':=λb u hb e=>s1 b u hb (s b u hb e)
def OthP.of {p:Addr} {H H':Hp} (s:Same H H'):OthP p H H':=λb u _ e=>s b u e
def OthP.upd {p:Addr} {H:Hp} {o:HO}:OthP p H (upd H p o):=λb u hb e=>by rw [Ze hb]; exact e
def Xo {H H':Hp} {p C dx:Addr} {fs:List (Str × V)} (hp:H p=some (cl:)) (s:OthP p H H') {b:Addr} {u:HO} (e:H b=some u) (hu:∀ C dx fs,u≠.ins C dx fs):H' b=some u :=
 s b u (λz=>by rw [z,hp] at e; exact hu _ _ _ (Ax e).symm) e
def Xq.oth {H H':Hp} {p C dx r:Addr} {fs:List (Str × V)} {ns:List Int} (h:Xq H r ns) (hp:H p=some (cl:)) (s:OthP p H H'):Xq H' r ns:=by
 obtain ⟨ts,h1,h2,h3⟩:=h;exact ⟨ts,Xo hp s h1 (s:),h2,λk q e=>Xo hp s (h3 k q e) (s:)⟩
def Z4.oth {C0:Addr} {H H':Hp} {p C dx x:Addr} {fs:List (Str × V)} {M:Lq} {ns:List Int} (h:Z4 C0 H x M ns) (hp:H p=some (cl:)) (hx:x≠p) (s:OthP p H H'):Z4 C0 H' x M ns:=by
 obtain ⟨dt,cl,na,sp,mt,o,f,b⟩:=h;exact ⟨dt,cl,na,sp,mt,o,f,s _ _ hx b.ins,b.rows.oth hp s,Xo hp s b.names (s:),Xo hp s b.spots (s:),Xo hp s b.mates (s:),λy hy=>Xo hp s (b.at' y hy) (s:)⟩
def WAt.oth {H H':Hp} {p C dx d:Addr} {fs:List (Str × V)} {ks:List Int} {g:Int->Nat × Nat} (h:WAt H d ks g) (hp:H p=some (cl:)) (s:OthP p H H'):WAt H' d ks g:=by
 obtain ⟨ad,h1,h2⟩:=h;exact ⟨ad,Xo hp s h1 (s:),λx hx=>Xo hp s (h2 x hx) (s:)⟩
def Oy (C:Addr):Sp:=λvs H Q _=>∃ (p dx:Addr) (te th po wo:V),vs=[.ref p,te,th,po,wo]/\H p=some (.ins C dx [])/\Q .non (upd H p (.ins C dx (X9 te th po wo)))
def Ze8 (CT CS CH:Addr):Sp:=λvs H Q _=>∃ (p r dx:Addr) (M:Lq) (ns:List Int),vs=[.ref p,.ref r]/\H p=some (.ins CH dx [])/\Xq H r ns/\TD M ns/\ns.length < 64 /\
 ∀ (H':Hp),OthP p H H'->(∃ be sc st un lf th po wo ks,HallNew CT CS CH H' p M ns dx be sc st un lf th po wo ks/\H st=none/\H un=none/\st≠un)->Q .non H'
def Zd6:FnScope (ds:) (ds:) (Zg Km):=Am
def Wz (T:Txt w K mg t):(a:) 1 t.bv t.dj (ds:) (Oy t.ah):=by
 refine T.aC.F.aR Zd6 (b:)
 ·obtain ⟨p,dx,te,th,po,wo,rfl,hp,k⟩:=h
  refine ⟨_,(Zf (Wc (pv 0) (pv 1) Y)
   (Zf (Wc (pv 0) (pv 2) rfl)
   (Zf (Wc (pv 0) (pv 3) rfl)
   (Zh (Wc (pv 0) (pv 4) rfl))))),?_⟩;have l1:=Xk "tent" te [];have l2:=Xk "threads" th (putF "tent" te []);have l3:=Xk "pools" po (putF "threads" th (putF "tent" te []));rw [length_nil] at l1;refine ⟨p,_,dx,_,Y,hp,T.ac,T.al,by decide,p,_,dx,_,Y,Zc,T.ac,T.am,by lia,p,_,dx,_,Y,Zc,T.ac,T.av,by lia,p,_,dx,_,Y,Zc,T.ac,T.aB,by lia,?_⟩;rw [Wt,Wt,Wt];exact k
def Zfi:FnScope ["self","rows"] ["self","rows"] (Zg Fs):=Am
def Zgh (T:Txt w K mg t):(a:) 5 t.b6 t.eQ ["self","rows"] (Ze8 t.aa t.ah t.ag):=by
 refine T.fj.F.aR Zfi (b:)
 ·obtain ⟨p,r,dx,M,ns,rfl,hp,oq,td,k9,k⟩:=h
  refine ⟨_,(Zf (Wc (pv 0) (Jz T.ji (K5 T) (ai:) Y T.jg T.cn.b .nil Yv (A:)) Y)
   (Zf (Wc (pv 0) (Jz T.cz (Wz T) (ai:) rfl T.cm T.aC.b .nil Yv (Za (b3:) (Za Oj (Za Oj (Za (pcT (Zcl T) hr T.cV (Za (b3:) Zb)) Zb))))) rfl)
   (Zf (Wc (pv 0) (Yz Zb) rfl)
   (Zh (Wc (pv 0) (Yz Zb) rfl))))),?_⟩;intro x dt hx hdt kq;have s0:Same H (upd (upd H dt (.own x)) x (.ins t.aa dt [])):=Same.add (Same.new hdt) hx;refine ⟨x,r,dt,M,ns,Y,Zc,oq.same s0,td,by lia,λH1 old ta=>⟨Y,?_⟩⟩;have s1:Same H H1:=λb u e=>old b u (Zk e hx) (s0 b u e);refine ⟨p,_,dx,_,Y,s1 _ _ hp,T.ai,T.bx,by decide,?_⟩;have l1:=Xk "began" (.ref x) [];rw [length_nil] at l1;have hp1:=s1 _ _ hp;have nx:x≠p:=λz=>by rw [z,hp] at hx; cases hx
  have o2:OthP p H1 (upd H1 p (.ins t.ag dx (R:))):=.upd;have p6:(upd H1 p (.ins t.ag dx (R:))) p=some (.ins t.ag dx (R:)):=Zc;have va:=ta.oth hp1 nx o2;have o02:OthP p H _:=(OthP.of s1).trans o2;generalize upd H1 p (.ins t.ag dx (putF "began" (.ref x) []))=H2 at o2 p6 va o02 ⊢;clear o2 ta old s1 s0 hp1 hdt kq oq;have lk1:(R:).lookup ("began":Str)=some (.ref x):=by rw [Z3,if_pos rfl]
  refine ⟨p6,T.ai,T.bx,MVal.of lk1 ?_⟩;intro th t8 po ub;obtain ⟨hpt,ui⟩:=Wh ub;have s3:Same H2 (upd (upd H2 th (.dK [])) po (.dK [])):=Same.add (Same.new t8) ui;have ht3:(upd (upd H2 th (.dK [])) po (.dK [])) th=some (.dK []):=by rw [Ze (Ne.symm hpt),Zc]
  have z8:(upd (upd H2 th (.dK [])) po (.dK [])) po=some (.dK []):=Zc;generalize upd (upd H2 th (.dK [])) po (.dK [])=H3 at s3 ht3 z8 ⊢;refine ⟨s3 _ _ p6,T.ai,T.bx,MVal.of lk1 ⟨ x,M,ns,Y,va.same s3,td,k9,λwo H4 ks s4 hwo w4 sw=>?_⟩⟩;intro sc lf pc y9 uj;have s5:Same H4 (upd (upd H4 lf (.own sc)) sc (.ins t.ah lf [])):=Same.add (Same.new y9) pc;refine ⟨sc,lf,_,_,_,_,Y,Zc,Y,?_⟩;rw [Wt];have s6:Same H4 (upd (upd H4 lf (.own sc)) sc (bs:)):=Same.add (Same.new y9) pc;have hc6:(upd (upd H4 lf (.own sc)) sc (bs:)) sc=some (bs:):=Zc;generalize upd (upd H4 lf (.own sc)) sc (.ins t.ah lf (X9 (.ref x) (.ref th) (.ref po) (.ref wo)))=H6 at s6 hc6 ⊢;clear s5;have vb:=s4.trans s6;have s26:=s3.trans vb;have ss:=s26 _ _ p6;have nsc:sc≠p:=λz=>by rw [z,(s3.trans s4) _ _ p6] at pc; cases pc
  refine ⟨p,_,dx,_,Y,ss,T.ai,T.aq,by lia,?_⟩;have l2:=Xk "scene" (.ref sc) (R:);have o7:OthP p H6 (upd H6 p (.ins t.ag dx (E:))):=.upd;have hp7:(upd H6 p (.ins t.ag dx (E:))) p=some (.ins t.ag dx (E:)):=Zc;have ta7:=(va.same s26).oth ss nx o7;have ht7:=Xo ss o7 (vb _ _ ht3) (s:);have hq7:=Xo ss o7 (vb _ _ z8) (s:);have w7:=(w4.same s6).oth ss o7;have hc7:=o7 _ _ nsc hc6;have o07:OthP p H _:=(o02.trans (.of s26)).trans o7;generalize upd H6 p (.ins t.ag dx (putF "scene" (.ref sc) (putF "began" (.ref x) [])))=H7 at o7 hp7 ta7 ht7 hq7 w7 hc7 o07 ⊢;clear o7 ss s26 vb s6 hc6 s4 w4 s3 ht3 z8 va p6 o02 t8 ub ui hwo pc y9;refine ⟨Az _,λst mh=>?_⟩
  have hst0:H st=none:=by
   cases e:H st with
   | none=>rfl
   | some u =>
    rw [o07 _ _ (λz=>by rw [z,hp7] at mh; cases mh) e] at mh;cases mh
  have s8:Same H7 (upd H7 st (.lst [])):=Same.new mh;have hs8:(upd H7 st (.lst [])) st=some (.lst []):=Zc;generalize upd H7 st (.lst [])=H8 at s8 hs8 ⊢;have ya:=s8 _ _ hp7;refine ⟨p,_,dx,_,Y,ya,T.ai,T.aQ,by lia,?_⟩;have l3:=Xk "standing" (.ref st) (E:);have o9:OthP p H8 (upd H8 p (.ins t.ag dx (putF "standing" (.ref st) (E:)))):=.upd;have hp9:(upd H8 p (.ins t.ag dx (putF "standing" (.ref st) (E:)))) p=some (.ins t.ag dx (putF "standing" (.ref st) (E:))):=Zc;have ta9:=(ta7.same s8).oth ya nx o9;have ht9:=Xo ya o9 (s8 _ _ ht7) (s:);have hq9:=Xo ya o9 (s8 _ _ hq7) (s:);have hs9:=Xo ya o9 hs8 (s:);have w9:=(w7.same s8).oth ya o9;have hc9:=o9 _ _ nsc (s8 _ _ hc7);have o09:OthP p H _:=(o07.trans (.of s8)).trans o9;generalize upd H8 p (.ins t.ag dx (putF "standing" (.ref st) (putF "scene" (.ref sc) (putF "began" (.ref x) []))))=H9 at o9 hp9 ta9 ht9 hq9 hs9 w9 hc9 o09 ⊢;clear o9 ya s8 hs8 hp7 ta7 ht7 hq7 w7 hc7 o07 mh;refine ⟨Az _,λun pe=>?_⟩
  have yt:H un=none:=by
   cases e:H un with
   | none=>rfl
   | some u =>
    rw [o09 _ _ (λz=>by rw [z,hp9] at pe; cases pe) e] at pe;cases pe
  have hsu:st≠un:=λz=>by rw [<- z,hs9] at pe; cases pe
  have sA:Same H9 (upd H9 un (.lst [])):=Same.new pe;have hsA:(upd H9 un (.lst [])) un=some (.lst []):=Zc;generalize upd H9 un (.lst [])=HA at sA hsA ⊢;have xz:=sA _ _ hp9;refine ⟨p,_,dx,_,Y,xz,T.ai,T.cS,by lia,?_⟩;have oB:OthP p HA (upd HA p (.ins t.ag dx (Xy x sc st un))):=.upd;refine k _ ((o09.trans (.of sA)).trans oB) ⟨x,sc,st,un,lf,th,po,wo,ks,⟨Zc,(ta9.same sA).oth xz nx oB,oB _ _ nsc (sA _ _ hc9),Xo xz oB (sA _ _ ht9) (s:),Xo xz oB (sA _ _ hq9) (s:),(w9.same sA).oth xz oB,sw,Xo xz oB (sA _ _ hs9) (s:),Xo xz oB hsA (s:)⟩,hst0,yt,hsu⟩
noncomputable def dS (l:List (Str × V)):List (Key × V):=l.map λkv=>((Sum.inr kv.1:Key),kv.2)
def Gc (l:List (Str × V)):(dS l).length=l.length:=by unfold dS; rw [Ab]
def Zet:Sp:=λvs H Q _=>∃ (d:Addr) (k:Key) (v:V) (l:List (Key × V)),vs=[.ref d,kV k,v]/\H d=some (.dK l)/\l.length<=900/\∀ e:Addr,H e=none->Q (.ref e) (upd H e (.dK (putK l k v)))
def Zaq:Sp:=λvs H Q _=>∃ (d:Addr) (x:Str) (l:List (Str × V)),vs=[.ref d,.str x]/\H d=some (.dK (dS l))/\l.length<=900/\(l.map (·.1)).Nodup/\∀ (e:Addr) (H':Hp),Same H H'->H e=none->H' e=some (.dK (dS (l.filter λkv=>decide (kv.1≠x))))->Q (.ref e) H'
def Zpm {l:List (Str × V)} {i:Nat} {k:Key} {v:V} (h:(dS l)[i]?=some (k,v)):∃ kv,l[i]?=some kv/\k=Sum.inr kv.1/\v=kv.2:=by
 unfold dS at h;rw [Ah] at h;obtain ⟨kv,h1,h2⟩:=Option.map_eq_some_iff.mp h;cases h2;exact ⟨kv,h1,Y,Y⟩
def Zgy {l:List (Str × V)} {x:Str} {v:V} (hn:x ∉ l.map (·.1)):putK (dS l) (Sum.inr x) v=dS (l ++ [(x,v)]):=by
 have:((dS l).any λkv=>decide (kv.1=(Sum.inr x:Key)))=false:=by
  rw [any_eq_false];intro kv hk z;unfold dS at hk;obtain ⟨y,hy,rfl⟩:=mem_map.mp hk;have e:=of_decide_eq_true z
  injection e with e
  exact hn (mem_map.mpr ⟨y,hy,e⟩)
 unfold putK;rw [this,if_neg (c:)];unfold dS;rw [Aj];rfl
def Zi3 {L:List (Str × V)} {x:Str}:(valV (dS L) (Sum.inr x)).isSome=decide (x∈L.map (·.1)):=by
 unfold valV dS;rw [Option.isSome_map,Bool.eq_iff_iff,find?_isSome,decide_eq_true_eq];constructor
 ·rintro ⟨y,hy,e⟩
  obtain ⟨kv,hk,rfl⟩:=mem_map.mp hy;have e:=of_decide_eq_true e
  injection e with e
  exact mem_map.mpr ⟨kv,hk,e⟩
 ·intro h
  obtain ⟨kv,hk,rfl⟩:=mem_map.mp h;exact ⟨_,mem_map.mpr ⟨kv,hk,Y⟩,decide_eq_true Y⟩
def Fy (t:Adr):Sp:=λvs H Q E=>∃ (sc lf th po:Addr) (te wo:V) (x:Str) (L:List (Str × V)),vs=[.ref sc,.str x]/\H sc=some (.ins t.ah lf (X9 te (.ref th) (.ref po) wo))/\H th=some (.dK [])/\H po=some (.dK (dS L))/\Wd x/\isN x=true/\(x∈L.map (·.1)->∀ H',E (.ref t.cD) none H')/\(x ∉ L.map (·.1)->∀ H',Same H H'->Q .non H')
def Zb3 (EM:Addr):Sp:=λvs H Q E=>∃ (a:Addr) (xs:List V),vs=[.ref a]/\H a=some (.lst xs)/\(xs.length<=400->Q .non H)/\(400 < xs.length->E (.ref EM) none H)
def Zdz (EG:Addr):Sp:=λvs H Q E=>∃ (q:Addr) (v:Nat × Nat),vs=[.ref q]/\H q=some (tp v)/\(v.1<=10 ^ 60->v.2<=10 ^ 60->Q .non H)/\(10 ^ 60 < v.1\/10 ^ 60 < v.2->E (.ref EG) none H)
def Ke:FnScope ["table","name","value","copied"] ["table","name","value"] (Zg Fb):=Am
def Kz (T:Txt w K mg t):(a:) 1 t.dZ t.eP ["table","name","value"] Zet:=by
 refine T.cr.F.aR Ke (b:)
 ·obtain ⟨d,k,v,l,rfl,hd,hl,q⟩:=h
  have hu:=Xh hr;refine ⟨_,(Zf (psN 3 Ke.nd (Ys Vg (by rfl) T.gz PySem.Pv.boot_dict (w:)))
   (Zf (Qh hu (pv 3) (pv 1) (pv 2) rfl)
   (Zh (Zl (pv 3))))),?_⟩
  refine Zw λky j5=>⟨d,_,Y,.inl hd,λe he=>j5 _ _ ⟨e,_,Y,DPut.k (k:=k) Zc (Zo (by lia)),?_⟩⟩;rw [Wt];exact q e he
def F4:FnScope ["scene","name"] ["scene","name"] (Zg V4):=Am
def Vv (T:Txt w K mg t):(a:) 3 t.bJ t.bP ["scene","name"] (Fy t):=by
 refine T.aS.F.aX F4 (b:)
 ·obtain ⟨sc,lf,th,po,te,wo,x,L,rfl,pc,t8,ub,hx,e,kT,k⟩:=h
  have hu:=Xh hr;refine ⟨_,(Zp (Z1 (Yj (Jo (Jn (pcT (Zbi T) hr T.dE (A:)))) Jb Z8))
   (Zr (Y9 (PW.pt (Zba (Vt (Zf2 hu (pv 1) (b3:)) (ap:)) (Ks (Vt (Zf2 hu (pv 1) (b3:)) (ap:))))) (Zr (Yo T.jK FBV rfl T.iZ rfl (bl:))) Yy))),?_⟩
  refine ⟨x,Y,hx.asc.all,hx.len,λH1 s1=>?_⟩;rw [e];refine iteF ?_;have i1:=s1 _ _ pc;refine ⟨i1,T.ac,T.am,th,_,Y,.inl ⟨_,Sum.inr x,.inl (s1 _ _ t8),Y,Y⟩,iteF ⟨i1,T.ac,T.av,po,_,Y,.inl ⟨_,Sum.inr x,.inl (s1 _ _ ub),Y,Y⟩,?_⟩⟩;rw [Zi3];by_cases c:x∈L.map (·.1)
  ·rw [decide_eq_true c]
   exact iteT ⟨by decide,kT c _⟩
  ·rw [decide_eq_false c]
   exact iteF (k c _ s1)
def Zb9:FnScope ["word"] ["word"] (Zg O0):=Am
def Uv (T:Txt w K mg t):(a:) 1 t.cK t.cR ["word"] (Zb3 t.aU):=by
 refine T.bf.F.aX Zb9 (b:)
 ·obtain ⟨a,xs,rfl,ha,k1,k2⟩:=h
  refine ⟨_,(Zr (Y9 (Zs J6 (ck:) (X1 (v:=.int 400) Y T.gF ⟨_,Y⟩) (Zn _)) (Zr (Yo T.jr FBV Y T.gC Y (bl:))) Yy)),?_⟩;refine ⟨a,_,Y,.inl (SqL.of ha),?_⟩;by_cases c:xs.length<=400
  ·exact iteN (by lia) (k1 c)
  ·exact iteY (by lia) ⟨by decide,k2 (by lia)⟩
def Zd4:FnScope ["parts"] ["parts"] (Zg Kk):=Am
def O6 (T:Txt w K mg t):(a:) 1 t.c9 t.dk ["parts"] (Zdz t.aK):=by
 refine T.bC.F.aX Zd4 (b:)
 ·obtain ⟨q,v,rfl,hq,k1,k2⟩:=h
  refine ⟨_,(Zr (Y9 (Zs J6 (Yg (Zm7 Y) (by rfl) T.iY PyProof.Rows.boot_max (w:)) (X1 (v:=.int 1000000000000000000000000000000000000000000000000000000000000) Y T.fE ⟨_,Y⟩) (Zn _)) (Zr (Yo T.i9 FBV Y T.fu Y (bl:))) Yy)),?_⟩;refine ⟨q,[(v.1:Int),(v.2:Int)],Y,SqT.of hq,(by show 0 < 2; decide),λm hm hmx=>?_⟩;have big:(1000000000000000000000000000000000000000000000000000000000000:Nat)=10 ^ 60:=by decide +kernel
  rw [<- big] at k1 k2;have h1:=hmx (v.1:Int) mem_cons_self;have h2:=hmx (v.2:Int) (mem_cons_of_mem _ mem_cons_self);by_cases c:(1000000000000000000000000000000000000000000000000000000000000:Int) < m
  ·refine iteY c ⟨by decide,k2 ?_⟩
   rcases Ar hm with rfl | hm
   ·exact .inl (by lia)
   ·rw [Af hm] at c; exact .inr (by lia)
  ·exact iteN c (k1 (by lia) (by lia))
def Zat:FnScope ["table","name"] ["table","name"] (Zg Ui):=Am
def V7 (T:Txt w K mg t):(a:) 1 t.bY t.ci ["table","name"] Zaq:=by
 refine T.aZ.F.aR Zat (b:)
 ·obtain ⟨d,x,l,rfl,hd,hl,nd,k⟩:=h
  have hu:=Xh hr;refine ⟨_,(Zh (Zl (Zik (Kw (ts:=["key","value"]) (fv:=[("name",1)]) (e:) rfl (Qj (pv 0) ⟨rfl,rfl,rfl⟩) (λ_ _ _ _=>(Jh (n:=2) K rfl (Zq (pgN 0 nd3) (Zq (pgN 1 nd3) Ym)))) (λ_ _ _ _=>(Uq (Zs Zef (pv 0) (pv 2) (Zn _)))) (K:) (λ_ _ _ _ _ _=>Vu (pv 0) (pv 1)))))),?_⟩;refine ⟨d,_,Y,.inl ⟨hd,λo=>?_⟩⟩;intro D hD;obtain ⟨qw,md⟩:=Wh hD;have hll:=Gc l;refine Vc (kvs:=dS l) (λi σ H3=>∃ v0 v1,σ=[v0,v1,oS x]/\(∀ b u,b≠d->H b=some u->H3 b=some u)/\H3 d=some (.frz o (.dK (dS l)))/\H3 D=some (.dK (dS ((l.take i).filter λkv=>decide (kv.1≠x))))) ⟨none,none,Y,λb u hb e=>by rw [Ze (Zk e md),Ze hb]; exact e,by rw [Ze (Ne.symm qw),Zc],Zc⟩ ?_ ?_ ?_
  ·rintro i σ H3 _ ⟨v0,v1,rfl,_,e,_⟩
   exact e
  ·rintro i k0 x0 σ H3 q pd hq ⟨v0,v1,rfl,s3,e3,h3⟩
   obtain ⟨kv,ww,rfl,rfl⟩:=Zpm pd;have nv:i < l.length:=(Aa ww).1;have sq:Same H3 (upd H3 q (a7:)):=Same.new hq;have vm:(upd H3 q (a7:)) q=some (a7:):=Zc;generalize upd H3 q (.tup [kV (Sum.inr kv.1),kv.2])=H4 at sq vm ⊢;have s4:∀ b u,b≠d->H b=some u->H4 b=some u:=λb u hb e=>sq _ _ (s3 b u hb e);have etk:l.take (i + 1)=l.take i ++ [kv]:=by rw [Aw,ww]; rfl
   dsimp only [Zm];refine ⟨q,_,Y,SqT.of vm,Y,_,_,Y,_,_,Y,Y,Y,?_⟩;show if (!decide (V.str kv.1=V.str x))=true then _ else _
   by_cases c:kv.1=x
   ·rw [c,decide_eq_true rfl]
    refine iteF ⟨_,_,Y,s4,sq _ _ e3,?_⟩;rw [sq _ _ h3,etk,filter_append];simp [c]
   ·rw [decide_eq_false (λz=>c (by injection z))]
    have mm:kv.1 ∉ ((l.take i).filter λkv=>decide (kv.1≠x)).map (·.1):=λz=>by
     obtain ⟨y,hy,e⟩:=mem_map.mp z;have hy:=(mem_filter.mp hy).1;rw [<- take_append_drop i l,Aj,nodup_append] at nd;refine nd.2.2 y.1 (mem_map.mpr ⟨y,hy,Y⟩) kv.1 ?_ e;rw [drop_eq_getElem_cons nv,(Aa ww).2];exact mem_cons_self
    refine iteT ⟨_,Sum.inr kv.1,Y,sq _ _ h3,?_,_,_,Y,λb u hb e=>?_,?_,?_⟩
    ·rw [Gc]
     have:=length_filter_le (λkv:Str × V=>decide (kv.1≠x)) (l.take i);rw [Ai] at this;exact Zo (by lia)
    ·rw [Ze (Zk e md)]; exact s4 b u hb e
    ·rw [Ze (Ne.symm qw)]; exact sq _ _ e3
    ·rw [Zc,Zgy mm,etk,filter_append]
     have:[kv].filter (λkv:Str × V=>decide (kv.1≠x))=[kv]:=by simp [c]
     rw [this]
  ·rintro σ H3 ⟨v0,v1,rfl,s3,e3,h3⟩
   rw [hll,take_length] at h3;refine ⟨d,o,_,e3,(λo' u z=>by have z:H d=some (.frz o' u):=z; rw [hd] at z; cases z),?_⟩;have sF:Same H (upd H3 d (.dK (dS l))):=λb u e=>by
    by_cases c:b=d
    ·subst c; rw [hd] at e; rw [Zc]; exact e
    ·rw [Ze c]; exact s3 b u c e
   exact k D _ sF md (by rw [Ze qw]; exact h3)
def Zt6 (be sc st un oz:Addr):putF "undone" (.ref oz) (du:)=Xy be sc st oz:=by first | rfl | decide
def Zt7 (be sc st un zn:Addr):putF "scene" (.ref zn) (du:)=Xy be zn st un:=by first | rfl | decide
def Zmp (be sc st un:Addr):(du:).length < 1000:=by
 have:(du:).length=4:=rfl;lia
def Q3 (CH:Addr):Sp:=λvs H Q _=>∃ (p dx be sc st un zn:Addr) (x:Str) (l:List V),vs=[.ref p,.str x,.ref zn]/\H p=some (.ins CH dx (du:))/\H st=some (.lst l)/\l.length<=900 /\
 ∀ (q oz:Addr) (H':Hp),H q=none->H oz=none->(∀ b u,b≠p->b≠st->H b=some u->H' b=some u)->H' p=some (.ins CH dx (Xy be zn st oz))->H' st=some (.lst (l ++ [.ref q]))->H' q=some (.tup [.str x,.ref sc])->H' oz=some (.lst [])->Q .non H'
def Zd7:FnScope ["self","text","scene"] ["self","text","scene"] (Zg Ko):=Am
def Js (T:Txt w K mg t):(a:) 1 t.db t.dm ["self","text","scene"] (Q3 t.ag):=by
 refine T.ao.F.aR Zd7 (b:)
 ·obtain ⟨p,dx,be,sc,st,un,zn,x,l,rfl,hp,mh,hl,k⟩:=h
  refine ⟨_,(Zf (Z5 (Wp (Zz (pv 0) Y) (Za (Yp (Za (pv 1) (Za (Zz (pv 0) Y) Zb))) Zb)))
   (Zf (Wc (pv 0) (Yz Zb) rfl)
   (Zh (Wc (pv 0) (pv 2) rfl)))),?_⟩;have z9:p≠st:=λz=>by rw [z,mh] at hp; cases hp
  refine Zw λky j5=>?_;refine ⟨hp,T.ai,T.aQ,.inl ⟨Y,_,SqL.of mh⟩,hp,T.ai,T.aq,(szR Y),λq hq=>?_⟩;have s1:Same H (upd H q (.tup [V.str x,V.ref sc])):=Same.new hq;have h1:(upd H q (.tup [V.str x,V.ref sc])) q=some (.tup [V.str x,V.ref sc]):=Zc;refine ⟨st,_,_,Y,Y,s1 _ _ mh,Zo (by lia),?_⟩;refine j5 _ _ ?_;generalize upd H q (.tup [V.str x,V.ref sc])=H1 at s1 h1 ⊢;have hqs:q≠st:=λz=>by rw [z,mh] at hq; cases hq
  have hqp:q≠p:=λz=>by rw [z,hp] at hq; cases hq
  have p2:(upd H1 st (.lst (l ++ [V.ref q]))) p=some (.ins t.ag dx (du:)):=by rw [Ze z9]; exact s1 _ _ hp
  have q2:(upd H1 st (.lst (l ++ [V.ref q]))) q=some (.tup [V.str x,V.ref sc]):=by rw [Ze hqs]; exact h1
  have t2:(upd H1 st (.lst (l ++ [V.ref q]))) st=some (.lst (l ++ [V.ref q])):=Zc;have o2:∀ b u,b≠p->b≠st->H b=some u->(upd H1 st (.lst (l ++ [V.ref q]))) b=some u:=λb u _ h2 e=>by rw [Ze h2]; exact s1 _ _ e
  generalize upd H1 st (.lst (l ++ [V.ref q]))=H2 at p2 q2 t2 o2 ⊢;refine Zw λky j5=>?_;refine ⟨Az _,λoz pe=>?_⟩;have s3:Same H2 (upd H2 oz (.lst [])):=Same.new pe;have u3:(upd H2 oz (.lst [])) oz=some (.lst []):=Zc
  have yt:H oz=none:=by
   cases e:H oz with
   | none=>rfl
   | some u =>
    have hne1:oz≠p:=λz=>by rw [z,p2] at pe; cases pe
    have uj:oz≠st:=λz=>by rw [z,t2] at pe; cases pe
    rw [o2 _ _ hne1 uj e] at pe;cases pe
  refine ⟨p,_,dx,_,Y,s3 _ _ p2,T.ai,T.cS,Zmp _ _ _ _,?_⟩;rw [Zt6];refine j5 _ _ ?_;have xv:oz≠p:=λz=>by rw [z,p2] at pe; cases pe
  refine ⟨p,_,dx,_,Y,Zc,T.ai,T.aq,Zmp _ _ _ _,?_⟩;rw [Zt7,Wt];refine k q oz _ hq yt (λb u b1 b2 e=>?_) Zc ?_ ?_ ?_
  ·rw [Ze b1]; exact s3 _ _ (o2 b u b1 b2 e)
  ·rw [Ze (Ne.symm z9)]; exact s3 _ _ t2
  ·rw [Ze hqp]; exact s3 _ _ q2
  ·rw [Ze xv]; exact u3
def Xf {t u:TSX} {D:Ends} {R:Value->St->Hp->Prop} {σ:St} {H:Hp} (ur:St->Hp->Prop) (ht:∀ nx:St->Hp->Prop,(∀ σ H,ur σ H->nx σ H)->t { D with nx:=nx } R σ H) (hu:∀ σ H,ur σ H->u D R σ H):Zjc t u D R σ H:=ht (u D R) hu
def Zuf (H H':Hp):Prop:=∀ b u,(∀ kvs,u≠.dK kvs)->H b=some u->H' b=some u
def Z4.sameD (h:Z4 C H p M ns) (s:Zuf H H'):Z4 C H' p M ns:=by
 obtain ⟨dx,cl,na,sp,mt,o,f,b⟩:=h;obtain ⟨ts,r1,r2,r3⟩:=b.rows;exact ⟨dx,cl,na,sp,mt,o,f,s _ _ (d2:) b.ins,⟨ts,s _ _ (d2:) r1,r2,λk t e=>s _ _ (d2:) (r3 k t e)⟩,s _ _ (d2:) b.names,s _ _ (d2:) b.spots,s _ _ (d2:) b.mates,λx hx=>s _ _ (d2:) (b.at' x hx)⟩
def Ox (H:Hp) (c:Addr) (ns:List Int) (g:Int->Int):Prop:=∃ ks:List Int,H c=some (eg:)/\ks.Perm (o:)
def Ox.same (h:Ox H c ns g) (s:Same H H'):Ox H' c ns g:=by
 obtain ⟨ks,h1,h2⟩:=h;exact ⟨ks,s _ _ h1,h2⟩
noncomputable def g3 (ns:List Int) (g:Int->Int) (k:Nat):List Int:=[g (ns.getD (3 * k) 0),g (ns.getD (3 * k + 1) 0),g (ns.getD (3 * k + 2) 0)]
def Vy {ns:List Int} (h:i < ns.length):ns.getD i 0∈keys ns ns.length:=by
 have e:ns[i]?=some (ns.getD i 0):=by rw [Ad,Ac h]; rfl
 exact Y8.mpr ⟨i,h,e⟩
def Zt9 {ns:List Int} {j:Nat} (h:(row3 ns i)[j]?=some x):∃ z,(3 * i + 2 < ns.length->z∈keys ns ns.length)/\x=V.int z/\(g3 ns g i)[j]?=some (g z):=by
 match j,h with
 | 0,h=>cases h; exact ⟨_,λh=>Vy (by lia),Y,Y⟩
 | 1,h=>cases h; exact ⟨_,λh=>Vy (by lia),Y,Y⟩
 | 2,h=>cases h; exact ⟨_,λh=>Vy h,Y,Y⟩
 | j + 3,h=>simp [row3] at h
def Zmr {us:List Addr} (h:some (HO.lst (us.map V.ref))=some (HO.lst ((g3 ns g k).map V.int))):False:=by
 injection h with h
 injection h with h
 cases us with
 | nil=>cases h
 | cons a r=>injection h with h _; cases h
def Xt (h:H c=some (eg:)) (hz:z∈ks):DGet H c (.int z) (some (.int (g z))):=.inl ⟨_,Sum.inl z,.inl h,rfl,(Zm3 hz).symm⟩
def Zkh {d:Addr} {kvs:List (Key × V)} {o:Obj} {g:TG} {tb:TSX} {R:Value->St->Hp->Prop} {D:Ends} {σ:St} {H:Hp} (Pv:Nat->St->Hp->Prop) (h0:Pv 0 σ H) (hl:∀ i σ H,i<=kvs.length->Pv i σ H->H d=some (ae:))
  (hs:∀ i k x σ H q,kvs[i]?=some (k,x)->H q=none->Pv i σ H->g (.ref q) σ (upd H q (.tup [kV k,x])) λσ2 H2=>tb { D with nx:=Pv (i + 1),ct:=Pv (i + 1),bk:=D.nx } R σ2 H2) (hd:∀ σ H,Pv kvs.length σ H->D.nx σ H) :
  ∃ W:Nat->Nat->St->Hp->Prop,(de:)/\∀ i m σ H,W i m σ H ->
   ((Itm2 d kvs o).stop i H/\D.nx σ H)\/((Itm2 d kvs o).go i H/\∃ N:St->Hp->Prop,(q:)/\∀ x H',(Itm2 d kvs o).yld i H x H'->g x σ H' λσ2 H2=>tb { D with nx:=N,ct:=N,bk:=D.nx } R σ2 H2) :=
 Zdk (tb:=λD' σ' H'=>tb D' R σ' H') Pv h0 hl hs hd
noncomputable def odB (ns:List Int) (g:Int->Int) (k:Nat):Bool:=decide (V.int ((g3 ns g k).sum % 2)=V.int 1)
noncomputable def wdB (ns:List Int) (g:Int->Int) (k:Nat):Bool:=(g3 ns g k).any λm=>decide ((g3 ns g k).sum < 2 * m)
def Zkp {ns:List Int} {g:Int->Int} {k:Nat} {m:Int} (hm:m∈g3 ns g k) (hx:∀ a∈g3 ns g k,a<=m):decide ((g3 ns g k).sum < 2 * m)=wdB ns g k:=by
 unfold wdB;rw [Bool.eq_iff_iff,decide_eq_true_eq,any_eq_true];exact ⟨λh=>⟨m,hm,decide_eq_true h⟩,λ⟨a,ha,h⟩=>by have:=hx a ha; have:=of_decide_eq_true h; lia⟩
def Zbz {n:Nat} {f:Nat->Bool}:((List.range n).map f).any id=true ↔ ∃ k,k < n/\f k=true:=by
 rw [any_map,any_eq_true];refine ⟨λzz51=>?_,λ⟨k,h1,h2⟩=>⟨k,mem_range.mpr h1,h2⟩⟩;obtain ⟨k,h1,h2⟩:=zz51;exact ⟨k,mem_range.mp h1,h2⟩
def rimN (ns:List Int) (g:Int->Int):Prop:=∃ x∈keys ns ns.length,0 < g x/\Zu ns x="rim"
structure CntR (t:Adr) (ns ks:List Int) (g:Int->Int) (E:XK) (Q:Prop):Prop where
 nn:∀ x∈ks,0<=g x
 no:¬ ks.Perm (o:)->∀ H',E (.ref t.aF) none H'
 rim:ks.Perm (o:)->rimN ns g->∀ H',E (.ref t.aF) none H'
 odd:ks.Perm (o:)->¬ rimN ns g->(∃ k,k < ns.length / 3/\odB ns g k=true)->∀ H',E (.ref t.b9) none H'
 wide:ks.Perm (o:)->¬ rimN ns g->(¬ ∃ k,k < ns.length / 3/\odB ns g k=true)->(∃ k,k < ns.length / 3/\wdB ns g k=true)->∀ H',E (.ref t.fQ) none H'
 ok:ks.Perm (o:)->¬ rimN ns g->(¬ ∃ k,k < ns.length / 3/\odB ns g k=true)->(¬ ∃ k,k < ns.length / 3/\wdB ns g k=true)->Q
def Zhd (t:Adr):Sp:=λvs H Q E=>∃ (p c:Addr) (M:Lq) (ns ks:List Int) (g:Int->Int),vs=[.ref p,.ref c]/\Z4 t.aa H p M ns/\TD M ns/\ns.length < 64/\H c=some (eg:)/\ks.length < 64/\(∀ x∈ks,0<=g x)/\(¬ ks.Perm (o:)\/rimN ns g->∀ H',E (.ref t.aF) none H')/\(ks.Perm (o:)->¬ rimN ns g->∀ H',Same H H'->Q .non H')
def Zb4 (t:Adr):Sp:=λvs H Q E=>∃ (p c:Addr) (M:Lq) (ns ks:List Int) (g:Int->Int),vs=[.ref p,.ref c]/\Z4 t.aa H p M ns/\TD M ns/\ns.length < 64/\H c=some (eg:)/\ks.length < 64/\CntR t ns ks g E (∀ H',Same H H'->Q .non H')
def J4:FnScope ["tent","counts","seam","number"] ["tent","counts"] (Zg Uk):=Am
def Zbg (T:Txt w K mg t):(a:) 3 t.bX t.cg ["tent","counts"] (Zhd t):=by
 refine T.cq.F.okL J4 (λvs H Q E h=>?_) (b:)
 ·obtain ⟨p,c,M,ns,ks,g,rfl,_⟩:=h
  rfl
 ·obtain ⟨p,c,M,ns,ks,g,rfl,ta,td,k9,hc,l9,nn,kN,kQ⟩:=h
  refine ⟨_,(λ_ L=>(Wb (Jc L (Y9 (Zs (Zly hr.units) (Yg (Jf Y) (by rfl) T.bu PyProof.Rows.boot_sorted (A:)) (Oi (pv 0) T.ae T.aI.m (O7 T) (ai:) T.aI.b .nil Yv) (Zn _)) (Zr (Yo T.c5 FBV Y T.bc Y (bl:))) Yy))
   (Og (Zn2 (Zie L rfl (Qj (pv 1) ⟨rfl,rfl,rfl⟩) (Wr rfl (Zq (pgN 2 J4.nd) (Zq (pgN 3 J4.nd) Ym))) (Wb (Jc L (Y9 (Zs Jr (pv 3) Zd (Zn _)) (Zr (Yo T.c5 FBV rfl T.bc rfl (bl:))) Yy))
   (Og (Jc L (Y9 (PW.pt (Kt (Zs J6 (pv 3) Zd (Zn _)) (Up (Zs Yf (Xr (pv 0) T.ae T.ak.m (W5 T) (ai:) T.ak.b .nil Yv (y:)) Zj (Zn _))))) (Zr (Yo T.c5 FBV rfl T.bc rfl (bl:))) Yy))))))))),?_⟩;refine Xf (λσ H'=>σ=[oR p,oR c,none,none]/\Same H H'/\ks.Perm (o:)) (D:) ?_
  ·refine ⟨c,_,ks,Y,.inl hc,(by unfold dI; rw [map_map]; rfl),l9,λl1 ka ly vc qk=>?_⟩
   have s1:Same H (bm:):=Same.new ly;have ux:=ta.same s1;obtain ⟨dx,cl,na,sp,mt,o,f,B⟩:=id ux;refine ⟨B.ins,Y1 _ _ _ _,p,M,ns,Y,ux,k9,λl2 kh nj pm2 mf=>?_⟩;have s2:Same (bm:) (upd (bm:) l2 (.lst (kh.map V.int))):=Same.new nj;refine ⟨l1,l2,ka,kh,Y,Y,SqL.of (s2 _ _ Zc),SqL.of Zc,?_⟩;by_cases e:ka=kh
   ·rw [decide_eq_true e]
    exact iteF (kc _ _ ⟨Y,s1.trans s2,vc.symm.trans (e ▸ pm2)⟩)
   ·rw [decide_eq_false e]
    exact iteT ⟨by decide,kN (.inl λz=>e (Kd (vc.trans z) pm2 qk mf)) _⟩
  rintro σ H2 ⟨rfl,s2,mw⟩;have vq:=s2 _ _ hc;have va:=ta.same s2;refine ⟨c,_,Y,.inl ⟨vq,λo=>?_⟩⟩;refine Zkh (λi σ H9=>∃ v2 v3:Option V,σ=[oR p,oR c,v2,v3]/\(∀ b u,b≠c->H2 b=some u->H9 b=some u)/\H9 c=some (.frz o (eg:))/\∀ y∈ks.take i,0 < g y->Zu ns y≠"rim") ⟨none,none,rfl,λb u hb e=>by rw [Ze hb]; exact e,Zc,λy hy=>by cases hy⟩ ?_ ?_ ?_
  ·rintro i σ H9 _ ⟨v2,v3,rfl,_,e,_⟩
   exact e
  ·rintro i k0 x0 σ H9 q pd hq ⟨v2,v3,rfl,s9,h9,hn⟩
   obtain ⟨y,hy,hyi,rfl,rfl⟩:∃ y,y∈ks/\ks[i]?=some y/\k0=Sum.inl y/\x0=V.int (g y):=by
    unfold dI at pd;rw [Ah] at pd
    cases e:ks[i]? with
    | none=>rw [e] at pd; cases pd
    | some z=>rw [e] at pd; cases pd; exact ⟨z,Au e,Y,Y,Y⟩
   have vg:y∈keys ns ns.length:=mw.mem_iff.mp hy;have hg0:=nn y hy;have sq:Same H9 (upd H9 q (.tup [kV (Sum.inl y),V.int (g y)])):=Same.new hq;have taq:Z4 t.aa (upd H9 q (.tup [kV (Sum.inl y),V.int (g y)])) p M ns:=(va.sameD (λb u hu e=>s9 b u (λz=>by rw [z,vq] at e; cases e; exact hu _ Y) e)).same sq;have snoc:(0 < g y->Zu ns y≠"rim")->∀ z∈ks.take (i + 1),0 < g z->Zu ns z≠"rim":=λhh z hz=>by
    rw [Aw,hyi] at hz
    rcases mem_append.mp hz with z' | z'
    ·exact hn z z'
    ·have:z=y:=by simpa using z'
     rw [this]; exact hh
   refine ⟨q,_,Y,SqT.of Zc,Y,_,_,Y,_,_,Y,Y,?_⟩;refine iteN (show ¬ g y < 0 from by lia) ((ite2 (λz=>?_) (λz=>iteF ⟨_,_,Y,λb u hb e=>sq _ _ (s9 b u hb e),sq _ _ h9,snoc λh=>absurd (decide_eq_true h) z⟩)));have hg1:0 < g y:=of_decide_eq_true z;obtain ⟨dx,cl,na,sp,mt,o',f,B⟩:=id taq;refine ⟨B.ins,Y1 _ _ _ _,p,M,ns,y,Y,taq,td,λ_ H' s'=>?_,λz=>absurd vg z⟩;refine ⟨Y,?_⟩;by_cases e:Zu ns y="rim"
   ·rw [e,decide_eq_true rfl]
    exact iteT ⟨by decide,kN (.inr ⟨y,vg,hg1,e⟩) _⟩
   ·rw [Ug e]
    exact iteF ⟨_,_,Y,λb u hb e=>s' _ _ (sq _ _ (s9 b u hb e)),s' _ _ (sq _ _ h9),snoc λ_=>e⟩
  ·rintro σ H9 ⟨v2,v3,rfl,s9,h9,hn⟩
   rw [U4,take_length] at hn;refine ⟨c,o,_,h9,λo' u z=>?_,?_⟩
   ·have z:H c=some (.frz o' u):=z
    rw [hc] at z; cases z
   ·refine kQ mw (λ⟨x,hx,h1,h2⟩=>hn x (mw.mem_iff.mpr hx) h1 h2) _ λb u e=>?_
    by_cases hb:b=c
    ·subst hb
     rw [Zc];rw [hc] at e; exact e
    ·rw [Ze hb]
     exact s9 b u hb (s2 b u e)
def Uh:FnScope ["tent","counts","triples"] ["tent","counts"] (Zg O1):=Am
def Zck (T:Txt w K mg t):(a:) 4 t.cH t.cO ["tent","counts"] (Zb4 t):=by
 refine T.cU.F.aX Uh (b:)
 ·obtain ⟨p,c,M,ns,ks,g,rfl,ta,td,k9,hc,l9,R⟩:=h
  have hu:=Xh hr;refine ⟨_,(Zp (Yt (pxT (Zbg T) hr T.cq (Za (pv 0) (A:))))
   (Zp (Z1 (Xm (ts:=["row"]) (fv:=[("counts",1)]) (i:=2) (e:) rfl Uh.nd rfl rfl (by rfl) (Yh (Oi (pv 0) T.ae T.aO.m (K3 T) (ai:) T.aO.b .nil Yv)) (ab:) (Q:) (K:) (λ_ _ _ _ _ _=>Yb (Yn (ts:=["seam"]) (fv:=[("counts",1)]) (e:) rfl (Zci K (pv 0)) (ab:) (Q:) (K:) (λ_ _ _ _ _ _=>Yb (Y3 hu (pv 1) (pv 0) (j:)))))))
   (Zp (Y9 (Jn (Yg (Zdr rfl) (by rfl) T.jO PyProof.Rows.boot_any (Za (Yn (ts:=["triple"]) (fv:=[]) (i:) rfl (Yh (pv 2)) (aw:) (Q:) (K:) (λ_ _ _ _ _ _=>Yb (Y4 Yf (Zi Z7 (Yg (Zbx K rfl) (by rfl) T.jP PyProof.Rows.boot_sum (w:)) Zd) Zd (Zn _)))) Zb))) (Zr (Yo T.jE FBV rfl T.hX rfl (bl:))) Yy)
   (Zr (Y9 (Jn (Yg (Zdr rfl) (by rfl) T.jO PyProof.Rows.boot_any (Za (Yn (ts:=["triple"]) (fv:=[]) (i:) rfl (Yh (pv 2)) (aw:) (Q:) (K:) (λ_ _ _ _ _ _=>Yb (Y4 J6 (Zi Wy Zd (Yg (Zkl K rfl) (by rfl) T.iY PyProof.Rows.boot_max (w:))) (Yg (Zbx K rfl) (by rfl) T.jP PyProof.Rows.boot_sum (w:)) (Zn _)))) Zb))) (Zr (Yo T.jV FBV rfl T.jn rfl (bl:))) Yy))))),?_⟩
  refine Xf (λσ H'=>σ=[oR p,oR c,none]/\Same H H'/\ks.Perm (o:)/\¬ rimN ns g) (D:) ?_
  ·exact ⟨p,c,M,ns,ks,g,Y,ta,td,k9,hc,l9,R.nn,λz H'=>(Classical.em (ks.Perm (o:))).elim (λpm=>R.rim pm (z.resolve_left λq=>q pm) H') (λnp=>R.no np H'),λpm nr H' s'=>kc _ _ ⟨Y,s',pm,nr⟩⟩
  rintro σ H1 ⟨rfl,s1,pm,nr⟩;have ux:=ta.same s1;obtain ⟨n,n1,wn,hn⟩:=td.n;have pi:=td.len;have pf:ns.length / 3=n:=by lia
  refine Xf (λσ H'=>∃ (D:Addr) (us:List Addr),σ=[oR p,oR c,oR D]/\Same H1 H'/\H' D=some (.lst (us.map V.ref))/\us.length=n/\∀ (k:Nat) (u:Addr),us[k]?=some u->H' u=some (.lst ((g3 ns g k).map V.int))) (D:) ?_
  ·obtain ⟨dx,cl,na,sp,mt,o,f,B⟩:=id ux
   refine ⟨B.ins,Y1 _ _ _ _,p,M,ns,Y,ux,λlr ts hlr ts1 ts2=>?_⟩;have s2:Same H1 (upd H1 lr (a3:)):=Same.new hlr;have h2:(upd H1 lr (a3:)) lr=some (a3:):=Zc;have h2t:∀ (k:Nat) (t:Addr),ts[k]?=some t->(upd H1 lr (a3:)) t=some (.tup (row3 ns k)):=λk t e=>s2 _ _ (ts2 k t e);generalize upd H1 lr (.lst (ts.map V.ref))=H2 at s2 h2 h2t ⊢;refine ⟨lr,Y,⟨_,SqL.of h2⟩,λD hD=>?_⟩;have vq:=s2 _ _ (s1 _ _ hc);clear B ts2 hlr;have qm:ts.length=n:=by lia
   refine Yc (xs:=ts.map V.ref) (λi σ H3=>∃ (v:Option V) (us:List Addr),σ=[v,oR c]/\Same H2 H3/\H3 D=some (.lst (us.map V.ref))/\us.length=i/\∀ (k:Nat) (u:Addr),us[k]?=some u->H3 u=some (.lst ((g3 ns g k).map V.int))) ⟨none,[],Y,Same.new hD,Zc,Y,λk u e=>by simp at e⟩ ?_ ?_ ?_
   ·rintro i σ H3 _ ⟨v,us,rfl,sm,_⟩
    exact SqL.of (sm _ _ h2)
   ·rintro i y σ H3 hy ⟨v,us,rfl,sm,h3,vj,rg⟩
    obtain ⟨q,hq,rfl⟩:=map_some hy;have hi:i < n:=by rw [<- qm]; exact (Aa hq).1
    dsimp only [Zm,tYes];rw [if_pos rfl];have z8:=sm _ _ (h2t i q hq);refine ⟨q,Y,⟨_,SqT.of z8⟩,λD2 md=>On (xs:=row3 ns i) (λj σ H4=>∃ (v':Option V),σ=[v',oR c]/\Same H3 H4/\H4 D2=some (.lst (((g3 ns g i).take j).map V.int))) ⟨none,Y,Same.new md,Zc⟩ ?_ ?_ ?_⟩
    ·rintro j σ H4 _ ⟨v',rfl,uz,h4⟩
     exact SqT.of (uz _ _ z8)
    ·rintro j x σ H4 hx ⟨v',rfl,uz,h4⟩
     dsimp only [Zm,tYes];rw [if_pos rfl];obtain ⟨z,hz,rfl,hg⟩:=Zt9 (g:=g) hx;have hzk:z∈ks:=pm.mem_iff.mpr (hz (by lia));refine ⟨c,_,Y,Xt (uz _ _ (sm _ _ vq)) hzk,_,h4,?_,_,Y,Same.add uz md,?_⟩
     ·rw [Ab,Ai]
      exact Zo (by have:(g3 ns g i).length=3:=rfl; lia)
     ·rw [Zc,Aw,hg]
      simp
    ·rintro σ H4 ⟨v',rfl,uz,h4⟩
     have yk:H4 D2=some (.lst ((g3 ns g i).map V.int)):=h4;refine ⟨_,uz _ _ h3,(cv:),_,us ++ [D2],Y,Same.add (sm.trans uz) hD,?_,?_,?_⟩
     ·rw [Zc]; simp
     ·rw [Ae,At,vj]
     ·intro k u z
      by_cases hk:k < us.length
      ·rw [Av hk] at z
       have gg:=uz _ _ (rg k u z);rw [Ze (λe=>by rw [e,uz _ _ h3] at gg; exact Zmr gg)];exact gg
      ·have yg:k=us.length:=by
        have:=(Aa z).1;rw [Ae,At] at this;lia
       subst yg;have:u=D2:=by simpa using z.symm
       subst this;rw [vj,Ze (λe=>by rw [e,uz _ _ h3] at yk; exact Zmr yk)];exact yk
   rintro σ H3 ⟨v,us,rfl,sm,h3,vj,rg⟩;rw [Ab] at vj;exact kc _ _ ⟨D,us,Y,s2.trans sm,h3,by lia,rg⟩
  rintro σ H3 ⟨D,us,rfl,sm,h3,vj,rg⟩;refine Xf (λσ H'=>σ=[oR p,oR c,oR D]/\Same H3 H'/\¬ ∃ k,k < ns.length / 3/\odB ns g k=true) (D:) ?_
  ·refine ⟨D,Y,⟨_,SqL.of h3⟩,λD1 vy=>?_⟩
   refine Yc (xs:=us.map V.ref) (λi σ H4=>∃ (v:Option V),σ=[v]/\Same H3 H4/\H4 D1=some (.lst (((List.range i).map (odB ns g)).map V.bl))) ⟨none,Y,Same.new vy,Zc⟩ ?_ ?_ ?_
   ·rintro i σ H4 _ ⟨v,rfl,s4,_⟩
    exact SqL.of (s4 _ _ h3)
   ·rintro i y σ H4 hy ⟨v,rfl,s4,h4⟩
    obtain ⟨u,hu0,rfl⟩:=map_some hy;have hi:i < us.length:=(Aa hu0).1;dsimp only [Zm,tYes];rw [if_pos rfl];refine ⟨u,_,Y,SqL.of (s4 _ _ (rg i u hu0)),(by show (0:Int) < 2; decide),rfl,?_⟩;refine ⟨_,h4,(by rw [Ab,Ab,length_range]; exact Zo (by lia)),_,Y,Same.add s4 vy,?_⟩;rw [Zc,range_succ,Aj,Aj];rfl
   rintro σ H4 ⟨v,rfl,s4,h4⟩;rw [Ab] at h4;refine ⟨D1,_,Y,SqL.of h4,(ite2 (λz=>⟨by decide,R.odd pm nr (by rw [pf,<- vj]; exact Zbz.mp z) _⟩) (λz=>kc _ _ ⟨Y,s4,λq=>z (Zbz.mpr (by rw [pf,<- vj] at q; exact q))⟩))⟩
  rintro σ H4 ⟨rfl,s4,no⟩;have h34:=s4 _ _ h3;refine ⟨D,Y,⟨_,SqL.of h34⟩,λD1 vy=>Yc (xs:=us.map V.ref) (λi σ H5=>∃ (v:Option V),σ=[v]/\Same H4 H5/\H5 D1=some (.lst (((List.range i).map (wdB ns g)).map V.bl))) ⟨none,Y,Same.new vy,Zc⟩ ?_ ?_ ?_⟩
  ·rintro i σ H5 _ ⟨v,rfl,s5,_⟩
   exact SqL.of (s5 _ _ h34)
  ·rintro i y σ H5 hy ⟨v,rfl,s5,h5⟩
   obtain ⟨u,hu0,rfl⟩:=map_some hy;have hi:i < us.length:=(Aa hu0).1;dsimp only [Zm,tYes];rw [if_pos rfl];have hu5:=s5 _ _ (s4 _ _ (rg i u hu0));refine ⟨u,_,Y,SqL.of hu5,(by show 0 < 3; decide),λm hm hmx=>⟨(by show CMul 2 m; exact .inl ⟨by decide,by decide⟩),u,_,Y,SqL.of hu5,?_⟩⟩;refine ⟨_,h5,(by rw [Ab,Ab,length_range]; exact Zo (by lia)),_,Y,Same.add s5 vy,?_⟩;rw [Zc,range_succ,Aj,Aj];show some (HO.lst (_ ++ [V.bl (decide ((g3 ns g i).sum < 2 * m))]))=_;rw [Zkp hm hmx];rfl
  rintro σ H5 ⟨v,rfl,s5,h5⟩;rw [Ab] at h5;refine ⟨D1,_,Y,SqL.of h5,?_⟩;exact ite2 (λz=>⟨by decide,R.wide pm nr no (by rw [pf,<- vj]; exact Zbz.mp z) _⟩) (λz=>R.ok pm nr no (λq=>z (Zbz.mpr (by rw [pf,<- vj] at q; exact q))) _ (s1.trans (sm.trans (s4.trans s5))))
noncomputable def R2 (H:Hp) (p st:Addr):Hp:=λb=>if b=p\/b=st then none else H b
def R2.at {H:Hp} {p st b:Addr} {u:HO} (e:H b=some u) (h1:b≠p) (h2:b≠st):R2 H p st b=some u:=by
 unfold R2;rw [if_neg (λz=>z.elim h1 h2)];exact e
def R2.le {H:Hp} {p st b:Addr} {u:HO} (e:R2 H p st b=some u):b≠p/\b≠st/\H b=some u:=by
 unfold R2 at e;by_cases z:b=p\/b=st
 ·rw [if_pos z] at e; cases e
 ·rw [if_neg z] at e; exact ⟨λy=>z (.inl y),λy=>z (.inr y),e⟩
def R2.out {H:Hp} {p st b:Addr} (h:b=p\/b=st):R2 H p st b=none:=by unfold R2; rw [if_pos h]
def Zcd {H H':Hp} {p st:Addr} (s:Same H H') (h1:H p=none) (h2:H st=none):Same H (R2 H' p st):=λb u e =>
 R2.at (s b u e) (λz=>by rw [z,h1] at e; cases e) (λz=>by rw [z,h2] at e; cases e)
structure HL (t:Adr) (H H0:Hp) (p st dx be sc un lf:Addr) (te wo:V) (th po:Addr) (L:List (Str × V)) (qs:List Addr):Prop where
 ins:H p=some (.ins t.ag dx (du:))
 sta:H st=some (.lst (qs.map V.ref))
 low:Same H0 H
 np:H0 p=none
 nst:H0 st=none
 scn:H0 sc=some (.ins t.ah lf (X9 te (.ref th) (.ref po) wo))
 thr:H0 th=some (.dK [])
 poo:H0 po=some (.dK (dS L))
 old:∀ q∈qs,∃ x v,H0 q=some (.tup [.str x,v])
def Frs (t:Adr) (H0:Hp) (te wo:V) (L:List (Str × V)) (M:Lq) (ns ks:List Int):Prop:=∃ lq m9:Addr,te=.ref lq/\wo=.ref m9/\Z4 t.aa H0 lq M ns/\WAt H0 m9 ks (λ_=>(1,1))/\∀ kv∈L,∃ (c:Addr) (g:Int->Int),kv.2=.ref c/\Ox H0 c ns g
def Frs.same {t:Adr} {H H':Hp} {te wo:V} {L:List (Str × V)} {M:Lq} {ns ks:List Int} (h:Frs t H te wo L M ns ks) (s:Same H H'):Frs t H' te wo L M ns ks:=by
 obtain ⟨a,b,e1,e2,h1,h2,h3⟩:=h;exact ⟨a,b,e1,e2,h1.same s,h2.same s,λkv hk=>by obtain ⟨c,g,e,h⟩:=h3 kv hk; exact ⟨c,g,e,h.same s⟩⟩
structure HZ (t:Adr) (H H0:Hp) (p st:Addr) (M:Lq) (ns ks:List Int) (l:List Str) (n:Nat) (fr:Bool):Prop where
 ex:∃ (dx be sc un lf:Addr) (te wo:V) (th po:Addr) (L:List (Str × V)) (qs:List Addr),HL t H H0 p st dx be sc un lf te wo th po L qs/\L.map (·.1)=l/\qs.length=n/\(fr=true->Frs t H0 te wo L M ns ks)
section
variable {t:Adr} {H H0 H7:Hp} {p st dx be sc un lf:Addr} {te wo:V} {th po:Addr} {L:List (Str × V)} {qs:List Addr}
def HL.same (B:HL t H H0 p st dx be sc un lf te wo th po L qs) (s:Same H H7):HL t H7 H0 p st dx be sc un lf te wo th po L qs:=⟨s _ _ B.ins,s _ _ B.sta,B.low.trans s,B.np,B.nst,B.scn,B.thr,B.poo,B.old⟩
def R2.mono (s:Same H H7):Same (R2 H p st) (R2 H7 p st):=λb u e=>by
 obtain ⟨n1,n2,e⟩:=R2.le e;exact R2.at (s _ _ e) n1 n2
def HL.entr {H8:Hp} (B:HL t H H0 p st dx be sc un lf te wo th po L qs) (s:Same H H8) (hn:qs.length<=800) {lq m9:V} {x dy qj ow:Addr} {L':List (Str × V)} {rr:Str} {M:Lq} {ns ks:List Int} {fr:Bool} {Q:VK} {E:XK} (c8:H8 x=some (bp:)) (nx:x≠p) (h1:H8 qj=some (.dK [])) (h2:H8 ow=some (.dK (dS L')))
  (hf:fr=true->Frs t (R2 H8 p st) lq m9 L' M ns ks) (k:∀ H' lu,Same H0 lu->HZ t H' lu p st M ns ks (L'.map (·.1)) (qs.length + 1) fr->Q .non H'):Q3 t.ag [.ref p,.str rr,.ref x] H8 Q E:=by
 have C:=B.same s;have nx2:x≠st:=λz=>by rw [z,C.sta] at c8; cases c8
 refine ⟨p,dx,be,sc,st,un,x,rr,qs.map V.ref,Y,C.ins,C.sta,by rw [Ab]; lia,λq oz H9 hq hu o9 p9 st9 q9 u9=>?_⟩;have nq:q≠p/\q≠st:=⟨λz=>(by rw [z,C.ins] at hq; cases hq),λz=>(by rw [z,C.sta] at hq; cases hq)⟩;have re:Same (R2 H8 p st) (R2 H9 p st):=λb u e=>by
  obtain ⟨n1,n2,e⟩:=R2.le e
  exact R2.at (o9 b u n1 n2 e) n1 n2
 have s09:Same H0 (R2 H9 p st):=(Zcd (B.low.trans s) B.np B.nst).trans re;have dne:∀ {b kvs},H8 b=some (.dK kvs)->R2 H9 p st b=some (.dK kvs):=λe=>re _ _ (R2.at e (λz=>(by rw [z,C.ins] at e; cases e)) (λz=>(by rw [z,C.sta] at e; cases e)));refine k H9 _ s09 ⟨dx,be,x,oz,dy,lq,m9,qj,ow,L',qs ++ [q],⟨p9,by rw [st9,Aj]; rfl,λb u e=>(R2.le e).2.2,R2.out (.inl rfl),R2.out (.inr rfl),re _ _ (R2.at c8 nx nx2),dne h1,dne h2,λq' my=>?_⟩,rfl,by rw [Ae]; rfl,λe=>(hf e).same re⟩
 rcases mem_append.mp my with z | z
 ·obtain ⟨x',v,e⟩:=B.old q' z
  exact ⟨x',v,s09 _ _ e⟩
 ·rw [Af z]
  exact ⟨rr,_,R2.at q9 nq.1 nq.2⟩
def HL.deed (B:HL t H H0 p st dx be sc un lf te wo th po L qs) (s:Same H H7) (hn:qs.length<=800) {lq m9:V} {qj ow:Addr} {L':List (Str × V)} {rr:Str} {M:Lq} {ns ks:List Int} {fr:Bool} {Q:VK} {E:XK} (h1:H7 qj=some (.dK [])) (h2:H7 ow=some (.dK (dS L')))
  (hf:fr=true->Frs t (R2 H7 p st) lq m9 L' M ns ks) (k:∀ H' lu,Same H0 lu->HZ t H' lu p st M ns ks (L'.map (·.1)) (qs.length + 1) fr->Q .non H') :
  ∀ x dy,H7 x=none->H7 dy=none->dy≠x->Oy t.ah [.ref x,lq,.ref qj,.ref ow,m9] (upd (upd H7 dy (.own x)) x (.ins t.ah dy [])) (λv H8=>v=.non/\Q3 t.ag [.ref p,.str rr,.ref x] H8 Q E) E:=by
 intro x dy hx hy kq;refine ⟨x,dy,_,_,_,_,Y,Zc,Y,?_⟩;rw [Wt];have s8:Same H7 (upd (upd H7 dy (.own x)) x (bp:)):=Same.add (Same.new hy) hx;have c8:(upd (upd H7 dy (.own x)) x (bp:)) x=some (bp:):=Zc;generalize upd (upd H7 dy (.own x)) x (.ins t.ah dy (X9 lq (.ref qj) (.ref ow) m9))=H8 at s8 c8 ⊢;exact B.entr (s.trans s8) hn c8 (λz=>by rw [z,s _ _ B.ins] at hx; cases hx) (s8 _ _ h1) (s8 _ _ h2) (λe=>(hf e).same (R2.mono s8)) k
end
def Zsv {be sc st un cl na sp mt:Addr}:Xy be sc st un≠X7 cl na sp mt:=λe=>by
 have e1:(du:).map (·.1)=(X7 cl na sp mt).map (·.1):=by rw [e]
 have e2:(du:).map (·.1)=(Xy 0 0 0 0).map (·.1):=rfl;have e3:(X7 cl na sp mt).map (·.1)=(X7 0 0 0 0).map (·.1):=rfl;rw [e2,e3] at e1;exact absurd e1 (c:)
def Zbm {α:Type} {g:α->V} {xs:List α} (h:xs≠[]):HO.lst (xs.map g)≠.lst []:=λe=>by
 injection e with e
 exact h (map_eq_nil_iff.mp e)
def Zs8 {M:Lq} {ns:List Int} (td:TD M ns):ns≠[]:=λz=>by
 obtain ⟨n,h1,_,h2⟩:=td.n;have:=td.len;rw [z,length_nil] at this;lia
def HallNew.hl {t:Adr} {H H1:Hp} {p dx be sc st un lf th po wo:Addr} {M:Lq} {ns ks:List Int} (td:TD M ns) (h:HallNew t.aa t.ah t.ag H p M ns dx be sc st un lf th po wo ks) (s:∀ b u,b≠p->H1 b=some u->H b=some u) (h1:H1 p=none) (h2:H1 st=none):Same H1 (R2 H p st)/\HZ t H (R2 H p st) p st M ns ks [] 0 true:=by
 have kq:=Zs8 td;have kp:∀ {b:Addr} {u:HO},H b=some u->(∀ C d f,u≠.ins C d f)->u≠.lst []->R2 H p st b=some u:=λ{b u} e c1 c2=>R2.at e (λz=>by rw [z,h.ins] at e; exact c1 _ _ _ (Ax e).symm) (λz=>by rw [z,h.sta] at e; exact c2 (Ax e).symm);have ki:∀ {b C d:Addr} {f:List (Str × V)},H b=some (.ins C d f)->(∀ be sc st un,f≠Xy be sc st un)->R2 H p st b=some (.ins C d f):=λ{b C d f} e c=>R2.at e (λz=>by
  rw [z,h.ins] at e
  injection e with e
  injection e with _ _ e
  exact c _ _ _ _ e.symm) (λz=>by rw [z,h.sta] at e; cases e)
 obtain ⟨dt,cl,na,sp,mt,o,f,B⟩:=h.tent;obtain ⟨ts,r1,r2,r3⟩:=B.rows;obtain ⟨aw,w1,w2⟩:=h.wor;refine ⟨λb u e=>R2.at (s b u (λz=>by rw [z,h1] at e; cases e) e) (λz=>by rw [z,h1] at e; cases e) (λz=>by rw [z,h2] at e; cases e),dx,be,sc,un,lf,_,_,th,po,[],[],⟨h.ins,h.sta,λb u e=>(R2.le e).2.2,R2.out (.inl rfl),R2.out (.inr rfl),ki h.scn ?_,kp h.thr (λ_ _ _ z=>nomatch z) (λz=>nomatch z),kp h.poo (λ_ _ _ z=>nomatch z) (λz=>nomatch z),λq hq=>by cases hq⟩,rfl,rfl,λ_=>⟨be,wo,rfl,rfl,?_,⟨aw,kp w1 (λ_ _ _ z=>nomatch z) (λz=>nomatch z),λx hx=>kp (w2 x hx) (λ_ _ _ z=>nomatch z) (λz=>nomatch z)⟩,λkv hk=>by cases hk⟩⟩
 ·intro be sc st un e
  have e1:=congrArg (List.map (·.1)) e;have e2:(du:).map (·.1)=(Xy 0 0 0 0).map (·.1):=rfl;rw [e2] at e1;exact absurd e1 (by show (X9 (.int 0) (.int 0) (.int 0) (.int 0)).map (·.1)≠_; decide)
 ·refine ⟨dt,cl,na,sp,mt,o,f,ki B.ins (λ_ _ _ _=>(Zsv).symm),⟨ts,kp r1 (s:) (Zbm λz=>?_),r2,λk q e=>kp (r3 k q e) (s:) (N:)⟩,kp B.names (s:) (Zbm kq),kp B.spots (s:) (N:),kp B.mates (s:) (Zbm λz=>?_),λy hy=>kp (B.at' y hy) (s:) (Zbm λz=>?_)⟩
  ·rw [z,length_nil] at r2
   exact kq (eq_nil_of_length_eq_zero r2)
  ·have:=td.len
   have z:M=[]:=z;rw [z] at this;exact kq (eq_nil_of_length_eq_zero this)
  ·obtain ⟨i,hi,hx⟩:=Y8.mp hy
   have:=Xd.mpr ⟨hi,hx⟩;rw [z] at this;cases this
noncomputable def cntS (g:Int->Int) (x:Int):Str:=(Str.empty ++ (toString x:Str)) ++ (Str.ofString ":") ++ figS (g x)
def Zb6:Sp:=λvs H Q _=>∃ (c:Addr) (ks:List Int) (g:Int->Int),vs=[.ref c]/\H c=some (eg:)/\ks.length < 64/\(∀ x∈ks,0<=x/\x<=9999/\0<=g x/\g x < 1000000000000000000000000000000000000000000000000000000000000)/\∀ (H':Hp) (r:Str),Same H H'->Asc r->r.length<=5000->Q (.str r) H'
def Zi4 {g:Int->Int} {x:Int} (h:0<=x/\x<=9999/\0<=g x/\g x < 1000000000000000000000000000000000000000000000000000000000000):(cntS g x).length<=71:=by
 unfold cntS;rw [U6,U6,U6];have h1:=Zgv h.2.2.1 h.2.2.2;have h2:(toString x:Str).length<=10:=PySem.W.KT.len_num h.1 (by lia);have h3:Str.empty.length=0:=rfl;have h4:(Str.ofString ":").length=1:=by decide
 lia
def Zrb (g:Int->Int) (x:Int):Asc (cntS g x):=by
 unfold cntS;refine (Asc.app (Asc.app (λc hc=>?_) (Asc.num x)) (λc hc=>?_)).app (Zra _)
 ·have hc:c∈([]:List Nat):=hc; cases hc
 ·revert c hc; show ∀ c∈[58],c < 128; decide
def Zcb:FnScope ["counts"] ["counts"] (Zg O3):=Am
def Zcm (T:Txt w K mg t):(a:) 2 t.cJ t.cQ ["counts"] Zb6:=by
 refine T.cW.F.aR Zcb (b:)
 ·obtain ⟨c,ks,g,rfl,hc,hl,hk,k⟩:=h
  have hu:=Xh hr;refine ⟨_,(Zh (Zl (W4 PySem.F.plainAttrs_str PySem.F.slot_str_join PySem.F.type_str_join Uz Zj (Za (Yn (ts:=["seam"]) (fv:=[("counts",0)]) (e:) rfl (Yh (Yg (Jf rfl) (by rfl) T.bu PyProof.Rows.boot_sorted (w:))) (ab:) (Q:) (K:) (λ_ _ _ _ _ _=>Yb (J0 (Wq (pv 0) (Xw (Zr9 (pcT (Zbj T) hr T.dF (Za (Y3 hu (pv 1) (pv 0) (j:)) Zb)) Qx)))))) Zb)))),?_⟩;refine ⟨Y,c,_,ks,Y,.inl hc,(by unfold dI; rw [map_map]; rfl),hl,λl1 ka ly vc qk=>?_⟩;have s1:Same H (bm:):=Same.new ly;have h1:(bm:) l1=some (.lst (ka.map V.int)):=Zc;generalize upd H l1 (.lst (ka.map V.int))=H1 at s1 h1 ⊢;have sv:ka.length < 64:=by rw [vc.length_eq]; exact hl
  refine ⟨l1,Y,⟨_,SqL.of h1⟩,λD hD=>Yc (xs:=ka.map V.int) (λi σ H6=>∃ v,σ=[v,oR c]/\Same H1 H6/\H6 D=some (.lst (((ka.take i).map (cntS g)).map V.str))) (ac:) ?_ ?_ ?_⟩
  ·rintro i σ H6 _ ⟨v,rfl,s6,_⟩
   exact SqL.of (s6 _ _ h1)
  ·rintro i y σ H6 hy ⟨v,rfl,s6,h6⟩
   rw [Ah] at hy;obtain ⟨x,hx,rfl⟩:=Option.map_eq_some_iff.mp hy;have o8:x∈ks:=vc.mem_iff.mp (Au hx);have ok:=hk x o8;have hx10:(toString x:Str).length<=10:=PySem.W.KT.len_num ok.1 (by lia);dsimp only [Zm,tYes];rw [if_pos rfl];have yy:x.natAbs.log2 < 1920:=by
    rcases eq_zero_or_pos x.natAbs with z | z
    ·rw [z]; decide
    ·exact (Nat.log2_lt (by lia)).mpr (Ag (by lia:x.natAbs < 2 ^ 20) (Nat.pow_le_pow_right (c:) (c:)))
   have cl:=Zi4 ok;have e58:(Str.ofString ":").length=1:=by decide
   have l1':(Str.empty ++ (toString x:Str)).length<=10:=by rw [U6]; have e:Str.empty.length=0:=rfl; lia
   have l2':((Str.empty ++ (toString x:Str)) ++ (Str.ofString ":")).length<=11:=by rw [U6]; lia
   refine ⟨x,Y,yy,by rw [sizeLine_eq]; lia,by rw [sizeLine_eq]; exact Nat.le_trans l2' (c:),c,_,Y,Xt (s6 _ _ (s1 _ _ hc)) o8,g x,Y,ok.2.2.1,ok.2.2.2,λH7 s7=>?_⟩;have fl:=Zgv ok.2.2.1 ok.2.2.2;refine ⟨_,Y,by rw [sizeLine_eq]; lia,(show (cntS g x).length<=sizeLine by rw [sizeLine_eq]; lia),(show (cntS g x).length<=sizeLine by rw [sizeLine_eq]; lia),?_⟩;refine ⟨_,s7 _ _ h6,by rw [Ab,Ab,Ai]; exact Zo (by lia),_,Y,Same.add (s6.trans s7) hD,?_⟩;rw [Zc,Aw,hx,Aj,Aj];rfl
  ·rintro σ H6 ⟨v,rfl,s6,h6⟩
   rw [Ab,take_length] at h6;have sm:=Uf (B:=71) (l:=ka.map (cntS g)) λy hy=>by
    obtain ⟨x,hx,rfl⟩:=mem_map.mp hy
    exact Zi4 (hk x (vc.mem_iff.mp hx))
   have jl:=Zoo (an:) (ka.map (cntS g));have e1:(an:).length=1:=by decide
   rw [Ab] at sm jl;rw [e1] at jl;refine ⟨_,D,ka.map (cntS g),Y,Y,SqL.of h6,by decide,by rw [Ab]; lia,k _ _ (s1.trans s6) (Asc.joinS (λc hc=>by have hc:c∈[32]:=hc; rw [Af hc]; decide) λy hy=>?_) (by lia)⟩;obtain ⟨x,hx,rfl⟩:=mem_map.mp hy;exact Zrb g x
def Zhh (t:Adr):Sp:=λvs H Q E=>∃ (p a st:Addr) (x:Str) (ws:List Int) (H0:Hp) (M:Lq) (ns ks:List Int) (l:List Str) (n:Nat),vs=[.ref p,.str x,.ref a]/\HZ t H H0 p st M ns ks l n true/\TD M ns/\Wd x/\isN x=true/\H a=some (.lst (ws.map V.int))/\ws.length<=1000 /\
 (x∈l/\(∀ H',E (.ref t.cD) none H')\/x ∉ l/\(Xv M ws=false/\(∀ H',E (.ref t.aJ) none H')\/Xv M ws=true/\400 < ws.length/\∀ H',E (.ref t.aU) none H'))
def Ze7 (t:Adr):Sp:=λvs H Q E=>∃ (p st:Addr) (x:Str) (H0:Hp) (M:Lq) (ns ks:List Int) (l:List Str) (n:Nat) (fr:Bool),vs=[.ref p,.str x]/\HZ t H H0 p st M ns ks l n fr/\n<=800/\l.length<=800/\l.Nodup/\Wd x /\
 (x ∉ l/\(∀ H',E (.ref t.bo) none H')\/x∈l/\∀ H' lu,Same H0 lu->HZ t H' lu p st M ns ks (l.filter λy=>decide (y≠x)) (n + 1) fr->Q .non H')
def Ze6 (t:Adr):Sp:=λvs H Q E=>∃ (p c st:Addr) (x:Str) (H0:Hp) (M:Lq) (ns ks ms:List Int) (g:Int->Int) (l:List Str) (n:Nat),vs=[.ref p,.str x,.ref c]/\HZ t H H0 p st M ns ks l n true/\TD M ns/\ns.length < 64/\n<=800/\l.length<=800/\Wd x/\isN x=true/\x ∉ l/\H c=some (.dK (dI ms g))/\ms.length < 64/\(∀ y∈ms,g y<=9) /\
 CntR t ns ms g E (∀ H' lu,Same H0 lu->HZ t H' lu p st M ns ks (l ++ [x]) (n + 1) true->Q .non H')
def Zd1 (t:Adr):Sp:=λvs H Q E=>∃ (p st:Addr) (x a b:Int) (H0:Hp) (M:Lq) (ns ks:List Int) (l:List Str) (n:Nat),vs=[.ref p,.int x,.int a,.int b]/\HZ t H H0 p st M ns ks l n true/\TD M ns/\ns.length < 64/\SwK M ns ks/\n<=800 /\
 (x ∉ keys ns ns.length->∀ H',E (.ref t.az) none H')/\(x∈keys ns ns.length->(Zu ns x="rim"->∀ H',E (.ref t.cL) none H')/\(Zu ns x≠"rim" ->
  (a=0/\b=3/\(∀ H',E (.ref t.ay) none H')\/a=1/\b=9999999999999999999999999999999999999999999999999999999999999/\(∀ H',E (.ref t.aK) none H')\/a=1/\b=2/\∀ H' lu,Same H0 lu->HZ t H' lu p st M ns ks l (n + 1) false->Q .non H')))
def Zmi {L:List (Str × V)} {x:Str}:(L.filter λkv=>decide (kv.1≠x)).map (·.1)=(L.map (·.1)).filter λy=>decide (y≠x):=by rw [filter_map]; rfl
def Fa:FnScope ["self","name","word","now","threads"] ["self","name","word"] (Zg Za6):=Am
def Zhv (T:Txt w K mg t):(a:) 7 t.fL t.fZ ["self","name","word"] (Zhh t):=by
 refine T.cY.F.aX Fa (b:)
 ·obtain ⟨p,a,st,x,ws,H0,M,ns,ks,l,n,rfl,hz,td,hx,hN,ha,hl,kk⟩:=h
  obtain ⟨dx,be,sc,un,lf,te,wo,th,po,L,qs,B,rfl,rfl,F⟩:=hz.ex;obtain ⟨lq,m9,rfl,rfl,wk,xu,hL⟩:=F rfl;have ta:=wk.same B.low;have i1:=B.low _ _ B.scn;refine ⟨_,(Zp (Z1 (psN 3 Fa.nd (Zz (pv 0) Y)))
   (Zp (Yt (pxT (Vv T) hr T.aS (Za (pv 3) (A:))))
   (Zp (Yt (pxT (Zcj T) hr T.cT (Za (Zz (pv 3) rfl) (y:))))
   (Zp (Yt (pxT (Uv T) hr T.bf (y:)))
   (Zqd Jb))))),?_⟩
  refine ⟨B.ins,T.ai,T.aq,sc,lf,th,po,_,_,x,L,Y,i1,B.low _ _ B.thr,B.low _ _ B.poo,hx,hN,λc=>?_,λc H1 s1=>?_⟩
  ·rcases kk with ⟨_,k⟩ | ⟨z,_⟩
   ·exact k
   ·exact absurd c z
  rcases kk with ⟨z,_⟩ | ⟨_,kk⟩
  ·exact absurd z c
  refine ⟨s1 _ _ i1,T.ac,T.al,lq,a,M,ns,ws,Y,ta.same s1,td.len.symm,s1 _ _ ha,by lia,λH2 s2=>⟨λz=>?_,λz=>?_⟩⟩
  ·rcases kk with ⟨z',_⟩ | ⟨_,hg,k⟩
   ·rw [z'] at z; cases z
   ·exact ⟨a,_,Y,s2 _ _ (s1 _ _ ha),λz=>absurd hg (by rw [Ab] at z; lia),λ_=>k _⟩
  ·rcases kk with ⟨_,k⟩ | ⟨z',_⟩
   ·exact k _
   ·rw [z'] at z; cases z
def Vp:FnScope ["self","name","now","threads","pools"] ["self","name"] (Zg Fr):=Am
def Zgg (T:Txt w K mg t):(a:) 3 t.d4 t.eU ["self","name"] (Ze7 t):=by
 refine T.cw.F.aX Vp (b:)
 ·obtain ⟨p,st,x,H0,M,ns,ks,l,n,fr,rfl,hz,hn,hl,nd,hx,kk⟩:=h
  obtain ⟨dx,be,sc,un,lf,te,wo,th,po,L,qs,B,rfl,rfl,F⟩:=hz.ex;have hu:=Xh hr;have pc:=B.low _ _ B.scn;have t8:=B.low _ _ B.thr;have ub:=B.low _ _ B.poo;refine ⟨_,(Zp (Z1 (psN 2 Vp.nd (Zz (pv 0) Y)))
   (Zp (Y9 (PW.pt (Kt (Vt (Kx hu (pv 1) (Zz (pv 2) rfl)) (ap:)) (Up (Vt (Kx hu (pv 1) (Zz (pv 2) rfl)) (ap:))))) (Zr (Yo T.js FBV rfl T.gD rfl (bl:))) Yy)
   (Zp (Z1 (Zlk (i:=3) (j:=4) rfl Vp.nd rfl rfl (c:) rfl rfl (Za (pcT (V7 T) hr T.aZ (Za (Zz (pv 2) rfl) (A:))) (Za (pcT (V7 T) hr T.aZ (Za (Zz (pv 2) rfl) (A:))) Zb)) (by rfl)))
   (Zr (Z1 (Z5 (Xr (pv 0) T.ai T.ao.m (Js T) (ai:) T.ao.b .nil Yv (Za (pcT (Uc T) hr T.bB (Za (Yz (Za Zj (A:))) Zb)) (Za (Jz T.cz (Wz T) (ai:) rfl T.cm T.aC.b .nil Yv (Za (Zz (pv 2) rfl) (Za (pv 3) (Za (pv 4) (Za (Zz (pv 2) rfl) Zb))))) Zb))))))))),?_⟩
  refine Xf (λσ H'=>σ=[oR p,oS x,oR sc,none,none]/\H=H') (λnx kc=>⟨B.ins,T.ai,T.aq,kc _ _ ⟨Y,Y⟩⟩) ?_;rintro σ H' ⟨rfl,rfl⟩;refine Xf (λσ H'=>σ=[oR p,oS x,oR sc,none,none]/\H=H'/\x∈L.map (·.1)) (D:) ?_
  ·refine ⟨pc,T.ac,T.am,th,_,Y,.inl ⟨_,Sum.inr x,.inl t8,Y,Y⟩,iteT ?_⟩
   refine ⟨pc,T.ac,T.av,po,_,Y,.inl ⟨_,Sum.inr x,.inl ub,Y,Y⟩,?_⟩;rw [Zi3]
   rcases id kk with ⟨c,k⟩ | ⟨c,_⟩
   ·rw [decide_eq_false c]
    exact iteT ⟨by decide,k _⟩
   ·rw [decide_eq_true c]
    exact iteF (kc _ _ ⟨Y,Y,c⟩)
  rintro σ H' ⟨rfl,rfl,hin⟩;have k:=(kk.resolve_left λz=>z.1 hin).2;rw [Ab] at hl;refine ⟨pc,T.ac,T.am,th,x,[],Y,t8,by decide,.nil,λqj H1 s1 hth' h1=>⟨s1 _ _ pc,T.ac,T.av,po,x,L,Y,s1 _ _ ub,by lia,nd,λow H4 s4 ui h4=>?_⟩⟩;have m6:=s1.trans s4;refine ⟨_,_,Y,m6 _ _ B.ins,Y,(szR Y),λl2' nj=>?_⟩;have s6:=Same.new (o:=.lst [V.str (Str.ofString "lift"),V.str x]) nj;refine ⟨l2',[.inl (Str.ofString "lift"),.inl x],rfl,Zc,(by show 2<=900; decide),λy hy=>?_,?_,λH7 s7=>?_⟩
  ·rcases Ar hy with rfl | hy
   ·exact True.intro
   ·rw [Af hy]; exact True.intro
  ·show (4 + (x.length + 0)) + 2<=1048576
   have:=hx.len;lia
  have xk:=s6.trans s7;have o5:=m6.trans xk;have hsc7:=o5 _ _ pc;generalize Txt.join (Str.ofString " ") _=rr;refine ⟨hsc7,T.ac,T.al,hsc7,T.ac,T.aB,?_⟩;have s0:Same H0 (R2 H7 p st):=Zcd (B.low.trans o5) B.np B.nst;refine B.deed o5 hn (fr:=fr) ((s4.trans xk) _ _ h1) (xk _ _ h4) (λe=>?_) (λH' lu s' h'=>k H' lu s' (by rw [<- Zmi]; exact h'));obtain ⟨lq,m9,e1,e2,wk,xu,hL⟩:=F e;exact ⟨lq,m9,e1,e2,wk.same s0,xu.same s0,λkv hk=>by obtain ⟨c,g,e,h⟩:=hL kv (mem_filter.mp hk).1; exact ⟨c,g,e,h.same s0⟩⟩
def Vo:FnScope ["self","name","counts","now","pools"] ["self","name","counts"] (Zg Fq):=Am
def Zgf (T:Txt w K mg t):(a:) 5 t.d0 t.eT ["self","name","counts"] (Ze6 t):=by
 refine T.cv.F.aX Vo (b:)
 ·obtain ⟨p,c,st,x,H0,M,ns,ks,ms,g,l,n,rfl,hz,td,k9,hn,hl,hx,hN,sj,hc,wv,hg9,R⟩:=h
  obtain ⟨dx,be,sc,un,lf,te,wo,th,po,L,qs,B,rfl,rfl,F⟩:=hz.ex;obtain ⟨lq,m9,rfl,rfl,wk,xu,hL⟩:=F rfl;have hu:=Xh hr;have i1:=B.low _ _ B.scn;refine ⟨_,(Zp (Z1 (psN 3 Vo.nd (Zz (pv 0) Y)))
   (Zp (Yt (pxT (Vv T) hr T.aS (Za (pv 3) (A:))))
   (Zp (Yt (pxT (Zck T) hr T.cU (Za (Zz (pv 3) rfl) (y:))))
   (Zp (Z1 (psN 4 Vo.nd (pcT (Kz T) hr T.cr (Za (Zz (pv 3) rfl) (Za (pv 1) (Za (Ys Vg (by rfl) T.gz PySem.Pv.boot_dict (y:)) Zb))))))
   (Zr (Z1 (Z5 (Xr (pv 0) T.ai T.ao.m (Js T) (ai:) T.ao.b .nil Yv (Za (pcT (Uc T) hr T.bB (Za (Yz (Za Zj (Za (pv 1) (Za (pcT (Zcm T) hr T.cW (y:)) Zb)))) Zb)) (Za (Jz T.cz (Wz T) (ai:) rfl T.cm T.aC.b .nil Yv (Za (Zz (pv 3) rfl) (Za (Zz (pv 3) rfl) (Za (pv 4) (Za (Zz (pv 3) rfl) Zb))))) Zb)))))))))),?_⟩
  refine ⟨B.ins,T.ai,T.aq,sc,lf,th,po,_,_,x,L,Y,i1,B.low _ _ B.thr,B.low _ _ B.poo,hx,hN,λz=>absurd z sj,λ_ H1 s1=>⟨s1 _ _ i1,T.ac,T.al,lq,c,M,ns,ms,g,Y,(wk.same B.low).same s1,td,k9,s1 _ _ hc,wv,⟨R.nn,R.no,R.rim,R.odd,R.wide,λpm r1 r2 r3 H2 s2=>?_⟩⟩⟩;have k:=R.ok pm r1 r2 r3;have o6:=s1.trans s2;refine ⟨o6 _ _ i1,T.ac,T.av,c,_,Y,.inl (o6 _ _ hc),λw' hw'=>?_⟩;have s3:Same H2 (upd H2 w' (.dK (dI ms g))):=Same.new hw';have w3:(upd H2 w' (.dK (dI ms g))) w'=some (.dK (dI ms g)):=Zc;generalize upd H2 w' (.dK (dI ms g))=H3 at s3 w3 ⊢;have k8:=o6.trans s3;rw [Ab] at hl;refine ⟨po,Sum.inr x,.ref w',dS L,Y,k8 _ _ (B.low _ _ B.poo),by rw [Gc]; lia,λow ui=>?_⟩;rw [Zgy sj];have s4:Same H3 (upd H3 ow (.dK (dS (L ++ [(x,.ref w')])))):=Same.new ui;have h4:(upd H3 ow (.dK (dS (L ++ [(x,.ref w')])))) ow=some (.dK (dS (L ++ [(x,.ref w')]))):=Zc;generalize upd H3 ow (.dK (dS (L ++ [(x,.ref w')])))=H4 at s4 h4 ⊢;have m6:=k8.trans s4;refine ⟨m6 _ _ B.ins,Y,?_⟩;have ye:∀ y∈ms,0<=y/\y<=9999/\0<=g y/\g y < 1000000000000000000000000000000000000000000000000000000000000:=λy hy=>by
   obtain ⟨i,_,hi⟩:=Y8.mp (pm.mem_iff.mp hy)
   exact ⟨(td.rng i y hi).1,(td.rng i y hi).2,R.nn y hy,Int.lt_of_le_of_lt (hg9 y hy) (c:)⟩
  refine ⟨c,ms,g,Y,m6 _ _ hc,wv,ye,λH5 r5 s5 a5 l5=>⟨(szR Y),λl2' nj=>?_⟩⟩;have s6:=Same.new (o:=.lst [V.str (Str.ofString "pour"),V.str x,V.str r5]) nj;refine ⟨l2',[.inl (Str.ofString "pour"),.inl x,.inl r5],rfl,Zc,(by show 3<=900; decide),λy hy=>?_,?_,λH7 s7=>?_⟩
  ·rcases Ar hy with rfl | hy
   ·exact True.intro
   ·rcases Ar hy with rfl | hy
    ·exact True.intro
    ·rw [Af hy]; exact True.intro
  ·show (4 + (x.length + (r5.length + 0))) + 3<=1048576
   have:=hx.len;lia
  have xk:=s5.trans (s6.trans s7);have o5:=m6.trans xk;have i7:=o5 _ _ i1;generalize Txt.join (Str.ofString " ") _=rr;refine ⟨i7,T.ac,T.al,i7,T.ac,T.am,i7,T.ac,T.aB,?_⟩;have s0:Same H0 (R2 H7 p st):=Zcd (B.low.trans o5) B.np B.nst;have w7:=(s4.trans xk) _ _ w3;refine B.deed o5 hn (fr:=true) (o5 _ _ (B.low _ _ B.thr)) (xk _ _ h4) (λ_=>⟨lq,m9,Y,Y,wk.same s0,xu.same s0,λkv hk=>?_⟩) (λH' lu s' h'=>k H' lu s' (by rw [Aj] at h'; exact h'))
  rcases mem_append.mp hk with z | z
  ·obtain ⟨c,g,e,h⟩:=hL kv z
   exact ⟨c,g,e,h.same s0⟩
  ·rw [Af z]
   exact ⟨w',g,Y,ms,R2.at w7 (λz=>by rw [z,o5 _ _ B.ins] at w7; cases w7) (λz=>by rw [z,o5 _ _ B.sta] at w7; cases w7),pm⟩
def Wx:FnScope ["self","seam","top","bottom","now","parts","worths","text"] ["self","seam","top","bottom"] (Zg Kn):=Am
def Zea (T:Txt w K mg t):(a:) 3 t.dc t.dn ["self","seam","top","bottom"] (Zd1 t):=by
 refine T.bD.F.aX Wx (b:)
 ·obtain ⟨p,st,x,a,b,H0,M,ns,ks,l,n,rfl,hz,td,k9,sw,hn,k0,k1⟩:=h
  obtain ⟨dx,be,sc,un,lf,te,wo,th,po,L,qs,B,rfl,rfl,F⟩:=hz.ex;obtain ⟨lq,m9,rfl,rfl,wk,xu,hL⟩:=F rfl;have hu:=Xh hr;have i1:=B.low _ _ B.scn;have ta:=wk.same B.low;refine ⟨_,(Zp (Z1 (psN 4 Wx.nd (Zz (pv 0) Y)))
   (Zp (Zqb (Wj (Zz (pv 4) rfl) T.ae T.ak.m (W5 T) (ai:) T.ak.b .nil (A:)) Zj Yf (Zn _) (Zr (Yo T.jR FBV rfl T.i6 rfl (bl:))) Yy)
   (Zp (Qf (i:=5) Wx.nd rfl (Or.inl rfl) (pxT (Ud T) hr T.bz (Za (pv 2) (Za (pv 3) Zb))))
   (Zp (Yt (pxT (O6 T) hr T.bC (Za (pv 5) Zb)))
   (Zp (Z1 (psN 6 Wx.nd (pcT (Kz T) hr T.cr (Za (Zz (pv 4) rfl) (Za (pv 1) (Za (pv 5) Zb))))))
   (Zp (Z1 (psN 7 Wx.nd (J0 (Xw (Wq (pv 1) (Xw (Wq (Zt Yr (pv 5) Zd (j:)) (Xw (Wq (Zt Yr (pv 5) Zd (j:)) Qx)))))))))
   (Zr (Z1 (Z5 (Xr (pv 0) T.ai T.ao.m (Js T) (ai:) T.ao.b .nil Yv (Za (pv 7) (Za (Jz T.cz (Wz T) (ai:) rfl T.cm T.aC.b .nil Yv (Za (Zz (pv 4) rfl) (Za (Zz (pv 4) rfl) (Za (Zz (pv 4) rfl) (Za (pv 6) Zb))))) Zb)))))))))))),?_⟩
  refine ⟨B.ins,T.ai,T.aq,?_⟩;obtain ⟨dt,cl,na,sp,mt,o,f,BT⟩:=id ta;refine ⟨i1,T.ac,T.al,BT.ins,Y1 _ _ _ _,lq,M,ns,x,Y,ta,td,λhx H1 s1=>?_,λhx=>k0 hx _⟩;obtain ⟨kR,k2⟩:=k1 hx;refine ⟨Y,_,Y,?_⟩;by_cases e:Zu ns x="rim"
  ·rw [e,decide_eq_true rfl]
   exact iteT ⟨by decide,kR e _⟩
  rw [Ug e];refine iteF ?_;have k3:=k2 e;have xo:x∈ks:=(sw.mem x).mpr ((F2 td hx).mpr e);refine ⟨a,b,Y,λm m' ea eb h1 h2=>?_,λz=>?_⟩
  ·have low1:∀ j:Nat,lowN 1 j=(1,j):=λj=>by unfold lowN; rw [gcd_one_left,Nat.div_one,Nat.div_one]
   rcases k3 with ⟨rfl,_⟩ | ⟨rfl,rfl,k⟩ | ⟨rfl,rfl,k⟩
   ·lia
   ·obtain rfl:m=1:=by lia
    obtain rfl:m'=9999999999999999999999999999999999999999999999999999999999999:=by lia
    refine ⟨Zbk (c:) (h:),λq hq=>?_⟩;rw [low1];exact ⟨q,_,Y,Zc,λ_ z=>absurd z (h:),λ_=>k _⟩
   ·obtain rfl:m=1:=by lia
    obtain rfl:m'=2:=by lia
    refine ⟨Zbk (c:) (h:),λq hq=>?_⟩;rw [low1];have s2:Same H1 (upd H1 q (tp (1,2))):=Same.new hq;have q2:(upd H1 q (tp (1,2))) q=some (tp (1,2)):=Zc;generalize upd H1 q (tp (1,2))=H2 at s2 q2 ⊢;have o6:=s1.trans s2;refine ⟨q,(1,2),Y,q2,λ_ _=>?_,λz=>absurd z (h:)⟩;obtain ⟨aw,v1,v2⟩:=xu;have w1:=B.low _ _ v1;have l9:ks.length<=900:=by have:=sw.len td; lia
    refine ⟨o6 _ _ i1,T.ac,T.aB,m9,Sum.inl x,.ref q,wD ks aw,Y,o6 _ _ w1,by rw [Ue]; exact l9,λw2 hw2=>?_⟩;have s3:Same H2 (upd H2 w2 (.dK (putK (wD ks aw) (Sum.inl x) (V.ref q)))):=Same.new hw2;generalize upd H2 w2 (.dK (putK (wD ks aw) (Sum.inl x) (V.ref q)))=H3 at s3 ⊢;have k8:=o6.trans s3;have q3:=s3 _ _ q2;obtain ⟨i,hi,xp⟩:=Y8.mp hx;have xr:=td.rng i x xp;have x1:x.natAbs.log2 < 1920:=Nat.lt_trans (av:) (c:);have x2:(toString x:Str).length<=60:=Vk xr.1 (Int.lt_of_le_of_lt xr.2 (c:));have a2:(toString (1:Int):Str).length<=61:=by decide +kernel
    have b2:(toString (2:Int):Str).length<=61:=by decide +kernel
    have l0:Str.empty.length=0:=rfl;have l1:(Str.ofString "weigh ").length=6:=by decide
    have l2:(an:).length=1:=by decide
    have l3:(Str.ofString "/").length=1:=by decide
    refine ⟨lnN ?_,x,Y,x1,lnN ?_,lnN ?_,SqT.of q3,Y,1,Y,by decide,lnN ?_,lnN ?_,SqT.of q3,Y,2,Y,by decide,lnN ?_,lnN ?_,?_⟩
    iterate 7
     ·simp only [Str.length_append]
      lia
    try dsimp only [Zm]
    generalize (_:Str) ++ _=rr;have i7:=k8 _ _ i1;refine ⟨k8 _ _ B.ins,Y,i7,T.ac,T.al,i7,T.ac,T.am,i7,T.ac,T.av,?_⟩;exact B.deed k8 hn (fr:=false) (k8 _ _ (B.low _ _ B.thr)) (k8 _ _ (B.low _ _ B.poo)) (N:) k
  ·rcases k3 with ⟨_,_,k⟩ | ⟨rfl,rfl,_⟩ | ⟨rfl,rfl,_⟩
   ·exact k _
   ·lia
   ·lia
def Zqy {ns:List Int} (h:i < ns.length):ns[i]?=some (ns.getD i 0):=by rw [Ad,Ac h]; rfl
noncomputable def n4 (f:Nat->Int) (a b:Nat):List Int:=[f (aN a),f (bN a),f (aN b),f (bN b)]
def Ztv {f:Nat->Int} {a b n j:Nat} {x:V} (ha:a < 3 * n) (hb:b < 3 * n) (h:(sqr a b)[j]?=some x):∃ z:Nat,z < 3 * n/\x=.int z/\(n4 f a b)[j]?=some (f z):=by
 obtain ⟨a1,a2⟩:=U9 ha;obtain ⟨b1,b2⟩:=U9 hb;unfold sqr at h;rw [Zb0,Zby,Zb0,Zby] at h
 match j,h with
 | 0,h=>cases h; exact ⟨_,a1,Y,Y⟩
 | 1,h=>cases h; exact ⟨_,a2,Y,Y⟩
 | 2,h=>cases h; exact ⟨_,b1,Y,Y⟩
 | 3,h=>cases h; exact ⟨_,b2,Y,Y⟩
 | j + 4,h=>simp at h
def Zrh {H H3:Hp} {d:Addr} {kvs:List (Key × V)} (hd:H d=some (.dK kvs)) (s:∀ b u,b≠d->H b=some u->H3 b=some u):Same H (upd H3 d (.dK kvs)):=λb u e=>by
 by_cases z:b=d
 ·subst z; rw [hd] at e; rw [Zc]; exact e
 ·rw [Ze z]; exact s b u z e
def Mv.two {M:Lq} {ns:List Int} {x:Int} {a b:Nat} (h:Mv M ns x a b) (td:TD M ns):x∈keys ns ns.length/\pl ns ns.length x=[a,b]:=Zln td h.hM h.lt h.nm
structure TrnR (t:Adr) (M:Lq) (ns:List Int) (x:Int) (E:XK) (Q:Nat->Nat->Prop):Prop where
 no:x ∉ keys ns ns.length->∀ H',E (.ref t.az) none H'
 rim:x∈keys ns ns.length->Zu ns x="rim"->∀ H',E (.ref t.cL) none H'
 lock:x∈keys ns ns.length->Zu ns x="locked"->∀ H',E (.ref t.aG) none H'
 ok:∀ a b,Mv M ns x a b->Q a b
def Fx (C:Addr):Sp:=λvs H Q _=>∃ (p c:Addr) (M:Lq) (ns:List Int) (g:Int->Int) (x:Int) (a b:Nat),vs=[.ref p,.ref c,.int x]/\Z4 C H p M ns/\TD M ns/\Ox H c ns g/\Mv M ns x a b/\∀ v H',Same H H'->Q (.int v) H'
def F0 (C:Addr):Sp:=λvs H Q _=>∃ (p c:Addr) (M:Lq) (ns:List Int) (g:Int->Int) (x:Int) (a b:Nat),vs=[.ref p,.ref c,.int x]/\Z4 C H p M ns/\TD M ns/\Ox H c ns g/\Mv M ns x a b/\∀ (l:Addr) (H':Hp),Same H H'->H l=none->Q (.ref l) H'
def Zk5 (t:Adr):Sp:=λvs H Q E=>∃ (sc lf te th po wo:Addr) (L:List (Str × V)) (M:Lq) (ns ks:List Int) (x:Int) (ke:Str),vs=[.ref sc,.int x,.str ke]/\H sc=some (.ins t.ah lf (X9 (.ref te) (.ref th) (.ref po) (.ref wo)))/\H th=some (.dK [])/\H po=some (.dK (dS L))/\L.length<=800/\(L.map (·.1)).Nodup/\Frs t H (.ref te) (.ref wo) L M ns ks/\TD M ns/\ns.length < 64/\SwK M ns ks/\(ke="left"\/ke="right") /\
 TrnR t M ns x E λ_ _=>∀ (r dr:Addr) (lq m9:V) (qj ow:Addr) (L':List (Str × V)) (H':Hp),Same H H'->H r=none->H' r=some (.ins t.ah dr (X9 lq (.ref qj) (.ref ow) m9))->H' qj=some (.dK [])->H' ow=some (.dK (dS L'))->L'.map (·.1)=L.map (·.1)->Q (.ref r) H'
def Ze5 (t:Adr):Sp:=λvs H Q E=>∃ (p st:Addr) (x:Int) (ke:Str) (H0:Hp) (M:Lq) (ns ks:List Int) (l:List Str) (n:Nat),vs=[.ref p,.int x,.str ke]/\HZ t H H0 p st M ns ks l n true/\TD M ns/\ns.length < 64/\SwK M ns ks/\n<=800/\l.length<=800/\l.Nodup/\0<=x/\x < 1000000000000000000000000000000000000000000000000000000000000/\(ke="left"\/ke="right") /\
 TrnR t M ns x E λ_ _=>∀ H' lu,Same H0 lu->HZ t H' lu p st M ns ks l (n + 1) false->Q .non H'
def Zl2 (T:Txt w K mg t):(a:) 1 t.ir t.iH ["tent","seam","way","word"] (λ_ _ _ _=>False):=FnOk.no
def X2:FnScope ["tent","counts","seam","a","b","c","d"] (eu:) (Zg V2):=Am
def F9 (T:Txt w K mg t):(a:) 5 t.bF t.bK (eu:) (Fx t.aa):=by
 refine T.bQ.F.aR X2 (b:)
 ·obtain ⟨p,c,M,ns,g,x,a,b,rfl,ta,td,wj,mv,k⟩:=h
  have hu:=Xh hr;refine ⟨_,(Zf (Xu (Yn (ts:=["place"]) (fv:=[("counts",1),("tent",0)]) (aj:) rfl (Zlp (pcT (K0 T) hr T.dA (Za (pv 0) (y:)))) (λ_ _ _ _=>(pgN 0 nd3)) (Q:) (K:) (λ_ _ _ _ _ _=>Yb (Y3 hu (pv 1) (Xr (pv 2) T.ae T.ap.m (J7 T) (ai:) T.ap.b .nil Yv (w:)) (j:)))) (Zlr rfl (Zq (pgN 3 X2.nd) (Zq (pgN 4 X2.nd) (Zq (pgN 5 X2.nd) (Zq (pgN 6 X2.nd) Ym))))))
   (Zh (Zl (Zi Qz (Yg (Zdq rfl) (by rfl) T.iY PyProof.Rows.boot_max (Za (Zi Yi (pv 3) (pv 5)) (Za (Zi Yi (pv 4) (pv 6)) Zb))) (Y3 hu (pv 1) (pv 2) (j:)))))),?_⟩
  obtain ⟨hk,lg⟩:=mv.two td;obtain ⟨n,n1,wn,hn⟩:=td.n;have hl:=td.len;obtain ⟨ha,hb⟩:=mv.lts td;have hs:Zu ns x="free":=by unfold Zu; rw [lg]; exact if_neg mv.ab
  refine Zw λky j5=>⟨p,M,ns,x,Y,ta,td,λ_ H1 s1=>⟨λe=>absurd (hs.symm.trans e) (c:),λe=>absurd (hs.symm.trans e) (c:),λa' b' l e1 e2 e3 e4 ly hH=>?_⟩,λz=>absurd hk z⟩;rw [lg] at e1
  injection e1 with e5 e6
  injection e6 with e6 _
  subst e5;subst e6;have ux:=ta.same s1;obtain ⟨ks,u7,mw⟩:=wj.same s1;refine ⟨l,Y,⟨_,SqT.of hH⟩,λD hD=>On (xs:=sqr a b) (λj σ H2=>∃ (v:Option V),σ=[v,oR c,oR p]/\Same H1 H2/\H2 D=some (.lst (((n4 (λi=>g (ns.getD i 0)) a b).take j).map V.int))) (ac:) ?_ ?_ ?_⟩
  ·rintro j σ H2 _ ⟨v,rfl,s2,_⟩
   exact SqT.of (s2 _ _ hH)
  ·rintro j y σ H2 hy ⟨v,rfl,s2,h2⟩
   dsimp only [Zm,tYes];rw [if_pos rfl];obtain ⟨z,hz,rfl,hf⟩:=Ztv (f:=λi=>g (ns.getD i 0)) (n:=n) (by lia) (by lia) hy;have va:=ux.same s2;obtain ⟨dx,cl,na,sp,mt,o,ff,B⟩:=id va;have si:z < ns.length:=by lia
   have ey:=Zqy si;have hzk:ns.getD z 0∈ks:=mw.mem_iff.mpr (Vy si);refine ⟨B.ins,Y1 _ _ _ _,p,M,ns,z,Y,va,λi y e1 e2=>?_,λq=>absurd ⟨by lia,by lia⟩ q⟩;obtain rfl:z=i:=by lia
   rw [ey] at e2
   injection e2 with e2
   subst e2;refine ⟨c,_,Y,Xt (s2 _ _ u7) hzk,_,h2,?_,_,Y,Same.add s2 hD,?_⟩
   ·rw [Ab,Ai]
    exact Zo (by have:(n4 (λi=>g (ns.getD i 0)) a b).length=4:=rfl; lia)
   ·rw [Zc,Aw,hf]
    simp
  rintro σ H2 ⟨v,rfl,s2,h2⟩;have h2':H2 D=some (.lst ((n4 (λi=>g (ns.getD i 0)) a b).map V.int)):=h2;refine ⟨D,_,Y,SqL.of h2',Y,_,_,Y,_,_,Y,_,_,Y,_,_,Y,Y,(j5 _ _ ?_)⟩;have o8:x∈ks:=mw.mem_iff.mpr hk;refine ⟨_,_,Y,c,_,Y,Xt (s2 _ _ u7) o8,?_⟩;exact k _ H2 (s1.trans s2)
def Vn:FnScope ["tent","counts","seam","behind"] (eu:) (Zg V6):=Am
def Zac (T:Txt w K mg t):(a:) 6 t.bG t.bL (eu:) (F0 t.aa):=by
 refine T.bR.F.aR Vn (b:)
 ·obtain ⟨p,c,M,ns,g,x,a,b,rfl,ta,td,wj,mv,k⟩:=h
  have hu:=Xh hr;refine ⟨_,(Zf (psN 3 Vn.nd (Ys Vg (by rfl) T.gz PySem.Pv.boot_dict (A:)))
   (Zf (Qh hu (pv 3) (pv 2) (pcT (F9 T) hr T.bQ (Za (pv 0) (Za (pv 1) (y:)))) rfl)
   (Zh (Zl (pv 3))))),?_⟩
  obtain ⟨hk,lg⟩:=mv.two td;obtain ⟨ks,hc,mw⟩:=id wj;refine Zw λky j5=>⟨c,_,Y,.inl hc,λd hd=>j5 _ _ ?_⟩;have s1:Same H (upd H d (eg:)):=Same.new hd;have h1:(upd H d (eg:)) d=some (eg:):=Zc;generalize upd H d (.dK (dI ks g))=H1 at s1 h1 ⊢
  try dsimp only [Zm]
  refine Zw λky j5=>?_;have o8:x∈ks:=mw.mem_iff.mpr hk;refine ⟨p,c,M,ns,g,x,a,b,Y,ta.same s1,td,wj.same s1,mv,λv H2 s2=>?_⟩;have h2:=s2 _ _ h1;refine ⟨d,_,Y,DPut.k (k:=Sum.inl x) h2 (by rw [U4]; exact Zo (by have h3:=mw.length_eq; have h4:=Ql ns ns.length; obtain ⟨n,n1,wn,hn⟩:=td.n; have:=td.len; lia)),(j5 _ _ ?_)⟩;exact k d _ (Same.add (s1.trans s2) hd) hd
def Xb:FnScope ["scene","seam","way","tent","threads","word","pools","worths","parts"] ["scene","seam","way"] (Zg Uj):=Am
def Zbe (T:Txt w K mg t):(a:) 8 t.bZ t.cj ["scene","seam","way"] (Zk5 t):=by
  refine T.cu.F.aX Xb (b:)
  · obtain ⟨sc,lf,te,th,po,wo,L,M,ns,ks,x,ke,rfl,pc,t8,ub,hL8,nd,⟨te0,wo0,e1,e2,ta,hwo,hL⟩,td,k9,hsw,sg,R⟩:=h
    cases e1;cases e2;have hu:=Xh hr;refine ⟨_,(Zp (Qf (i:=3) Xb.nd Y (Or.inl Y) (pxT (Zga T) hr T.fc (Za (Zz (pv 0) Y) (Za (pv 1) (y:)))))
      (Zp (Z1 (Gm (Ku (ts:=["name","word"]) (fv:=[("seam",1),("way",2),("scene",0)]) (i:=4) ⟨rfl,by decide +kernel,by decide +kernel,Z2 (by rfl),⟨⟨rfl,rfl,Or.inl rfl⟩,⟨rfl,rfl,Or.inl rfl⟩,⟨rfl,rfl,Or.inl rfl⟩,trivial⟩⟩ rfl Xb.nd rfl rfl (by rfl) (Qj (b3:) ⟨rfl,rfl,rfl⟩) (λ_ _ _ _=>(Jh (n:=2) K rfl (Zq (Us (i:=0) (show List.Nodup (["name","word","seam","way","scene"]:List Str) from by decide +kernel) rfl (Or.inl rfl) (Or.inr rfl)) (Zq (Us (i:=1) (show List.Nodup (["name","word","seam","way","scene"]:List Str) from by decide +kernel) rfl (Or.inl rfl) (Or.inr rfl)) Ym)))) (Q:) (K:) (λ_ _ _ _ _ _=>Vu (pv 0) (pcT (Zl2 T) hr T.jx (Za (Zil K (pv 4) rfl) (Za (pv 2) (Za (pv 3) (A:)))))))))
      (Zp (Z1 (Gm (Wn PassesOwn.never rfl (Zch (pv 4) ⟨rfl,rfl,rfl⟩) (pgN 5 Xb.nd) (Zh (Z5 (pcT (Uv T) hr T.bf (Za (pv 5) Zb)))))))
      (Zp (Z1 (Gm (Ku (ts:=["name","counts"]) (fv:=[("seam",1),("scene",0)]) (i:=6) (aj:) rfl Xb.nd rfl rfl (by rfl) (Qj (b3:) ⟨rfl,rfl,rfl⟩) (λ_ _ _ _=>(Jh (n:=2) K rfl (Zq (Us (i:=0) (show List.Nodup (["name","counts","seam","scene"]:List Str) from by decide +kernel) rfl (Or.inl rfl) (Or.inr rfl)) (Zq (Us (i:=1) (show List.Nodup (["name","counts","seam","scene"]:List Str) from by decide +kernel) rfl (Or.inl rfl) (Or.inr rfl)) Ym)))) (Q:) (K:) (λ_ _ _ _ _ _=>Vu (pv 0) (pcT (Zac T) hr T.bR (Za (Zil K (pv 3) rfl) (Za (pv 1) (y:))))))))
      (Zp (Z1 (psN 7 Xb.nd (pcT (Zf7 T) hr T.fh (Za (b3:) (Za (b3:) (A:))))))
      (Zp (Z1 (Gm (Wn PassesOwn.never rfl (Zch (pv 7) ⟨rfl,rfl,rfl⟩) (pgN 8 Xb.nd) (Zh (Z5 (pcT (O6 T) hr T.bC (Za (pv 8) Zb)))))))
      (Zr (Z1 (Zl (Jz T.cz (Wz T) (ai:) rfl T.cm T.aC.b .nil Yv (Za (pv 3) (Za (pv 4) (Za (pv 6) (Za (pv 7) Zb)))))))))))))),?_⟩
    refine Xf (λσ H'=>∃ lq:Addr,σ=[oR sc,oI x,oS ke,oR lq,none,none,none,none,none]/\Same H H'/\∃ a b,Mv M ns x a b) (D:) ?_
    · exact ⟨pc,T.ac,T.al,te,M,ns,x,ke,Y,ta,td,⟨λz=>absurd sg z,λ_ hx=>R.no hx _,λ_ H' s' hx e=>R.rim hx e _,λ_ H' s' hx e=>R.lock hx e _,λ_ a b H' s' e hl m h3 p' su ta'=>kc _ _ ⟨p',Y,s',a,b,m,hl,(Xd.mp (e ▸ mem_cons_self)).2,h3⟩⟩⟩
    rintro σ H1 ⟨lq,rfl,s1,a,b,mvv⟩;have kQ:=R.ok a b mvv;have emp:∀ {H0:Hp} {d:Addr} {o:Obj} {b:Addr} {u:HO},H0 d=some (.dK [])->∀ {H9:Hp},(∀ b u,b≠d->H0 b=some u->H9 b=some u)->H0 b=some u->(upd H9 d (.dK [])) b=some u:=λ{H0 d o b u} hd H9 s9 e=>by
      by_cases z:b=d
      · subst z; rw [hd] at e; rw [Zc]; exact e
      · rw [Ze z]; exact s9 b u z e
    refine Xf (λσ H'=>∃ D:Addr,σ=[oR sc,oI x,oS ke,oR lq,oR D,none,none,none,none]/\Same H1 H'/\H1 D=none/\H' D=some (.dK [])) (D:) ?_
    · refine ⟨s1 _ _ pc,T.ac,T.am,th,_,Y,.inl ⟨s1 _ _ t8,λo=>?_⟩⟩
      intro D hD;obtain ⟨qw,md⟩:=Wh hD;refine Vc (kvs:=[]) (λi σ H3=>∃ v0 v1,σ=[v0,v1,oI x,oS ke,oR sc]/\(∀ b u,b≠th->H1 b=some u->H3 b=some u)/\H3 th=some (.frz o (.dK []))/\H3 D=some (.dK [])) ⟨none,none,Y,λb u hb e=>by rw [Ze (Zk e md),Ze hb]; exact e,by rw [Ze (Ne.symm qw),Zc],Zc⟩ ?_ ?_ ?_
      · rintro i σ H3 _ ⟨v0,v1,rfl,_,e,_⟩
        exact e
      · rintro i k0 x0 σ H3 q pd hq
        simp at pd
      · rintro σ H3 ⟨v0,v1,rfl,s3,e3,h3⟩
        refine ⟨th,o,_,e3,(λo' u z=>by have z:H th=some (.frz o' u):=z; rw [t8] at z; cases z),?_⟩;exact kc _ _ ⟨D,Y,λb u e=>emp (o:=o) (s1 _ _ t8) s3 e,md,by rw [Ze qw]; exact h3⟩
    rintro σ H2 ⟨D,rfl,s2,hD,h2⟩;refine Xf (λσ H'=>∃ v,σ=[oR sc,oI x,oS ke,oR lq,oR D,v,none,none,none]/\Same H2 H') (D:) ?_
    · refine ⟨D,_,Y,.inl ⟨h2,λo=>?_⟩⟩
      refine Zah (kvs:=[]) (λi σ H3=>σ=[oR sc,oI x,oS ke,oR lq,oR D,none,none,none,none]/\(∀ b u,b≠D->H2 b=some u->H3 b=some u)/\H3 D=some (.frz o (.dK []))) ⟨Y,λb u hb e=>by rw [Ze hb]; exact e,Zc⟩ ?_ ?_ ?_
      · rintro i σ H3 _ ⟨rfl,_,e⟩
        exact e
      · rintro i k0 x0 σ H3 pd
        simp at pd
      · rintro σ H3 ⟨rfl,s3,e3⟩
        have hD0:H D=none:=s1.free hD;exact ⟨D,o,_,e3,(λo' u z=>by have z:H D=some (.frz o' u):=z; rw [hD0] at z; cases z),kc _ _ ⟨none,rfl,λb u e=>emp (o:=o) h2 s3 e⟩⟩
    rintro σ H3 ⟨v5,rfl,s3⟩;have k8:=s1.trans (s2.trans s3);have i3:=k8 _ _ pc;have yu:=k8 _ _ ub;refine Xf (λσ H'=>∃ (D2:Addr) (L':List (Str × V)),σ=[oR sc,oI x,oS ke,oR lq,oR D,v5,oR D2,none,none]/\Same H3 H'/\H' D2=some (.dK (dS L'))/\L'.map (·.1)=L.map (·.1)) (D:) ?_
    · refine ⟨i3,T.ac,T.av,po,_,Y,.inl ⟨yu,λo=>?_⟩⟩
      intro D2 hD;obtain ⟨qw,md⟩:=Wh hD;refine Vc (kvs:=dS L) (λi σ H4=>∃ (v0 v1:Option V) (Li:List (Str × V)),σ=[v0,v1,oI x,oR sc]/\(∀ b u,b≠po->H3 b=some u->H4 b=some u)/\H4 po=some (.frz o (.dK (dS L)))/\H4 D2=some (.dK (dS Li))/\Li.map (·.1)=(L.take i).map (·.1)) ⟨none,none,[],Y,λb u hb e=>by rw [Ze (Zk e md),Ze hb]; exact e,by rw [Ze (Ne.symm qw),Zc],Zc,Y⟩ ?_ ?_ ?_
      · rintro i σ H4 _ ⟨v0,v1,Li,rfl,_,e,_⟩
        exact e
      · rintro i k0 x0 σ H4 q pd hq ⟨v0,v1,Li,rfl,s4,e4,hD4,hLi⟩
        obtain ⟨kv,ww,rfl,rfl⟩:=Zpm pd;obtain ⟨c,g,ec,ct⟩:=hL kv (Au ww);have nv:i < L.length:=(Aa ww).1
        have hcpo:c≠po:=λz=>by
          obtain ⟨kk,e,pm⟩:=ct;rw [z,ub] at e
          injection e with e
          injection e with e
          cases kk with
          | nil=>cases L with
            | nil=>simp at nv
            | cons _ _=>cases e
          | cons y r=>cases L with
            | nil=>cases e
            | cons _ _ =>
              injection e with e _
              injection e with e _
              cases e
        have sq:Same H4 (upd H4 q (a7:)):=Same.new hq;have vm:(upd H4 q (a7:)) q=some (a7:):=Zc;generalize upd H4 q (.tup [kV (Sum.inr kv.1),kv.2])=H5 at sq vm ⊢;have s5:∀ b u,b≠po->H3 b=some u->H5 b=some u:=λb u hb e=>sq _ _ (s4 b u hb e);have ne:∀ {b:Addr} {u:HO},H3 b=some u->(∀ kvs,u≠.dK kvs)->H5 b=some u:=λ{b u} e hu=>s5 b u (λz=>by rw [z,yu] at e; cases e; exact hu _ Y) e;have ta5:Z4 t.aa H5 te M ns:=(ta.same k8).sameD λb u hu e=>ne e hu;have ct5:Ox H5 c ns g:=by obtain ⟨kk,e,pm⟩:=ct; exact ⟨kk,s5 _ _ hcpo (k8 _ _ e),pm⟩
        dsimp only [Zm];refine ⟨q,_,Y,SqT.of vm,Y,_,_,Y,_,_,Y,Y,?_⟩;dsimp only [Zm,tYes];rw [if_pos rfl,ec];have mm:kv.1 ∉ Li.map (·.1):=λz=>by
          rw [hLi] at z
          obtain ⟨y,hy,e⟩:=mem_map.mp z
          rw [<- take_append_drop i L,Aj,nodup_append] at nd
          refine nd.2.2 y.1 (mem_map.mpr ⟨y,hy,Y⟩) kv.1 ?_ e
          rw [drop_eq_getElem_cons nv,(Aa ww).2]
          exact mem_cons_self
        have hLl:Li.length=i:=by have:=congrArg List.length hLi; rw [Ab,Ab,Ai] at this; lia
        refine ⟨ne i3 (d2:),T.ac,T.al,te,c,M,ns,g,x,a,b,Y,ta5,td,ct5,mvv,λl2 H6 s6 hl=>?_⟩;refine ⟨_,Sum.inr kv.1,Y,s6 _ _ (sq _ _ hD4),by rw [Gc]; exact Zo (by lia),_,_,Li ++ [(kv.1,.ref l2)],Y,λb u hb e=>?_,?_,?_,?_⟩
        · rw [Ze (Zk e md)]; exact s6 _ _ (s5 b u hb e)
        · rw [Ze (Ne.symm qw)]; exact s6 _ _ (sq _ _ e4)
        · rw [Zc,Zgy mm]
        · rw [Aj,hLi,Aw,ww,Aj]; rfl
      · rintro σ H4 ⟨v0,v1,Li,rfl,s4,e4,hD4,hLi⟩
        rw [Gc,take_length] at hLi;refine ⟨po,o,_,e4,(λo' u z=>by have z:H po=some (.frz o' u):=z; rw [ub] at z; cases z),?_⟩;exact kc _ _ ⟨D2,Li,Y,Zrh yu s4,by rw [Ze qw]; exact hD4,hLi⟩
    rintro σ H4 ⟨D2,L',rfl,s4,md,hL'⟩;have m6:=k8.trans s4;have hsc4:=m6 _ _ pc;refine Xf (λσ H'=>∃ (d':Addr),σ=[oR sc,oI x,oS ke,oR lq,oR D,v5,oR D2,oR d',none]/\Same H4 H'/\H4 d'=none/\∃ g,WAt H' d' ks g/\∀ y∈ks,SmP 16 (g y)) (D:) ?_
    · refine ⟨hsc4,T.ac,T.al,hsc4,T.ac,T.aB,te,wo,M,ns,ks,x,a,b,Y,ta.same m6,td,k9,hwo.same m6,hsw,mvv,λd' H' g s' qv hw' sm=>kc _ _ ⟨d',Y,s',qv,g,hw',sm⟩⟩
    rintro σ H5 ⟨d',rfl,s5,qv,g,⟨ad,w1,w2⟩,sm⟩;refine Xf (λσ H'=>∃ v,σ=[oR sc,oI x,oS ke,oR lq,oR D,v5,oR D2,oR d',v]/\Same H4 H') (D:) ?_
    · refine ⟨d',_,Y,.inl ⟨w1,λo=>?_⟩⟩
      have xf:∀ y∈ks,ad y≠d':=λy hy z=>by have:=w2 y hy; rw [z,w1] at this; cases this
      refine Zah (kvs:=wD ks ad) (λi σ H6=>∃ v,σ=[oR sc,oI x,oS ke,oR lq,oR D,v5,oR D2,oR d',v]/\(∀ b u,b≠d'->H5 b=some u->H6 b=some u)/\H6 d'=some (.frz o (.dK (wD ks ad)))) ⟨none,Y,λb u hb e=>by rw [Ze hb]; exact e,Zc⟩ ?_ ?_ ?_
      · rintro i σ H6 _ ⟨v,rfl,_,e⟩
        exact e
      · rintro i k0 x0 σ H6 pd ⟨v,rfl,s6,e6⟩
        obtain ⟨y,hy,rfl,rfl⟩:=Zo6 pd;have ql:=Au hy;refine ⟨ad y,_,Y,s6 _ _ (xf y ql) (w2 y ql),λ_ _=>⟨_,Y,s6,e6⟩,λz=>?_⟩;obtain ⟨_,b1,_,b2⟩:=sm y ql;have big:(16:Nat) < 10 ^ 60:=by decide +kernel
        rcases z with z | z
        · exact absurd (Nat.lt_of_le_of_lt b1 big) (Nat.lt_asymm z)
        · exact absurd (Nat.lt_of_le_of_lt b2 big) (Nat.lt_asymm z)
      · rintro σ H6 ⟨v,rfl,s6,e6⟩
        have hd0:H d'=none:=m6.free qv;refine ⟨d',o,_,e6,(λo' u z=>by have z:H d'=some (.frz o' u):=z; rw [hd0] at z; cases z),kc _ _ ⟨v,rfl,λb u e=>?_⟩⟩;rw [Ze (Zk e qv)];exact s6 b u (Zk e qv) (s5 b u e)
    rintro σ H6 ⟨v8,rfl,s6⟩;intro r dr xy hdr uj;refine ⟨r,dr,_,_,_,_,Y,Zc,Y,?_⟩;rw [Wt];have s7:=Same.add (o:=.ins t.ah dr (X9 (.ref lq) (.ref D) (.ref D2) (.ref d'))) (Same.new (o:=.own r) hdr) xy;exact kQ r dr _ _ D D2 L' _ (m6.trans (s6.trans s7)) ((m6.trans s6).free xy) Zc (s7 _ _ (s6 _ _ (s4 _ _ (s3 _ _ h2)))) (s7 _ _ (s6 _ _ md)) hL'
def Ki:FnScope ["self","seam","way","behind"] ["self","seam","way"] (Zg Fp):=Am
def Zge (T:Txt w K mg t):(a:) 9 t.d5 t.eV ["self","seam","way"] (Ze5 t):=by
 refine T.cx.F.aX Ki (b:)
 ·obtain ⟨p,st,x,ke,H0,M,ns,ks,l,n,rfl,hz,td,k9,sw,hn,hl,nd,x0,x1,sg,R⟩:=h
  obtain ⟨dx,be,sc,un,lf,te,wo,th,po,L,qs,B,rfl,rfl,F⟩:=hz.ex;obtain ⟨lq,m9,rfl,rfl,hF⟩:=F rfl;refine ⟨_,(Zp (Qf (i:=3) Ki.nd Y (Or.inl Y) (pxT (Zbe T) hr T.cu (Za (Zz (pv 0) Y) (Za (pv 1) (y:)))))
   (Zr (Z1 (Z5 (Xr (pv 0) T.ai T.ao.m (Js T) (ai:) T.ao.b .nil Yv (Za (pcT (Uc T) hr T.bB (Za (Yz (Za Zj (Za (pv 1) (y:)))) Zb)) (Za (pv 3) Zb))))))),?_⟩
  rw [Ab] at hl;have i1:=B.low _ _ B.scn;refine ⟨B.ins,T.ai,T.aq,sc,lf,lq,th,po,m9,L,M,ns,ks,x,ke,Y,i1,B.low _ _ B.thr,B.low _ _ B.poo,hl,nd,(F Y).same B.low,td,k9,sw,sg,R.no,R.rim,R.lock,λa b mv r dr te2 wo2 th2 po2 L' H1 s1 oq h1 h2 h3 h4=>?_⟩;have k:=R.ok a b mv;have s2:∀ {l2:Addr},H1 l2=none->Same H1 (upd H1 l2 (.lst [V.str (Str.ofString "turn"),V.int x,V.str ke])):=λh=>Same.new h;refine ⟨s1 _ _ B.ins,Y,(szR Y),λl2 nj=>⟨l2,[.inl (Str.ofString "turn"),.inr x,.inl ke],rfl,Zc,(by show 3<=900; decide),λy hy=>?_,?_,λH7 s7=>?_⟩⟩
  ·rcases Ar hy with rfl | hy
   ·exact True.intro
   ·rcases Ar hy with rfl | hy
    ·exact ⟨x0,x1⟩
    ·rw [Af hy]; exact True.intro
  ·show (4 + ((figS x).length + (ke.length + 0))) + 3<=1048576
   have:=Zgv x0 x1
   have hw:ke.length<=5:=by rcases sg with rfl | rfl <;> decide
   lia
  have s17:=(s2 nj).trans s7;generalize Txt.join (Str.ofString " ") _=rr;refine B.entr (E:=E) (s1.trans s17) hn (fr:=false) (s17 _ _ h1) (λz=>by rw [z,B.ins] at oq; cases oq) (s17 _ _ h2) (s17 _ _ h3) (λz=>nomatch z) (λH' lu s' h'=>k H' lu s' (by rw [<- h4]; exact h'))
inductive Tg | ta | th | ma | co | un | wi | uk | se | ri | lo | fr | gr
noncomputable def Tg.cls (t:Adr):Tg->Addr
 | .ta=>t.cD | .th=>t.aJ | .ma=>t.aU | .co=>t.aF | .un=>t.b9 | .wi=>t.fQ | .uk=>t.bo | .se=>t.az | .ri=>t.cL | .lo=>t.aG | .fr=>t.ay | .gr=>t.aK
abbrev Ot:=Tg ⊕ (List Str × Bool)
def PrT (ns ks:List Int) (g:Int->Int) (s:List Str × Bool) (r:Ot):Prop :=
 (¬ ks.Perm (o:)\/rimN ns g)/\r=.inl .co\/ks.Perm (o:)/\¬ rimN ns g/\((∃ k,k < ns.length / 3/\odB ns g k=true)/\r=.inl .un\/(¬ ∃ k,k < ns.length / 3/\odB ns g k=true)/\((∃ k,k < ns.length / 3/\wdB ns g k=true)/\r=.inl .wi\/(¬ ∃ k,k < ns.length / 3/\wdB ns g k=true)/\r=.inr s))
def WgT (ns:List Int) (x a b:Int) (l:List Str) (r:Ot):Prop :=
 x ∉ keys ns ns.length/\r=.inl .se\/x∈keys ns ns.length/\(Zu ns x="rim"/\r=.inl .ri\/Zu ns x≠"rim"/\(a=0/\b=3/\r=.inl .fr\/a=1/\b=9999999999999999999999999999999999999999999999999999999999999/\r=.inl .gr\/a=1/\b=2/\r=.inr (l,false)))
def TrT (ns:List Int) (x:Int) (l:List Str) (r:Ot):Prop :=
 x ∉ keys ns ns.length/\r=.inl .se\/x∈keys ns ns.length/\(Zu ns x="rim"/\r=.inl .ri\/Zu ns x="locked"/\r=.inl .lo\/Zu ns x="free"/\r=.inr (l,false))
def DoD (M:Lq) (ns:List Int) (l:List Str) (fr:Bool):Dd->Ot->Prop
 | .lay x ws,r=>fr=true/\Wd x/\isN x=true/\ws.length<=1000/\(x∈l/\r=.inl .ta\/x ∉ l/\(Xv M ws=false/\r=.inl .th\/Xv M ws=true/\400 < ws.length/\r=.inl .ma))
 | .lift x,r=>Wd x/\(x ∉ l/\r=.inl .uk\/x∈l/\r=.inr (l.filter λy=>decide (y≠x),fr))
 | .pour x ks g,r=>fr=true/\Wd x/\isN x=true/\x ∉ l/\ks.length < 64/\(∀ y∈ks,0<=g y/\g y<=9)/\PrT ns ks g (l ++ [x],true) r
 | .weigh x a b,r=>fr=true/\WgT ns x a b l r
 | .turn x w,r=>fr=true/\(w="left"\/w="right")/\0<=x/\x < 1000000000000000000000000000000000000000000000000000000000000/\TrT ns x l r
inductive Runs (M:Lq) (ns:List Int):List Str->Nat->Bool->List Dd->Tg ⊕ Nat->Prop
 | nil {l n fr}:Runs M ns l n fr [] (.inr n)
 | bad {l n fr D Ds g}:DoD M ns l fr D (.inl g)->Runs M ns l n fr (D :: Ds) (.inl g)
 | ok {l n fr D Ds l' fr' r}:DoD M ns l fr D (.inr (l',fr'))->l'.Nodup->l'.length<=800->Runs M ns l' (n + 1) fr' Ds r->Runs M ns l n fr (D :: Ds) r
def Zjo (t:Adr):Sp:=λvs H Q E=>∃ (p u st:Addr) (D:Dd) (H0:Hp) (M:Lq) (ns ks:List Int) (l:List Str) (n:Nat) (fr:Bool) (r:Ot),vs=[.ref p,.ref u]/\HZ t H H0 p st M ns ks l n fr/\DdAt H u D/\TD M ns/\ns.length < 64/\SwK M ns ks/\n<=800/\l.length<=800/\l.Nodup/\DoD M ns l fr D r /\
 (∀ g,r=.inl g->∀ H',E (.ref (g.cls t)) none H')/\(∀ l' fr',r=.inr (l',fr')->∀ H' lu,Same H0 lu->HZ t H' lu p st M ns ks l' (n + 1) fr'->Q .non H')
noncomputable def cloS:Str:=Str.ofString "cloth "
def Zdy:Sp:=λvs H Q _=>∃ (a:Addr) (C D:List Str),vs=[.ref a]/\H a=some (.lst (d1:))/\(∀ c∈C,Txt.startswith c cloS=true)/\(∀ d∈D.head?,Txt.startswith d cloS=false)/\Q (.int C.length) H
def Znq (t:Adr):Sp:=λvs H Q _=>∃ (p st:Addr) (H0:Hp) (M:Lq) (ns ks:List Int) (l:List Str) (n:Nat) (fr:Bool),vs=[.ref p]/\HZ t H H0 p st M ns ks l n fr/\n<=800/\∀ (a:Addr) (ys:List V) (H':Hp),H' a=some (.lst ys)->ys.length=n->Q (.ref a) H'
def CloR (c:Str) (i j k:Int):Prop:=c.length<=5000/\∃ a b d e,wdS c=[a,b,d,e]/\Wd b/\Wd d/\Wd e/\numP b=some i/\numP d=some j/\numP e=some k
structure RdT (M:Lq) (ns:List Int) (x:Str) (C D:List Str) (Ds:List Dd) (r:Tg ⊕ Nat):Prop where
 xl:x.length<=2000000
 sp:Txt.split x (dr:)=C ++ D
 len:C.length + D.length<=500
 c0:C≠[]
 hC:∀ c∈C,Txt.startswith c cloS=true
 hD:∀ d∈D.head?,Txt.startswith d cloS=false
 dl:D.length=Ds.length
 rd:∀ (i:Nat) d y,D[i]?=some d->Ds[i]?=some y->d.length<=50000/\Rdo (wdS d) y
 n1:ns.length=3 * C.length
 n2:ns.length < 64
 td:TD M ns
 cl:∀ (k:Nat) c,C[k]?=some c->CloR c (ns.getD (3 * k) 0) (ns.getD (3 * k + 1) 0) (ns.getD (3 * k + 2) 0)
 run:Runs M ns [] 0 true Ds r
def Zp1 (t:Adr):Sp:=λvs H Q E=>∃ (x:Str) (C D:List Str) (Ds:List Dd) (M:Lq) (ns:List Int) (r:Tg ⊕ Nat),vs=[.str x]/\RdT M ns x C D Ds r/\(∀ g,r=.inl g->∀ H',E (.ref (g.cls t)) none H')/\(∀ n,r=.inr n->∀ p st H0 H' ks l fr,HZ t H' H0 p st M ns ks l n fr->Q (.ref p) H')
def Runs.le {M:Lq} {ns:List Int} {l:List Str} {n m:Nat} {fr:Bool} {Ds:List Dd} {r:Tg ⊕ Nat} (h:Runs M ns l n fr Ds r) (e:r=.inr m):m=n + Ds.length:=by
 induction h with
 | nil=>cases e; rfl
 | bad _=>cases e
 | ok _ _ _ _ ih=>have:=ih e; rw [length_cons]; lia
def cutA (C D:List Str):cutV (d1:) none (some (C.length:Int))=C.map V.str:=by
 unfold cutV;rw [HT.sIx_nat];show List.take (min C.length _ - 0) (List.drop 0 _)=_;rw [drop_zero,Ab,Ae,Nat.min_eq_left (by lia),Nat.sub_zero,Aj,<- Ab (f:=V.str),take_left]
def cutB (C D:List Str):cutV (d1:) (some (C.length:Int)) none=D.map V.str:=by
 unfold cutV;rw [HT.sIx_nat];show List.take ((d1:).length - min C.length _) (List.drop (min C.length _) _)=_;rw [Ab,Ae,Nat.min_eq_left (by lia),Aj];rw [show List.drop C.length (C.map V.str ++ D.map V.str)=D.map V.str by rw [<- Ab (f:=V.str) (as:=C),drop_left]];rw [Nat.add_sub_cancel_left,<- Ab (f:=V.str),take_length]
def W3:FnScope ["rows","many"] ["rows"] (Zg Qw):=Am
def Ka (T:Txt w K mg t):(a:) 1 t.aV t.aW ["rows"] Zdy:=by
 refine T.a6.F.aR W3 (b:)
 ·obtain ⟨a,C,D,rfl,ha,hC,hD,k⟩:=h
  refine ⟨_,(Zf (psN 1 W3.nd Zd)
   (Zf (Qg PassesOwn.never (PW.pt (Kt (Zs Jr (pv 1) (ck:) (Zn _)) (Up (Jn (W4 PySem.F.plainAttrs_str PySem.F.slot_str_startswith PySem.F.type_str_startswith O8 (Zt Zv (pv 0) (pv 1) (j:)) (bl:)))))) (Zh (Zll (i:=1) W3.nd rfl (Or.inl rfl) Zd Zst)))
   (Zh (Zl (pv 1))))),?_⟩;refine Zw λky j5=>j5 _ _ ?_
  try dsimp only [Zm]
  refine Z0 (λσ H'=>σ=[oR a,some (.int C.length)]/\H=H') (D:) ?_
  ·refine ⟨λm σ H'=>∃ i:Nat,i<=C.length/\m=C.length - i/\σ=[oR a,oI i]/\H=H',⟨C.length,0,Az _,Y,Y,Y⟩,?_⟩
   rintro m σ H1 ⟨i,hi,rfl,rfl,rfl⟩;refine ⟨a,_,Y,.inl (SqL.of ha),?_⟩;by_cases kn:i < (C ++ D).length
   ·have he:=Ac kn
    generalize (C ++ D)[i]=x at he;refine iteY (by rw [Ab]; lia) ⟨SqL.of ha,X4 he,rfl,x,cloS,rfl,rfl,?_⟩;by_cases hc:i < C.length
    ·rw [Av hc] at he
     rw [hC x (Au he)];refine iteT ⟨λσ' H'=>σ'=[some (.ref a),some (.int ((i:Int) + 1))]/\H=H',λσ' H' z=>⟨C.length - (i + 1),by lia,i + 1,hc,Y,by rw [z.1]; rfl,z.2⟩,?_⟩;exact ⟨_,Y,_,_,Y,Y,Y,Y⟩
    ·have e:i=C.length:=by lia
     subst e;rw [getElem?_append_right (An _),Nat.sub_self,<- head?_eq_getElem?] at he;rw [hD x he];exact iteF (kc _ _ ⟨Y,Y⟩)
   ·have e:i=C.length:=by rw [Ae] at kn; lia
    subst e;exact iteN (by rw [Ab]; lia) (iteF (kc _ _ ⟨rfl,rfl⟩))
  rintro σ H1 ⟨rfl,rfl⟩;exact k
def Zd8:FnScope ["self"] ["self"] (Zg Kp):=Am
def Zeb (T:Txt w K mg t):(a:) 1 t.de t.dq ["self"] (Znq t):=by
 refine T.bE.F.aR Zd8 (b:)
 ·obtain ⟨p,st,H0,M,ns,ks,l,n,fr,rfl,hz,hn,k⟩:=h
  obtain ⟨dx,be,sc,un,lf,te,wo,th,po,L,qs,B,rfl,rfl,_⟩:=hz.ex;refine ⟨_,(Zh (Zl (Yn (ts:=["text","earlier"]) (fv:=[]) (i:) rfl (Yh (b3:)) (λ_ _ _ _=>(Jh (n:=2) K rfl (Zq (pgN 0 nd2) (Zq (pgN 1 nd2) Ym)))) (Q:) (K:) (dz:)))),?_⟩;refine ⟨B.ins,T.ai,T.aQ,st,Y,⟨_,SqL.of B.sta⟩,λD hD=>?_⟩;refine Yc (xs:=qs.map V.ref) (λi σ H6=>∃ (v0 v1:Option V) (ys:List V),σ=[v0,v1]/\Same H H6/\H6 D=some (.lst ys)/\ys.length=i) ⟨none,none,[],Y,Same.new hD,Zc,Y⟩ ?_ ?_ ?_
  ·rintro i σ H6 _ ⟨v0,v1,ys,rfl,s6,_⟩
   exact SqL.of (s6 _ _ B.sta)
  ·rintro i y σ H6 hy ⟨v0,v1,ys,rfl,s6,h6,hl⟩
   obtain ⟨q,hq,rfl⟩:=map_some hy;obtain ⟨x,v,e⟩:=B.old q (Au hq);have nv:=(Aa hq).1;refine ⟨q,_,Y,SqT.of (s6 _ _ (B.low _ _ e)),Y,_,_,Y,_,_,Y,Y,?_⟩;dsimp only [Zm,tYes];rw [if_pos rfl];exact ⟨_,h6,Zo (by lia),_,_,_,Y,Same.add s6 hD,Zc,by rw [Ae,hl]; rfl⟩
  ·rintro σ H6 ⟨v0,v1,ys,rfl,s6,h6,hl⟩
   exact k D ys H6 h6 (by rw [hl,Ab])
def Oc:FnScope ["hall","deed","verb","parts"] ["hall","deed"] (Zg Zc5):=Am
def Zj8 (T:Txt w K mg t):(a:) 10 t.gM t.gX ["hall","deed"] (Zjo t):=by
 refine T.hJ.F.aX Oc (b:)
 ·obtain ⟨p,u,st,D,H0,M,ns,ks,l,n,fr,r,rfl,hz,⟨m,hu1,hm⟩,td,k9,sw,hn,hl,nd,hd,kE,kQ⟩:=h
  refine ⟨_,(Zp (Z1 (Xu (pv 1) (Wr Y (Zq (pgN 2 Oc.nd) (Zq (pgN 3 Oc.nd) Ym)))))
   (Zr (Y9 (dn:) (Zr (Yt (Wj (pv 0) T.ai T.cY.m (Zhv T) (ai:) T.cY.b .nil (bq:)))) (Zr (Y9 (dn:) (Zr (Yt (Wj (pv 0) T.ai T.cv.m (Zgf T) (ai:) T.cv.b .nil (bq:)))) (Zr (Y9 (dn:) (Zr (Yt (Wj (pv 0) T.ai T.cw.m (Zgg T) (ai:) T.cw.b .nil (Za (Zt Yr (pv 3) Zd (j:)) Zb)))) (Zr (Y9 (dn:) (Zr (Yt (Wj (pv 0) T.ai T.bD.m (Zea T) (ai:) T.bD.b .nil (Za (Zt Yr (pv 3) Zd (j:)) (bq:))))) (Zr (Yt (Wj (pv 0) T.ai T.cx.m (Zge T) (ai:) T.cx.b .nil (bq:))))))))))))),?_⟩;refine ⟨u,_,Y,SqT.of hu1,Y,_,_,Y,_,_,Y,Y,?_⟩;obtain ⟨dx,be,sc,un,lf,te,wo,th,po,L,qs,B,_⟩:=hz.ex
  cases D with
  | lay x ws =>
   obtain ⟨rfl,hx,hN,hw,hc⟩:=hd;obtain ⟨a,h1,h2⟩:=hm;refine ⟨Y,iteT ⟨B.ins,Y,SqT.of h1,Y,SqT.of h1,Y,p,a,st,x,ws,H0,M,ns,ks,l,n,Y,hz,td,hx,hN,h2,hw,?_⟩⟩
   rcases hc with ⟨c,rfl⟩ | ⟨c,⟨c2,rfl⟩ | ⟨c2,c3,rfl⟩⟩
   ·exact .inl ⟨c,kE .ta Y⟩
   ·exact .inr ⟨c,.inl ⟨c2,kE .th Y⟩⟩
   ·exact .inr ⟨c,.inr ⟨c2,c3,kE .ma Y⟩⟩
  | pour x ms g =>
   obtain ⟨rfl,hx,hN,sj,wv,hg,hc⟩:=hd;obtain ⟨a,h1,h2⟩:=hm;refine ⟨Y,iteF ⟨Y,iteT ⟨B.ins,Y,SqT.of h1,Y,SqT.of h1,Y,p,a,st,x,H0,M,ns,ks,ms,g,l,n,Y,hz,td,k9,hn,hl,hx,hN,sj,h2,wv,λy hy=>(hg y hy).2,λy hy=>(hg y hy).1,λnp=>?_,λpm r1=>?_,λpm r1 r2=>?_,λpm r1 r2 r3=>?_,λpm r1 r2 r3=>?_⟩⟩⟩
   ·rcases hc with ⟨_,rfl⟩ | ⟨z,_⟩
    ·exact kE .co Y
    ·exact absurd z np
   ·rcases hc with ⟨_,rfl⟩ | ⟨_,z,_⟩
    ·exact kE .co Y
    ·exact absurd r1 z
   ·rcases hc with ⟨z,_⟩ | ⟨_,_,⟨_,rfl⟩ | ⟨z,_⟩⟩
    ·exact absurd z (λz=>z.elim (λq=>q pm) r1)
    ·exact kE .un Y
    ·exact absurd r2 z
   ·rcases hc with ⟨z,_⟩ | ⟨_,_,⟨z,_⟩ | ⟨_,⟨_,rfl⟩ | ⟨z,_⟩⟩⟩
    ·exact absurd z (λz=>z.elim (λq=>q pm) r1)
    ·exact absurd z r2
    ·exact kE .wi Y
    ·exact absurd r3 z
   ·rcases hc with ⟨z,_⟩ | ⟨_,_,⟨z,_⟩ | ⟨_,⟨z,_⟩ | ⟨_,rfl⟩⟩⟩
    ·exact absurd z (λz=>z.elim (λq=>q pm) r1)
    ·exact absurd z r2
    ·exact absurd z r3
    ·exact kQ _ _ Y
  | lift x =>
   obtain ⟨hx,hc⟩:=hd;have hm:H m=some (.tup [.str x]):=hm;refine ⟨Y,iteF ⟨Y,iteF ⟨Y,iteT ⟨B.ins,Y,SqT.of hm,Y,p,st,x,H0,M,ns,ks,l,n,fr,Y,hz,hn,hl,nd,hx,?_⟩⟩⟩⟩
   rcases hc with ⟨c,rfl⟩ | ⟨c,rfl⟩
   ·exact .inl ⟨c,kE .uk Y⟩
   ·exact .inr ⟨c,kQ _ _ Y⟩
  | weigh x a b =>
   obtain ⟨rfl,hc⟩:=hd;have hm:H m=some (.tup [.int x,.int a,.int b]):=hm;refine ⟨Y,iteF ⟨Y,iteF ⟨Y,iteF ⟨Y,iteT ⟨B.ins,Y,SqT.of hm,Y,SqT.of hm,Y,SqT.of hm,Y,p,st,x,a,b,H0,M,ns,ks,l,n,Y,hz,td,k9,sw,hn,λc=>?_,λc=>⟨λc2=>?_,λc2=>?_⟩⟩⟩⟩⟩⟩
   ·rcases hc with ⟨_,rfl⟩ | ⟨z,_⟩
    ·exact kE .se Y
    ·exact absurd z c
   ·rcases hc with ⟨z,_⟩ | ⟨_,⟨_,rfl⟩ | ⟨z,_⟩⟩
    ·exact absurd c z
    ·exact kE .ri Y
    ·exact absurd c2 z
   ·rcases hc with ⟨z,_⟩ | ⟨_,⟨z,_⟩ | ⟨_,⟨e1,e2,rfl⟩ | ⟨e1,e2,rfl⟩ | ⟨e1,e2,rfl⟩⟩⟩
    ·exact absurd c z
    ·exact absurd z c2
    ·exact .inl ⟨e1,e2,kE .fr Y⟩
    ·exact .inr (.inl ⟨e1,e2,kE .gr Y⟩)
    ·exact .inr (.inr ⟨e1,e2,kQ _ _ Y⟩)
  | turn x ke =>
   obtain ⟨rfl,sg,x0,x1,hc⟩:=hd;have hm:H m=some (.tup [.int x,.str ke]):=hm;refine ⟨Y,iteF ⟨Y,iteF ⟨Y,iteF ⟨Y,iteF ⟨B.ins,Y,SqT.of hm,Y,SqT.of hm,Y,p,st,x,ke,H0,M,ns,ks,l,n,Y,hz,td,k9,sw,hn,hl,nd,x0,x1,sg,⟨λc=>?_,λc c2=>?_,λc c2=>?_,λa b mv=>?_⟩⟩⟩⟩⟩⟩
   ·rcases hc with ⟨_,rfl⟩ | ⟨z,_⟩
    ·exact kE .se Y
    ·exact absurd z c
   ·rcases hc with ⟨z,_⟩ | ⟨_,⟨_,rfl⟩ | ⟨z,_⟩ | ⟨z,_⟩⟩
    ·exact absurd c z
    ·exact kE .ri Y
    ·rw [c2] at z; exact absurd z (c:)
    ·rw [c2] at z; exact absurd z (c:)
   ·rcases hc with ⟨z,_⟩ | ⟨_,⟨z,_⟩ | ⟨_,rfl⟩ | ⟨z,_⟩⟩
    ·exact absurd c z
    ·rw [c2] at z; exact absurd z (c:)
    ·exact kE .lo Y
    ·rw [c2] at z; exact absurd z (c:)
   ·obtain ⟨c,hp⟩:=mv.two td
    have c2:Zu ns x="free":=by unfold Zu; rw [hp]; exact if_neg mv.ab
    rcases hc with ⟨z,_⟩ | ⟨_,⟨z,_⟩ | ⟨z,_⟩ | ⟨_,rfl⟩⟩
    ·exact absurd c z
    ·rw [c2] at z; exact absurd z (c:)
    ·rw [c2] at z; exact absurd z (c:)
    ·exact kQ _ _ Y
def Qc:FnScope ["text","rows","many","cloths","deeds","hall","deed"] ["text"] (Zg Zlh):=Am
def Zql (T:Txt w K mg t):(a:) 11 t.jt t.ju ["text"] (Zp1 t):=by
 refine T.jy.F.okLA Qc (λvs H Q E h=>?_) (b:)
 ·obtain ⟨x,C,D,Ds,M,ns,r,rfl,_⟩:=h
  rfl
 ·obtain ⟨x,C,D,Ds,M,ns,r,rfl,⟨sj,mz,j7,hC0,hC,hD,hDl,hDs,hn1,tf,td,hn3,hrun⟩,kE,kQ⟩:=h
  refine ⟨_,(λ_ L=>(Wb (Jc L.l (Z1 (psN 1 Qc.nd (ba:))))
   (Wb (Jc L.l (Z1 (psN 2 Qc.nd (pcT (Ka T) hr T.a6 (A:)))))
   (Wb (Jc L.l (Z1 (Z5 (pcT (Yq T) hr T.aj (Za (Y4 J6 (pv 2) Zd (Zn _)) Zb)))))
   (Wb (Jc L.l (Z1 (Xm (ts:=["row"]) (fv:=[]) (i:=3) (i:) rfl Qc.nd rfl rfl (by rfl) (Yh (X3 Wl (pv 1) Jg (X0 (pv 2)))) (aw:) (Q:) (K:) (λ_ _ _ _ _ _=>Yb (pcT (Zhu T) hr T.gm (w:))))))
   (Wb (Jc L.l (Z1 (Xm (ts:=["row"]) (fv:=[]) (i:=4) (i:) rfl Qc.nd rfl rfl (by rfl) (Yh (X3 Wl (pv 1) (X0 (pv 2)) Jg)) (aw:) (Q:) (K:) (λ_ _ _ _ _ _=>Yb (pcT (Zj9 T) hr T.hG (w:))))))
   (Wb (Jc L.l (Z1 (psN 5 Qc.nd (Jz T.jG (Zgh T) (ai:) rfl T.jF T.fj.b .nil Yv (Za (pv 3) Zb)))))
   (Wb (Zie L.l rfl (Yh (pv 4)) (pgN 6 Qc.nd) (Og (Jc L.l (Yt (pxT (Zj8 T) hr T.hJ (Za (pv 5) (Za (pv 6) Zb)))))))
   (Og (Jc L.l (Z1 (Zl (pv 5))))))))))))),?_⟩;refine ⟨Y,x,Str.ofString "\n",rfl,rfl,rfl,by rw [sizeLine_eq]; lia,λl hl=>?_⟩;rw [mz];have s1:Same H (upd H l (.lst (d1:))):=Same.new hl;have h1:(upd H l (.lst (d1:))) l=some (.lst (d1:)):=Zc;generalize upd H l (.lst ((C ++ D).map V.str))=H1 at s1 h1 ⊢;refine ⟨l,C,D,Y,h1,hC,hD,?_,?_⟩
  ·have:=length_pos_iff.mpr hC0
   exact congrArg (λb=>[V.bl b]) (decide_eq_true (by lia))
  refine ⟨_,Y,l,_,Y,SqL.of h1,λc1 u7=>?_⟩;rw [cutA];have s2:Same H1 (upd H1 c1 (.lst (C.map V.str))):=Same.new u7;have h2:(upd H1 c1 (.lst (C.map V.str))) c1=some (.lst (C.map V.str)):=Zc;generalize upd H1 c1 (.lst (C.map V.str))=H2 at s2 h2 ⊢;refine ⟨c1,Y,⟨_,SqL.of h2⟩,λD1 vy=>Yc (xs:=C.map V.str) (λi σ H6=>∃ (v:Option V) (us:List Addr),σ=[v]/\Same H2 H6/\H6 D1=some (.lst (us.map V.ref))/\us.length=i/\∀ (k:Nat) u,us[k]?=some u->u≠D1/\H6 u=some (.tup (row3 ns k))) ⟨none,[],Y,Same.new vy,Zc,Y,λk u e=>by simp at e⟩ ?_ ?_ ?_⟩
  ·rintro i σ H6 _ ⟨v,us,rfl,s6,_⟩
   exact SqL.of (s6 _ _ h2)
  ·rintro i q σ H6 hq ⟨v,us,rfl,s6,h6,qc,ea⟩
   obtain ⟨c,hc,rfl⟩:=map_some hq;have nv:=(Aa hc).1;obtain ⟨hz,a,b,d,e,w1,w2,w3,w4,n1,n2,n3⟩:=hn3 i c hc;dsimp only [Zm,tYes];rw [if_pos rfl];refine ⟨c,a,b,d,e,_,_,_,Y,hz,w1,w2,w3,w4,n1,n2,n3,λm H7 s7 hm h7=>?_⟩;have hmD:m≠D1:=λz=>by rw [z,h6] at hm; cases hm
   refine ⟨_,s7 _ _ h6,by rw [Ab]; exact Zo (by lia),_,us ++ [m],Y,Same.add (s6.trans s7) vy,by rw [Zc,Aj]; rfl,by rw [Ae,qc]; rfl,λk u e=>?_⟩;by_cases ck:k < us.length
   ·rw [Av ck] at e
    obtain ⟨z1,z2⟩:=ea k u e;exact ⟨z1,by rw [Ze z1]; exact s7 _ _ z2⟩
   ·have ek:k=us.length:=by
     have:=(Aa e).1;rw [Ae,At] at this;lia
    subst ek;rw [getElem?_append_right (An _),Nat.sub_self] at e;cases e;exact ⟨hmD,by rw [Ze hmD,qc]; exact h7⟩
  rintro σ H6 ⟨v,us,rfl,s6,h6,qc,ea⟩;rw [Ab] at qc;have h16:=s6 _ _ (s2 _ _ h1);refine ⟨_,Y,l,_,Y,SqL.of h16,λc2 vq=>?_⟩;rw [cutB];have s7:Same H6 (upd H6 c2 (.lst (D.map V.str))):=Same.new vq;have h7:(upd H6 c2 (.lst (D.map V.str))) c2=some (.lst (D.map V.str)):=Zc;generalize upd H6 c2 (.lst (D.map V.str))=H7 at s7 h7 ⊢;refine ⟨c2,Y,⟨_,SqL.of h7⟩,λD2 md=>Yc (xs:=D.map V.str) (λi σ H8=>∃ (v:Option V) (vs:List Addr),σ=[v]/\Same H7 H8/\H8 D2=some (.lst (vs.map V.ref))/\vs.length=i/\∀ (k:Nat) u y,vs[k]?=some u->Ds[k]?=some y->DdAt (hid H8 D2) u y) ⟨none,[],Y,Same.new md,Zc,Y,λk u y e=>by simp at e⟩ ?_ ?_ ?_⟩
  ·rintro i σ H8 _ ⟨v,vs,rfl,s8,_⟩
   exact SqL.of (s8 _ _ h7)
  ·rintro i q σ H8 hq ⟨v,vs,rfl,s8,h8,vi,eb⟩
   obtain ⟨d,hd,rfl⟩:=map_some hq;have nv:i < Ds.length:=by rw [<- hDl]; exact (Aa hd).1
   have hy:=Ac nv;generalize Ds[i]=y at hy;obtain ⟨hz,hR⟩:=hDs i d y hd hy;dsimp only [Zm,tYes];rw [if_pos rfl];refine ⟨d,y,Y,hz,hR,λm H9 s9 hg=>?_⟩;refine ⟨_,s9 _ _ h8,by rw [Ab]; exact Zo (by lia),_,vs ++ [m],Y,Same.add (s8.trans s9) md,by rw [Zc,Aj]; rfl,by rw [Ae,vi]; rfl,λk u y' e1 e2=>?_⟩;by_cases ck:k < vs.length
   ·rw [Av ck] at e1
    exact (eb k u y' e1 e2).same (Zot s9)
   ·have ek:k=vs.length:=by
     have:=(Aa e1).1;rw [Ae,At] at this;lia
    subst ek;rw [getElem?_append_right (An _),Nat.sub_self] at e1;cases e1;rw [vi,hy] at e2;cases e2
    exact (hg D2 _ h8).same λb o e=>by
     unfold hid at e ⊢;by_cases z:b=D2
     ·rw [if_pos z] at e; cases e
     ·rw [if_neg z] at e; rw [if_neg z,Ze z]; exact e
  rintro σ H8 ⟨v,vs,rfl,s8,h8,vi,eb⟩;rw [Ab,hDl] at vi;replace eb:∀ (k:Nat) u y,vs[k]?=some u->Ds[k]?=some y->DdAt H8 u y:=λk u y e1 e2=>(eb k u y e1 e2).same Zmm;have s68:=s7.trans s8;have ra:Xq H8 D1 ns:=⟨us,s68 _ _ h6,by rw [hn1,qc],λk u hu=>s68 _ _ (ea k u hu).2⟩;clear s7 h7 vq md s68 h6 h16 ea h2 s2 u7 vy s6 h1 s1 hl;intro p dt hp hdt kq;have s0:Same H8 (upd (upd H8 dt (.own p)) p (.ins t.ag dt [])):=Same.add (Same.new hdt) hp;refine ⟨p,D1,dt,M,ns,Y,Zc,ra.same s0,td,tf,λH9 old mm=>⟨Y,?_⟩⟩;obtain ⟨be,sc,st,un,lf,th,po,wo,ks,mm,mh,_,_⟩:=mm;have np8:H8 p=none:=hp
  have nst8:H8 st=none:=by
   cases e:H8 st with
   | none=>rfl
   | some u =>
    rw [s0 _ _ e] at mh;cases mh
  obtain ⟨sL,hz⟩:=mm.hl td (H1:=H8) (λb u hb e=>old b u hb (s0 b u e)) np8 nst8;have sw:=mm.sw;generalize R2 H9 p st=H0 at sL hz;have eb0:∀ (k:Nat) u y,vs[k]?=some u->Ds[k]?=some y->DdAt H0 u y:=λk u y e1 e2=>(eb k u y e1 e2).same sL;have h80:=sL _ _ h8;obtain ⟨_,_,_,_,_,_,_,_,_,_,_,B0,_⟩:=hz.ex;have h90:=B0.low _ _ h80;clear s0 ra old mm hp hdt kq eb B0;refine ⟨D2,Y,⟨_,SqL.of h90⟩,(Zms (xs:=vs.map V.ref) (λi σ HX=>∃ (v:Option V) (lu:Hp) (l':List Str) (fr:Bool),σ=[oS x,oR l,some (.int C.length),oR D1,oR D2,oR p,v]/\Same H0 lu/\HZ t HX lu p st M ns ks l' i fr/\l'.Nodup/\l'.length<=800/\Runs M ns l' i fr (Ds.drop i) r) ⟨none,H0,[],true,Y,Same.refl _,hz,nodup_nil,by decide,hrun⟩ ?_ ?_ ?_)⟩
  ·rintro i σ HX _ ⟨v,lu,l',fr,rfl,sX,wt,_⟩
   obtain ⟨_,_,_,_,_,_,_,_,_,_,_,B,_⟩:=wt.ex;exact SqL.of (B.low _ _ (sX _ _ h80))
  ·rintro i q σ HX hq ⟨v,lu,l',fr,rfl,sX,wt,nd,l8,rn⟩
   obtain ⟨u,hu,rfl⟩:=map_some hq;have nv:i < Ds.length:=by rw [<- vi]; exact (Aa hu).1
   have hy:=Ac nv;rw [drop_eq_getElem_cons nv] at rn;generalize Ds[i]=y at hy rn;obtain ⟨_,_,_,_,_,_,_,_,_,_,_,B,_⟩:=wt.ex;have hdd:=(eb0 i u y hu hy).same (sX.trans B.low);dsimp only [Zm]
   cases rn with
   | @bad _ _ _ _ _ g hdo =>
    exact ⟨p,u,st,y,lu,M,ns,ks,l',i,fr,.inl g,rfl,wt,hdd,td,tf,sw,by lia,l8,nd,hdo,λg' e=>by cases e; exact kE _ Y,λl2 f2 e=>nomatch e⟩
   | @ok _ _ _ _ _ l2 f2 _ hdo nd2 l82 rn =>
    refine ⟨p,u,st,y,lu,M,ns,ks,l',i,fr,.inr (l2,f2),Y,wt,hdd,td,tf,sw,by lia,l8,nd,hdo,(λg' e=>nomatch e),λl3 f3 e H' H0'' s' si=>?_⟩;cases e;exact ⟨_,H0'',l2,f2,Y,sX.trans s',si,nd2,l82,rn⟩
  ·rintro σ HX ⟨v,lu,l',fr,rfl,sX,wt,nd,l8,rn⟩
   rw [Ab,vi,drop_length] at rn;rw [Ab,vi] at wt;cases rn;exact kQ _ Y p st lu HX ks l' fr wt
def Zgw:∀ m:Nat,0 < m->∃ c r,(Nat.toDigits 10 m).map Char.toNat=c :: r/\49<=c:=λm=>by
 induction m using Nat.strongRecOn with
 | _ m ih =>
  intro h0;by_cases h:m < 10
  ·rw [toDigits_of_lt_base h]
   have:∀ d:Nat,d < 10->0 < d->49<=(Nat.digitChar d).toNat:=by decide
   exact ⟨_,[],Y,this m h h0⟩
  ·have hm:m % 10 < 10:=mod_lt m (c:)
   have t:Nat.toDigits 10 (m / 10) ++ Nat.toDigits 10 (m % 10)=Nat.toDigits 10 (10 * (m / 10) + m % 10):=toDigits_append_toDigits (c:) (by lia) hm;rw [div_add_mod] at t;obtain ⟨c,r,e,hc⟩:=ih (m / 10) (by lia) (by lia);rw [<- t,Aj,e];exact ⟨c,_,Y,hc⟩
noncomputable def ku (n:Int):Str:=Str.ofString (toString n)
def Zgj (m:Nat):∀ c∈(ku (m:Int)).cps.toList,48<=c/\c<=57:=λc hc=>by
 unfold ku at hc;rw [PySem.W.KIN.signs_num] at hc;obtain ⟨ch,p7,e⟩:=mem_map.mp hc;have r:=PyProof.Rows.digit_range (isDigit_of_mem_toDigits (c:) (c:) p7);rw [<- e];exact r
def Zsx:∀ c:Fin 128,48<=c.val->c.val<=57->Txt.contains fgL ⟨#[c.val]⟩=true:=by decide +kernel
def Zts {n:Int} (h0:0<=n) (h1:n<=10000):Gq (ku n)=true:=by
 obtain ⟨m,rfl⟩:=Int.eq_ofNat_of_zero_le h0;have hl:(ku (m:Int)).length<=10:=PySem.W.KT.len_num h0 (by lia);have hd:=Zgj m;have kq:1<=(ku (m:Int)).length:=by
  have e:(ku (m:Int)).length=(ku (m:Int)).cps.toList.length:=by rw [Array.length_toList]; rfl
  rw [e]
  unfold ku
  rw [PySem.W.KIN.signs_num,Ab]
  by_cases z:m=0
  ·subst z; decide
  ·obtain ⟨c,r,e,_⟩:=Zgw m (by lia)
   have:=congrArg List.length e
   rw [Ab,length_cons] at this
   lia
 unfold Gq;rw [decide_eq_true (by lia:(1:Int)<=_),decide_eq_true (by lia:_<=(61:Int)),Bool.true_and,Bool.true_and,Bool.and_eq_true];refine ⟨?_,?_⟩
 ·unfold mdL
  rw [all_map,all_eq_true];intro c hc;obtain ⟨d1,d2⟩:=hd c hc;exact Zsx ⟨c,by lia⟩ d1 d2
 ·by_cases z:m=0
  ·subst z; rw [Bool.or_eq_true]; exact .inl (c:)
  ·rw [Bool.or_eq_true]
   right;rw [Bool.not_eq_true'];obtain ⟨c,r,e,hc⟩:=Zgw m (by lia)
   cases hs:Txt.startswith (ku (m:Int)) (Str.ofString "0") with
   | false=>rfl
   | true =>
    exfalso;unfold Txt.startswith at hs;rw [Bool.and_eq_true,decide_eq_true_eq] at hs;have:=(StrLaws.subAt_one (ku (m:Int)) 48 0).mp hs;unfold ku at this;rw [PySem.W.KIN.signs_num,e] at this;have:c=48:=by simpa using this
    lia
def Q1 {n:Int} (h0:0<=n) (h1:n<=10000):numP (ku n)=some n:=by
 unfold numP;rw [if_pos (Zts h0 h1)];exact PySem.W.KIN.num_reads h0 (by lia)
noncomputable def cl (a b c:Int):Str:=Str.empty ++ Str.ofString "cloth " ++ (toString a:Str) ++ Str.ofString " " ++ (toString b:Str) ++ Str.ofString " " ++ (toString c:Str)
def Zq8 (a b c:Int):(cl a b c).cps.toList=[99,108,111,116,104] ++ 32 :: ((ku a).cps.toList ++ 32 :: ((ku b).cps.toList ++ 32 :: (ku c).cps.toList)):=by
 have e:∀ a b:Str,(a ++ b).cps.toList=a.cps.toList ++ b.cps.toList:=λa b=>Array.toList_append;unfold cl;rw [e,e,e,e,e,e];show ([]:List Nat) ++ [99,108,111,116,104,32] ++ (ku a).cps.toList ++ [32] ++ (ku b).cps.toList ++ [32] ++ (ku c).cps.toList=_;simp
theorem Zit {c d:Nat}:∀ {l:List (List Nat)},d∈jnL c l->d=c\/∃ a∈l,d∈a
 | [],h=>by cases h
 | [a],h=>.inr ⟨a,mem_cons_self,h⟩
 | a :: b :: r,h=>by
  have h:d∈a ++ c :: jnL c (b :: r):=h
  rcases mem_append.mp h with h | h
  ·exact .inr ⟨a,mem_cons_self,h⟩
  ·rcases Ar h with h | h
   ·exact .inl h
   ·rcases Zit h with h | ⟨x,h1,h2⟩
    ·exact .inl h
    ·exact .inr ⟨x,mem_cons_of_mem _ h1,h2⟩
theorem K9 {c B:Nat}:∀ {l:List (List Nat)},(∀ a∈l,a.length<=B)->(jnL c l).length<=(B + 1) * l.length
 | [],_=>Az _
 | [a],h=>by have:=h a mem_cons_self; show a.length<=_; rw [At]; lia
 | a :: b :: r,h=>by
  have h1:=h a mem_cons_self;have h2:=K9 (c:=c) (l:=b :: r) λx hx=>h x (mem_cons_of_mem _ hx);show (a ++ c :: jnL c (b :: r)).length<=_;rw [Ae,length_cons,show (a :: b :: r).length=(b :: r).length + 1 from rfl,mul_succ];lia
def Xl (x:Str):x.length=x.cps.toList.length:=by rw [Array.length_toList]; rfl
structure Wo (x:Str):Prop where
 asc:Asc x
 len:x.length<=70
 bl:32 ∉ x.cps.toList
 nl:10 ∉ x.cps.toList
def Wo.wd {x:Str} (h:Wo x):Wd x:=⟨h.asc,Nat.le_trans h.len (c:)⟩
noncomputable def woB (r:Str):Bool:=r.cps.toList.all (λc=>decide (c < 128) && decide (c≠10) && decide (c≠32)) && decide (r.length<=70)
def wo_b {r:Str} (h:woB r=true):Wo r:=by
 unfold woB at h;rw [Bool.and_eq_true,all_eq_true,decide_eq_true_eq] at h;refine ⟨λc hc=>?_,h.2,λhc=>?_,λhc=>?_⟩ <;> have:=h.1 _ hc <;> simp only [Bool.and_eq_true,decide_eq_true_eq] at this <;> lia
structure Ln (d:Str) (ws:List Str):Prop where
 wd:wdS d=ws
 len:d.length<=50000
 nl:10 ∉ d.cps.toList
def Zbn {d:Str} {ws:List Str} (h:d.cps.toList=jnL 32 (ws.map λx=>x.cps.toList)) (ne:ws≠[]) (hl:ws.length<=500) (hw:∀ x∈ws,Wo x):Ln d ws:=by
 refine ⟨Fw (c:=32) ne (λp hp=>(hw p hp).bl) h,?_,λz=>?_⟩
 ·rw [Xl,h]
  have:=K9 (c:=32) (B:=70) (l:=ws.map λx=>x.cps.toList) λa ha=>by
   obtain ⟨x,hx,rfl⟩:=mem_map.mp ha;rw [<- Xl]; exact (hw x hx).len
  rw [Ab] at this;lia
 ·rw [h] at z
  rcases Zit z with z | ⟨a,ha,z⟩
  ·exact absurd z (c:)
  ·obtain ⟨x,hx,rfl⟩:=mem_map.mp ha
   exact (hw x hx).nl z
def ln_b {d:Str} (ws:List Str) (h:(d.cps.toList == jnL 32 (ws.map λx=>x.cps.toList) && !ws.isEmpty && decide (ws.length<=500) && ws.all woB)=true):Ln d ws:=by
 simp only [Bool.and_eq_true,decide_eq_true_eq,all_eq_true] at h;exact Zbn (eq_of_beq h.1.1.1) (λz=>by rw [z] at h; simp at h) h.1.2 λx hx=>wo_b (h.2 x hx)
def X5 (a b:Str):(a ++ b).cps.toList=a.cps.toList ++ b.cps.toList:=Array.toList_append
def Jt {n:Int} (h0:0<=n) (h1:n<=10000):Wo (ku n):=by
 obtain ⟨m,rfl⟩:=Int.eq_ofNat_of_zero_le h0;have hd:=Zgj m;have hl:(ku (m:Int)).length<=10:=PySem.W.KT.len_num h0 (by lia);exact ⟨λc hc=>by have:=hd c hc; lia,by lia,λhc=>by have:=hd _ hc; lia,λhc=>by have:=hd _ hc; lia⟩
def Zee {c:Nat} {x a b:Str} {i j:Int} (hx:x.cps.toList=a.cps.toList ++ c :: b.cps.toList) (ha:Wo a) (hb:Wo b) (h1:c ∉ a.cps.toList) (h2:c ∉ b.cps.toList) (e1:numP a=some i) (e2:numP b=some j):Pr2 c x i j:=by
 refine ⟨⟨a,b,Fw (c:=c) (N:) (λp hp=>?_) hx,ha.wd,hb.wd,e1,e2⟩,?_⟩
 ·rcases Ar hp with rfl | hp
  ·exact h1
  ·rw [Af hp]; exact h2
 ·have l1:=ha.len
  have l2:=hb.len;rw [Xl] at l1 l2;rw [Xl,hx,Ae,length_cons];lia
noncomputable def qx (g:Int->Int) (x:Int):Str:=Str.empty ++ (toString x:Str) ++ Str.ofString ":" ++ (toString (g x):Str)
def Zq7 (g:Int->Int) (x:Int):(qx g x).cps.toList=(ku x).cps.toList ++ 58 :: (ku (g x)).cps.toList:=by
 unfold qx;rw [X5,X5,X5];show ([]:List Nat) ++ (ku x).cps.toList ++ [58] ++ (ku (g x)).cps.toList=_;simp
def no58 (m:Nat):58 ∉ (ku (m:Int)).cps.toList:=λh=>by have:=Zgj m _ h; lia
def Zei {g:Int->Int} {x:Int} (h0:0<=x) (h1:x<=10000) (h2:0<=g x) (h3:g x<=9):Wo (qx g x)/\Pr2 58 (qx g x) x (g x):=by
 have w1:=Jt h0 h1;have w2:=Jt h2 (by lia:g x<=10000);have e1:=Q1 h0 h1;have e2:=Q1 h2 (by lia:g x<=10000);have n1:58 ∉ (ku x).cps.toList:=by obtain ⟨m,hm⟩:=Int.eq_ofNat_of_zero_le h0; rw [hm]; exact no58 m
 have n2:58 ∉ (ku (g x)).cps.toList:=by obtain ⟨m,hm⟩:=Int.eq_ofNat_of_zero_le h2; rw [hm]; exact no58 m
 have l1:(ku x).length<=10:=PySem.W.KT.len_num h0 (by lia);have l2:(ku (g x)).length<=10:=PySem.W.KT.len_num h2 (by lia);have hl:=Zq7 g x;have mem:∀ d∈(qx g x).cps.toList,d∈(ku x).cps.toList\/d=58\/d∈(ku (g x)).cps.toList:=λd hd=>by
  rw [hl] at hd
  rcases mem_append.mp hd with z | z
  ·exact .inl z
  ·exact .inr (Ar z)
 refine ⟨⟨λd hd=>?_,?_,λhd=>?_,λhd=>?_⟩,Zee hl w1 w2 n1 n2 e1 e2⟩
 ·rcases mem d hd with z | rfl | z
  ·exact w1.asc d z
  ·decide
  ·exact w2.asc d z
 ·rw [Xl] at l1 l2
  rw [Xl,hl,Ae,length_cons];lia
 ·rcases mem _ hd with z | z | z
  ·exact w1.bl z
  ·exact absurd z (c:)
  ·exact w2.bl z
 ·rcases mem _ hd with z | z | z
  ·exact w1.nl z
  ·exact absurd z (c:)
  ·exact w2.nl z
noncomputable def rowS (g:Int->Int) (out:List Int):Str:=Txt.join (an:) (out.map (qx g))
def Oe (g:Int->Int) (out:List Int):(rowS g out).cps.toList=jnL 32 ((out.map (qx g)).map λx=>x.cps.toList):=by
 show (Builtin.Str.glued _ _).cps.toList=_;rw [StrLaws.glued_eq_join];exact W0 32 _
structure Pou (out:List Int) (g:Int->Int):Prop where
 ne:out≠[]
 len:out.length < 64
 up:out.Pairwise (· < ·)
 rng:∀ y∈out,0<=y/\y<=10000/\0<=g y/\g y<=9
def Gp {c:Nat} {a:List Nat} {l:List (List Nat)} (h:l≠[]):jnL c (a :: l)=a ++ c :: jnL c l:=by
 cases l with
 | nil=>exact absurd Y h
 | cons b r=>rfl
def Zfx {d nm:Str} {out:List Int} {g:Int->Int} (h:Pou out g) (hn:Wo nm) (nN:isN nm=true) (hd:d.cps.toList=[112,111,117,114] ++ 32 :: (nm.cps.toList ++ 32 :: (rowS g out).cps.toList)):Ln d (Str.ofString "pour" :: nm :: out.map (qx g))/\Rdo (Str.ofString "pour" :: nm :: out.map (qx g)) (.pour nm out g):=by
 have ne:out.map (qx g)≠[]:=λz=>h.ne (em:);refine ⟨Zbn ?_ (N:) (by rw [length_cons,length_cons,Ab]; have:=h.len; lia) λx hx=>?_,rfl,rfl,hn.wd,nN,ne,by rw [Ab],h.len,h.up,λi y k e1 e2=>?_⟩
 ·rw [hd,Oe,map_cons,map_cons,Gp (cons_ne_nil _ _),Gp (λz=>ne (em:))]
  rfl
 ·rcases Ar hx with rfl | hx
  ·exact wo_b (h:)
  ·rcases Ar hx with rfl | hx
   ·exact hn
   ·obtain ⟨y,hy,rfl⟩:=mem_map.mp hx
    obtain ⟨a,b,c,e⟩:=h.rng y hy;exact (Zei a b c e).1
 ·rw [Ah,e2] at e1
  cases e1;obtain ⟨a,b,c,e⟩:=h.rng k (Au e2);exact (Zei a b c e).2
def Zsm {d:Str} {ws:List Nat} (ne:ws≠[]) (hl:ws.length<=480) (hr:∀ p∈ws,p<=1000) (hd:d.cps.toList=[108,97,121] ++ 32 :: ([122] ++ 32 :: jnL 32 (ws.map λ(p:Nat)=>(ku p).cps.toList))):∃ wl,Ln d wl/\Rdo wl (.lay (Str.ofString "z") (ws.map λ(p:Nat)=>(p:Int))):=by
 have ne2:ws.map (λ(p:Nat)=>ku p)≠[]:=λz=>ne (em:);refine ⟨Str.ofString "lay" :: Str.ofString "z" :: ws.map λ(p:Nat)=>ku p,Zbn ?_ (N:) (by rw [length_cons,length_cons,Ab]; lia) λx hx=>?_,rfl,rfl,(wo_b (h:)).wd,by decide +kernel,ne2,by rw [Ab]; lia,by rw [Ab,Ab],λi y n e1 e2=>?_⟩
 ·rw [hd,map_cons,map_cons,Gp (cons_ne_nil _ _),Gp (λz=>ne2 (em:)),map_map]
  rfl
 ·rcases Ar hx with rfl | hx
  ·exact wo_b (h:)
  ·rcases Ar hx with rfl | hx
   ·exact wo_b (h:)
   ·obtain ⟨y,hy,rfl⟩:=mem_map.mp hx
    exact Jt (Int.natCast_nonneg _) (by have:=hr y hy; lia)
 ·rw [Ah] at e1 e2
  cases e:ws[i]? with
  | none=>rw [e] at e1; cases e1
  | some p =>
   rw [e] at e1 e2;cases e1;cases e2;have:=hr p (Au e);exact ⟨(Jt (Int.natCast_nonneg _) (by lia)).wd,Q1 (Int.natCast_nonneg _) (by lia)⟩
def Zpn {a b c:Int} (ha:0<=a/\a<=9999) (hb:0<=b/\b<=9999) (hc:0<=c/\c<=9999):CloR (cl a b c) a b c/\10 ∉ (cl a b c).cps.toList/\Txt.startswith (cl a b c) cloS=true:=by
 have w1:=Jt ha.1 (by lia:a<=10000);have w2:=Jt hb.1 (by lia:b<=10000);have w3:=Jt hc.1 (by lia:c<=10000);have hl:=Zq8 a b c;have L:Ln (cl a b c) [Str.ofString "cloth",ku a,ku b,ku c]:=Zbn (by rw [hl]; rfl) (N:) (by show 4<=500; decide) λx hx=>by
  simp only [mem_cons,not_mem_nil,or_false] at hx
  rcases hx with rfl | rfl | rfl | rfl
  ·exact wo_b (h:)
  ·exact w1
  ·exact w2
  ·exact w3
 refine ⟨⟨?_,_,_,_,_,L.wd,w1.wd,w2.wd,w3.wd,Q1 ha.1 (by lia),Q1 hb.1 (by lia),Q1 hc.1 (by lia)⟩,L.nl,?_⟩
 ·have h1:=w1.len
  have h2:=w2.len;have h3:=w3.len;rw [Xl] at h1 h2 h3;rw [Xl,hl];simp only [Ae,length_cons,length_nil];lia
 ·unfold Txt.startswith
  rw [StrLaws.subAt_eq,hl,Bool.and_eq_true,decide_eq_true_eq];refine ⟨?_,?_⟩
  ·show 0 + 6<=_
   rw [Xl,hl];simp only [Ae,length_cons,length_nil];lia
  ·exact beq_iff_eq.mpr Y
def Zqt {l:List Str} (kq:l≠[]) (h:∀ r∈l,10 ∉ r.cps.toList):Txt.split (Txt.join (dr:) l) (dr:)=l:=by
 refine Fw (c:=10) kq h ?_;show (Builtin.Str.glued _ l).cps.toList=_;rw [StrLaws.glued_eq_join];exact W0 10 l
def Zqu {l:List Str} {B:Nat} (h:∀ r∈l,r.length<=B):(Txt.join (dr:) l).length<=(B + 1) * l.length:=by
 have e:(Txt.join (dr:) l).cps.toList=jnL 10 (l.map λx=>x.cps.toList):=by
  show (Builtin.Str.glued _ l).cps.toList=_;rw [StrLaws.glued_eq_join];exact W0 10 l
 rw [Xl,e];have:=K9 (c:=10) (B:=B) (l:=l.map λx=>x.cps.toList) λa ha=>by
  obtain ⟨x,hx,rfl⟩:=mem_map.mp ha
  rw [<- Xl]; exact h x hx
 rw [Ab] at this;exact this
noncomputable def Tg.txt:Tg->Str
 | .ta=>"taken" | .th=>"no thread" | .ma=>"too many" | .co=>"no counts" | .un=>"uneven" | .wi=>"wide" | .uk=>"unknown" | .se=>"no seam" | .ri=>"rim" | .lo=>"locked" | .fr=>"no fraction" | .gr=>"too great"
noncomputable def Tg.ix:Tg->Nat
 | .se=>0 | .ri=>1 | .lo=>2 | .ma=>3 | .gr=>4 | .co=>5 | .un=>6 | .wi=>7 | .fr=>8 | .ta=>9 | .uk=>10 | .th=>11
def Zan (t:Adr) (g:Tg):(exL t)[g.ix]?=some (g.cls t):=by cases g <;> rfl
def Zo7 {g h:Tg} (e:g.ix=h.ix):g=h:=by cases g <;> cases h <;> first | rfl | cases e
def Zs7 {g h:Tg}:decide (g.ix=h.ix)=true->g=h:=λe=>Zo7 (of_decide_eq_true e)
def Jq {w:World} {K:W.Frag} {mg:Str->Option Value} {t:Adr} (T:Txt w K mg t) (g h:Tg):PySem.W.exmOne K (.ref (g.cls t)) (.ref (h.cls t))=some (decide (g.ix=h.ix)):=by
 have e:=eq_of_beq (all_eq_true.mp (all_eq_true.mp T.xq _ (Au (Zan t g))) _ (Au (Zan t h)));rw [e];congr 1;rw [decide_eq_decide];refine ⟨λz=>?_,λz=>by rw [Zo7 z]⟩;have e1:=Zan t g;rw [z] at e1;exact (getElem?_inj (show g.ix < (exL t).length from (Aa (Zan t g)).1) T.xn).mp (e1.trans (Zan t h).symm)
noncomputable def ansT:Tg ⊕ Nat->Str
 | .inl g=>g.txt
 | .inr n=>(toString (n:Int):Str)
def Zpx:Sp:=λvs H Q _=>∃ (x:Str) (C D:List Str) (Ds:List Dd) (M:Lq) (ns:List Int) (r:Tg ⊕ Nat),vs=[.str x]/\RdT M ns x C D Ds r/\∀ H',Q (.str (ansT r)) H'
noncomputable def srS (ns:List Int) (x:Int):Str:=if Zu ns x="rim" then "rim" else if Zu ns x="locked" then "locked" else ""
def Znp:Sp:=λvs H Q _=>∃ (m r:Addr) (M:Lq) (ns:List Int) (x:Int),vs=[.ref m,.ref r,.int x]/\H m=some (a4:)/\Xq H r ns/\TD M ns/\ns.length < 64/\x∈keys ns ns.length/\∀ H',Same H H'->Q (.str (srS ns x)) H'
def Zp2:Sp:=λvs H Q _=>∃ (c:Addr) (ks:List Int) (g:Int->Int),vs=[.ref c]/\H c=some (eg:)/\ks.length < 64/\(∀ y∈ks,0<=y/\y<=10000/\0<=g y/\g y<=9)/\∀ (out:List Int) H',Same H H'->out.Perm ks->out.Pairwise (·<=·)->Q (.str (rowS g out)) H'
def Yw:FnScope ["_law_text","_law_told_here"] ["_law_text"] (Zg Zfo):=Am
def Zl5 (T:Txt w K mg t):(a:) 12 t.iB t.iO ["_law_text"] Zpx:=by
 refine T.iW.F.aR Yw (b:)
 ·obtain ⟨x,C,D,Ds,M,ns,r,rfl,hR,k⟩:=h
  refine ⟨_,(Zf (psN 1 Yw.nd Zj)
   (Zf (Zqe (Zr (Qf (i:=1) Yw.nd rfl (Or.inl rfl) (Zhn Ws (by rfl) T.gB PySem.Pv.boot_str (Zf3 (Zj1 Gg (by rfl) T.af PySem.boot_len (Zf3 (Zls (pxT (Zql T) hr T.jy (w:)) T.ai T.bE.m (Zeb T) (ai:) T.bE.b .nil) (Zlw Zb))) (Zlw Zb))))) (X6 rfl T.hU (aa:) (X6 rfl T.i6 (aa:) (X6 rfl T.hV (aa:) (X6 rfl T.gC (aa:) (X6 rfl T.fu (aa:) (X6 rfl T.bc (aa:) (X6 rfl T.hX (aa:) (X6 rfl T.jn (aa:) (X6 rfl T.cX (aa:) (X6 rfl T.iZ (aa:) (X6 rfl T.gD (aa:) (X6 rfl T.fq (aa:) Zsu)))))))))))))
   (Zh (Zl (pv 1))))),?_⟩;refine Zw λky j5=>j5 _ _ ?_
  try dsimp only [Zm]
  refine Zw λky j5=>?_;have km:∀ {g h:Tg} {H':Hp},r=.inl g->decide (g.ix=h.ix)=true->ky [some (.str x),some (.str h.txt)] H':=λ{g h H'} e z=>by
   have:=k H'
   rw [e,Zs7 z] at this
   exact j5 _ _ this
  refine ⟨x,C,D,Ds,M,ns,r,Y,hR,λg e H'=>?_,λn e p st H0 H' ks l fr hz=>?_⟩
  ·refine ⟨_,Jq T g .se,ite2 (λz=>km e z) (λn0=>?_)⟩
   refine ⟨_,Jq T g .ri,ite2 (λz=>km e z) (λn1=>⟨_,Jq T g .lo,ite2 (λz=>km e z) (λn2=>⟨_,Jq T g .ma,ite2 (λz=>km e z) (λn3=>⟨_,Jq T g .gr,ite2 (λz=>km e z) (λn4=>⟨_,Jq T g .co,ite2 (λz=>km e z) (λn5=>⟨_,Jq T g .un,ite2 (λz=>km e z) (λn6=>⟨_,Jq T g .wi,ite2 (λz=>km e z) (λn7=>⟨_,Jq T g .fr,ite2 (λz=>km e z) (λn8=>⟨_,Jq T g .ta,ite2 (λz=>km e z) (λn9=>⟨_,Jq T g .uk,ite2 (λz=>km e z) (λn10=>⟨_,Jq T g .th,ite2 (λz=>km e z) (λn11=>?_)⟩)⟩)⟩)⟩)⟩)⟩)⟩)⟩)⟩)⟩)⟩;exfalso;cases g <;> first | exact n0 rfl | exact n1 rfl | exact n2 rfl | exact n3 rfl | exact n4 rfl | exact n5 rfl | exact n6 rfl | exact n7 rfl | exact n8 rfl | exact n9 rfl | exact n10 rfl | exact n11 rfl
  ·have hn:n<=800:=by have:=hR.run.le e; have:=hR.len; have:=hR.dl; lia
   obtain ⟨dx,be,sc,un,lf,te,wo,th,po,L,qs,B,_⟩:=hz.ex;refine ⟨p,dx,_,Y,B.ins,Y,p,st,H0,M,ns,ks,l,n,fr,Y,hz,hn,λa ys H2 ha hl=>⟨a,ys,Y,.inl (SqL.of ha),_,Y,?_,?_⟩⟩
   ·exact Nat.lt_trans (av:) (c:)
   ·refine j5 _ _ ?_
    rw [hl];have:=k H2;rw [e] at this;exact this
def Zcu:FnScope ["_law_mates","_law_rows_here","_law_seam","_law_spots"] ["_law_mates","_law_rows_here","_law_seam"] (Zg Zfq):=Am
def Zda (T:Txt w K mg t):(a:) 1 t.iC t.iP ["_law_mates","_law_rows_here","_law_seam"] Znp:=by
 refine T.gq.F.aR Zcu (b:)
 ·obtain ⟨m,r,M,ns,x,rfl,hm,t9,td,k9,c,k⟩:=h
  refine ⟨_,(Zf (Xm (ts:=["_law_p"]) (fv:=[("_law_seam",2),("_law_rows_here",1)]) (i:=3) (aj:) rfl Zcu.nd rfl rfl (by rfl) (Je rfl T.aM (Za (ck:) Zb)) (λ_ _ _ _=>(pgN 0 nd3)) (λ_ _ _ _=>(Uq (Zs Yf (Zt (Zqv K) (Zt (Qm K) (pv 2) (Zi Y5 (pv 0) Zd) (j:)) (Zi Z7 (pv 0) Zd) (j:)) (pv 1) (Zn _)))) (K:) (dz:))
   (Zf (Yj (Zs Yf (Zx T.af (Za (pv 3) Zb)) Zd (Zn _)) (Zh (Zl Zj)) Z8)
   (Zf (Yj (Zs Yf (Zi Y5 (Zt Zv (pv 3) Zd (j:)) Zd) (Zi Y5 (Zt Zv (pv 3) Zd (j:)) Zd) (Zn _)) (Zh (Zl Zj)) Z8)
   (Zh (Zl Zj))))),?_⟩;refine Z0 (λσ H'=>∃ l,σ=[oR m,oR r,oI x,oR l]/\Same H H'/\H' l=some (.lst ((pl ns ns.length x).map nV))) (D:) ?_
  ·refine ⟨m,_,Y,.inl (SqL.of hm),_,Y,by lia,by rw [Ab]; have:=td.len; lia,λD hD=>?_⟩
   have eN:((cb:)).toNat=ns.length:=by rw [Ab,<- td.len]; rfl
   show W6 (Itr 0 ((cb:)).toNat) _ _ _ _ _ _;rw [eN];refine Vb (λi σ H2=>∃ v,σ=[v,oI x,oR r]/\Same H H2/\H2 D=some (.lst ((pl ns i x).map nV))) (ac:) ?_ ?_
   ·rintro i σ H2 kn ⟨v,rfl,s2,h2⟩
    have hx:=Ac kn;generalize ns[i]=y at hx;obtain ⟨xi,q,w1,w2,w3,w4⟩:=Za8 (t9.same s2) hx;have e1:atI (xi.map V.ref) ((i:Int) / 3)=some (V.ref q):=by rw [show (i:Int) / 3=((i / 3:Nat):Int) by lia]; exact X4 w2
    have e2:atI (row3 ns (i / 3)) ((i:Int) % 3)=some (V.int y):=by rw [show (i:Int) % 3=((i % 3:Nat):Int) by lia]; exact Xa w4
    have hp:pl ns (i + 1) x=pl ns i x ++ (if y=x then [i] else []):=by
     unfold pl;rw [range_succ,filter_append];congr 1;by_cases z:y=x
     ·rw [if_pos z,filter_cons,if_pos (show decide (ns[i]?=some x)=true from decide_eq_true (by rw [hx,z])),filter_nil]
     ·rw [if_neg z,filter_cons,if_neg (show ¬ decide (ns[i]?=some x)=true from λe=>by have e:=of_decide_eq_true e; rw [hx] at e; injection e with e; exact z e),filter_nil]
    dsimp only [Zm];rw [Int.zero_add];refine ⟨⟨by decide,by decide⟩,SqL.of w1,e1,(bj:),SqT.of w3,e2,rfl,?_⟩;have j7:(pl ns i x).length<=i:=by unfold pl; have:=length_filter_le (λj=>decide (ns[j]?=some x)) (List.range i); rw [length_range] at this; exact this
    refine ite2 (λz=>?_) (λz=>?_)
    ·have z:y=x:=by have z:=of_decide_eq_true z; injection z
     refine ⟨_,h2,by rw [Ab]; exact Zo (by lia),_,Y,Same.add s2 hD,?_⟩;rw [Zc,hp,if_pos z,Aj];rfl
    ·refine ⟨_,Y,s2,?_⟩
     rw [hp,if_neg (λe=>z (decide_eq_true (congrArg V.int e))),append_nil];exact h2
   ·rintro σ H2 ⟨v,rfl,s2,h2⟩
    exact kc _ _ ⟨D,Y,s2,h2⟩
  rintro σ H1 ⟨l,rfl,s1,hl⟩;have kk:=k H1 s1;unfold srS at kk;refine ⟨l,_,Y,.inl (SqL.of hl),Y,?_⟩
  rcases Qi td c with ⟨a,e,_⟩ | ⟨a,b',p8,e,_⟩
  ·rw [e] at hl ⊢
   refine iteT ?_;have:Zu ns x="rim":=by unfold Zu; rw [e]
   rw [if_pos this] at kk;exact kk
  ·rw [e] at hl ⊢
   refine iteF ⟨SqL.of hl,Y,⟨by decide,by decide⟩,SqL.of hl,Y,⟨by decide,by decide⟩,Y,?_⟩;by_cases q:a / 3=b' / 3
   ·have:Zu ns x="locked":=by unfold Zu; rw [e]; exact if_pos q
    rw [if_neg (by rw [this]; decide),if_pos this] at kk;rw [decide_eq_true (show V.int ((a:Int) / 3)=V.int ((b':Int) / 3) by rw [show (a:Int) / 3=(b':Int) / 3 by lia])];exact iteT kk
   ·have:Zu ns x="free":=by unfold Zu; rw [e]; exact if_neg q
    rw [if_neg (by rw [this]; decide),if_neg (by rw [this]; decide)] at kk;rw [decide_eq_false (λz=>q (by injection z; lia))];exact iteF kk
def Znu:FnScope ["_law_counts"] ["_law_counts"] (Zg Zh9):=Am
def Jx (T:Txt w K mg t):(a:) 1 t.jc t.jf ["_law_counts"] Zp2:=by
 refine T.bb.F.aR Znu (b:)
 ·obtain ⟨c,ks,g,rfl,hc,l9,hb,k⟩:=h
  have hu:=Xh hr;refine ⟨_,(Zh (Zl (W4 PySem.F.plainAttrs_str PySem.F.slot_str_join PySem.F.type_str_join Uz Zj (Za (Yn (ts:=["_law_seam"]) (fv:=[("_law_counts",0)]) (e:) rfl (Yh (Yg (Jf rfl) (by rfl) T.bu PyProof.Rows.boot_sorted (w:))) (ab:) (Q:) (K:) (λ_ _ _ _ _ _=>Yb (J0 (Wq (pv 0) (Xw (Wq (Y3 hu (pv 1) (pv 0) (j:)) Qx)))))) Zb)))),?_⟩;refine ⟨Y,c,_,ks,Y,.inl hc,(by unfold dI; rw [map_map]; rfl),l9,λl out hl pm st=>?_⟩;have s1:Same H (upd H l (dc:)):=Same.new hl;have h1:(upd H l (dc:)) l=some (dc:):=Zc;generalize upd H l (.lst (out.map V.int))=H1 at s1 h1 ⊢;have sv:=pm.length_eq;refine ⟨l,Y,⟨_,SqL.of h1⟩,λD hD=>Yc (xs:=out.map V.int) (λi σ H6=>∃ v,σ=[v,oR c]/\Same H1 H6/\H6 D=some (.lst (((out.take i).map (qx g)).map V.str))) (ac:) ?_ ?_ ?_⟩
  ·rintro i σ H6 _ ⟨v,rfl,s6,_⟩
   exact SqL.of (s6 _ _ h1)
  ·rintro i q σ H6 hq ⟨v,rfl,s6,h6⟩
   obtain ⟨y,hy,rfl⟩:=map_some hq;have nv:=(Aa hy).1;have ql:y∈ks:=pm.mem_iff.mp (Au hy);obtain ⟨b1,b2,b3,b4⟩:=hb y ql;dsimp only [Zm,tYes];rw [if_pos rfl];have sm:∀ i:Int,0<=i->i<=10000->i.natAbs.log2 < 1920/\(toString i:Str).length<=60:=λi h0 h1=>⟨Nat.lt_trans (av:) (c:),Vk h0 (Int.lt_of_le_of_lt h1 (c:))⟩;obtain ⟨x1,x2⟩:=sm y b1 b2;obtain ⟨a1,a2⟩:=sm (g y) b3 (by lia);have l0:Str.empty.length=0:=rfl;have l1:(Str.ofString ":").length=1:=by decide
   refine ⟨y,Y,x1,lnN ?_,lnN ?_,c,_,Y,Xt (s6 _ _ (s1 _ _ hc)) ql,g y,Y,a1,lnN ?_,lnN ?_,?_⟩
   iterate 4
    ·simp only [Str.length_append]
     lia
   refine ⟨_,h6,by rw [Ab,Ab,Ai]; exact Zo (by lia),_,Y,Same.add s6 hD,?_⟩;rw [Zc,Aw,hy,Aj,Aj];rfl
  ·rintro σ H6 ⟨v,rfl,s6,h6⟩
   rw [Ab,take_length] at h6;refine ⟨_,D,out.map (qx g),Y,Y,SqL.of h6,by decide,?_,k out _ (s1.trans s6) pm st⟩;have:=Uf (B:=70) (l:=out.map (qx g)) λx hx=>by
    obtain ⟨y,hy,rfl⟩:=mem_map.mp hx
    obtain ⟨b1,b2,b3,b4⟩:=hb y (pm.mem_iff.mp hy)
    exact (Zei b1 b2 b3 b4).1.len
   rw [Ab] at this ⊢;lia
noncomputable def otx:Option Tg->Str
 | none=>""
 | some g=>g.txt
noncomputable def otR (s:List Str × Bool):Option Tg->Ot
 | none=>.inr s
 | some g=>.inl g
structure PouS (ns:List Int) (txt lh:Str):Prop where
 ex:∃ (out:List Int) (g:Int->Int) (o:Option Tg),txt=rowS g out/\Pou out g/\lh=otx o/\∀ s,PrT ns out g s (otR s o)
def Zk8:Sp:=λvs H Q _=>∃ (m r c:Addr) (M:Lq) (ns ks:List Int) (ke:Int),vs=[.ref m,.ref r,.ref c,.int ke]/\H m=some (a4:)/\Xq H r ns/\TD M ns/\ns.length < 64/\H c=some (.dK (dI ks λ_=>0))/\ks.Perm (o:)/\0<=ke/\ke < 7 /\
 ∀ (l:Addr) (H':Hp) (txt lh:Str),Same H H'->H l=none->H' l=some (.tup [.str txt,.str lh])->PouS ns txt lh->Q (.ref l) H'
def Zq4 {ks:List Int} {f:Int->Int} {x:Int}:Os (dI ks f) (Sum.inl x)=dI (ks.filter λy=>decide (y≠x)) f:=by
 unfold Os dI;rw [filter_map];congr 1;refine filter_congr λy _=>?_;show decide ((Sum.inl y:Key)≠Sum.inl x)=decide (y≠x);rw [decide_eq_decide];exact ⟨λh e=>h (by rw [e]),λh e=>h (by injection e)⟩
def Zi8 {out ks:List Int} (pm:out.Perm ks) (nd:ks.Nodup) (st:out.Pairwise (·<=·)):out.Pairwise (· < ·):=by
 have nd':=pm.nodup_iff.mpr nd;exact List.Pairwise.imp₂ (λa b (h1:a<=b) (h2:a≠b)=>by lia) st nd'
def Jk {M:Lq} {ns:List Int} (td:TD M ns) {y:Int} (h:y∈keys ns ns.length):0<=y/\y<=9999:=by
 obtain ⟨i,_,hi⟩:=Y8.mp h;exact td.rng i y hi
def Znz {out:List Int} (ne:out≠[]):rowS (λ_=>0) out ++ Str.ofString " 10000:0"=rowS (λ_=>0) (out ++ [10000]):=by
 apply L2.Str.ext';rw [X5,Oe,Oe,Aj,Aj]
 have:∀ {l:List (List Nat)} {a:List Nat},l≠[]->jnL 32 (l ++ [a])=jnL 32 l ++ 32 :: a:=by
  intro l
  induction l with
  | nil=>exact λh=>absurd Y h
  | cons b l ih =>
   intro a _
   cases l with
   | nil=>rfl
   | cons c r =>
    have e:=ih (a:=a) (cons_ne_nil _ _);show b ++ 32 :: jnL 32 ((c :: r) ++ [a])=(b ++ 32 :: jnL 32 (c :: r)) ++ 32 :: a;rw [e];simp
 refine ((this λz=>ne (map_eq_nil_iff.mp (em:))).trans ?_).symm;congr 1
def Zsb {ns out:List Int} {M:Lq} (td:TD M ns):¬ (out ++ [10000]).Perm (o:):=λpm=>by
 have:=Jk td (pm.mem_iff.mp (mem_append.mpr (.inr mem_cons_self)));lia
def Gk {out:List Int} {g:Int->Int} (h:∀ y∈out,0<=y/\y<=10000/\0<=g y/\g y<=9):(rowS g out).length<=71 * out.length:=by
 rw [Xl,Oe];have:=K9 (c:=32) (B:=70) (l:=(out.map (qx g)).map λx=>x.cps.toList) λa ha=>by
  obtain ⟨x,hx,rfl⟩:=mem_map.mp ha
  obtain ⟨y,hy,rfl⟩:=mem_map.mp hx
  obtain ⟨a,b,c,e⟩:=h y hy
  rw [<- Xl]; exact (Zei a b c e).1.len
 rw [Ab,Ab] at this;exact this
def Zk2 {ns:List Int} {x:Int} (h:V.str (srS ns x)=V.str (Str.ofString "rim")):Zu ns x="rim":=by
 injection h with h
 unfold srS at h;by_cases a:Zu ns x="rim"
 ·exact a
 ·rw [if_neg a] at h
  by_cases b:Zu ns x="locked"
  ·rw [if_pos b] at h; exact absurd h (c:)
  ·rw [if_neg b] at h; exact absurd h (c:)
def two {x y:V}:[x,y].length<=sizeLine:=by rw [sizeLine_eq]; show 2<=_; decide
def Wi:FnScope ["_law_mates","_law_rows_here","_law_counts","_law_way","_law_seam","_law_cloth","_law_a","_law_b","_law_c"] (d6:) (Zg Za2):=Am
def Zht (T:Txt w K mg t):(a:) 2 t.fO t.f9 (d6:) Zk8:=by
 refine T.gs.F.aR Wi (λ_ _ _ s H vs Q E hr h=>?_)
 ·obtain ⟨m,r,c,M,ns,ks,ke,rfl,hm,t9,td,k9,hc,pm,xu,hw7,k⟩:=h
  have hu:=Xh hr;refine ⟨_,(Zf (psN 2 Wi.nd (Ys Vg (by rfl) T.gz PySem.Pv.boot_dict (y:)))
   (Zf (psN 4 Wi.nd (Zt Yr (db:) (Zi Z7 (pv 3) Zd) (j:)))
   (Zf (Yj (Zs Jr (pv 3) Zd (Zn _)) (Zh (Qh hu (pv 2) (pv 4) Zd rfl)) (Zh (Yj (Zs Jr (pv 3) Zd (Zn _)) (Zh (Qh hu (pv 2) (pv 4) Zd rfl)) (Zf (Z5 (Zn8 (pv 2) (pv 4) ⟨rfl,rfl,rfl,rfl⟩))
   (Zh (Zl (Yp (Za (Zi Ji (pcT (Jx T) hr T.bb (y:)) Zj) (bl:)))))))))
   (Zf (Yj (Zs Yf (pcT (Zda T) hr T.gq (Za (pv 0) (Za (pv 1) (Za (pv 4) Zb)))) Zj (Zn _)) (ch:) Z8)
   (Zf (Wn PassesOwn.never rfl (Yh (pv 1)) (pgN 5 Wi.nd) (Zh (Yj (Zs Yf (Zi Z7 (Zi Yi (Zi Yi (Y3 hu (pv 2) (Zt Yr (pv 5) Zd (j:)) (j:)) (Y3 hu (pv 2) (Zt Yr (pv 5) Zd (j:)) (j:))) (Y3 hu (pv 2) (Zt Yr (pv 5) Zd (j:)) (j:))) Zd) Zd (Zn _)) (ch:) Z8)))
   (Zf (Wn PassesOwn.never rfl (Yh (pv 1)) (Wr rfl (Zq (pgN 6 Wi.nd) (Zq (pgN 7 Wi.nd) (Zq (pgN 8 Wi.nd) Ym)))) (Zh (Yj (Zs J6 (Zi Wy Zd (Yg (Zm9 rfl) (by rfl) T.iY PyProof.Rows.boot_max (Za (Y3 hu (pv 2) (pv 6) (j:)) (Za (Y3 hu (pv 2) (pv 7) (j:)) (Za (Y3 hu (pv 2) (pv 8) (j:)) Zb))))) (Zi Yi (Zi Yi (Y3 hu (pv 2) (pv 6) (j:)) (Y3 hu (pv 2) (pv 7) (j:))) (Y3 hu (pv 2) (pv 8) (j:))) (Zn _)) (ch:) Z8)))
   (ch:))))))),?_⟩
  have l9:ks.length < 64:=by have h1:=pm.length_eq; have h2:=Ql ns ns.length; lia
  have nd:ks.Nodup:=pm.nodup_iff.mpr (J9 ns ns.length);obtain ⟨n,n1,wn,hn⟩:=td.n;have pi:=td.len;have hkr:∀ y∈ks,0<=y/\y<=9999:=λy hy=>Jk td (pm.mem_iff.mp hy);refine Zw λky j5=>⟨c,_,Y,.inl hc,λc1 u7=>j5 _ _ ?_⟩;have s1:Same H (upd H c1 (.dK (dI ks λ_=>0))):=Same.new u7;have h1:(upd H c1 (.dK (dI ks λ_=>0))) c1=some (.dK (dI ks λ_=>0)):=Zc;generalize upd H c1 (.dK (dI ks λ_=>0))=H1 at s1 h1 ⊢
  try dsimp only [Zm]
  obtain ⟨jw,hjw⟩:∃ j:Nat,ke % 3=j:=⟨(ke % 3).toNat,by lia⟩;have hj3:jw < 3:=by lia
  have hx:=Ac (show jw < ns.length by lia);generalize ns[jw]=x at hx;have o8:x∈keys ns ns.length:=Y8.mpr ⟨jw,by lia,hx⟩;have xo:x∈ks:=pm.mem_iff.mpr o8;obtain ⟨xi,q,w1,w2,w3,w4⟩:=Za8 (t9.same s1) hx;rw [show jw / 3=0 by lia] at w2 w3 w4;rw [show jw % 3=jw by lia] at w4;refine Zw λky j5=>?_;refine ⟨SqL.of w1,(X4 (i:=0) w2:atI (xi.map V.ref) (ca:)=_),(bj:),SqT.of w3,(by rw [hjw]; exact Xa w4),(j5 _ _ ?_)⟩
  try dsimp only [Zm]
  obtain ⟨g,hg⟩:∃ g:Int->Int->Int,g=λv y=>if y=x then v else 0:=⟨_,rfl⟩
  have hgx:∀ v,g v x=v:=λv=>by rw [hg]; exact if_pos Y
  have hgy:∀ v y,y≠x->g v y=0:=λv y h=>by rw [hg]; exact if_neg h
  have hgr:∀ v,v=1\/v=4->∀ y,0<=g v y/\g v y<=9:=λv hv y=>by
   by_cases e:y=x
   ·rw [e,hgx]; lia
   ·rw [hgy v y e]; lia
  have vw:∀ v,v=1\/v=4->∀ y∈ks,0<=y/\y<=10000/\0<=g v y/\g v y<=9:=λv hv y hy=>by
   have:=hkr y hy; have:=hgr v hv y; lia
  have hks0:ks≠[]:=λe=>by rw [e] at xo; cases xo
  have kk:∀ (v:Int) (o:Option Tg) (H':Hp) (l:Addr) (out:List Int),(v=1\/v=4)->Same H H'->H' l=none->out.Perm ks->out.Pairwise (·<=·)->(∀ s,PrT ns ks (g v) s (otR s o))->Q (.ref l) (upd H' l (.tup [.str (rowS (g v) out),.str (otx o)])):=λv o H' l out hv s' hl po st hp=>by
   refine k l _ _ _ (s'.trans (Same.new hl)) ?_ Zc ⟨out,g v,o,Y,⟨λe=>?_,?_,Zi8 po nd st,λy hy=>vw v hv y (po.mem_iff.mp hy)⟩,Y,λs=>?_⟩
   ·cases e:H l with
    | none=>rfl
    | some u=>have:=s' _ _ e; rw [hl] at this; cases this
   ·rw [e] at po; exact hks0 (List.Perm.eq_nil po.symm)
   ·rw [po.length_eq]; exact l9
   ·rcases hp s with ⟨a,b⟩ | ⟨a,b⟩
    ·exact .inl ⟨a.imp (λn p=>n (po.symm.trans p)) id,b⟩
    ·exact .inr ⟨po.trans a,b⟩
  have s01:=s1;refine Z0 (λσ H'=>∃ v:Int,(v=1\/v=4)/\σ=[oR m,oR r,oR c1,oI ke,oI x,none,none,none,none]/\Same H H'/\H' c1=some (.dK (dI ks (g v)))) (D:) ?_
  ·refine ite2 (λz=>?_) (λz=>?_)
   ·refine ⟨c1,_,Y,DPut.k (k:=Sum.inl x) h1 (by rw [U4]; exact Zo (by lia)),?_⟩
    refine kc _ _ ⟨1,.inl Y,Y,?_,?_⟩
    ·exact Same.add s1 u7
    ·rw [Zc,Zgz xo,hg]
   ·refine ite2 (λz=>?_) (λz=>?_)
    ·refine ⟨c1,_,Y,DPut.k (k:=Sum.inl x) h1 (by rw [U4]; exact Zo (by lia)),?_⟩
     refine kc _ _ ⟨4,.inr Y,Y,?_,?_⟩
     ·exact Same.add s1 u7
     ·rw [Zc,Zgz xo,hg]
    ·refine ⟨c1,Y,.inl ⟨_,.inl h1⟩,_,Sum.inl x,_,h1,Y,Zm3 xo,?_⟩
     rw [Zq4];have pf:∀ y∈ks.filter (λy=>decide (y≠x)),y∈ks:=λy hy=>(mem_filter.mp hy).1;refine ⟨c1,_,_,rfl,Zc,Nat.lt_of_le_of_lt (length_filter_le _ _) l9,λy hy=>by have:=hkr y (pf y hy); lia,λout H' s' po st=>?_⟩
     have zne:out≠[]:=λe=>by
      have he:∃ i,i < 3/\ns[i]?≠some x:=Classical.byContradiction λhn=>by
       have all:∀ i,i < 3->i∈pl ns ns.length x:=λi hi=>mem_filter.mpr ⟨mem_range.mpr (by lia),decide_eq_true (Classical.byContradiction λq=>hn ⟨i,hi,q⟩)⟩;have a0:=all 0 (c:);have a1:=all 1 (c:);have a2:=all 2 (c:)
       rcases Qi td o8 with ⟨a,e,_⟩ | ⟨a,b,p8,e,_⟩ <;> rw [e] at a0 a1 a2 <;> simp at a0 a1 a2 <;> lia
      obtain ⟨i,hi,kq⟩:=he;have hy:=Ac (show i < ns.length by lia);generalize ns[i]=y at hy;have ql:y∈ks:=pm.mem_iff.mpr (Y8.mpr ⟨i,by lia,hy⟩);have:y∈out:=po.mem_iff.mpr (mem_filter.mpr ⟨ql,decide_eq_true λq=>kq (by rw [hy,q])⟩);rw [e] at this;cases this
     have sx:∀ y∈out,0<=y/\y<=9999:=λy hy=>hkr y (pf y (po.mem_iff.mp hy));have sv:out.length < 63:=by
      have h1:=po.length_eq
      have h2:(ks.filter λy=>decide (y≠x)).length < ks.length:=length_filter_lt_length_iff_exists.mpr ⟨x,xo,λh=>of_decide_eq_true h rfl⟩
      lia
     refine ⟨_,_,Y,Y,?_,(szR Y),λl hl=>?_⟩
     ·have:=Gk (out:=out) (g:=λ_=>0) λy hy=>by have:=sx y hy; lia
      have l1:(Str.ofString " 10000:0").length=8:=by decide
      rw [sizeLine_eq,l1];lia
     rw [Znz zne];have sH:Same H H':=(Same.add s1 u7).trans s';refine k l _ _ _ (sH.trans (Same.new hl)) ?_ Zc ⟨out ++ [10000],λ_=>0,some .co,Y,⟨λe=>by simp at e,by rw [Ae,At]; lia,?_,λy hy=>?_⟩,rfl,λs=>.inl ⟨.inl (Zsb td),rfl⟩⟩
     ·cases e:H l with
      | none=>rfl
      | some u=>have:=sH _ _ e; rw [hl] at this; cases this
     ·refine pairwise_append.mpr ⟨Zi8 po (nd.filter _) st,pairwise_singleton _ _,λa ha b hb=>?_⟩
      rw [Af hb];have:=sx a ha;lia
     ·rcases mem_append.mp hy with hy | hy
      ·have:=sx y hy; lia
      ·rw [Af hy]; decide
  rintro σ H2 ⟨v,hv,rfl,s2,h2⟩;clear h1 w1 w2 w3 s1 s01;refine Zw λky j5=>⟨m,r,M,ns,x,Y,s2 _ _ hm,t9.same s2,td,k9,o8,λH3 s3=>?_⟩;have h3:=s3 _ _ h2;have k8:=s2.trans s3;refine ⟨Y,ite2 (λz=>?_) (λz=>?_)⟩
  ·refine ⟨c1,ks,g v,Y,h3,l9,vw v hv,λout H' s' po st=>?_⟩
   exact ⟨two,λl hl=>kk v (some .co) H' l out hv (k8.trans s') hl po st λs=>.inl ⟨.inr ⟨x,o8,by rw [hgx]; lia,Zk2 (of_decide_eq_true z)⟩,rfl⟩⟩
  refine j5 _ _ ?_;have nr:¬ rimN ns (g v):=λ⟨y,_,h0,hy⟩=>by
   by_cases e:y=x
   ·exact z (decide_eq_true (by rw [e] at hy; unfold srS; rw [if_pos hy]))
   ·rw [hgy v y e] at h0; lia
  clear j5 ky z s3 h2 s2;obtain ⟨ts,r1,r2,r3⟩:=t9;have hnt:ns.length / 3=ts.length:=by lia
  have key:∀ i j,i < ts.length->j < 3->ns.getD (3 * i + j) 0∈ks:=λi j hi hj=>pm.mem_iff.mpr (Vy (by lia));refine Z0 (λσ H'=>∃ v5:Option V,σ=[oR m,oR r,oR c1,oI ke,oI x,v5,none,none,none]/\Same H3 H'/\∀ k,k < ns.length / 3->odB ns (g v) k=false) (D:) ?_
  ·refine ⟨r,Y,⟨_,SqL.of (k8 _ _ r1)⟩,?_⟩
   refine Op (xs:=ts.map V.ref) (λi σ H'=>∃ v5:Option V,σ=[oR m,oR r,oR c1,oI ke,oI x,v5,none,none,none]/\Same H3 H'/\∀ k,k < i->odB ns (g v) k=false) ⟨none,Y,Same.refl _,λk h=>absurd h (not_lt_zero k)⟩ ?_ ?_ ?_
   ·rintro i σ H' _ ⟨v5,rfl,s4,_⟩
    exact SqL.of (s4 _ _ (k8 _ _ r1))
   ·rintro i y σ H4 hy ⟨v5,rfl,s4,ho⟩
    obtain ⟨q,hq,rfl⟩:=map_some hy;have hi:i < ts.length:=(Aa hq).1;have hq4:=s4 _ _ (k8 _ _ (r3 i q hq));have h4:=s4 _ _ h3;dsimp only [Zm];refine ⟨SqT.of hq4,Xa (j:=0) (by rfl),c1,_,Y,Xt h4 (key i 0 hi (c:)),SqT.of hq4,Xa (j:=1) (by rfl),c1,_,Y,Xt h4 (key i 1 hi (c:)),SqT.of hq4,Xa (j:=2) (by rfl),c1,_,Y,Xt h4 (key i 2 hi (c:)),(by show (0:Int) < 2; decide),rfl,?_⟩;have eo:odB ns (g v) i=decide (V.int ((g v (ns.getD (3 * i) 0) + g v (ns.getD (3 * i + 1) 0) + g v (ns.getD (3 * i + 2) 0)) % 2)=V.int 1):=by
     unfold odB g3
     rw [sum_cons,sum_cons,sum_cons,sum_nil,show ∀ a b c:Int,a + (b + (c + 0))=a + b + c from λa b c=>by lia]
    refine ite2 (λz=>?_) (λz=>?_)
    ·refine ⟨c1,ks,g v,Y,h4,l9,vw v hv,λout H' s' po st=>?_⟩
     exact ⟨two,λl hl=>kk v (some .un) H' l out hv ((k8.trans s4).trans s') hl po st λs=>.inr ⟨pm,nr,.inl ⟨⟨i,by lia,by rw [eo]; exact z⟩,Y⟩⟩⟩
    ·refine ⟨_,Y,s4,λk hk=>?_⟩
     by_cases e:k < i
     ·exact ho k e
     ·rw [show k=i by lia,eo]
      exact Bool.eq_false_iff.mpr z
   ·rintro σ H4 ⟨v5,rfl,s4,ho⟩
    rw [Ab] at ho;exact kc _ _ ⟨v5,Y,s4,by rw [hnt]; exact ho⟩
  rintro σ H4 ⟨v5,rfl,s4,ho⟩;have m6:=k8.trans s4;have h4:=s4 _ _ h3;have nod:¬ ∃ k,k < ns.length / 3/\odB ns (g v) k=true:=λ⟨k,h,e⟩=>by rw [ho k h] at e; cases e
  clear h3 k8 s4;refine Z0 (λσ H'=>∃ v6 v7 v8:Option V,σ=[oR m,oR r,oR c1,oI ke,oI x,v5,v6,v7,v8]/\Same H4 H'/\∀ k,k < ns.length / 3->wdB ns (g v) k=false) (D:) ?_
  ·refine ⟨r,Y,⟨_,SqL.of (m6 _ _ r1)⟩,?_⟩
   refine Op (xs:=ts.map V.ref) (λi σ H'=>∃ v6 v7 v8:Option V,σ=[oR m,oR r,oR c1,oI ke,oI x,v5,v6,v7,v8]/\Same H4 H'/\∀ k,k < i->wdB ns (g v) k=false) ⟨none,none,none,Y,Same.refl _,λk h=>absurd h (not_lt_zero k)⟩ ?_ ?_ ?_
   ·rintro i σ H' _ ⟨v6,v7,v8,rfl,s5,_⟩
    exact SqL.of (s5 _ _ (m6 _ _ r1))
   ·rintro i y σ H5 hy ⟨v6,v7,v8,rfl,s5,ho⟩
    obtain ⟨q,hq,rfl⟩:=map_some hy;have hi:i < ts.length:=(Aa hq).1;have hq5:=s5 _ _ (m6 _ _ (r3 i q hq));have h5:=s5 _ _ h4;dsimp only [Zm];refine ⟨q,_,Y,SqT.of hq5,Y,_,_,Y,_,_,Y,_,_,Y,Y,?_⟩
    try dsimp only [Zm]
    refine ⟨c1,_,Y,Xt h5 (key i 0 hi (c:)),c1,_,Y,Xt h5 (key i 1 hi (c:)),c1,_,Y,Xt h5 (key i 2 hi (c:)),_,_,_,Y,(by show CMul 2 _; exact .inl ⟨by decide,by decide⟩),c1,_,Y,Xt h5 (key i 0 hi (c:)),c1,_,Y,Xt h5 (key i 1 hi (c:)),c1,_,Y,Xt h5 (key i 2 hi (c:)),?_⟩;generalize hm:max (g v (ns.getD (3 * i + 0) 0)) (max (g v (ns.getD (3 * i + 1) 0)) (g v (ns.getD (3 * i + 2) 0)))=mx;have eo:decide (g v (ns.getD (3 * i + 0) 0) + g v (ns.getD (3 * i + 1) 0) + g v (ns.getD (3 * i + 2) 0) < 2 * mx)=wdB ns (g v) i:=by
     rw [<- Zkp (m:=mx) (by unfold g3; simp only [mem_cons,not_mem_nil,or_false]; rw [Nat.add_zero] at hm; lia) (by intro a ha; unfold g3 at ha; simp only [mem_cons,not_mem_nil,or_false] at ha; rw [Nat.add_zero] at hm; lia)]
     unfold g3
     rw [sum_cons,sum_cons,sum_cons,sum_nil,show ∀ a b c:Int,a + (b + (c + 0))=a + b + c from λa b c=>by lia]
     rfl
    refine ite2 (λz=>?_) (λz=>?_)
    ·refine ⟨c1,ks,g v,Y,h5,l9,vw v hv,λout H' s' po st=>?_⟩
     exact ⟨two,λl hl=>kk v (some .wi) H' l out hv ((m6.trans s5).trans s') hl po st λs=>.inr ⟨pm,nr,.inr ⟨nod,.inl ⟨⟨i,by lia,by rw [<- eo]; exact z⟩,Y⟩⟩⟩⟩
    ·refine ⟨_,_,_,Y,s5,λk hk=>?_⟩
     by_cases e:k < i
     ·exact ho k e
     ·rw [show k=i by lia,<- eo]
      exact Bool.eq_false_iff.mpr z
   ·rintro σ H5 ⟨v6,v7,v8,rfl,s5,ho⟩
    rw [Ab] at ho;exact kc _ _ ⟨v6,v7,v8,Y,s5,by rw [hnt]; exact ho⟩
  rintro σ H5 ⟨v6,v7,v8,rfl,s5,hw⟩;have h5:=s5 _ _ h4;refine ⟨c1,ks,g v,Y,h5,l9,vw v hv,λout H' s' po st=>?_⟩;refine ⟨two,λl hl=>kk v none H' l out hv ((m6.trans s5).trans s') hl po st λs=>.inr ⟨pm,nr,.inr ⟨nod,.inr ⟨λxc=>?_,Y⟩⟩⟩⟩;obtain ⟨k,h,e⟩:=xc;exact (by rw [hw k h] at e; cases e)
def Pl.wind {M:Lq} {ws vs:List Nat} {m s:Nat} (h:Pl M ws) (hl:vs.length=m * ws.length) (kq:vs≠[]) (hg:∀ k,k < vs.length->vs[k]?=ws[(k + s) % ws.length]?):Pl M vs:=by
 have dv:ws.length ∣ vs.length:=⟨m,by rw [hl,Nat.mul_comm]⟩
 have hp:0 < vs.length:=by cases vs with | nil=>exact absurd rfl kq | cons _ _=>simp
 refine ⟨kq,λp hm=>?_,λk a p ha su m' vo=>?_⟩
 ·obtain ⟨k,hk,e⟩:=mem_iff_getElem.mp hm
  have:=hg k hk;rw [Ac hk,e] at this;exact h.has p (Au this.symm)
 ·have hk:k < vs.length:=(Aa ha).1
  rw [hg k hk] at ha;rw [hg _ (mod_lt _ hp)] at su;refine h.nxt ((k + s) % ws.length) a p ha ?_ m' vo;rw [<- su];congr 1;rw [mod_add_mod,<- mod_add_mod ((k + 1) % vs.length),mod_mod_of_dvd _ dv,mod_add_mod];congr 1;lia
def Zr7 {M:Lq} {ws:List Nat} {m:Nat} (h:Pl M ws) (hm:0 < m):Pl M (List.replicate m ws).flatten:=by
 have hw:0 < ws.length:=by
  cases e:ws with
  | nil=>exact absurd e h.ne
  | cons _ _=>simp
 refine h.wind (m:=m) (s:=0) (F7 ws m) (λz=>?_) λk hk=>?_
 ·have:=congrArg List.length z
  rw [F7] at this;have:=Nat.mul_pos hm hw;simp only [length_nil] at *;lia
 ·rw [F7] at hk
  rw [Nat.add_zero];exact Zfv ws m k hk
def Zc7 {M:Lq} {ws:List Int} {x:Int} (hx:x∈ws) (h:(M.length:Int)<=x):Xv M ws=false:=by
 have hc:Xx M x=false:=by
  unfold Xx;rw [decide_eq_false (by lia),Bool.false_and]
 unfold Xv;have:(ws.map (Xx M)).all id=false:=by
  rw [all_eq_false]
  exact ⟨false,mem_map.mpr ⟨x,hx,hc⟩,by decide⟩
 rw [this,Bool.false_and,Bool.and_false]
noncomputable def Zki (lh a:Str):List Str:=[Str.ofString "taken",Str.ofString "no thread",lh,Str.ofString "unknown",Str.ofString "no seam",Str.ofString "no seam",a,Str.ofString "rim",Str.ofString "no fraction",Str.ofString "too great"]
noncomputable def Ju (lh a:Str):List Str:=if a=Str.ofString "rim" then [Str.ofString "taken",Str.ofString "no thread",lh,Str.ofString "unknown",Str.ofString "no seam",Str.ofString "no seam",a,Str.ofString "rim",Str.ofString "rim",Str.ofString "rim"] else [Str.ofString "taken",Str.ofString "no thread",lh,Str.ofString "unknown",Str.ofString "no seam",Str.ofString "no seam",a,Str.ofString "",Str.ofString "no fraction",Str.ofString "too great"]
noncomputable def Q9 (bad:Str):List Str:=[Str.ofString "lay pool 0",Str.ofString "lay z 999",Str.ofString "pour z " ++ bad,Str.ofString "lift z",Str.ofString "weigh 10000 1/2",Str.ofString "turn 10000 left"]
noncomputable def fS (v:String) (x:Int) (e:String):Str:=Str.empty ++ Str.ofString v ++ (toString x:Str) ++ Str.ofString e
noncomputable def Qq (x:Int):List Str:=[fS "turn " x " right",fS "weigh " x " 1/2",fS "weigh " x " 0/3",fS "weigh " x " 1/" ++ Txt.mul (Str.ofString "9") 61]
noncomputable def Z9:Str:=Str.ofString "pool"
structure RfS (M:Lq) (ns:List Int) (d lh:Str):Prop where
 ex:∃ (ws:List Str) (D:Dd) (o:Option Tg) (l:List Str) (fr:Bool),Ln d ws/\Rdo ws D/\lh=otx o/\DoD M ns [Z9] true D (otR (l,fr) o)/\Z9∈l/\l.Nodup/\l.length<=2
inductive A2 (P:Str->Str->Prop):List Str->List Str->Prop
 | nil:A2 P [] []
 | cons {a b l m}:P a b->A2 P l m->A2 P (a :: l) (b :: m)
def A2.at' {P:Str->Str->Prop} {l m:List Str} (h:A2 P l m):∀ {i:Nat} {d e:Str},l[i]?=some d->m[i]?=some e->P d e:=by
 induction h with
 | nil=>intro i d e h1; simp at h1
 | cons p _ ih =>
  intro i d e h1 h2
  match i with
  | 0 =>
   rw [getElem?_cons_zero] at h1 h2
   injection h1 with h1
   injection h2 with h2
   rw [<- h1,<- h2];exact p
  | i + 1 =>
   rw [getElem?_cons_succ] at h1 h2;exact ih h1 h2
def woz:Wo (Str.ofString "z"):=wo_b (h:)
def wop:Wo Z9:=wo_b (h:)
def isNz:isN (Str.ofString "z")=true:=by decide +kernel
def isNp:isN Z9=true:=by decide +kernel
def pp1:Z9∈[Z9]:=mem_singleton.mpr rfl
def pp2:[Z9].Nodup:=by decide
def pp3:[Z9].length<=2:=by decide
def no_z:Str.ofString "z" ∉ [Z9]:=by decide
def Zam {d:Str} (h:woB d=true):Wd d:=(wo_b h).wd
def no10 {M:Lq} {ns:List Int} (td:TD M ns):(10000:Int) ∉ keys ns ns.length:=λh=>by
 have:=Jk td h;lia
section
variable {M:Lq} {ns:List Int}
def rf0:RfS M ns (Str.ofString "lay pool 0") (Str.ofString "taken") :=
 ⟨[Str.ofString "lay",Z9,Str.ofString "0"],.lay Z9 [0],some .ta,[Z9],true,ln_b _ (h:),⟨rfl,rfl,wop.wd,isNp,cons_ne_nil _ _,by show 1<=900; decide,rfl,λi y n e1 e2=>by
  match i with
  | 0=>cases e1; cases e2; exact ⟨Zam (h:),by decide +kernel⟩
  | i + 1=>cases e1⟩,rfl,⟨rfl,wop.wd,isNp,by show 1<=1000; decide,.inl ⟨pp1,rfl⟩⟩,pp1,pp2,pp3⟩
def rf1 (td:TD M ns):RfS M ns (Str.ofString "lay z 999") (Str.ofString "no thread") :=
 ⟨[Str.ofString "lay",Str.ofString "z",Str.ofString "999"],.lay (Str.ofString "z") [999],some .th,[Z9],true,ln_b _ (h:),⟨rfl,rfl,woz.wd,isNz,cons_ne_nil _ _,by show 1<=900; decide,rfl,λi y n e1 e2=>by
  match i with
  | 0=>cases e1; cases e2; exact ⟨Zam (h:),by decide +kernel⟩
  | i + 1=>cases e1⟩,rfl,⟨rfl,woz.wd,isNz,by show 1<=1000; decide,.inr ⟨no_z,.inl ⟨Zc7 (mem_singleton.mpr rfl) (by obtain ⟨n,_,h,e⟩:=td.n; lia),rfl⟩⟩⟩,pp1,pp2,pp3⟩
def rf2 {bad lh:Str} (ps:PouS ns bad lh):RfS M ns (Str.ofString "pour z " ++ bad) lh:=by
 obtain ⟨out,g,o,hb,hp,hd,hr⟩:=ps.ex;obtain ⟨L,R⟩:=Zfx (d:=Str.ofString "pour z " ++ bad) hp woz isNz (by rw [hb,X5]; rfl);refine ⟨_,_,o,[Z9,Str.ofString "z"],true,L,R,hd,⟨rfl,woz.wd,isNz,no_z,hp.len,λy hy=>⟨(hp.rng y hy).2.2.1,(hp.rng y hy).2.2.2⟩,hr _⟩,mem_cons_self,by decide,by decide⟩
def rf3:RfS M ns (Str.ofString "lift z") (Str.ofString "unknown") :=
 ⟨[Str.ofString "lift",Str.ofString "z"],.lift (Str.ofString "z"),some .uk,[Z9],true,ln_b _ (h:),⟨rfl,rfl,woz.wd,isNz⟩,rfl,⟨woz.wd,.inl ⟨no_z,rfl⟩⟩,pp1,pp2,pp3⟩
def pr12:Pr2 47 (Str.ofString "1/2") 1 2:=Zee (a:=Str.ofString "1") (b:=Str.ofString "2") (h:) (wo_b (h:)) (wo_b (h:)) (h:) (h:) (h:) (h:)
def pr03:Pr2 47 (Str.ofString "0/3") 0 3:=Zee (a:=Str.ofString "0") (b:=Str.ofString "3") (h:) (wo_b (h:)) (wo_b (h:)) (h:) (h:) (h:) (h:)
noncomputable def big9:Str:=Str.ofString "1/" ++ Txt.mul (Str.ofString "9") 61
def pr9:Pr2 47 big9 1 9999999999999999999999999999999999999999999999999999999999999:=Zee (a:=Str.ofString "1") (b:=Txt.mul (Str.ofString "9") 61) (h:) (wo_b (h:)) (wo_b (h:)) (h:) (h:) (h:) (h:)
def rf4 (td:TD M ns):RfS M ns (Str.ofString "weigh 10000 1/2") (Str.ofString "no seam") :=
 ⟨[Str.ofString "weigh",Str.ofString "10000",Str.ofString "1/2"],.weigh 10000 1 2,some .se,[Z9],true,ln_b _ (h:),⟨rfl,Zam (h:),by decide +kernel,pr12⟩,rfl,⟨rfl,.inl ⟨no10 td,rfl⟩⟩,pp1,pp2,pp3⟩
def rf5 (td:TD M ns):RfS M ns (Str.ofString "turn 10000 left") (Str.ofString "no seam") :=
 ⟨[Str.ofString "turn",Str.ofString "10000",Str.ofString "left"],.turn 10000 (Str.ofString "left"),some .se,[Z9],true,ln_b _ (h:),⟨rfl,Zam (h:),by decide +kernel,rfl,.inl rfl⟩,rfl,⟨rfl,.inl rfl,by decide,by decide,.inl ⟨no10 td,rfl⟩⟩,pp1,pp2,pp3⟩
def Gv (v:String) (x:Int) (e:String):(fS v x e).cps.toList=(Str.ofString v).cps.toList ++ ((ku x).cps.toList ++ (Str.ofString e).cps.toList):=by
 unfold fS;rw [X5,X5,X5];show ([]:List Nat) ++ (Str.ofString v).cps.toList ++ (ku x).cps.toList ++ (Str.ofString e).cps.toList=_;simp
def ln3 {d v e:Str} {x:Int} (h0:0<=x) (h1:x<=9999) (hv:Wo v) (he:Wo e) (hd:d.cps.toList=v.cps.toList ++ 32 :: ((ku x).cps.toList ++ 32 :: e.cps.toList)):Ln d [v,ku x,e] :=
 Zbn hd (N:) (by show 3<=500; decide) λy hy=>by
  simp only [mem_cons,not_mem_nil,or_false] at hy
  rcases hy with rfl | rfl | rfl
  ·exact hv
  ·exact Jt h0 (by lia)
  ·exact he
def Znl {x:Int} (td:TD M ns) (hx:x∈keys ns ns.length):Zu ns x="rim"/\srS ns x="rim"\/Zu ns x="locked"/\srS ns x="locked"\/Zu ns x="free"/\srS ns x="":=by
 unfold srS
 rcases J3 td hx with ⟨h,_⟩ | ⟨h,_⟩ | ⟨h,_⟩ <;> rw [h]
 ·exact .inl ⟨Y,if_pos Y⟩
 ·exact .inr (.inl ⟨Y,by rw [if_neg t_lr,if_pos rfl]⟩)
 ·exact .inr (.inr ⟨Y,by rw [if_neg t_fr,if_neg (c:)]⟩)
def rf6 (td:TD M ns) {x:Int} (hx:x∈keys ns ns.length):RfS M ns (fS "turn " x " right") (srS ns x):=by
 obtain ⟨h0,h1⟩:=Jk td hx;have L:Ln (fS "turn " x " right") [Str.ofString "turn",ku x,Str.ofString "right"]:=ln3 h0 h1 (wo_b (h:)) (wo_b (h:)) (by rw [Gv]; rfl);have R:Rdo [Str.ofString "turn",ku x,Str.ofString "right"] (.turn x (Str.ofString "right")):=⟨rfl,(Jt h0 (by lia)).wd,Q1 h0 (by lia),rfl,.inr rfl⟩;have B:∀ r,TrT ns x [Z9] r->DoD M ns [Z9] true (.turn x (Str.ofString "right")) r:=λr h=>⟨rfl,.inr rfl,h0,by lia,h⟩
 rcases Znl td hx with ⟨a,b⟩ | ⟨a,b⟩ | ⟨a,b⟩ <;> rw [b]
 ·exact ⟨_,_,some .ri,[Z9],true,L,R,Y,B _ (.inr ⟨hx,.inl ⟨a,Y⟩⟩),pp1,pp2,pp3⟩
 ·exact ⟨_,_,some .lo,[Z9],true,L,R,Y,B _ (.inr ⟨hx,.inr (.inl ⟨a,Y⟩)⟩),pp1,pp2,pp3⟩
 ·exact ⟨_,_,none,[Z9],false,L,R,Y,B _ (.inr ⟨hx,.inr (.inr ⟨a,Y⟩)⟩),pp1,pp2,pp3⟩
def rf7 (td:TD M ns) {x:Int} (hx:x∈keys ns ns.length) {d e:Str} {a b:Int} {o:Option Tg} (hd:d.cps.toList=(Str.ofString "weigh").cps.toList ++ 32 :: ((ku x).cps.toList ++ 32 :: e.cps.toList)) (he:Wo e) (hp:Pr2 47 e a b) (hr:a=0/\b=3/\o=some .fr\/a=1/\b=9999999999999999999999999999999999999999999999999999999999999/\o=some .gr\/a=1/\b=2/\o=none):RfS M ns d (if srS ns x=Str.ofString "rim" then Str.ofString "rim" else otx o):=by
 obtain ⟨h0,h1⟩:=Jk td hx;have L:=ln3 h0 h1 (wo_b (h:)) he hd;have R:Rdo [Str.ofString "weigh",ku x,e] (.weigh x a b):=⟨rfl,(Jt h0 (by lia)).wd,Q1 h0 (by lia),hp⟩;by_cases c:srS ns x=Str.ofString "rim"
 ·rw [if_pos c]
  exact ⟨_,_,some .ri,[Z9],true,L,R,Y,⟨Y,.inr ⟨hx,.inl ⟨Zk2 (by rw [c]),Y⟩⟩⟩,pp1,pp2,pp3⟩
 ·rw [if_neg c]
  have nr:Zu ns x≠"rim":=λz=>c (by unfold srS; rw [if_pos z]);refine ⟨_,_,o,[Z9],false,L,R,Y,⟨Y,.inr ⟨hx,.inr ⟨nr,?_⟩⟩⟩,pp1,pp2,pp3⟩
  rcases hr with ⟨a,b,rfl⟩ | ⟨a,b,rfl⟩ | ⟨a,b,rfl⟩
  ·exact .inl ⟨a,b,Y⟩
  ·exact .inr (.inl ⟨a,b,Y⟩)
  ·exact .inr (.inr ⟨a,b,Y⟩)
def rf10 {fw:List Nat} (ne:fw≠[]) (h4:400 < fw.length) (h5:fw.length<=480) (hb:∀ p∈fw,p<=1000) (hp:Pl M fw) {far:Str} (hf:far.cps.toList=jnL 32 (fw.map λ(p:Nat)=>(ku p).cps.toList)):RfS M ns (Str.ofString "lay z " ++ far) (Str.ofString "too many"):=by
 obtain ⟨wl,L,R⟩:=Zsm (d:=Str.ofString "lay z " ++ far) ne h5 hb (by rw [X5,hf]; rfl);exact ⟨wl,_,some .ma,[Z9],true,L,R,Y,⟨Y,woz.wd,isNz,by rw [Ab]; lia,.inr ⟨no_z,.inr ⟨Zc8.mpr hp,by rw [Ab]; exact h4,Y⟩⟩⟩,pp1,pp2,pp3⟩
def Zr1 (td:TD M ns) {x:Int} (hx:x∈keys ns ns.length) {bad lh far:Str} (ps:PouS ns bad lh) {ws fw:List Nat} (hw:ws≠[]->fw≠[]/\400 < fw.length/\fw.length<=480/\(∀ p∈fw,p<=1000)/\Pl M fw) (hf:far.cps.toList=jnL 32 (fw.map λ(p:Nat)=>(ku p).cps.toList)) {i:Nat} {d e:Str}
  (h1:(Q9 bad ++ Qq x ++ if ws=[] then [] else (ea:))[i]?=some d) (h2:(Ju lh (srS ns x) ++ if ws=[] then [] else [Str.ofString "too many"])[i]?=some e):RfS M ns d e:=by
 have e7:=rf7 td hx (d:=fS "weigh " x " 1/2") (e:=Str.ofString "1/2") (by rw [Gv]; rfl) (wo_b (h:)) pr12 (.inr (.inr ⟨rfl,rfl,rfl⟩));have e8:=rf7 td hx (d:=fS "weigh " x " 0/3") (e:=Str.ofString "0/3") (by rw [Gv]; rfl) (wo_b (h:)) pr03 (.inl ⟨rfl,rfl,rfl⟩);have e9:=rf7 td hx (d:=fS "weigh " x " 1/" ++ Txt.mul (Str.ofString "9") 61) (e:=big9) (by rw [X5,Gv,append_assoc,append_assoc]; rfl) (wo_b (h:)) pr9 (.inr (.inl ⟨rfl,rfl,rfl⟩));have eR:A2 (RfS M ns) (if ws=[] then [] else (ea:)) (if ws=[] then [] else [Str.ofString "too many"]):=by
  by_cases c:ws=[]
  ·rw [if_pos c,if_pos c]; exact .nil
  ·rw [if_neg c,if_neg c]
   obtain ⟨a1,a2,a3,a4,a5⟩:=hw c
   exact .cons (rf10 a1 a2 a3 a4 a5 hf) .nil
 generalize (if ws=[] then [] else [Str.ofString "lay z " ++ far])=R1 at eR h1;generalize (if ws=[] then [] else [Str.ofString "too many"])=R2 at eR h2;have e6:=rf6 td hx;have e2:=rf2 (M:=M) ps;unfold Q9 Qq at h1;rw [append_assoc,cons_append,cons_append,cons_append,cons_append,cons_append,cons_append,nil_append,cons_append,cons_append,cons_append,cons_append,nil_append] at h1;unfold Ju at h2;by_cases c:srS ns x=Str.ofString "rim"
 ·rw [if_pos c] at e7 e8 e9 h2
  rw [cons_append,cons_append,cons_append,cons_append,cons_append,cons_append,cons_append,cons_append,cons_append,cons_append,nil_append] at h2;exact (cw:).at' h1 h2
 ·rw [if_neg c] at e7 e8 e9 h2
  rw [cons_append,cons_append,cons_append,cons_append,cons_append,cons_append,cons_append,cons_append,cons_append,cons_append,nil_append] at h2;exact (cw:).at' h1 h2
def Zjg:Sp:=λvs H Q _=>∃ (m r wd:Addr) (M:Lq) (ns:List Int) (ws:List Nat) (ko:Int),vs=[.ref m,.ref r,.ref wd,.int ko]/\H m=some (a4:)/\Xq H r ns/\TD M ns/\ns.length < 64/\H wd=some (.lst (ws.map nV))/\ws.length<=60/\(ws≠[]->Pl M ws)/\0<=ko/\ko < 1000003 /\
 ∀ (l:Addr) (H':Hp) (txt lh:Str),Same H H'->H l=none->H' l=some (.tup [.str txt,.str lh])->RfS M ns txt lh->Q (.ref l) H'
def Ja {H H':Hp} {l:Addr} {u:HO} (s:Same H H') (h:H l=none):Same H (upd H' l u):=Same.add s h
def Zio {H:Hp} {a b:Addr} {u:HO} (h:H a=some u) (h2:H b=none):b≠a:=λe=>by rw [e,h] at h2; cases h2
def Qd {H H':Hp} {l:Addr} (s:Same H H') (h:H' l=none):H l=none:=by
 cases e:H l with
 | none=>rfl
 | some u=>have:=s _ _ e; rw [h] at this; cases this
def Zrt {ns:List Int} {x:Int} (h:(srS ns x).length=0):srS ns x="":=by
 unfold srS at h ⊢;by_cases a:Zu ns x="rim"
 ·rw [if_pos a] at h; exact absurd h (c:)
 ·rw [if_neg a] at h ⊢
  by_cases b:Zu ns x="locked"
  ·rw [if_pos b] at h; exact absurd h (c:)
  ·rw [if_neg b]
def Zru {ns:List Int} {x:Int}:(srS ns x).length<=sizeLine:=by
 rw [sizeLine_eq];unfold srS;split
 ·decide
 ·split <;> decide
def Ziu {fw:List Nat}:(Txt.join (an:) (fw.map λ(p:Nat)=>ku p)).cps.toList=jnL 32 (fw.map λ(p:Nat)=>(ku p).cps.toList):=by
 show (Builtin.Str.glued _ _).cps.toList=_;rw [StrLaws.glued_eq_join];refine (W0 32 _).trans ?_;rw [map_map];rfl
def Zq0 {l:List Nat} (h:∀ p∈l,p<=1000):(Txt.join (an:) (l.map λ(p:Nat)=>ku p)).length<=71 * l.length:=by
 rw [Xl,Ziu];have:=K9 (c:=32) (B:=70) (l:=l.map λ(p:Nat)=>(ku p).cps.toList) λa ha=>by
  obtain ⟨x,hx,rfl⟩:=mem_map.mp ha
  rw [<- Xl]; exact (Jt (Int.natCast_nonneg _) (by have:=h x hx; lia)).len
 rw [Ab] at this;exact this
def Zh7 {l:List Str} {i:Nat} {d:Str} (h:l[i]?=some d):atI (l.map V.str) (i:Int)=some (V.str d):=Xa (by rw [Ah,h]; rfl)
def Yx:FnScope ["_law_mates","_law_rows_here","_law_word","_law_pick","_law_zeros","_law_seam","_law_sort_here","_law_far","_law_bad","_law_due","_law_dues","_law_some","_law_at"] (eb:) (Zg Fg):=Am
def Zf8 (T:Txt w K mg t):(a:) 3 t.eu t.fb (eb:) Zjg:=by
 refine T.fo.F.aR Yx (b:)
 ·obtain ⟨m,r,wd,M,ns,ws,ko,rfl,hm,t9,td,k9,zu,hwl,lg,p0,p1,k⟩:=h
  have hu:=Xh hr;refine ⟨_,(Zf (psN 4 Yx.nd (pcT (Zbh T) hr T.dL (Za (pv 1) (Za (Zi Ky (Yz (Za Zd Zb)) (ck:)) Zb))))
   (Zf (psN 5 Yx.nd (Zt Yr (Zt Zv (pv 1) (Zi Z7 (Zi Y5 (pv 3) Zd) (Zx T.af (A:))) (j:)) (Zi Z7 (pv 3) Zd) (j:)))
   (Zf (psN 6 Yx.nd (pcT (Zda T) hr T.gq (Za (pv 0) (Za (pv 1) (Za (pv 5) Zb)))))
   (Zf (psN 7 Yx.nd (W4 PySem.F.plainAttrs_str PySem.F.slot_str_join PySem.F.type_str_join Uz Zj (Za (Yn (ts:=["_law_p"]) (fv:=[]) (i:) rfl (Yh (Zi Ky (pv 2) (Zi Yi Zd (Zi Y5 Zd (Yg (Zdq rfl) (by rfl) T.iY PyProof.Rows.boot_max (Za Zd (Za (ei:) Zb))))))) (aw:) (Q:) (K:) (λ_ _ _ _ _ _=>Yb (Ys Ws (by rfl) T.gB PySem.Pv.boot_str (w:)))) Zb)))
   (Zf (Xu (pcT (Zht T) hr T.gs (Za (pv 0) (Za (pv 1) (Za (pv 4) (Za (Zi Z7 (Zi Y5 (pv 3) Zd) Zd) Zb))))) (Wr rfl (Zq (pgN 8 Yx.nd) (Zq (pgN 9 Yx.nd) Ym))))
   (Zf (psN 10 Yx.nd (Yz (Za Zj (Za Zj (Za (pv 9) (Za Zj (Za Zj (Za Zj (Za (Zsc (pv 6) (Ut Zj)) (Za Zj (Za Zj (bl:))))))))))))
   (Zf (psN 11 Yx.nd (Yz (Za Zj (Za Zj (Za (Zi Ji Zj (pv 8)) (Za Zj (Za Zj (bl:))))))))
   (Zf (psN 11 Yx.nd (Zi Zf6 (pv 11) (Yz (Za (J0 (Xw (Wq (pv 5) (Xw Qx)))) (Za (J0 (Xw (Wq (pv 5) (Xw Qx)))) (Za (J0 (Xw (Wq (pv 5) (Xw Qx)))) (Za (Zi Ji (J0 (Xw (Wq (pv 5) (Xw Qx)))) (Zi Zqk Zj Zd)) Zb)))))))
   (Zf (Yj (Zs Zef (pv 6) Zj (Zn _)) (Zh (Xu Zj (Qy (pv 10) Zd W7))) (Zf (Xu Zj (Qy (pv 10) Zd W7))
   (Zh (Xu Zj (Qy (pv 10) Zd W7)))))
   (Zf (Yj (Zs J6 (ei:) Zd (Zn _)) (Zf (Z5 (Wp (pv 11) (Za (Zi Ji Zj (pv 7)) Zb)))
   (Zh (Z5 (Wp (pv 10) (bl:))))) Z8)
   (Zf (psN 12 Yx.nd (Zi Z7 (Zi Y5 (pv 3) Zd) (Zx T.af (Za (pv 11) Zb))))
   (Zh (Zl (Yp (Za (Zt Zv (pv 11) (pv 12) (j:)) (Za (Zt Zv (pv 10) (pv 12) (j:)) Zb)))))))))))))))),?_⟩
  obtain ⟨n,n1,wn,hn⟩:=td.n;have pi:=td.len;refine Zw λky j5=>⟨(szR Y),λl0 tj=>?_⟩;have s1:Same H (upd H l0 (.lst [V.int 0])):=Same.new tj;have h0:(upd H l0 (.lst [V.int 0])) l0=some (.lst [V.int 0]):=Zc;generalize upd H l0 (.lst [V.int 0])=H1 at s1 h0 ⊢;refine ⟨m,_,Y,.inl (SqL.of (s1 _ _ hm)),l0,_,_,Y,Y,h0,by lia,?_,?_,λl1 ly=>?_⟩
  ·rw [Ab]; lia
  ·rw [Ab,sizeLine_eq,At]; lia
  have e0:(List.replicate (((M.map mV).length:Int)).toNat [V.int 0]).flatten=rowI ns.length λ_=>0:=by
   unfold rowI;rw [map_const',length_range,Ab,<- pi,Int.toNat_natCast,flatten_replicate_singleton]
  rw [e0];have s2:Same H (upd H1 l1 (bd:)):=s1.trans (Same.new ly);have h1:(upd H1 l1 (bd:)) l1=some (bd:):=Zc;generalize upd H1 l1 (.lst (rowI ns.length λ_=>0))=H2 at s2 h1 ⊢;refine ⟨r,l1,ns,λ_=>0,Y,t9.same s2,by lia,h1,λc g H3 s3 hc hc3 hg=>?_⟩;have eg:dI (o:) g=dI (o:) λ_=>0:=by
   unfold dI
   refine map_congr_left λy hy=>?_
   obtain ⟨p,_,e⟩:=hg y hy
   rw [e]
  rw [eg] at hc3;refine j5 _ _ ?_
  try dsimp only [Zm]
  have k8:=s2.trans s3;clear s1 s2 s3 h0 h1 tj ly e0 eg hg hc j5 ky;obtain ⟨ts,r1,r2,r3⟩:=id t9;have hnt:ts.length=n:=by lia
  obtain ⟨i,hi⟩:∃ i:Nat,ko / 97 % (ts.length:Int)=i:=⟨(ko / 97 % (ts.length:Int)).toNat,by have:=Int.emod_nonneg (ko / 97) (show (ts.length:Int)≠0 by lia); lia⟩;have nv:i < ts.length:=by have:=Int.emod_lt_of_pos (ko / 97) (show (0:Int) < ts.length by lia); lia
  obtain ⟨j,hj⟩:∃ j:Nat,ko % 3=j:=⟨(ko % 3).toNat,by lia⟩;have hj3:j < 3:=by lia
  have hx:=Ac (show 3 * i + j < ns.length by lia);generalize ns[3 * i + j]=x at hx;have o8:x∈keys ns ns.length:=Y8.mpr ⟨3 * i + j,by lia,hx⟩;obtain ⟨x0,x1⟩:=Jk td o8;obtain ⟨xi,q,w1,w2,w3,w4⟩:=Za8 (t9.same k8) hx;rw [show (3 * i + j) / 3=i by lia] at w2 w3 w4;rw [show (3 * i + j) % 3=j by lia] at w4;have e9:xi.length=ts.length:=by
   have:=k8 _ _ r1
   rw [w1] at this
   injection this with this
   injection this with this
   have:=congrArg List.length this
   rw [Ab,Ab] at this
   exact this
  refine Zw λky j5=>?_;refine ⟨⟨by decide,by decide⟩,r,_,Y,.inl (SqL.of w1),(by rw [Ab,e9]; show (0:Int) < _; lia),SqL.of w1,(by rw [Ab,e9,hi]; exact X4 w2:atI (xi.map V.ref) _=some (.ref _)),(bj:),SqT.of w3,(by rw [hj]; exact Xa w4),(j5 _ _ ?_)⟩
  try dsimp only [Zm]
  clear j5 ky w1 w2 w3 w4 e9;refine Zw λky j5=>⟨m,r,M,ns,x,Y,k8 _ _ hm,t9.same k8,td,k9,o8,λH4 s4=>j5 _ _ ?_⟩
  try dsimp only [Zm]
  have m6:=k8.trans s4;have hc4:=s4 _ _ hc3;clear j5 ky hc3 s4 k8;refine Zw λky j5=>?_;obtain ⟨kN,hk⟩:∃ kN:Nat,(1 + 400 / (if (ws.length:Int) > 1 then (ws.length:Int) else 1))=(kN:Int):=⟨(1 + 400 / (cc:)).toNat,by
   have:(0:Int)<=400 / (cc:):=Int.ediv_nonneg (c:) (by split <;> lia)
   lia⟩
  have yw:ws.length * kN<=460/\(ws≠[]->400 < ws.length * kN):=by
   rcases eq_zero_or_pos ws.length with z | z
   ·rw [z,Nat.zero_mul]
    exact ⟨by decide,λh=>absurd (eq_nil_of_length_eq_zero z) h⟩
   ·have e:(cc:)=(ws.length:Int):=by split <;> lia
    rw [e] at hk;have tm:kN=1 + 400 / ws.length:=by
     have h2:(400:Int) / (ws.length:Int)=((400 / ws.length:Nat):Int):=rfl
     rw [h2] at hk
     lia
    have h1:=div_add_mod 400 ws.length;have h2:=mod_lt 400 z;rw [tm,Nat.mul_add,Nat.mul_one];lia
  refine ⟨Y,wd,_,Y,.inl (SqL.of (m6 _ _ zu)),_,_,Y,?_,wd,_,_,Y,Y,m6 _ _ zu,?_,?_,?_,λl1 ly=>?_⟩
  ·rw [Ab]; split <;> exact ⟨by lia,by lia⟩
  ·rw [Ab,hk]; lia
  ·rw [Ab,hk]
   rcases eq_zero_or_pos ws.length with z | z
   ·rw [z] at hk
    have:(1 + 400 / (if (ca:) > 1 then (ca:) else 1))=401:=by decide
    lia
   ·have:=Nat.le_mul_of_pos_left kN z
    lia
  ·rw [Ab,hk,sizeLine_eq,Int.toNat_natCast]; lia
  rw [Ab,hk,Int.toNat_natCast];generalize hWL:(List.replicate kN (ws.map nV)).flatten=WL;have hWL':WL=((List.replicate kN ws).flatten).map nV:=by rw [<- hWL,map_flatten,map_replicate]
  subst hWL';generalize hFW:(List.replicate kN ws).flatten=fw;have ph:fw.length=ws.length * kN:=by rw [<- hFW,Zir,Nat.mul_comm]
  have tq:∀ p∈fw,p∈ws:=λp hp=>by
   rw [<- hFW] at hp;obtain ⟨l,hl,hp⟩:=mem_flatten.mp hp;rw [(mem_replicate.mp hl).2] at hp;exact hp
  clear hWL;have s5:Same H4 (upd H4 l1 (.lst (fw.map nV))):=Same.new ly;have h1:(upd H4 l1 (.lst (fw.map nV))) l1=some (.lst (fw.map nV)):=Zc;generalize upd H4 l1 (.lst (fw.map nV))=H5 at s5 h1 ⊢
  have hwb:∀ p∈fw,p<=1000:=λp hp=>Classical.byContradiction λz=>by
   have su:=tq p hp;have:=Zc8.mpr (lg (λe=>by rw [e] at su; cases su));rw [Zc7 (mem_map.mpr ⟨p,su,rfl⟩) (by lia)] at this;cases this
  refine ⟨l1,Y,⟨_,SqL.of h1⟩,λD hD=>Yc (xs:=fw.map nV) (λi σ H6=>∃ v,σ=[v]/\Same H5 H6/\H6 D=some (.lst (((fw.take i).map λ(p:Nat)=>ku p).map V.str))) (ac:) ?_ ?_ ?_⟩
  ·rintro i σ H6 _ ⟨v,rfl,s6,_⟩
   exact SqL.of (s6 _ _ h1)
  ·rintro i y σ H6 hy ⟨v,rfl,s6,h6⟩
   obtain ⟨p,hp,rfl⟩:=map_some hy;have hpb:=hwb p (Au hp);have hif:=(Aa hp).1;dsimp only [Zm,tYes];rw [if_pos rfl];refine ⟨_,Y,Nat.lt_trans (av:) (c:),?_⟩;refine ⟨_,h6,by rw [Ab,Ab,Ai]; exact Zo (by lia),_,Y,Same.add s6 hD,?_⟩;rw [Zc,Aw,hp,Aj,Aj];rfl
  rintro σ H6 ⟨v,rfl,s6,h6⟩;rw [Ab,take_length] at h6;refine ⟨_,D,fw.map (λ(p:Nat)=>ku p),Y,Y,SqL.of h6,by decide,?_,?_⟩
  ·have:=Uf (B:=70) (l:=fw.map (λ(p:Nat)=>ku p)) λx hx=>by
    obtain ⟨y,hy,rfl⟩:=mem_map.mp hx;exact (Jt (Int.natCast_nonneg _) (by have:=hwb y hy; lia)).len
   rw [Ab] at this ⊢;lia
  refine j5 _ _ ?_
  try dsimp only [Zm]
  generalize hfar:Txt.join (Str.ofString " ") (fw.map λ(p:Nat)=>ku p)=far;have qb:=m6.trans (s5.trans s6);have hc6:=s6 _ _ (s5 _ _ hc4);clear j5 ky s5 s6 h6 h1 hc4 hD;refine Zw λky j5=>?_;refine ⟨⟨by decide,by decide⟩,(by show (0:Int) < 7; decide),m,r,c,M,ns,keys ns ns.length,ko / 31 % 7,rfl,qb _ _ hm,t9.same qb,td,k9,hc6,List.Perm.refl _,by lia,by lia,λl H7 bad lh s7 hl hl7 ps=>⟨l,_,rfl,SqT.of hl7,rfl,_,_,rfl,_,_,rfl,rfl,(j5 _ _ ?_)⟩⟩
  try dsimp only [Zm]
  have o5:=qb.trans s7;clear j5 ky s7 hl7 hl hc6 qb;refine Z0 (λσ H'=>∃ ld:Addr,σ=[oR m,oR r,oR wd,oI ko,oR c,oI x,some (.str (srS ns x)),oS far,oS bad,oS lh,oR ld,none,none]/\Same H H'/\H ld=none/\H' ld=some (.lst ((Zki lh (srS ns x)).map V.str))) (D:) ?_
  ·refine ⟨_,Y,Zru,λz=>?_,λ_=>?_⟩
   ·have e:srS ns x="":=Zrt z
    refine ⟨by rw [sizeLine_eq]; show 10<=_; decide,λld u6=>kc _ _ ⟨ld,rfl,o5.trans (Same.new u6),Qd o5 u6,?_⟩⟩;rw [Zc,e];rfl
   ·refine ⟨by rw [sizeLine_eq]; show 10<=_; decide,λld u6=>?_⟩
    refine kc _ _ ⟨ld,Y,o5.trans (Same.new u6),Qd o5 u6,?_⟩;rw [Zc];rfl
  clear o5;rintro σ H8 ⟨ld,rfl,s8,u6,hd8⟩;obtain ⟨out,gg,o,hbad,hpou,hdue,hpr⟩:=ps.ex;have hbl:bad.length<=4600:=by
   rw [hbad]
   have:=Gk hpou.rng
   have:=hpou.len
   lia
  have lz:(Str.ofString "pour z ").length=7:=by decide
  let σ0:Addr->Option V->St:=λls at'=>[some (.ref m),some (.ref r),some (.ref wd),some (.int ko),some (.ref c),some (.int x),some (.str (srS ns x)),some (.str far),some (.str bad),some (.str lh),some (.ref ld),some (.ref ls),at']
  refine Z0 (λσ H'=>∃ ls:Addr,σ=σ0 ls none/\Same H H'/\ls≠ld/\H ls=none/\H' ld=some (.lst ((Zki lh (srS ns x)).map V.str))/\H' ls=some (.lst ((Q9 bad).map V.str))) (D:) ?_
  ·refine ⟨_,_,Y,Y,(by rw [sizeLine_eq,lz]; lia),(szR rfl),λl6 hl6=>?_⟩
   refine kc _ _ ⟨l6,Y,s8.trans (Same.new hl6),Zio hd8 hl6,Qd s8 hl6,Same.new hl6 _ _ hd8,?_⟩;rw [Zc];rfl
  clear hd8 s8;rintro σ H9 ⟨l6,rfl,s9,ne6,hn6,yi,h6⟩;refine Z0 (λσ H'=>∃ ls:Addr,σ=σ0 ls none/\Same H H'/\ls≠ld/\H ls=none/\H' ld=some (.lst ((Zki lh (srS ns x)).map V.str))/\H' ls=some (.lst ((Q9 bad ++ Qq x).map V.str))) (D:) ?_
  ·have l0:Str.empty.length=0:=rfl
   have l1:(Str.ofString "turn ").length=5:=by decide
   have l2:(Str.ofString "weigh ").length=6:=by decide
   have l3:(Str.ofString " right").length=6:=by decide
   have l4:(Str.ofString " 1/2").length=4:=by decide
   have l5:(Str.ofString " 0/3").length=4:=by decide
   have l6':(Str.ofString " 1/").length=3:=by decide
   have l7:(Txt.mul (Str.ofString "9") 61).length=61:=by decide +kernel
   have xl:(toString x:Str).length<=60:=Vk x0 (Int.lt_of_le_of_lt x1 (c:));have xg:x.natAbs.log2 < 1920:=Nat.lt_trans (av:) (c:);have yw:MulOk (Str.ofString "9") 61:=by unfold MulOk; decide +kernel
   refine ⟨lnN ?_,x,Y,xg,lnN ?_,lnN ?_,lnN ?_,lnN ?_,x,Y,xg,lnN ?_,lnN ?_,lnN ?_,lnN ?_,x,Y,xg,lnN ?_,lnN ?_,lnN ?_,lnN ?_,x,Y,xg,lnN ?_,lnN ?_,lnN ?_,_,_,Y,Y,yw,_,_,Y,Y,lnN ?_,(szR Y),λl7 hl7=>?_⟩
   iterate 17
    ·simp only [Str.length_append]
     lia
   have e7:=Same.new (o:=.lst ((Qq x).map V.str)) hl7 _ _ h6;refine ⟨l6,l7,_,_,Y,Y,e7,Zc,(szR Y),λl8 hl8=>?_⟩;have s99:=Same.new (o:=.lst ((Qq x).map V.str)) hl7;refine kc _ _ ⟨l8,Y,(s9.trans s99).trans (Same.new hl8),Zio (s99 _ _ yi) hl8,Qd (s9.trans s99) hl8,Same.new hl8 _ _ (s99 _ _ yi),?_⟩;rw [Zc];rfl
  clear yi s9 ne6 hn6 h6 l6;rintro σ H9 ⟨ls,rfl,s9,wm,hnL,yi,h9⟩;refine Z0 (λσ H'=>σ=σ0 ls none/\Same H H'/\H' ld=some (.lst ((Ju lh (srS ns x)).map V.str))/\H' ls=some (.lst ((Q9 bad ++ Qq x).map V.str))) (D:) ?_
  ·refine ⟨Y,ite2 (λz=>?_) (λz=>?_)⟩
   ·have kq:srS ns x≠Str.ofString "rim":=λe=>by rw [decide_eq_true (show V.str (srS ns x)=V.str (Str.ofString "rim") by rw [e])] at z; cases z
    refine ⟨ld,_,_,7,Y,Y,yi,(by rfl),?_⟩;refine kc _ _ ⟨Y,Ja s9 u6,?_,by rw [Ze wm]; exact h9⟩;rw [Zc];unfold Ju;rw [if_neg kq];rfl
   ·have he:srS ns x=Str.ofString "rim":=by
     by_cases e:V.str (srS ns x)=V.str (Str.ofString "rim")
     ·injection e
     ·rw [decide_eq_false e] at z; exact absurd Y z
    refine ⟨ld,_,_,8,Y,Y,yi,(by rfl),ld,_,_,9,Y,Y,Zc,(by rfl),?_⟩;refine kc _ _ ⟨Y,Ja (Ja s9 u6) u6,?_,by rw [Ze wm,Ze wm]; exact h9⟩;rw [Zc];unfold Ju;rw [if_pos he];rfl
  clear yi s9 h9;rintro σ H10 ⟨rfl,s10,za,h10⟩;refine Z0 (λσ H'=>σ=σ0 ls none/\Same H H'/\H' ld=some (.lst ((Ju lh (srS ns x) ++ if ws=[] then [] else [Str.ofString "too many"]).map V.str))/\H' ls=some (.lst ((Q9 bad ++ Qq x ++ if ws=[] then [] else (ea:)).map V.str))) (D:) ?_
  ·have e11:(Ju lh (srS ns x)).length=10:=by unfold Ju; split <;> rfl
   refine ⟨wd,_,Y,.inl (SqL.of (s10 _ _ zu)),ite2 (λz=>?_) (λz=>?_)⟩
   ·have z:(0:Int) < (((ws.map nV).length:Nat):Int):=of_decide_eq_true z
    rw [Ab] at z;have xf:ws≠[]:=λe=>by rw [e] at z; exact absurd z (c:)
    refine ⟨.inl ⟨Y,_,SqL.of h10⟩,_,_,Y,Y,?_,ls,_,_,Y,Y,h10,(by rw [sizeLine_eq]; show 10 < _; decide),?_⟩
    ·have l1:(Str.ofString "lay z ").length=6:=by decide
     have:=Zq0 (l:=fw) hwb;rw [hfar] at this;rw [sizeLine_eq,l1];lia
    have qv:(upd H10 ls (.lst (List.map V.str (Q9 bad ++ Qq x) ++ [V.str (Str.ofString "lay z " ++ far)]))) ld=some (.lst ((Ju lh (srS ns x)).map V.str)):=by rw [Ze (Ne.symm wm)]; exact za
    refine ⟨.inl ⟨Y,_,SqL.of qv⟩,ld,_,_,Y,Y,qv,(by rw [Ab,e11,sizeLine_eq]; decide),(kc _ _ ⟨rfl,Ja (Ja s10 hnL) u6,?_,?_⟩)⟩
    ·rw [Zc,if_neg xf,Aj]
     rfl
    ·rw [Ze wm,Zc,if_neg xf,Aj (l₂:=[_])]
     rfl
   ·have xf:ws=[]:=Classical.byContradiction λe=>z (decide_eq_true (by
     show (0:Int) < (((ws.map nV).length:Nat):Int);have:=length_pos_iff.mpr e;rw [Ab]
     lia))
    refine kc _ _ ⟨Y,s10,?_,?_⟩
    ·rw [if_pos xf,append_nil]; exact za
    ·rw [if_pos xf,append_nil]; exact h10
  clear za s10 h10;rintro σ H11 ⟨rfl,zq,hd11,ym⟩;have RF:=λ{i:Nat} {d e:Str}=>Zr1 (M:=M) (i:=i) (d:=d) (e:=e) td o8 (far:=far) ps (ws:=ws) (fw:=fw) (λkq=>by
   have h4:=yw.2 kq
   rw [<- ph] at h4
   refine ⟨λe=>by rw [e] at h4; exact absurd h4 (c:),h4,by lia,hwb,?_⟩
   rw [<- hFW]
   exact Zr7 (lg kq) (Nat.pos_of_ne_zero λe=>by rw [e] at ph; lia)) (by rw [<- hfar]; exact Ziu)
  have e11:(Ju lh (srS ns x)).length=10:=by unfold Ju; split <;> rfl
  obtain ⟨S,hS⟩:∃ S,S=Q9 bad ++ Qq x ++ if ws=[] then [] else [Str.ofString "lay z " ++ far]:=⟨_,rfl⟩
  obtain ⟨D',hD'⟩:∃ D',D'=Ju lh (srS ns x) ++ if ws=[] then [] else [Str.ofString "too many"]:=⟨_,rfl⟩
  rw [<- hS,<- hD'] at RF;rw [<- hS] at ym;rw [<- hD'] at hd11;have hSD:S.length=D'.length/\0 < S.length:=by
   rw [hS,hD']
   simp only [Ae,e11]
   have:(Q9 bad).length + (Qq x).length=10:=rfl
   split <;> simp <;> lia
  clear hS hD';refine Zw λky j5=>?_;refine ⟨⟨by decide,by decide⟩,ls,_,Y,.inl (SqL.of ym),(by rw [Ab]; show (0:Int) < _; lia),?_⟩;rw [Ab];obtain ⟨at',hat⟩:∃ at':Nat,ko / 7 % (S.length:Int)=at':=⟨(ko / 7 % (S.length:Int)).toNat,by have:=Int.emod_nonneg (ko / 7) (show (S.length:Int)≠0 by lia); lia⟩;have hal:at' < S.length:=by have:=Int.emod_lt_of_pos (ko / 7) (show (0:Int) < S.length by lia); lia
  change Zm 12 (V.int (ko / 7 % (S.length:Int))) _ _ _;rw [hat];refine j5 _ _ ?_
  try dsimp only [Zm]
  have g1:=Ac hal;have g2:=Ac (show at' < D'.length by lia);generalize S[at']=dd at g1;generalize D'[at']=ee at g2;have R:=RF g1 g2;refine ⟨SqL.of ym,Zh7 g1,SqL.of hd11,Zh7 g2,two,λl hl=>?_⟩;exact k l _ _ _ (zq.trans (Same.new hl)) (Qd zq hl) Zc R
noncomputable def kg (ns:List Int) (n:Nat):List Str:=(List.range n).map λk=>cl (ns.getD (3 * k) 0) (ns.getD (3 * k + 1) 0) (ns.getD (3 * k + 2) 0)
def Xj (ns:List Int) (n:Nat):(kg ns n).length=n:=by unfold kg; rw [Ab,length_range]
noncomputable def j' (out:List Int):Str:=Str.ofString "pour pool " ++ rowS (λ_=>0) out
noncomputable def Yk:Str:=Str.ofString "lift pool"
inductive A3:List Str->List Dd->Prop
 | nil:A3 [] []
 | cons {d y D Ds ws}:Ln d ws->Rdo ws y->A3 D Ds->A3 (d :: D) (y :: Ds)
def A3.len {D:List Str} {Ds:List Dd} (h:A3 D Ds):D.length=Ds.length:=by
 induction h with
 | nil=>rfl
 | cons _ _ _ ih=>rw [length_cons,length_cons,ih]
def A3.rd {D:List Str} {Ds:List Dd} (h:A3 D Ds):∀ {i:Nat} {d:Str} {y:Dd},D[i]?=some d->Ds[i]?=some y->d.length<=50000/\Rdo (wdS d) y:=by
 induction h with
 | nil=>intro i d y h1; simp at h1
 | cons l r _ ih =>
  intro i d y h1 h2
  match i with
  | 0 =>
   rw [getElem?_cons_zero] at h1 h2
   injection h1 with h1
   injection h2 with h2
   rw [<- h1,<- h2];exact ⟨l.len,by rw [l.wd]; exact r⟩
  | i + 1 =>
   rw [getElem?_cons_succ] at h1 h2;exact ih h1 h2
def A3.nl {D:List Str} {Ds:List Dd} (h:A3 D Ds):∀ d∈D,10 ∉ d.cps.toList/\d.length<=50000:=by
 induction h with
 | nil=>intro d hd; cases hd
 | cons l _ _ ih =>
  intro d hd
  rcases Ar hd with rfl | hd
  ·exact ⟨l.nl,l.len⟩
  ·exact ih d hd
def Kv (out:List Int):(j' out).cps.toList=[112,111,117,114] ++ 32 :: (Z9.cps.toList ++ 32 :: (rowS (λ_=>0) out).cps.toList):=by
 unfold j';rw [X5];rfl
def Zr6 (out:List Int):Txt.startswith (j' out) cloS=false:=by
 unfold Txt.startswith;rw [Bool.and_eq_false_iff];right;rw [StrLaws.subAt_eq,Kv];rfl
noncomputable def resT (o:Option Tg) (k:Nat):Tg ⊕ Nat:=match o with
 | some g=>.inl g
 | none=>.inr k
def Zpd {n:Nat} (td:TD M ns) (rj:ns.length=3 * n) (n1:1<=n) (k9:ns.length < 64) (qp:∀ i,0<=ns.getD i 0/\ns.getD i 0<=9999) {D:List Str} {Ds:List Dd} {r:Tg ⊕ Nat} (A:A3 D Ds) (hl:D.length<=5) (hh:∀ d∈D.head?,Txt.startswith d cloS=false) (run:Runs M ns [] 0 true Ds r):RdT M ns (Txt.join (dr:) (kg ns n ++ D)) (kg ns n) D Ds r:=by
 have hc:∀ (k:Nat) c,(kg ns n)[k]?=some c->c=cl (ns.getD (3 * k) 0) (ns.getD (3 * k + 1) 0) (ns.getD (3 * k + 2) 0):=λk c h=>by
  unfold kg at h;rw [Ah] at h
  cases e:(List.range n)[k]? with
  | none=>rw [e] at h; cases h
  | some j =>
   have:j=k:=by
    rw [getElem?_range (by have:=(Aa e).1; rwa [length_range] at this)] at e
    injection e with e
    exact e.symm
   subst this;rw [e] at h
   injection h with h
   exact h.symm
 have hm:∀ c∈kg ns n,c.length<=5000/\10 ∉ c.cps.toList/\Txt.startswith c cloS=true:=λc h=>by
  obtain ⟨k,_,e⟩:=mem_map.mp h;have q:=Zpn (qp (3 * k)) (qp (3 * k + 1)) (qp (3 * k + 2));rw [e] at q;exact ⟨q.1.1,q.2⟩
 have kq:kg ns n ++ D≠[]:=λz=>by
  have:=congrArg List.length z;rw [Ae,Xj] at this;simp at this;lia
 have pp:∀ c∈kg ns n ++ D,10 ∉ c.cps.toList/\c.length<=50000:=λc h=>by
  rcases mem_append.mp h with h | h
  ·have:=hm c h; exact ⟨this.2.1,by lia⟩
  ·exact A.nl c h
 refine ⟨?_,Zqt kq λc h=>(pp c h).1,?_,λz=>?_,λc h=>(hm c h).2.2,hh,A.len,λi d y h1 h2=>A.rd h1 h2,by rw [Xj]; exact rj,k9,td,λk c h=>?_,run⟩
 ·have:=Zqu λc h=>(pp c h).2
  rw [Ae,Xj] at this;lia
 ·rw [Xj]; lia
 ·have:=congrArg List.length z
  rw [Xj] at this;simp at this;lia
 ·rw [hc k c h]
  exact (Zpn (qp _) (qp _) (qp _)).1
def Zif {out:List Int} (pm:out.Perm (o:)) (s:List Str × Bool):PrT ns out (λ_=>0) s (.inr s):=by
 have nr:¬ rimN ns (λ_=>0):=λh=>by
  obtain ⟨x,_,h,_⟩:=h;exact absurd h (by show ¬ (0:Int) < 0; decide)
 have no:∀ k,odB ns (λ_=>0) k=false:=λk=>by
  unfold odB;exact decide_eq_false (λh=>by
   injection h with h
   exact absurd h (by show ¬ (([0,0,0]:List Int).sum % 2=1); decide))
 have nw:∀ k,wdB ns (λ_=>0) k=false:=λk=>by
  show (([0,0,0]:List Int).any λm=>decide (([0,0,0]:List Int).sum < 2 * m))=false;decide
 refine .inr ⟨pm,nr,.inr ⟨λh=>?_,.inr ⟨λh=>?_,Y⟩⟩⟩
 ·obtain ⟨k,_,h⟩:=h
  rw [no k] at h;cases h
 ·obtain ⟨k,_,h⟩:=h
  rw [nw k] at h;cases h
def Zix (td:TD M ns):∀ y∈keys ns ns.length,0<=y/\y<=10000/\0<=(λ_:Int=>(0:Int)) y/\(λ_:Int=>(0:Int)) y<=9:=λy hy=>by
 have:=Jk td hy;exact ⟨by lia,by lia,Int.le_refl 0,by show (0:Int)<=9; decide⟩
def Zfw (td:TD M ns) (k9:ns.length < 64) (n3:3<=ns.length) {out:List Int} (pm:out.Perm (o:)) (st:out.Pairwise (·<=·)):Pou out (λ_=>0):=by
 have h1:=pm.length_eq;have h2:=Ql ns ns.length;refine ⟨λe=>?_,by lia,Zi8 pm (J9 ns ns.length) st,λy hy=>?_⟩
 ·rw [e] at pm
  have:=Vy (ns:=ns) (i:=0) (by lia);rw [List.Perm.eq_nil pm.symm] at this;cases this
 ·have:=Jk td (pm.mem_iff.mp hy)
  exact ⟨by lia,by lia,Int.le_refl 0,by show (0:Int)<=9; decide⟩
def Zr2 {n:Nat} (td:TD M ns) (rj:ns.length=3 * n) (n1:1<=n) (k9:ns.length < 64) (qp:∀ i,0<=ns.getD i 0/\ns.getD i 0<=9999) {ka kh:List Int} (p1:ka.Perm (o:)) (s1:ka.Pairwise (·<=·)) (p2:kh.Perm (o:)) (s2:kh.Pairwise (·<=·)) {d lh:Str} (rf:RfS M ns d lh) :
  ∃ o:Option Tg,lh=otx o/\(∃ Ds,RdT M ns (Txt.join (dr:) (Z:)) (kg ns n) [j' ka,Yk,j' kh,d] Ds (resT o 4)) /\
   ∃ Ds,RdT M ns (Txt.join (dr:) (kg ns n ++ [j' ka,Yk,j' kh,d,Yk])) (kg ns n) [j' ka,Yk,j' kh,d,Yk] Ds (resT o 5):=by
 obtain ⟨ws,D,o,l,fr,L,R,hd,hD,hp,nd,l2⟩:=rf.ex;have P1:=Zfw td k9 (by lia) p1 s1;have P2:=Zfw td k9 (by lia) p2 s2;obtain ⟨L1,R1⟩:=Zfx (d:=j' ka) P1 wop isNp (Kv ka);obtain ⟨L2,R2⟩:=Zfx (d:=j' kh) P2 wop isNp (Kv kh);have LL:Ln Yk [Str.ofString "lift",Z9]:=ln_b _ (h:);have RL:Rdo [Str.ofString "lift",Z9] (.lift Z9):=⟨rfl,rfl,wop.wd,isNp⟩;have D1:DoD M ns [] true (.pour Z9 ka λ_=>0) (.inr ([Z9],true)):=⟨rfl,wop.wd,isNp,not_mem_nil,P1.len,λ_ _=>⟨Int.le_refl 0,by show (0:Int)<=9; decide⟩,Zif p1 _⟩;have D2:DoD M ns [] true (.pour Z9 kh λ_=>0) (.inr ([Z9],true)):=⟨rfl,wop.wd,isNp,not_mem_nil,P2.len,λ_ _=>⟨Int.le_refl 0,by show (0:Int)<=9; decide⟩,Zif p2 _⟩;have DL:DoD M ns [Z9] true (.lift Z9) (.inr ([],true)):=⟨wop.wd,.inr ⟨pp1,rfl⟩⟩;have DL2:DoD M ns l fr (.lift Z9) (.inr (l.filter λy=>decide (y≠Z9),fr)):=⟨wop.wd,.inr ⟨hp,rfl⟩⟩;have go:∀ {Ds:List Dd} {r:Tg ⊕ Nat},Runs M ns [Z9] 3 true Ds r->Runs M ns [] 0 true (.pour Z9 ka (λ_=>0) :: .lift Z9 :: .pour Z9 kh (λ_=>0) :: Ds) r:=λh=>.ok D1 pp2 (c:) (.ok DL nodup_nil (c:) (.ok D2 pp2 (c:) h))
 have hh:∀ {D:List Str},∀ d∈(j' ka :: D).head?,Txt.startswith d cloS=false:=λ{D} d h=>by
  cases h;exact Zr6 ka
 refine ⟨o,hd,⟨_,Zpd td rj n1 k9 qp (.cons L1 R1 (.cons LL RL (.cons L2 R2 (.cons L R .nil)))) (by show 4<=5; decide) hh (go ?_)⟩,⟨_,Zpd td rj n1 k9 qp (.cons L1 R1 (.cons LL RL (.cons L2 R2 (.cons L R (.cons LL RL .nil))))) (by show 5<=5; decide) hh (go ?_)⟩⟩
 ·cases o with
  | some g=>exact .bad hD
  | none=>exact .ok hD nd (by lia) .nil
 ·cases o with
  | some g=>exact .bad hD
  | none=>exact .ok hD nd (by lia) (.ok DL2 (nd.filter _) (by have:=length_filter_le (λy=>decide (y≠Z9)) l; lia) .nil)
end
def Zqp {M:Lq} {ns:List Int} (h:M.length=ns.length):(List.replicate (cb:).toNat [V.int 0]).flatten=rowI ns.length λ_=>0:=by
 unfold rowI;rw [map_const',length_range,Ab,h,Int.toNat_natCast,flatten_replicate_singleton]
def Zq3 {ns:List Int} {g:Int->Int} (hg:∀ x∈keys ns ns.length,∃ p:Nat,ns[p]?=some x/\g x=(0:Int)):dI (o:) g=dI (o:) λ_=>0:=by
 unfold dI;refine map_congr_left λy hy=>?_;obtain ⟨p,_,e⟩:=hg y hy;rw [e]
def F1 {l:List Str} {e:Str}:l.map V.str ++ [V.str e]=(l ++ [e]).map V.str:=by rw [Aj]; rfl
def Zs5 (g:Tg):g.txt≠Str.ofString "":=by cases g <;> decide
def Zs6 (g:Tg):g.txt≠(toString (5:Int):Str):=by cases g <;> decide +kernel
def Zo4 {X:List Str} {e:Str}:cutV ((X ++ [e]).map V.str) none (some (-1))=X.map V.str:=by
 have h1:HT.sIx ((X ++ [e]).map V.str).length ((X ++ [e]).map V.str).length (some (-1))=X.length:=by
  rw [Ab,Ae,At];show (if (-1:Int) < 0 then ((-1:Int) + ((X.length + 1:Nat):Int)).toNat else min (-1:Int).toNat (X.length + 1))=_;rw [if_pos (c:)];lia
 unfold cutV;rw [h1];show List.take (X.length - 0) (List.drop 0 _)=_;rw [drop_zero,Nat.sub_zero,Aj,<- Ab (f:=V.str),take_left]
def Zpe {M:Lq} {ns:List Int} {x:Str} {C D:List Str} {Ds:List Dd} {r:Tg ⊕ Nat} (h:RdT M ns x C D Ds r):∀ y∈C ++ D,y.length<=50000:=λy hy=>by
 rcases mem_append.mp hy with hy | hy
 ·obtain ⟨k,hk,e⟩:=mem_iff_getElem.mp hy
  have:=(h.cl k y (by rw [Ac hk,e])).1;lia
 ·obtain ⟨k,hk,e⟩:=mem_iff_getElem.mp hy
  have yg:k < Ds.length:=by rw [<- h.dl]; exact hk
  exact (h.rd k y (Ds[k]) (by rw [Ac hk,e]) (Ac yg)).1
def W8:FnScope ["_law_script","_law_mates","_law_rows_here","_law_word","_law_zeros","_law_texts","_law_order","_law_due"] ["_law_script"] (Zg Zpb):=Am
def ok_law (T:Txt w K mg t):(a:) 13 t.jM t.jv ["_law_script"] (sp_law K):=by
 refine T.jN.F.aR W8 (b:)
 ·obtain ⟨a,sc,rfl,hS,hl,k⟩:=h
  have hu:=Xh hr;refine ⟨_,(Zf (Xu (pcT (Zl6 T) hr T.iU (w:)) (Wr Y (Zq (pgN 1 W8.nd) (Zq (pgN 2 W8.nd) Ym))))
   (Zf (psN 3 W8.nd (pcT (Zhs T) hr T.gn (Za (pv 0) (Za Zd (A:)))))
   (Zf (psN 4 W8.nd (pcT (Zbh T) hr T.dL (Za (pv 2) (Za (Zi Ky (Yz (Za Zd Zb)) (Zx T.af (A:))) Zb))))
   (Zf (psN 5 W8.nd (Zi Zf6 (Yn (ts:=["_law_a","_law_b","_law_c"]) (fv:=[]) (i:) rfl (Yh (pv 2)) (λ_ _ _ _=>(Jh (n:=3) K rfl (Zq (pgN 0 nd3) (Zq (pgN 1 nd3) (Zq (pgN 2 nd3) Ym))))) (Q:) (K:) (λ_ _ _ _ _ _=>Yb (J0 (Xw (Wq (pv 0) (Xw (Wq (pv 1) (Xw (Wq (pv 2) Qx))))))))) (Yz (Za (Zi Ji Zj (pcT (Jx T) hr T.bb (Za (pv 4) Zb))) (bl:)))))
   (Zf (Z5 (Wp (pv 5) (Za (Zi Ji Zj (pcT (Jx T) hr T.bb (Za (pv 4) Zb))) Zb)))
   (Zf (Xu (pcT (Zf8 T) hr T.fo (Za (pv 1) (Za (pv 2) (Za (pv 3) (Za (Zi Z7 (b0:) Zd) Zb))))) (Wr rfl (Zq (pgN 6 W8.nd) (Zq (pgN 7 W8.nd) Ym))))
   (Zf (Z5 (Wp (pv 5) (Za (pv 6) Zb)))
   (Zf (Yj (Zs Yf (pv 7) Zj (Zn _)) (Zh (psN 7 W8.nd (d9:))) Z8)
   (Zf (Z5 (Wp (pv 5) (bl:)))
   (Zf (Yj (Zs Yf (Zi Z7 (b0:) Zd) Zd (Zn _)) (Zf (psN 5 W8.nd (X3 Wl (pv 5) Jg (X0 (Zpf Zks Zd))))
   (Zh (Yj (Zs Yf (pv 7) (d9:) (Zn _)) (Zh (psN 7 W8.nd (Ys Ws (by rfl) T.gB PySem.Pv.boot_str (Za (Zi Qz (Zx T.af (Za (pv 5) Zb)) (ei:)) Zb)))) Z8))) Z8)
   (Zh (Zl (Y4 Yf (pcT (Zl5 T) hr T.iW (Za (W4 PySem.F.plainAttrs_str PySem.F.slot_str_join PySem.F.type_str_join Uz Zj (Za (pv 5) Zb)) Zb)) (pv 7) (Zn _)))))))))))))),?_⟩
  refine Zw λky j5=>⟨a,sc,Y,hS,hl,λp m r M ns H1 zm hp hm oq td h42 qr ua=>⟨p,_,Y,SqT.of hp,Y,_,_,Y,_,_,Y,Y,(j5 _ _ ?_)⟩⟩
  try dsimp only [Zm]
  have pi:M.length=ns.length:=td.len.symm;obtain ⟨n,n1,wn,hn⟩:=td.n;have rj:ns.length=3 * n:=by rw [<- pi]; exact hn
  have k9:ns.length < 64:=by lia
  refine Zw λky j5=>⟨a,m,sc,3,M,Y,zm.seq hS,hl,by decide,by decide,hm,h42,⟨_,td.n.choose_spec.2.2⟩,td.inv,λwd ws H2 s2 hwd0 zu hw60 lg=>j5 _ _ ?_⟩
  try dsimp only [Zm]
  have o6:=zm.trans s2;have hm2:=s2 _ _ hm;have xy:=oq.same s2;clear hm oq qr ua hp zm s2 hwd0 j5 ky;refine Zw λky j5=>⟨(szR Y),λl0 tj=>?_⟩;have s3:Same H2 (upd H2 l0 (.lst [V.int 0])):=Same.new tj;have h0:(upd H2 l0 (.lst [V.int 0])) l0=some (.lst [V.int 0]):=Zc;generalize upd H2 l0 (.lst [V.int 0])=H3 at s3 h0 ⊢;refine ⟨m,_,Y,.inl (SqL.of (s3 _ _ hm2)),l0,_,_,Y,Y,h0,by lia,?_,?_,λl1 ly=>?_⟩
  ·rw [Ab]; lia
  ·rw [Ab,sizeLine_eq,At]; lia
  rw [Zqp pi];have s4:Same H2 (upd H3 l1 (bd:)):=s3.trans (Same.new ly);have h1:(upd H3 l1 (bd:)) l1=some (bd:):=Zc;generalize upd H3 l1 (.lst (rowI ns.length λ_=>0))=H4 at s4 h1 ⊢;refine ⟨r,l1,ns,λ_=>0,Y,xy.same s4,by lia,h1,λc g H5 s5 hc hc5 hg=>?_⟩;rw [Zq3 hg] at hc5;refine j5 _ _ ?_
  try dsimp only [Zm]
  have s25:=s4.trans s5;have s05:=o6.trans s25;have hm5:=s25 _ _ hm2;have hr5:=xy.same s25;have hwd5:=s25 _ _ zu;clear s3 s4 s5 h0 h1 tj ly hg hc s25 hm2 xy zu o6 j5 ky;obtain ⟨ts,q1,q2,q3⟩:=id hr5;have qm:ts.length=n:=by lia
  have qp:∀ i,0<=ns.getD i 0/\ns.getD i 0<=9999:=λi=>by
   by_cases c:i < ns.length
   ·exact Jk td (Vy c)
   ·rw [Ad,Ay (by lia)]; decide
  let σ0:Addr->St:=λtx=>[some (.ref a),some (.ref m),some (.ref r),some (.ref wd),some (.ref c),some (.ref tx),none,none]
  refine Z0 (λσ H'=>∃ (tx:Addr) (out:List Int),σ=[oR a,oR m,oR r,oR wd,oR c,oR tx,none,none]/\Same H5 H'/\H5 tx=none/\H' tx=some (.lst ((kg ns n ++ [j' out,Yk]).map V.str))/\out.Perm (o:)/\out.Pairwise (·<=·)) (D:) ?_
  ·refine ⟨r,Y,⟨_,SqL.of q1⟩,λD hD=>?_⟩
   refine Yc (xs:=ts.map V.ref) (λi σ H6=>∃ (v1 v2 v3:Option V),σ=[v1,v2,v3]/\Same H5 H6/\H6 D=some (.lst (((kg ns n).take i).map V.str))) ⟨none,none,none,Y,Same.new hD,Zc⟩ ?_ ?_ ?_
   ·rintro i σ H6 _ ⟨v1,v2,v3,rfl,s6,_⟩
    exact SqL.of (s6 _ _ q1)
   ·rintro i y σ H6 hy ⟨v1,v2,v3,rfl,s6,h6⟩
    obtain ⟨q,hq,rfl⟩:=map_some hy;have nv:i < n:=by rw [<- qm]; exact (Aa hq).1
    have ht:=s6 _ _ (q3 i q hq);refine ⟨q,_,Y,SqT.of ht,Y,_,_,Y,_,_,Y,_,_,Y,Y,?_⟩;dsimp only [tYes];rw [if_pos rfl];have b1:=qp (3 * i);have b2:=qp (3 * i + 1);have b3:=qp (3 * i + 2);have hx:(kg ns n)[i]?=some (cl (ns.getD (3 * i) 0) (ns.getD (3 * i + 1) 0) (ns.getD (3 * i + 2) 0)):=by unfold kg; rw [Ah,getElem?_range nv]; rfl
    generalize ns.getD (3 * i) 0=ia at b1 hx;generalize ns.getD (3 * i + 1) 0=ib at b2 hx;generalize ns.getD (3 * i + 2) 0=ic at b3 hx;have sm:∀ i:Int,0<=i->i<=9999->i.natAbs.log2 < 1920/\(toString i:Str).length<=60:=λi h0 h1=>⟨Nat.lt_trans (av:) (c:),Vk h0 (Int.lt_of_le_of_lt h1 (c:))⟩;obtain ⟨x1,x2⟩:=sm ia b1.1 b1.2;obtain ⟨a1,a2⟩:=sm ib b2.1 b2.2;obtain ⟨c1,c2⟩:=sm ic b3.1 b3.2;have l0:Str.empty.length=0:=rfl;have l1:(Str.ofString "cloth ").length=6:=by decide
    have l2:(an:).length=1:=by decide
    refine ⟨lnN ?_,ia,Y,x1,lnN ?_,lnN ?_,ib,Y,a1,lnN ?_,lnN ?_,ic,Y,c1,lnN ?_,lnN ?_,?_⟩
    iterate 7
     ·simp only [Str.length_append]
      lia
    refine ⟨_,h6,by rw [Ab,Ai]; exact Zo (by lia),_,_,_,Y,Same.add s6 hD,?_⟩;rw [Zc,Aw,hx,Aj];rfl
   ·rintro σ H6 ⟨v1,v2,v3,rfl,s6,h6⟩
    rw [Ab,qm,take_of_length_le (Nat.le_of_eq (Xj ns n))] at h6;have hb0:=Zix td;have l9:=Ql ns ns.length;refine ⟨c,_,_,Y,s6 _ _ hc5,by lia,hb0,λout H7 s7 po st=>?_⟩;have sv:=po.length_eq;refine ⟨_,_,Y,Y,?_,(szR Y),λlx hlx=>?_⟩
    ·have:=Gk (g:=λ_=>0) λy hy=>hb0 y (po.mem_iff.mp hy)
     have l1:(Str.ofString "pour pool ").length=10:=by decide
     rw [sizeLine_eq,l1];lia
    have h7:=Same.new (o:=.lst ([j' out,Yk].map V.str)) hlx _ _ (s7 _ _ h6);have s77:=Same.new (o:=.lst ([j' out,Yk].map V.str)) hlx;refine ⟨D,lx,_,_,Y,Y,h7,Zc,?_,λtx zx=>?_⟩
    ·rw [Ab,Xj,sizeLine_eq]; show n + 2<=_; lia
    refine kc _ _ ⟨tx,out,Y,((s6.trans s7).trans s77).trans (Same.new zx),Qd ((s6.trans s7).trans s77) zx,?_,po,st⟩;rw [Zc,Aj];rfl
  rintro σ H6 ⟨tx,ka,rfl,s6,zx,h6,po1,qk⟩;refine Z0 (λσ H'=>∃ out:List Int,σ=[oR a,oR m,oR r,oR wd,oR c,oR tx,none,none]/\Same H5 H'/\H' tx=some (.lst ((kg ns n ++ [j' ka,Yk,j' out]).map V.str))/\out.Perm (o:)/\out.Pairwise (·<=·)) (D:) ?_
  ·have hb0:=Zix td
   have l9:=Ql ns ns.length;refine ⟨.inl ⟨Y,_,SqL.of h6⟩,c,_,_,Y,s6 _ _ hc5,by lia,hb0,λout H7 s7 po st=>?_⟩;have sv:=po.length_eq;refine ⟨_,_,Y,Y,?_,tx,_,_,Y,Y,s7 _ _ h6,?_,?_⟩
   ·have:=Gk (g:=λ_=>0) λy hy=>hb0 y (po.mem_iff.mp hy)
    have l1:(Str.ofString "pour pool ").length=10:=by decide
    rw [sizeLine_eq,l1];lia
   ·rw [Ab,Ae,Xj,sizeLine_eq]; show n + 2 < _; lia
   refine kc _ _ ⟨out,Y,Ja (s6.trans s7) zx,?_,po,st⟩;rw [Zc,F1,append_assoc];rfl
  clear h6 s6;rintro σ H7 ⟨kh,rfl,s7,h7,po2,mf⟩;refine Z0 (λσ H'=>∃ d lh:Str,RfS M ns d lh/\σ=[oR a,oR m,oR r,oR wd,oR c,oR tx,oS d,oS lh]/\Same H5 H'/\H' tx=some (.lst ((kg ns n ++ [j' ka,Yk,j' kh]).map V.str))) (D:) ?_
  ·refine ⟨a,sc,4,Y,(s05.trans s7).seq hS,hl,by decide,by decide,?_⟩
   generalize cell sc 4=ko;refine ⟨(by show (0:Int) < 1000003; decide),m,r,wd,M,ns,ws,_,rfl,s7 _ _ hm5,hr5.same s7,td,k9,s7 _ _ hwd5,hw60,λh=>lg.resolve_left h,Int.emod_nonneg _ (c:),Int.emod_lt_of_pos _ (c:),λl H8 d lh s8 tj hl8 RS=>⟨l,_,rfl,SqT.of hl8,rfl,_,_,rfl,_,_,rfl,rfl,?_⟩⟩;exact kc _ _ ⟨d,lh,RS,Y,s7.trans s8,s8 _ _ h7⟩
  clear h7 s7;rintro σ H8 ⟨d,lh,RS,rfl,s8,h8⟩;obtain ⟨o,hdue,⟨Ds4,R4⟩,⟨Ds5,R5⟩⟩:=Zr2 td rj n1 k9 qp po1 qk po2 mf RS;subst hdue;refine Zw λky j5=>⟨.inl ⟨Y,_,SqL.of h8⟩,tx,_,_,Y,Y,h8,?_,?_⟩
  ·rw [Ab,Ae,Xj,sizeLine_eq]; show n + 3 < _; lia
  refine j5 _ _ ?_
  try dsimp only [Zm]
  have s9:=Ja (u:=.lst (dx:)) s8 zx;have h9:(upd H8 tx (.lst (dx:))) tx=some (.lst ((Z:).map V.str)):=by
   rw [Zc,F1,append_assoc]
   rfl
  generalize upd H8 tx (.lst (List.map V.str (kg ns n ++ [j' ka,Yk,j' kh]) ++ [V.str d]))=H9 at s9 h9 ⊢;clear h8 s8 j5 ky;refine Z0 (λσ H'=>σ=[oR a,oR m,oR r,oR wd,oR c,oR tx,oS d,some (.str (ansT (resT o 5)))]/\H'=H9) (D:) ?_
  ·refine ⟨Y,ite2 (λz=>?_) (λz=>?_)⟩
   ·cases o with
    | some g=>exact absurd (of_decide_eq_true z) (λe=>by injection e with e; exact Zs5 g e)
    | none =>
     refine ⟨tx,_,Y,.inl (SqL.of h9),r,_,Y,.inl (SqL.of (s9 _ _ q1)),_,Y,?_,?_⟩
     ·rw [Ab,Ae,Xj,Ab,qm]
      exact Nat.lt_trans (log2_lt (k:=14) (by show (((n + 4:Nat):Int) + 1 - (n:Int)).natAbs < 16384; lia) (c:)) (c:)
     rw [Ab,Ae,Xj,Ab,qm,show (((n + [j' ka,Yk,j' kh,d].length:Nat):Int) + 1 - (n:Int))=5 by show (((n + 4:Nat):Int) + 1 - (n:Int))=5; lia];exact kc _ _ ⟨Y,Y⟩
   ·cases o with
    | some g=>exact kc _ _ ⟨Y,Y⟩
    | none=>exact absurd (decide_eq_true Y) z
  rintro σ H10 ⟨rfl,rfl⟩;refine Zw λky j5=>⟨.inl ⟨Y,_,SqL.of h9⟩,tx,_,_,Y,Y,h9,?_,?_⟩
  ·rw [Ab,Ae,Xj,sizeLine_eq]; show n + 4 < _; lia
  refine j5 _ _ ?_
  try dsimp only [Zm]
  have zq:=Ja (u:=.lst (List.map V.str (Z:) ++ [V.str (Str.ofString "lift pool")])) s9 zx;have ym:(upd H10 tx (.lst (List.map V.str (Z:) ++ [V.str (Str.ofString "lift pool")]))) tx=some (.lst ((kg ns n ++ [j' ka,Yk,j' kh,d,Yk]).map V.str)):=by
   rw [Zc,F1,append_assoc]
   rfl
  generalize upd H10 tx (.lst (List.map V.str (kg ns n ++ [j' ka,Yk,j' kh,d]) ++ [V.str (Str.ofString "lift pool")]))=H11 at zq ym ⊢;clear h9 s9 j5 ky;refine Z0 (λσ H'=>∃ (tx':Addr) (L:List Str) (k:Nat),(L=kg ns n ++ [j' ka,Yk,j' kh,d,Yk]/\k=5\/L=kg ns n ++ [j' ka,Yk,j' kh,d]/\k=4)/\σ=[oR a,oR m,oR r,oR wd,oR c,oR tx',oS d,some (.str (ansT (resT o k)))]/\H' tx'=some (.lst (L.map V.str))) (D:) ?_
  ·refine ⟨a,sc,5,Y,(s05.trans zq).seq hS,hl,by decide,by decide,?_⟩
   generalize cell sc 5=ko;refine ⟨(by show (0:Int) < 2; decide),rfl,ite2 (λz=>?_) (λz=>?_)⟩
   ·refine Zw λky j5=>?_
    refine ⟨_,Y,_,Y,tx,_,Y,SqL.of ym,λl tj=>?_⟩;rw [show kg ns n ++ [j' ka,Yk,j' kh,d,Yk]=(Z:) ++ [Yk] by rw [append_assoc]; rfl,Zo4];have r12:=Same.new (o:=.lst ((Z:).map V.str)) tj _ _ (zq _ _ q1);have yl:(upd H11 l (.lst ((Z:).map V.str))) l=some (.lst ((Z:).map V.str)):=Zc;generalize upd H11 l (.lst ((kg ns n ++ [j' ka,Yk,j' kh,d]).map V.str))=H12 at r12 yl ⊢;refine j5 _ _ ?_
    try dsimp only [Zm]
    have e4:(((((Z:).map V.str).length:Nat):Int))=n + 4:=by rw [Ab,Ae,Xj]; rfl
    have e0:((((ts.map V.ref).length:Nat):Int))=n:=by rw [Ab,qm]
    refine ⟨l,_,Y,.inl (SqL.of yl),r,_,Y,.inl (SqL.of r12),_,Y,?_,?_⟩
    ·rw [e4,e0]
     exact Nat.lt_trans (log2_lt (k:=14) (by show ((n:Int) + 4 + 1 - (n:Int)).natAbs < 16384; lia) (c:)) (c:)
    rw [e4,e0,show ((n:Int) + 4 + 1 - (n:Int))=5 by lia];refine ⟨Y,?_⟩
    cases o with
    | some g =>
     refine ite2 (λz=>absurd (of_decide_eq_true z) (λe=>by injection e with e; exact Zs6 g e)) (λz=>?_);exact kc _ _ ⟨l,_,4,.inr ⟨Y,Y⟩,Y,yl⟩
    | none =>
     refine ⟨l,_,Y,.inl (SqL.of yl),r,_,Y,.inl (SqL.of r12),_,Y,?_,?_⟩
     ·rw [e4,e0]
      exact Nat.lt_trans (log2_lt (k:=14) (by show ((n:Int) + 4 - (n:Int)).natAbs < 16384; lia) (c:)) (c:)
     rw [e4,e0,show ((n:Int) + 4 - (n:Int))=4 by lia];exact kc _ _ ⟨l,_,4,.inr ⟨Y,Y⟩,Y,yl⟩
   ·exact kc _ _ ⟨tx,_,5,.inl ⟨Y,Y⟩,Y,ym⟩
  rintro σ H12 ⟨tx',L,kk,hL,rfl,yl⟩;have Lx:L.length<=20/\(∀ x∈L,x.length<=50000)/\∃ C D Ds,RdT M ns (Txt.join (dr:) L) C D Ds (resT o kk):=by
   rcases hL with ⟨rfl,rfl⟩ | ⟨rfl,rfl⟩
   ·refine ⟨?_,?_,_,_,_,R5⟩
    ·rw [Ae,Xj]; show n + 5<=20; lia
    ·exact Zpe R5
   ·refine ⟨?_,?_,_,_,_,R4⟩
    ·rw [Ae,Xj]; show n + 4<=20; lia
    ·exact Zpe R4
  obtain ⟨Ll,Lm,C,D,Ds,R⟩:=Lx;refine ⟨Y,_,tx',L,Y,Y,SqL.of yl,by decide,?_,?_⟩
  ·have:=Uf (B:=50000) Lm
   lia
  refine ⟨_,C,D,Ds,M,ns,_,Y,R,λH'=>⟨Y,?_⟩⟩;rw [decide_eq_true rfl];exact k _
end
end KT
open PySem PySem.W PyProof.Rows
namespace PySem.W.Fast
def Z:=True
def tw11553089952392446865:=Z
def tw16041329764583721129:=Z
def tw1263351287655999851:=Z
def tw16599770861552350444:=Z
def tw10404445735665950909:=Z
def tw15415895980215511057:=Z
def tw6481106838499516436:=Z
def tw4790099398089780503:=Z
def tw8951780445360302822:=Z
def tw8365950636553132527:=Z
def tw2619458889082059070:=Z
def tw8384311046321485346:=Z
def tw7470065084820196213:=Z
def tw17374097083043257821:=Z
def tw7875776132300315792:=Z
def tw18208810564203626136:=Z
def tw14328653258715187772:=Z
def tw11246046678066708015:=Z
def tw14359296801080761086:=Z
def tw4085259422972183944:=Z
def tw9668151595889030355:=Z
def tw7352661718888543295:=Z
def tw10808511142864028608:=Z
def tw12188391640253878816:=Z
def tw14725169964935612212:=Z
def tw16586881005274564800:=Z
def tw726412466897588880:=Z
def tw5613638007179734141:=Z
def tw5757508715813234386:=Z
def tw3269201309288537466:=Z
def tw1600132404700403627:=Z
def tw1916560339930982954:=Z
def tw14207618298026312089:=Z
def tw12987287929317637667:=Z
def tw394746322462669447:=Z
def tw7016903943247984856:=Z
def tw2787198367939023903:=Z
def tw13463867083417557437:=Z
def tw15015064399059757797:=Z
def tw13137750912497006495:=Z
def tw11537534631737489193:=Z
def tw985367283768026023:=Z
def tw12201519615770917664:=Z
def tw4697064755904697106:=Z
def tw9748036006828460082:=Z
def tw246563740689159504:=Z
def tw10400399788224514198:=Z
def tw12982873378438374129:=Z
def tw10662527746031372499:=Z
def tw10667083067514131522:=Z
def tw11725187065908244794:=Z
def tw10968458871435703771:=Z
def tw1518830535475018648:=Z
def tw13664529244770870099:=Z
def tw18070374740648411279:=Z
def tw3564596049071587711:=Z
def tw17092440230698175025:=Z
def tw5749857280286517138:=Z
def tw6139428076827180857:=Z
def tw12941088923380391260:=Z
def tw6397130619913315403:=Z
def tw13941668002130621101:=Z
def tw2616350793384564620:=Z
def tw11690121925361819599:=Z
def tw5693813845329832394:=Z
def tw14491835870698739024:=Z
def tw12386736891588697843:=Z
def tw661414997208369378:=Z
def tw12167048648412552967:=Z
def tw14992336456493933474:=Z
def tw12208471064163492071:=Z
def tw12503454904220179936:=Z
def tw6573552580154817820:=Z
def tw6180694620835711139:=Z
def tw2317160285567437424:=Z
def tw4736263406882117704:=Z
def tw9382992900376467520:=Z
def tw2387454695325165642:=Z
def tw10375314798270005517:=Z
def tw6655081331587682449:=Z
def tw4030101431266685686:=Z
def tw15152126501254861211:=Z
def tw6077753630693496752:=Z
def tw5465777999445155693:=Z
def tw4088138133451656627:=Z
def tw10974984555861490097:=Z
def tw4708032219836707527:=Z
def tw15504853939721584489:=Z
def tw16326427959286315781:=Z
def tw549596709756022251:=Z
def tw12025180136794744609:=Z
def tw11797014392411194744:=Z
def tw16971902102746770379:=Z
def tw272900809581722798:=Z
def tw13680390882154758384:=Z
def tw15285227686183961191:=Z
def tw11774908259464355082:=Z
def tw17351459575136438580:=Z
def tw17860337669185929054:=Z
def tw1922037332674692095:=Z
def tw2980010730149333444:=Z
def tw3435208373534437264:=Z
def tw1899192103562354146:=Z
def tw10787023372584947181:=Z
def tw15899694197501278632:=Z
def tw15635979482605297213:=Z
def tw8366450617036373625:=Z
def tw13999624620135448821:=Z
def tw6776572722294838993:=Z
def tw15642579542876549976:=Z
def tw2742006137632884154:=Z
def tw4575637237854559285:=Z
def tw145912063016987269:=Z
def tw832448550233787907:=Z
def tw1109369497885541867:=Z
def tw4951567888369973518:=Z
def tw10441893044309600382:=Z
def tw10070457324609745342:=Z
def tw17464526822323341853:=Z
def tw13233146220428944301:=Z
def tw4075447248641248002:=Z
def tw6243028599693384556:=Z
def tw4717319419387324883:=Z
def tw11591151799937898257:=Z
def tw15092700596619107530:=Z
def tw9430874835131410314:=Z
def tw1056029134681050610:=Z
def tw10992504535015216203:=Z
def tw10744593964917358135:=Z
def tw17339237392834288906:=Z
def tw8664934812552843183:=Z
def tw3458138401853342530:=Z
def tw13899678260751345978:=Z
def tw18320528681592209273:=Z
def tw1930585693663338019:=Z
def tw1181978618864438709:=Z
def tw6884465139678085663:=Z
def tw2548682575642334837:=Z
def tw4624130248439383919:=Z
def tw2003709543119288256:=Z
def tw5772133748704807716:=Z
def tw8006825418533162452:=Z
def tw16747424939911901792:=Z
def tw8943464432502821143:=Z
def tw14270581357008344492:=Z
def tw18118619972664918868:=Z
def tw7838943409307261313:=Z
def tw3154476455467808245:=Z
def tw11862721031697571302:=Z
def tw9524603726911010729:=Z
def tw15415125404945614045:=Z
def tw14557743094174769260:=Z
def tw9360146799393763060:=Z
def tw9095358653360225165:=Z
def tw6744143072024829629:=Z
def tw2868719074482409190:=Z
def tw7964111823498745026:=Z
def tw4133397306029477553:=Z
def tw12892734057151146465:=Z
def tw4856247500365044139:=Z
def tw1467935109290349572:=Z
def tw18329807676162234036:=Z
def tw10743188417587340293:=Z
def tw3698452149693041642:=Z
def tw5890037524838071659:=Z
def tw16441935152032327839:=Z
def tw11834629427736393390:=Z
def tw10029365317489998922:=Z
def tw14035688523643326899:=Z
def tw12134137326674789208:=Z
def tw7985469434968631828:=Z
def tw13087958739524971849:=Z
def tw12500902014221230116:=Z
def tw16500707278746135082:=Z
def tw1996902743418322263:=Z
def tw9348196712284302677:=Z
def tw7861738533021443104:=Z
def tw7419448765565323373:=Z
def tw8806246645502228617:=Z
def tw3331797701128131396:=Z
def tw10695463877732913986:=Z
def tw11428429273206306468:=Z
def tw2178561252434558727:=Z
def tw4637421279722778933:=Z
def tw183695779825587640:=Z
def tw14114609003280190128:=Z
def tw5223366828034262220:=Z
def tw13590341045122402632:=Z
def tw15821768096205906758:=Z
def tw2677182188370103868:=Z
def tw17662360861374385160:=Z
def tw3248567009140293846:=Z
def tw9238896930870189348:=Z
def tw15510537809355919193:=Z
def tw14005402501922218745:=Z
def tw400040487483698906:=Z
def tw195514250452574138:=Z
def tw8998386240335540273:=Z
def tw6013592000925225974:=Z
def tw2719115259961177675:=Z
def tw8553901598524581523:=Z
def tw3217037522703348373:=Z
def tw16759407457802317895:=Z
def tw11279321852838738650:=Z
def tw6473407130246336160:=Z
def tw2904485884670034070:=Z
def tw18049828790589116753:=Z
def tw3271710974904425301:=Z
def tw9870736732100592165:=Z
def tw17079675518861950808:=Z
def tw16158622223366902616:=Z
def tw18399732892123427617:=Z
def tw1276454499596699313:=Z
def tw9992821043559260853:=Z
def tw12407615975882156180:=Z
def tw14979000718676773767:=Z
def tw9762357915922126721:=Z
def tw4134205261842385271:=Z
def tw6863397656972319152:=Z
def tw16359079220768280348:=Z
def tw11843517622595460693:=Z
def tw10106793018684945350:=Z
def tw7348470447881027444:=Z
def tw6887220026573533520:=Z
def tw2930420483406280680:=Z
def tw11696138912525483533:=Z
def tw14254206022304102678:=Z
def tw8379575840334662578:=Z
def tw10550522336481813378:=Z
def tw2772332890974977383:=Z
def tw15289855126523164329:=Z
def tw6311840679473036576:=Z
def tw16445300126242412357:=Z
def tw15085011160525308521:=Z
def tw15653472561746816917:=Z
def tw5351421576724665661:=Z
def tw4636124263984545995:=Z
def tw7840141654355145099:=Z
def tw10627978313350853138:=Z
def tw5030177922939618135:=Z
def tw7787256993062798221:=Z
def tw161817876389962:=Z
def tw13761364051097573794:=Z
def tw11963704414379558571:=Z
def tw12124576239506408511:=Z
def tw7566111082709027213:=Z
def tw1934962228840201507:=Z
def tw3332420413140606316:=Z
def tw4237645630482500950:=Z
def tw6892968265352865803:=Z
end PySem.W.Fast
set_option maxRecDepth 100000 in
set_option maxHeartbeats 0 in
theorem PySem.Challenge.cw_tentloops_k71_books_refused_by_deeds_holds : PySem.Challenge.rw_tentloops_k71_books_refused_by_deeds.Holds := by
 w_on; o_law; k_head; (case hw=>w_witness2)
 k_fill
 refine L2.walk_r (l:=PySem.Challenge.rw_tentloops_k71_books_refused_by_deeds) (k:=13) (spl:=KT.sp_law) rfl rfl ⟨rfl,by decide,by decide⟩ (fun w h Y=>PySem.W.kIn_of Y) (fun K H a ns hl hS=>KT.sp_law_start hl hS) ?F
 case F =>
  intro w mg fa h KX G hmg
  have T:∃ t,KT.Txt w (L2.KOf KX) mg t:=by
   dsimp only [L2.KOf]
   refine' ⟨⟨_,_,_,_,_,_,_,_,_,_,_,_,_,_,_,_,_,_,_,_,_,_,_,_,_,_,_,_,_,_,_,_,_,_,_,_,_,_,_,_,_,_,_,_,_,_,_,_,_,_,_,_,_,_,_,_,_,_,_,_,_,_,_,_,_,_,_,_,_,_,_,_,_,_,_,_,_,_,_,_,_,_,_,_,_,_,_,_,_,_,_,_,_,_,_,_,_,_,_,_,_,_,_,_,_,_,_,_,_,_,_,_,_,_,_,_,_,_,_,_,_,_,_,_,_,_,_,_,_,_,_,_,_,_,_,_,_,_,_,_,_,_,_,_,_,_,_,_,_,_,_,_,_,_,_,_,_,_,_,_,_,_,_,_,_,_,_,_,_,_,_,_,_,_,_,_,_,_,_,_,_,_,_,_,_,_,_,_,_,_,_,_,_,_,_,_,_,_,_,_,_,_,_,_,_⟩,⟨mg_of KX G ?_,⟨?_,?_,?_,?_⟩,?_,?_,?_,?_,mg_of KX G ?_,⟨?_,?_,?_,?_⟩,?_,?_,?_,?_,mg_of KX G ?_,⟨?_,?_,?_,?_⟩,?_,?_,?_,?_,KT.FT.of KX G (KT.ba1 (fun _ _ _ _ _ _ _ _=>rfl) rfl) ?_ ?_ ?_ ?_,KT.FT.of KX G (KT.ba1 (fun _ _ _ _ _ _ _ _=>rfl) rfl) ?_ ?_ ?_ ?_,KT.FT.of KX G (KT.ba1 (fun _ _ _ _ _ _ _ _=>rfl) rfl) ?_ ?_ ?_ ?_,KT.FT.of KX G (KT.ba1 (fun _ _ _ _ _ _ _ _=>rfl) rfl) ?_ ?_ ?_ ?_,KT.FT.of KX G (KT.ba2 (fun _ _ _ _ _ _ _ _ _=>rfl) rfl) ?_ ?_ ?_ ?_,KT.FM.of (KT.ba2 (fun _ _ _ _ _ _ _ _ _=>rfl) rfl) ?_ ?_ ?_ ?_ ?_,KT.FM.of (KT.ba1 (fun _ _ _ _ _ _ _ _=>rfl) rfl) ?_ ?_ ?_ ?_ ?_,KT.FM.of (KT.ba1 (fun _ _ _ _ _ _ _ _=>rfl) rfl) ?_ ?_ ?_ ?_ ?_,KT.FM.of (KT.ba2 (fun _ _ _ _ _ _ _ _ _=>rfl) rfl) ?_ ?_ ?_ ?_ ?_,KT.FM.of (KT.ba2 (fun _ _ _ _ _ _ _ _ _=>rfl) rfl) ?_ ?_ ?_ ?_ ?_,KT.FM.of (KT.ba2 (fun _ _ _ _ _ _ _ _ _=>rfl) rfl) ?_ ?_ ?_ ?_ ?_,KT.FM.of (KT.ba2 (fun _ _ _ _ _ _ _ _ _=>rfl) rfl) ?_ ?_ ?_ ?_ ?_,KT.FM.of (KT.ba2 (fun _ _ _ _ _ _ _ _ _=>rfl) rfl) ?_ ?_ ?_ ?_ ?_,KT.FM.of (KT.ba2 (fun _ _ _ _ _ _ _ _ _=>rfl) rfl) ?_ ?_ ?_ ?_ ?_,KT.FT.of KX G (KT.ba1 (fun _ _ _ _ _ _ _ _=>rfl) rfl) ?_ ?_ ?_ ?_,KT.FT.of KX G (KT.ba2 (fun _ _ _ _ _ _ _ _ _=>rfl) rfl) ?_ ?_ ?_ ?_,KT.FT.of KX G (KT.ba2 (fun _ _ _ _ _ _ _ _ _=>rfl) rfl) ?_ ?_ ?_ ?_,KT.FT.of KX G (KT.ba3 (fun _ _ _ _ _ _ _ _ _ _=>rfl) rfl) ?_ ?_ ?_ ?_,KT.FT.of KX G (KT.ba3 (fun _ _ _ _ _ _ _ _ _ _=>rfl) rfl) ?_ ?_ ?_ ?_,KT.FT.of KX G (KT.ba2 (fun _ _ _ _ _ _ _ _ _=>rfl) rfl) ?_ ?_ ?_ ?_,KT.FT.of KX G (KT.ba3 (fun _ _ _ _ _ _ _ _ _ _=>rfl) rfl) ?_ ?_ ?_ ?_,KT.FT.of KX G (KT.ba2 (fun _ _ _ _ _ _ _ _ _=>rfl) rfl) ?_ ?_ ?_ ?_,KT.FT.of KX G (KT.ba2 (fun _ _ _ _ _ _ _ _ _=>rfl) rfl) ?_ ?_ ?_ ?_,KT.FT.of KX G (KT.ba2 (fun _ _ _ _ _ _ _ _ _=>rfl) rfl) ?_ ?_ ?_ ?_,KT.FT.of KX G (KT.ba2 (fun _ _ _ _ _ _ _ _ _=>rfl) rfl) ?_ ?_ ?_ ?_,KT.FT.of KX G (KT.ba2 (fun _ _ _ _ _ _ _ _ _=>rfl) rfl) ?_ ?_ ?_ ?_,KT.FT.of KX G (KT.ba3 (fun _ _ _ _ _ _ _ _ _ _=>rfl) rfl) ?_ ?_ ?_ ?_,KT.FT.of KX G (KT.ba3 (fun _ _ _ _ _ _ _ _ _ _=>rfl) rfl) ?_ ?_ ?_ ?_,KT.FT.of KX G (KT.ba4 (fun _ _ _ _ _ _ _ _ _ _ _=>rfl) rfl) ?_ ?_ ?_ ?_,KT.FT.of KX G (KT.ba2 (fun _ _ _ _ _ _ _ _ _=>rfl) rfl) ?_ ?_ ?_ ?_,KT.FT.of KX G (KT.ba2 (fun _ _ _ _ _ _ _ _ _=>rfl) rfl) ?_ ?_ ?_ ?_,KT.FT.of KX G (KT.ba2 (fun _ _ _ _ _ _ _ _ _=>rfl) rfl) ?_ ?_ ?_ ?_,KT.FT.of KX G (KT.ba1 (fun _ _ _ _ _ _ _ _=>rfl) rfl) ?_ ?_ ?_ ?_,KT.FT.of KX G (KT.ba1 (fun _ _ _ _ _ _ _ _=>rfl) rfl) ?_ ?_ ?_ ?_,KT.FT.of KX G (KT.ba2 (fun _ _ _ _ _ _ _ _ _=>rfl) rfl) ?_ ?_ ?_ ?_,KT.FT.of KX G (KT.ba2 (fun _ _ _ _ _ _ _ _ _=>rfl) rfl) ?_ ?_ ?_ ?_,KT.FT.of KX G (KT.ba3 (fun _ _ _ _ _ _ _ _ _ _=>rfl) rfl) ?_ ?_ ?_ ?_,KT.FT.of KX G (KT.ba2 (fun _ _ _ _ _ _ _ _ _=>rfl) rfl) ?_ ?_ ?_ ?_,KT.FT.of KX G (KT.ba1 (fun _ _ _ _ _ _ _ _=>rfl) rfl) ?_ ?_ ?_ ?_,KT.FT.of KX G (KT.ba1 (fun _ _ _ _ _ _ _ _=>rfl) rfl) ?_ ?_ ?_ ?_,KT.FT.of KX G (KT.ba1 (fun _ _ _ _ _ _ _ _=>rfl) rfl) ?_ ?_ ?_ ?_,KT.FT.of KX G (KT.ba1 (fun _ _ _ _ _ _ _ _=>rfl) rfl) ?_ ?_ ?_ ?_,KT.FT.of KX G (KT.ba1 (fun _ _ _ _ _ _ _ _=>rfl) rfl) ?_ ?_ ?_ ?_,KT.FM.of (KT.ba5 (fun _ _ _ _ _ _ _ _ _ _ _ _=>rfl) rfl) ?_ ?_ ?_ ?_ ?_,KT.FT.of KX G (KT.ba3 (fun _ _ _ _ _ _ _ _ _ _=>rfl) rfl) ?_ ?_ ?_ ?_,KT.FT.of KX G (KT.ba2 (fun _ _ _ _ _ _ _ _ _=>rfl) rfl) ?_ ?_ ?_ ?_,KT.FT.of KX G (KT.ba2 (fun _ _ _ _ _ _ _ _ _=>rfl) rfl) ?_ ?_ ?_ ?_,KT.FT.of KX G (KT.ba1 (fun _ _ _ _ _ _ _ _=>rfl) rfl) ?_ ?_ ?_ ?_,KT.FT.of KX G (KT.ba1 (fun _ _ _ _ _ _ _ _=>rfl) rfl) ?_ ?_ ?_ ?_,KT.FT.of KX G (KT.ba3 (fun _ _ _ _ _ _ _ _ _ _=>rfl) rfl) ?_ ?_ ?_ ?_,KT.FM.of (KT.ba2 (fun _ _ _ _ _ _ _ _ _=>rfl) rfl) ?_ ?_ ?_ ?_ ?_,KT.FM.of (KT.ba3 (fun _ _ _ _ _ _ _ _ _ _=>rfl) rfl) ?_ ?_ ?_ ?_ ?_,KT.FM.of (KT.ba3 (fun _ _ _ _ _ _ _ _ _ _=>rfl) rfl) ?_ ?_ ?_ ?_ ?_,KT.FM.of (KT.ba3 (fun _ _ _ _ _ _ _ _ _ _=>rfl) rfl) ?_ ?_ ?_ ?_ ?_,KT.FM.of (KT.ba2 (fun _ _ _ _ _ _ _ _ _=>rfl) rfl) ?_ ?_ ?_ ?_ ?_,KT.FM.of (KT.ba4 (fun _ _ _ _ _ _ _ _ _ _ _=>rfl) rfl) ?_ ?_ ?_ ?_ ?_,KT.FM.of (KT.ba3 (fun _ _ _ _ _ _ _ _ _ _=>rfl) rfl) ?_ ?_ ?_ ?_ ?_,KT.FM.of (KT.ba1 (fun _ _ _ _ _ _ _ _=>rfl) rfl) ?_ ?_ ?_ ?_ ?_,KT.FT.of KX G (KT.ba1 (fun _ _ _ _ _ _ _ _=>rfl) rfl) ?_ ?_ ?_ ?_,KT.FT.of KX G (KT.ba1 (fun _ _ _ _ _ _ _ _=>rfl) rfl) ?_ ?_ ?_ ?_,KT.FT.of KX G (KT.ba1 (fun _ _ _ _ _ _ _ _=>rfl) rfl) ?_ ?_ ?_ ?_,KT.FT.of KX G (KT.ba2 (fun _ _ _ _ _ _ _ _ _=>rfl) rfl) ?_ ?_ ?_ ?_,KT.FT.of KX G (KT.ba1 (fun _ _ _ _ _ _ _ _=>rfl) rfl) ?_ ?_ ?_ ?_,KT.FT.of KX G (KT.ba1 (fun _ _ _ _ _ _ _ _=>rfl) rfl) ?_ ?_ ?_ ?_,KT.FT.of KX G (KT.ba1 (fun _ _ _ _ _ _ _ _=>rfl) rfl) ?_ ?_ ?_ ?_,KT.FT.of KX G (KT.ba1 (fun _ _ _ _ _ _ _ _=>rfl) rfl) ?_ ?_ ?_ ?_,KT.FT.of KX G (KT.ba1 (fun _ _ _ _ _ _ _ _=>rfl) rfl) ?_ ?_ ?_ ?_,KT.FT.of KX G (KT.ba1 (fun _ _ _ _ _ _ _ _=>rfl) rfl) ?_ ?_ ?_ ?_,KT.FT.of KX G (KT.ba1 (fun _ _ _ _ _ _ _ _=>rfl) rfl) ?_ ?_ ?_ ?_,KT.FT.of KX G (KT.ba2 (fun _ _ _ _ _ _ _ _ _=>rfl) rfl) ?_ ?_ ?_ ?_,KT.FT.of KX G (KT.ba1 (fun _ _ _ _ _ _ _ _=>rfl) rfl) ?_ ?_ ?_ ?_,KT.FT.of KX G (KT.ba1 (fun _ _ _ _ _ _ _ _=>rfl) rfl) ?_ ?_ ?_ ?_,KT.FT.of KX G (KT.ba1 (fun _ _ _ _ _ _ _ _=>rfl) rfl) ?_ ?_ ?_ ?_,KT.FT.of KX G (KT.ba2 (fun _ _ _ _ _ _ _ _ _=>rfl) rfl) ?_ ?_ ?_ ?_,KT.FT.of KX G (KT.ba2 (fun _ _ _ _ _ _ _ _ _=>rfl) rfl) ?_ ?_ ?_ ?_,KT.FT.of KX G (KT.ba2 (fun _ _ _ _ _ _ _ _ _=>rfl) rfl) ?_ ?_ ?_ ?_,KT.FT.of KX G (KT.ba3 (fun _ _ _ _ _ _ _ _ _ _=>rfl) rfl) ?_ ?_ ?_ ?_,KT.FT.of KX G (KT.ba3 (fun _ _ _ _ _ _ _ _ _ _=>rfl) rfl) ?_ ?_ ?_ ?_,KT.FT.of KX G (KT.ba1 (fun _ _ _ _ _ _ _ _=>rfl) rfl) ?_ ?_ ?_ ?_,KT.FT.of KX G (KT.ba2 (fun _ _ _ _ _ _ _ _ _=>rfl) rfl) ?_ ?_ ?_ ?_,KT.FT.of KX G (KT.ba3 (fun _ _ _ _ _ _ _ _ _ _=>rfl) rfl) ?_ ?_ ?_ ?_,KT.FT.of KX G (KT.ba1 (fun _ _ _ _ _ _ _ _=>rfl) rfl) ?_ ?_ ?_ ?_,KT.FT.of KX G (KT.ba3 (fun _ _ _ _ _ _ _ _ _ _=>rfl) rfl) ?_ ?_ ?_ ?_,KT.FT.of KX G (KT.ba1 (fun _ _ _ _ _ _ _ _=>rfl) rfl) ?_ ?_ ?_ ?_,KT.FT.of KX G (KT.ba4 (fun _ _ _ _ _ _ _ _ _ _ _=>rfl) rfl) ?_ ?_ ?_ ?_,KT.FT.of KX G (KT.ba4 (fun _ _ _ _ _ _ _ _ _ _ _=>rfl) rfl) ?_ ?_ ?_ ?_,KT.FT.of KX G (KT.ba1 (fun _ _ _ _ _ _ _ _=>rfl) rfl) ?_ ?_ ?_ ?_,⟨?_,?_,?_,?_⟩,⟨?_,?_,?_,?_⟩,⟨?_,?_,?_,?_⟩,mg_of KX G ?_,mg_of KX G ?_,mg_of KX G ?_,mg_of KX G ?_,mg_of KX G ?_,mg_of KX G ?_,mg_of KX G ?_,mg_of KX G ?_,mg_of KX G ?_,mg_of KX G ?_,L2.kdict_mk2 ?_ ?_ ?_ (by decide) ?_,mg_of KX G ?_,L2.kdict_mk5 ?_ ?_ ?_ ?_ ?_ ?_ (by decide) ?_,mg_of KX G ?_,L2.ktup_mk2 ?_,fun s u=>.of_eq rfl,mg_none_of KX G ?_,mg_none_of KX G ?_,mg_none_of KX G ?_,mg_none_of KX G ?_,mg_none_of KX G ?_,mg_none_of KX G ?_,mg_none_of KX G ?_,mg_none_of KX G ?_,mg_none_of KX G ?_,mg_none_of KX G ?_,mg_none_of KX G ?_,mg_none_of KX G ?_,mg_none_of KX G ?_,mg_none_of KX G ?_,mg_none_of KX G ?_,mg_none_of KX G ?_,mg_none_of KX G ?_,mg_of KX G ?_,⟨?_⟩,mg_of KX G ?_,⟨?_⟩,mg_of KX G ?_,⟨?_⟩,mg_of KX G ?_,⟨?_⟩,mg_of KX G ?_,⟨?_⟩,mg_of KX G ?_,⟨?_⟩,mg_of KX G ?_,⟨?_⟩,mg_of KX G ?_,⟨?_⟩,mg_of KX G ?_,⟨?_⟩,mg_of KX G ?_,⟨?_⟩,mg_of KX G ?_,⟨?_⟩,mg_of KX G ?_,⟨?_⟩,mg_of KX G ?_,⟨?_⟩,mg_of KX G ?_,⟨?_⟩,mg_of KX G ?_,⟨?_⟩,mg_of KX G ?_,?_,?_,?_⟩⟩
   any_goals first | k_is | k_exc | rfl | kernel_rfl | decide +kernel
  obtain ⟨t,T⟩:=T
  have e0:=hmg.symm.trans T.jN.g
  cases e0
  refine' ⟨_,?b,fun base kb nb=>KT.ok_law T⟩
  exact T.bl
#print axioms PySem.Challenge.cw_tentloops_k71_books_refused_by_deeds_holds
