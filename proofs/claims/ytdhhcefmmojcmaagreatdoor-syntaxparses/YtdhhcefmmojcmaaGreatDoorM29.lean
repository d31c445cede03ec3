/- Texts of this proof, one behind the other. -/
import Derived.Test.YtdhhcefmmojcmaaGreatDoorM27
import Derived.Test.YtdhhcefmmojcmaaGreatDoorM28
import Derived.Recover
set_option maxRecDepth 100000
set_option maxHeartbeats 0
set_option linter.unusedVariables false
namespace Go.Proofs.YtdhhcefmmojcmaaGreatDoor
open Go.RowKit Go.Lib
def I7:Array Value:=#[.int .i64 0,.slice none 0 0,.bool false,.int .i64 0,.int .i64 0,.bool false,.int .i64 0,.string ⟨#[]⟩,.slice none 0 0,.slice none 0 0]
theorem AllReadyH.throw {P:Program}{ops:Array Oper}{Q:Exit->Act->World->Prop}{md:Region.Mode}{S:World->Prop}{fuel:Nat}{listed:Array Bool}{a:Act}{w:World}{i:Nat}{rs:List Nat}{o:Oper}(ho:ops[i]? =some o)(hw:Region.wanted o (yielded ops a.tmps)=true)(v:Value)(w':World)
 (hr:(execOp a.eval o).run P w=.halt (.panic v) w') (h:Q (.panic [{v,recovered:=false}]) a w')
 (hs:AllReadyH P md ops Q S fuel listed a w rs):AllReadyH P md ops Q S fuel listed a w (i::rs):=
 AllReadyH.cons ho (fun K _=>by
  rw[if_pos hw]
  unfold Oper.wp
  rw[hr]
  exact h) hs
theorem U9 (a:Act)(w:World)(o:Oper)(ty n:Nat)(x y:Operand)(ho:o.op=.store ty x y)(q:Nat)(t:TypeId)(cs old:Array Value)(e1:a.eval x=.pointer (some ⟨q,0,none⟩))(e2:a.eval y=.agg cs)(h:w.heap[q]? =some (.cells old t (0,0)))(hl:cs.size=n)(hz:old.size=n)(hi:(Tryz.prog.info? ty).map (·.size)=some n)(h1:cs.all (·.oneCell')=true):
 (execOp a.eval o).run Tryz.prog w=.ok .skip (w.setRow q cs):=by
 unfold execOp
 simp only[ho,e1,e2,Instr.storeAt,Instr.sureAddr,Sem.run_bind,Sem.run_pure,Result.andThen_ok,run_storeVar_row (P:=Tryz.prog) w q t ty old cs h (by rw[hl];exact hi) (by rw[hl,hz]) h1]
theorem DA (a:Act)(w:World)(o:Oper)(ty:Nat)(x:Operand)(ho:o.op=.load ty x)(q:Nat)(cs:Array Value)(e1:a.eval x=.pointer (some ⟨q,0,none⟩))(h:(loadVar ty ⟨q,0,none⟩).run Tryz.prog w=.ok (.agg cs) w):
 (execOp a.eval o).run Tryz.prog w=.ok (.value (.agg cs)) w:=by
 unfold execOp
 simp only[ho,e1,Instr.loadAt,Instr.sureAddr,Sem.run_bind,Sem.run_pure,Result.andThen_ok,h]
theorem X0:(Tryz.prog.info? 31).map (·.size)=some 10:=by kernel_rfl
theorem S4:(Tryz.prog.info? 34).map (·.size)=some 2:=by kernel_rfl
theorem Dl:I7.all (·.oneCell')=true:=by simp[I7,Value.oneCell']
theorem Ag (x y:Int):(#[.int .i64 x,.int .i64 y]:Array Value).all (·.oneCell')=true:=by simp[Value.oneCell']
theorem Lf (p q:Addr)(w:World):
 CallsD Tryz.prog 44 #[.pointer (some p),.pointer (some q)] .returning w fun e u' w'=>e=.returned (.tuple #[])/\u'=.returning/\w'=w:=by
 refine callsD_of_wpS Tryz.func44 rfl fun c₀ cs hu=>?_
 apply wpS_seq
 apply wpS_region
 simp[wpOpsS,go_sem,recoverD,hu,Tryz.ntmps44,Exit.thenS]
 refine wpS_of_wp ?_
 simp[Array.replicate]
 go_wp2
 cases c₀
 simp_all [bodyPostS,results,Tryz.results44]
theorem Pz {w:World}(a b:Value)(t:TypeId):(w.alloc (.cells #[a,b] t)).heap[w.heap.size]? =some (.cells #[a,b] t (0,0)):=by
 show(w.heap.push _)[_]? =_
 simp
theorem CG (p q:Nat)(c:Nat)(t:Int)(older:List PanicEntry)(w:World)(oldP oldQ:Array Value)(hp:w.heap[p]? =some (.cells oldP 31 (0,0)))(hq:w.heap[q]? =some (.cells oldQ 34 (0,0)))(sP:oldP.size=10)(sQ:oldQ.size=2)(hpq:p≠q):
 CallsD Tryz.prog 44 #[.pointer (some ⟨p,0,none⟩),.pointer (some ⟨q,0,none⟩)] (.panicking ({v:=.iface 34 (.agg #[.int .i64 (c:Nat),.int .i64 t]),recovered:=false}::older)) w fun e u' w'=>
  e=.returned (.tuple #[])/\u'=.panicking ({v:=.iface 34 (.agg #[.int .i64 (c:Nat),.int .i64 t]),recovered:=true}::older)/\
   w'.heap[p]? =some (.cells I7 31 (0,0))/\w'.heap[q]? =some (.cells #[.int .i64 (c:Nat),.int .i64 t] 34 (0,0))/\b7 (fun k=>k=p∨k=q) w w':=by
 have hta:∀(v:Value) (w:World),(Instr.typeAssert (.iface 34 v) 20 34 true).run Tryz.prog w=.ok (.tuple #[v,.bool true]) w:=fun _ _=>rfl
 refine callsD_of_wpS Tryz.func44 rfl fun c₀ cs hu=>?_
 apply wpS_seq
 apply wpS_region
 simp[wpOpsS,go_sem,recoverD,hu,Tryz.ntmps44,Exit.thenS]
 refine wpS_of_wp ?_
 simp[Array.replicate]
 have T0:=b6 ((tZ w).alloc (.cells #[.int .i64 (c:Nat),.int .i64 t] 34))
 have B0:=b6 (Pz (w:=w) (.int .i64 (c:Nat)) (.int .i64 t) 34)
 have P0:=b6 ((T0.out.block p (lt_of_block hp) id).trans hp)
 have Q0:=b6 ((T0.out.block q (lt_of_block hq) id).trans hq)
 have HL:=b6 (show p<w.heap.size/\q<w.heap.size from⟨lt_of_block hp,lt_of_block hq⟩)
 clear hp hq
 go_upto_region 5 with fail
 generalize w.alloc (.cells #[.int .i64 (c:Nat),.int .i64 t] 34)=w1 at*
 obtain⟨r,hr⟩:∃r,r=w.heap.size:=⟨_,rfl⟩
 have HN:=b6 (show p≠r/\q≠r from by have:=HL.out;omega)
 rw[<-hr]at B0⊢
 clear hr
 have mixed:Tryz.prog.follows Departure.mixedOrders=true:=by kernel_rfl
 have SW:=b6 (show w1.drew.heap[r]? =some (.cells #[.int .i64 (c:Nat),.int .i64 t] 34 (0,0))from B0.out)
 have PW:=b6 (show w1.drew.heap[p]? =some (.cells oldP 31 (0,0))from P0.out)
 have QW:=b6 (show w1.drew.heap[q]? =some (.cells oldQ 34 (0,0))from Q0.out)
 have TW:=b6 (T0.out.drew)
 clear B0 P0 Q0 T0
 refine wp_region_held (S:=fun w'=>w'.heap[r]? =some (.cells #[.int .i64 (c:Nat),.int .i64 t] 34 (0,0))) mixed ?_
 change wpAnyH _ _ _ _ _ _ _ _ w1.drew
 generalize w1.drew=w2 at*
 refine j3 (i:=0) (v:=.agg I7) (some 16) rfl (by kernel_rfl) (by kernel_rfl) (by kernel_rfl) (fun _ _ _ h=>h) (.inl ⟨by kernel_rfl,fun w' hS=>?_⟩) SW.out (by kernel_rfl) ?_
 ·clear hS
  go_simp
  rfl
 refine j3 (i:=1) (v:=.agg #[.int .i64 (c:Nat),.int .i64 t]) (some 17) rfl (by kernel_rfl) (by kernel_rfl) (by kernel_rfl) (fun _ _ _ h=>h) (.inl ⟨by kernel_rfl,fun w' hS=>?_⟩) SW.out (by kernel_rfl) ?_
 ·exact DA _ _ _ 34 (.tmp 3) rfl r _ (by kernel_rfl) (run_loadVar_row (P:=Tryz.prog) w' r 34 34 _ (0,0) _ hS Tryz.underlying34 rfl S4)
 refine wpAnyH_ready (rs:=[2]) (by kernel_rfl) (by simp) ?_
 have TP:=g8 w2 p I7
 refine AllReadyH.skip rfl (by kernel_rfl) (w2.setRow p I7) (U9 _ _ _ 31 10 (.tmp 0) (.tmp 16) rfl p 31 I7 oldP (by kernel_rfl) (by kernel_rfl) PW.out rfl sP X0 Dl) ((TP.block r (lt_of_block SW.out) (fun e=>HN.out.1 e.symm)).trans SW.out) (by kernel_rfl) ?_ AllReadyH.nil
 ·have Q3:=(TP.block q (lt_of_block QW.out) (fun e=>hpq e.symm)).trans QW.out
  have P3:=setRow_heap w2 p _ I7 31 (0,0) PW.out
  have R3:=(TP.block r (lt_of_block SW.out) (fun e=>HN.out.1 e.symm)).trans SW.out
  generalize w2.setRow p I7=w3 at*
  have TQ3:=g8 w3 q #[.int .i64 (c:Nat),.int .i64 t]
  refine wpAnyH_ready (rs:=[3]) (by kernel_rfl) (by simp) ?_
  refine AllReadyH.skip rfl (by kernel_rfl) (w3.setRow q #[.int .i64 (c:Nat),.int .i64 t]) (U9 _ _ _ 34 2 (.tmp 1) (.tmp 17) rfl q 34 #[.int .i64 (c:Nat),.int .i64 t] oldQ (by kernel_rfl) (by kernel_rfl) Q3 rfl sQ S4 (Ag _ _)) ((TQ3.block r (lt_of_block R3) (fun e=>HN.out.2 e.symm)).trans R3) (by kernel_rfl) ?_ AllReadyH.nil
  refine wpAnyH_done (by kernel_rfl) ?_ _
  have P4:=(TQ3.block p (lt_of_block P3) (fun e=>hpq e)).trans P3
  have Q4:=setRow_heap w3 q _ #[.int .i64 (c:Nat),.int .i64 t] 34 (0,0) Q3
  have T4:=((TW.out.mono (S':=fun k=>k=p∨k=q) nE).trans TP (fun _ _ e=>.inl e)).trans TQ3 (fun _ _ e=>.inr e)
  refine⟨rfl,_,rfl,.tuple #[],?_,rfl,rfl,P4,Q4,T4⟩
  simp[results,Tryz.results44,go_sem]
theorem My {w:World}{b:Nat}(hb:b<w.heap.size):
 ((w.alloc (.cells I7 31)).alloc (.cells #[.int .i64 0,.int .i64 0] 34)).heap[w.heap.size]? =some (.cells I7 31 (0,0))/\
 ((w.alloc (.cells I7 31)).alloc (.cells #[.int .i64 0,.int .i64 0] 34)).heap[w.heap.size+1]? =some (.cells #[.int .i64 0,.int .i64 0] 34 (0,0))/\
 b7 (fun _=>False) w ((w.alloc (.cells I7 31)).alloc (.cells #[.int .i64 0,.int .i64 0] 34))/\
 (b<w.heap.size/\w.heap.size<=w.heap.size/\w.heap.size<w.heap.size+1):=by
 have e1:(w.alloc (.cells I7 31)).heap.size=w.heap.size+1:=by simp
 refine⟨?_,?_,((b7.refl _ _).alloc _).alloc _,hb,Nat.le_refl _,Nat.lt_succ_self _⟩
 ·have T:=(tZ (w.alloc (.cells I7 31))).alloc (.cells #[.int .i64 0,.int .i64 0] 34)
  exact(T.block _ (by rw[e1];omega) id).trans (e8 w I7 31)
 ·have:=e8 (w.alloc (.cells I7 31)) #[.int .i64 0,.int .i64 0] 34
  rw[e1]at this
  exact this
theorem Leaves.tmps {P:Program}{fn:Func}{R:Ending->World->Prop}{t t':Array Value}(h:results fn t=results fn t'):∀(ds:List Deferred) (u:FrameMode) (w:World),Leaves P fn t R ds u w->Leaves P fn t' R ds u w
 | [],.returning,w,hh=>by
   obtain⟨v,h1,h2⟩:=hh
   exact⟨v,by rw[<-h];exact h1,h2⟩
 | [],.panicking chain,w,hh=>hh
 | [],.run,w,hh=>hh
 |d::ds,u,w,⟨h0,fv,cap,f,args,h1,h2,h3⟩=>⟨h0,fv,cap,f,args,h1,h2,h3.mono (fun e u' w' hh=>by
  match e,hh with
  | .returned _,hh=>exact Leaves.tmps h ds _ _ hh
  | .panicked _,hh=>exact Leaves.tmps h ds _ _ hh
  | .outgrown,hh=>exact hh)⟩
theorem U8 (R:Ending->World->Prop)(d:Nat)(h2:d≠2)(h3:d≠3)(v:Value)(c:List PanicEntry)(a:Act)(w:World)(h:bodyPostD Tryz.prog Tryz.f27 R (.panic c) (a.put (some d) v) w):bodyPostD Tryz.prog Tryz.f27 R (.panic c) a w:=by
 refine Leaves.tmps ?_ _ _ _ h
 simp[results,Tryz.results27,Act.put,Array.getElem?_setIfInBounds,h2,h3]
def Nx (b:Nat)(X:Px)(vn:Value)(w:World):PR (Nd×List ByteArray)->Ending->World->Prop
 | .error (c,j),e,w'=>e=.returned (.tuple #[.agg I7,.agg #[.int .i64 (c:Nat),.int .i64 (g7 X.P j)]])/\b7 (fun g=>g=b∨vn.ownBlock=some g) w w'
 | .ok (x,ns),e,w'=>∃c vn',e=.returned (.tuple #[.agg (j4.arr c++#[vn']),.agg #[.int .i64 0,.int .i64 0]])/\TN w' (fun g=>w.heap.size<=g/\g<w'.heap.size) c x/\SL w' vn' ns/\(vn'.ownBlock=vn.ownBlock∨∃g,vn'.ownBlock=some g/\w.heap.size<=g)/\b7 (fun g=>g=b∨vn.ownBlock=some g) w w'
theorem Uc (b:Nat)(X:Px)(f:Fl)(vn:Value)(ns:List ByteArray)(c j:Nat)(w:World)(h:PS w b X 0 f vn ns 0)
 (K:∀w',PS w' b X 0 f vn ns 0->Calls Tryz.prog 45 #[.pointer (some ⟨b,0,none⟩)] w' fun e w''=>e=u6 c (g7 X.P j)/\b7 (fun g=>g=b∨vn.ownBlock=some g) w' w''):
 Calls Tryz.prog 27 #[.pointer (some ⟨b,0,none⟩)] w fun e w'=>Nx b X vn w (.error (c,j)) e w':=by
 have hmf:∀(fn:Fn) (first cap:Array Value) (w:World),(Instr.makeFunc fn first cap).run Tryz.prog w=.ok (.func fn first cap) w:=fun _ _ _ _=>rfl
 have B:=b6 (My (w:=w) h.lt)
 have H0:=b6 (h.new B.out.2.2.1)
 have KH:=b6 K
 unfold u6 at KH
 clear K h
 go_enter_defers Tryz.func27,Tryz.ntmps27
 go_upto_region 2 with fail
 unfold I7 at B H0
 generalize (w.alloc (.cells #[.int .i64 0,.slice none 0 0,.bool false,.int .i64 0,.int .i64 0,.bool false,.int .i64 0,.string ⟨#[]⟩,.slice none 0 0,.slice none 0 0] 31)).alloc (.cells #[.int .i64 0,.int .i64 0] 34)=w1 at*
 obtain⟨BA,BB,T1,L⟩:=B.out
 clear B
 replace BA:=b6 BA
 replace BB:=b6 BB
 replace T1:=b6 T1
 obtain⟨p,hp⟩:∃p,p=w.heap.size:=⟨_,rfl⟩
 obtain⟨q,hq⟩:∃q,q=w.heap.size+1:=⟨_,rfl⟩
 have HL:=b6 (show b<p/\w.heap.size<=p/\p<q from by rw[hp,hq];exact L)
 clear L
 rw[<-hq]at BB⊢
 rw[<-hp]at BA⊢
 clear hp hq
 have NP:=b6 (show ∀g,g=b∨vn.ownBlock=some g->¬g=p/\¬g=q from fun g e=>by
  rcases e with e|e
  ·have:=HL.out
   omega
  ·exact⟨fun s=>H0.out.notN BA.out (by decide) (by rw[<-s];exact e),fun s=>H0.out.notN BB.out (by decide) (by rw[<-s];exact e)⟩)
 obtain⟨y,hy⟩:∃y,y=g7 X.P j:=⟨_,rfl⟩
 rw[<-hy]at KH
 have HY:=b6 hy
 clear hy
 go_wp2_with fail
 refine(KH.out w1 H0.out).mono ?_
 rintro e w2 ⟨rfl,tt⟩
 have P2:=b6 ((tt.block p (lt_of_block BA.out) (fun e=>(NP.out p e).1 rfl)).trans BA.out)
 have Q2:=b6 ((tt.block q (lt_of_block BB.out) (fun e=>(NP.out q e).2 rfl)).trans BB.out)
 have T2:=b6 (b7.trans (S:=fun g=>g=b∨vn.ownBlock=some g) (T1.out.mono nE) tt iE)
 clear tt KH H0 BA BB T1
 go_wp2
 refine leaves_cons (f:=44) (args:=#[.pointer (some ⟨p,0,none⟩),.pointer (some ⟨q,0,none⟩)]) (by simp) (by simp[go_sem]) ?_
 refine(CG p q c y [] w2 _ _ P2.out Q2.out rfl rfl (by have:=HL.out;omega)).mono ?_
 rintro e u' w9 ⟨rfl,rfl,P9,Q9,t9⟩
 exact⟨_,I4 rfl _ _ p q 31 34 _ _ (0,0) (0,0) _ _ rfl P9 Tryz.underlying31 rfl X0 rfl Q9 Tryz.underlying34 rfl S4,by rw[HY.out],T2.out.trans t9 (fun i hi e=>by have:=HL.out;omega)⟩
theorem Vu (b:Nat)(X:Px)(f:Fl)(vn:Value)(ns:List ByteArray)(x:Nd)(st:St)(w:World)(h:PS w b X 0 f vn ns 0)(hX:X.Good)(hk:st.k<=X.R.length)
 (K:∀w',PS w' b X 0 f vn ns 0->Calls Tryz.prog 45 #[.pointer (some ⟨b,0,none⟩)] w' fun e w''=>J0 b X vn 0 (fun _=>False) w' (.ok (x,st)) e w''):
 Calls Tryz.prog 27 #[.pointer (some ⟨b,0,none⟩)] w fun e w'=>Nx b X vn w (if g7 X.R st.k= -1 then .ok (x,st.ns)else .error (25,st.k)) e w':=by
 have hk2:st.k<=1024:=by have:=hX.lenR;omega
 have HKP:=b6 (show st.k<X.P.length by have:=hX.lenP;omega)
 obtain⟨A,hA⟩:∃A,A=(if g7 X.R st.k= -1 then Except.ok (x,st.ns)else .error (25,st.k):PR (Nd×List ByteArray)):=⟨_,rfl⟩
 rw[<-hA]
 have HA:=b6 hA.symm
 clear hA hk hX
 obtain⟨k,f2,ns2⟩:=st
 simp only at hk2 HKP HA
 have hmf:∀(fn:Fn) (first cap:Array Value) (w:World),(Instr.makeFunc fn first cap).run Tryz.prog w=.ok (.func fn first cap) w:=fun _ _ _ _=>rfl
 have B:=b6 (My (w:=w) h.lt)
 have H0:=b6 (h.new B.out.2.2.1)
 have KH:=b6 K
 unfold J0 at KH
 simp only at KH
 clear K h
 go_enter_defers Tryz.func27,Tryz.ntmps27
 go_upto_region 2 with fail
 unfold I7 at B H0
 generalize (w.alloc (.cells #[.int .i64 0,.slice none 0 0,.bool false,.int .i64 0,.int .i64 0,.bool false,.int .i64 0,.string ⟨#[]⟩,.slice none 0 0,.slice none 0 0] 31)).alloc (.cells #[.int .i64 0,.int .i64 0] 34)=w1 at*
 obtain⟨BA,BB,T1,L⟩:=B.out
 clear B
 replace BA:=b6 BA
 replace BB:=b6 BB
 replace T1:=b6 T1
 obtain⟨p,hp⟩:∃p,p=w.heap.size:=⟨_,rfl⟩
 obtain⟨q,hq⟩:∃q,q=w.heap.size+1:=⟨_,rfl⟩
 have HL:=b6 (show b<p/\w.heap.size<=p/\p<q from by rw[hp,hq];exact L)
 clear L
 rw[<-hq]at BB⊢
 rw[<-hp]at BA⊢
 clear hp hq
 have NP:=b6 (show ∀g,g=b∨vn.ownBlock=some g->¬g=p/\¬g=q from fun g e=>by
  rcases e with e|e
  ·have:=HL.out
   omega
  ·exact⟨fun s=>H0.out.notN BA.out (by decide) (by rw[<-s];exact e),fun s=>H0.out.notN BB.out (by decide) (by rw[<-s];exact e)⟩)
 go_wp2_with fail
 refine(KH.out w1 H0.out).mono ?_
 rintro e w2 ⟨c,vn',rfl,ht2,hp2,hn2,t2⟩
 obtain⟨ck,sa,sn,sc,fo,mi,ma,la,ca,nm,ka,kn,kc⟩:=c
 obtain⟨an,cn,hvn⟩:=e9 hp2.names
 subst hvn
 obtain⟨nn,hnn⟩:∃n,n=ns2.length:=⟨_,rfl⟩
 rw[<-hnn]at hp2 hn2
 have HNN:=b6 hnn
 clear hnn
 have P2:=b6 ((t2.block p (lt_of_block BA.out) (fun e=>(NP.out p e).1 rfl)).trans BA.out)
 have Q2:=b6 ((t2.block q (lt_of_block BB.out) (fun e=>(NP.out q e).2 rfl)).trans BB.out)
 have T2:=b6 (b7.trans (S:=fun g=>g=b∨vn.ownBlock=some g) (T1.out.mono nE) t2 iE)
 have H2:=b6 hp2
 have X2:=b6 (ht2.more (B':=fun g=>q<g/\g<w2.heap.size) (fun g e=>by
  rcases e with e|e
  ·exact e.elim
  ·exact⟨by have:=lt_of_block BB.out;omega,e.2⟩))
 have HV:=b6 (show(Value.slice an nn cn).ownBlock=vn.ownBlock∨∃g,(Value.slice an nn cn).ownBlock=some g/\w.heap.size<=g from by
  rcases hn2 with e|⟨g,e,hg⟩
  ·exact .inl e
  ·exact .inr ⟨g,e,Nat.le_trans T1.out.size hg⟩)
 clear t2 ht2 hp2 hn2 KH H0 BA BB T1
 unfold j4.arr
 go_upto_region 3 with(first|refine wpList_store_row rfl 28 _ _ rfl w2.heap.size _ rfl rfl 28 _ (e8 w2 _ 28) l7 (by rfl) (j4.one ⟨ck,sa,sn,sc,fo,mi,ma,la,ca,nm,ka,kn,kc⟩) ?_|fail)
 have TB:=b6 (((tZ w2).alloc (.cells #[.int .i64 0,.slice none 0 0,.bool false,.int .i64 0,.int .i64 0,.bool false,.int .i64 0,.string ⟨#[]⟩,.slice none 0 0] 28)).trans (g8 (w2.alloc (.cells #[.int .i64 0,.slice none 0 0,.bool false,.int .i64 0,.int .i64 0,.bool false,.int .i64 0,.string ⟨#[]⟩,.slice none 0 0] 28)) w2.heap.size #[.int .i64 ck,.slice sa sn sc,.bool fo,.int .i64 mi,.int .i64 ma,.bool la,.int .i64 ca,.string nm,.slice ka kn kc]) (fun i hi e=>by omega))
 have RA:=b6 (setRow_heap (w2.alloc (.cells #[.int .i64 0,.slice none 0 0,.bool false,.int .i64 0,.int .i64 0,.bool false,.int .i64 0,.string ⟨#[]⟩,.slice none 0 0] 28)) w2.heap.size _ #[.int .i64 ck,.slice sa sn sc,.bool fo,.int .i64 mi,.int .i64 ma,.bool la,.int .i64 ca,.string nm,.slice ka kn kc] 28 (0,0) (e8 w2 _ 28))
 generalize (w2.alloc (.cells #[.int .i64 0,.slice none 0 0,.bool false,.int .i64 0,.int .i64 0,.bool false,.int .i64 0,.string ⟨#[]⟩,.slice none 0 0] 28)).setRow w2.heap.size #[.int .i64 ck,.slice sa sn sc,.bool fo,.int .i64 mi,.int .i64 ma,.bool la,.int .i64 ca,.string nm,.slice ka kn kc]=w3 at*
 obtain⟨q4,hq4⟩:∃q4,q4=w2.heap.size:=⟨_,rfl⟩
 have HQ4:=b6 (show p<q4/\q<q4 from by have h1:=lt_of_block P2.out;have h2:=lt_of_block Q2.out;omega)
 rw[<-hq4]at RA⊢
 clear hq4
 replace H2:=b6 (H2.out.new TB.out)
 replace X2:=b6 ((X2.out.new TB.out).more (B':=fun g=>q<g/\g<w3.heap.size) (fun g e=>⟨e.1,Nat.lt_of_lt_of_le e.2 TB.out.size⟩))
 replace P2:=b6 ((TB.out.block p (lt_of_block P2.out) id).trans P2.out)
 replace Q2:=b6 ((TB.out.block q (lt_of_block Q2.out) id).trans Q2.out)
 replace T2:=b6 (T2.out.trans TB.out nE)
 clear TB
 have KL:=b6 (Bj b X k f2 (.slice an nn cn) ns2 0 w3 H2.out (by omega))
 go_wp2_with fail
 refine KL.out.mono ?_
 rintro e w4 ⟨rfl,t4⟩
 replace H2:=b6 (H2.out.new t4)
 replace X2:=b6 ((X2.out.new t4).more (B':=fun g=>q<g/\g<w4.heap.size) (fun g e=>⟨e.1,Nat.lt_of_lt_of_le e.2 t4.size⟩))
 replace P2:=b6 ((t4.block p (lt_of_block P2.out) id).trans P2.out)
 replace Q2:=b6 ((t4.block q (lt_of_block Q2.out) id).trans Q2.out)
 replace RA:=b6 ((t4.block q4 (lt_of_block RA.out) id).trans RA.out)
 replace T2:=b6 (T2.out.trans t4 nE)
 clear t4 KL
 have mixed:Tryz.prog.follows Departure.mixedOrders=true:=by kernel_rfl
 by_cases hend:g7 X.R k= -1
 ·rw[if_pos hend]at HA
  have hB:(g7 X.R k !=(-1:Int))=false:=by simpa using hend
  generalize g7 X.R k=y at*
  subst hend
  have SW:=b6 (show w4.drew.heap[q4]? =some (.cells #[.int .i64 ck,.slice sa sn sc,.bool fo,.int .i64 mi,.int .i64 ma,.bool la,.int .i64 ca,.string nm,.slice ka kn kc] 28 (0,0))/\w4.drew.cell? ⟨b,10,none⟩=some (.slice an nn cn)from⟨RA.out,H2.out.c10⟩)
  have PW:=b6 (show w4.drew.heap[p]? =some (.cells #[.int .i64 0,.slice none 0 0,.bool false,.int .i64 0,.int .i64 0,.bool false,.int .i64 0,.string ⟨#[]⟩,.slice none 0 0,.slice none 0 0] 31 (0,0))from P2.out)
  have QW:=b6 (show w4.drew.heap[q]? =some (.cells #[.int .i64 0,.int .i64 0] 34 (0,0))from Q2.out)
  have TW:=b6 (T2.out.drew)
  have HW:=b6 (H2.out.new ((tZ w4).drew))
  have XW:=b6 (X2.out.new ((tZ w4).drew))
  go_upto_region 5 with fail
  clear RA P2 Q2 T2 H2 X2
  refine wp_region_held (S:=fun w'=>w'.heap[q4]? =some (.cells #[.int .i64 ck,.slice sa sn sc,.bool fo,.int .i64 mi,.int .i64 ma,.bool la,.int .i64 ca,.string nm,.slice ka kn kc] 28 (0,0))/\w'.cell? ⟨b,10,none⟩=some (.slice an nn cn)) mixed ?_
  change wpAnyH _ _ _ _ _ _ _ _ w4.drew
  replace XW:=b6 (show TN w4.drew (fun g=>q<g/\g<w4.drew.heap.size) _ x from XW.out)
  generalize w4.drew=w5 at*
  refine j3 (i:=0) (v:=.agg #[.int .i64 ck,.slice sa sn sc,.bool fo,.int .i64 mi,.int .i64 ma,.bool la,.int .i64 ca,.string nm,.slice ka kn kc]) (some 23) rfl (by kernel_rfl) (by kernel_rfl) (by kernel_rfl) (fun c a w h=>U8 _ 23 (by decide) (by decide) _ c a w h) (.inl ⟨by kernel_rfl,fun w' hS=>?_⟩) SW.out (by kernel_rfl) ?_
  ·exact DA _ _ _ 28 (.tmp 4) rfl q4 _ (by kernel_rfl) (run_loadVar_row (P:=Tryz.prog) w' q4 28 28 _ (0,0) _ hS.1 Tryz.underlying28 rfl l7)
  refine j3 (i:=1) (v:=.pointer (some ⟨b,0,none⟩)) (some 24) rfl (by kernel_rfl) (by kernel_rfl) (by kernel_rfl) (fun c a w h=>U8 _ 24 (by decide) (by decide) _ c a w h) (.inl ⟨by kernel_rfl,fun w' hS=>?_⟩) SW.out (by kernel_rfl) ?_
  ·obtain⟨_,s10⟩:=hS
   go_simp
  refine j3 (i:=2) (v:=.pointer (some ⟨b,0,none⟩)) (some 25) rfl (by kernel_rfl) (by kernel_rfl) (by kernel_rfl) (fun c a w h=>U8 _ 25 (by decide) (by decide) _ c a w h) (.inl ⟨by kernel_rfl,fun w' hS=>?_⟩) SW.out (by kernel_rfl) ?_
  ·obtain⟨_,s10⟩:=hS
   go_simp
  refine j3 (i:=3) (v:=.pointer (some ⟨b,10,none⟩)) (some 26) rfl (by kernel_rfl) (by kernel_rfl) (by kernel_rfl) (fun c a w h=>U8 _ 26 (by decide) (by decide) _ c a w h) (.inl ⟨by kernel_rfl,fun w' hS=>?_⟩) SW.out (by kernel_rfl) ?_
  ·obtain⟨_,s10⟩:=hS
   go_simp
  refine j3 (i:=4) (v:=.slice an nn cn) (some 27) rfl (by kernel_rfl) (by kernel_rfl) (by kernel_rfl) (fun c a w h=>U8 _ 27 (by decide) (by decide) _ c a w h) (.inl ⟨by kernel_rfl,fun w' hS=>?_⟩) SW.out (by kernel_rfl) ?_
  ·obtain⟨_,s10⟩:=hS
   go_simp
  refine j3 (i:=5) (v:=.agg #[.int .i64 ck,.slice sa sn sc,.bool fo,.int .i64 mi,.int .i64 ma,.bool la,.int .i64 ca,.string nm,.slice ka kn kc,.slice an nn cn]) (some 28) rfl (by kernel_rfl) (by kernel_rfl) (by kernel_rfl) (fun c a w h=>U8 _ 28 (by decide) (by decide) _ c a w h) (.inl ⟨by kernel_rfl,fun w' hS=>?_⟩) SW.out (by kernel_rfl) ?_
  ·clear hS
   go_simp
  refine j3 (i:=6) (v:=.agg #[.int .i64 0,.int .i64 0]) (some 29) rfl (by kernel_rfl) (by kernel_rfl) (by kernel_rfl) (fun c a w h=>U8 _ 29 (by decide) (by decide) _ c a w h) (.inl ⟨by kernel_rfl,fun w' hS=>?_⟩) SW.out (by kernel_rfl) ?_
  ·clear hS
   go_simp
  have n5:¬p=q:=by have:=HL.out;omega
  have TP:=g8 w5 p #[.int .i64 ck,.slice sa sn sc,.bool fo,.int .i64 mi,.int .i64 ma,.bool la,.int .i64 ca,.string nm,.slice ka kn kc,.slice an nn cn]
  have keepS:∀(g:Nat) (cs:Array Value) (wr:World),(g=p∨g=q)->(wr.heap[q4]? =some (.cells #[.int .i64 ck,.slice sa sn sc,.bool fo,.int .i64 mi,.int .i64 ma,.bool la,.int .i64 ca,.string nm,.slice ka kn kc] 28 (0,0))/\wr.cell? ⟨b,10,none⟩=some (.slice an nn cn))->((wr.setRow g cs).heap[q4]? =some (.cells #[.int .i64 ck,.slice sa sn sc,.bool fo,.int .i64 mi,.int .i64 ma,.bool la,.int .i64 ca,.string nm,.slice ka kn kc] 28 (0,0))/\(wr.setRow g cs).cell? ⟨b,10,none⟩=some (.slice an nn cn)):=fun g cs wr hg hw=>by
   have TT:=g8 wr g cs
   have h1:=HQ4.out
   have h2:=HL.out
   have h3:b<wr.heap.size:=by
    have h:=hw.2
    unfold World.cell? at h
    rcases Nat.lt_or_ge b wr.heap.size with e|e
    ·exact e
    ·rw[Array.getElem?_eq_none e]at h
     cases h
   exact⟨(TT.block q4 (lt_of_block hw.1) (by omega)).trans hw.1,(TT.cell (p:=⟨b,10,none⟩) h3 (by simp only;omega)).trans hw.2⟩
  have FIN:∀w9:World,w9.heap[p]? =some (.cells #[.int .i64 ck,.slice sa sn sc,.bool fo,.int .i64 mi,.int .i64 ma,.bool la,.int .i64 ca,.string nm,.slice ka kn kc,.slice an nn cn] 31 (0,0))->w9.heap[q]? =some (.cells #[.int .i64 0,.int .i64 0] 34 (0,0))->b7 (fun g=>g=p∨g=q) w5 w9->Nx b X vn w (.ok (x,ns2)) (.returned (.tuple #[.agg (j4.arr ⟨ck,sa,sn,sc,fo,mi,ma,la,ca,nm,ka,kn,kc⟩++#[.slice an nn cn]),.agg #[.int .i64 0,.int .i64 0]])) w9:=fun w9 _ _ t9=>by
   refine⟨_,_,rfl,(XW.out.kept t9 (fun g hg s=>?_)).more (fun g hg=>⟨?_,Nat.lt_of_lt_of_le hg.2 t9.size⟩),?_,HV.out,TW.out.trans t9 (fun i hi e=>by have:=HL.out;omega)⟩
   ·have:=HL.out
    omega
   ·have:=HL.out
    omega
   ·exact g9 HW.out.names t9 (fun g e s=>by
     rcases s with s|s
     ·subst s;exact HW.out.notN PW.out (by decide) e
     ·subst s;exact HW.out.notN QW.out (by decide) e)
  refine wpAnyH_ready (rs:=[7]) (by kernel_rfl) (by simp) ?_
  refine AllReadyH.skip rfl (by kernel_rfl) (w5.setRow p #[.int .i64 ck,.slice sa sn sc,.bool fo,.int .i64 mi,.int .i64 ma,.bool la,.int .i64 ca,.string nm,.slice ka kn kc,.slice an nn cn]) (U9 _ _ _ 31 10 (.tmp 2) (.tmp 28) rfl p 31 #[.int .i64 ck,.slice sa sn sc,.bool fo,.int .i64 mi,.int .i64 ma,.bool la,.int .i64 ca,.string nm,.slice ka kn kc,.slice an nn cn] #[.int .i64 0,.slice none 0 0,.bool false,.int .i64 0,.int .i64 0,.bool false,.int .i64 0,.string ⟨#[]⟩,.slice none 0 0,.slice none 0 0] (by kernel_rfl) (by kernel_rfl) PW.out rfl rfl X0 (by simp[Value.oneCell'])) (keepS p _ w5 (.inl rfl) SW.out) (by kernel_rfl) ?_ AllReadyH.nil
  ·have Q3:=(TP.block q (lt_of_block QW.out) (fun e=>n5 e.symm)).trans QW.out
   have P3:=setRow_heap w5 p _ #[.int .i64 ck,.slice sa sn sc,.bool fo,.int .i64 mi,.int .i64 ma,.bool la,.int .i64 ca,.string nm,.slice ka kn kc,.slice an nn cn] 31 (0,0) PW.out
   have S3:=keepS p #[.int .i64 ck,.slice sa sn sc,.bool fo,.int .i64 mi,.int .i64 ma,.bool la,.int .i64 ca,.string nm,.slice ka kn kc,.slice an nn cn] w5 (.inl rfl) SW.out
   generalize w5.setRow p #[.int .i64 ck,.slice sa sn sc,.bool fo,.int .i64 mi,.int .i64 ma,.bool la,.int .i64 ca,.string nm,.slice ka kn kc,.slice an nn cn]=w6 at*
   have TQ3:=g8 w6 q #[.int .i64 0,.int .i64 0]
   refine wpAnyH_ready (rs:=[8]) (by kernel_rfl) (by simp) ?_
   refine AllReadyH.skip rfl (by kernel_rfl) (w6.setRow q #[.int .i64 0,.int .i64 0]) (U9 _ _ _ 34 2 (.tmp 3) (.tmp 29) rfl q 34 #[.int .i64 0,.int .i64 0] #[.int .i64 0,.int .i64 0] (by kernel_rfl) (by kernel_rfl) Q3 rfl rfl S4 (Ag _ _)) (keepS q _ w6 (.inr rfl) S3) (by kernel_rfl) ?_ AllReadyH.nil
   refine wpAnyH_done (by kernel_rfl) ?_ _
   have P4:=(TQ3.block p (lt_of_block P3) n5).trans P3
   have Q4:=setRow_heap w6 q _ #[.int .i64 0,.int .i64 0] 34 (0,0) Q3
   have F4:=FIN _ P4 Q4 ((TP.mono (fun _ _ e=>.inl e)).trans TQ3 (fun _ _ e=>.inr e))
   rw[HA.out]at F4
   clear FIN keepS
   generalize w6.setRow q #[.int .i64 0,.int .i64 0]=w7 at*
   simp only[Act.put,List.setIfInBounds_toArray,List.set_cons_succ,List.set_cons_zero]
   go_wp2
   refine leaves_cons (f:=44) (args:=#[.pointer (some ⟨p,0,none⟩),.pointer (some ⟨q,0,none⟩)]) (by simp) (by simp[go_sem]) ?_
   refine(Lf ⟨p,0,none⟩ ⟨q,0,none⟩ w7).mono ?_
   rintro e u' w9 ⟨rfl,rfl,rfl⟩
   exact⟨_,I4 rfl _ _ p q 31 34 _ _ (0,0) (0,0) _ _ rfl P4 Tryz.underlying31 rfl X0 rfl Q4 Tryz.underlying34 rfl S4,F4⟩
 ·rw[if_neg hend]at HA
  have hB:(g7 X.R k !=(-1:Int))=true:=by simpa using hend
  generalize g7 X.R k=y at*
  have SW:=b6 (show w4.drew.cell? ⟨b,5,none⟩=some (.int .i64 (k:Nat))from H2.out.c5)
  have PW:=b6 (show w4.drew.heap[p]? =some (.cells #[.int .i64 0,.slice none 0 0,.bool false,.int .i64 0,.int .i64 0,.bool false,.int .i64 0,.string ⟨#[]⟩,.slice none 0 0,.slice none 0 0] 31 (0,0))from P2.out)
  have QW:=b6 (show w4.drew.heap[q]? =some (.cells #[.int .i64 0,.int .i64 0] 34 (0,0))from Q2.out)
  have TW:=b6 (T2.out.drew)
  have HW:=b6 (H2.out.new ((tZ w4).drew))
  go_upto_region 4 with fail
  clear RA P2 Q2 T2 H2 X2
  refine wp_region_held (S:=fun w'=>w'.cell? ⟨b,5,none⟩=some (.int .i64 (k:Nat))) mixed ?_
  change wpAnyH _ _ _ _ _ _ _ _ w4.drew
  generalize w4.drew=w5 at*
  refine j3 (i:=0) (v:=.pointer (some ⟨b,0,none⟩)) (some 13) rfl (by kernel_rfl) (by kernel_rfl) (by kernel_rfl) (fun c a w h=>U8 _ 13 (by decide) (by decide) _ c a w h) (.inl ⟨by kernel_rfl,fun w' hS=>?_⟩) SW.out (by kernel_rfl) ?_
  ·go_simp
  refine j3 (i:=1) (v:=.pointer (some ⟨b,0,none⟩)) (some 14) rfl (by kernel_rfl) (by kernel_rfl) (by kernel_rfl) (fun c a w h=>U8 _ 14 (by decide) (by decide) _ c a w h) (.inl ⟨by kernel_rfl,fun w' hS=>?_⟩) SW.out (by kernel_rfl) ?_
  ·go_simp
  refine j3 (i:=2) (v:=.pointer (some ⟨b,0,none⟩)) (some 15) rfl (by kernel_rfl) (by kernel_rfl) (by kernel_rfl) (fun c a w h=>U8 _ 15 (by decide) (by decide) _ c a w h) (.inl ⟨by kernel_rfl,fun w' hS=>?_⟩) SW.out (by kernel_rfl) ?_
  ·go_simp
  refine j3 (i:=3) (v:=.pointer (some ⟨b,0,none⟩)) (some 16) rfl (by kernel_rfl) (by kernel_rfl) (by kernel_rfl) (fun c a w h=>U8 _ 16 (by decide) (by decide) _ c a w h) (.inl ⟨by kernel_rfl,fun w' hS=>?_⟩) SW.out (by kernel_rfl) ?_
  ·go_simp
  refine j3 (i:=4) (v:=.pointer (some ⟨b,0,none⟩)) (some 17) rfl (by kernel_rfl) (by kernel_rfl) (by kernel_rfl) (fun c a w h=>U8 _ 17 (by decide) (by decide) _ c a w h) (.inl ⟨by kernel_rfl,fun w' hS=>?_⟩) SW.out (by kernel_rfl) ?_
  ·go_simp
  refine j3 (i:=5) (v:=.pointer (some ⟨b,0,none⟩)) (some 18) rfl (by kernel_rfl) (by kernel_rfl) (by kernel_rfl) (fun c a w h=>U8 _ 18 (by decide) (by decide) _ c a w h) (.inl ⟨by kernel_rfl,fun w' hS=>?_⟩) SW.out (by kernel_rfl) ?_
  ·go_simp
  refine j3 (i:=6) (v:=.pointer (some ⟨b,5,none⟩)) (some 19) rfl (by kernel_rfl) (by kernel_rfl) (by kernel_rfl) (fun c a w h=>U8 _ 19 (by decide) (by decide) _ c a w h) (.inl ⟨by kernel_rfl,fun w' hS=>?_⟩) SW.out (by kernel_rfl) ?_
  ·go_simp
  refine j3 (i:=7) (v:=.int .i64 (k:Nat)) (some 20) rfl (by kernel_rfl) (by kernel_rfl) (by kernel_rfl) (fun c a w h=>U8 _ 20 (by decide) (by decide) _ c a w h) (.inl ⟨by kernel_rfl,fun w' hS=>?_⟩) SW.out (by kernel_rfl) ?_
  ·go_simp
  refine wpAnyH_ready (rs:=[8]) (by kernel_rfl) (by simp) ?_
  refine AllReadyH.callD (some 21) rfl (by kernel_rfl) 47 _ _ rfl #[.pointer (some ⟨b,0,none⟩),.int .i64 25,.int .i64 (k:Nat)] (by kernel_rfl) (fun _ _=>by kernel_rfl) (fun v w'=>v=.agg #[.int .i64 25,.int .i64 (g7 X.P k)]/\b7 (fun _=>False) w5 w') ((A1 b X k f2 (.slice an nn cn) ns2 0 25 k w5 HW.out HKP.out).mono (fun e w' h=>⟨_,h.1,rfl,h.2⟩)) (by kernel_rfl) ?_ AllReadyH.nil
  rintro v6 w6 ⟨rfl,t6⟩
  have S6:=b6 (show w6.cell? ⟨b,5,none⟩=some (.int .i64 (k:Nat))from(t6.cell (p:=⟨b,5,none⟩) HW.out.lt id).trans SW.out)
  have P6:=b6 ((t6.block p (lt_of_block PW.out) id).trans PW.out)
  have Q6:=b6 ((t6.block q (lt_of_block QW.out) id).trans QW.out)
  have T6:=b6 (TW.out.trans t6 nE)
  refine⟨S6.out,?_⟩
  clear t6 PW QW TW SW HW
  refine wpAnyH_ready (rs:=[9]) (by kernel_rfl) (by simp) ?_
  refine AllReadyH.runD (some 22) rfl (by kernel_rfl) (.iface 34 (.agg #[.int .i64 25,.int .i64 (g7 X.P k)])) w6 (by go_simp) S6.out (by kernel_rfl) ?_ AllReadyH.nil
  refine wpAnyH_ready (rs:=[10]) (by kernel_rfl) (by simp) ?_
  refine AllReadyH.throw rfl (by kernel_rfl) (.iface 34 (.agg #[.int .i64 25,.int .i64 (g7 X.P k)])) w6 (by go_simp) ?_ AllReadyH.nil
  obtain⟨z,hz⟩:∃z,z=g7 X.P k:=⟨_,rfl⟩
  rw[<-hz]
  simp only[Act.put,List.setIfInBounds_toArray,List.set_cons_succ,List.set_cons_zero]
  refine leaves_cons (f:=44) (args:=#[.pointer (some ⟨p,0,none⟩),.pointer (some ⟨q,0,none⟩)]) (by simp) (by simp[go_sem]) ?_
  refine(CG p q 25 z [] w6 _ _ P6.out Q6.out rfl rfl (by have:=HL.out;omega)).mono ?_
  rintro e u' w9 ⟨rfl,rfl,P9,Q9,t9⟩
  rw[<-HA.out]
  exact⟨_,I4 rfl _ _ p q 31 34 _ _ (0,0) (0,0) _ _ rfl P9 Tryz.underlying31 rfl X0 rfl Q9 Tryz.underlying34 rfl S4,by rw[hz],T6.out.trans t9 (fun i hi e=>by have:=HL.out;omega)⟩
theorem JK (b:Nat)(X:Px)(f:Fl)(vn:Value)(ns:List ByteArray)(w:World)(h:PS w b X 0 f vn ns 0)(hX:X.Good)(hn:ns=[⟨#[]⟩]):
 Calls Tryz.prog 27 #[.pointer (some ⟨b,0,none⟩)] w fun e w'=>Nx b X vn w (S9 X.R b8 f) e w':=by
 subst hn
 have K:=fun w' (hp:PS w' b X 0 f vn [⟨#[]⟩] 0)=>PL b X hX 32 0 rfl w' 0 f vn [⟨#[]⟩] hp (Nat.zero_le _) (by simp)
 unfold S9
 cases hR:B7 X.R b8 32 ⟨0,f,[⟨#[]⟩]⟩with
 |error e0=>
  obtain⟨c,j⟩:=e0
  rw[hR]at K
  exact Uc b X f vn _ c j w h K
 |ok p=>
  obtain⟨x,st⟩:=p
  rw[hR]at K
  exact Vu b X f vn _ x st w h hX (B8 X.R b8 32 _ _ _ (Nat.zero_le _) hR).2 K
end Go.Proofs.YtdhhcefmmojcmaaGreatDoor
