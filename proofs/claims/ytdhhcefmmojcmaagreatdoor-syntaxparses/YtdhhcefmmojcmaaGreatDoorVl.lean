/- Texts of this proof, one behind the other. -/
import Derived.Test.YtdhhcefmmojcmaaGreatDoorM44
import Derived.Test.YtdhhcefmmojcmaaGreatDoorM30
import Derived.Test.YtdhhcefmmojcmaaGreatDoorM45
set_option maxRecDepth 100000
set_option maxHeartbeats 0
set_option linter.unusedVariables false
namespace Go.Proofs.YtdhhcefmmojcmaaGreatDoor
open Go.RowKit Go.Lib
theorem Ev:(Tryz.prog.info? 41).map (·.size)=some 5:=by kernel_rfl
def TZ (v1:Value)(r:Int)(v2:Value)(c j:Int):Array Value:=#[v1,.int .i64 r,v2,.int .i64 c,.int .i64 j]
theorem Nh (a1:Option Addr)(n1 c1:Nat)(r:Int)(a2:Option Addr)(n2 c2:Nat)(c j:Int):(#[.slice a1 n1 c1,.int .i64 r,.slice a2 n2 c2,.int .i64 c,.int .i64 j]:Array Value).all (·.oneCell')=true:=by simp[Value.oneCell']
def EF (w:World):Except (Int×Int) (Nd×List ByteArray)->Ending->World->Prop
 | .error (c,j),e,w'=>e=.returned (.agg (TZ (.slice none 0 0) 0 (.slice none 0 0) c j))/\b7 (fun _=>False) w w'
 | .ok (x,ns),e,w'=>∃(aN:Option Addr) (nN cN p:Nat) (an:Option Addr) (cn:Nat) (ds:List Dc),e=.returned (.agg (TZ (.slice aN nN cN) (p:Nat) (.slice an ns.length cn) 0 0))/\NL w' (.slice aN nN cN) ds/\SL w' (.slice an ns.length cn) ns/\DW w' (fun g=>w.heap.size<=g/\g<w'.heap.size) ds p x/\(∀g,(Value.slice aN nN cN).ownBlock=some g->w.heap.size<=g)/\(∀g,(Value.slice an ns.length cn).ownBlock=some g->w.heap.size<=g)/\ds.length<=4194304/\b7 (fun _=>False) w w'
theorem Dq (w:World)(A B:Array Value)(t u:TypeId):
 ((w.alloc (.cells A t)).alloc (.cells B u)).heap[w.heap.size]? =some (.cells A t (0,0))/\((w.alloc (.cells A t)).alloc (.cells B u)).heap[w.heap.size+1]? =some (.cells B u (0,0))/\b7 (fun _=>False) w ((w.alloc (.cells A t)).alloc (.cells B u)):=by
 have e1:(w.alloc (.cells A t)).heap.size=w.heap.size+1:=by simp
 have T2:=(tZ (w.alloc (.cells A t))).alloc (.cells B u)
 refine⟨?_,?_,((tZ w).alloc _).alloc _⟩
 ·rw[T2.block _ (by omega) id]
  exact e8 w A t
 ·have:=e8 (w.alloc (.cells A t)) B u
  rw[e1]at this
  exact this
theorem Jd (s:ByteArray)(fi fm fs fu:Bool)(w:World)(h:1024<s.size):
 Calls Tryz.prog 13 #[.string s,.agg #[.bool fi,.bool fm,.bool fs,.bool fu]] w fun e w'=>EF w (.error (2,0)) e w':=by
 have hI:(1024:Int)<(s.size:Int):=by omega
 have B:=b6 (Dq w #[.bool fi,.bool fm,.bool fs,.bool fu] #[.slice none 0 0,.int .i64 0,.slice none 0 0,.int .i64 0,.int .i64 0] 45 41)
 go_enter Tryz.func13,Tryz.ntmps13
 go_upto_region 1 with fail
 generalize (w.alloc (.cells #[.bool fi,.bool fm,.bool fs,.bool fu] 45)).alloc (.cells #[.slice none 0 0,.int .i64 0,.slice none 0 0,.int .i64 0,.int .i64 0] 41)=w1 at*
 obtain⟨B0,B1,T⟩:=B.out
 obtain⟨r,hr⟩:∃r,r=w.heap.size+1:=⟨_,rfl⟩
 have HQ:=b6 (show w.heap.size<=r from by omega)
 rw[<-hr]at B1⊢
 clear hr B B0
 have TT:=b6 (T.trans (g8 w1 r #[.slice none 0 0,.int .i64 0,.slice none 0 0,.int .i64 2,.int .i64 0]) (fun i hi e=>by have:=HQ.out;omega))
 replace B1:=b6 B1
 clear T
 go_upto_region 2 with fail
 go_wp2_with (first|refine wpList_store_row rfl 41 _ _ rfl r _ rfl rfl 41 _ B1.out Ev (by rfl) (Nh _ _ _ _ _ _ _ _ _) ?_|fail)
 refine bodyPost_ret (o9 rfl _ _ r 41 _ (0,0) _ rfl (setRow_heap _ r _ _ 41 (0,0) B1.out) Tryz.underlying41 rfl (by kernel_rfl)) rfl ?_
 exact⟨rfl,TT.out⟩
theorem Lv (s:ByteArray)(fi fm fs fu:Bool)(w:World)(i:Nat)(h:s.size<=1024)(hd:(F8 s 1 true s.size (bg s 1).2 [] [] 0).1=some i):
 Calls Tryz.prog 13 #[.string s,.agg #[.bool fi,.bool fm,.bool fs,.bool fu]] w fun e w'=>EF w (.error (17,(i:Nat))) e w':=by
 have hI:(s.size:Int)<=(1024:Int):=by omega
 have hs2:s.size<=1099511627776:=by omega
 have HD:=b6 hd
 clear hd h
 have B:=b6 (Dq w #[.bool fi,.bool fm,.bool fs,.bool fu] #[.slice none 0 0,.int .i64 0,.slice none 0 0,.int .i64 0,.int .i64 0] 45 41)
 go_enter Tryz.func13,Tryz.ntmps13
 go_upto_region 1 with fail
 generalize (w.alloc (.cells #[.bool fi,.bool fm,.bool fs,.bool fu] 45)).alloc (.cells #[.slice none 0 0,.int .i64 0,.slice none 0 0,.int .i64 0,.int .i64 0] 41)=w1 at*
 obtain⟨B0,B1,T⟩:=B.out
 obtain⟨r,hr⟩:∃r,r=w.heap.size+1:=⟨_,rfl⟩
 have HQ:=b6 (show w.heap.size<=r from by omega)
 rw[<-hr]at B1⊢
 clear hr B B0
 have KD:=b6 (DX s 1 true w1 hs2 (by decide))
 rw[Hc]at KD
 have TT:=b6 T
 replace B1:=b6 B1
 clear T
 go_wp2_with fail
 refine KD.out.mono ?_
 rintro e w2 hR
 obtain⟨rfl,t2⟩:e=.returned (.tuple #[.agg Si,.int .i64 17,.int .i64 i])/\b7 (fun _=>False) w1 w2:=by
  rcases hR with⟨j,hj,hb⟩|⟨hj,_⟩
  ·rw[HD.out]at hj
   cases hj
   exact⟨hb.ret,hb.touch⟩
  ·rw[HD.out]at hj
   cases hj
 clear hR KD
 unfold Si
 replace B1:=b6 ((t2.block _ (lt_of_block B1.out) id).trans B1.out)
 have T2:=b6 (TT.out.trans t2 iE)
 clear t2 TT
 go_upto_region 4 with fail
 have TA:=(tZ w2).alloc (.cells #[.int .i64 0,.int .i64 0,.slice none 0 0,.slice none 0 0] 77)
 generalize w2.alloc (.cells #[.int .i64 0,.int .i64 0,.slice none 0 0,.slice none 0 0] 77)=w3 at*
 replace B1:=b6 ((TA.block r (lt_of_block B1.out) id).trans B1.out)
 have T3:=b6 ((T2.out.trans TA iE).trans (g8 w3 r #[.slice none 0 0,.int .i64 0,.slice none 0 0,.int .i64 17,.int .i64 (i:Nat)]) (fun i hi e=>by have:=HQ.out;omega))
 clear TA T2
 go_upto_region 5 with fail
 go_wp2_with (first|refine wpList_store_row rfl 41 _ _ rfl r _ rfl rfl 41 _ B1.out Ev (by rfl) (Nh _ _ _ _ _ _ _ _ _) ?_|fail)
 refine bodyPost_ret (o9 rfl _ _ r 41 _ (0,0) _ rfl (setRow_heap _ r _ _ 41 (0,0) B1.out) Tryz.underlying41 rfl (by kernel_rfl)) rfl ?_
 exact⟨rfl,T3.out⟩
theorem Rq {w:World}{a:Option Addr}{n c m:Nat}{l:List Value}(h:w.ownsRow 0 3 1 (.slice a n c) m l){g o:Nat}(e:a=some ⟨g,o,none⟩):(Value.slice a n c).ownBlock=some g:=by
 rcases h.2 with⟨hv,_⟩|⟨g2,_,_,hv,_⟩
 ·rw[e]at hv
  cases hv
 ·rw[e]at hv⊢
  cases hv
  rfl
theorem PZ (w3:World)(s:ByteArray)(f:Fl)(R P:List Int)(a1 a2:Option Addr)(n1 c1 n2 c2:Nat)(h1:w3.ownsRow 0 3 1 (.slice a1 n1 c1) R.length (J3 R))(h2:w3.ownsRow 0 3 1 (.slice a2 n2 c2) P.length (J3 P))(e1:n1=R.length)(e2:n2=P.length)(cs:Array Value)
 (hcs:cs=Px.dcells ⟨R,P,s,0,0,a1,c1,a2,c2⟩ 0 f 0 (.slice none 0 0) (.slice (some ⟨w3.heap.size+1,0,none⟩) 1 1) 0 0):
 QS ((w3.alloc (.cells cs 82)).alloc (.cells #[.string ⟨#[]⟩] 9)) w3.heap.size ⟨R,P,s,0,0,a1,c1,a2,c2⟩ 0 f 0 (.slice none 0 0) (.slice (some ⟨w3.heap.size+1,0,none⟩) 1 1) 0 0 [] [⟨#[]⟩]/\
 b7 (fun _=>False) w3 ((w3.alloc (.cells cs 82)).alloc (.cells #[.string ⟨#[]⟩] 9)):=by
 obtain⟨C0,C1,TT⟩:=Dq w3 cs #[.string ⟨#[]⟩] 82 9
 rw[hcs]at C0
 rw[hcs]at C1 TT⊢
 refine⟨⟨⟨C0,?_,?_,fun g o e=>?_,fun g o e=>?_⟩,World.ownsRow_nil _ _ _ _,?_,fun g e=>(by cases e),fun g e=>?_⟩,TT⟩
 ·exact Hl (c:=c1) (by rw[e1]at h1;exact g9 h1 TT iE)
 ·exact Hl (c:=c2) (by rw[e2]at h2;exact g9 h2 TT iE)
 ·exact CV h1 g (Rq h1 e)
 ·exact CV h2 g (Rq h2 e)
 ·exact⟨rfl,.inr ⟨w3.heap.size+1,1,#[.string ⟨#[]⟩],rfl,Nat.zero_le _,C1,Nat.le_refl _,by unfold maxLen;omega,rfl,rfl⟩⟩
 ·cases e
  show w3.heap.size<w3.heap.size+1
  omega
theorem Wy (R P:List Int)(n:Nat)(f:Fl):LU R P n f=(match Ee R b8 f with
 | .error (c,j)=>.error ((c:Nat),g7 (P++ [(n:Int)]) j)
 | .ok (x,st)=>.ok (x,st.ns)):=by
 unfold LU
 rw[Rs]
 cases Ee R b8 f with
 |error e=>rfl
 |ok p=>rfl
theorem Ub {R:List Int}{f:Fl}{x:Nd}{st:St}(h:Ee R b8 f=.ok (x,st)):st.k<=R.length:=by
 unfold Ee at h
 exact(B8 R b8 32 ⟨0,f,[⟨#[]⟩]⟩ x st (by show 0<=_;omega) (MB h)).2
theorem Uz {w:World}{g:Nat}{cs:Array Value}{t:TypeId}{fr:Nat×Nat}(h:w.heap[g]? =some (.cells cs t fr))(ht:t≠87/\t≠3):ND w g:=fun cs2 t2 fr2 e=>by
 rw[h]at e
 cases e
 exact ht
theorem Ua {R:List Int}{f:Fl}{c j:Nat}(h:Ee R b8 f=.error (c,j)):20<=c:=by
 unfold Ee at h
 exact MA h (fun c j e=>(Cy b8 32 ⟨0,f,[⟨#[]⟩]⟩ (by show 0<=_;omega) c j e).1)
theorem Jc (s:ByteArray)(fi fm fs fu:Bool)(w:World)(R P:List Int)(bad:Nat)(h:s.size<=1024)(hd:F8 s 1 true s.size (bg s 1).2 [] [] 0=(none,R,P,bad)):
 Calls Tryz.prog 13 #[.string s,.agg #[.bool fi,.bool fm,.bool fs,.bool fu]] w fun e w'=>EF w (LU R P s.size ⟨fi,fm,fs,fu⟩) e w':=by
 have hI:(s.size:Int)<=(1024:Int):=by omega
 have hs2:s.size<=1099511627776:=by omega
 have HD:=b6 hd
 have HGO:=b6 (fun(cd bd:Int) (ar ap:Option Addr) (cr cp:Nat)=>show Px.Good ⟨R,P++ [(s.size:Int)],s,cd,bd,ar,cr,ap,cp⟩from by
  have hb:=(Gg s 1 (by decide)).2.2
  obtain⟨R2,P2,e1,e2,e3⟩:=Gn s s.size (bg s 1).2 [] [] 0 hb (by omega) (by rw[hd])
  rw[hd,List.nil_append]at e1 e2
  simp only at e1 e2
  subst e1
  subst e2
  exact Db h hb e3 cd bd ar ap cr cp)
 obtain⟨A,hA⟩:∃A,A=LU R P s.size ⟨fi,fm,fs,fu⟩:=⟨_,rfl⟩
 have HA2:=b6 ((Wy R P s.size ⟨fi,fm,fs,fu⟩).symm.trans hA.symm)
 have HFW:=b6 (fun x st (e:Ee R b8 ⟨fi,fm,fs,fu⟩=.ok (x,st))=>Ub e)
 have HER:=b6 (fun c j (e:Ee R b8 ⟨fi,fm,fs,fu⟩=.error (c,j))=>Ua e)
 rw[<-hA]
 clear hd h hA
 have B:=b6 (Dq w #[.bool fi,.bool fm,.bool fs,.bool fu] #[.slice none 0 0,.int .i64 0,.slice none 0 0,.int .i64 0,.int .i64 0] 45 41)
 go_enter Tryz.func13,Tryz.ntmps13
 go_upto_region 1 with fail
 generalize (w.alloc (.cells #[.bool fi,.bool fm,.bool fs,.bool fu] 45)).alloc (.cells #[.slice none 0 0,.int .i64 0,.slice none 0 0,.int .i64 0,.int .i64 0] 41)=w1 at*
 obtain⟨B0,B1,T⟩:=B.out
 obtain⟨q,hq⟩:∃q,q=w.heap.size:=⟨_,rfl⟩
 obtain⟨r,hr⟩:∃r,r=w.heap.size+1:=⟨_,rfl⟩
 have HQ:=b6 (show w.heap.size<=q/\q<r from by omega)
 rw[<-hr]at B1⊢
 rw[<-hq]at B0⊢
 clear hr hq B
 have KD:=b6 (DX s 1 true w1 hs2 (by decide))
 rw[Hc]at KD
 have TT:=b6 T
 replace B0:=b6 B0
 replace B1:=b6 B1
 clear T
 go_wp2_with fail
 refine KD.out.mono ?_
 rintro e w2 hR
 obtain⟨v1,v2,rfl,ow1,ow2⟩:∃v1 v2,e=.returned (.tuple #[.agg #[.int .i64 1,.int .i64 bad,v1,v2],.int .i64 0,.int .i64 0])/\M1 w1 w2 v1 R/\M1 w1 w2 v2 (P++ [(s.size:Int)]):=by
  rcases hR with⟨j,hj,hb⟩|⟨hj,hg⟩
  ·rw[HD.out]at hj
   cases hj
  ·rw[HD.out]at hg
   obtain⟨v1,v2,h1,h2,h3⟩:=hg.ex
   exact⟨v1,v2,h1,h2,h3⟩
 clear hR KD
 obtain⟨a1,c1,hv1⟩:=e9 ow1.own
 obtain⟨a2,c2,hv2⟩:=e9 ow2.own
 subst hv1
 subst hv2
 obtain⟨n1,hn1⟩:∃n,n=R.length:=⟨_,rfl⟩
 obtain⟨n2,hn2⟩:∃n,n=(P++ [(s.size:Int)]).length:=⟨_,rfl⟩
 rw[<-hn1]at ow1⊢
 rw[<-hn2]at ow2⊢
 have HN1:=b6 hn1
 have HN2:=b6 hn2
 clear hn1 hn2
 have t2:=ow1.touch
 have O1:=b6 ow1.own
 have O2:=b6 ow2.own
 replace B0:=b6 ((t2.block _ (lt_of_block B0.out) id).trans B0.out)
 replace B1:=b6 ((t2.block _ (lt_of_block B1.out) id).trans B1.out)
 have T2:=b6 (TT.out.trans t2 iE)
 clear t2 TT ow1 ow2
 go_upto_region 4 with fail
 have TA:=(tZ w2).alloc (.cells #[.int .i64 1,.int .i64 (bad:Nat),.slice a1 n1 c1,.slice a2 n2 c2] 77)
 have BX:=b6 (e8 w2 #[.int .i64 1,.int .i64 (bad:Nat),.slice a1 n1 c1,.slice a2 n2 c2] 77)
 generalize w2.alloc (.cells #[.int .i64 1,.int .i64 (bad:Nat),.slice a1 n1 c1,.slice a2 n2 c2] 77)=w3 at*
 generalize w2.heap.size=x at*
 have T3:=b6 (T2.out.trans TA iE)
 replace B0:=b6 ((TA.block q (lt_of_block B0.out) id).trans B0.out)
 replace B1:=b6 ((TA.block r (lt_of_block B1.out) id).trans B1.out)
 have O3:=b6 (g9 O1.out TA iE)
 have O4:=b6 (g9 O2.out TA iE)
 clear TA O1 O2 T2
 have x2:w3.cell? ⟨x,2,none⟩=some (.slice a1 n1 c1):=b9 BX.out 2 _ rfl
 have x3:w3.cell? ⟨x,3,none⟩=some (.slice a2 n2 c2):=b9 BX.out 3 _ rfl
 have q0:w3.cell? ⟨q,0,none⟩=some (.bool fi):=b9 B0.out 0 _ rfl
 have q1:w3.cell? ⟨q,1,none⟩=some (.bool fm):=b9 B0.out 1 _ rfl
 have q2:w3.cell? ⟨q,2,none⟩=some (.bool fs):=b9 B0.out 2 _ rfl
 have q3:w3.cell? ⟨q,3,none⟩=some (.bool fu):=b9 B0.out 3 _ rfl
 go_upto_region 7 with fail
 obtain⟨B0c,B1c,TC⟩:=Dq w3 #[.slice a1 n1 c1,.slice a2 n2 c2,.int .i64 0,.bool fi,.bool fm,.bool fs,.bool fu,.int .i64 0,.slice none 0 0,.int .i64 0,.slice none 0 0,.int .i64 0,.int .i64 0] #[.string ⟨#[]⟩] 82 9
 have c10:((w3.alloc (.cells #[.slice a1 n1 c1,.slice a2 n2 c2,.int .i64 0,.bool fi,.bool fm,.bool fs,.bool fu,.int .i64 0,.slice none 0 0,.int .i64 0,.slice none 0 0,.int .i64 0,.int .i64 0] 82)).alloc (.cells #[.string ⟨#[]⟩] 9)).cell? ⟨w3.heap.size,10,none⟩=some (.slice none 0 0):=b9 B0c 10 _ rfl
 have f10:=V5 B0c 10
 clear B0c B1c TC
 have HB:=b6 (PZ w3 s ⟨fi,fm,fs,fu⟩ R (P++ [(s.size:Int)]) a1 a2 n1 c1 n2 c2 O3.out O4.out HN1.out HN2.out #[.slice a1 n1 c1,.slice a2 n2 c2,.int .i64 0,.bool fi,.bool fm,.bool fs,.bool fu,.int .i64 0,.slice none 0 0,.int .i64 0,.slice (some ⟨w3.heap.size+1,0,none⟩) 1 1,.int .i64 0,.int .i64 0] (by rw[HN1.out,HN2.out];rfl))
 have HRB:=b6 (show r<w3.heap.size/\w.heap.size<=w3.heap.size from⟨lt_of_block B1.out,T3.out.size⟩)
 go_upto_region 8 with fail
 clear c10 f10 x2 x3 q0 q1 q2 q3 BX B0 O3 O4 HD
 generalize ((w3.alloc (.cells #[.slice a1 n1 c1,.slice a2 n2 c2,.int .i64 0,.bool fi,.bool fm,.bool fs,.bool fu,.int .i64 0,.slice none 0 0,.int .i64 0,.slice (some ⟨w3.heap.size+1,0,none⟩) 1 1,.int .i64 0,.int .i64 0] 82)).alloc (.cells #[.string ⟨#[]⟩] 9))=w5 at*
 obtain⟨b,hb⟩:∃b,b=w3.heap.size:=⟨_,rfl⟩
 rw[<-hb]at HB HRB⊢
 clear hb
 have HQ5:=b6 HB.out.1
 have T5:=b6 (T3.out.trans HB.out.2 iE)
 replace B1:=b6 ((HB.out.2.block r (lt_of_block B1.out) id).trans B1.out)
 have HB5:=b6 HB.out.1.s.lt
 clear HB
 have KS:=b6 (IS b _ (HGO.out 0 0 a1 a2 c1 c2) 32 0 rfl w5 0 ⟨fi,fm,fs,fu⟩ _ _ [] [⟨#[]⟩] HQ5.out (Nat.zero_le _) (Nat.zero_le _) (Nat.le_refl _))
 change Hid (Calls Tryz.prog 29 _ w5 fun e w'=>DP b ⟨R,P++ [(s.size:Int)],s,0,0,a1,c1,a2,c2⟩ 0 (.slice none 0 0) (.slice (some ⟨b+1,0,none⟩) 1 1) 0 (fun _=>False) 1 0 w5 [] (Ee R b8 ⟨fi,fm,fs,fu⟩) e w')at KS
 have HZT:=b6 (show ∀g,ZT b (.slice none 0 0) (.slice (some ⟨b+1,0,none⟩) 1 1) g->b<=g from fun g e=>by
  rcases e with e|e|e
  ·omega
  ·cases e
  ·cases e
   show b<=b+1
   omega)
 have HLR:=b6 (HGO.out 0 0 a1 a2 c1 c2).lenR
 clear HGO HN1 HN2
 generalize Ee R b8 ⟨fi,fm,fs,fu⟩=M at*
 match M with
 | .error (c,j)=>
   unfold DP at KS
   simp only at KS HA2
   have HC20:=b6 (HER.out c j rfl)
   clear HER HFW
   go_wp2_with fail
   refine KS.out.mono ?_
   rintro e w6 ⟨rr,f',vN',vn',ds',ns',rfl,hq6,hg6,_⟩
   obtain⟨y,hy⟩:∃y,y=g7 (P++ [(s.size:Int)]) j:=⟨_,rfl⟩
   rw[<-hy]at HA2
   have H6:=b6 (show w6.heap[b]? =some _ from hq6.s.cells)
   have c9:w6.cell? ⟨b,9,none⟩=some (.int .i64 0):=b9 H6.out 9 _ rfl
   have f9:=V5 H6.out 9
   have T6:=b6 (T5.out.trans hg6.t (fun i hi e=>by have:=HZT.out i e;have:=HRB.out;omega))
   replace B1:=b6 ((hg6.t.block r (lt_of_block B1.out) (fun e=>by have:=HZT.out r e;have:=HRB.out;omega)).trans B1.out)
   have H7:=b6 (i8 H6.out 9 (.int .i64 rr))
   have TS:=d9 w6 b 9 (.int .i64 rr)
   have T7:=b6 (T6.out.trans TS (fun i hi e=>by have:=HRB.out;omega))
   replace B1:=b6 ((TS.block r (lt_of_block B1.out) (fun e=>by have:=HRB.out;omega)).trans B1.out)
   clear TS hq6 hg6 KS H6 T6
   go_upto_region 10 with fail
   clear c9 f9
   generalize w6.setCell ⟨b,9,none⟩ (.int .i64 rr)=w7 at*
   have c11:w7.cell? ⟨b,11,none⟩=some (.int .i64 (c:Nat)):=b9 H7.out 11 _ rfl
   have c12:w7.cell? ⟨b,12,none⟩=some (.int .i64 y):=b9 H7.out 12 _ (by rw[hy];rfl)
   have hcn:((c:Int) !=0)=true:=by simp;have:=HC20.out;omega
   clear hy H7
   go_upto_region 11 with fail
   have mixed:Tryz.prog.follows Departure.mixedOrders=true:=by kernel_rfl
   have SW:=b6 (show w7.drew.cell? ⟨b,11,none⟩=some (.int .i64 (c:Nat))/\w7.drew.cell? ⟨b,12,none⟩=some (.int .i64 y)from⟨c11,c12⟩)
   have BW:=b6 (show w7.drew.heap[r]? =some (.cells #[.slice none 0 0,.int .i64 0,.slice none 0 0,.int .i64 0,.int .i64 0] 41 (0,0))from B1.out)
   have TW:=b6 (T7.out.drew)
   clear c11 c12 B1 T7 hcn
   refine wp_region_held (S:=fun w'=>w'.cell? ⟨b,11,none⟩=some (.int .i64 (c:Nat))/\w'.cell? ⟨b,12,none⟩=some (.int .i64 y)) mixed ?_
   change wpAnyH _ _ _ _ _ _ _ _ w7.drew
   generalize w7.drew=w8 at*
   refine j3 (i:=0) (v:=.pointer (some ⟨b,0,none⟩)) (some 50) rfl (by kernel_rfl) (by kernel_rfl) (by kernel_rfl) (fun _ _ _ h=>h) (.inl ⟨by kernel_rfl,fun w' hS=>?_⟩) SW.out (by kernel_rfl) ?_
   ·obtain⟨h1,h2⟩:=hS
    go_simp
    try rfl
   refine j3 (i:=1) (v:=.pointer (some ⟨b,0,none⟩)) (some 51) rfl (by kernel_rfl) (by kernel_rfl) (by kernel_rfl) (fun _ _ _ h=>h) (.inl ⟨by kernel_rfl,fun w' hS=>?_⟩) SW.out (by kernel_rfl) ?_
   ·obtain⟨h1,h2⟩:=hS
    go_simp
    try rfl
   refine j3 (i:=2) (v:=.pointer (some ⟨b,8,none⟩)) (some 52) rfl (by kernel_rfl) (by kernel_rfl) (by kernel_rfl) (fun _ _ _ h=>h) (.inl ⟨by kernel_rfl,fun w' hS=>?_⟩) SW.out (by kernel_rfl) ?_
   ·obtain⟨h1,h2⟩:=hS
    go_simp
    try rfl
   refine j3 (i:=3) (v:=.pointer (some ⟨b,11,none⟩)) (some 53) rfl (by kernel_rfl) (by kernel_rfl) (by kernel_rfl) (fun _ _ _ h=>h) (.inl ⟨by kernel_rfl,fun w' hS=>?_⟩) SW.out (by kernel_rfl) ?_
   ·obtain⟨h1,h2⟩:=hS
    go_simp
    try rfl
   refine j3 (i:=4) (v:=.int .i64 (c:Nat)) (some 54) rfl (by kernel_rfl) (by kernel_rfl) (by kernel_rfl) (fun _ _ _ h=>h) (.inl ⟨by kernel_rfl,fun w' hS=>?_⟩) SW.out (by kernel_rfl) ?_
   ·obtain⟨h1,h2⟩:=hS
    go_simp
    try rfl
   refine j3 (i:=5) (v:=.pointer (some ⟨b,0,none⟩)) (some 55) rfl (by kernel_rfl) (by kernel_rfl) (by kernel_rfl) (fun _ _ _ h=>h) (.inl ⟨by kernel_rfl,fun w' hS=>?_⟩) SW.out (by kernel_rfl) ?_
   ·obtain⟨h1,h2⟩:=hS
    go_simp
    try rfl
   refine j3 (i:=6) (v:=.pointer (some ⟨b,0,none⟩)) (some 56) rfl (by kernel_rfl) (by kernel_rfl) (by kernel_rfl) (fun _ _ _ h=>h) (.inl ⟨by kernel_rfl,fun w' hS=>?_⟩) SW.out (by kernel_rfl) ?_
   ·obtain⟨h1,h2⟩:=hS
    go_simp
    try rfl
   refine j3 (i:=7) (v:=.pointer (some ⟨b,8,none⟩)) (some 57) rfl (by kernel_rfl) (by kernel_rfl) (by kernel_rfl) (fun _ _ _ h=>h) (.inl ⟨by kernel_rfl,fun w' hS=>?_⟩) SW.out (by kernel_rfl) ?_
   ·obtain⟨h1,h2⟩:=hS
    go_simp
    try rfl
   refine j3 (i:=8) (v:=.pointer (some ⟨b,12,none⟩)) (some 58) rfl (by kernel_rfl) (by kernel_rfl) (by kernel_rfl) (fun _ _ _ h=>h) (.inl ⟨by kernel_rfl,fun w' hS=>?_⟩) SW.out (by kernel_rfl) ?_
   ·obtain⟨h1,h2⟩:=hS
    go_simp
    try rfl
   refine j3 (i:=9) (v:=.int .i64 y) (some 59) rfl (by kernel_rfl) (by kernel_rfl) (by kernel_rfl) (fun _ _ _ h=>h) (.inl ⟨by kernel_rfl,fun w' hS=>?_⟩) SW.out (by kernel_rfl) ?_
   ·obtain⟨h1,h2⟩:=hS
    go_simp
    try rfl
   refine j3 (i:=10) (v:=.agg #[.slice none 0 0,.int .i64 0,.slice none 0 0,.int .i64 (c:Nat),.int .i64 y]) (some 60) rfl (by kernel_rfl) (by kernel_rfl) (by kernel_rfl) (fun _ _ _ h=>h) (.inl ⟨by kernel_rfl,fun w' hS=>?_⟩) SW.out (by kernel_rfl) ?_
   ·obtain⟨h1,h2⟩:=hS
    go_simp
    try rfl
   refine wpAnyH_ready (rs:=[11]) (by kernel_rfl) (by simp) ?_
   have TR:=g8 w8 r #[.slice none 0 0,.int .i64 0,.slice none 0 0,.int .i64 (c:Nat),.int .i64 y]
   have hbr:b<w8.heap.size/\b≠r:=⟨lt_of_cell SW.out.1,by have:=HRB.out;omega⟩
   refine AllReadyH.skip rfl (by kernel_rfl) (w8.setRow r #[.slice none 0 0,.int .i64 0,.slice none 0 0,.int .i64 (c:Nat),.int .i64 y]) (U9 _ _ _ 41 5 (.tmp 4) (.tmp 60) rfl r 41 #[.slice none 0 0,.int .i64 0,.slice none 0 0,.int .i64 (c:Nat),.int .i64 y] #[.slice none 0 0,.int .i64 0,.slice none 0 0,.int .i64 0,.int .i64 0] (by kernel_rfl) (by kernel_rfl) BW.out rfl rfl Ev (Nh _ _ _ _ _ _ _ _ _)) ⟨(TR.cell (p:=⟨b,11,none⟩) hbr.1 hbr.2).trans SW.out.1,(TR.cell (p:=⟨b,12,none⟩) hbr.1 hbr.2).trans SW.out.2⟩ (by kernel_rfl) ?_ AllReadyH.nil
   refine wpAnyH_done (by kernel_rfl) ?_ _
   have R9:=b6 (setRow_heap w8 r _ #[.slice none 0 0,.int .i64 0,.slice none 0 0,.int .i64 (c:Nat),.int .i64 y] 41 (0,0) BW.out)
   have T9:=b6 (TW.out.trans TR (fun i hi e=>by have:=HQ.out;omega))
   clear TR
   generalize w8.setRow r #[.slice none 0 0,.int .i64 0,.slice none 0 0,.int .i64 (c:Nat),.int .i64 y]=w9 at*
   simp only[Act.put,List.setIfInBounds_toArray,List.set_cons_succ,List.set_cons_zero]
   go_wp2
   refine bodyPost_ret (o9 rfl _ _ r 41 _ (0,0) _ rfl R9.out Tryz.underlying41 rfl (by kernel_rfl)) rfl ?_
   rw[<-HA2.out]
   exact⟨rfl,T9.out⟩
 | .ok (x,⟨k2,f2,ns⟩)=>
   unfold DP at KS
   simp only at KS HA2
   have HK2:=b6 (show k2<=R.length from HFW.out x _ rfl)
   clear HER HFW
   go_wp2_with fail
   refine KS.out.mono ?_
   rintro e w6 ⟨p,vN',vn',es,rfl,hq6,hg6,hd6,hb6⟩
   rw[List.nil_append]at hq6 hd6
   obtain⟨aN,cN,hvN⟩:=e9 hq6.nl
   obtain⟨an,cn,hvn⟩:=e9 hq6.sl
   subst hvN
   subst hvn
   obtain⟨nN,hnN⟩:∃n,n=es.length:=⟨_,rfl⟩
   obtain⟨nn,hnn⟩:∃n,n=ns.length:=⟨_,rfl⟩
   have HNN:=b6 hnn
   have HN6:=b6 hq6.nl
   have HS6:=b6 hq6.sl
   have HD6:=b6 hd6
   have HE6:=b6 (show es.length+2*0<=2*k2+1 from hb6)
   have HGN:=b6 hg6.gN
   have HGn:=b6 hg6.gn
   have HND:=b6 (fun g=>hq6.nd (g:=g))
   rw[<-hnN]at hq6 HN6 HGN HND
   rw[<-hnn]at hq6 HS6 HGn HND
   have H6:=b6 (show w6.heap[b]? =some _ from hq6.s.cells)
   have c9:w6.cell? ⟨b,9,none⟩=some (.int .i64 0):=b9 H6.out 9 _ rfl
   have f9:=V5 H6.out 9
   have T6:=b6 (T5.out.trans hg6.t (fun i hi e=>by have:=HZT.out i e;have:=HRB.out;omega))
   replace B1:=b6 ((hg6.t.block r (lt_of_block B1.out) (fun e=>by have:=HZT.out r e;have:=HRB.out;omega)).trans B1.out)
   have H7:=b6 (i8 H6.out 9 (.int .i64 (p:Int)))
   have TS:=d9 w6 b 9 (.int .i64 (p:Int))
   have T7:=b6 (T6.out.trans TS (fun i hi e=>by have:=HRB.out;omega))
   replace B1:=b6 ((TS.block r (lt_of_block B1.out) (fun e=>by have:=HRB.out;omega)).trans B1.out)
   have HSZ:=b6 (show w.heap.size<=w5.heap.size from T5.out.size)
   have HN7:=b6 (g9 HN6.out TS (fun g e s=>by
    obtain⟨cs,fr,hh⟩:=j5 HN6.out g e
    rw[s,H6.out]at hh
    cases hh))
   have HS7:=b6 (g9 HS6.out TS (fun g e s=>by
    obtain⟨cs,fr,hh⟩:=j5 HS6.out g e
    rw[s,H6.out]at hh
    cases hh))
   have HD7:=b6 ((HD6.out.kept TS (fun g _ s=>by rw[s];exact Uz H6.out (by decide))).wide (B':=fun g=>w.heap.size<=g/\g<w6.heap.size) (fun g e=>by have:=HSZ.out;rcases e with e|e;exact e.elim;exact⟨by omega,e.2⟩))
   have HS67:=b6 TS.size
   clear TS hq6 hg6 hd6 hb6 KS HN6 HS6 HD6 H6 T6 HND hnN hnn
   go_upto_region 10 with fail
   clear c9 f9
   generalize w6.setCell ⟨b,9,none⟩ (.int .i64 (p:Int))=w7 at*
   have c8:w7.cell? ⟨b,8,none⟩=some (.slice aN nN cN):=b9 H7.out 8 _ rfl
   have c9:w7.cell? ⟨b,9,none⟩=some (.int .i64 (p:Int)):=b9 H7.out 9 _ rfl
   have c10:w7.cell? ⟨b,10,none⟩=some (.slice an nn cn):=b9 H7.out 10 _ rfl
   have c11:w7.cell? ⟨b,11,none⟩=some (.int .i64 0):=b9 H7.out 11 _ rfl
   have c12:w7.cell? ⟨b,12,none⟩=some (.int .i64 0):=b9 H7.out 12 _ rfl
   have TR:=b6 (g8 w7 r #[.slice aN nN cN,.int .i64 (p:Int),.slice an nn cn,.int .i64 0,.int .i64 0])
   go_upto_region 12 with fail
   go_wp2_with (first|refine wpList_store_row rfl 41 _ _ rfl r _ rfl rfl 41 _ B1.out Ev (by rfl) (Nh _ _ _ _ _ _ _ _ _) ?_|fail)
   refine bodyPost_ret (o9 rfl _ _ r 41 _ (0,0) _ rfl (setRow_heap _ r _ _ 41 (0,0) B1.out) Tryz.underlying41 rfl (by kernel_rfl)) rfl ?_
   rw[<-HA2.out]
   refine⟨aN,nN,cN,p,an,cn,es,by rw[<-HNN.out];rfl,?_,?_,?_,fun g e=>?_,fun g e=>?_,?_,?_⟩
   ·exact g9 HN7.out TR.out (fun g e s=>by
     obtain⟨cs,fr,hh⟩:=j5 HN7.out g e
     rw[s,B1.out]at hh
     cases hh)
   ·rw[<-HNN.out]
    exact g9 HS7.out TR.out (fun g e s=>by
     obtain⟨cs,fr,hh⟩:=j5 HS7.out g e
     rw[s,B1.out]at hh
     cases hh)
   ·exact(HD7.out.kept TR.out (fun g _ s=>by rw[s];exact Uz B1.out (by decide))).wide (fun g e=>⟨e.1,Nat.lt_of_lt_of_le (Nat.lt_of_lt_of_le e.2 HS67.out) TR.out.size⟩)
   ·rcases HGN.out with e2|⟨g2,e2,h2⟩
    ·rw[e2]at e
     cases e
    ·rw[e2]at e
     cases e
     have:=HSZ.out
     omega
   ·rw[<-HNN.out]at e
    rcases HGn.out with e2|⟨g2,e2,h2⟩
    ·rw[e2]at e
     cases e
     have:=HRB.out
     show w.heap.size<=b+1
     omega
    ·rw[e2]at e
     cases e
     have:=HSZ.out
     omega
   ·have:=HE6.out
    have:=HK2.out
    have h4:R.length<=1024:=HLR.out
    omega
   ·exact T7.out.trans TR.out (fun i hi e=>by have:=HQ.out;omega)
theorem Bd (s:ByteArray)(f:Fl)(w:World):
 Calls Tryz.prog 13 #[.string s,.agg #[.bool f.i,.bool f.m,.bool f.s,.bool f.u]] w fun e w'=>EF w (I0 s f) e w':=by
 obtain⟨fi,fm,fs,fu⟩:=f
 unfold I0
 by_cases h:1024<s.size
 ·rw[if_pos h]
  exact Jd s fi fm fs fu w h
 ·rw[if_neg h]
  cases hd:F8 s 1 true s.size (bg s 1).2 [] [] 0 with
  |mk o rest=>
   obtain⟨R,P,bad⟩:=rest
   cases o with
   |some i=>exact Lv s fi fm fs fu w i (by omega) (by rw[hd])
   |none=>exact Jc s fi fm fs fu w R P bad (by omega) hd
end Go.Proofs.YtdhhcefmmojcmaaGreatDoor
