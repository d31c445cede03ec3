/- Texts of this proof, one behind the other. -/
import Derived.Test.YtdhhcefmmojcmaaGreatDoorM29
import Derived.Test.YtdhhcefmmojcmaaGreatDoorM10
import Derived.Test.YtdhhcefmmojcmaaGreatDoorM8
import Derived.Test.YtdhhcefmmojcmaaGreatDoorM9
set_option maxRecDepth 100000
set_option maxHeartbeats 0
set_option linter.unusedVariables false
namespace Go.Proofs.YtdhhcefmmojcmaaGreatDoor
open Go.RowKit Go.Lib
def Iw (w:World):Except (Int×Int) (Nd×List ByteArray)->Ending->World->Prop
 | .error (c,i),e,w'=>e=.returned (.tuple #[.agg I7,.agg #[.int .i64 c,.int .i64 i]])/\b7 (fun _=>False) w w'
 | .ok (x,ns),e,w'=>∃c a n m,e=.returned (.tuple #[.agg (j4.arr c++#[.slice a n m]),.agg #[.int .i64 0,.int .i64 0]])/\TN w' (fun g=>w.heap.size<=g/\g<w'.heap.size) c x/\SL w' (.slice a n m) ns/\(∀g,(Value.slice a n m).ownBlock=some g->w.heap.size<=g)/\b7 (fun _=>False) w w'
theorem Hb (w:World)(fl:Array Value):
 (((w.alloc (.cells fl 38)).alloc (.cells I7 31)).alloc (.cells #[.int .i64 0,.int .i64 0] 34)).heap[w.heap.size]? =some (.cells fl 38 (0,0))/\
 (((w.alloc (.cells fl 38)).alloc (.cells I7 31)).alloc (.cells #[.int .i64 0,.int .i64 0] 34)).heap[w.heap.size+1]? =some (.cells I7 31 (0,0))/\
 (((w.alloc (.cells fl 38)).alloc (.cells I7 31)).alloc (.cells #[.int .i64 0,.int .i64 0] 34)).heap[w.heap.size+1+1]? =some (.cells #[.int .i64 0,.int .i64 0] 34 (0,0))/\
 b7 (fun _=>False) w (((w.alloc (.cells fl 38)).alloc (.cells I7 31)).alloc (.cells #[.int .i64 0,.int .i64 0] 34)):=by
 have T1:=(tZ w).alloc (.cells fl 38)
 have T2:=(tZ (w.alloc (.cells fl 38))).alloc (.cells I7 31)
 have T3:=(tZ ((w.alloc (.cells fl 38)).alloc (.cells I7 31))).alloc (.cells #[.int .i64 0,.int .i64 0] 34)
 have e1:(w.alloc (.cells fl 38)).heap.size=w.heap.size+1:=by simp
 have e2:((w.alloc (.cells fl 38)).alloc (.cells I7 31)).heap.size=w.heap.size+2:=by simp
 refine⟨?_,?_,?_,(T1.trans T2 iE).trans T3 iE⟩
 ·rw[T3.block _ (by omega) id,T2.block _ (by omega) id]
  exact e8 w fl 38
 ·rw[T3.block _ (by omega) id]
  have:=e8 (w.alloc (.cells fl 38)) I7 31
  rw[e1]at this
  exact this
 ·have:=e8 ((w.alloc (.cells fl 38)).alloc (.cells I7 31)) #[.int .i64 0,.int .i64 0] 34
  rw[e2]at this
  exact this
theorem FH {w:World}{p q:Nat}{a b:Array Value}(hp:w.heap[p]? =some (.cells a 31 (0,0)))(hq:w.heap[q]? =some (.cells b 34 (0,0)))(hne:p≠q)(a' b':Array Value):
 (w.setRow p a').heap[q]? =some (.cells b 34 (0,0))/\((w.setRow p a').setRow q b').heap[p]? =some (.cells a' 31 (0,0))/\((w.setRow p a').setRow q b').heap[q]? =some (.cells b' 34 (0,0))/\b7 (fun g=>g=p∨g=q) w ((w.setRow p a').setRow q b'):=by
 have t1:=g8 w p a'
 have t2:=g8 (w.setRow p a') q b'
 have h1:=(t1.block q (lt_of_block hq) (fun e=>hne e.symm)).trans hq
 have h2:=setRow_heap w p _ a' 31 (0,0) hp
 exact⟨h1,(t2.block p (lt_of_block h2) hne).trans h2,setRow_heap (w.setRow p a') q _ b' 34 (0,0) h1,b7.trans (S:=fun g=>g=p∨g=q) (t1.mono (fun _ _ e=>.inl e)) t2 (fun _ _ e=>.inr e)⟩
theorem Hc (s:ByteArray):(bg s 1).1=1:=by
 unfold bg
 rw[if_neg (by decide)]
 split
 ·rfl
 ·rfl
theorem LR (s:ByteArray)(f:Fl)(w:World)(h:1024<s.size):
 Calls Tryz.prog 12 #[.string s,.agg #[.bool f.i,.bool f.m,.bool f.s,.bool f.u]] w fun e w'=>Iw w (.error (2,0)) e w':=by
 have hI:(1024:Int)<(s.size:Int):=by omega
 have B:=b6 (Hb w #[.bool f.i,.bool f.m,.bool f.s,.bool f.u])
 go_enter Tryz.func12,Tryz.ntmps12
 go_upto_region 1 with fail
 unfold I7 at B
 generalize (((w.alloc (.cells #[.bool f.i,.bool f.m,.bool f.s,.bool f.u] 38)).alloc (.cells #[.int .i64 0,.slice none 0 0,.bool false,.int .i64 0,.int .i64 0,.bool false,.int .i64 0,.string ⟨#[]⟩,.slice none 0 0,.slice none 0 0] 31)).alloc (.cells #[.int .i64 0,.int .i64 0] 34))=w1 at*
 obtain⟨B0,B1,B2,T⟩:=B.out
 clear B
 obtain⟨q,hq⟩:∃q,q=w.heap.size:=⟨_,rfl⟩
 obtain⟨p,hp⟩:∃p,p=w.heap.size+1:=⟨_,rfl⟩
 obtain⟨r,hr⟩:∃r,r=w.heap.size+1+1:=⟨_,rfl⟩
 have HQ:=b6 (show w.heap.size<=q/\q<p/\p<r from by omega)
 rw[<-hr]at B2⊢
 rw[<-hp]at B1⊢
 rw[<-hq]at B0⊢
 clear hq hp hr
 obtain⟨R1,R2,R3,R4⟩:=FH B1 B2 (by have:=HQ.out;omega) #[.int .i64 0,.slice none 0 0,.bool false,.int .i64 0,.int .i64 0,.bool false,.int .i64 0,.string ⟨#[]⟩,.slice none 0 0,.slice none 0 0] #[.int .i64 2,.int .i64 0]
 have TT:=b6 (T.trans R4 (fun i hi e=>by have:=HQ.out;omega))
 replace B1:=b6 B1
 replace R1:=b6 R1
 replace R2:=b6 R2
 replace R3:=b6 R3
 clear B0 B2 T R4
 go_upto_region 2 with fail
 go_wp2_with (first|refine wpList_store_row rfl 31 _ _ rfl p _ rfl rfl 31 _ B1.out X0 (by rfl) Dl ?_|refine wpList_store_row rfl 34 _ _ rfl r _ rfl rfl 34 _ R1.out S4 (by rfl) (Ag _ _) ?_|fail)
 exact bodyPost_ret (I4 rfl _ _ p r 31 34 _ _ (0,0) (0,0) _ _ rfl R2.out Tryz.underlying31 rfl X0 rfl R3.out Tryz.underlying34 rfl S4) rfl ⟨rfl,TT.out⟩
theorem ON (s:ByteArray)(f:Fl)(w:World)(i:Nat)(ht:J1 w)(h:s.size<=1024)(hd:(F8 s 1 true s.size (bg s 1).2 [] [] 0).1=some i):
 Calls Tryz.prog 12 #[.string s,.agg #[.bool f.i,.bool f.m,.bool f.s,.bool f.u]] w fun e w'=>Iw w (.error (17,(i:Nat))) e w':=by
 have hI:(s.size:Int)<=(1024:Int):=by omega
 have hs2:s.size<=1099511627776:=by omega
 have HT:=b6 ht
 have HD:=b6 hd
 clear ht hd h
 have B:=b6 (Hb w #[.bool f.i,.bool f.m,.bool f.s,.bool f.u])
 go_enter Tryz.func12,Tryz.ntmps12
 go_upto_region 1 with fail
 unfold I7 at B
 generalize (((w.alloc (.cells #[.bool f.i,.bool f.m,.bool f.s,.bool f.u] 38)).alloc (.cells #[.int .i64 0,.slice none 0 0,.bool false,.int .i64 0,.int .i64 0,.bool false,.int .i64 0,.string ⟨#[]⟩,.slice none 0 0,.slice none 0 0] 31)).alloc (.cells #[.int .i64 0,.int .i64 0] 34))=w1 at*
 obtain⟨B0,B1,B2,T⟩:=B.out
 clear B
 obtain⟨q,hq⟩:∃q,q=w.heap.size:=⟨_,rfl⟩
 obtain⟨p,hp⟩:∃p,p=w.heap.size+1:=⟨_,rfl⟩
 obtain⟨r,hr⟩:∃r,r=w.heap.size+1+1:=⟨_,rfl⟩
 have HQ:=b6 (show w.heap.size<=q/\q<p/\p<r from by omega)
 rw[<-hr]at B2⊢
 rw[<-hp]at B1⊢
 rw[<-hq]at B0⊢
 clear hq hp hr
 have KD:=b6 (EL s 1 true w1 (HT.out.new T) hs2 (by decide))
 rw[Hc]at KD
 have BB:=b6 (And.intro B1 B2)
 have TT:=b6 T
 clear B0 B1 B2 T
 go_wp2_with fail
 refine KD.out.mono ?_
 rintro e w2 hR
 obtain⟨rfl,t2⟩:e=.returned (.tuple #[.agg Sj,.agg #[.int .i64 17,.int .i64 i]])/\b7 (fun _=>False) w1 w2:=by
  rcases hR with⟨j,hj,hb⟩|⟨hj,_⟩
  ·rw[HD.out]at hj
   cases hj
   exact⟨hb.ret,hb.touch⟩
  ·rw[HD.out]at hj
   cases hj
 clear hR KD
 unfold Sj
 have B1:=b6 ((t2.block _ (lt_of_block BB.out.1) id).trans BB.out.1)
 have B2:=b6 ((t2.block _ (lt_of_block BB.out.2) id).trans BB.out.2)
 have T2:=b6 (TT.out.trans t2 iE)
 clear t2 TT BB
 go_upto_region 5 with fail
 have TA:=b6 (((tZ w2).alloc (.cells #[.int .i64 0,.slice none 0 0,.slice none 0 0,.int .i64 0] 67)).alloc (.cells #[.int .i64 17,.int .i64 (i:Nat)] 34))
 have BA:=b6 (e8 (w2.alloc (.cells #[.int .i64 0,.slice none 0 0,.slice none 0 0,.int .i64 0] 67)) #[.int .i64 17,.int .i64 (i:Nat)] 34)
 rw[show(w2.alloc (.cells #[.int .i64 0,.slice none 0 0,.slice none 0 0,.int .i64 0] 67)).heap.size=w2.heap.size+1 by simp]at BA
 have HL:=b6 (show p<w2.heap.size/\r<w2.heap.size from⟨lt_of_block B1.out,lt_of_block B2.out⟩)
 generalize (w2.alloc (.cells #[.int .i64 0,.slice none 0 0,.slice none 0 0,.int .i64 0] 67)).alloc (.cells #[.int .i64 17,.int .i64 (i:Nat)] 34)=w3 at*
 obtain⟨x,hx⟩:∃x,x=w2.heap.size+1:=⟨_,rfl⟩
 have HN:=b6 (show p≠x/\r≠x from by have:=HL.out;omega)
 rw[<-hx]at BA⊢
 clear hx HL
 replace B1:=b6 ((TA.out.block p (lt_of_block B1.out) id).trans B1.out)
 replace B2:=b6 ((TA.out.block r (lt_of_block B2.out) id).trans B2.out)
 replace T2:=b6 (T2.out.trans TA.out iE)
 clear TA
 have mixed:Tryz.prog.follows Departure.mixedOrders=true:=by kernel_rfl
 have SW:=b6 (show w3.drew.heap[x]? =some (.cells #[.int .i64 17,.int .i64 (i:Nat)] 34 (0,0))from BA.out)
 have PW:=b6 (show w3.drew.heap[p]? =some (.cells #[.int .i64 0,.slice none 0 0,.bool false,.int .i64 0,.int .i64 0,.bool false,.int .i64 0,.string ⟨#[]⟩,.slice none 0 0,.slice none 0 0] 31 (0,0))from B1.out)
 have QW:=b6 (show w3.drew.heap[r]? =some (.cells #[.int .i64 0,.int .i64 0] 34 (0,0))from B2.out)
 have TW:=b6 (T2.out.drew)
 clear BA B1 B2 T2
 refine wp_region_held (S:=fun w'=>w'.heap[x]? =some (.cells #[.int .i64 17,.int .i64 (i:Nat)] 34 (0,0))) mixed ?_
 change wpAnyH _ _ _ _ _ _ _ _ w3.drew
 generalize w3.drew=w4 at*
 refine j3 (i:=0) (v:=.agg I7) (some 22) rfl (by kernel_rfl) (by kernel_rfl) (by kernel_rfl) (fun _ _ _ h=>h) (.inl ⟨by kernel_rfl,fun w' hS=>?_⟩) SW.out (by kernel_rfl) ?_
 ·clear hS
  go_simp
  rfl
 refine j3 (i:=1) (v:=.agg #[.int .i64 17,.int .i64 (i:Nat)]) (some 23) rfl (by kernel_rfl) (by kernel_rfl) (by kernel_rfl) (fun _ _ _ h=>h) (.inl ⟨by kernel_rfl,fun w' hS=>?_⟩) SW.out (by kernel_rfl) ?_
 ·exact DA _ _ _ 34 (.tmp 7) rfl x _ (by kernel_rfl) (run_loadVar_row (P:=Tryz.prog) w' x 34 34 _ (0,0) _ hS Tryz.underlying34 rfl S4)
 refine wpAnyH_ready (rs:=[2]) (by kernel_rfl) (by simp) ?_
 have TP:=g8 w4 p I7
 have hpr:p≠r:=by have:=HQ.out;omega
 refine AllReadyH.skip rfl (by kernel_rfl) (w4.setRow p I7) (U9 _ _ _ 31 10 (.tmp 4) (.tmp 22) rfl p 31 I7 #[.int .i64 0,.slice none 0 0,.bool false,.int .i64 0,.int .i64 0,.bool false,.int .i64 0,.string ⟨#[]⟩,.slice none 0 0,.slice none 0 0] (by kernel_rfl) (by kernel_rfl) PW.out rfl rfl X0 Dl) ((TP.block x (lt_of_block SW.out) (fun e=>HN.out.1 e.symm)).trans SW.out) (by kernel_rfl) ?_ AllReadyH.nil
 have Q3:=(TP.block r (lt_of_block QW.out) (fun e=>hpr e.symm)).trans QW.out
 have P3:=setRow_heap w4 p _ I7 31 (0,0) PW.out
 have R3:=(TP.block x (lt_of_block SW.out) (fun e=>HN.out.1 e.symm)).trans SW.out
 generalize w4.setRow p I7=w5 at*
 have TQ3:=g8 w5 r #[.int .i64 17,.int .i64 (i:Nat)]
 refine wpAnyH_ready (rs:=[3]) (by kernel_rfl) (by simp) ?_
 refine AllReadyH.skip rfl (by kernel_rfl) (w5.setRow r #[.int .i64 17,.int .i64 (i:Nat)]) (U9 _ _ _ 34 2 (.tmp 5) (.tmp 23) rfl r 34 #[.int .i64 17,.int .i64 (i:Nat)] #[.int .i64 0,.int .i64 0] (by kernel_rfl) (by kernel_rfl) Q3 rfl rfl S4 (Ag _ _)) ((TQ3.block x (lt_of_block R3) (fun e=>HN.out.2 e.symm)).trans R3) (by kernel_rfl) ?_ AllReadyH.nil
 refine wpAnyH_done (by kernel_rfl) ?_ _
 have P4:=(TQ3.block p (lt_of_block P3) (fun e=>hpr e)).trans P3
 have Q4:=setRow_heap w5 r _ #[.int .i64 17,.int .i64 (i:Nat)] 34 (0,0) Q3
 have TPQ:b7 (fun k=>k=p∨k=r) w4 (w5.setRow r #[.int .i64 17,.int .i64 (i:Nat)]):=b7.trans (S:=fun k=>k=p∨k=r) (TP.mono (fun _ _ e=>.inl e)) TQ3 (fun _ _ e=>.inr e)
 have T4:=TW.out.trans TPQ (fun i hi e=>by have:=HQ.out;omega)
 generalize w5.setRow r #[.int .i64 17,.int .i64 (i:Nat)]=w6 at*
 simp only[Act.put,List.setIfInBounds_toArray,List.set_cons_succ,List.set_cons_zero]
 go_wp2
 exact bodyPost_ret (I4 rfl _ _ p r 31 34 _ _ (0,0) (0,0) _ _ rfl P4 Tryz.underlying31 rfl X0 rfl Q4 Tryz.underlying34 rfl S4) rfl ⟨rfl,T4⟩
theorem Tn:(Tryz.prog.info? 67).map (·.size)=some 4:=by kernel_rfl
def LU (R P:List Int)(n:Nat)(f:Fl):Except (Int×Int) (Nd×List ByteArray):=match S9 R b8 f with
 | .ok r=>.ok r
 | .error (c,j)=>.error ((c:Nat),g7 (P++ [(n:Int)]) j)
theorem Hl {w:World}{a:Option Addr}{n c:Nat}{l:List Int}(h:w.ownsRow 0 3 1 (.slice a n c) l.length (J3 l)):Io w a l:=by
 rcases h.2 with⟨_,k⟩|⟨g,cap,cur,hv,hg,hh,rest⟩
 ·exact .inl (List.eq_nil_of_length_eq_zero k)
 ·refine .inr ⟨g,0,?_,fun i hi=>?_⟩
  ·cases hv
   rfl
  ·have:=h.cells (g:=g) (by cases hv;rfl) i (.int .i64 l[i]) (by simp[J3,hi])
   rw[W5]at this
   simp only[Nat.zero_add]
   exact this
theorem Qa (w1 w3:World)(s:ByteArray)(f:Fl)(R Q:List Int)(a1 a2:Option Addr)(n1 c1 n2 c2:Nat)(bad:Int)(O1:M1 w1 w3 (.slice a1 n1 c1) R)(O2:M1 w1 w3 (.slice a2 n2 c2) Q)(e1:n1=R.length)(e2:n2=Q.length)(hx:Sx w3)(h7:7<=w1.heap.size):
 PS ((w3.alloc (.cells #[.string ⟨#[]⟩] 9)).alloc (.cells #[.int .i64 1,.slice a1 n1 c1,.slice a2 n2 c2,.int .i64 bad,.string s,.int .i64 0,.bool f.i,.bool f.m,.bool f.s,.bool f.u,.slice (some ⟨w3.heap.size,0,none⟩) 1 1,.int .i64 0] 74))
  (w3.heap.size+1) ⟨R,Q,s,1,bad,a1,c1,a2,c2⟩ 0 f (.slice (some ⟨w3.heap.size,0,none⟩) 1 1) [⟨#[]⟩] 0/\
 b7 (fun _=>False) w3 ((w3.alloc (.cells #[.string ⟨#[]⟩] 9)).alloc (.cells #[.int .i64 1,.slice a1 n1 c1,.slice a2 n2 c2,.int .i64 bad,.string s,.int .i64 0,.bool f.i,.bool f.m,.bool f.s,.bool f.u,.slice (some ⟨w3.heap.size,0,none⟩) 1 1,.int .i64 0] 74)):=by
 subst e1
 subst e2
 have t1:=(tZ w3).alloc (.cells #[.string ⟨#[]⟩] 9)
 have t2:=(tZ (w3.alloc (.cells #[.string ⟨#[]⟩] 9))).alloc (.cells #[.int .i64 1,.slice a1 R.length c1,.slice a2 Q.length c2,.int .i64 bad,.string s,.int .i64 0,.bool f.i,.bool f.m,.bool f.s,.bool f.u,.slice (some ⟨w3.heap.size,0,none⟩) 1 1,.int .i64 0] 74)
 have es:(w3.alloc (.cells #[.string ⟨#[]⟩] 9)).heap.size=w3.heap.size+1:=by simp
 have tt:=t1.trans t2 iE
 have hb:=e8 (w3.alloc (.cells #[.string ⟨#[]⟩] 9)) #[.int .i64 1,.slice a1 R.length c1,.slice a2 Q.length c2,.int .i64 bad,.string s,.int .i64 0,.bool f.i,.bool f.m,.bool f.s,.bool f.u,.slice (some ⟨w3.heap.size,0,none⟩) 1 1,.int .i64 0] 74
 rw[es]at hb
 have hn:=(t2.block w3.heap.size (by rw[es];omega) id).trans (e8 w3 #[.string ⟨#[]⟩] 9)
 have hw:=O1.touch.size
 have l1:∀g o,a1=some ⟨g,o,none⟩->g<w3.heap.size:=fun g o e=>CV O1.own g (by rw[e];rfl)
 have l2:∀g o,a2=some ⟨g,o,none⟩->g<w3.heap.size:=fun g o e=>CV O2.own g (by rw[e];rfl)
 refine⟨⟨hb,(Hl O1.own).new tt,(Hl O2.own).new tt,?_,fun g o e=>?_,fun g o e=>?_,hx.new tt,by omega,fun g e=>?_,fun g o e=>?_⟩,tt⟩
 ·exact⟨rfl,.inr ⟨w3.heap.size,1,#[.string ⟨#[]⟩],rfl,Nat.zero_le _,hn,Nat.le_refl _,by unfold maxLen;omega,rfl,rfl⟩⟩
 ·have:=l1 g o e
  omega
 ·have:=l2 g o e
  omega
 ·obtain rfl:w3.heap.size=g:=Option.some.inj e
  omega
 ·intro e2
  cases e2
  rcases e with e|e
  ·exact Nat.lt_irrefl _ (l1 _ _ e)
  ·exact Nat.lt_irrefl _ (l2 _ _ e)
theorem LQ (s:ByteArray)(f:Fl)(w:World)(R P:List Int)(bad:Nat)(ht:J1 w)(hx:Sx w)(h7:7<=w.heap.size)(h:s.size<=1024)(hd:F8 s 1 true s.size (bg s 1).2 [] [] 0=(none,R,P,bad)):
 Calls Tryz.prog 12 #[.string s,.agg #[.bool f.i,.bool f.m,.bool f.s,.bool f.u]] w fun e w'=>Iw w (LU R P s.size f) e w':=by
 have hI:(s.size:Int)<=(1024:Int):=by omega
 have hs2:s.size<=1099511627776:=by omega
 have HT:=b6 ht
 have HD:=b6 hd
 have HG:=b6 (fun(cd bd:Int) (ar ap:Option Addr) (cr cp:Nat)=>show Px.Good ⟨R,P++ [(s.size:Int)],s,cd,bd,ar,cr,ap,cp⟩from by
  have hb:=(Gg s 1 (by decide)).2.2
  obtain⟨R2,P2,e1,e2,e3⟩:=Gn s s.size (bg s 1).2 [] [] 0 hb (by omega) (by rw[hd])
  rw[hd,List.nil_append]at e1 e2
  simp only at e1 e2
  subst e1
  subst e2
  exact Db h hb e3 cd bd ar ap cr cp)
 have HX:=b6 hx
 have H7:=b6 h7
 obtain⟨A,hA⟩:∃A,A=LU R P s.size f:=⟨_,rfl⟩
 have HA:=b6 hA.symm
 rw[<-hA]
 clear ht hd h hx h7 hA
 have B:=b6 (Hb w #[.bool f.i,.bool f.m,.bool f.s,.bool f.u])
 go_enter Tryz.func12,Tryz.ntmps12
 go_upto_region 1 with fail
 unfold I7 at B
 generalize (((w.alloc (.cells #[.bool f.i,.bool f.m,.bool f.s,.bool f.u] 38)).alloc (.cells #[.int .i64 0,.slice none 0 0,.bool false,.int .i64 0,.int .i64 0,.bool false,.int .i64 0,.string ⟨#[]⟩,.slice none 0 0,.slice none 0 0] 31)).alloc (.cells #[.int .i64 0,.int .i64 0] 34))=w1 at*
 obtain⟨B0,B1,B2,T⟩:=B.out
 clear B
 obtain⟨q,hq⟩:∃q,q=w.heap.size:=⟨_,rfl⟩
 obtain⟨p,hp⟩:∃p,p=w.heap.size+1:=⟨_,rfl⟩
 obtain⟨r,hr⟩:∃r,r=w.heap.size+1+1:=⟨_,rfl⟩
 have HQ:=b6 (show w.heap.size<=q/\q<p/\p<r from by omega)
 rw[<-hr]at B2⊢
 rw[<-hp]at B1⊢
 rw[<-hq]at B0⊢
 clear hq hp hr
 have KD:=b6 (EL s 1 true w1 (HT.out.new T) hs2 (by decide))
 rw[Hc]at KD
 have BB:=b6 (And.intro B0 (And.intro B1 B2))
 have TT:=b6 T
 clear B0 B1 B2 T
 go_wp2_with fail
 refine KD.out.mono ?_
 rintro e w2 hR
 obtain⟨v1,v2,rfl,ow1,ow2⟩:∃v1 v2,e=.returned (.tuple #[.agg #[.int .i64 1,v1,v2,.int .i64 bad],.agg #[.int .i64 0,.int .i64 0]])/\M1 w1 w2 v1 R/\M1 w1 w2 v2 (P++ [(s.size:Int)]):=by
  rcases hR with⟨j,hj,hb⟩|⟨hj,hg⟩
  ·rw[HD.out]at hj
   cases hj
  ·rw[HD.out]at hg
   obtain⟨v1,v2,h1,h2,h3⟩:=hg.ex
   exact⟨v1,v2,h1,h2,h3⟩
 clear hR KD
 obtain⟨a1,c1,hv1⟩:=e9 ow1.own
 obtain⟨a2,c2,hv2⟩:=e9 ow2.own
 subst hv1
 subst hv2
 obtain⟨n1,hn1⟩:∃n,n=R.length:=⟨_,rfl⟩
 obtain⟨n2,hn2⟩:∃n,n=(P++ [(s.size:Int)]).length:=⟨_,rfl⟩
 rw[<-hn1]at ow1⊢
 rw[<-hn2]at ow2⊢
 have HN1:=b6 hn1
 have HN2:=b6 hn2
 clear hn1 hn2
 have t2:=ow1.touch
 have O1:=b6 ow1
 have O2:=b6 ow2
 have B0:=b6 ((t2.block _ (lt_of_block BB.out.1) id).trans BB.out.1)
 have B1:=b6 ((t2.block _ (lt_of_block BB.out.2.1) id).trans BB.out.2.1)
 have B2:=b6 ((t2.block _ (lt_of_block BB.out.2.2) id).trans BB.out.2.2)
 have T2:=b6 (TT.out.trans t2 iE)
 have HW1:=b6 (show w.heap.size<=w1.heap.size from TT.out.size)
 clear t2 TT BB ow1 ow2
 go_upto_region 6 with fail
 have TA:=b6 (((tZ w2).alloc (.cells #[.int .i64 1,.slice a1 n1 c1,.slice a2 n2 c2,.int .i64 (bad:Nat)] 67)).alloc (.cells #[.int .i64 0,.int .i64 0] 34))
 have BX:=b6 (show((w2.alloc (.cells #[.int .i64 1,.slice a1 n1 c1,.slice a2 n2 c2,.int .i64 (bad:Nat)] 67)).alloc (.cells #[.int .i64 0,.int .i64 0] 34)).heap[w2.heap.size]? =some (.cells #[.int .i64 1,.slice a1 n1 c1,.slice a2 n2 c2,.int .i64 (bad:Nat)] 67 (0,0))from by
  have T3:=(tZ (w2.alloc (.cells #[.int .i64 1,.slice a1 n1 c1,.slice a2 n2 c2,.int .i64 (bad:Nat)] 67))).alloc (.cells #[.int .i64 0,.int .i64 0] 34)
  rw[T3.block _ (by simp) id]
  exact e8 w2 _ 67)
 generalize (w2.alloc (.cells #[.int .i64 1,.slice a1 n1 c1,.slice a2 n2 c2,.int .i64 (bad:Nat)] 67)).alloc (.cells #[.int .i64 0,.int .i64 0] 34)=w3 at*
 generalize w2.heap.size=x at*
 have T3:=b6 (T2.out.trans TA.out iE)
 replace B0:=b6 ((TA.out.block q (lt_of_block B0.out) id).trans B0.out)
 replace B1:=b6 ((TA.out.block p (lt_of_block B1.out) id).trans B1.out)
 replace B2:=b6 ((TA.out.block r (lt_of_block B2.out) id).trans B2.out)
 go_upto_region 7 with(first|refine wpList_load_row rfl 67 _ rfl x rfl 67 _ (0,0) _ BX.out Tryz.underlying67 rfl Tn ?_|refine wpList_load_row rfl 38 _ rfl q rfl 38 _ (0,0) _ B0.out Tryz.underlying38 rfl F0 ?_|fail)
 have HP:=b6 (Qa w1 w3 s f R (P++ [(s.size:Int)]) a1 a2 n1 c1 n2 c2 bad (O1.out.still TA.out) (O2.out.still TA.out) HN1.out HN2.out (HX.out.new T3.out) (Nat.le_trans H7.out HW1.out))
 clear O1 O2 HN1 HN2 BX TA HD
 generalize (w3.alloc (.cells #[.string ⟨#[]⟩] 9)).alloc (.cells #[.int .i64 1,.slice a1 n1 c1,.slice a2 n2 c2,.int .i64 bad,.string s,.int .i64 0,.bool f.i,.bool f.m,.bool f.s,.bool f.u,.slice (some ⟨w3.heap.size,0,none⟩) 1 1,.int .i64 0] 74)=w5 at*
 have TB:=HP.out.2
 have HLT:=b6 (show p<w3.heap.size/\r<w3.heap.size from⟨lt_of_block B1.out,lt_of_block B2.out⟩)
 have HS3:=b6 (show w.heap.size<=w3.heap.size from T3.out.size)
 generalize w3.heap.size=b at*
 have KP:=b6 (JK (b+1) _ f _ _ w5 HP.out.1 (HG.out _ _ _ _ _ _) rfl)
 replace B1:=b6 ((TB.block p (lt_of_block B1.out) id).trans B1.out)
 replace B2:=b6 ((TB.block r (lt_of_block B2.out) id).trans B2.out)
 have T5:=b6 (T3.out.trans TB iE)
 have HLW:=b6 (show b<w5.heap.size/\w.heap.size<=w5.heap.size from⟨Nat.lt_of_succ_lt HP.out.1.lt,T5.out.size⟩)
 unfold LU at HA
 clear TB T3 HP B0 HG
 generalize S9 R b8 f=M at*
 match M with
 | .error (c,j)=>
   unfold Nx I7 at KP
   simp only at KP HA
   go_wp2_with fail
   refine KP.out.mono ?_
   rintro e w6 ⟨rfl,t6⟩
   have NB:∀g,g=b+1∨(Value.slice (some ⟨b,0,none⟩) 1 1).ownBlock=some g->b<=g:=fun g e=>by
    rcases e with e|e
    ·omega
    ·cases e
     exact Nat.le_refl _
   replace B1:=b6 ((t6.block p (lt_of_block B1.out) (fun e=>by have:=NB _ e;have:=HLT.out;omega)).trans B1.out)
   replace B2:=b6 ((t6.block r (lt_of_block B2.out) (fun e=>by have:=NB _ e;have:=HLT.out;omega)).trans B2.out)
   have T6:=b6 (T5.out.trans t6 (fun i hi e=>by have:=NB _ e;have:=HS3.out;omega))
   clear t6 NB KP T5
   obtain⟨y,hy⟩:∃y,y=g7 (P++ [(s.size:Int)]) j:=⟨_,rfl⟩
   rw[<-hy]at HA⊢
   clear hy
   obtain⟨R1,R2,R3,R4⟩:=FH B1.out B2.out (by have:=HQ.out;omega) #[.int .i64 0,.slice none 0 0,.bool false,.int .i64 0,.int .i64 0,.bool false,.int .i64 0,.string ⟨#[]⟩,.slice none 0 0,.slice none 0 0] #[.int .i64 (c:Nat),.int .i64 y]
   have TT:=b6 (T6.out.trans R4 (fun i hi e=>by have:=HQ.out;omega))
   replace R1:=b6 R1
   replace R2:=b6 R2
   replace R3:=b6 R3
   clear R4 T6
   go_wp2_with (first|refine wpList_store_row rfl 31 _ _ rfl p _ rfl rfl 31 _ B1.out X0 (by rfl) Dl ?_|refine wpList_store_row rfl 34 _ _ rfl r _ rfl rfl 34 _ R1.out S4 (by rfl) (Ag _ _) ?_|fail)
   rw[<-HA.out]
   exact bodyPost_ret (I4 rfl _ _ p r 31 34 _ _ (0,0) (0,0) _ _ rfl R2.out Tryz.underlying31 rfl X0 rfl R3.out Tryz.underlying34 rfl S4) rfl ⟨rfl,TT.out⟩
 | .ok (nd,ns)=>
   unfold Nx at KP
   simp only at KP HA
   go_wp2_with fail
   refine KP.out.mono ?_
   rintro e w6 ⟨c,vn',rfl,ht6,hs6,hn6,t6⟩
   obtain⟨ck,sa,sn,sc,fo,mi,ma,la,ca,nm,ka,kn,kc⟩:=c
   obtain⟨an,cn,hvn⟩:=e9 hs6
   subst hvn
   obtain⟨nn,hnn⟩:∃n,n=ns.length:=⟨_,rfl⟩
   rw[<-hnn]at hs6 hn6⊢
   have HNN:=b6 hnn
   clear hnn
   have NB:∀g,g=b+1∨(Value.slice (some ⟨b,0,none⟩) 1 1).ownBlock=some g->b<=g:=fun g e=>by
    rcases e with e|e
    ·omega
    ·cases e
     exact Nat.le_refl _
   replace B1:=b6 ((t6.block p (lt_of_block B1.out) (fun e=>by have:=NB _ e;have:=HLT.out;omega)).trans B1.out)
   replace B2:=b6 ((t6.block r (lt_of_block B2.out) (fun e=>by have:=NB _ e;have:=HLT.out;omega)).trans B2.out)
   have T6:=b6 (T5.out.trans t6 (fun i hi e=>by have:=NB _ e;have:=HS3.out;omega))
   have HNB:=b6 (show ∀g,(Value.slice an nn cn).ownBlock=some g->b<=g from fun g e=>by
    rcases hn6 with e2|⟨g2,e2,h2⟩
    ·exact NB g (.inr (by rw[<-e2];exact e))
    ·rw[e2]at e
     cases e
     have:=HLW.out
     omega)
   have HT6:=b6 ht6
   have HS6:=b6 hs6
   clear t6 NB KP T5 ht6 hs6 hn6
   unfold j4.arr
   obtain⟨R1,R2,R3,R4⟩:=FH B1.out B2.out (by have:=HQ.out;omega) #[.int .i64 ck,.slice sa sn sc,.bool fo,.int .i64 mi,.int .i64 ma,.bool la,.int .i64 ca,.string nm,.slice ka kn kc,.slice an nn cn] #[.int .i64 0,.int .i64 0]
   have R5:=b6 R4
   have TT:=b6 (T6.out.trans R4 (fun i hi e=>by have:=HQ.out;omega))
   replace R1:=b6 R1
   replace R2:=b6 R2
   replace R3:=b6 R3
   clear R4 T6
   go_wp2_with (first|refine wpList_store_row rfl 31 _ _ rfl p _ rfl rfl 31 _ B1.out X0 (by rfl) (by simp[Value.oneCell']) ?_|refine wpList_store_row rfl 34 _ _ rfl r _ rfl rfl 34 _ R1.out S4 (by rfl) (Ag _ _) ?_|fail)
   rw[<-HA.out]
   refine bodyPost_ret (I4 rfl _ _ p r 31 34 _ _ (0,0) (0,0) _ _ rfl R2.out Tryz.underlying31 rfl X0 rfl R3.out Tryz.underlying34 rfl S4) rfl ?_
   refine⟨⟨ck,sa,sn,sc,fo,mi,ma,la,ca,nm,ka,kn,kc⟩,an,nn,cn,rfl,(HT6.out.kept R5.out (fun g hg s=>?_)).more (fun g hg=>⟨?_,Nat.lt_of_lt_of_le hg.2 R5.out.size⟩),?_,fun g e=>?_,TT.out⟩
   ·have:=HLT.out
    have:=HLW.out
    omega
   ·have:=HLW.out
    omega
   ·exact g9 HS6.out R5.out (fun g e s=>by have:=HNB.out g e;have:=HLT.out;omega)
   ·have:=HNB.out g e
    have:=HS3.out
    omega
theorem AO (s:ByteArray)(f:Fl)(w:World)(ht:J1 w)(hx:Sx w)(h7:7<=w.heap.size):
 Calls Tryz.prog 12 #[.string s,.agg #[.bool f.i,.bool f.m,.bool f.s,.bool f.u]] w fun e w'=>Iw w (I0 s f) e w':=by
 unfold I0
 by_cases h:1024<s.size
 ·rw[if_pos h]
  exact LR s f w h
 ·rw[if_neg h]
  cases hd:F8 s 1 true s.size (bg s 1).2 [] [] 0 with
  |mk o rest=>
   obtain⟨R,P,bad⟩:=rest
   cases o with
   |some i=>exact ON s f w i ht (by omega) (by rw[hd])
   |none=>exact LQ s f w R P bad ht hx h7 (by omega) hd
def Aj (c:Int):Bool:=decide (0<=c)&&decide (c<128)
theorem FE {s:ByteArray}{i:Nat}{c:Int}{l:List Int}(hc:Aj c=true)(h:Lays s i (c::l)):r8 s 1 i=(c,1):=by
 unfold Aj at hc
 rw[Bool.and_eq_true,decide_eq_true_eq,decide_eq_true_eq]at hc
 have e:FO c=[c]:=by
  unfold FO
  rw[if_pos (by omega)]
 have ok:FP 1 c=true:=by
  unfold FP
  rw[Bool.and_eq_true]
  exact⟨(U2 c).2 ⟨hc.1,by omega,by omega⟩,by simp⟩
 have:=BO 1 (.inl rfl) s i c ok (by rw[Lx,e];exact Lays.left (a:=[c]) (b:=l) h)
 rw[this,Lx,e]
 rfl
def Aq (i n:Nat):List Int:=(List.range' i n).map fun(j:Nat)=>(j:Int)
theorem PP (s:ByteArray):∀(l:List Int) (k i:Nat) (rs ps:List Int) (bad:Nat),l.all Aj=true->Lays s i l->s.size=i+l.length->l.length<=k->
 F8 s 1 true k i rs ps bad=(none,rs++l,ps++Aq i l.length,bad)
 | [],k,i,rs,ps,bad,_,_,he,_=>by
   rw[Ay (by simp at he;omega)]
   simp[Aq]
 |c::l,k,i,rs,ps,bad,ha,hl,he,hk=>by
  rw[List.all_cons,Bool.and_eq_true]at ha
  rw[List.length_cons]at he hk
  obtain⟨k,rfl⟩:∃j,k=j+1:=⟨k-1,by omega⟩
  have hc:=ha.1
  unfold Aj at hc
  rw[Bool.and_eq_true,decide_eq_true_eq,decide_eq_true_eq]at hc
  rw[U0 (by omega),FE ha.1 hl,if_neg (by dsimp only;omega)]
  rw[PP s l k (i+1) (rs++ [c]) (ps++ [(i:Int)]) bad ha.2 (Lays.right (a:=[c]) hl) (by omega) (by omega)]
  simp[Aq,List.range'_succ]
theorem UJ {s:ByteArray}{l:List Int}(ha:l.all Aj=true)(hl:Lays s 0 l)(he:s.size=l.length):bg s 1=(1,0):=by
 have:E5 s (mk 1)=false:=by
  cases hb:E5 s (mk 1)with
  |false=>rfl
  |true=>
   have h:=(AY s (mk 1)).1 hb
   have h0:=h 0 (by decide)
   have e0:(nums (mk 1))[0]=239:=by kernel_rfl
   rw[e0]at h0
   match l,ha,hl,he with
   | [],_,_,he=>
     have h1:=h0.1
     rw[List.length_nil]at he
     omega
   |c::l,ha,hl,_=>
    have h1:=hl 0 (by simp)
    rw[List.all_cons,Bool.and_eq_true]at ha
    have hc:=ha.1
    unfold Aj at hc
    rw[Bool.and_eq_true,decide_eq_true_eq,decide_eq_true_eq]at hc
    simp only[List.getElem_cons_zero]at h1
    omega
 unfold bg
 rw[if_neg (by decide),this]
 rfl
theorem Nj {s:ByteArray}{l:List Int}(f:Fl)(ha:l.all Aj=true)(hl:Lays s 0 l)(he:s.size=l.length)(hs:l.length<=1024):
 I0 s f=match S9 l b8 f with
  | .ok r=>.ok r
  | .error (c,j)=>.error ((c:Nat),g7 (Aq 0 l.length++ [(l.length:Int)]) j):=by
 unfold I0
 rw[if_neg (by omega),UJ ha hl he,PP s l s.size 0 [] [] 0 ha hl (by omega) (by omega)]
 simp only[List.nil_append,he]
 rcases S9 l b8 f with⟨c,j⟩|r
 ·rfl
 ·rfl
theorem CC (l:List Int)(h:l.all Aj=true):Lays (i7 l) 0 l/\(i7 l).size=l.length:=by
 refine⟨fun j hj=>?_,by simp[i7,ByteArray.size]⟩
 have hsz:(i7 l).size=l.length:=by simp[i7,ByteArray.size]
 refine⟨by omega,?_⟩
 have hm:=List.all_eq_true.1 h _ (List.getElem_mem hj)
 unfold Aj at hm
 rw[Bool.and_eq_true,decide_eq_true_eq,decide_eq_true_eq]at hm
 unfold l5
 rw[dif_pos (by omega)]
 have:(i7 l)[0+j]'(by omega)=UInt8.ofNat l[j].toNat:=by
  simp only[Nat.zero_add]
  show((l.map fun c=>UInt8.ofNat c.toNat).toArray)[j]'(by simpa using hj)=_
  simp
 rw[this,UInt8.toNat_ofNat']
 omega
def Ip:ByteArray:=⟨#[97,40,98,124,41,42,63]⟩
def Mg:Nd:=.many 8 [.cls x7 (s9 [(97,97)]),.rep 0 (-1) true (.grp 1 ⟨#[]⟩ (.many 9 [.cls x7 (s9 [(98,98)]),.empty]))]
theorem Pj:S9 [97,40,98,124,41,42,63] b8 x7=.ok (Mg,[⟨#[]⟩,⟨#[]⟩]):=by kernel_rfl
theorem Pk:I0 Ip x7=.ok (Mg,[⟨#[]⟩,⟨#[]⟩]):=by
 obtain⟨h1,h2⟩:=CC [97,40,98,124,41,42,63] (by decide)
 rw[show Ip=i7 [97,40,98,124,41,42,63]from rfl,Nj x7 (by decide) h1 h2 (by decide),Pj]
theorem TN.inv {w:World}{B:Nat->Prop}{c:j4}{k mi ma ca:Int}{fo la:Bool}{set:List R2}{nm:ByteArray}{kids:List Nd}(h:TN w B c (.mk k mi ma ca fo la set nm kids)):
 (c.kind=k/\c.min=mi/\c.max=ma/\c.cap=ca/\c.fold=fo/\c.lazy=la/\c.name=nm)/\SR w (.slice c.sa c.sn c.sc) set/\(∀g,(Value.slice c.sa c.sn c.sc).ownBlock=some g->B g)/\(∀g,(Value.slice c.ka c.kn c.kc).ownBlock=some g->B g)/\
 ∃cs,CL w (.slice c.ka c.kn c.kc) cs/\cs.length=kids.length/\∀(i:Nat) (c':j4) (x':Nd),cs[i]? =some c'->kids[i]? =some x'->TN w B c' x':=by
 cases h with
 |mk c set kids cs hs bs hk bk hl ht=>exact⟨⟨rfl,rfl,rfl,rfl,rfl,rfl,rfl⟩,hs,bs,bk,cs,hk,hl,ht⟩
theorem Td (cs:List j4):∀i (hi:i<cs.length) j (u:Value),cs[i].list[j]? =some u->(cs.flatMap j4.list)[i*9+j]? =some u:=by
 induction cs with
 |nil=>intro i hi;exact absurd hi (Nat.not_lt_zero _)
 |cons c cs ih=>
  intro i hi j u hu
  rw[List.flatMap_cons]
  have hj:j<9:=by
   have:=(List.getElem?_eq_some_iff.1 hu).1
   simpa [j4.list]using this
  match i,hi,hu with
  |0,_,hu=>
   rw[List.getElem?_append_left (by simp[j4.list];omega),Nat.zero_mul,Nat.zero_add]
   exact hu
  |i+1,hi,hu=>
   rw[List.getElem?_append_right (by simp[j4.list];omega)]
   have e:(i+1)*9+j-c.list.length=i*9+j:=by simp[j4.list];omega
   rw[e]
   exact ih i (by simpa using hi) j u hu
theorem CL.at {w:World}{a:Option Addr}{n c:Nat}{cs:List j4}(h:CL w (.slice a n c) cs)(h0:0<cs.length):∃g,a=some ⟨g,0,none⟩/\g<w.heap.size/\n=cs.length/\∀i (hi:i<cs.length) j u,cs[i].list[j]? =some u->w.cell? ⟨g,i*9+j,none⟩=some u:=by
 rcases h.2 with⟨_,k⟩|⟨g,cap,cur,hv,hg,hh,rest⟩
 ·omega
 ·have ha:a=some ⟨g,0,none⟩:=by cases hv;rfl
  have hn:n=cs.length:=by cases hv;rfl
  refine⟨g,ha,lt_of_block hh,hn,fun i hi j u hu=>?_⟩
  have:=h.cells (g:=g) (by rw[ha];rfl) (i*9+j) u (Td cs i hi j u hu)
  rwa [W5]at this
theorem Jp (w:World)(P F:Array Value):((w.alloc (.cells P 31)).alloc (.cells F 34)).heap[w.heap.size]? =some (.cells P 31 (0,0))/\((w.alloc (.cells P 31)).alloc (.cells F 34)).heap[w.heap.size+1]? =some (.cells F 34 (0,0))/\b7 (fun _=>False) w ((w.alloc (.cells P 31)).alloc (.cells F 34)):=by
 have T3:=(tZ (w.alloc (.cells P 31))).alloc (.cells F 34)
 have e:(w.alloc (.cells P 31)).heap.size=w.heap.size+1:=by simp
 refine⟨?_,?_,((tZ w).alloc _).alloc _⟩
 ·rw[T3.block _ (by omega) id]
  exact e8 w P 31
 ·have:=e8 (w.alloc (.cells P 31)) F 34
  rw[e]at this
  exact this
theorem Ep {w:World}{g:Nat}{cs:Array Value}{t:TypeId}{fr:Nat×Nat}(h:w.heap[g]? =some (.cells cs t fr))(i:Nat)(v:Value)(hv:cs[i]? =some v):w.cell? ⟨g,i,none⟩=some v:=by
 simp[World.cell?,h,hv]
theorem Bk (w:World)(ht:J1 w)(hx:Sx w)(h7:7<=w.heap.size):Calls Tryz.prog 11 #[] w fun e w'=>e=.returned (.bool true)/\b7 (fun _=>False) w w':=by
 have KP:=b6 (AO Ip x7 w ht hx h7)
 rw[Pk]at KP
 unfold Ip x7 Iw Mg at KP
 simp only at KP
 clear ht hx h7
 go_enter Tryz.func11,Tryz.ntmps11
 go_wp2_with fail
 refine KP.out.mono ?_
 rintro e w1 ⟨c,an,nn,cn,rfl,ht1,hs1,hn1,t1⟩
 have e1:=ht1.inv.1.1
 obtain⟨cs,hcl,hlen,hkid⟩:=ht1.inv.2.2.2.2
 obtain⟨ck,sa,sn,sc,fo,mi,ma,la,ca,nm,ka,kn,kc⟩:=c
 simp only at e1 hcl hlen
 subst e1
 have hl2:cs.length=2:=hlen
 obtain⟨g,rfl,hg,rfl,hat⟩:=hcl.at (by omega)
 have hk1:=hkid 1 _ _ (List.getElem?_eq_getElem (show 1<cs.length by omega)) rfl
 have f1:=hk1.inv.1.1
 have f2:=hk1.inv.1.2.2.2.2.2.1
 have a0:=hat 1 (by omega) 0 _ rfl
 have a5:=hat 1 (by omega) 5 _ rfl
 rw[f1]at a0
 rw[f2]at a5
 obtain⟨_,_,hv⟩:=e9 hs1
 cases hv
 rw[hl2]
 have A0:=b6 a0
 have A5:=b6 a5
 have HG:=b6 hg
 have T1:=b6 t1
 unfold j4.arr
 clear hat hkid hcl hlen hl2 KP hs1 hk1 a0 a5 f1 f2 ht1 hn1 t1 hg
 go_upto_region 2 with fail
 have HK:=Jp w1 #[.int .i64 8,.slice sa sn sc,.bool fo,.int .i64 mi,.int .i64 ma,.bool la,.int .i64 ca,.string nm,.slice (some ⟨g,0,none⟩) 2 kc,.slice an 2 cn] #[.int .i64 0,.int .i64 0]
 generalize (w1.alloc (.cells #[.int .i64 8,.slice sa sn sc,.bool fo,.int .i64 mi,.int .i64 ma,.bool la,.int .i64 ca,.string nm,.slice (some ⟨g,0,none⟩) 2 kc,.slice an 2 cn] 31)).alloc (.cells #[.int .i64 0,.int .i64 0] 34)=w3 at*
 obtain⟨hp,hq,t3⟩:=HK
 have b0:=(t3.cell (p:=⟨g,9,none⟩) HG.out id).trans A0.out
 have b5:=(t3.cell (p:=⟨g,14,none⟩) HG.out id).trans A5.out
 clear HG
 generalize w1.heap.size=p at*
 have c0:=Ep hp 0 _ rfl
 have c8:=Ep hp 8 _ rfl
 have c9:=Ep hp 9 _ rfl
 have HQ:=b6 hq
 have T3:=b6 (T1.out.trans t3 iE)
 clear hp hq t3
 go_wp2_with (first|refine wpList_load_row rfl 34 _ rfl (p+1) rfl 34 _ (0,0) _ HQ.out Tryz.underlying34 rfl S4 ?_|fail)
 go_ret
 exact⟨rfl,T3.out⟩
end Go.Proofs.YtdhhcefmmojcmaaGreatDoor
