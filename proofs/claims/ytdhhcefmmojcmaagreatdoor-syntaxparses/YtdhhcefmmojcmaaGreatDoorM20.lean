/- Texts of this proof, one behind the other. -/
import Derived.Test.YtdhhcefmmojcmaaGreatDoorM19
import Derived.Laws.Rows
set_option maxRecDepth 100000
set_option maxHeartbeats 0
set_option linter.unusedVariables false
namespace Go.Proofs.YtdhhcefmmojcmaaGreatDoor
open Go.RowKit Go.Lib
def J0 (b:Nat)(X:Px)(vn:Value)(op:Nat)(B:Nat->Prop)(w:World):PR (Nd×St)->Ending->World->Prop
 | .error (c,j),e,w'=>e=u6 c (g7 X.P j)/\b7 (fun g=>g=b∨vn.ownBlock=some g) w w'
 | .ok (x,st),e,w'=>∃c vn',e=.returned (.agg (j4.arr c))/\TN w' (fun g=>B g∨(w.heap.size<=g/\g<w'.heap.size)) c x/\PS w' b X st.k st.f vn' st.ns op/\(vn'.ownBlock=vn.ownBlock∨∃g,vn'.ownBlock=some g/\w.heap.size<=g)/\b7 (fun g=>g=b∨vn.ownBlock=some g) w w'
theorem Lg (w:World)(c:j4):CL (w.alloc (.cells c.arr 28)) (.slice (some ⟨w.heap.size,0,none⟩) 1 1) [c]:=by
 refine⟨rfl,.inr ⟨w.heap.size,1,c.arr,rfl,Nat.zero_le _,e8 w _ _,Nat.le_refl _,by unfold maxLen;omega,rfl,rfl⟩⟩
theorem TN.one {w:World}{B:Nat->Prop}{c:j4}{x:Nd}(h:TN w B c x)(kind a z cap:Int)(fold lazy:Bool)(name:ByteArray)(v:Addr)(hk:CL w (.slice (some v) 1 1) [c])(hb:∀g,(Value.slice (some v) 1 1).ownBlock=some g->B g):
 TN w B ⟨kind,none,0,0,fold,a,z,lazy,cap,name,some v,1,1⟩ (.mk kind a z cap fold lazy [] name [x]):=by
 refine TN.mk ⟨kind,none,0,0,fold,a,z,lazy,cap,name,some v,1,1⟩ [] [x] [c] (Iq w) (fun g e=>by cases e) hk hb rfl (fun i c' x' e1 e2=>?_)
 match i with
 |0=>cases e1;cases e2;exact h
 |i+1=>cases e1
theorem Mb (b:Nat)(X:Px)(k:Nat)(f:Fl)(vn:Value)(ns:List ByteArray)(op:Nat)(c:j4)(x:Nd)(B:Nat->Prop)(w:World)(h:PS w b X k f vn ns op)(hX:X.Good)(hk:k<=X.R.length)(ht:TN w B c x)(hB:∀g,B g->g<w.heap.size):
 Calls Tryz.prog 96 #[.pointer (some ⟨b,0,none⟩),.agg c.arr] w fun e w'=>J0 b X vn op B w (Z7 X.R x ⟨k,f,ns⟩) e w':=by
 obtain⟨ck,sa,sn,sc,fo,mi,ma,la,ca,nm,ka,kn,kc⟩:=c
 change Calls Tryz.prog 96 #[.pointer (some ⟨b,0,none⟩),.agg #[.int .i64 ck,.slice sa sn sc,.bool fo,.int .i64 mi,.int .i64 ma,.bool la,.int .i64 ca,.string nm,.slice ka kn kc]] _ _
 obtain⟨A,hA⟩:∃A,A=Z7 X.R x ⟨k,f,ns⟩:=⟨_,rfl⟩
 have HA:=b6 hA.symm
 rw[<-hA]
 unfold Z7 at HA
 simp only at HA
 clear hA
 have T0:=b6 ((tZ w).alloc (.cells #[.int .i64 ck,.slice sa sn sc,.bool fo,.int .i64 mi,.int .i64 ma,.bool la,.int .i64 ca,.string nm,.slice ka kn kc] 28))
 have B0:=b6 (e8 w #[.int .i64 ck,.slice sa sn sc,.bool fo,.int .i64 mi,.int .i64 ma,.bool la,.int .i64 ca,.string nm,.slice ka kn kc] 28)
 have S0:(w.alloc (.cells #[.int .i64 ck,.slice sa sn sc,.bool fo,.int .i64 mi,.int .i64 ma,.bool la,.int .i64 ca,.string nm,.slice ka kn kc] 28)).heap.size=w.heap.size+1:=by simp
 have T1:=b6 ((tZ (w.alloc (.cells #[.int .i64 ck,.slice sa sn sc,.bool fo,.int .i64 mi,.int .i64 ma,.bool la,.int .i64 ca,.string nm,.slice ka kn kc] 28))).alloc (.cells #[.int .i64 0,.slice none 0 0,.bool false,.int .i64 0,.int .i64 0,.bool false,.int .i64 0,.string ⟨#[]⟩,.slice none 0 0] 28))
 have Q1:=b6 (e8 (w.alloc (.cells #[.int .i64 ck,.slice sa sn sc,.bool fo,.int .i64 mi,.int .i64 ma,.bool la,.int .i64 ca,.string nm,.slice ka kn kc] 28)) #[.int .i64 0,.slice none 0 0,.bool false,.int .i64 0,.int .i64 0,.bool false,.int .i64 0,.string ⟨#[]⟩,.slice none 0 0] 28)
 have B1:=b6 ((T1.out.block w.heap.size (by rw[S0];omega) id).trans B0.out)
 have T2:=b6 (T0.out.trans T1.out iE)
 have HP:=b6 (h.new T2.out)
 have HT:=b6 (ht.new T2.out)
 have KQ:=b6 (fun w' hp=>GL b X k f vn ns op w' hp hX hk)
 have hlt:=h.lt
 rw[S0]at Q1
 clear h ht hX hk T0 T1 B0 S0
 generalize C8 X.R f.u k=Q at*
 go_enter Tryz.func96,Tryz.ntmps96
 go_upto_region 1 with fail
 have HSZ:=b6 (show((w.alloc (.cells #[.int .i64 ck,.slice sa sn sc,.bool fo,.int .i64 mi,.int .i64 ma,.bool la,.int .i64 ca,.string nm,.slice ka kn kc] 28)).alloc (.cells #[.int .i64 0,.slice none 0 0,.bool false,.int .i64 0,.int .i64 0,.bool false,.int .i64 0,.string ⟨#[]⟩,.slice none 0 0] 28)).heap.size=w.heap.size+2 by simp)
 generalize (w.alloc (.cells #[.int .i64 ck,.slice sa sn sc,.bool fo,.int .i64 mi,.int .i64 ma,.bool la,.int .i64 ca,.string nm,.slice ka kn kc] 28)).alloc (.cells #[.int .i64 0,.slice none 0 0,.bool false,.int .i64 0,.int .i64 0,.bool false,.int .i64 0,.string ⟨#[]⟩,.slice none 0 0] 28)=w1 at*
 obtain⟨qb,hqb⟩:∃q,q=w.heap.size:=⟨_,rfl⟩
 obtain⟨qr,hqr⟩:∃q,q=w.heap.size+1:=⟨_,rfl⟩
 have HQ:=b6 (show w.heap.size<=qb/\qb<qr/\b<qb/\qr<w1.heap.size from⟨by omega,by omega,by omega,by rw[HSZ.out];omega⟩)
 rw[<-hqr]at Q1
 rw[<-hqb]at B1
 have e1:qb+1=qr:=by omega
 rw[<-hqb]
 simp only[e1]
 clear hqb hqr e1 hlt HSZ
 match Q with
 | .error (ec,ej)=>
   have KE:=b6 (KQ.out _ HP.out)
   unfold PI u6 at KE
   go_wp2_with fail
   refine KE.out.mono ?_
   rintro e w2 ⟨rfl,tt⟩
   have T3:=b6 ((T2.out.mono (S':=fun g=>g=b) nE).trans tt iE)
   clear tt KQ KE
   go_wp2
   refine⟨rfl,?_⟩
   rw[<-HA.out]
   exact⟨rfl,T3.out.mono (fun _ _ e=>.inl e)⟩
 | .ok none=>
   go_wp2_with fail
   refine(KQ.out _ HP.out).mono ?_
   rintro e w2 ⟨rfl,hp,tt⟩
   have H2:=b6 hp
   have X2:=b6 (HT.out.kept tt (fun g _ e=>HP.out.nt (.inl e)))
   have T3:=b6 ((T2.out.mono (S':=fun g=>g=b) nE).trans tt iE)
   have B2:=b6 ((tt.block qb (lt_of_block B1.out) (fun e=>by have:=HQ.out;omega)).trans B1.out)
   have Q2:=b6 ((tt.block qr (lt_of_block Q1.out) (fun e=>by have:=HQ.out;omega)).trans Q1.out)
   have HS2:=b6 (show qr<w2.heap.size from by have:=HQ.out;have:=tt.size;omega)
   clear hp tt KQ HP HT B1 Q1 T2
   go_upto_region 2 with(first|refine wpList_store_row rfl 28 _ _ rfl w2.heap.size _ rfl rfl 28 _ (e8 w2 _ 28) l7 (by rfl) (j4.one j4.zero) ?_|fail)
   have TA:=b6 (((tZ w2).alloc (.cells #[.int .i64 0,.slice none 0 0,.bool false,.int .i64 0,.int .i64 0,.bool false,.int .i64 0,.string ⟨#[]⟩,.slice none 0 0] 28)).trans (g8 (w2.alloc (.cells #[.int .i64 0,.slice none 0 0,.bool false,.int .i64 0,.int .i64 0,.bool false,.int .i64 0,.string ⟨#[]⟩,.slice none 0 0] 28)) w2.heap.size j4.zero.arr) (fun i hi e=>by omega))
   generalize (w2.alloc (.cells #[.int .i64 0,.slice none 0 0,.bool false,.int .i64 0,.int .i64 0,.bool false,.int .i64 0,.string ⟨#[]⟩,.slice none 0 0] 28)).setRow w2.heap.size j4.zero.arr=w3 at*
   replace H2:=b6 (H2.out.new TA.out)
   replace X2:=b6 (X2.out.new TA.out)
   replace T3:=b6 (T3.out.trans TA.out nE)
   replace B2:=b6 ((TA.out.block qb (lt_of_block B2.out) id).trans B2.out)
   replace Q2:=b6 ((TA.out.block qr (lt_of_block Q2.out) id).trans Q2.out)
   clear TA
   go_wp2_with (first|refine wpList_load_row rfl 28 _ rfl qb rfl 28 _ (0,0) _ B2.out Tryz.underlying28 rfl l7 ?_|refine wpList_store_row rfl 28 _ _ rfl qr _ rfl rfl 28 _ Q2.out l7 (by rfl) (j4.one ⟨ck,sa,sn,sc,fo,mi,ma,la,ca,nm,ka,kn,kc⟩) ?_|fail)
   refine bodyPost_ret (o9 rfl _ _ qr 28 _ (0,0) _ rfl (setRow_heap _ qr _ _ 28 (0,0) Q2.out) Tryz.underlying28 rfl (by kernel_rfl)) rfl ?_
   rw[<-HA.out]
   have TR:=g8 w3 qr #[.int .i64 ck,.slice sa sn sc,.bool fo,.int .i64 mi,.int .i64 ma,.bool la,.int .i64 ca,.string nm,.slice ka kn kc]
   refine⟨⟨ck,sa,sn,sc,fo,mi,ma,la,ca,nm,ka,kn,kc⟩,vn,rfl,?_,H2.out.row (by have:=HQ.out;omega) Q2.out,.inl rfl,(T3.out.trans TR (fun i hi e=>by have:=HQ.out;omega)).mono (fun _ _ e=>.inl e)⟩
   exact((X2.out.kept TR (fun g hg e=>by have:=hB g hg;have:=HQ.out;omega))).more (fun g e=>.inl e)
 | .ok (some (a,z,y,k1))=>
   go_wp2_with fail
   refine(KQ.out _ HP.out).mono ?_
   rintro e w2 ⟨rfl,hp,tt⟩
   have H2:=b6 hp
   have X2:=b6 (HT.out.kept tt (fun g _ e=>HP.out.nt (.inl e)))
   have T3:=b6 ((T2.out.mono (S':=fun g=>g=b) nE).trans tt iE)
   have B2:=b6 ((tt.block qb (lt_of_block B1.out) (fun e=>by have:=HQ.out;omega)).trans B1.out)
   have Q2:=b6 ((tt.block qr (lt_of_block Q1.out) (fun e=>by have:=HQ.out;omega)).trans Q1.out)
   have HS2:=b6 (show qr<w2.heap.size from by have:=HQ.out;have:=tt.size;omega)
   clear hp tt KQ HP HT B1 Q1 T2
   go_upto_region 2 with(first|refine wpList_store_row rfl 28 _ _ rfl w2.heap.size _ rfl rfl 28 _ (e8 w2 _ 28) l7 (by rfl) (j4.one (Cc a z y)) ?_|fail)
   have TA:=b6 (((tZ w2).alloc (.cells #[.int .i64 0,.slice none 0 0,.bool false,.int .i64 0,.int .i64 0,.bool false,.int .i64 0,.string ⟨#[]⟩,.slice none 0 0] 28)).trans (g8 (w2.alloc (.cells #[.int .i64 0,.slice none 0 0,.bool false,.int .i64 0,.int .i64 0,.bool false,.int .i64 0,.string ⟨#[]⟩,.slice none 0 0] 28)) w2.heap.size (Cc a z y).arr) (fun i hi e=>by omega))
   have RA:=b6 (setRow_heap (w2.alloc (.cells #[.int .i64 0,.slice none 0 0,.bool false,.int .i64 0,.int .i64 0,.bool false,.int .i64 0,.string ⟨#[]⟩,.slice none 0 0] 28)) w2.heap.size _ (Cc a z y).arr 28 (0,0) (e8 w2 _ 28))
   generalize (w2.alloc (.cells #[.int .i64 0,.slice none 0 0,.bool false,.int .i64 0,.int .i64 0,.bool false,.int .i64 0,.string ⟨#[]⟩,.slice none 0 0] 28)).setRow w2.heap.size (Cc a z y).arr=w3 at*
   obtain⟨q5,hq5⟩:∃q,q=w2.heap.size:=⟨_,rfl⟩
   have HQ5:=b6 (show qr<q5 by have:=HS2.out;omega)
   rw[<-hq5]at RA⊢
   replace H2:=b6 (H2.out.new TA.out)
   replace X2:=b6 (X2.out.new TA.out)
   replace T3:=b6 (T3.out.trans TA.out nE)
   replace B2:=b6 ((TA.out.block qb (lt_of_block B2.out) id).trans B2.out)
   replace Q2:=b6 ((TA.out.block qr (lt_of_block Q2.out) id).trans Q2.out)
   clear TA hq5 HS2
   have RB:=b6 ((Below.heap_alloc w3 (.cells #[.int .i64 ck,.slice sa sn sc,.bool fo,.int .i64 mi,.int .i64 ma,.bool la,.int .i64 ca,.string nm,.slice ka kn kc] 28) q5 (lt_of_block RA.out)).trans RA.out)
   have d8:(w3.alloc (.cells #[.int .i64 ck,.slice sa sn sc,.bool fo,.int .i64 mi,.int .i64 ma,.bool la,.int .i64 ca,.string nm,.slice ka kn kc] 28)).cell? ⟨q5,8,none⟩=some (.slice none 0 0):=by unfold World.cell?;rw[RB.out];rfl
   have f8:(w3.alloc (.cells #[.int .i64 ck,.slice sa sn sc,.bool fo,.int .i64 mi,.int .i64 ma,.bool la,.int .i64 ca,.string nm,.slice ka kn kc] 28)).frozen? ⟨q5,8,none⟩=false:=by unfold World.frozen?;rw[RB.out];rfl
   go_upto_region 5 with(first|refine wpList_load_row rfl 28 _ rfl qb rfl 28 _ (0,0) _ B2.out Tryz.underlying28 rfl l7 ?_|fail)
   obtain⟨qk,hqk⟩:∃q,q=w3.heap.size:=⟨_,rfl⟩
   have HQK:=b6 (show q5<qk by rw[hqk];exact lt_of_block RA.out)
   have K4:=b6 (Lg w3 ⟨ck,sa,sn,sc,fo,mi,ma,la,ca,nm,ka,kn,kc⟩)
   change Hid (CL (w3.alloc (.cells #[.int .i64 ck,.slice sa sn sc,.bool fo,.int .i64 mi,.int .i64 ma,.bool la,.int .i64 ca,.string nm,.slice ka kn kc] 28)) _ _)at K4
   have TA:=b6 ((tZ w3).alloc (.cells #[.int .i64 ck,.slice sa sn sc,.bool fo,.int .i64 mi,.int .i64 ma,.bool la,.int .i64 ca,.string nm,.slice ka kn kc] 28))
   have HS4:=b6 (show qk<(w3.alloc (.cells #[.int .i64 ck,.slice sa sn sc,.bool fo,.int .i64 mi,.int .i64 ma,.bool la,.int .i64 ca,.string nm,.slice ka kn kc] 28)).heap.size by rw[hqk];simp)
   rw[<-hqk]at K4⊢
   clear hqk d8 f8
   replace H2:=b6 (H2.out.new TA.out)
   replace X2:=b6 (X2.out.new TA.out)
   replace T3:=b6 (T3.out.trans TA.out nE)
   replace Q2:=b6 ((TA.out.block qr (lt_of_block Q2.out) id).trans Q2.out)
   clear TA B2 RA
   generalize w3.alloc (.cells #[.int .i64 ck,.slice sa sn sc,.bool fo,.int .i64 mi,.int .i64 ma,.bool la,.int .i64 ca,.string nm,.slice ka kn kc] 28)=w4 at*
   have TS:=d9 w4 q5 8 (.slice (some ⟨qk,0,none⟩) 1 1)
   have R5:=b6 (show(w4.setCell ⟨q5,8,none⟩ (.slice (some ⟨qk,0,none⟩) 1 1)).heap[q5]? =some (.cells (j4.arr ⟨10,none,0,0,false,a,z,y,0,⟨#[]⟩,some ⟨qk,0,none⟩,1,1⟩) 28 (0,0))from i8 RB.out 8 _)
   have K5:=b6 (g9 K4.out TS (fun g e s=>by obtain rfl:qk=g:=Option.some.inj e;have:=HQK.out;omega))
   have X5:=b6 (X2.out.kept TS (fun g hg s=>by have:=hB g hg;have:=HQ.out;have:=HQ5.out;omega))
   have H5:=b6 (H2.out.far TS (fun g s=>by subst s;exact⟨by have:=HQ.out;have:=HQ5.out;omega,fun cs fr e=>by rw[RB.out]at e;cases e⟩))
   have Q5:=b6 ((TS.block qr (lt_of_block Q2.out) (fun s=>by have:=HQ5.out;omega)).trans Q2.out)
   have T5:=b6 (T3.out.trans TS (fun i hi s=>by have:=HQ.out;have:=HQ5.out;omega))
   have HS5:=b6 (show qk<(w4.setCell ⟨q5,8,none⟩ (.slice (some ⟨qk,0,none⟩) 1 1)).heap.size from Nat.lt_of_lt_of_le HS4.out TS.size)
   clear TS K4 X2 H2 Q2 T3 RB HS4
   generalize w4.setCell ⟨q5,8,none⟩ (.slice (some ⟨qk,0,none⟩) 1 1)=w5 at*
   go_wp2_with (first|refine wpList_load_row rfl 28 _ rfl q5 rfl 28 _ (0,0) _ R5.out Tryz.underlying28 rfl l7 ?_|refine wpList_store_row rfl 28 _ _ rfl qr _ rfl rfl 28 _ Q5.out l7 (by rfl) (j4.one ⟨10,none,0,0,false,a,z,y,0,⟨#[]⟩,some ⟨qk,0,none⟩,1,1⟩) ?_|fail)
   refine bodyPost_ret (o9 rfl _ _ qr 28 _ (0,0) _ rfl (setRow_heap _ qr _ _ 28 (0,0) Q5.out) Tryz.underlying28 rfl (by kernel_rfl)) rfl ?_
   rw[<-HA.out]
   have TR:=g8 w5 qr (j4.arr ⟨10,none,0,0,false,a,z,y,0,⟨#[]⟩,some ⟨qk,0,none⟩,1,1⟩)
   refine⟨_,vn,rfl,?_,H5.out.row (by have:=HQ.out;omega) Q5.out,.inl rfl,(T5.out.trans TR (fun i hi e=>by have:=HQ.out;omega)).mono (fun _ _ e=>.inl e)⟩
   refine TN.one (((X5.out.kept TR (fun g hg e=>by have:=hB g hg;have:=HQ.out;omega))).more (fun g e=>.inl e)) 10 a z 0 false y ⟨#[]⟩ ⟨qk,0,none⟩ (g9 K5.out TR (fun g e s=>by obtain rfl:qk=g:=Option.some.inj e;have:=HQK.out;have:=HQ5.out;omega)) (fun g e=>?_)
   obtain rfl:qk=g:=Option.some.inj e
   exact .inr ⟨by have:=HQ.out;have:=HQ5.out;have:=HQK.out;omega,Nat.lt_of_lt_of_le HS5.out TR.size⟩
def Z8 (n:Int):j4:=⟨n,none,0,0,false,0,0,false,0,⟨#[]⟩,none,0,0⟩
theorem AZ (w:World)(B:Nat->Prop)(n:Int):TN w B (Z8 n) (.border n):=
 TN.mk (Z8 n) [] [] [] (Iq w) (fun g e=>by cases e) (He w) (fun g e=>by cases e) rfl (fun i c x e _=>by simp at e)
theorem Hf {w:World}{B:Nat->Prop}{f:Fl}{a:Option Addr}{n c:Nat}{l:List R2}(h:w.ownsRow 0 60 2 (.slice a n c) l.length (l4 l))(hb:∀g,(Value.slice a n c).ownBlock=some g->B g):TN w B (Y2 f.i a n c) (.cls f l):=
 TN.mk (Y2 f.i a n c) l [] [] h hb (He w) (fun g e=>by cases e) rfl (fun i c x e _=>by simp at e)
def Ed:PR (Nd×St)->PR (Option Nd×St)
 | .error e=>.error e
 | .ok (x,st)=>.ok (some x,st)
theorem Pl (b:Nat)(X:Px)(k0 k:Nat)(f:Fl)(vn:Value)(ns:List ByteArray)(op:Nat)(w:World)(h:PS w b X k f vn ns op)(hk:k<=1024)(h65:g7 X.R k=65):
 Calls Tryz.prog 112 #[.pointer (some ⟨b,0,none⟩),.int .i64 (k0:Nat)] w fun e w'=>J0 b X vn op (fun _=>False) w (.ok (.border 2,⟨k+1,f,ns⟩)) e w':=by
 have TA:=b6 (((tZ w).alloc (.cells j4.zero.arr 28)).mono (S':=fun g=>g=b) nE)
 have QB:=b6 (e8 w j4.zero.arr 28)
 have HP:=b6 (h.new ((tZ w).alloc (.cells j4.zero.arr 28)))
 have hlt:=h.lt
 clear h
 go_enter Tryz.func112,Tryz.ntmps112
 go_upto_region 1 with fail
 unfold j4.zero j4.arr at TA QB HP
 generalize w.alloc (.cells _ 28)=w1 at*
 obtain⟨q,hq⟩:∃q,q=w.heap.size:=⟨_,rfl⟩
 have HQ:=b6 (show w.heap.size<=q/\b<q by omega)
 rw[<-hq]at QB⊢
 clear hq
 go_wp2_with fail
 refine(o7 65 HP.out (by omega) h65).mono ?_
 rintro e ws ⟨rfl,hp,tt⟩
 replace QB:=b6 ((tt.block q (lt_of_block QB.out) (fun e=>by have:=HQ.out;omega)).trans QB.out)
 replace HP:=b6 hp
 replace TA:=b6 (TA.out.trans tt iE)
 clear hp tt h65
 go_wp2_with (first|refine wpList_store_row rfl 28 _ _ rfl q _ rfl rfl 28 _ QB.out l7 (by rfl) (j4.one (Z8 2)) ?_|fail)
 refine bodyPost_ret (o9 rfl _ _ q 28 _ (0,0) _ rfl (setRow_heap _ q _ _ 28 (0,0) QB.out) Tryz.underlying28 rfl (by kernel_rfl)) rfl ?_
 exact⟨Z8 2,vn,rfl,AZ _ _ _,HP.out.row (by have:=HQ.out;omega) QB.out,.inl rfl,(TA.out.trans (g8 _ _ _) (fun i hi e=>by have:=HQ.out;omega)).mono (fun _ _ e=>.inl e)⟩
theorem Mj (b:Nat)(X:Px)(k0 k:Nat)(f:Fl)(vn:Value)(ns:List ByteArray)(op:Nat)(w:World)(h:PS w b X k f vn ns op)(hk:k<=1024)(h65:g7 X.R k≠65)(h122:g7 X.R k=122):
 Calls Tryz.prog 112 #[.pointer (some ⟨b,0,none⟩),.int .i64 (k0:Nat)] w fun e w'=>J0 b X vn op (fun _=>False) w (.ok (.border 3,⟨k+1,f,ns⟩)) e w':=by
 have TA:=b6 (((tZ w).alloc (.cells j4.zero.arr 28)).mono (S':=fun g=>g=b) nE)
 have QB:=b6 (e8 w j4.zero.arr 28)
 have HP:=b6 (h.new ((tZ w).alloc (.cells j4.zero.arr 28)))
 have hlt:=h.lt
 clear h
 go_enter Tryz.func112,Tryz.ntmps112
 go_upto_region 1 with fail
 unfold j4.zero j4.arr at TA QB HP
 generalize w.alloc (.cells _ 28)=w1 at*
 obtain⟨q,hq⟩:∃q,q=w.heap.size:=⟨_,rfl⟩
 have HQ:=b6 (show w.heap.size<=q/\b<q by omega)
 rw[<-hq]at QB⊢
 clear hq
 go_wp2_with fail
 refine(o6 65 HP.out (by omega) h65).mono ?_
 rintro e ws ⟨rfl,hp,tt⟩
 replace QB:=b6 ((tt.block q (lt_of_block QB.out) (fun e=>by have:=HQ.out;omega)).trans QB.out)
 replace HP:=b6 hp
 replace TA:=b6 (TA.out.trans tt iE)
 clear hp tt h65
 go_wp2_with fail
 refine(o7 122 HP.out (by omega) h122).mono ?_
 rintro e ws ⟨rfl,hp,tt⟩
 replace QB:=b6 ((tt.block q (lt_of_block QB.out) (fun e=>by have:=HQ.out;omega)).trans QB.out)
 replace HP:=b6 hp
 replace TA:=b6 (TA.out.trans tt iE)
 clear hp tt h122
 go_wp2_with (first|refine wpList_store_row rfl 28 _ _ rfl q _ rfl rfl 28 _ QB.out l7 (by rfl) (j4.one (Z8 3)) ?_|fail)
 refine bodyPost_ret (o9 rfl _ _ q 28 _ (0,0) _ rfl (setRow_heap _ q _ _ 28 (0,0) QB.out) Tryz.underlying28 rfl (by kernel_rfl)) rfl ?_
 exact⟨Z8 3,vn,rfl,AZ _ _ _,HP.out.row (by have:=HQ.out;omega) QB.out,.inl rfl,(TA.out.trans (g8 _ _ _) (fun i hi e=>by have:=HQ.out;omega)).mono (fun _ _ e=>.inl e)⟩
theorem Pn (b:Nat)(X:Px)(k0 k:Nat)(f:Fl)(vn:Value)(ns:List ByteArray)(op:Nat)(w:World)(h:PS w b X k f vn ns op)(hk:k<=1024)(h65:g7 X.R k≠65)(h122:g7 X.R k≠122)(h98:g7 X.R k=98):
 Calls Tryz.prog 112 #[.pointer (some ⟨b,0,none⟩),.int .i64 (k0:Nat)] w fun e w'=>J0 b X vn op (fun _=>False) w (.ok (.border 6,⟨k+1,f,ns⟩)) e w':=by
 have TA:=b6 (((tZ w).alloc (.cells j4.zero.arr 28)).mono (S':=fun g=>g=b) nE)
 have QB:=b6 (e8 w j4.zero.arr 28)
 have HP:=b6 (h.new ((tZ w).alloc (.cells j4.zero.arr 28)))
 have hlt:=h.lt
 clear h
 go_enter Tryz.func112,Tryz.ntmps112
 go_upto_region 1 with fail
 unfold j4.zero j4.arr at TA QB HP
 generalize w.alloc (.cells _ 28)=w1 at*
 obtain⟨q,hq⟩:∃q,q=w.heap.size:=⟨_,rfl⟩
 have HQ:=b6 (show w.heap.size<=q/\b<q by omega)
 rw[<-hq]at QB⊢
 clear hq
 go_wp2_with fail
 refine(o6 65 HP.out (by omega) h65).mono ?_
 rintro e ws ⟨rfl,hp,tt⟩
 replace QB:=b6 ((tt.block q (lt_of_block QB.out) (fun e=>by have:=HQ.out;omega)).trans QB.out)
 replace HP:=b6 hp
 replace TA:=b6 (TA.out.trans tt iE)
 clear hp tt h65
 go_wp2_with fail
 refine(o6 122 HP.out (by omega) h122).mono ?_
 rintro e ws ⟨rfl,hp,tt⟩
 replace QB:=b6 ((tt.block q (lt_of_block QB.out) (fun e=>by have:=HQ.out;omega)).trans QB.out)
 replace HP:=b6 hp
 replace TA:=b6 (TA.out.trans tt iE)
 clear hp tt h122
 go_wp2_with fail
 refine(o7 98 HP.out (by omega) h98).mono ?_
 rintro e ws ⟨rfl,hp,tt⟩
 replace QB:=b6 ((tt.block q (lt_of_block QB.out) (fun e=>by have:=HQ.out;omega)).trans QB.out)
 replace HP:=b6 hp
 replace TA:=b6 (TA.out.trans tt iE)
 clear hp tt h98
 go_wp2_with (first|refine wpList_store_row rfl 28 _ _ rfl q _ rfl rfl 28 _ QB.out l7 (by rfl) (j4.one (Z8 6)) ?_|fail)
 refine bodyPost_ret (o9 rfl _ _ q 28 _ (0,0) _ rfl (setRow_heap _ q _ _ 28 (0,0) QB.out) Tryz.underlying28 rfl (by kernel_rfl)) rfl ?_
 exact⟨Z8 6,vn,rfl,AZ _ _ _,HP.out.row (by have:=HQ.out;omega) QB.out,.inl rfl,(TA.out.trans (g8 _ _ _) (fun i hi e=>by have:=HQ.out;omega)).mono (fun _ _ e=>.inl e)⟩
theorem Pm (b:Nat)(X:Px)(k0 k:Nat)(f:Fl)(vn:Value)(ns:List ByteArray)(op:Nat)(w:World)(h:PS w b X k f vn ns op)(hk:k<=1024)(h65:g7 X.R k≠65)(h122:g7 X.R k≠122)(h98:g7 X.R k≠98)(h66:g7 X.R k=66):
 Calls Tryz.prog 112 #[.pointer (some ⟨b,0,none⟩),.int .i64 (k0:Nat)] w fun e w'=>J0 b X vn op (fun _=>False) w (.ok (.border 7,⟨k+1,f,ns⟩)) e w':=by
 have TA:=b6 (((tZ w).alloc (.cells j4.zero.arr 28)).mono (S':=fun g=>g=b) nE)
 have QB:=b6 (e8 w j4.zero.arr 28)
 have HP:=b6 (h.new ((tZ w).alloc (.cells j4.zero.arr 28)))
 have hlt:=h.lt
 clear h
 go_enter Tryz.func112,Tryz.ntmps112
 go_upto_region 1 with fail
 unfold j4.zero j4.arr at TA QB HP
 generalize w.alloc (.cells _ 28)=w1 at*
 obtain⟨q,hq⟩:∃q,q=w.heap.size:=⟨_,rfl⟩
 have HQ:=b6 (show w.heap.size<=q/\b<q by omega)
 rw[<-hq]at QB⊢
 clear hq
 go_wp2_with fail
 refine(o6 65 HP.out (by omega) h65).mono ?_
 rintro e ws ⟨rfl,hp,tt⟩
 replace QB:=b6 ((tt.block q (lt_of_block QB.out) (fun e=>by have:=HQ.out;omega)).trans QB.out)
 replace HP:=b6 hp
 replace TA:=b6 (TA.out.trans tt iE)
 clear hp tt h65
 go_wp2_with fail
 refine(o6 122 HP.out (by omega) h122).mono ?_
 rintro e ws ⟨rfl,hp,tt⟩
 replace QB:=b6 ((tt.block q (lt_of_block QB.out) (fun e=>by have:=HQ.out;omega)).trans QB.out)
 replace HP:=b6 hp
 replace TA:=b6 (TA.out.trans tt iE)
 clear hp tt h122
 go_wp2_with fail
 refine(o6 98 HP.out (by omega) h98).mono ?_
 rintro e ws ⟨rfl,hp,tt⟩
 replace QB:=b6 ((tt.block q (lt_of_block QB.out) (fun e=>by have:=HQ.out;omega)).trans QB.out)
 replace HP:=b6 hp
 replace TA:=b6 (TA.out.trans tt iE)
 clear hp tt h98
 go_wp2_with fail
 refine(o7 66 HP.out (by omega) h66).mono ?_
 rintro e ws ⟨rfl,hp,tt⟩
 replace QB:=b6 ((tt.block q (lt_of_block QB.out) (fun e=>by have:=HQ.out;omega)).trans QB.out)
 replace HP:=b6 hp
 replace TA:=b6 (TA.out.trans tt iE)
 clear hp tt h66
 go_wp2_with (first|refine wpList_store_row rfl 28 _ _ rfl q _ rfl rfl 28 _ QB.out l7 (by rfl) (j4.one (Z8 7)) ?_|fail)
 refine bodyPost_ret (o9 rfl _ _ q 28 _ (0,0) _ rfl (setRow_heap _ q _ _ 28 (0,0) QB.out) Tryz.underlying28 rfl (by kernel_rfl)) rfl ?_
 exact⟨Z8 7,vn,rfl,AZ _ _ _,HP.out.row (by have:=HQ.out;omega) QB.out,.inl rfl,(TA.out.trans (g8 _ _ _) (fun i hi e=>by have:=HQ.out;omega)).mono (fun _ _ e=>.inl e)⟩
def Wf (f:Fl)(ns:List ByteArray):PR (List R2×Option Int×Nat)->PR (Nd×St)
 | .error e=>.error e
 | .ok (l,_,k1)=>.ok (.cls f (s9 l),⟨k1,f,ns⟩)
theorem RZ (b:Nat)(X:Px)(k0 k:Nat)(f:Fl)(vn:Value)(ns:List ByteArray)(op:Nat)(w:World)(h:PS w b X k f vn ns op)(hX:X.Good)(hk:k<=X.R.length)(hk0:k0<=X.R.length)(h65:g7 X.R k≠65)(h122:g7 X.R k≠122)(h98:g7 X.R k≠98)(h66:g7 X.R k≠66):
 Calls Tryz.prog 112 #[.pointer (some ⟨b,0,none⟩),.int .i64 (k0:Nat)] w fun e w'=>J0 b X vn op (fun _=>False) w (Wf f ns (L3 X.R b8 k0 k)) e w':=by
 have TA:=b6 (((tZ w).alloc (.cells j4.zero.arr 28)).mono (S':=fun g=>g=b) nE)
 have QB:=b6 (e8 w j4.zero.arr 28)
 have HP:=b6 (h.new ((tZ w).alloc (.cells j4.zero.arr 28)))
 have hlt:=h.lt
 have KE:=b6 (fun w' hp=>EO b X k0 k f vn ns op w' hp hX hk hk0)
 have hk:k<=1024:=by have:=hX.lenR;omega
 obtain⟨A,hA⟩:∃A,A=Wf f ns (L3 X.R b8 k0 k):=⟨_,rfl⟩
 have HA:=b6 hA.symm
 rw[<-hA]
 clear h hA hk0
 generalize L3 X.R b8 k0 k=M at*
 go_enter Tryz.func112,Tryz.ntmps112
 go_upto_region 1 with fail
 unfold j4.zero j4.arr at TA QB HP
 generalize w.alloc (.cells _ 28)=w1 at*
 obtain⟨q,hq⟩:∃q,q=w.heap.size:=⟨_,rfl⟩
 have HQ:=b6 (show w.heap.size<=q/\b<q by omega)
 rw[<-hq]at QB⊢
 clear hq
 go_wp2_with fail
 refine(o6 65 HP.out (by omega) h65).mono ?_
 rintro e ws ⟨rfl,hp,tt⟩
 replace QB:=b6 ((tt.block q (lt_of_block QB.out) (fun e=>by have:=HQ.out;omega)).trans QB.out)
 replace HP:=b6 hp
 replace TA:=b6 (TA.out.trans tt iE)
 clear hp tt h65
 go_wp2_with fail
 refine(o6 122 HP.out (by omega) h122).mono ?_
 rintro e ws ⟨rfl,hp,tt⟩
 replace QB:=b6 ((tt.block q (lt_of_block QB.out) (fun e=>by have:=HQ.out;omega)).trans QB.out)
 replace HP:=b6 hp
 replace TA:=b6 (TA.out.trans tt iE)
 clear hp tt h122
 go_wp2_with fail
 refine(o6 98 HP.out (by omega) h98).mono ?_
 rintro e ws ⟨rfl,hp,tt⟩
 replace QB:=b6 ((tt.block q (lt_of_block QB.out) (fun e=>by have:=HQ.out;omega)).trans QB.out)
 replace HP:=b6 hp
 replace TA:=b6 (TA.out.trans tt iE)
 clear hp tt h98
 go_wp2_with fail
 refine(o6 66 HP.out (by omega) h66).mono ?_
 rintro e ws ⟨rfl,hp,tt⟩
 replace QB:=b6 ((tt.block q (lt_of_block QB.out) (fun e=>by have:=HQ.out;omega)).trans QB.out)
 replace HP:=b6 hp
 replace TA:=b6 (TA.out.trans tt iE)
 clear hp tt h66
 have KE2:=b6 (KE.out _ HP.out)
 clear KE
 match M with
 | .error (ec,ej)=>
   unfold W4 u6 at KE2
   go_wp2_with fail
   refine KE2.out.mono ?_
   rintro e w2 ⟨rfl,tt⟩
   replace TA:=b6 (TA.out.trans tt iE)
   clear tt KE2
   go_wp2
   refine⟨rfl,?_⟩
   rw[<-HA.out]
   exact⟨rfl,TA.out.mono (fun _ _ e=>.inl e)⟩
 | .ok (l,o,k1)=>
   unfold W4 at KE2
   simp only at KE2
   generalize Option.isSome o=oo at KE2
   go_wp2_with fail
   refine KE2.out.mono ?_
   rintro e w2 ⟨v,rfl,ho,hn,hp,tt⟩
   obtain⟨a2,c2,hv⟩:=e9 ho
   subst hv
   have O:=b6 ho
   have N:=b6 (fun g e=>Nat.le_trans TA.out.size (hn g e))
   replace QB:=b6 ((tt.block q (lt_of_block QB.out) (fun e=>by have:=HQ.out;omega)).trans QB.out)
   replace HP:=b6 hp
   replace TA:=b6 (TA.out.trans tt iE)
   have K5:=b6 (Au b X k1 f vn ns op a2 (s9 l).length c2 w2 hp)
   clear ho hn hp tt KE2
   go_wp2_with fail
   refine K5.out.mono ?_
   rintro e w3 ⟨rfl,t3⟩
   replace QB:=b6 ((t3.block q (lt_of_block QB.out) id).trans QB.out)
   replace HP:=b6 (HP.out.new t3)
   replace O:=b6 (g9 O.out t3 iE)
   replace TA:=b6 (TA.out.trans t3 nE)
   clear t3 K5
   unfold Y2 j4.arr
   go_wp2_with (first|refine wpList_store_row rfl 28 _ _ rfl q _ rfl rfl 28 _ QB.out l7 (by rfl) (j4.one (Y2 f.i a2 (s9 l).length c2)) ?_|fail)
   refine bodyPost_ret (o9 rfl _ _ q 28 _ (0,0) _ rfl (setRow_heap _ q _ _ 28 (0,0) QB.out) Tryz.underlying28 rfl (by kernel_rfl)) rfl ?_
   rw[<-HA.out]
   have TR:=g8 w3 q (Y2 f.i a2 (s9 l).length c2).arr
   have O2:=g9 O.out TR (fun g e s=>by
    subst s
    obtain⟨cs,fr,hh⟩:=j5 O.out g e
    rw[QB.out]at hh
    cases hh)
   exact⟨Y2 f.i a2 (s9 l).length c2,vn,rfl,Hf O2 (fun g e=>.inr ⟨N.out g e,by obtain⟨cs,fr,hh⟩:=j5 O2 g e;exact lt_of_block hh⟩),HP.out.row (by have:=HQ.out;omega) QB.out,.inl rfl,(TA.out.trans TR (fun i hi e=>by have:=HQ.out;omega)).mono (fun _ _ e=>.inl e)⟩
theorem Je (b:Nat)(X:Px)(k:Nat)(f:Fl)(vn:Value)(ns:List ByteArray)(op:Nat)(w:World)(h:PS w b X (k+1) f vn ns op)(hX:X.Good)(hk:k+1<=X.R.length):
 ∃r,u4 X.R b8 ⟨k,f,ns⟩=Ed r/\Calls Tryz.prog 112 #[.pointer (some ⟨b,0,none⟩),.int .i64 (k:Nat)] w fun e w'=>J0 b X vn op (fun _=>False) w r e w':=by
 have hk2:k+1<=1024:=by have:=hX.lenR;omega
 unfold u4 J7
 by_cases h65:g7 X.R (k+1)=65
 ·exact⟨.ok (.border 2,⟨k+1+1,f,ns⟩),by rw[if_pos h65];rfl,Pl b X k (k+1) f vn ns op w h hk2 h65⟩
 rw[if_neg h65]
 by_cases h122:g7 X.R (k+1)=122
 ·exact⟨.ok (.border 3,⟨k+1+1,f,ns⟩),by rw[if_pos h122];rfl,Mj b X k (k+1) f vn ns op w h hk2 h65 h122⟩
 rw[if_neg h122]
 by_cases h98:g7 X.R (k+1)=98
 ·exact⟨.ok (.border 6,⟨k+1+1,f,ns⟩),by rw[if_pos h98];rfl,Pn b X k (k+1) f vn ns op w h hk2 h65 h122 h98⟩
 rw[if_neg h98]
 by_cases h66:g7 X.R (k+1)=66
 ·exact⟨.ok (.border 7,⟨k+1+1,f,ns⟩),by rw[if_pos h66];rfl,Pm b X k (k+1) f vn ns op w h hk2 h65 h122 h98 h66⟩
 rw[if_neg h66]
 refine⟨_,?_,RZ b X k (k+1) f vn ns op w h hX hk (by omega) h65 h122 h98 h66⟩
 dsimp only
 cases L3 X.R b8 k (k+1)with
 |error e=>rfl
 |ok r=>rfl
def UL (kind:Int)(a:Option Addr)(n c:Nat):j4:=⟨kind,none,0,0,false,0,0,false,0,⟨#[]⟩,a,n,c⟩
theorem VQ (kind:Int)(a:Option Addr)(c:Nat)(w:World):
 Calls Tryz.prog 70 #[.int .i64 kind,.slice a 0 c] w fun e w'=>e=.returned (.agg (Z8 0).arr)/\b7 (fun _=>False) w w':=by
 have TA:=b6 ((tZ w).alloc (.cells j4.zero.arr 28))
 have QB:=b6 (e8 w j4.zero.arr 28)
 go_enter Tryz.func70,Tryz.ntmps70
 go_upto_region 1 with fail
 unfold j4.zero j4.arr at TA QB
 generalize w.alloc (.cells _ 28)=w1 at*
 obtain⟨q,hq⟩:∃q,q=w.heap.size:=⟨_,rfl⟩
 have HQ:=b6 (show w.heap.size<=q by omega)
 rw[<-hq]at QB⊢
 clear hq
 go_wp2_with (first|refine wpList_store_row rfl 28 _ _ rfl q _ rfl rfl 28 _ QB.out l7 (by rfl) (j4.one (Z8 0)) ?_|fail)
 refine bodyPost_ret (o9 rfl _ _ q 28 _ (0,0) _ rfl (setRow_heap _ q _ _ 28 (0,0) QB.out) Tryz.underlying28 rfl (by kernel_rfl)) rfl ?_
 exact⟨rfl,TA.out.trans (g8 _ _ _) (fun i hi e=>by have:=HQ.out;omega)⟩
theorem VS (kind:Int)(a:Option Addr)(n c:Nat)(w:World)(hn:2<=n):
 Calls Tryz.prog 70 #[.int .i64 kind,.slice a n c] w fun e w'=>e=.returned (.agg (UL kind a n c).arr)/\b7 (fun _=>False) w w':=by
 have TA:=b6 ((tZ w).alloc (.cells j4.zero.arr 28))
 have QB:=b6 (e8 w j4.zero.arr 28)
 have h0:((n:Int)==0)=false:=beq_eq_false_iff_ne.2 (by omega)
 have h1:((n:Int)==1)=false:=beq_eq_false_iff_ne.2 (by omega)
 go_enter Tryz.func70,Tryz.ntmps70
 go_upto_region 1 with fail
 unfold j4.zero j4.arr at TA QB
 generalize w.alloc (.cells _ 28)=w1 at*
 obtain⟨q,hq⟩:∃q,q=w.heap.size:=⟨_,rfl⟩
 have HQ:=b6 (show w.heap.size<=q by omega)
 rw[<-hq]at QB⊢
 clear hq
 go_wp2_with (first|refine wpList_store_row rfl 28 _ _ rfl q _ rfl rfl 28 _ QB.out l7 (by rfl) (j4.one (UL kind a n c)) ?_|fail)
 refine bodyPost_ret (o9 rfl _ _ q 28 _ (0,0) _ rfl (setRow_heap _ q _ _ 28 (0,0) QB.out) Tryz.underlying28 rfl (by kernel_rfl)) rfl ?_
 exact⟨rfl,TA.out.trans (g8 _ _ _) (fun i hi e=>by have:=HQ.out;omega)⟩
theorem VR (kind:Int)(g cc:Nat)(c:j4)(w:World)(hg:g<w.heap.size)(hc:∀j u,c.list[j]? =some u->w.cell? ⟨g,j,none⟩=some u):
 Calls Tryz.prog 70 #[.int .i64 kind,.slice (some ⟨g,0,none⟩) 1 cc] w fun e w'=>e=.returned (.agg c.arr)/\b7 (fun _=>False) w w':=by
 obtain⟨ck,sa,sn,sc,fo,mi,ma,la,ca,nm,ka,kn,kc⟩:=c
 have TA:=b6 ((tZ w).alloc (.cells j4.zero.arr 28))
 have QB:=b6 (e8 w j4.zero.arr 28)
 have d0:=((TA.out.cell (p:=⟨g,0,none⟩) hg id)).trans (hc 0 _ rfl)
 have d1:=((TA.out.cell (p:=⟨g,1,none⟩) hg id)).trans (hc 1 _ rfl)
 have d2:=((TA.out.cell (p:=⟨g,2,none⟩) hg id)).trans (hc 2 _ rfl)
 have d3:=((TA.out.cell (p:=⟨g,3,none⟩) hg id)).trans (hc 3 _ rfl)
 have d4:=((TA.out.cell (p:=⟨g,4,none⟩) hg id)).trans (hc 4 _ rfl)
 have d5:=((TA.out.cell (p:=⟨g,5,none⟩) hg id)).trans (hc 5 _ rfl)
 have d6:=((TA.out.cell (p:=⟨g,6,none⟩) hg id)).trans (hc 6 _ rfl)
 have d7:=((TA.out.cell (p:=⟨g,7,none⟩) hg id)).trans (hc 7 _ rfl)
 have d8:=((TA.out.cell (p:=⟨g,8,none⟩) hg id)).trans (hc 8 _ rfl)
 go_enter Tryz.func70,Tryz.ntmps70
 go_upto_region 1 with fail
 unfold j4.zero j4.arr at TA QB d0 d1 d2 d3 d4 d5 d6 d7 d8
 generalize w.alloc (.cells _ 28)=w1 at*
 obtain⟨q,hq⟩:∃q,q=w.heap.size:=⟨_,rfl⟩
 have HQ:=b6 (show w.heap.size<=q by omega)
 rw[<-hq]at QB⊢
 clear hq hc hg
 go_wp2_with (first|refine wpList_store_row rfl 28 _ _ rfl q _ rfl rfl 28 _ QB.out l7 (by rfl) (j4.one ⟨ck,sa,sn,sc,fo,mi,ma,la,ca,nm,ka,kn,kc⟩) ?_|fail)
 refine bodyPost_ret (o9 rfl _ _ q 28 _ (0,0) _ rfl (setRow_heap _ q _ _ 28 (0,0) QB.out) Tryz.underlying28 rfl (by kernel_rfl)) rfl ?_
 exact⟨rfl,TA.out.trans (g8 _ _ _) (fun i hi e=>by have:=HQ.out;omega)⟩
theorem Ir (kind:Int)(v:Value)(cs:List j4)(l:List Nd)(B:Nat->Prop)(w:World)(hv:CL w v cs)(hb:∀g,v.ownBlock=some g->B g)(hl:cs.length=l.length)
 (ht:∀(i:Nat) (c:j4) (x:Nd),cs[i]? =some c->l[i]? =some x->TN w B c x):
 Calls Tryz.prog 70 #[.int .i64 kind,v] w fun e w'=>∃c,e=.returned (.agg c.arr)/\TN w' B c (Z0 kind l)/\b7 (fun _=>False) w w':=by
 obtain⟨a,cap,rfl⟩:=e9 hv
 match l,cs,hl with
 | [],[],_=>exact(VQ kind a cap w).mono (fun e w' h=>⟨_,h.1,AZ _ _ 0,h.2⟩)
 | [x],[c],_=>
   rcases hv.2 with⟨h0,_⟩|⟨g,cap2,cur,hv2,_,hh,_⟩
   ·cases h0
   ·cases hv2
    refine(VR kind g cap c w (lt_of_block hh) (fun j u e=>?_)).mono (fun e w' h=>⟨c,h.1,(ht 0 c x rfl rfl).new h.2,h.2⟩)
    have:=hv.cells (g:=g) rfl j u (by simpa using e)
    rwa [Ai]at this
 |x::y::l,c::d::cs,hl=>exact(VS kind a _ cap w (by simp)).mono (fun e w' h=>⟨_,h.1,TN.mk (UL kind a _ cap) [] (x::y::l) (c::d::cs) (Iq w') (fun g e=>by cases e) (g9 hv h.2 iE) hb hl (fun i c' x' e1 e2=>(ht i c' x' e1 e2).new h.2),h.2⟩)
end Go.Proofs.YtdhhcefmmojcmaaGreatDoor
