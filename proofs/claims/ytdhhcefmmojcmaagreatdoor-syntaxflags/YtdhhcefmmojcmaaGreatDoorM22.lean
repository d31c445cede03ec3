/- Texts of this proof, one behind the other. -/
import Derived.Test.YtdhhcefmmojcmaaGreatDoorM21
import Derived.Test.YtdhhcefmmojcmaaGreatDoorM20
set_option maxRecDepth 100000
set_option maxHeartbeats 0
set_option linter.unusedVariables false
namespace Go.Proofs.YtdhhcefmmojcmaaGreatDoor
open Go.RowKit Go.Lib
def Ny (b:Nat)(X:Px)(op:Nat)(alt:A8):Prop:=∀(w:World) (k:Nat) (f:Fl) (vn:Value) (ns:List ByteArray),PS w b X k f vn ns op->k<=X.R.length->ns.length<=k+1->Calls Tryz.prog 45 #[.pointer (some ⟨b,0,none⟩)] w fun e w'=>J0 b X vn op (fun _=>False) w (alt ⟨k,f,ns⟩) e w'
theorem Aw (w:World)(b:Nat)(x y z u:Value):b7 (fun g=>g=b) w ((((w.setCell ⟨b,6,none⟩ x).setCell ⟨b,7,none⟩ y).setCell ⟨b,8,none⟩ z).setCell ⟨b,9,none⟩ u):=
 (((d9 w b 6 x).trans (d9 _ b 7 y) iE).trans (d9 _ b 8 z) iE).trans (d9 _ b 9 u) iE
theorem PS.setf {w:World}{b:Nat}{X:Px}{k:Nat}{f:Fl}{vn:Value}{ns:List ByteArray}{op:Nat}(h:PS w b X k f vn ns op)(g:Fl):PS ((((w.setCell ⟨b,6,none⟩ (.bool g.i)).setCell ⟨b,7,none⟩ (.bool g.m)).setCell ⟨b,8,none⟩ (.bool g.s)).setCell ⟨b,9,none⟩ (.bool g.u)) b X k g vn ns op:=
 h.turn (i8 (i8 (i8 (i8 h.cells 6 _) 7 _) 8 _) 9 _) (Aw _ _ _ _ _ _)
theorem PS.c69 {w:World}{b:Nat}{X:Px}{k:Nat}{f:Fl}{vn:Value}{ns:List ByteArray}{op:Nat}(h:PS w b X k f vn ns op):(w.cell? ⟨b,6,none⟩=some (.bool f.i)/\w.cell? ⟨b,7,none⟩=some (.bool f.m)/\w.cell? ⟨b,8,none⟩=some (.bool f.s)/\w.cell? ⟨b,9,none⟩=some (.bool f.u))/\(w.frozen? ⟨b,6,none⟩=false/\w.frozen? ⟨b,7,none⟩=false/\w.frozen? ⟨b,8,none⟩=false/\w.frozen? ⟨b,9,none⟩=false):=⟨⟨h.c6,h.c7,h.c8,h.c9⟩,h.fr 6,h.fr 7,h.fr 8,h.fr 9⟩
theorem PS.notN {w:World}{b:Nat}{X:Px}{k:Nat}{f:Fl}{vn:Value}{ns:List ByteArray}{op:Nat}(h:PS w b X k f vn ns op){q:Nat}{cs:Array Value}{t:TypeId}{fr:Nat×Nat}(hq:w.heap[q]? =some (.cells cs t fr))(ht:t≠9):¬vn.ownBlock=some q:=by
 intro e
 obtain⟨cs2,fr2,hh⟩:=j5 h.names q e
 rw[hq]at hh
 cases hh
 exact ht rfl
theorem Cw (b:Nat)(X:Px)(k0 k:Nat)(f g:Fl)(vn:Value)(ns:List ByteArray)(op:Nat)(alt:A8)(w:World)(h:PS w b X k f vn ns op)(hX:X.Good)(hk:k<=X.R.length)(hk0:k0<=X.R.length)(hop:op<=31)(hN:ns.length<=k+1)(hF:Ah X.R alt)(hs:Ny b X (op+1) alt):
 Calls Tryz.prog 129 #[.pointer (some ⟨b,0,none⟩),.int .i64 (k0:Nat),.agg g.arr] w fun e w'=>J0 b X vn op (fun _=>False) w (D8 X.R alt k0 ⟨k,f,ns⟩ g) e w':=by
 obtain⟨A,hA⟩:∃A,A=D8 X.R alt k0 ⟨k,f,ns⟩ g:=⟨_,rfl⟩
 have HA:=b6 hA.symm
 rw[<-hA]
 unfold D8 at HA
 simp only at HA
 clear hA
 have HKP:=b6 (show k0<X.P.length by have:=hX.lenP;omega)
 have HRl:=b6 hX.lenR
 have HK:=b6 hk
 have HN:=b6 hN
 have HS:=b6 hs
 have HFW:=b6 (fun x s1 (e:alt ⟨k,g,ns⟩=.ok (x,s1))=>(hF ⟨k,g,ns⟩ x s1 hk e).2)
 obtain⟨fi,fm,fs,fu⟩:=f
 obtain⟨gi,gm,gs,gu⟩:=g
 change Calls Tryz.prog 129 #[.pointer (some ⟨b,0,none⟩),.int .i64 (k0:Nat),.agg #[.bool gi,.bool gm,.bool gs,.bool gu]] _ _
 have T0:=b6 ((tZ w).alloc (.cells #[.bool gi,.bool gm,.bool gs,.bool gu] 38))
 have B0:=b6 (e8 w #[.bool gi,.bool gm,.bool gs,.bool gu] 38)
 have S0:(w.alloc (.cells #[.bool gi,.bool gm,.bool gs,.bool gu] 38)).heap.size=w.heap.size+1:=by simp
 have T1:=b6 ((tZ (w.alloc (.cells #[.bool gi,.bool gm,.bool gs,.bool gu] 38))).alloc (.cells #[.int .i64 0,.slice none 0 0,.bool false,.int .i64 0,.int .i64 0,.bool false,.int .i64 0,.string ⟨#[]⟩,.slice none 0 0] 28))
 have Q1:=b6 (e8 (w.alloc (.cells #[.bool gi,.bool gm,.bool gs,.bool gu] 38)) #[.int .i64 0,.slice none 0 0,.bool false,.int .i64 0,.int .i64 0,.bool false,.int .i64 0,.string ⟨#[]⟩,.slice none 0 0] 28)
 have B1:=b6 ((T1.out.block w.heap.size (by rw[S0];omega) id).trans B0.out)
 have T2:=b6 (T0.out.trans T1.out iE)
 have HP:=b6 (h.new T2.out)
 have hlt:=h.lt
 rw[S0]at Q1
 clear h hX hk hk0 hs hF hN T0 T1 B0 S0
 go_enter Tryz.func129,Tryz.ntmps129
 go_upto_region 1 with fail
 have HSZ:=b6 (show((w.alloc (.cells #[.bool gi,.bool gm,.bool gs,.bool gu] 38)).alloc (.cells #[.int .i64 0,.slice none 0 0,.bool false,.int .i64 0,.int .i64 0,.bool false,.int .i64 0,.string ⟨#[]⟩,.slice none 0 0] 28)).heap.size=w.heap.size+2 by simp)
 generalize (w.alloc (.cells #[.bool gi,.bool gm,.bool gs,.bool gu] 38)).alloc (.cells #[.int .i64 0,.slice none 0 0,.bool false,.int .i64 0,.int .i64 0,.bool false,.int .i64 0,.string ⟨#[]⟩,.slice none 0 0] 28)=w1 at*
 obtain⟨qg,hqg⟩:∃q,q=w.heap.size:=⟨_,rfl⟩
 obtain⟨qr,hqr⟩:∃q,q=w.heap.size+1:=⟨_,rfl⟩
 have HQ:=b6 (show w.heap.size<=qg/\qg<qr/\b<qg/\qr<w1.heap.size from⟨by omega,by omega,by omega,by rw[HSZ.out];omega⟩)
 rw[<-hqr]at Q1
 rw[<-hqg]at B1
 have e1:qg+1=qr:=by omega
 rw[<-hqg]
 simp only[e1]
 clear hqg hqr e1 hlt HSZ
 obtain⟨⟨c6,c7,c8,c9⟩,f6,f7,f8,f9⟩:=HP.out.c69
 dsimp only at c6 c7 c8 c9
 go_upto_region 2 with(first|refine wpList_store_row rfl 38 _ _ rfl w1.heap.size _ rfl rfl 38 _ (e8 w1 _ 38) F0 (by rfl) (Fl.one ⟨fi,fm,fs,fu⟩) ?_|fail)
 have TA:=b6 (((tZ w1).alloc (.cells #[.bool false,.bool false,.bool false,.bool false] 38)).trans (g8 (w1.alloc (.cells #[.bool false,.bool false,.bool false,.bool false] 38)) w1.heap.size #[.bool fi,.bool fm,.bool fs,.bool fu]) (fun i hi e=>by omega))
 have RA:=b6 (setRow_heap (w1.alloc (.cells #[.bool false,.bool false,.bool false,.bool false] 38)) w1.heap.size _ #[.bool fi,.bool fm,.bool fs,.bool fu] 38 (0,0) (e8 w1 _ 38))
 obtain⟨qa,hqa⟩:∃q,q=w1.heap.size:=⟨_,rfl⟩
 have HQA:=b6 (show qr<qa by have:=HQ.out;omega)
 change Hid (b7 _ _ ((w1.alloc (Obj.cells #[.bool false,.bool false,.bool false,.bool false] 38)).setRow w1.heap.size #[.bool fi,.bool fm,.bool fs,.bool fu]))at TA
 change Hid (((w1.alloc (Obj.cells #[.bool false,.bool false,.bool false,.bool false] 38)).setRow w1.heap.size #[.bool fi,.bool fm,.bool fs,.bool fu]).heap[w1.heap.size]? =some (Obj.cells #[.bool fi,.bool fm,.bool fs,.bool fu] 38 (0,0)))at RA
 rw[<-hqa]at TA RA⊢
 have H2:=b6 (HP.out.new TA.out)
 replace T2:=b6 (T2.out.trans TA.out iE)
 have B2:=b6 ((TA.out.block qg (lt_of_block B1.out) id).trans B1.out)
 have Q2:=b6 ((TA.out.block qr (lt_of_block Q1.out) id).trans Q1.out)
 clear TA hqa c6 c7 c8 c9 f6 f7 f8 f9 HP B1 Q1
 generalize (w1.alloc (.cells #[.bool false,.bool false,.bool false,.bool false] 38)).setRow qa #[.bool fi,.bool fm,.bool fs,.bool fu]=w2 at*
 obtain⟨⟨c6,c7,c8,c9⟩,f6,f7,f8,f9⟩:=H2.out.c69
 dsimp only at c6 c7 c8 c9
 have HF:=b6 (H2.out.setf ⟨gi,gm,gs,gu⟩)
 dsimp only at HF
 have TS:=Aw w2 b (.bool gi) (.bool gm) (.bool gs) (.bool gu)
 have B3:=b6 ((TS.block qg (lt_of_block B2.out) (fun e=>by have:=HQ.out;omega)).trans B2.out)
 have Q3:=b6 ((TS.block qr (lt_of_block Q2.out) (fun e=>by have:=HQ.out;omega)).trans Q2.out)
 have A3:=b6 ((TS.block qa (lt_of_block RA.out) (fun e=>by have:=HQ.out;have:=HQA.out;omega)).trans RA.out)
 have T3:=b6 ((T2.out.mono (S':=fun g=>g=b∨vn.ownBlock=some g) nE).trans TS (fun _ _ e=>.inl e))
 clear TS
 go_upto_region 3 with(first|refine wpList_load_row rfl 38 _ rfl qg rfl 38 _ (0,0) _ B2.out Tryz.underlying38 rfl F0 ?_|fail)
 clear c6 c7 c8 c9 f6 f7 f8 f9 H2 B2 Q2 RA T2
 generalize (((w2.setCell ⟨b,6,none⟩ (.bool gi)).setCell ⟨b,7,none⟩ (.bool gm)).setCell ⟨b,8,none⟩ (.bool gs)).setCell ⟨b,9,none⟩ (.bool gu)=wf at*
 have c11:=HF.out.c11
 have f11:=HF.out.fr 11
 have H3:=b6 (HF.out.setop (op+1))
 have TS:=d9 wf b 11 (.int .i64 ((op+1:Nat):Int))
 have e11:((op+1:Nat):Int)=(op:Int)+1:=by omega
 rw[e11]at H3 TS
 replace B3:=b6 ((TS.block qg (lt_of_block B3.out) (fun e=>by have:=HQ.out;omega)).trans B3.out)
 replace Q3:=b6 ((TS.block qr (lt_of_block Q3.out) (fun e=>by have:=HQ.out;omega)).trans Q3.out)
 replace A3:=b6 ((TS.block qa (lt_of_block A3.out) (fun e=>by have:=HQ.out;have:=HQA.out;omega)).trans A3.out)
 replace T3:=b6 (T3.out.trans TS (fun _ _ e=>.inl e))
 clear TS e11
 go_upto_region 4 with fail
 clear c11 f11 HF
 generalize wf.setCell ⟨b,11,none⟩ (.int .i64 ((op:Int)+1))=w3 at*
 have KS:=b6 (HS.out w3 k ⟨gi,gm,gs,gu⟩ vn ns H3.out HK.out HN.out)
 have HLV:=b6 (show w.heap.size<=w3.heap.size from T3.out.size)
 clear HS HK
 generalize alt ⟨k,⟨gi,gm,gs,gu⟩,ns⟩=r at*
 match r with
 | .error (ec,ej)=>
   unfold J0 u6 at KS
   go_wp2_with fail
   refine KS.out.mono ?_
   rintro e w4 ⟨rfl,tt⟩
   have T4:=b6 (T3.out.trans tt iE)
   clear tt KS
   go_wp2
   refine⟨rfl,?_⟩
   rw[<-HA.out]
   exact⟨rfl,T4.out⟩
 | .ok (x,⟨k1,f1,ns1⟩)=>
   have hk1:k1<=1024:=by have:=HFW.out x _ rfl;have:=HRl.out;simp only at*;omega
   unfold J0 at KS
   simp only at HA
   clear HFW
   go_wp2_with fail
   refine KS.out.mono ?_
   rintro e w4 ⟨c,vn',rfl,htn,hp,hvn,tt⟩
   have H4:=b6 hp
   have HVN:=b6 hvn
   have X4:=b6 htn
   have T4:=b6 (T3.out.trans tt iE)
   have Q4:=b6 ((tt.block qr (lt_of_block Q3.out) (fun e=>by rcases e with e|e;(have:=HQ.out;omega);exact H3.out.notN Q3.out (by decide) e)).trans Q3.out)
   have A4:=b6 ((tt.block qa (lt_of_block A3.out) (fun e=>by rcases e with e|e;(have:=HQ.out;have:=HQA.out;omega);exact H3.out.notN A3.out (by decide) e)).trans A3.out)
   have HS4:=b6 (show qa<w3.heap.size/\w3.heap.size<=w4.heap.size from⟨lt_of_block A3.out,tt.size⟩)
   clear hp htn tt hvn KS H3 Q3 A3 B3 T3
   go_upto_region 5 with(first|refine wpList_store_row rfl 28 _ _ rfl w4.heap.size _ rfl rfl 28 _ (e8 w4 _ 28) l7 (by rfl) (j4.one c) ?_|fail)
   have TA:=b6 (((tZ w4).alloc (.cells #[.int .i64 0,.slice none 0 0,.bool false,.int .i64 0,.int .i64 0,.bool false,.int .i64 0,.string ⟨#[]⟩,.slice none 0 0] 28)).trans (g8 (w4.alloc (.cells #[.int .i64 0,.slice none 0 0,.bool false,.int .i64 0,.int .i64 0,.bool false,.int .i64 0,.string ⟨#[]⟩,.slice none 0 0] 28)) w4.heap.size c.arr) (fun i hi e=>by omega))
   have R5:=b6 (setRow_heap (w4.alloc (.cells #[.int .i64 0,.slice none 0 0,.bool false,.int .i64 0,.int .i64 0,.bool false,.int .i64 0,.string ⟨#[]⟩,.slice none 0 0] 28)) w4.heap.size _ c.arr 28 (0,0) (e8 w4 _ 28))
   obtain⟨q8,hq8⟩:∃q,q=w4.heap.size:=⟨_,rfl⟩
   have HQ8:=b6 (show qa<q8 by have:=HS4.out;omega)
   rw[<-hq8]at TA R5⊢
   have H5:=b6 (H4.out.new TA.out)
   have X5:=b6 (X4.out.new TA.out)
   have T5:=b6 (T4.out.trans TA.out nE)
   have Q5:=b6 ((TA.out.block qr (lt_of_block Q4.out) id).trans Q4.out)
   have A5:=b6 ((TA.out.block qa (lt_of_block A4.out) id).trans A4.out)
   have HS5:=b6 (show w4.heap.size<=((w4.alloc (.cells #[.int .i64 0,.slice none 0 0,.bool false,.int .i64 0,.int .i64 0,.bool false,.int .i64 0,.string ⟨#[]⟩,.slice none 0 0] 28)).setRow q8 c.arr).heap.size from TA.out.size)
   clear TA hq8 H4 X4 T4 Q4 A4
   generalize (w4.alloc (.cells #[.int .i64 0,.slice none 0 0,.bool false,.int .i64 0,.int .i64 0,.bool false,.int .i64 0,.string ⟨#[]⟩,.slice none 0 0] 28)).setRow q8 c.arr=w5 at*
   by_cases h41:g7 X.R k1=41
   ·rw[if_pos h41]at HA
    go_wp2_with fail
    refine(o7 41 H5.out (by omega) h41).mono ?_
    rintro e w6 ⟨rfl,hp,tt⟩
    have H6:=b6 hp
    have X6:=b6 (X5.out.kept tt (fun g _ e=>H5.out.nt (.inl e)))
    have T6:=b6 (T5.out.trans tt (fun _ _ e=>.inl e))
    have Q6:=b6 ((tt.block qr (lt_of_block Q5.out) (fun e=>by have:=HQ.out;omega)).trans Q5.out)
    have A6:=b6 ((tt.block qa (lt_of_block A5.out) (fun e=>by have:=HQ.out;have:=HQA.out;omega)).trans A5.out)
    have R6:=b6 ((tt.block q8 (lt_of_block R5.out) (fun e=>by have:=HQ.out;have:=HQA.out;have:=HQ8.out;omega)).trans R5.out)
    have HS6:=b6 (show w4.heap.size<=w6.heap.size from Nat.le_trans HS5.out tt.size)
    clear hp tt H5 X5 T5 Q5 A5 R5 h41 HS5
    have c11:=H6.out.c11
    have f11:=H6.out.fr 11
    have e11:((op+1:Nat):Int)=(op:Int)+1:=by omega
    rw[e11]at c11
    have H7:=b6 (H6.out.setop op)
    have TO:=d9 w6 b 11 (.int .i64 (op:Nat))
    have X7:=b6 (X6.out.kept TO (fun g _ e=>H6.out.nt (.inl e)))
    have T7:=b6 (T6.out.trans TO (fun _ _ e=>.inl e))
    have A7:=b6 ((TO.block qa (lt_of_block A6.out) (fun e=>by have:=HQ.out;have:=HQA.out;omega)).trans A6.out)
    have Q7:=b6 ((TO.block qr (lt_of_block Q6.out) (fun e=>by have:=HQ.out;omega)).trans Q6.out)
    have R7:=b6 ((TO.block q8 (lt_of_block R6.out) (fun e=>by have:=HQ.out;have:=HQA.out;have:=HQ8.out;omega)).trans R6.out)
    have HS7:=b6 (Nat.le_trans HS6.out TO.size)
    clear TO e11
    go_upto_region 8 with fail
    clear c11 f11 H6 X6 T6 Q6 A6 R6 HS6
    generalize w6.setCell ⟨b,11,none⟩ (.int .i64 (op:Nat))=w7 at*
    obtain⟨⟨c6,c7,c8,c9⟩,f6,f7,f8,f9⟩:=H7.out.c69
    have H8:=b6 (H7.out.setf ⟨fi,fm,fs,fu⟩)
    dsimp only at H8
    have TF:=Aw w7 b (.bool fi) (.bool fm) (.bool fs) (.bool fu)
    have X8:=b6 (X7.out.kept TF (fun g _ e=>H7.out.nt (.inl e)))
    have T8:=b6 (T7.out.trans TF (fun _ _ e=>.inl e))
    have Q8:=b6 ((TF.block qr (lt_of_block Q7.out) (fun e=>by have:=HQ.out;omega)).trans Q7.out)
    have R8:=b6 ((TF.block q8 (lt_of_block R7.out) (fun e=>by have:=HQ.out;have:=HQA.out;have:=HQ8.out;omega)).trans R7.out)
    have HS8:=b6 (Nat.le_trans HS7.out TF.size)
    clear TF
    go_upto_region 9 with(first|refine wpList_load_row rfl 38 _ rfl qa rfl 38 _ (0,0) _ A7.out Tryz.underlying38 rfl F0 ?_|fail)
    clear c6 c7 c8 c9 f6 f7 f8 f9 H7 X7 T7 Q7 A7 R7 HS7
    generalize (((w7.setCell ⟨b,6,none⟩ (.bool fi)).setCell ⟨b,7,none⟩ (.bool fm)).setCell ⟨b,8,none⟩ (.bool fs)).setCell ⟨b,9,none⟩ (.bool fu)=w8 at*
    go_wp2_with (first|refine wpList_load_row rfl 28 _ rfl q8 rfl 28 _ (0,0) _ R8.out Tryz.underlying28 rfl l7 ?_|refine wpList_store_row rfl 28 _ _ rfl qr _ rfl rfl 28 _ Q8.out l7 (by rfl) (j4.one c) ?_|fail)
    refine bodyPost_ret (o9 rfl _ _ qr 28 _ (0,0) _ rfl (setRow_heap _ qr _ _ 28 (0,0) Q8.out) Tryz.underlying28 rfl (by kernel_rfl)) rfl ?_
    rw[<-HA.out]
    have TR:=g8 w8 qr c.arr
    refine⟨c,vn',rfl,?_,H8.out.row (by have:=HQ.out;omega) Q8.out,?_,T8.out.trans TR (fun i hi e=>by have:=HQ.out;omega)⟩
    ·refine(X8.out.kept TR (fun g hg e=>?_)).more (fun g hg=>?_)
     ·rcases hg with hg|hg
      ·exact hg.elim
      ·have:=HQA.out;have:=HS4.out;omega
     ·rcases hg with hg|hg
      ·exact hg.elim
      ·have:=HLV.out;have:=HS8.out;have:=TR.size;exact .inr ⟨by omega,by omega⟩
    ·rcases HVN.out with e|⟨g,e1,e2⟩
     ·exact .inl e
     ·exact .inr ⟨g,e1,by have:=HLV.out;omega⟩
   ·rw[if_neg h41]at HA
    have KW:=b6 (fun w' hp=>A1 b X k1 f1 vn' ns1 (op+1) 25 k0 w' hp HKP.out)
    go_wp2_with fail
    refine(o6 41 H5.out (by omega) h41).mono ?_
    rintro e w6 ⟨rfl,hp,tt⟩
    have H6:=b6 hp
    have T6:=b6 (T5.out.trans tt (fun _ _ e=>.inl e))
    clear hp tt h41
    go_wp2_with fail
    refine(KW.out _ H6.out).mono ?_
    rintro e w7 ⟨rfl,t7⟩
    have T7:=b6 (T6.out.trans t7 nE)
    clear t7 KW
    go_wp2
    refine⟨rfl,?_⟩
    rw[<-HA.out]
    exact⟨rfl,T7.out⟩
def U5 (b:Nat)(X:Px)(vn:Value)(op:Nat)(B:Nat->Prop)(w:World):PR (Option Nd×St)->Ending->World->Prop
 | .error (c,j),e,w'=>e=u6 c (g7 X.P j)/\b7 (fun g=>g=b∨vn.ownBlock=some g) w w'
 | .ok (none,st),e,w'=>∃c vn',e=.returned (.tuple #[.agg (j4.arr c),.bool false])/\PS w' b X st.k st.f vn' st.ns op/\(vn'.ownBlock=vn.ownBlock∨∃g,vn'.ownBlock=some g/\w.heap.size<=g)/\b7 (fun g=>g=b∨vn.ownBlock=some g) w w'
 | .ok (some x,st),e,w'=>∃c vn',e=.returned (.tuple #[.agg (j4.arr c),.bool true])/\TN w' (fun g=>B g∨(w.heap.size<=g/\g<w'.heap.size)) c x/\PS w' b X st.k st.f vn' st.ns op/\(vn'.ownBlock=vn.ownBlock∨∃g,vn'.ownBlock=some g/\w.heap.size<=g)/\b7 (fun g=>g=b∨vn.ownBlock=some g) w w'
theorem Ky (b:Nat)(X:Px)(k:Nat)(f:Fl)(vn:Value)(ns:List ByteArray)(op:Nat)(w:World)(h:PS w b X k f vn ns op)(hX:X.Good)(hk:k<=X.R.length)(hc:g7 X.R k=94):
 Calls Tryz.prog 95 #[.pointer (some ⟨b,0,none⟩)] w fun e w'=>U5 b X vn op (fun _=>False) w (.ok (some (.border (if f.m then 4 else 2)),⟨k+1,f,ns⟩)) e w':=by
 have TA:=b6 (((tZ w).alloc (.cells j4.zero.arr 28)).mono (S':=fun g=>g=b) nE)
 have QB:=b6 (e8 w j4.zero.arr 28)
 have HP:=b6 (h.new ((tZ w).alloc (.cells j4.zero.arr 28)))
 have hlt:=h.lt
 have hk2:k<=1024:=by have:=hX.lenR;omega
 obtain⟨n,hn⟩:∃n:Int,n=(if f.m=true then 4 else 2):=⟨_,rfl⟩
 rw[<-hn]
 have HN:=b6 hn
 clear hn
 clear h
 go_enter Tryz.func95,Tryz.ntmps95
 go_upto_region 1 with fail
 unfold j4.zero j4.arr at TA QB HP
 generalize w.alloc (.cells _ 28)=w1 at*
 obtain⟨q,hq⟩:∃q,q=w.heap.size:=⟨_,rfl⟩
 have HQ:=b6 (show w.heap.size<=q/\b<q by omega)
 rw[<-hq]at QB⊢
 clear hq hlt
 have c5:=HP.out.c5
 go_wp2_with fail
 refine(s8 HP.out (by omega) 94 hc (by decide)).mono ?_
 rintro e w2 ⟨rfl,hp,tt⟩
 replace QB:=b6 ((tt.block q (lt_of_block QB.out) (fun e=>by have:=HQ.out;omega)).trans QB.out)
 replace HP:=b6 hp
 replace TA:=b6 (TA.out.trans tt iE)
 clear hp tt c5
 have c7:=HP.out.c7
 have KP:=b6 (JL f.m 4 2 w2)
 rw[<-HN.out]at KP
 clear HN
 generalize f.m=fm at*
 go_wp2_with fail
 refine KP.out.mono ?_
 rintro e w3 ⟨rfl,rfl⟩
 clear KP c7
 go_wp2_with (first|refine wpList_store_row rfl 28 _ _ rfl q _ rfl rfl 28 _ QB.out l7 (by rfl) (j4.one (Z8 n)) ?_|fail)
 refine bodyPost_ret (l8 rfl _ _ q 28 _ (0,0) _ rfl (setRow_heap _ q _ _ 28 (0,0) QB.out) Tryz.underlying28 rfl (by kernel_rfl)) rfl ?_
 exact⟨Z8 n,vn,rfl,AZ _ _ _,HP.out.row (by have:=HQ.out;omega) QB.out,.inl rfl,(TA.out.trans (g8 _ _ _) (fun i hi e=>by have:=HQ.out;omega)).mono (fun _ _ e=>.inl e)⟩
theorem IE (b:Nat)(X:Px)(k:Nat)(f:Fl)(vn:Value)(ns:List ByteArray)(op:Nat)(w:World)(h:PS w b X k f vn ns op)(hX:X.Good)(hk:k<=X.R.length)(hc:g7 X.R k=36):
 Calls Tryz.prog 95 #[.pointer (some ⟨b,0,none⟩)] w fun e w'=>U5 b X vn op (fun _=>False) w (.ok (some (.border (if f.m then 5 else 3)),⟨k+1,f,ns⟩)) e w':=by
 have TA:=b6 (((tZ w).alloc (.cells j4.zero.arr 28)).mono (S':=fun g=>g=b) nE)
 have QB:=b6 (e8 w j4.zero.arr 28)
 have HP:=b6 (h.new ((tZ w).alloc (.cells j4.zero.arr 28)))
 have hlt:=h.lt
 have hk2:k<=1024:=by have:=hX.lenR;omega
 obtain⟨n,hn⟩:∃n:Int,n=(if f.m=true then 5 else 3):=⟨_,rfl⟩
 rw[<-hn]
 have HN:=b6 hn
 clear hn
 clear h
 go_enter Tryz.func95,Tryz.ntmps95
 go_upto_region 1 with fail
 unfold j4.zero j4.arr at TA QB HP
 generalize w.alloc (.cells _ 28)=w1 at*
 obtain⟨q,hq⟩:∃q,q=w.heap.size:=⟨_,rfl⟩
 have HQ:=b6 (show w.heap.size<=q/\b<q by omega)
 rw[<-hq]at QB⊢
 clear hq hlt
 have c5:=HP.out.c5
 go_wp2_with fail
 refine(s8 HP.out (by omega) 36 hc (by decide)).mono ?_
 rintro e w2 ⟨rfl,hp,tt⟩
 replace QB:=b6 ((tt.block q (lt_of_block QB.out) (fun e=>by have:=HQ.out;omega)).trans QB.out)
 replace HP:=b6 hp
 replace TA:=b6 (TA.out.trans tt iE)
 clear hp tt c5
 have c7:=HP.out.c7
 have KP:=b6 (JL f.m 5 3 w2)
 rw[<-HN.out]at KP
 clear HN
 generalize f.m=fm at*
 go_wp2_with fail
 refine KP.out.mono ?_
 rintro e w3 ⟨rfl,rfl⟩
 clear KP c7
 go_wp2_with (first|refine wpList_store_row rfl 28 _ _ rfl q _ rfl rfl 28 _ QB.out l7 (by rfl) (j4.one (Z8 n)) ?_|fail)
 refine bodyPost_ret (l8 rfl _ _ q 28 _ (0,0) _ rfl (setRow_heap _ q _ _ 28 (0,0) QB.out) Tryz.underlying28 rfl (by kernel_rfl)) rfl ?_
 exact⟨Z8 n,vn,rfl,AZ _ _ _,HP.out.row (by have:=HQ.out;omega) QB.out,.inl rfl,(TA.out.trans (g8 _ _ _) (fun i hi e=>by have:=HQ.out;omega)).mono (fun _ _ e=>.inl e)⟩
theorem IF (b:Nat)(X:Px)(k:Nat)(f:Fl)(vn:Value)(ns:List ByteArray)(op:Nat)(w:World)(h:PS w b X k f vn ns op)(hX:X.Good)(hk:k<=X.R.length)(hc:g7 X.R k=92):
 Calls Tryz.prog 95 #[.pointer (some ⟨b,0,none⟩)] w fun e w'=>U5 b X vn op (fun _=>False) w (u4 X.R b8 ⟨k,f,ns⟩) e w':=by
 have TA:=b6 (((tZ w).alloc (.cells j4.zero.arr 28)).mono (S':=fun g=>g=b) nE)
 have QB:=b6 (e8 w j4.zero.arr 28)
 have HP:=b6 (h.new ((tZ w).alloc (.cells j4.zero.arr 28)))
 have hlt:=h.lt
 have hk2:k<=1024:=by have:=hX.lenR;omega
 have hk3:k+1<=X.R.length:=j9 hc (by decide)
 obtain⟨A,hA⟩:∃A,A=u4 X.R b8 ⟨k,f,ns⟩:=⟨_,rfl⟩
 rw[<-hA]
 have HA:=b6 hA
 clear hA
 have KE:=b6 (fun w' hp=>Je b X k f vn ns op w' hp hX hk3)
 clear h
 go_enter Tryz.func95,Tryz.ntmps95
 go_upto_region 1 with fail
 unfold j4.zero j4.arr at TA QB HP
 generalize w.alloc (.cells _ 28)=w1 at*
 obtain⟨q,hq⟩:∃q,q=w.heap.size:=⟨_,rfl⟩
 have HQ:=b6 (show w.heap.size<=q/\b<q by omega)
 rw[<-hq]at QB⊢
 clear hq hlt
 have c5:=HP.out.c5
 go_wp2_with fail
 refine(s8 HP.out (by omega) 92 hc (by decide)).mono ?_
 rintro e w2 ⟨rfl,hp,tt⟩
 replace QB:=b6 ((tt.block q (lt_of_block QB.out) (fun e=>by have:=HQ.out;omega)).trans QB.out)
 replace HP:=b6 hp
 replace TA:=b6 (TA.out.trans tt iE)
 clear hp tt c5
 obtain⟨r,hr,ke⟩:=KE.out _ HP.out
 have KE2:=b6 ke
 have HR:=b6 (HA.out.trans hr)
 clear hr ke KE HA
 match r with
 | .error (ec,ej)=>
   unfold J0 u6 at KE2
   go_wp2_with fail
   refine KE2.out.mono ?_
   rintro e w3 ⟨rfl,tt⟩
   replace TA:=b6 ((TA.out.mono (S':=fun g=>g=b∨vn.ownBlock=some g) (fun _ _ e=>.inl e)).trans tt iE)
   clear tt KE2
   go_wp2
   refine⟨rfl,?_⟩
   rw[HR.out]
   exact⟨rfl,TA.out⟩
 | .ok (x,st)=>
   unfold J0 at KE2
   simp only at KE2
   go_wp2_with fail
   refine KE2.out.mono ?_
   rintro e w3 ⟨c,vn',rfl,ht,hp,hn,tt⟩
   have HT:=b6 ht
   have HN:=b6 (show vn'.ownBlock=vn.ownBlock∨∃g,vn'.ownBlock=some g/\w.heap.size<=g from by rcases hn with e|⟨g,e,hg⟩;exact .inl e;exact .inr ⟨g,e,Nat.le_trans TA.out.size hg⟩)
   have HNQ:=b6 (show ¬vn.ownBlock=some q from HP.out.notN QB.out (by decide))
   have HW2:=b6 (lt_of_block QB.out)
   replace QB:=b6 ((tt.block q (lt_of_block QB.out) (fun e=>by have:=HQ.out;rcases e with e|e;omega;exact HNQ.out e)).trans QB.out)
   have SZ:=b6 TA.out.size
   replace HP:=b6 hp
   have NQ:=b6 (lt_of_block QB.out)
   have HTT:=b6 (TA.out.mono (S':=fun g=>g=b∨vn.ownBlock=some g) (fun _ _ e=>.inl e) |>.trans tt iE)
   have HSZ2:=b6 tt.size
   clear ht hp hn tt KE2 TA
   obtain⟨ck,sa,sn,sc,fo,mi,ma,la,ca,nm,ka,kn,kc⟩:=c
   unfold j4.arr
   go_wp2_with (first|refine wpList_store_row rfl 28 _ _ rfl q _ rfl rfl 28 _ QB.out l7 (by rfl) (j4.one ⟨ck,sa,sn,sc,fo,mi,ma,la,ca,nm,ka,kn,kc⟩) ?_|fail)
   refine bodyPost_ret (l8 rfl _ _ q 28 _ (0,0) _ rfl (setRow_heap _ q _ _ 28 (0,0) QB.out) Tryz.underlying28 rfl (by kernel_rfl)) rfl ?_
   have TR:=g8 w3 q #[.int .i64 ck,.slice sa sn sc,.bool fo,.int .i64 mi,.int .i64 ma,.bool la,.int .i64 ca,.string nm,.slice ka kn kc]
   have HS3:=TR.size
   rw[HR.out]
   exact⟨⟨ck,sa,sn,sc,fo,mi,ma,la,ca,nm,ka,kn,kc⟩,vn',rfl,(HT.out.kept TR (fun g hg e=>by have:=HW2.out;have:=HQ.out;rcases hg with hg|hg;exact hg.elim;omega)).more (fun g hg=>.inr (by have:=SZ.out;rcases hg with hg|hg;exact hg.elim;omega)),HP.out.row (by have:=HQ.out;omega) QB.out,HN.out,HTT.out.trans TR (fun i hi e=>by have:=HQ.out;omega)⟩
def SC (f:Fl)(ns:List ByteArray):PR (List R2×Nat)->PR (Option Nd×St)
 | .error e=>.error e
 | .ok (l,k1)=>.ok (some (.cls f (s9 l)),⟨k1,f,ns⟩)
theorem Kz (b:Nat)(X:Px)(k:Nat)(f:Fl)(vn:Value)(ns:List ByteArray)(op:Nat)(w:World)(h:PS w b X k f vn ns op)(hX:X.Good)(hk:k<=X.R.length)(hc:g7 X.R k=91):
 Calls Tryz.prog 95 #[.pointer (some ⟨b,0,none⟩)] w fun e w'=>U5 b X vn op (fun _=>False) w (SC f ns (E0 X.R b8 k (k+1))) e w':=by
 have TA:=b6 (((tZ w).alloc (.cells j4.zero.arr 28)).mono (S':=fun g=>g=b) nE)
 have QB:=b6 (e8 w j4.zero.arr 28)
 have HP:=b6 (h.new ((tZ w).alloc (.cells j4.zero.arr 28)))
 have hlt:=h.lt
 have hk2:k<=1024:=by have:=hX.lenR;omega
 have hk3:k+1<=X.R.length:=j9 hc (by decide)
 obtain⟨A,hA⟩:∃A,A=SC f ns (E0 X.R b8 k (k+1)):=⟨_,rfl⟩
 rw[<-hA]
 have HA:=b6 hA.symm
 clear hA
 have KI:=b6 (fun w' hp=>Ot b X k (k+1) f vn ns op w' hp hX hk3 hk)
 generalize E0 X.R b8 k (k+1)=M at*
 clear h
 go_enter Tryz.func95,Tryz.ntmps95
 go_upto_region 1 with fail
 unfold j4.zero j4.arr at TA QB HP
 generalize w.alloc (.cells _ 28)=w1 at*
 obtain⟨q,hq⟩:∃q,q=w.heap.size:=⟨_,rfl⟩
 have HQ:=b6 (show w.heap.size<=q/\b<q by omega)
 rw[<-hq]at QB⊢
 clear hq hlt
 have c5:=HP.out.c5
 go_wp2_with fail
 refine(s8 HP.out (by omega) 91 hc (by decide)).mono ?_
 rintro e w2 ⟨rfl,hp,tt⟩
 replace QB:=b6 ((tt.block q (lt_of_block QB.out) (fun e=>by have:=HQ.out;omega)).trans QB.out)
 replace HP:=b6 hp
 replace TA:=b6 (TA.out.trans tt iE)
 clear hp tt c5
 have KI2:=b6 (KI.out _ HP.out)
 clear KI
 match M with
 | .error (ec,ej)=>
   unfold Dm u6 at KI2
   go_wp2_with fail
   refine KI2.out.mono ?_
   rintro e w3 ⟨rfl,tt⟩
   replace TA:=b6 (TA.out.trans tt iE)
   clear tt KI2
   go_wp2
   refine⟨rfl,?_⟩
   rw[<-HA.out]
   exact⟨rfl,TA.out.mono (fun _ _ e=>.inl e)⟩
 | .ok (l,k1)=>
   unfold Dm at KI2
   simp only at KI2
   go_wp2_with fail
   refine KI2.out.mono ?_
   rintro e w3 ⟨v,rfl,ho,hn,hp,tt⟩
   obtain⟨a2,c2,hv⟩:=e9 ho
   subst hv
   have O:=b6 ho
   have N:=b6 (fun g e=>Nat.le_trans TA.out.size (hn g e))
   replace QB:=b6 ((tt.block q (lt_of_block QB.out) (fun e=>by have:=HQ.out;omega)).trans QB.out)
   replace HP:=b6 hp
   replace TA:=b6 (TA.out.trans tt iE)
   clear ho hn hp tt KI2
   have K5:=b6 (Au b X k1 f vn ns op a2 (s9 l).length c2 w3 HP.out)
   go_wp2_with fail
   refine K5.out.mono ?_
   rintro e w4 ⟨rfl,t4⟩
   replace QB:=b6 ((t4.block q (lt_of_block QB.out) id).trans QB.out)
   replace HP:=b6 (HP.out.new t4)
   replace O:=b6 (g9 O.out t4 iE)
   replace TA:=b6 (TA.out.trans t4 nE)
   clear t4 K5
   unfold Y2 j4.arr
   go_wp2_with (first|refine wpList_store_row rfl 28 _ _ rfl q _ rfl rfl 28 _ QB.out l7 (by rfl) (j4.one (Y2 f.i a2 (s9 l).length c2)) ?_|fail)
   refine bodyPost_ret (l8 rfl _ _ q 28 _ (0,0) _ rfl (setRow_heap _ q _ _ 28 (0,0) QB.out) Tryz.underlying28 rfl (by kernel_rfl)) rfl ?_
   rw[<-HA.out]
   have TR:=g8 w4 q (Y2 f.i a2 (s9 l).length c2).arr
   have O2:=g9 O.out TR (fun g e s=>by
    subst s
    obtain⟨cs,fr,hh⟩:=j5 O.out g e
    rw[QB.out]at hh
    cases hh)
   exact⟨Y2 f.i a2 (s9 l).length c2,vn,rfl,Hf O2 (fun g e=>.inr ⟨N.out g e,by obtain⟨cs,fr,hh⟩:=j5 O2 g e;exact lt_of_block hh⟩),HP.out.row (by have:=HQ.out;omega) QB.out,.inl rfl,(TA.out.trans TR (fun i hi e=>by have:=HQ.out;omega)).mono (fun _ _ e=>.inl e)⟩
theorem PV (b:Nat)(X:Px)(k:Nat)(f:Fl)(vn:Value)(ns:List ByteArray)(op:Nat)(w:World)(h:PS w b X k f vn ns op)(hX:X.Good)(hk:k<=X.R.length)(x:Int)(hc:g7 X.R k=x)(hx:x≠ -1)(h40:x≠40)(h91:x≠91)(h92:x≠92)(h46:x≠46)(h94:x≠94)(h36:x≠36):
 Calls Tryz.prog 95 #[.pointer (some ⟨b,0,none⟩)] w fun e w'=>U5 b X vn op (fun _=>False) w (.ok (some (.cls f (s9 [(x,x)])),⟨k+1,f,ns⟩)) e w':=by
 have TA:=b6 (((tZ w).alloc (.cells j4.zero.arr 28)).mono (S':=fun g=>g=b) nE)
 have QB:=b6 (e8 w j4.zero.arr 28)
 have HP:=b6 (h.new ((tZ w).alloc (.cells j4.zero.arr 28)))
 have hlt:=h.lt
 have hk2:k<=1024:=by have:=hX.lenR;omega
 have e40:(x==40)=false:=beq_eq_false_iff_ne.2 h40
 have e91:(x==91)=false:=beq_eq_false_iff_ne.2 h91
 have e92:(x==92)=false:=beq_eq_false_iff_ne.2 h92
 have e46:(x==46)=false:=beq_eq_false_iff_ne.2 h46
 have e94:(x==94)=false:=beq_eq_false_iff_ne.2 h94
 have e36:(x==36)=false:=beq_eq_false_iff_ne.2 h36
 clear h40 h91 h92 h46 h94 h36
 clear h
 go_enter Tryz.func95,Tryz.ntmps95
 go_upto_region 1 with fail
 unfold j4.zero j4.arr at TA QB HP
 generalize w.alloc (.cells _ 28)=w1 at*
 obtain⟨q,hq⟩:∃q,q=w.heap.size:=⟨_,rfl⟩
 have HQ:=b6 (show w.heap.size<=q/\b<q by omega)
 rw[<-hq]at QB⊢
 clear hq hlt
 have c5:=HP.out.c5
 go_wp2_with fail
 refine(s8 HP.out (by omega) x hc hx).mono ?_
 rintro e w2 ⟨rfl,hp,tt⟩
 replace QB:=b6 ((tt.block q (lt_of_block QB.out) (fun e=>by have:=HQ.out;omega)).trans QB.out)
 replace HP:=b6 hp
 replace TA:=b6 (TA.out.trans tt iE)
 clear hp tt c5
 have KO:=b6 (M8 x w2)
 go_wp2_with fail
 refine KO.out.mono ?_
 rintro e w3 ⟨v,rfl,ow⟩
 obtain⟨a2,c2,hv,_⟩:=ow.slice
 subst hv
 have O:=b6 ow.own
 have N:=b6 (fun g e=>Nat.le_trans TA.out.size (ow.new g e))
 replace QB:=b6 ((ow.touch.block q (lt_of_block QB.out) id).trans QB.out)
 replace HP:=b6 (HP.out.new ow.touch)
 replace TA:=b6 (TA.out.trans ow.touch nE)
 clear ow KO
 have K5:=b6 (Au b X (k+1) f vn ns op a2 (s9 [(x,x)]).length c2 w3 HP.out)
 go_wp2_with fail
 refine K5.out.mono ?_
 rintro e w4 ⟨rfl,t4⟩
 replace QB:=b6 ((t4.block q (lt_of_block QB.out) id).trans QB.out)
 replace HP:=b6 (HP.out.new t4)
 replace O:=b6 (g9 O.out t4 iE)
 replace TA:=b6 (TA.out.trans t4 nE)
 clear t4 K5
 unfold Y2 j4.arr
 go_wp2_with (first|refine wpList_store_row rfl 28 _ _ rfl q _ rfl rfl 28 _ QB.out l7 (by rfl) (j4.one (Y2 f.i a2 (s9 [(x,x)]).length c2)) ?_|fail)
 refine bodyPost_ret (l8 rfl _ _ q 28 _ (0,0) _ rfl (setRow_heap _ q _ _ 28 (0,0) QB.out) Tryz.underlying28 rfl (by kernel_rfl)) rfl ?_
 have TR:=g8 w4 q (Y2 f.i a2 (s9 [(x,x)]).length c2).arr
 have O2:=g9 O.out TR (fun g e s=>by
  subst s
  obtain⟨cs,fr,hh⟩:=j5 O.out g e
  rw[QB.out]at hh
  cases hh)
 exact⟨Y2 f.i a2 (s9 [(x,x)]).length c2,vn,rfl,Hf O2 (fun g e=>.inr ⟨N.out g e,by obtain⟨cs,fr,hh⟩:=j5 O2 g e;exact lt_of_block hh⟩),HP.out.row (by have:=HQ.out;omega) QB.out,.inl rfl,(TA.out.trans TR (fun i hi e=>by have:=HQ.out;omega)).mono (fun _ _ e=>.inl e)⟩
theorem KU (A:PR (Option Nd×St))(b:Nat)(X:Px)(k:Nat)(f:Fl)(vn:Value)(ns:List ByteArray)(op:Nat)(w:World)(h:PS w b X k f vn ns op)(hX:X.Good)(hk:k<=X.R.length)(hc:g7 X.R k=40)
 (KB:∀w',PS w' b X (k+1) f vn ns op->Calls Tryz.prog 109 #[.pointer (some ⟨b,0,none⟩),.int .i64 (k:Nat)] w' fun e w''=>U5 b X vn op (fun _=>False) w' A e w''):
 Calls Tryz.prog 95 #[.pointer (some ⟨b,0,none⟩)] w fun e w'=>U5 b X vn op (fun _=>False) w A e w':=by
 have TA:=b6 (((tZ w).alloc (.cells j4.zero.arr 28)).mono (S':=fun g=>g=b) nE)
 have QB:=b6 (e8 w j4.zero.arr 28)
 have HP:=b6 (h.new ((tZ w).alloc (.cells j4.zero.arr 28)))
 have hlt:=h.lt
 have hk2:k<=1024:=by have:=hX.lenR;omega
 have KI:=b6 KB
 obtain⟨M,hA⟩:∃M,M=A:=⟨_,rfl⟩
 have HA:=b6 hA
 rw[<-hA]at KI
 clear hA KB
 clear h
 go_enter Tryz.func95,Tryz.ntmps95
 go_upto_region 1 with fail
 unfold j4.zero j4.arr at TA QB HP
 generalize w.alloc (.cells _ 28)=w1 at*
 obtain⟨q,hq⟩:∃q,q=w.heap.size:=⟨_,rfl⟩
 have HQ:=b6 (show w.heap.size<=q/\b<q by omega)
 rw[<-hq]at QB⊢
 clear hq hlt
 have c5:=HP.out.c5
 go_wp2_with fail
 refine(s8 HP.out (by omega) 40 hc (by decide)).mono ?_
 rintro e w2 ⟨rfl,hp,tt⟩
 replace QB:=b6 ((tt.block q (lt_of_block QB.out) (fun e=>by have:=HQ.out;omega)).trans QB.out)
 replace HP:=b6 hp
 replace TA:=b6 (TA.out.trans tt iE)
 clear hp tt c5
 have KE2:=b6 (KI.out _ HP.out)
 clear KI
 match M with
 | .error (ec,ej)=>
   unfold U5 u6 at KE2
   go_wp2_with fail
   refine KE2.out.mono ?_
   rintro e w3 ⟨rfl,tt⟩
   replace TA:=b6 ((TA.out.mono (S':=fun g=>g=b∨vn.ownBlock=some g) (fun _ _ e=>.inl e)).trans tt iE)
   clear tt KE2
   go_wp2
   refine⟨rfl,?_⟩
   rw[<-HA.out]
   exact⟨rfl,TA.out⟩
 | .ok (none,st)=>
   unfold U5 at KE2
   simp only at KE2
   go_wp2_with fail
   refine KE2.out.mono ?_
   rintro e w3 ⟨c,vn',rfl,hp,hn,tt⟩
   have HN:=b6 (show vn'.ownBlock=vn.ownBlock∨∃g,vn'.ownBlock=some g/\w.heap.size<=g from by rcases hn with e|⟨g,e,hg⟩;exact .inl e;exact .inr ⟨g,e,Nat.le_trans TA.out.size hg⟩)
   have HNQ:=b6 (show ¬vn.ownBlock=some q from HP.out.notN QB.out (by decide))
   have HW2:=b6 (lt_of_block QB.out)
   replace QB:=b6 ((tt.block q (lt_of_block QB.out) (fun e=>by have:=HQ.out;rcases e with e|e;omega;exact HNQ.out e)).trans QB.out)
   have SZ:=b6 TA.out.size
   replace HP:=b6 hp
   have HTT:=b6 (TA.out.mono (S':=fun g=>g=b∨vn.ownBlock=some g) (fun _ _ e=>.inl e) |>.trans tt iE)
   clear hp hn tt KE2 TA
   obtain⟨ck,sa,sn,sc,fo,mi,ma,la,ca,nm,ka,kn,kc⟩:=c
   unfold j4.arr
   go_wp2_with (first|refine wpList_store_row rfl 28 _ _ rfl q _ rfl rfl 28 _ QB.out l7 (by rfl) (j4.one ⟨ck,sa,sn,sc,fo,mi,ma,la,ca,nm,ka,kn,kc⟩) ?_|fail)
   refine bodyPost_ret (l8 rfl _ _ q 28 _ (0,0) _ rfl (setRow_heap _ q _ _ 28 (0,0) QB.out) Tryz.underlying28 rfl (by kernel_rfl)) rfl ?_
   have TR:=g8 w3 q #[.int .i64 ck,.slice sa sn sc,.bool fo,.int .i64 mi,.int .i64 ma,.bool la,.int .i64 ca,.string nm,.slice ka kn kc]
   have HS3:=TR.size
   rw[<-HA.out]
   exact⟨⟨ck,sa,sn,sc,fo,mi,ma,la,ca,nm,ka,kn,kc⟩,vn',rfl,HP.out.row (by have:=HQ.out;omega) QB.out,HN.out,HTT.out.trans TR (fun i hi e=>by have:=HQ.out;omega)⟩
 | .ok (some x,st)=>
   unfold U5 at KE2
   simp only at KE2
   go_wp2_with fail
   refine KE2.out.mono ?_
   rintro e w3 ⟨c,vn',rfl,ht,hp,hn,tt⟩
   have HT:=b6 ht
   have HN:=b6 (show vn'.ownBlock=vn.ownBlock∨∃g,vn'.ownBlock=some g/\w.heap.size<=g from by rcases hn with e|⟨g,e,hg⟩;exact .inl e;exact .inr ⟨g,e,Nat.le_trans TA.out.size hg⟩)
   have HNQ:=b6 (show ¬vn.ownBlock=some q from HP.out.notN QB.out (by decide))
   have HW2:=b6 (lt_of_block QB.out)
   replace QB:=b6 ((tt.block q (lt_of_block QB.out) (fun e=>by have:=HQ.out;rcases e with e|e;omega;exact HNQ.out e)).trans QB.out)
   have SZ:=b6 TA.out.size
   replace HP:=b6 hp
   have HTT:=b6 (TA.out.mono (S':=fun g=>g=b∨vn.ownBlock=some g) (fun _ _ e=>.inl e) |>.trans tt iE)
   clear ht hp hn tt KE2 TA
   obtain⟨ck,sa,sn,sc,fo,mi,ma,la,ca,nm,ka,kn,kc⟩:=c
   unfold j4.arr
   go_wp2_with (first|refine wpList_store_row rfl 28 _ _ rfl q _ rfl rfl 28 _ QB.out l7 (by rfl) (j4.one ⟨ck,sa,sn,sc,fo,mi,ma,la,ca,nm,ka,kn,kc⟩) ?_|fail)
   refine bodyPost_ret (l8 rfl _ _ q 28 _ (0,0) _ rfl (setRow_heap _ q _ _ 28 (0,0) QB.out) Tryz.underlying28 rfl (by kernel_rfl)) rfl ?_
   have TR:=g8 w3 q #[.int .i64 ck,.slice sa sn sc,.bool fo,.int .i64 mi,.int .i64 ma,.bool la,.int .i64 ca,.string nm,.slice ka kn kc]
   have HS3:=TR.size
   rw[<-HA.out]
   exact⟨⟨ck,sa,sn,sc,fo,mi,ma,la,ca,nm,ka,kn,kc⟩,vn',rfl,(HT.out.kept TR (fun g hg e=>by have:=HW2.out;have:=HQ.out;rcases hg with hg|hg;exact hg.elim;omega)).more (fun g hg=>.inr (by have:=SZ.out;rcases hg with hg|hg;exact hg.elim;omega)),HP.out.row (by have:=HQ.out;omega) QB.out,HN.out,HTT.out.trans TR (fun i hi e=>by have:=HQ.out;omega)⟩
end Go.Proofs.YtdhhcefmmojcmaaGreatDoor
