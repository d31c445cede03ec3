/- Texts of this proof, one behind the other. -/
import Derived.Test.YtdhhcefmmojcmaaGreatDoorWk
import Derived.Test.YtdhhcefmmojcmaaGreatDoorM18
set_option maxRecDepth 100000
set_option maxHeartbeats 0
set_option linter.unusedVariables false
namespace Go.Proofs.YtdhhcefmmojcmaaGreatDoor
open Go.RowKit Go.Lib
theorem Qt (b:Nat)(X:Px)(k0 k:Nat)(f:Fl)(op:Nat)(vN vn:Value)(w:World)(h:DS w b X k f op vN vn 0 0)(hk:k<=X.R.length)(hR:X.R.length<=1024)(y:Int)(hc:g7 X.R k=y)(n1:y<33)(hj:k0<X.P.length):
 Calls Tryz.prog 101 #[.pointer (some ⟨b,0,none⟩),.int .i64 (k0:Nat)] w fun e w'=>E4 b X f op vN vn w (.error (20,k0)) e w':=by
 have HJ:=b6 hj
 clear hj
 have KP:=b6 (j6 b X k f op vN vn 0 0 0 w h (by omega) (by omega))
 rw[Nat.add_zero,hc]at KP
 have HD:=b6 h
 obtain⟨k1,hk1⟩:∃k1,k1=k+1:=⟨_,rfl⟩
 have hwk:IntKind.i64.wrap ((k:Int)+1)=(k1:Int):=by rw[IntKind.wrap_i64];omega
 try rw[<-hk1]
 clear h hc hk1
 unfold E4
 go_enter Tryz.func101,Tryz.ntmps101
 go_wp2_with fail
 refine KP.out.mono ?_
 rintro e w1 ⟨rfl,nq,rfl⟩
 replace HD:=b6 (HD.out.new ((tZ w).drewN nq))
 have HT:=b6 ((b7.refl (fun g=>g=b) w).drewN nq)
 clear KP
 generalize w.drewN nq=w1 at*
 have c2:w1.cell? ⟨b,2,none⟩=some (.int .i64 ((k:Nat):Int)):=HD.out.c 2 _ rfl
 have f2:=HD.out.fr 2
 have HS:=b6 (HD.out.setk k1)
 have TS:=b6 (b7.trans (S:=fun g=>g=b) HT.out (d9 w1 b 2 (.int .i64 (k1:Int))) iE)
 go_upto_region 3 with fail
 clear c2 f2 HD HT
 generalize w1.setCell ⟨b,2,none⟩ (.int .i64 (k1:Int))=w2 at*
 go_wp2_with fail
 refine(j7 b X k1 f op vN vn 20 k0 w2 HS.out HJ.out).mono ?_
 rintro e w3 ⟨rfl,d3,t3⟩
 have D3:=b6 d3
 have T3:=b6 (TS.out.trans t3 iE)
 clear d3 t3
 go_wp2
 refine bodyPost_ret (results_tmp2 rfl _ _ _) rfl ?_
 exact⟨.slice none 0 0,[],-1,rfl,I5 w3,Nat.zero_le _,fun g e=>(by cases e),D3.out,T3.out⟩
theorem NY (b:Nat)(X:Px)(k0 k:Nat)(f:Fl)(op:Nat)(vN vn:Value)(w:World)(h:DS w b X k f op vN vn 0 0)(hk:k<=X.R.length)(hR:X.R.length<=1024)(y:Int)(hc:g7 X.R k=y)(n1:¬y<33)(n2:y>126)(hj:k0<X.P.length):
 Calls Tryz.prog 101 #[.pointer (some ⟨b,0,none⟩),.int .i64 (k0:Nat)] w fun e w'=>E4 b X f op vN vn w (.error (20,k0)) e w':=by
 have HJ:=b6 hj
 clear hj
 have KP:=b6 (j6 b X k f op vN vn 0 0 0 w h (by omega) (by omega))
 rw[Nat.add_zero,hc]at KP
 have HD:=b6 h
 obtain⟨k1,hk1⟩:∃k1,k1=k+1:=⟨_,rfl⟩
 have hwk:IntKind.i64.wrap ((k:Int)+1)=(k1:Int):=by rw[IntKind.wrap_i64];omega
 try rw[<-hk1]
 clear h hc hk1
 unfold E4
 go_enter Tryz.func101,Tryz.ntmps101
 go_wp2_with fail
 refine KP.out.mono ?_
 rintro e w1 ⟨rfl,nq,rfl⟩
 replace HD:=b6 (HD.out.new ((tZ w).drewN nq))
 have HT:=b6 ((b7.refl (fun g=>g=b) w).drewN nq)
 clear KP
 generalize w.drewN nq=w1 at*
 have c2:w1.cell? ⟨b,2,none⟩=some (.int .i64 ((k:Nat):Int)):=HD.out.c 2 _ rfl
 have f2:=HD.out.fr 2
 have HS:=b6 (HD.out.setk k1)
 have TS:=b6 (b7.trans (S:=fun g=>g=b) HT.out (d9 w1 b 2 (.int .i64 (k1:Int))) iE)
 go_upto_region 3 with fail
 clear c2 f2 HD HT
 generalize w1.setCell ⟨b,2,none⟩ (.int .i64 (k1:Int))=w2 at*
 go_wp2_with fail
 refine(j7 b X k1 f op vN vn 20 k0 w2 HS.out HJ.out).mono ?_
 rintro e w3 ⟨rfl,d3,t3⟩
 have D3:=b6 d3
 have T3:=b6 (TS.out.trans t3 iE)
 clear d3 t3
 go_wp2
 refine bodyPost_ret (results_tmp2 rfl _ _ _) rfl ?_
 exact⟨.slice none 0 0,[],-1,rfl,I5 w3,Nat.zero_le _,fun g e=>(by cases e),D3.out,T3.out⟩
theorem Qs (b:Nat)(X:Px)(k0 k:Nat)(f:Fl)(op:Nat)(vN vn:Value)(w:World)(h:DS w b X k f op vN vn 0 0)(hk:k<=X.R.length)(hR:X.R.length<=1024)(y:Int)(hc:g7 X.R k=y)(n1:¬y<33)(n2:¬y>126)(m0:y≠112)(m1:y≠80)(m2:y≠120)(m3:y≠100)(m4:y≠115)(m5:y≠119)(m6:y≠68)(m7:y≠83)(m8:y≠87)(m9:y≠110)(m10:y≠116)(m11:y≠114)(m12:y≠102)(m13:y≠118)(a1:y≥48)(a2:y<=57)(hj:k0<X.P.length):
 Calls Tryz.prog 101 #[.pointer (some ⟨b,0,none⟩),.int .i64 (k0:Nat)] w fun e w'=>E4 b X f op vN vn w (.error (20,k0)) e w':=by
 have q0:(y==112)=false:=beq_eq_false_iff_ne.2 m0
 have q1:(y==80)=false:=beq_eq_false_iff_ne.2 m1
 have q2:(y==120)=false:=beq_eq_false_iff_ne.2 m2
 have q3:(y==100)=false:=beq_eq_false_iff_ne.2 m3
 have q4:(y==115)=false:=beq_eq_false_iff_ne.2 m4
 have q5:(y==119)=false:=beq_eq_false_iff_ne.2 m5
 have q6:(y==68)=false:=beq_eq_false_iff_ne.2 m6
 have q7:(y==83)=false:=beq_eq_false_iff_ne.2 m7
 have q8:(y==87)=false:=beq_eq_false_iff_ne.2 m8
 have q9:(y==110)=false:=beq_eq_false_iff_ne.2 m9
 have q10:(y==116)=false:=beq_eq_false_iff_ne.2 m10
 have q11:(y==114)=false:=beq_eq_false_iff_ne.2 m11
 have q12:(y==102)=false:=beq_eq_false_iff_ne.2 m12
 have q13:(y==118)=false:=beq_eq_false_iff_ne.2 m13
 clear m0 m1 m2 m3 m4 m5 m6 m7 m8 m9 m10 m11 m12 m13
 have HJ:=b6 hj
 clear hj
 have KP:=b6 (j6 b X k f op vN vn 0 0 0 w h (by omega) (by omega))
 rw[Nat.add_zero,hc]at KP
 have HD:=b6 h
 obtain⟨k1,hk1⟩:∃k1,k1=k+1:=⟨_,rfl⟩
 have hwk:IntKind.i64.wrap ((k:Int)+1)=(k1:Int):=by rw[IntKind.wrap_i64];omega
 try rw[<-hk1]
 clear h hc hk1
 unfold E4
 go_enter Tryz.func101,Tryz.ntmps101
 go_wp2_with fail
 refine KP.out.mono ?_
 rintro e w1 ⟨rfl,nq,rfl⟩
 replace HD:=b6 (HD.out.new ((tZ w).drewN nq))
 have HT:=b6 ((b7.refl (fun g=>g=b) w).drewN nq)
 clear KP
 generalize w.drewN nq=w1 at*
 have c2:w1.cell? ⟨b,2,none⟩=some (.int .i64 ((k:Nat):Int)):=HD.out.c 2 _ rfl
 have f2:=HD.out.fr 2
 have HS:=b6 (HD.out.setk k1)
 have TS:=b6 (b7.trans (S:=fun g=>g=b) HT.out (d9 w1 b 2 (.int .i64 (k1:Int))) iE)
 go_upto_region 3 with fail
 clear c2 f2 HD HT
 generalize w1.setCell ⟨b,2,none⟩ (.int .i64 (k1:Int))=w2 at*
 go_wp2_with fail
 refine(j7 b X k1 f op vN vn 20 k0 w2 HS.out HJ.out).mono ?_
 rintro e w3 ⟨rfl,d3,t3⟩
 have D3:=b6 d3
 have T3:=b6 (TS.out.trans t3 iE)
 clear d3 t3
 have O:=b6 (s6 w3 87 y y)
 go_wp2
 refine bodyPost_ret (results_tmp2 rfl _ _ _) rfl ?_
 exact⟨_,[(y,y)],y,rfl,O.out.own,Nat.le_refl _,fun g e=>Nat.le_trans T3.out.size (O.out.new g e),D3.out.new O.out.touch,T3.out.trans O.out.touch nE⟩
theorem SI (b:Nat)(X:Px)(k0 k:Nat)(f:Fl)(op:Nat)(vN vn:Value)(w:World)(h:DS w b X k f op vN vn 0 0)(hk:k<=X.R.length)(hR:X.R.length<=1024)(y:Int)(hc:g7 X.R k=y)(n1:¬y<33)(n2:¬y>126)(m0:y≠112)(m1:y≠80)(m2:y≠120)(m3:y≠100)(m4:y≠115)(m5:y≠119)(m6:y≠68)(m7:y≠83)(m8:y≠87)(m9:y≠110)(m10:y≠116)(m11:y≠114)(m12:y≠102)(m13:y≠118)(a1:¬y<=57)(a0:y≥48)(a3:y≥97)(a4:y<=122)(hj:k0<X.P.length):
 Calls Tryz.prog 101 #[.pointer (some ⟨b,0,none⟩),.int .i64 (k0:Nat)] w fun e w'=>E4 b X f op vN vn w (.error (20,k0)) e w':=by
 have q0:(y==112)=false:=beq_eq_false_iff_ne.2 m0
 have q1:(y==80)=false:=beq_eq_false_iff_ne.2 m1
 have q2:(y==120)=false:=beq_eq_false_iff_ne.2 m2
 have q3:(y==100)=false:=beq_eq_false_iff_ne.2 m3
 have q4:(y==115)=false:=beq_eq_false_iff_ne.2 m4
 have q5:(y==119)=false:=beq_eq_false_iff_ne.2 m5
 have q6:(y==68)=false:=beq_eq_false_iff_ne.2 m6
 have q7:(y==83)=false:=beq_eq_false_iff_ne.2 m7
 have q8:(y==87)=false:=beq_eq_false_iff_ne.2 m8
 have q9:(y==110)=false:=beq_eq_false_iff_ne.2 m9
 have q10:(y==116)=false:=beq_eq_false_iff_ne.2 m10
 have q11:(y==114)=false:=beq_eq_false_iff_ne.2 m11
 have q12:(y==102)=false:=beq_eq_false_iff_ne.2 m12
 have q13:(y==118)=false:=beq_eq_false_iff_ne.2 m13
 clear m0 m1 m2 m3 m4 m5 m6 m7 m8 m9 m10 m11 m12 m13
 have HJ:=b6 hj
 clear hj
 have KP:=b6 (j6 b X k f op vN vn 0 0 0 w h (by omega) (by omega))
 rw[Nat.add_zero,hc]at KP
 have HD:=b6 h
 obtain⟨k1,hk1⟩:∃k1,k1=k+1:=⟨_,rfl⟩
 have hwk:IntKind.i64.wrap ((k:Int)+1)=(k1:Int):=by rw[IntKind.wrap_i64];omega
 try rw[<-hk1]
 clear h hc hk1
 unfold E4
 go_enter Tryz.func101,Tryz.ntmps101
 go_wp2_with fail
 refine KP.out.mono ?_
 rintro e w1 ⟨rfl,nq,rfl⟩
 replace HD:=b6 (HD.out.new ((tZ w).drewN nq))
 have HT:=b6 ((b7.refl (fun g=>g=b) w).drewN nq)
 clear KP
 generalize w.drewN nq=w1 at*
 have c2:w1.cell? ⟨b,2,none⟩=some (.int .i64 ((k:Nat):Int)):=HD.out.c 2 _ rfl
 have f2:=HD.out.fr 2
 have HS:=b6 (HD.out.setk k1)
 have TS:=b6 (b7.trans (S:=fun g=>g=b) HT.out (d9 w1 b 2 (.int .i64 (k1:Int))) iE)
 go_upto_region 3 with fail
 clear c2 f2 HD HT
 generalize w1.setCell ⟨b,2,none⟩ (.int .i64 (k1:Int))=w2 at*
 go_wp2_with fail
 refine(j7 b X k1 f op vN vn 20 k0 w2 HS.out HJ.out).mono ?_
 rintro e w3 ⟨rfl,d3,t3⟩
 have D3:=b6 d3
 have T3:=b6 (TS.out.trans t3 iE)
 clear d3 t3
 have O:=b6 (s6 w3 87 y y)
 go_wp2
 refine bodyPost_ret (results_tmp2 rfl _ _ _) rfl ?_
 exact⟨_,[(y,y)],y,rfl,O.out.own,Nat.le_refl _,fun g e=>Nat.le_trans T3.out.size (O.out.new g e),D3.out.new O.out.touch,T3.out.trans O.out.touch nE⟩
theorem SQ (b:Nat)(X:Px)(k0 k:Nat)(f:Fl)(op:Nat)(vN vn:Value)(w:World)(h:DS w b X k f op vN vn 0 0)(hk:k<=X.R.length)(hR:X.R.length<=1024)(y:Int)(hc:g7 X.R k=y)(n1:¬y<33)(n2:¬y>126)(m0:y≠112)(m1:y≠80)(m2:y≠120)(m3:y≠100)(m4:y≠115)(m5:y≠119)(m6:y≠68)(m7:y≠83)(m8:y≠87)(m9:y≠110)(m10:y≠116)(m11:y≠114)(m12:y≠102)(m13:y≠118)(a1:¬y<=57)(a0:y≥48)(a3:¬y≥97)(a4:y≥65)(a5:y<=90)(hj:k0<X.P.length):
 Calls Tryz.prog 101 #[.pointer (some ⟨b,0,none⟩),.int .i64 (k0:Nat)] w fun e w'=>E4 b X f op vN vn w (.error (20,k0)) e w':=by
 have q0:(y==112)=false:=beq_eq_false_iff_ne.2 m0
 have q1:(y==80)=false:=beq_eq_false_iff_ne.2 m1
 have q2:(y==120)=false:=beq_eq_false_iff_ne.2 m2
 have q3:(y==100)=false:=beq_eq_false_iff_ne.2 m3
 have q4:(y==115)=false:=beq_eq_false_iff_ne.2 m4
 have q5:(y==119)=false:=beq_eq_false_iff_ne.2 m5
 have q6:(y==68)=false:=beq_eq_false_iff_ne.2 m6
 have q7:(y==83)=false:=beq_eq_false_iff_ne.2 m7
 have q8:(y==87)=false:=beq_eq_false_iff_ne.2 m8
 have q9:(y==110)=false:=beq_eq_false_iff_ne.2 m9
 have q10:(y==116)=false:=beq_eq_false_iff_ne.2 m10
 have q11:(y==114)=false:=beq_eq_false_iff_ne.2 m11
 have q12:(y==102)=false:=beq_eq_false_iff_ne.2 m12
 have q13:(y==118)=false:=beq_eq_false_iff_ne.2 m13
 clear m0 m1 m2 m3 m4 m5 m6 m7 m8 m9 m10 m11 m12 m13
 have HJ:=b6 hj
 clear hj
 have KP:=b6 (j6 b X k f op vN vn 0 0 0 w h (by omega) (by omega))
 rw[Nat.add_zero,hc]at KP
 have HD:=b6 h
 obtain⟨k1,hk1⟩:∃k1,k1=k+1:=⟨_,rfl⟩
 have hwk:IntKind.i64.wrap ((k:Int)+1)=(k1:Int):=by rw[IntKind.wrap_i64];omega
 try rw[<-hk1]
 clear h hc hk1
 unfold E4
 go_enter Tryz.func101,Tryz.ntmps101
 go_wp2_with fail
 refine KP.out.mono ?_
 rintro e w1 ⟨rfl,nq,rfl⟩
 replace HD:=b6 (HD.out.new ((tZ w).drewN nq))
 have HT:=b6 ((b7.refl (fun g=>g=b) w).drewN nq)
 clear KP
 generalize w.drewN nq=w1 at*
 have c2:w1.cell? ⟨b,2,none⟩=some (.int .i64 ((k:Nat):Int)):=HD.out.c 2 _ rfl
 have f2:=HD.out.fr 2
 have HS:=b6 (HD.out.setk k1)
 have TS:=b6 (b7.trans (S:=fun g=>g=b) HT.out (d9 w1 b 2 (.int .i64 (k1:Int))) iE)
 go_upto_region 3 with fail
 clear c2 f2 HD HT
 generalize w1.setCell ⟨b,2,none⟩ (.int .i64 (k1:Int))=w2 at*
 go_wp2_with fail
 refine(j7 b X k1 f op vN vn 20 k0 w2 HS.out HJ.out).mono ?_
 rintro e w3 ⟨rfl,d3,t3⟩
 have D3:=b6 d3
 have T3:=b6 (TS.out.trans t3 iE)
 clear d3 t3
 have O:=b6 (s6 w3 87 y y)
 go_wp2
 refine bodyPost_ret (results_tmp2 rfl _ _ _) rfl ?_
 exact⟨_,[(y,y)],y,rfl,O.out.own,Nat.le_refl _,fun g e=>Nat.le_trans T3.out.size (O.out.new g e),D3.out.new O.out.touch,T3.out.trans O.out.touch nE⟩
theorem SJ (b:Nat)(X:Px)(k0 k:Nat)(f:Fl)(op:Nat)(vN vn:Value)(w:World)(h:DS w b X k f op vN vn 0 0)(hk:k<=X.R.length)(hR:X.R.length<=1024)(y:Int)(hc:g7 X.R k=y)(n1:¬y<33)(n2:¬y>126)(m0:y≠112)(m1:y≠80)(m2:y≠120)(m3:y≠100)(m4:y≠115)(m5:y≠119)(m6:y≠68)(m7:y≠83)(m8:y≠87)(m9:y≠110)(m10:y≠116)(m11:y≠114)(m12:y≠102)(m13:y≠118)(a1:¬y≥48)(a3:¬y≥97)(a4:¬y≥65):
 Calls Tryz.prog 101 #[.pointer (some ⟨b,0,none⟩),.int .i64 (k0:Nat)] w fun e w'=>E4 b X f op vN vn w (.ok ([(y,y)],some y,k+1)) e w':=by
 have q0:(y==112)=false:=beq_eq_false_iff_ne.2 m0
 have q1:(y==80)=false:=beq_eq_false_iff_ne.2 m1
 have q2:(y==120)=false:=beq_eq_false_iff_ne.2 m2
 have q3:(y==100)=false:=beq_eq_false_iff_ne.2 m3
 have q4:(y==115)=false:=beq_eq_false_iff_ne.2 m4
 have q5:(y==119)=false:=beq_eq_false_iff_ne.2 m5
 have q6:(y==68)=false:=beq_eq_false_iff_ne.2 m6
 have q7:(y==83)=false:=beq_eq_false_iff_ne.2 m7
 have q8:(y==87)=false:=beq_eq_false_iff_ne.2 m8
 have q9:(y==110)=false:=beq_eq_false_iff_ne.2 m9
 have q10:(y==116)=false:=beq_eq_false_iff_ne.2 m10
 have q11:(y==114)=false:=beq_eq_false_iff_ne.2 m11
 have q12:(y==102)=false:=beq_eq_false_iff_ne.2 m12
 have q13:(y==118)=false:=beq_eq_false_iff_ne.2 m13
 clear m0 m1 m2 m3 m4 m5 m6 m7 m8 m9 m10 m11 m12 m13
 have KP:=b6 (j6 b X k f op vN vn 0 0 0 w h (by omega) (by omega))
 rw[Nat.add_zero,hc]at KP
 have HD:=b6 h
 obtain⟨k1,hk1⟩:∃k1,k1=k+1:=⟨_,rfl⟩
 have hwk:IntKind.i64.wrap ((k:Int)+1)=(k1:Int):=by rw[IntKind.wrap_i64];omega
 try rw[<-hk1]
 clear h hc hk1
 unfold E4
 go_enter Tryz.func101,Tryz.ntmps101
 go_wp2_with fail
 refine KP.out.mono ?_
 rintro e w1 ⟨rfl,nq,rfl⟩
 replace HD:=b6 (HD.out.new ((tZ w).drewN nq))
 have HT:=b6 ((b7.refl (fun g=>g=b) w).drewN nq)
 clear KP
 generalize w.drewN nq=w1 at*
 have c2:w1.cell? ⟨b,2,none⟩=some (.int .i64 ((k:Nat):Int)):=HD.out.c 2 _ rfl
 have f2:=HD.out.fr 2
 have HS:=b6 (HD.out.setk k1)
 have TS:=b6 (b7.trans (S:=fun g=>g=b) HT.out (d9 w1 b 2 (.int .i64 (k1:Int))) iE)
 go_upto_region 3 with fail
 clear c2 f2 HD HT
 generalize w1.setCell ⟨b,2,none⟩ (.int .i64 (k1:Int))=w2 at*
 have O:=b6 (s6 w2 87 y y)
 go_wp2
 refine bodyPost_ret (results_tmp2 rfl _ _ _) rfl ?_
 exact⟨_,rfl,O.out.own,fun g e=>Nat.le_trans TS.out.size (O.out.new g e),HS.out.new O.out.touch,TS.out.trans O.out.touch nE⟩
theorem SK (b:Nat)(X:Px)(k0 k:Nat)(f:Fl)(op:Nat)(vN vn:Value)(w:World)(h:DS w b X k f op vN vn 0 0)(hk:k<=X.R.length)(hR:X.R.length<=1024)(y:Int)(hc:g7 X.R k=y)(n1:¬y<33)(n2:¬y>126)(m0:y≠112)(m1:y≠80)(m2:y≠120)(m3:y≠100)(m4:y≠115)(m5:y≠119)(m6:y≠68)(m7:y≠83)(m8:y≠87)(m9:y≠110)(m10:y≠116)(m11:y≠114)(m12:y≠102)(m13:y≠118)(a1:¬y<=57)(a0:y≥48)(a3:¬y≥97)(a4:¬y≥65):
 Calls Tryz.prog 101 #[.pointer (some ⟨b,0,none⟩),.int .i64 (k0:Nat)] w fun e w'=>E4 b X f op vN vn w (.ok ([(y,y)],some y,k+1)) e w':=by
 have q0:(y==112)=false:=beq_eq_false_iff_ne.2 m0
 have q1:(y==80)=false:=beq_eq_false_iff_ne.2 m1
 have q2:(y==120)=false:=beq_eq_false_iff_ne.2 m2
 have q3:(y==100)=false:=beq_eq_false_iff_ne.2 m3
 have q4:(y==115)=false:=beq_eq_false_iff_ne.2 m4
 have q5:(y==119)=false:=beq_eq_false_iff_ne.2 m5
 have q6:(y==68)=false:=beq_eq_false_iff_ne.2 m6
 have q7:(y==83)=false:=beq_eq_false_iff_ne.2 m7
 have q8:(y==87)=false:=beq_eq_false_iff_ne.2 m8
 have q9:(y==110)=false:=beq_eq_false_iff_ne.2 m9
 have q10:(y==116)=false:=beq_eq_false_iff_ne.2 m10
 have q11:(y==114)=false:=beq_eq_false_iff_ne.2 m11
 have q12:(y==102)=false:=beq_eq_false_iff_ne.2 m12
 have q13:(y==118)=false:=beq_eq_false_iff_ne.2 m13
 clear m0 m1 m2 m3 m4 m5 m6 m7 m8 m9 m10 m11 m12 m13
 have KP:=b6 (j6 b X k f op vN vn 0 0 0 w h (by omega) (by omega))
 rw[Nat.add_zero,hc]at KP
 have HD:=b6 h
 obtain⟨k1,hk1⟩:∃k1,k1=k+1:=⟨_,rfl⟩
 have hwk:IntKind.i64.wrap ((k:Int)+1)=(k1:Int):=by rw[IntKind.wrap_i64];omega
 try rw[<-hk1]
 clear h hc hk1
 unfold E4
 go_enter Tryz.func101,Tryz.ntmps101
 go_wp2_with fail
 refine KP.out.mono ?_
 rintro e w1 ⟨rfl,nq,rfl⟩
 replace HD:=b6 (HD.out.new ((tZ w).drewN nq))
 have HT:=b6 ((b7.refl (fun g=>g=b) w).drewN nq)
 clear KP
 generalize w.drewN nq=w1 at*
 have c2:w1.cell? ⟨b,2,none⟩=some (.int .i64 ((k:Nat):Int)):=HD.out.c 2 _ rfl
 have f2:=HD.out.fr 2
 have HS:=b6 (HD.out.setk k1)
 have TS:=b6 (b7.trans (S:=fun g=>g=b) HT.out (d9 w1 b 2 (.int .i64 (k1:Int))) iE)
 go_upto_region 3 with fail
 clear c2 f2 HD HT
 generalize w1.setCell ⟨b,2,none⟩ (.int .i64 (k1:Int))=w2 at*
 have O:=b6 (s6 w2 87 y y)
 go_wp2
 refine bodyPost_ret (results_tmp2 rfl _ _ _) rfl ?_
 exact⟨_,rfl,O.out.own,fun g e=>Nat.le_trans TS.out.size (O.out.new g e),HS.out.new O.out.touch,TS.out.trans O.out.touch nE⟩
theorem SN (b:Nat)(X:Px)(k0 k:Nat)(f:Fl)(op:Nat)(vN vn:Value)(w:World)(h:DS w b X k f op vN vn 0 0)(hk:k<=X.R.length)(hR:X.R.length<=1024)(y:Int)(hc:g7 X.R k=y)(n1:¬y<33)(n2:¬y>126)(m0:y≠112)(m1:y≠80)(m2:y≠120)(m3:y≠100)(m4:y≠115)(m5:y≠119)(m6:y≠68)(m7:y≠83)(m8:y≠87)(m9:y≠110)(m10:y≠116)(m11:y≠114)(m12:y≠102)(m13:y≠118)(a1:¬y<=57)(a0:y≥48)(a3:¬y≥97)(a4:y≥65)(a5:¬y<=90):
 Calls Tryz.prog 101 #[.pointer (some ⟨b,0,none⟩),.int .i64 (k0:Nat)] w fun e w'=>E4 b X f op vN vn w (.ok ([(y,y)],some y,k+1)) e w':=by
 have q0:(y==112)=false:=beq_eq_false_iff_ne.2 m0
 have q1:(y==80)=false:=beq_eq_false_iff_ne.2 m1
 have q2:(y==120)=false:=beq_eq_false_iff_ne.2 m2
 have q3:(y==100)=false:=beq_eq_false_iff_ne.2 m3
 have q4:(y==115)=false:=beq_eq_false_iff_ne.2 m4
 have q5:(y==119)=false:=beq_eq_false_iff_ne.2 m5
 have q6:(y==68)=false:=beq_eq_false_iff_ne.2 m6
 have q7:(y==83)=false:=beq_eq_false_iff_ne.2 m7
 have q8:(y==87)=false:=beq_eq_false_iff_ne.2 m8
 have q9:(y==110)=false:=beq_eq_false_iff_ne.2 m9
 have q10:(y==116)=false:=beq_eq_false_iff_ne.2 m10
 have q11:(y==114)=false:=beq_eq_false_iff_ne.2 m11
 have q12:(y==102)=false:=beq_eq_false_iff_ne.2 m12
 have q13:(y==118)=false:=beq_eq_false_iff_ne.2 m13
 clear m0 m1 m2 m3 m4 m5 m6 m7 m8 m9 m10 m11 m12 m13
 have KP:=b6 (j6 b X k f op vN vn 0 0 0 w h (by omega) (by omega))
 rw[Nat.add_zero,hc]at KP
 have HD:=b6 h
 obtain⟨k1,hk1⟩:∃k1,k1=k+1:=⟨_,rfl⟩
 have hwk:IntKind.i64.wrap ((k:Int)+1)=(k1:Int):=by rw[IntKind.wrap_i64];omega
 try rw[<-hk1]
 clear h hc hk1
 unfold E4
 go_enter Tryz.func101,Tryz.ntmps101
 go_wp2_with fail
 refine KP.out.mono ?_
 rintro e w1 ⟨rfl,nq,rfl⟩
 replace HD:=b6 (HD.out.new ((tZ w).drewN nq))
 have HT:=b6 ((b7.refl (fun g=>g=b) w).drewN nq)
 clear KP
 generalize w.drewN nq=w1 at*
 have c2:w1.cell? ⟨b,2,none⟩=some (.int .i64 ((k:Nat):Int)):=HD.out.c 2 _ rfl
 have f2:=HD.out.fr 2
 have HS:=b6 (HD.out.setk k1)
 have TS:=b6 (b7.trans (S:=fun g=>g=b) HT.out (d9 w1 b 2 (.int .i64 (k1:Int))) iE)
 go_upto_region 3 with fail
 clear c2 f2 HD HT
 generalize w1.setCell ⟨b,2,none⟩ (.int .i64 (k1:Int))=w2 at*
 have O:=b6 (s6 w2 87 y y)
 go_wp2
 refine bodyPost_ret (results_tmp2 rfl _ _ _) rfl ?_
 exact⟨_,rfl,O.out.own,fun g e=>Nat.le_trans TS.out.size (O.out.new g e),HS.out.new O.out.touch,TS.out.trans O.out.touch nE⟩
theorem SO (b:Nat)(X:Px)(k0 k:Nat)(f:Fl)(op:Nat)(vN vn:Value)(w:World)(h:DS w b X k f op vN vn 0 0)(hk:k<=X.R.length)(hR:X.R.length<=1024)(y:Int)(hc:g7 X.R k=y)(n1:¬y<33)(n2:¬y>126)(m0:y≠112)(m1:y≠80)(m2:y≠120)(m3:y≠100)(m4:y≠115)(m5:y≠119)(m6:y≠68)(m7:y≠83)(m8:y≠87)(m9:y≠110)(m10:y≠116)(m11:y≠114)(m12:y≠102)(m13:y≠118)(a1:¬y<=57)(a0:y≥48)(a3:y≥97)(a4:¬y<=122)(a5:y≥65)(a6:¬y<=90):
 Calls Tryz.prog 101 #[.pointer (some ⟨b,0,none⟩),.int .i64 (k0:Nat)] w fun e w'=>E4 b X f op vN vn w (.ok ([(y,y)],some y,k+1)) e w':=by
 have q0:(y==112)=false:=beq_eq_false_iff_ne.2 m0
 have q1:(y==80)=false:=beq_eq_false_iff_ne.2 m1
 have q2:(y==120)=false:=beq_eq_false_iff_ne.2 m2
 have q3:(y==100)=false:=beq_eq_false_iff_ne.2 m3
 have q4:(y==115)=false:=beq_eq_false_iff_ne.2 m4
 have q5:(y==119)=false:=beq_eq_false_iff_ne.2 m5
 have q6:(y==68)=false:=beq_eq_false_iff_ne.2 m6
 have q7:(y==83)=false:=beq_eq_false_iff_ne.2 m7
 have q8:(y==87)=false:=beq_eq_false_iff_ne.2 m8
 have q9:(y==110)=false:=beq_eq_false_iff_ne.2 m9
 have q10:(y==116)=false:=beq_eq_false_iff_ne.2 m10
 have q11:(y==114)=false:=beq_eq_false_iff_ne.2 m11
 have q12:(y==102)=false:=beq_eq_false_iff_ne.2 m12
 have q13:(y==118)=false:=beq_eq_false_iff_ne.2 m13
 clear m0 m1 m2 m3 m4 m5 m6 m7 m8 m9 m10 m11 m12 m13
 have KP:=b6 (j6 b X k f op vN vn 0 0 0 w h (by omega) (by omega))
 rw[Nat.add_zero,hc]at KP
 have HD:=b6 h
 obtain⟨k1,hk1⟩:∃k1,k1=k+1:=⟨_,rfl⟩
 have hwk:IntKind.i64.wrap ((k:Int)+1)=(k1:Int):=by rw[IntKind.wrap_i64];omega
 try rw[<-hk1]
 clear h hc hk1
 unfold E4
 go_enter Tryz.func101,Tryz.ntmps101
 go_wp2_with fail
 refine KP.out.mono ?_
 rintro e w1 ⟨rfl,nq,rfl⟩
 replace HD:=b6 (HD.out.new ((tZ w).drewN nq))
 have HT:=b6 ((b7.refl (fun g=>g=b) w).drewN nq)
 clear KP
 generalize w.drewN nq=w1 at*
 have c2:w1.cell? ⟨b,2,none⟩=some (.int .i64 ((k:Nat):Int)):=HD.out.c 2 _ rfl
 have f2:=HD.out.fr 2
 have HS:=b6 (HD.out.setk k1)
 have TS:=b6 (b7.trans (S:=fun g=>g=b) HT.out (d9 w1 b 2 (.int .i64 (k1:Int))) iE)
 go_upto_region 3 with fail
 clear c2 f2 HD HT
 generalize w1.setCell ⟨b,2,none⟩ (.int .i64 (k1:Int))=w2 at*
 have O:=b6 (s6 w2 87 y y)
 go_wp2
 refine bodyPost_ret (results_tmp2 rfl _ _ _) rfl ?_
 exact⟨_,rfl,O.out.own,fun g e=>Nat.le_trans TS.out.size (O.out.new g e),HS.out.new O.out.touch,TS.out.trans O.out.touch nE⟩
def M7 (c:Int):Bool:=decide (32<c)&&decide (c<127)&& !decide (c=125)
theorem Il {c:Int}(h:u5 c=true):M7 c=true:=by
 unfold u5 p4 Y6 at h
 unfold M7
 simp only[Bool.or_eq_true,Bool.and_eq_true,decide_eq_true_eq]at h
 simp only[Bool.and_eq_true,decide_eq_true_eq,Bool.not_eq_true',decide_eq_false_iff_not]
 omega
theorem C5 {R:List Int}{p:Int->Bool}(n k:Nat):l6 R p (n+1) k=if p (g7 R k)then g7 R k::l6 R p n (k+1)else[]:=rfl
theorem JY {R:List Int}{p q:Int->Bool}(hpq:∀c,p c=true->q c=true):∀(n k:Nat),(∀c ∈ l6 R q n k,p c=true)->l6 R q n k=l6 R p n k
 |0,_,_=>rfl
 |n+1,k,h=>by
  rw[C5,C5]
  rw[C5]at h
  by_cases hq:q (g7 R k)=true
  ·rw[if_pos hq]at h
   have hp:=h _ (List.mem_cons_self ..)
   rw[if_pos hq,if_pos hp,JY hpq n (k+1) (fun c hc=>h c (List.mem_cons_of_mem _ hc))]
  ·rw[if_neg hq,if_neg (fun e=>hq (hpq _ e))]
theorem Fv {R:List Int}{p q:Int->Bool}(hpq:∀c,p c=true->q c=true):∀(n k:Nat),q (g7 R (k+(l6 R p n k).length))=false->l6 R q n k=l6 R p n k
 |0,_,_=>rfl
 |n+1,k,h=>by
  rw[C5,C5]
  rw[C5]at h
  by_cases hp:p (g7 R k)=true
  ·rw[if_pos hp]at h
   rw[if_pos (hpq _ hp),if_pos hp,Fv hpq n (k+1) (by rw[List.length_cons]at h;rw[show k+1+(l6 R p n (k+1)).length=k+((l6 R p n (k+1)).length+1)by omega];exact h)]
  ·rw[if_neg hp,List.length_nil,Nat.add_zero]at h
   rw[if_neg (by rw[h];decide),if_neg hp]
theorem Kf:b8.all (fun p=>p.1.data.toList.all fun c=>u5 (c.toNat:Int))=true:=by decide
theorem Ad {s:ByteArray}{l:List R2}:∀{t:List (ByteArray×List R2)},s5 s t=some l->(s,l) ∈ t
 | [],h=>by cases h
 |(n,m)::t,h=>by
  rw[s5]at h
  split at h
  ·rename_i e
   cases h
   rw[e]
   exact List.mem_cons_self ..
  ·exact List.mem_cons_of_mem _ (Ad h)
def Fu (R:List Int)(k:Nat):List Int:=l6 R M7 (R.length+1) k
def FY (R:List Int)(k0:Nat)(neg:Bool)(k:Nat):PR (List R2×Nat):=
 if g7 R k=123 then
  let l:=Fu R (k+1)
  if g7 R (k+1+l.length)=125 then match s5 (i7 l) b8 with
   |some m=>.ok (if neg then z6 m else m,k+1+l.length+1)
   |none=>.error (24,k0)
  else .error (24,k0)
 else .error (24,k0)
theorem IJ (l:List Int):(i7 l).data.toList=l.map fun c=>UInt8.ofNat c.toNat:=by simp[i7]
theorem RT {R:List Int}{k:Nat}{m:List R2}(h:s5 (i7 (Fu R k)) b8=some m):∀c ∈ Fu R k,u5 c=true:=by
 intro c hc
 have h1:=List.all_eq_true.1 Kf _ (Ad h)
 simp only at h1
 rw[IJ]at h1
 have h2:=List.all_eq_true.1 h1 (UInt8.ofNat c.toNat) (List.mem_map_of_mem hc)
 have h3:M7 c=true:=Av _ _ _ hc
 unfold M7 at h3
 simp only[Bool.and_eq_true,decide_eq_true_eq]at h3
 have h4:((UInt8.ofNat c.toNat).toNat:Int)=c:=by
  rw[UInt8.toNat_ofNat']
  omega
 rw[h4]at h2
 exact h2
theorem JX {R:List Int}{p:Int->Bool}(hp:p (-1)=false):∀(n m k:Nat),R.length<=k+n->R.length<=k+m->l6 R p n k=l6 R p m k
 |0,0,k,_,_=>rfl
 |0,m+1,k,h,_=>by
  rw[C5,Bi (by omega),hp]
  rfl
 |n+1,0,k,_,h=>by
  rw[C5,Bi (by omega),hp]
  rfl
 |n+1,m+1,k,h1,h2=>by
  rw[C5,C5,JX hp n m (k+1) (by omega) (by omega)]
theorem JC (R:List Int)(k0:Nat)(neg:Bool)(k:Nat):E7 R b8 k0 neg k=FY R k0 neg k:=by
 unfold E7 FY
 by_cases h:g7 R k=123
 ·rw[if_pos h,if_pos h]
  simp only
  have hf:l6 R u5 R.length (k+1)=l6 R u5 (R.length+1) (k+1):=JX (by decide) _ _ _ (by omega) (by omega)
  rw[hf]
  by_cases h5:g7 R (k+1+(Fu R (k+1)).length)=125
  ·rw[if_pos h5]
   cases hl:s5 (i7 (Fu R (k+1))) b8 with
   |some m=>
    have hs:Fu R (k+1)=l6 R u5 (R.length+1) (k+1):=JY (fun c=>Il) _ _ (RT hl)
    rw[hs]at hl h5
    rw[hl]
    simp only
    rw[if_pos h5,hs]
   |none=>
    simp only
    cases hm:s5 (i7 (l6 R u5 (R.length+1) (k+1))) b8 with
    |none=>rfl
    |some m=>
     simp only
     by_cases h6:g7 R (k+1+(l6 R u5 (R.length+1) (k+1)).length)=125
     ·have hs:Fu R (k+1)=l6 R u5 (R.length+1) (k+1):=Fv (fun c=>Il) _ _ (by rw[h6];decide)
      rw[hs,hm]at hl
      cases hl
     ·rw[if_neg h6]
  ·rw[if_neg h5]
   cases hm:s5 (i7 (l6 R u5 (R.length+1) (k+1))) b8 with
   |none=>rfl
   |some m=>
    simp only
    by_cases h6:g7 R (k+1+(l6 R u5 (R.length+1) (k+1)).length)=125
    ·have hs:Fu R (k+1)=l6 R u5 (R.length+1) (k+1):=Fv (fun c=>Il) _ _ (by rw[h6];decide)
     rw[hs]at h5
     exact absurd h6 h5
    ·rw[if_neg h6]
 ·rw[if_neg h,if_neg h]
theorem JO {s:ByteArray}{l:List R2}(h:s5 s b8=some l):Cr s=l/\l.length≠0/\1<=s.size/\s.data.toList≠ [100]/\s.data.toList≠ [115]/\s.data.toList≠ [119]/\s.data.toList≠ [115,112,97,99,101]:=by
 have h1:=Ad h
 refine⟨by unfold Cr;rw[h],?_⟩
 have ht:b8.all (fun p=>decide (p.2.length≠0/\1<=p.1.size/\p.1.data.toList≠ [100]/\p.1.data.toList≠ [115]/\p.1.data.toList≠ [119]/\p.1.data.toList≠ [115,112,97,99,101]))=true:=by decide
 exact of_decide_eq_true (List.all_eq_true.1 ht _ h1)
theorem JN {s:ByteArray}(h:s5 s b8=none):(s.data.toList=[100]/\Cr s=Z3)∨(s.data.toList=[119]/\Cr s=lW)∨(s.data.toList=[115]/\Cr s=Bm)∨(s.data.toList=[115,112,97,99,101]/\Cr s=Bm)∨Cr s=[]:=by
 unfold Cr
 rw[h]
 simp only
 by_cases h1:s.data.toList=[100]
 ·exact .inl ⟨h1,if_pos h1⟩
 by_cases h2:s.data.toList=[119]
 ·exact .inr (.inl ⟨h2,by rw[if_neg h1,if_pos h2]⟩)
 by_cases h3:s.data.toList=[115]
 ·exact .inr (.inr (.inl ⟨h3,by rw[if_neg h1,if_neg h2,if_pos h3]⟩))
 by_cases h4:s.data.toList=[115,112,97,99,101]
 ·exact .inr (.inr (.inr (.inl ⟨h4,by rw[if_neg h1,if_neg h2,if_neg h3,if_pos h4]⟩)))
 ·exact .inr (.inr (.inr (.inr (by rw[if_neg h1,if_neg h2,if_neg h3,if_neg h4]))))
end Go.Proofs.YtdhhcefmmojcmaaGreatDoor
