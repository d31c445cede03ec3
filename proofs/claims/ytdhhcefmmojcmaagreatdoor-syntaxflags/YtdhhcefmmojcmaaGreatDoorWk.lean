/- Texts of this proof, one behind the other. -/
import Derived.Test.YtdhhcefmmojcmaaGreatDoorM15
import Derived.Test.YtdhhcefmmojcmaaGreatDoorM18
import Derived.Test.YtdhhcefmmojcmaaGreatDoorM30
set_option maxRecDepth 100000
set_option maxHeartbeats 0
set_option linter.unusedVariables false
namespace Go.Proofs.YtdhhcefmmojcmaaGreatDoor
open Go.RowKit Go.Lib
def E4 (b:Nat)(X:Px)(f:Fl)(op:Nat)(vN vn:Value)(w:World):PR (List R2×Option Int×Nat)->Ending->World->Prop
 | .ok (l,o,k1),e,w'=>∃v,e=.returned (.tuple #[v,.int .i64 (o.getD (-1))])/\RR w' v l/\(∀g,v.ownBlock=some g->w.heap.size<=g)/\DS w' b X k1 f op vN vn 0 0/\b7 (fun g=>g=b) w w'
 | .error (c,j),e,w'=>∃v l r,e=.returned (.tuple #[v,.int .i64 r])/\RR w' v l/\l.length<=1/\(∀g,v.ownBlock=some g->w.heap.size<=g)/\DS w' b X X.R.length f op vN vn (c:Nat) (g7 X.P j)/\b7 (fun g=>g=b) w w'
theorem CJ (w:World)(q:Nat)(c:UInt8)(h:w.cell? ⟨q,0,none⟩=some (.int .u8 (c.toNat:Int))):(convert 49 9 (.slice (some ⟨q,0,none⟩) 1 1)).run Tryz.prog w=.ok (.string ⟨#[c]⟩) w:=by
 refine run_convert_bytes_back w 49 9 5 ⟨q,0,none⟩ 1 [c] Tryz.underlying49 Tryz.underlying5 Tryz.underlying9 (fun j hj=>?_)
 have hj':j<1:=hj
 obtain rfl:j=0:=by omega
 exact h
theorem N0 (w:World)(u:Value):(w.alloc (.cells #[u] 5)).cell? ⟨w.heap.size,0,none⟩=some u:=Ep (e8 w #[u] 5) 0 u rfl
theorem UR (b:Nat)(X:Px)(k0 k:Nat)(f:Fl)(op:Nat)(vN vn:Value)(w:World)(h:DS w b X k f op vN vn 0 0)(hk:k<=X.R.length)(hR:X.R.length<=1024)(hc:g7 X.R k=100):
 Calls Tryz.prog 101 #[.pointer (some ⟨b,0,none⟩),.int .i64 (k0:Nat)] w fun e w'=>E4 b X f op vN vn w (.ok (Z3,none,k+1)) e w':=by
 have KP:=b6 (j6 b X k f op vN vn 0 0 0 w h (by omega) (by omega))
 rw[Nat.add_zero,hc]at KP
 have HD:=b6 h
 obtain⟨k1,hk1⟩:∃k1,k1=k+1:=⟨_,rfl⟩
 have hwk:IntKind.i64.wrap ((k:Int)+1)=(k1:Int):=by rw[IntKind.wrap_i64];omega
 try rw[<-hk1]
 clear h hc hk1
 unfold E4
 go_enter Tryz.func101,Tryz.ntmps101
 go_wp2_with fail
 refine KP.out.mono ?_
 rintro e w1 ⟨rfl,nq,rfl⟩
 replace HD:=b6 (HD.out.new ((tZ w).drewN nq))
 have HT:=b6 ((b7.refl (fun g=>g=b) w).drewN nq)
 clear KP
 generalize w.drewN nq=w1 at*
 have c2:w1.cell? ⟨b,2,none⟩=some (.int .i64 ((k:Nat):Int)):=HD.out.c 2 _ rfl
 have f2:=HD.out.fr 2
 have HS:=b6 (HD.out.setk k1)
 have TS:=b6 (b7.trans (S:=fun g=>g=b) HT.out (d9 w1 b 2 (.int .i64 (k1:Int))) iE)
 go_upto_region 3 with fail
 clear c2 f2 HD HT
 generalize w1.setCell ⟨b,2,none⟩ (.int .i64 (k1:Int))=w2 at*
 have hcv:=CJ (w2.alloc (.cells #[.int .u8 100] 5)) w2.heap.size 100 (N0 _ _)
 have TA:=b6 ((tZ w2).alloc (.cells #[.int .u8 100] 5))
 go_wp2_with fail
 refine(F6 ⟨#[100]⟩ _).mono ?_
 rintro e w3 ⟨v,rfl,o⟩
 have O:=b6 (show E9 w2 w3 87 v Z3 from o.base TA.out)
 clear o TA hcv
 go_wp2
 refine bodyPost_ret (results_tmp2 rfl _ _ _) rfl ?_
 exact⟨v,rfl,O.out.own,fun g e=>Nat.le_trans TS.out.size (O.out.new g e),HS.out.new O.out.touch,TS.out.trans O.out.touch nE⟩
theorem UW (b:Nat)(X:Px)(k0 k:Nat)(f:Fl)(op:Nat)(vN vn:Value)(w:World)(h:DS w b X k f op vN vn 0 0)(hk:k<=X.R.length)(hR:X.R.length<=1024)(hc:g7 X.R k=115):
 Calls Tryz.prog 101 #[.pointer (some ⟨b,0,none⟩),.int .i64 (k0:Nat)] w fun e w'=>E4 b X f op vN vn w (.ok (Bm,none,k+1)) e w':=by
 have KP:=b6 (j6 b X k f op vN vn 0 0 0 w h (by omega) (by omega))
 rw[Nat.add_zero,hc]at KP
 have HD:=b6 h
 obtain⟨k1,hk1⟩:∃k1,k1=k+1:=⟨_,rfl⟩
 have hwk:IntKind.i64.wrap ((k:Int)+1)=(k1:Int):=by rw[IntKind.wrap_i64];omega
 try rw[<-hk1]
 clear h hc hk1
 unfold E4
 go_enter Tryz.func101,Tryz.ntmps101
 go_wp2_with fail
 refine KP.out.mono ?_
 rintro e w1 ⟨rfl,nq,rfl⟩
 replace HD:=b6 (HD.out.new ((tZ w).drewN nq))
 have HT:=b6 ((b7.refl (fun g=>g=b) w).drewN nq)
 clear KP
 generalize w.drewN nq=w1 at*
 have c2:w1.cell? ⟨b,2,none⟩=some (.int .i64 ((k:Nat):Int)):=HD.out.c 2 _ rfl
 have f2:=HD.out.fr 2
 have HS:=b6 (HD.out.setk k1)
 have TS:=b6 (b7.trans (S:=fun g=>g=b) HT.out (d9 w1 b 2 (.int .i64 (k1:Int))) iE)
 go_upto_region 3 with fail
 clear c2 f2 HD HT
 generalize w1.setCell ⟨b,2,none⟩ (.int .i64 (k1:Int))=w2 at*
 have hcv:=CJ (w2.alloc (.cells #[.int .u8 115] 5)) w2.heap.size 115 (N0 _ _)
 have TA:=b6 ((tZ w2).alloc (.cells #[.int .u8 115] 5))
 go_wp2_with fail
 refine(F6 ⟨#[115]⟩ _).mono ?_
 rintro e w3 ⟨v,rfl,o⟩
 have O:=b6 (show E9 w2 w3 87 v Bm from o.base TA.out)
 clear o TA hcv
 go_wp2
 refine bodyPost_ret (results_tmp2 rfl _ _ _) rfl ?_
 exact⟨v,rfl,O.out.own,fun g e=>Nat.le_trans TS.out.size (O.out.new g e),HS.out.new O.out.touch,TS.out.trans O.out.touch nE⟩
theorem UZ (b:Nat)(X:Px)(k0 k:Nat)(f:Fl)(op:Nat)(vN vn:Value)(w:World)(h:DS w b X k f op vN vn 0 0)(hk:k<=X.R.length)(hR:X.R.length<=1024)(hc:g7 X.R k=119):
 Calls Tryz.prog 101 #[.pointer (some ⟨b,0,none⟩),.int .i64 (k0:Nat)] w fun e w'=>E4 b X f op vN vn w (.ok (lW,none,k+1)) e w':=by
 have KP:=b6 (j6 b X k f op vN vn 0 0 0 w h (by omega) (by omega))
 rw[Nat.add_zero,hc]at KP
 have HD:=b6 h
 obtain⟨k1,hk1⟩:∃k1,k1=k+1:=⟨_,rfl⟩
 have hwk:IntKind.i64.wrap ((k:Int)+1)=(k1:Int):=by rw[IntKind.wrap_i64];omega
 try rw[<-hk1]
 clear h hc hk1
 unfold E4
 go_enter Tryz.func101,Tryz.ntmps101
 go_wp2_with fail
 refine KP.out.mono ?_
 rintro e w1 ⟨rfl,nq,rfl⟩
 replace HD:=b6 (HD.out.new ((tZ w).drewN nq))
 have HT:=b6 ((b7.refl (fun g=>g=b) w).drewN nq)
 clear KP
 generalize w.drewN nq=w1 at*
 have c2:w1.cell? ⟨b,2,none⟩=some (.int .i64 ((k:Nat):Int)):=HD.out.c 2 _ rfl
 have f2:=HD.out.fr 2
 have HS:=b6 (HD.out.setk k1)
 have TS:=b6 (b7.trans (S:=fun g=>g=b) HT.out (d9 w1 b 2 (.int .i64 (k1:Int))) iE)
 go_upto_region 3 with fail
 clear c2 f2 HD HT
 generalize w1.setCell ⟨b,2,none⟩ (.int .i64 (k1:Int))=w2 at*
 have hcv:=CJ (w2.alloc (.cells #[.int .u8 119] 5)) w2.heap.size 119 (N0 _ _)
 have TA:=b6 ((tZ w2).alloc (.cells #[.int .u8 119] 5))
 go_wp2_with fail
 refine(F6 ⟨#[119]⟩ _).mono ?_
 rintro e w3 ⟨v,rfl,o⟩
 have O:=b6 (show E9 w2 w3 87 v lW from o.base TA.out)
 clear o TA hcv
 go_wp2
 refine bodyPost_ret (results_tmp2 rfl _ _ _) rfl ?_
 exact⟨v,rfl,O.out.own,fun g e=>Nat.le_trans TS.out.size (O.out.new g e),HS.out.new O.out.touch,TS.out.trans O.out.touch nE⟩
theorem SH (b:Nat)(X:Px)(k0 k:Nat)(f:Fl)(op:Nat)(vN vn:Value)(w:World)(h:DS w b X k f op vN vn 0 0)(hk:k<=X.R.length)(hR:X.R.length<=1024)(hc:g7 X.R k=68):
 Calls Tryz.prog 101 #[.pointer (some ⟨b,0,none⟩),.int .i64 (k0:Nat)] w fun e w'=>E4 b X f op vN vn w (.ok (z6 Z3,none,k+1)) e w':=by
 have KN:=b6 (fun w' a c (g:Rg w' a Z3)=>Y9 a c Z3 w' g (by decide))
 have HLL:(Z3).length=(Z3).length:=rfl
 have KP:=b6 (j6 b X k f op vN vn 0 0 0 w h (by omega) (by omega))
 rw[Nat.add_zero,hc]at KP
 have HD:=b6 h
 obtain⟨k1,hk1⟩:∃k1,k1=k+1:=⟨_,rfl⟩
 have hwk:IntKind.i64.wrap ((k:Int)+1)=(k1:Int):=by rw[IntKind.wrap_i64];omega
 try rw[<-hk1]
 clear h hc hk1
 unfold E4
 go_enter Tryz.func101,Tryz.ntmps101
 go_wp2_with fail
 refine KP.out.mono ?_
 rintro e w1 ⟨rfl,nq,rfl⟩
 replace HD:=b6 (HD.out.new ((tZ w).drewN nq))
 have HT:=b6 ((b7.refl (fun g=>g=b) w).drewN nq)
 clear KP
 generalize w.drewN nq=w1 at*
 have c2:w1.cell? ⟨b,2,none⟩=some (.int .i64 ((k:Nat):Int)):=HD.out.c 2 _ rfl
 have f2:=HD.out.fr 2
 have HS:=b6 (HD.out.setk k1)
 have TS:=b6 (b7.trans (S:=fun g=>g=b) HT.out (d9 w1 b 2 (.int .i64 (k1:Int))) iE)
 go_upto_region 3 with fail
 clear c2 f2 HD HT
 generalize w1.setCell ⟨b,2,none⟩ (.int .i64 (k1:Int))=w2 at*
 have hcv:=CJ (w2.alloc (.cells #[.int .u8 100] 5)) w2.heap.size 100 (N0 _ _)
 have TA:=b6 ((tZ w2).alloc (.cells #[.int .u8 100] 5))
 go_wp2_with fail
 refine(F6 ⟨#[100]⟩ _).mono ?_
 rintro e w3 ⟨v,rfl,o⟩
 have O:=b6 (show E9 w2 w3 87 v Z3 from o.base TA.out)
 clear o TA hcv HLL
 obtain⟨a4,c4,hv,hr⟩:=O.out.slice
 subst hv
 have HR:=b6 hr
 clear hr
 go_wp2_with fail
 refine(KN.out _ _ _ HR.out).mono ?_
 rintro e w4 ⟨v,rfl,o⟩
 have O2:=b6 o
 clear o KN
 go_wp2
 refine bodyPost_ret (results_tmp2 rfl _ _ _) rfl ?_
 have T4:=O.out.touch.trans O2.out.touch iE
 exact⟨v,rfl,O2.out.own,fun g e=>Nat.le_trans (Nat.le_trans TS.out.size O.out.touch.size) (O2.out.new g e),HS.out.new T4,TS.out.trans T4 nE⟩
theorem SP (b:Nat)(X:Px)(k0 k:Nat)(f:Fl)(op:Nat)(vN vn:Value)(w:World)(h:DS w b X k f op vN vn 0 0)(hk:k<=X.R.length)(hR:X.R.length<=1024)(hc:g7 X.R k=83):
 Calls Tryz.prog 101 #[.pointer (some ⟨b,0,none⟩),.int .i64 (k0:Nat)] w fun e w'=>E4 b X f op vN vn w (.ok (z6 Bm,none,k+1)) e w':=by
 have KN:=b6 (fun w' a c (g:Rg w' a Bm)=>Y9 a c Bm w' g (by decide))
 have HLL:(Bm).length=(Bm).length:=rfl
 have KP:=b6 (j6 b X k f op vN vn 0 0 0 w h (by omega) (by omega))
 rw[Nat.add_zero,hc]at KP
 have HD:=b6 h
 obtain⟨k1,hk1⟩:∃k1,k1=k+1:=⟨_,rfl⟩
 have hwk:IntKind.i64.wrap ((k:Int)+1)=(k1:Int):=by rw[IntKind.wrap_i64];omega
 try rw[<-hk1]
 clear h hc hk1
 unfold E4
 go_enter Tryz.func101,Tryz.ntmps101
 go_wp2_with fail
 refine KP.out.mono ?_
 rintro e w1 ⟨rfl,nq,rfl⟩
 replace HD:=b6 (HD.out.new ((tZ w).drewN nq))
 have HT:=b6 ((b7.refl (fun g=>g=b) w).drewN nq)
 clear KP
 generalize w.drewN nq=w1 at*
 have c2:w1.cell? ⟨b,2,none⟩=some (.int .i64 ((k:Nat):Int)):=HD.out.c 2 _ rfl
 have f2:=HD.out.fr 2
 have HS:=b6 (HD.out.setk k1)
 have TS:=b6 (b7.trans (S:=fun g=>g=b) HT.out (d9 w1 b 2 (.int .i64 (k1:Int))) iE)
 go_upto_region 3 with fail
 clear c2 f2 HD HT
 generalize w1.setCell ⟨b,2,none⟩ (.int .i64 (k1:Int))=w2 at*
 have hcv:=CJ (w2.alloc (.cells #[.int .u8 115] 5)) w2.heap.size 115 (N0 _ _)
 have TA:=b6 ((tZ w2).alloc (.cells #[.int .u8 115] 5))
 go_wp2_with fail
 refine(F6 ⟨#[115]⟩ _).mono ?_
 rintro e w3 ⟨v,rfl,o⟩
 have O:=b6 (show E9 w2 w3 87 v Bm from o.base TA.out)
 clear o TA hcv HLL
 obtain⟨a4,c4,hv,hr⟩:=O.out.slice
 subst hv
 have HR:=b6 hr
 clear hr
 go_wp2_with fail
 refine(KN.out _ _ _ HR.out).mono ?_
 rintro e w4 ⟨v,rfl,o⟩
 have O2:=b6 o
 clear o KN
 go_wp2
 refine bodyPost_ret (results_tmp2 rfl _ _ _) rfl ?_
 have T4:=O.out.touch.trans O2.out.touch iE
 exact⟨v,rfl,O2.out.own,fun g e=>Nat.le_trans (Nat.le_trans TS.out.size O.out.touch.size) (O2.out.new g e),HS.out.new T4,TS.out.trans T4 nE⟩
theorem SS (b:Nat)(X:Px)(k0 k:Nat)(f:Fl)(op:Nat)(vN vn:Value)(w:World)(h:DS w b X k f op vN vn 0 0)(hk:k<=X.R.length)(hR:X.R.length<=1024)(hc:g7 X.R k=87):
 Calls Tryz.prog 101 #[.pointer (some ⟨b,0,none⟩),.int .i64 (k0:Nat)] w fun e w'=>E4 b X f op vN vn w (.ok (z6 lW,none,k+1)) e w':=by
 have KN:=b6 (fun w' a c (g:Rg w' a lW)=>Y9 a c lW w' g (by decide))
 have HLL:(lW).length=(lW).length:=rfl
 have KP:=b6 (j6 b X k f op vN vn 0 0 0 w h (by omega) (by omega))
 rw[Nat.add_zero,hc]at KP
 have HD:=b6 h
 obtain⟨k1,hk1⟩:∃k1,k1=k+1:=⟨_,rfl⟩
 have hwk:IntKind.i64.wrap ((k:Int)+1)=(k1:Int):=by rw[IntKind.wrap_i64];omega
 try rw[<-hk1]
 clear h hc hk1
 unfold E4
 go_enter Tryz.func101,Tryz.ntmps101
 go_wp2_with fail
 refine KP.out.mono ?_
 rintro e w1 ⟨rfl,nq,rfl⟩
 replace HD:=b6 (HD.out.new ((tZ w).drewN nq))
 have HT:=b6 ((b7.refl (fun g=>g=b) w).drewN nq)
 clear KP
 generalize w.drewN nq=w1 at*
 have c2:w1.cell? ⟨b,2,none⟩=some (.int .i64 ((k:Nat):Int)):=HD.out.c 2 _ rfl
 have f2:=HD.out.fr 2
 have HS:=b6 (HD.out.setk k1)
 have TS:=b6 (b7.trans (S:=fun g=>g=b) HT.out (d9 w1 b 2 (.int .i64 (k1:Int))) iE)
 go_upto_region 3 with fail
 clear c2 f2 HD HT
 generalize w1.setCell ⟨b,2,none⟩ (.int .i64 (k1:Int))=w2 at*
 have hcv:=CJ (w2.alloc (.cells #[.int .u8 119] 5)) w2.heap.size 119 (N0 _ _)
 have TA:=b6 ((tZ w2).alloc (.cells #[.int .u8 119] 5))
 go_wp2_with fail
 refine(F6 ⟨#[119]⟩ _).mono ?_
 rintro e w3 ⟨v,rfl,o⟩
 have O:=b6 (show E9 w2 w3 87 v lW from o.base TA.out)
 clear o TA hcv HLL
 obtain⟨a4,c4,hv,hr⟩:=O.out.slice
 subst hv
 have HR:=b6 hr
 clear hr
 go_wp2_with fail
 refine(KN.out _ _ _ HR.out).mono ?_
 rintro e w4 ⟨v,rfl,o⟩
 have O2:=b6 o
 clear o KN
 go_wp2
 refine bodyPost_ret (results_tmp2 rfl _ _ _) rfl ?_
 have T4:=O.out.touch.trans O2.out.touch iE
 exact⟨v,rfl,O2.out.own,fun g e=>Nat.le_trans (Nat.le_trans TS.out.size O.out.touch.size) (O2.out.new g e),HS.out.new T4,TS.out.trans T4 nE⟩
theorem UT (b:Nat)(X:Px)(k0 k:Nat)(f:Fl)(op:Nat)(vN vn:Value)(w:World)(h:DS w b X k f op vN vn 0 0)(hk:k<=X.R.length)(hR:X.R.length<=1024)(hc:g7 X.R k=110):
 Calls Tryz.prog 101 #[.pointer (some ⟨b,0,none⟩),.int .i64 (k0:Nat)] w fun e w'=>E4 b X f op vN vn w (.ok ([(10,10)],some 10,k+1)) e w':=by
 have KP:=b6 (j6 b X k f op vN vn 0 0 0 w h (by omega) (by omega))
 rw[Nat.add_zero,hc]at KP
 have HD:=b6 h
 obtain⟨k1,hk1⟩:∃k1,k1=k+1:=⟨_,rfl⟩
 have hwk:IntKind.i64.wrap ((k:Int)+1)=(k1:Int):=by rw[IntKind.wrap_i64];omega
 try rw[<-hk1]
 clear h hc hk1
 unfold E4
 go_enter Tryz.func101,Tryz.ntmps101
 go_wp2_with fail
 refine KP.out.mono ?_
 rintro e w1 ⟨rfl,nq,rfl⟩
 replace HD:=b6 (HD.out.new ((tZ w).drewN nq))
 have HT:=b6 ((b7.refl (fun g=>g=b) w).drewN nq)
 clear KP
 generalize w.drewN nq=w1 at*
 have c2:w1.cell? ⟨b,2,none⟩=some (.int .i64 ((k:Nat):Int)):=HD.out.c 2 _ rfl
 have f2:=HD.out.fr 2
 have HS:=b6 (HD.out.setk k1)
 have TS:=b6 (b7.trans (S:=fun g=>g=b) HT.out (d9 w1 b 2 (.int .i64 (k1:Int))) iE)
 go_upto_region 3 with fail
 clear c2 f2 HD HT
 generalize w1.setCell ⟨b,2,none⟩ (.int .i64 (k1:Int))=w2 at*
 have O:=b6 (s6 w2 87 10 10)
 go_wp2
 refine bodyPost_ret (results_tmp2 rfl _ _ _) rfl ?_
 exact⟨_,rfl,O.out.own,fun g e=>Nat.le_trans TS.out.size (O.out.new g e),HS.out.new O.out.touch,TS.out.trans O.out.touch nE⟩
theorem UX (b:Nat)(X:Px)(k0 k:Nat)(f:Fl)(op:Nat)(vN vn:Value)(w:World)(h:DS w b X k f op vN vn 0 0)(hk:k<=X.R.length)(hR:X.R.length<=1024)(hc:g7 X.R k=116):
 Calls Tryz.prog 101 #[.pointer (some ⟨b,0,none⟩),.int .i64 (k0:Nat)] w fun e w'=>E4 b X f op vN vn w (.ok ([(9,9)],some 9,k+1)) e w':=by
 have KP:=b6 (j6 b X k f op vN vn 0 0 0 w h (by omega) (by omega))
 rw[Nat.add_zero,hc]at KP
 have HD:=b6 h
 obtain⟨k1,hk1⟩:∃k1,k1=k+1:=⟨_,rfl⟩
 have hwk:IntKind.i64.wrap ((k:Int)+1)=(k1:Int):=by rw[IntKind.wrap_i64];omega
 try rw[<-hk1]
 clear h hc hk1
 unfold E4
 go_enter Tryz.func101,Tryz.ntmps101
 go_wp2_with fail
 refine KP.out.mono ?_
 rintro e w1 ⟨rfl,nq,rfl⟩
 replace HD:=b6 (HD.out.new ((tZ w).drewN nq))
 have HT:=b6 ((b7.refl (fun g=>g=b) w).drewN nq)
 clear KP
 generalize w.drewN nq=w1 at*
 have c2:w1.cell? ⟨b,2,none⟩=some (.int .i64 ((k:Nat):Int)):=HD.out.c 2 _ rfl
 have f2:=HD.out.fr 2
 have HS:=b6 (HD.out.setk k1)
 have TS:=b6 (b7.trans (S:=fun g=>g=b) HT.out (d9 w1 b 2 (.int .i64 (k1:Int))) iE)
 go_upto_region 3 with fail
 clear c2 f2 HD HT
 generalize w1.setCell ⟨b,2,none⟩ (.int .i64 (k1:Int))=w2 at*
 have O:=b6 (s6 w2 87 9 9)
 go_wp2
 refine bodyPost_ret (results_tmp2 rfl _ _ _) rfl ?_
 exact⟨_,rfl,O.out.own,fun g e=>Nat.le_trans TS.out.size (O.out.new g e),HS.out.new O.out.touch,TS.out.trans O.out.touch nE⟩
theorem UV (b:Nat)(X:Px)(k0 k:Nat)(f:Fl)(op:Nat)(vN vn:Value)(w:World)(h:DS w b X k f op vN vn 0 0)(hk:k<=X.R.length)(hR:X.R.length<=1024)(hc:g7 X.R k=114):
 Calls Tryz.prog 101 #[.pointer (some ⟨b,0,none⟩),.int .i64 (k0:Nat)] w fun e w'=>E4 b X f op vN vn w (.ok ([(13,13)],some 13,k+1)) e w':=by
 have KP:=b6 (j6 b X k f op vN vn 0 0 0 w h (by omega) (by omega))
 rw[Nat.add_zero,hc]at KP
 have HD:=b6 h
 obtain⟨k1,hk1⟩:∃k1,k1=k+1:=⟨_,rfl⟩
 have hwk:IntKind.i64.wrap ((k:Int)+1)=(k1:Int):=by rw[IntKind.wrap_i64];omega
 try rw[<-hk1]
 clear h hc hk1
 unfold E4
 go_enter Tryz.func101,Tryz.ntmps101
 go_wp2_with fail
 refine KP.out.mono ?_
 rintro e w1 ⟨rfl,nq,rfl⟩
 replace HD:=b6 (HD.out.new ((tZ w).drewN nq))
 have HT:=b6 ((b7.refl (fun g=>g=b) w).drewN nq)
 clear KP
 generalize w.drewN nq=w1 at*
 have c2:w1.cell? ⟨b,2,none⟩=some (.int .i64 ((k:Nat):Int)):=HD.out.c 2 _ rfl
 have f2:=HD.out.fr 2
 have HS:=b6 (HD.out.setk k1)
 have TS:=b6 (b7.trans (S:=fun g=>g=b) HT.out (d9 w1 b 2 (.int .i64 (k1:Int))) iE)
 go_upto_region 3 with fail
 clear c2 f2 HD HT
 generalize w1.setCell ⟨b,2,none⟩ (.int .i64 (k1:Int))=w2 at*
 have O:=b6 (s6 w2 87 13 13)
 go_wp2
 refine bodyPost_ret (results_tmp2 rfl _ _ _) rfl ?_
 exact⟨_,rfl,O.out.own,fun g e=>Nat.le_trans TS.out.size (O.out.new g e),HS.out.new O.out.touch,TS.out.trans O.out.touch nE⟩
theorem US (b:Nat)(X:Px)(k0 k:Nat)(f:Fl)(op:Nat)(vN vn:Value)(w:World)(h:DS w b X k f op vN vn 0 0)(hk:k<=X.R.length)(hR:X.R.length<=1024)(hc:g7 X.R k=102):
 Calls Tryz.prog 101 #[.pointer (some ⟨b,0,none⟩),.int .i64 (k0:Nat)] w fun e w'=>E4 b X f op vN vn w (.ok ([(12,12)],some 12,k+1)) e w':=by
 have KP:=b6 (j6 b X k f op vN vn 0 0 0 w h (by omega) (by omega))
 rw[Nat.add_zero,hc]at KP
 have HD:=b6 h
 obtain⟨k1,hk1⟩:∃k1,k1=k+1:=⟨_,rfl⟩
 have hwk:IntKind.i64.wrap ((k:Int)+1)=(k1:Int):=by rw[IntKind.wrap_i64];omega
 try rw[<-hk1]
 clear h hc hk1
 unfold E4
 go_enter Tryz.func101,Tryz.ntmps101
 go_wp2_with fail
 refine KP.out.mono ?_
 rintro e w1 ⟨rfl,nq,rfl⟩
 replace HD:=b6 (HD.out.new ((tZ w).drewN nq))
 have HT:=b6 ((b7.refl (fun g=>g=b) w).drewN nq)
 clear KP
 generalize w.drewN nq=w1 at*
 have c2:w1.cell? ⟨b,2,none⟩=some (.int .i64 ((k:Nat):Int)):=HD.out.c 2 _ rfl
 have f2:=HD.out.fr 2
 have HS:=b6 (HD.out.setk k1)
 have TS:=b6 (b7.trans (S:=fun g=>g=b) HT.out (d9 w1 b 2 (.int .i64 (k1:Int))) iE)
 go_upto_region 3 with fail
 clear c2 f2 HD HT
 generalize w1.setCell ⟨b,2,none⟩ (.int .i64 (k1:Int))=w2 at*
 have O:=b6 (s6 w2 87 12 12)
 go_wp2
 refine bodyPost_ret (results_tmp2 rfl _ _ _) rfl ?_
 exact⟨_,rfl,O.out.own,fun g e=>Nat.le_trans TS.out.size (O.out.new g e),HS.out.new O.out.touch,TS.out.trans O.out.touch nE⟩
theorem UY (b:Nat)(X:Px)(k0 k:Nat)(f:Fl)(op:Nat)(vN vn:Value)(w:World)(h:DS w b X k f op vN vn 0 0)(hk:k<=X.R.length)(hR:X.R.length<=1024)(hc:g7 X.R k=118):
 Calls Tryz.prog 101 #[.pointer (some ⟨b,0,none⟩),.int .i64 (k0:Nat)] w fun e w'=>E4 b X f op vN vn w (.ok ([(11,11)],some 11,k+1)) e w':=by
 have KP:=b6 (j6 b X k f op vN vn 0 0 0 w h (by omega) (by omega))
 rw[Nat.add_zero,hc]at KP
 have HD:=b6 h
 obtain⟨k1,hk1⟩:∃k1,k1=k+1:=⟨_,rfl⟩
 have hwk:IntKind.i64.wrap ((k:Int)+1)=(k1:Int):=by rw[IntKind.wrap_i64];omega
 try rw[<-hk1]
 clear h hc hk1
 unfold E4
 go_enter Tryz.func101,Tryz.ntmps101
 go_wp2_with fail
 refine KP.out.mono ?_
 rintro e w1 ⟨rfl,nq,rfl⟩
 replace HD:=b6 (HD.out.new ((tZ w).drewN nq))
 have HT:=b6 ((b7.refl (fun g=>g=b) w).drewN nq)
 clear KP
 generalize w.drewN nq=w1 at*
 have c2:w1.cell? ⟨b,2,none⟩=some (.int .i64 ((k:Nat):Int)):=HD.out.c 2 _ rfl
 have f2:=HD.out.fr 2
 have HS:=b6 (HD.out.setk k1)
 have TS:=b6 (b7.trans (S:=fun g=>g=b) HT.out (d9 w1 b 2 (.int .i64 (k1:Int))) iE)
 go_upto_region 3 with fail
 clear c2 f2 HD HT
 generalize w1.setCell ⟨b,2,none⟩ (.int .i64 (k1:Int))=w2 at*
 have O:=b6 (s6 w2 87 11 11)
 go_wp2
 refine bodyPost_ret (results_tmp2 rfl _ _ _) rfl ?_
 exact⟨_,rfl,O.out.own,fun g e=>Nat.le_trans TS.out.size (O.out.new g e),HS.out.new O.out.touch,TS.out.trans O.out.touch nE⟩
end Go.Proofs.YtdhhcefmmojcmaaGreatDoor
