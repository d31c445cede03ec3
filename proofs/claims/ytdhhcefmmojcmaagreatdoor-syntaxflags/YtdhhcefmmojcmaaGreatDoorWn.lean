/- Texts of this proof, one behind the other. -/
import Derived.Test.YtdhhcefmmojcmaaGreatDoorWk
import Derived.Test.YtdhhcefmmojcmaaGreatDoorM32
set_option maxRecDepth 100000
set_option maxHeartbeats 0
set_option linter.unusedVariables false
namespace Go.Proofs.YtdhhcefmmojcmaaGreatDoor
open Go.RowKit Go.Lib
theorem Ci (t:List Int)(y:Int):i7 t++⟨#[UInt8.ofNat y.toNat]⟩=i7 (t++ [y]):=by
 apply ByteArray.ext
 rw[ByteArray.data_append]
 unfold i7
 simp
theorem Ar (t:List Int):(i7 t).size=t.length:=by
 show(i7 t).data.size=_
 simp[i7]
def JI:PR (List R2×Nat)->PR (List R2×Option Int×Nat)
 | .error e=>.error e
 | .ok (l,k1)=>.ok (l,none,k1)
def OK (R:List Int)(k0:Nat)(neg:Bool)(k2:Nat)(L:List Int):PR (List R2×Nat):=
 if g7 R (k2+L.length)=125 then(match s5 (i7 L) b8 with
  |some m=>.ok (if neg then z6 m else m,k2+L.length+1)
  |none=>.error (24,k0))else .error (24,k0)
theorem JA {R:List Int}{k0 k:Nat}{neg:Bool}(h:g7 R k=123):FY R k0 neg k=OK R k0 neg (k+1) (Fu R (k+1)):=by
 unfold FY OK
 rw[if_pos h]
 rfl
theorem UU (b:Nat)(X:Px)(k0 k:Nat)(f:Fl)(op:Nat)(vN vn:Value)(w:World)(h:DS w b X k f op vN vn 0 0)(hk:k<=X.R.length)(hR:X.R.length<=1024)(hc:g7 X.R k=112)(hj:k0<X.P.length):
 Calls Tryz.prog 101 #[.pointer (some ⟨b,0,none⟩),.int .i64 (k0:Nat)] w fun e w'=>E4 b X f op vN vn w (JI (FY X.R k0 false (k+1))) e w':=by
 have HJ:=b6 hj
 have hk1R:k+1<=X.R.length:=by have:=j9 hc (by decide);omega
 have KP:=b6 (j6 b X k f op vN vn 0 0 0 w h (by omega) (by omega))
 rw[Nat.add_zero,hc]at KP
 have HD:=b6 h
 obtain⟨k1,hk1⟩:∃k1,k1=k+1:=⟨_,rfl⟩
 have hwk:IntKind.i64.wrap ((k:Int)+1)=(k1:Int):=by rw[IntKind.wrap_i64];omega
 rw[<-hk1]at hk1R⊢
 obtain⟨PO,hPO⟩:∃PO,PO=JI (FY X.R k0 false k1):=⟨_,rfl⟩
 rw[<-hPO]
 clear h hc hk1 hj
 go_enter Tryz.func101,Tryz.ntmps101
 go_wp2_with fail
 refine KP.out.mono ?_
 rintro e w1 ⟨rfl,nq,rfl⟩
 replace HD:=b6 (HD.out.new ((tZ w).drewN nq))
 have HT:=b6 ((b7.refl (fun g=>g=b) w).drewN nq)
 clear KP
 generalize w.drewN nq=w1 at*
 have c2:w1.cell? ⟨b,2,none⟩=some (.int .i64 ((k:Nat):Int)):=HD.out.c 2 _ rfl
 have f2:=HD.out.fr 2
 have HS:=b6 (HD.out.setk k1)
 have TS:=b6 (b7.trans (S:=fun g=>g=b) HT.out (d9 w1 b 2 (.int .i64 (k1:Int))) iE)
 go_upto_region 3 with fail
 clear c2 f2 HD HT
 generalize w1.setCell ⟨b,2,none⟩ (.int .i64 (k1:Int))=w2 at*
 by_cases h123:g7 X.R k1=123
 ·obtain⟨k2,hk2⟩:∃k2,k2=k1+1:=⟨_,rfl⟩
  have hk2R:k2<=X.R.length:=by have:=j9 h123 (by decide);omega
  obtain⟨L,hL⟩:∃L,L=Fu X.R k2:=⟨_,rfl⟩
  have HPN:=b6 (show PO=JI (OK X.R k0 false k2 L)by rw[hPO,hL,hk2,JA h123])
  have HL:=b6 (show L=l6 X.R M7 (X.R.length+1) k2 from hL)
  clear hPO hL
  go_wp2_with fail
  refine(y7 123 HS.out (by omega) h123).mono ?_
  rintro e w3 ⟨rfl,d3,t3⟩
  have H3:=b6 (show DS w3 b X k2 f op vN vn 0 0 by rw[hk2];exact d3)
  have T3:=b6 (TS.out.trans t3 iE)
  clear d3 t3 h123 HS TS hk2
  go_wp2_with fail
  go_loopg [7] (X.R.length+1) (fun gk v7 wq=>∃(i:Nat) (t:List Int),i+gk=X.R.length+1/\v7=.string (i7 t)/\Hid (t.length=i)/\Hid (L=t++l6 X.R M7 gk (k2+i))/\Hid (k2+i<=X.R.length)/\Hid (DS wq b X (k2+i) f op vN vn 0 0)/\Hid (b7 (fun g=>g=b) w wq))
  case atStart=>exact⟨0,[],Nat.zero_add _,rfl,b6 rfl,HL,b6 hk2R,H3,T3⟩
  case round=>
   clear HL H3 T3
   obtain⟨i,t,hgk,rfl,HTL,HL,HKI,HD,HT⟩:=hrel
   obtain⟨S,hS⟩:∃S,S=i7 t:=⟨_,rfl⟩
   have hSz:S.size<=2048:=by rw[hS,Ar,HTL.out];omega
   rw[<-hS]
   obtain⟨y,hy⟩:∃y,y=g7 X.R (k2+i):=⟨_,rfl⟩
   have HKb:=b6 (show k2+i<=1024 by have:=HKI.out;omega)
   have KP:=b6 (fun w' (g:DS w' b X (k2+i) f op vN vn 0 0)=>j6 b X (k2+i) f op vN vn 0 0 0 w' g (by have:=HKb.out;omega) (by omega))
   rw[Nat.add_zero,<-hy]at KP
   obtain⟨Y,hY⟩:∃Y,Y=M7 y:=⟨_,rfl⟩
   have HY:=b6 hY
   clear hY
   go_upto_region 9 with fail
   go_cut [55] (fun v wd=>v=.bool Y/\Hid (DS wd b X (k2+i) f op vN vn 0 0)/\Hid (b7 (fun g=>g=b) w wd))
   case first=>
    clear hS hSz
    have HYY:=b6 hy
    clear hy
    by_cases g1:y>32
    ·by_cases g2:y<127
     ·by_cases g3:y=125
      ·have E:=b6 (show Y=false from by rw[HY.out,g3];rfl)
       rw[g3]at KP
       clear g1 g2 g3 HY
       go_wp2_with fail
       refine(KP.out _ HD.out).mono ?_
       rintro e wp ⟨rfl,n1,hwp⟩
       replace HD:=b6 (HD.out.dr hwp)
       replace HT:=b6 (HT.out.dr hwp)
       clear hwp
       go_wp2_with fail
       refine(KP.out _ HD.out).mono ?_
       rintro e wp ⟨rfl,n2,hwp⟩
       replace HD:=b6 (HD.out.dr hwp)
       replace HT:=b6 (HT.out.dr hwp)
       clear hwp
       go_wp2_with fail
       refine(KP.out _ HD.out).mono ?_
       rintro e wp ⟨rfl,n3,hwp⟩
       replace HD:=b6 (HD.out.dr hwp)
       replace HT:=b6 (HT.out.dr hwp)
       clear hwp
       go_wp2
       go_meet
       case rel=>exact⟨by rw[E.out],HD,HT⟩
      ·have E:=b6 (show Y=true from by rw[HY.out];unfold M7;simp;omega)
       have g3b:(y==125)=false:=beq_eq_false_iff_ne.2 g3
       have G3:=b6 g3
       clear g3 HY
       go_wp2_with fail
       refine(KP.out _ HD.out).mono ?_
       rintro e wp ⟨rfl,n1,hwp⟩
       replace HD:=b6 (HD.out.dr hwp)
       replace HT:=b6 (HT.out.dr hwp)
       clear hwp
       go_wp2_with fail
       refine(KP.out _ HD.out).mono ?_
       rintro e wp ⟨rfl,n2,hwp⟩
       replace HD:=b6 (HD.out.dr hwp)
       replace HT:=b6 (HT.out.dr hwp)
       clear hwp
       go_wp2_with fail
       refine(KP.out _ HD.out).mono ?_
       rintro e wp ⟨rfl,n3,hwp⟩
       replace HD:=b6 (HD.out.dr hwp)
       replace HT:=b6 (HT.out.dr hwp)
       clear hwp
       go_wp2
       go_meet
       case rel=>exact⟨by rw[E.out];simp;exact G3.out,HD,HT⟩
     ·have E:=b6 (show Y=false from by rw[HY.out];unfold M7;simp;omega)
      clear HY
      go_wp2_with fail
      refine(KP.out _ HD.out).mono ?_
      rintro e wp ⟨rfl,n1,hwp⟩
      replace HD:=b6 (HD.out.dr hwp)
      replace HT:=b6 (HT.out.dr hwp)
      clear hwp
      go_wp2_with fail
      refine(KP.out _ HD.out).mono ?_
      rintro e wp ⟨rfl,n2,hwp⟩
      replace HD:=b6 (HD.out.dr hwp)
      replace HT:=b6 (HT.out.dr hwp)
      clear hwp
      go_wp2
      go_meet
      case rel=>exact⟨by rw[E.out],HD,HT⟩
    ·have E:=b6 (show Y=false from by rw[HY.out];unfold M7;simp;omega)
     clear HY
     go_wp2_with fail
     refine(KP.out _ HD.out).mono ?_
     rintro e wp ⟨rfl,n1,hwp⟩
     replace HD:=b6 (HD.out.dr hwp)
     replace HT:=b6 (HT.out.dr hwp)
     clear hwp
     go_wp2
     go_meet
     case rel=>exact⟨by rw[E.out],HD,HT⟩
   obtain⟨rfl,HD,HT⟩:=hcut
   cases Y with
   |true=>
    have hg:=HY.out.symm
    have hlt:k2+i<X.R.length:=by
     refine I6 (fun e=>?_)
     rw[hy,e]at hg
     cases hg
    obtain⟨gk,rfl⟩:∃g,gk=g+1:=⟨gk-1,by have:=HKI.out;omega⟩
    have HX:=b6 (show L=(t++ [y])++l6 X.R M7 gk (k2+(i+1))by
     have:=HL.out
     rw[C5,<-hy,if_pos hg]at this
     rw[this,List.append_assoc]
     rfl)
    have hy7:0<=y/\y<127:=by unfold M7 at hg;simp at hg;omega
    have hwu:IntKind.u8.wrap y=y:=by rw[IntKind.wrap_u8];omega
    obtain⟨c,hcc⟩:∃c,c=UInt8.ofNat y.toNat:=⟨_,rfl⟩
    have hcy:(c.toNat:Int)=y:=by rw[hcc,UInt8.toNat_ofNat'];omega
    have HAD:=b6 (show S++⟨#[c]⟩=i7 (t++ [y])by rw[hS,hcc];exact Ci t y)
    clear hS hcc hg hy HL HY
    go_wp2_with fail
    refine(KP.out _ HD.out).mono ?_
    rintro e wp ⟨rfl,n1,hwp⟩
    replace HD:=b6 (HD.out.dr hwp)
    replace HT:=b6 (HT.out.dr hwp)
    clear hwp
    have hcv:=CJ (wp.alloc (.cells #[.int .u8 y] 5)) wp.heap.size c (by rw[hcy];exact N0 _ _)
    have D5:=b6 (HD.out.new ((tZ wp).alloc (.cells #[.int .u8 y] 5)))
    have T5:=b6 (HT.out.alloc (.cells #[.int .u8 y] 5))
    go_upto_region 11 with fail
    clear hcv HD HT
    generalize wp.alloc (.cells #[.int .u8 y] 5)=w5 at*
    obtain⟨m,hm⟩:∃m,m=k2+i:=⟨_,rfl⟩
    have hwm:IntKind.i64.wrap ((m:Int)+1)=((k2+(i+1):Nat):Int):=by rw[IntKind.wrap_i64];omega
    rw[<-hm]at D5
    have d2:w5.cell? ⟨b,2,none⟩=some (.int .i64 (m:Int)):=D5.out.c 2 _ rfl
    have e2:=D5.out.fr 2
    obtain⟨m2,hm2⟩:∃m2,m2=k2+(i+1):=⟨_,rfl⟩
    rw[<-hm2]at hwm HX
    have HM2:=b6 hm2
    have D6:=b6 (D5.out.setk m2)
    have T6:=b6 (b7.trans (S:=fun g=>g=b) T5.out (d9 w5 b 2 (.int .i64 (m2:Int))) iE)
    clear hm hm2 D5 T5
    go_wp2
    go_roundg gk
    case measure=>omega
    case rel=>
     refine⟨i+1,t++ [y],by omega,by rw[<-HAD.out],b6 (by rw[List.length_append,HTL.out];rfl),b6 (by rw[<-HM2.out];exact HX.out),b6 (by omega),b6 (by rw[<-HM2.out];exact D6.out),b6 T6.out⟩
   |false=>
    have hX:L=t:=by
     have:=HL.out
     have e:=HY.out
     rw[this]
     cases gk with
     |zero=>exact List.append_nil _
     |succ g=>rw[C5,<-hy,if_neg (by rw[<-e];decide),List.append_nil]
    subst hX
    have hLen:=HTL.out
    obtain⟨k3,hk3⟩:∃k3,k3=k2+i:=⟨_,rfl⟩
    rw[<-hk3]at HD HKI
    have HPK:=b6 (show PO=JI (if g7 X.R k3=125 then(match s5 S b8 with
     |some m=>.ok (if false then z6 m else m,k3+1)
     |none=>.error (24,k0))else .error (24,k0))by rw[HPN.out];unfold OK;rw[hLen,<-hk3,<-hS])
    clear hS hy HL HY HTL KP hk3 HPN hLen hgk HKb
    have HDR:=b6 (fun w'=>F6 S w')
    have HB4:=b6 HT.out.size
    have HRG:=b6 (fun l (e:s5 S b8=some l)=>JO e)
    have HRN:=b6 (fun(e:s5 S b8=none)=>JN e)
    go_wp2_with fail
    refine(HDR.out _).mono ?_
    rintro e w4 ⟨v,rfl,o⟩
    have O:=b6 o
    replace HD:=b6 (HD.out.new o.touch)
    replace HT:=b6 (HT.out.trans o.touch nE)
    clear o HDR
    obtain⟨a4,c4,hv,hrg⟩:=O.out.slice
    subst hv
    have HRR:=b6 hrg
    clear hrg
    have hk3b:k3<=1024:=by have:=HKI.out;omega
    by_cases h125:g7 X.R k3=125
    ·have HPL:=b6 (show PO=_ from by rw[HPK.out,if_pos h125])
     clear HPK
     cases hl:s5 S b8 with
     |some m=>
      rw[hl]at HPL
      obtain⟨e1,e2,e3,e4,e5,e6,e7⟩:=HRG.out m hl
      rw[e1]at O HRR⊢
      have f1:((m.length:Int)==0)=false:=beq_eq_false_iff_ne.2 (by omega)
      have f2:¬(S.size:Int)<1:=by omega
      have f4:=K9 e4
      have f5:=K9 e5
      have f6:=K9 e6
      have f7:=K9 e7
      have HML:=b6 (show m.length<=4194304 from by
       have ht:b8.all (fun p=>decide (p.2.length<=4194304))=true:=by decide
       exact of_decide_eq_true (List.all_eq_true.1 ht _ (Ad hl)))
      obtain⟨n,hn⟩:∃n,n=m.length:=⟨_,rfl⟩
      have KN:=b6 (fun w' (g:Rg w' a4 m)=>Y9 a4 c4 m w' g HML.out)
      rw[<-hn]at f1 KN⊢
      clear e1 e2 e3 e4 e5 e6 e7 hl HRG HRN HML
      have O4:=b6 (show RR w4 (.slice a4 n c4) m from by rw[hn];exact O.out.own)
      have HNW:=b6 (fun g (e:(Value.slice a4 n c4).ownBlock=some g)=>O.out.new g (by rw[<-hn];exact e))
      clear hn O
      go_wp2_with fail
      refine(y7 125 HD.out (by omega) h125).mono ?_
      rintro e w6 ⟨rfl,d6,t6⟩
      have D6:=b6 d6
      have T6:=b6 (HT.out.trans t6 iE)
      have R6:=b6 (g9 O4.out t6 (fun g e e2=>by obtain⟨cs,fr,hh⟩:=j5 O4.out g e;rw[e2,HD.out.cells]at hh;cases hh))
      clear d6 t6
      go_wp2
      refine bodyPost_ret (results_tmp2 rfl _ _ _) rfl ?_
      rw[HPL.out]
      exact⟨_,rfl,R6.out,fun g e=>Nat.le_trans HB4.out (HNW.out g e),D6.out,T6.out⟩
     |none=>
      rw[hl]at HPL
      have HPO:=b6 (show PO=.error (24,k0)from HPL.out)
      clear HPL HRG
      rcases HRN.out hl with⟨hs,hr⟩|⟨hs,hr⟩|⟨hs,hr⟩|⟨hs,hr⟩|hr
      ·have hS:=J8 hs
       subst hS
       rw[hr]at O HRR⊢
       clear hl hr hs HRN
       go_wp2_with fail
       refine(y7 125 HD.out (by omega) h125).mono ?_
       rintro e w6 ⟨rfl,d6,t6⟩
       have D6:=b6 d6
       have T6:=b6 (HT.out.trans t6 iE)
       clear d6 t6
       go_wp2_with fail
       refine(j7 b X (k3+1) f op vN vn 24 k0 w6 D6.out HJ.out).mono ?_
       rintro e wf ⟨rfl,d3,t3⟩
       have DF:=b6 d3
       have TF:=b6 (T6.out.trans t3 iE)
       clear d3 t3
       go_wp2
       refine bodyPost_ret (results_tmp2 rfl _ _ _) rfl ?_
       rw[HPO.out]
       exact⟨.slice none 0 0,[],-1,rfl,I5 wf,Nat.zero_le _,fun g e=>(by cases e),DF.out,TF.out⟩
      ·have hS:=J8 hs
       subst hS
       rw[hr]at O HRR⊢
       clear hl hr hs HRN
       go_wp2_with fail
       refine(y7 125 HD.out (by omega) h125).mono ?_
       rintro e w6 ⟨rfl,d6,t6⟩
       have D6:=b6 d6
       have T6:=b6 (HT.out.trans t6 iE)
       clear d6 t6
       go_wp2_with fail
       refine(j7 b X (k3+1) f op vN vn 24 k0 w6 D6.out HJ.out).mono ?_
       rintro e wf ⟨rfl,d3,t3⟩
       have DF:=b6 d3
       have TF:=b6 (T6.out.trans t3 iE)
       clear d3 t3
       go_wp2
       refine bodyPost_ret (results_tmp2 rfl _ _ _) rfl ?_
       rw[HPO.out]
       exact⟨.slice none 0 0,[],-1,rfl,I5 wf,Nat.zero_le _,fun g e=>(by cases e),DF.out,TF.out⟩
      ·have hS:=J8 hs
       subst hS
       rw[hr]at O HRR⊢
       clear hl hr hs HRN
       go_wp2_with fail
       refine(y7 125 HD.out (by omega) h125).mono ?_
       rintro e w6 ⟨rfl,d6,t6⟩
       have D6:=b6 d6
       have T6:=b6 (HT.out.trans t6 iE)
       clear d6 t6
       go_wp2_with fail
       refine(j7 b X (k3+1) f op vN vn 24 k0 w6 D6.out HJ.out).mono ?_
       rintro e wf ⟨rfl,d3,t3⟩
       have DF:=b6 d3
       have TF:=b6 (T6.out.trans t3 iE)
       clear d3 t3
       go_wp2
       refine bodyPost_ret (results_tmp2 rfl _ _ _) rfl ?_
       rw[HPO.out]
       exact⟨.slice none 0 0,[],-1,rfl,I5 wf,Nat.zero_le _,fun g e=>(by cases e),DF.out,TF.out⟩
      ·have hS:=J8 hs
       subst hS
       rw[hr]at O HRR⊢
       clear hl hr hs HRN
       go_wp2_with fail
       refine(y7 125 HD.out (by omega) h125).mono ?_
       rintro e w6 ⟨rfl,d6,t6⟩
       have D6:=b6 d6
       have T6:=b6 (HT.out.trans t6 iE)
       clear d6 t6
       go_wp2_with fail
       refine(j7 b X (k3+1) f op vN vn 24 k0 w6 D6.out HJ.out).mono ?_
       rintro e wf ⟨rfl,d3,t3⟩
       have DF:=b6 d3
       have TF:=b6 (T6.out.trans t3 iE)
       clear d3 t3
       go_wp2
       refine bodyPost_ret (results_tmp2 rfl _ _ _) rfl ?_
       rw[HPO.out]
       exact⟨.slice none 0 0,[],-1,rfl,I5 wf,Nat.zero_le _,fun g e=>(by cases e),DF.out,TF.out⟩
      ·rw[hr]at O HRR⊢
       clear hl hr HRN
       go_wp2_with fail
       refine(y7 125 HD.out (by omega) h125).mono ?_
       rintro e w6 ⟨rfl,d6,t6⟩
       have D6:=b6 d6
       have T6:=b6 (HT.out.trans t6 iE)
       clear d6 t6
       go_wp2_with fail
       refine(j7 b X (k3+1) f op vN vn 24 k0 w6 D6.out HJ.out).mono ?_
       rintro e wf ⟨rfl,d3,t3⟩
       have DF:=b6 d3
       have TF:=b6 (T6.out.trans t3 iE)
       clear d3 t3
       go_wp2
       refine bodyPost_ret (results_tmp2 rfl _ _ _) rfl ?_
       rw[HPO.out]
       exact⟨.slice none 0 0,[],-1,rfl,I5 wf,Nat.zero_le _,fun g e=>(by cases e),DF.out,TF.out⟩
    ·have HPO:=b6 (show PO=.error (24,k0)from by rw[HPK.out,if_neg h125];rfl)
     clear HPK HRG HRN
     go_wp2_with fail
     refine(E6 125 HD.out (by omega) h125).mono ?_
     rintro e w6 ⟨rfl,d6,t6⟩
     have D6:=b6 d6
     have T6:=b6 (HT.out.trans t6 iE)
     clear d6 t6 h125
     go_wp2_with fail
     refine(j7 b X k3 f op vN vn 24 k0 w6 D6.out HJ.out).mono ?_
     rintro e wf ⟨rfl,d3,t3⟩
     have DF:=b6 d3
     have TF:=b6 (T6.out.trans t3 iE)
     clear d3 t3
     go_wp2
     refine bodyPost_ret (results_tmp2 rfl _ _ _) rfl ?_
     rw[HPO.out]
     exact⟨.slice none 0 0,[],-1,rfl,I5 wf,Nat.zero_le _,fun g e=>(by cases e),DF.out,TF.out⟩
 ·have HPO:=b6 (show PO=.error (24,k0)from by rw[hPO];unfold FY;rw[if_neg h123];rfl)
  clear hPO
  go_wp2_with fail
  refine(E6 123 HS.out (by omega) h123).mono ?_
  rintro e w3 ⟨rfl,d3,t3⟩
  have H3:=b6 d3
  have T3:=b6 (TS.out.trans t3 iE)
  clear d3 t3 h123 HS TS
  go_wp2_with fail
  go_loopg [7] 0 (fun gk v7 wq=>v7=.string ⟨#[]⟩/\wq=w3)
  case atStart=>exact⟨rfl,rfl⟩
  case round=>
   obtain⟨rfl,rfl⟩:=hrel
   go_wp2_with fail
   refine(F6 ⟨#[]⟩ _).mono ?_
   rintro e w4 ⟨v,rfl,o⟩
   have O:=b6 o
   have D6:=b6 (H3.out.new o.touch)
   have T6:=b6 (T3.out.trans o.touch nE)
   clear o
   obtain⟨a4,c4,hv,hrg⟩:=O.out.slice
   subst hv
   clear hrg O H3 T3
   go_wp2_with fail
   refine(j7 b X k1 f op vN vn 24 k0 w4 D6.out HJ.out).mono ?_
   rintro e wf ⟨rfl,d3,t3⟩
   have DF:=b6 d3
   have TF:=b6 (T6.out.trans t3 iE)
   clear d3 t3
   go_wp2
   refine bodyPost_ret (results_tmp2 rfl _ _ _) rfl ?_
   rw[HPO.out]
   exact⟨.slice none 0 0,[],-1,rfl,I5 wf,Nat.zero_le _,fun g e=>(by cases e),DF.out,TF.out⟩
theorem UQ (b:Nat)(X:Px)(k0 k:Nat)(f:Fl)(op:Nat)(vN vn:Value)(w:World)(h:DS w b X k f op vN vn 0 0)(hk:k<=X.R.length)(hR:X.R.length<=1024)(hc:g7 X.R k=80)(hj:k0<X.P.length):
 Calls Tryz.prog 101 #[.pointer (some ⟨b,0,none⟩),.int .i64 (k0:Nat)] w fun e w'=>E4 b X f op vN vn w (JI (FY X.R k0 true (k+1))) e w':=by
 have HJ:=b6 hj
 have hk1R:k+1<=X.R.length:=by have:=j9 hc (by decide);omega
 have KP:=b6 (j6 b X k f op vN vn 0 0 0 w h (by omega) (by omega))
 rw[Nat.add_zero,hc]at KP
 have HD:=b6 h
 obtain⟨k1,hk1⟩:∃k1,k1=k+1:=⟨_,rfl⟩
 have hwk:IntKind.i64.wrap ((k:Int)+1)=(k1:Int):=by rw[IntKind.wrap_i64];omega
 rw[<-hk1]at hk1R⊢
 obtain⟨PO,hPO⟩:∃PO,PO=JI (FY X.R k0 true k1):=⟨_,rfl⟩
 rw[<-hPO]
 clear h hc hk1 hj
 go_enter Tryz.func101,Tryz.ntmps101
 go_wp2_with fail
 refine KP.out.mono ?_
 rintro e w1 ⟨rfl,nq,rfl⟩
 replace HD:=b6 (HD.out.new ((tZ w).drewN nq))
 have HT:=b6 ((b7.refl (fun g=>g=b) w).drewN nq)
 clear KP
 generalize w.drewN nq=w1 at*
 have c2:w1.cell? ⟨b,2,none⟩=some (.int .i64 ((k:Nat):Int)):=HD.out.c 2 _ rfl
 have f2:=HD.out.fr 2
 have HS:=b6 (HD.out.setk k1)
 have TS:=b6 (b7.trans (S:=fun g=>g=b) HT.out (d9 w1 b 2 (.int .i64 (k1:Int))) iE)
 go_upto_region 3 with fail
 clear c2 f2 HD HT
 generalize w1.setCell ⟨b,2,none⟩ (.int .i64 (k1:Int))=w2 at*
 by_cases h123:g7 X.R k1=123
 ·obtain⟨k2,hk2⟩:∃k2,k2=k1+1:=⟨_,rfl⟩
  have hk2R:k2<=X.R.length:=by have:=j9 h123 (by decide);omega
  obtain⟨L,hL⟩:∃L,L=Fu X.R k2:=⟨_,rfl⟩
  have HPN:=b6 (show PO=JI (OK X.R k0 true k2 L)by rw[hPO,hL,hk2,JA h123])
  have HL:=b6 (show L=l6 X.R M7 (X.R.length+1) k2 from hL)
  clear hPO hL
  go_wp2_with fail
  refine(y7 123 HS.out (by omega) h123).mono ?_
  rintro e w3 ⟨rfl,d3,t3⟩
  have H3:=b6 (show DS w3 b X k2 f op vN vn 0 0 by rw[hk2];exact d3)
  have T3:=b6 (TS.out.trans t3 iE)
  clear d3 t3 h123 HS TS hk2
  go_wp2_with fail
  go_loopg [7] (X.R.length+1) (fun gk v7 wq=>∃(i:Nat) (t:List Int),i+gk=X.R.length+1/\v7=.string (i7 t)/\Hid (t.length=i)/\Hid (L=t++l6 X.R M7 gk (k2+i))/\Hid (k2+i<=X.R.length)/\Hid (DS wq b X (k2+i) f op vN vn 0 0)/\Hid (b7 (fun g=>g=b) w wq))
  case atStart=>exact⟨0,[],Nat.zero_add _,rfl,b6 rfl,HL,b6 hk2R,H3,T3⟩
  case round=>
   clear HL H3 T3
   obtain⟨i,t,hgk,rfl,HTL,HL,HKI,HD,HT⟩:=hrel
   obtain⟨S,hS⟩:∃S,S=i7 t:=⟨_,rfl⟩
   have hSz:S.size<=2048:=by rw[hS,Ar,HTL.out];omega
   rw[<-hS]
   obtain⟨y,hy⟩:∃y,y=g7 X.R (k2+i):=⟨_,rfl⟩
   have HKb:=b6 (show k2+i<=1024 by have:=HKI.out;omega)
   have KP:=b6 (fun w' (g:DS w' b X (k2+i) f op vN vn 0 0)=>j6 b X (k2+i) f op vN vn 0 0 0 w' g (by have:=HKb.out;omega) (by omega))
   rw[Nat.add_zero,<-hy]at KP
   obtain⟨Y,hY⟩:∃Y,Y=M7 y:=⟨_,rfl⟩
   have HY:=b6 hY
   clear hY
   go_upto_region 9 with fail
   go_cut [55] (fun v wd=>v=.bool Y/\Hid (DS wd b X (k2+i) f op vN vn 0 0)/\Hid (b7 (fun g=>g=b) w wd))
   case first=>
    clear hS hSz
    have HYY:=b6 hy
    clear hy
    by_cases g1:y>32
    ·by_cases g2:y<127
     ·by_cases g3:y=125
      ·have E:=b6 (show Y=false from by rw[HY.out,g3];rfl)
       rw[g3]at KP
       clear g1 g2 g3 HY
       go_wp2_with fail
       refine(KP.out _ HD.out).mono ?_
       rintro e wp ⟨rfl,n1,hwp⟩
       replace HD:=b6 (HD.out.dr hwp)
       replace HT:=b6 (HT.out.dr hwp)
       clear hwp
       go_wp2_with fail
       refine(KP.out _ HD.out).mono ?_
       rintro e wp ⟨rfl,n2,hwp⟩
       replace HD:=b6 (HD.out.dr hwp)
       replace HT:=b6 (HT.out.dr hwp)
       clear hwp
       go_wp2_with fail
       refine(KP.out _ HD.out).mono ?_
       rintro e wp ⟨rfl,n3,hwp⟩
       replace HD:=b6 (HD.out.dr hwp)
       replace HT:=b6 (HT.out.dr hwp)
       clear hwp
       go_wp2
       go_meet
       case rel=>exact⟨by rw[E.out],HD,HT⟩
      ·have E:=b6 (show Y=true from by rw[HY.out];unfold M7;simp;omega)
       have g3b:(y==125)=false:=beq_eq_false_iff_ne.2 g3
       have G3:=b6 g3
       clear g3 HY
       go_wp2_with fail
       refine(KP.out _ HD.out).mono ?_
       rintro e wp ⟨rfl,n1,hwp⟩
       replace HD:=b6 (HD.out.dr hwp)
       replace HT:=b6 (HT.out.dr hwp)
       clear hwp
       go_wp2_with fail
       refine(KP.out _ HD.out).mono ?_
       rintro e wp ⟨rfl,n2,hwp⟩
       replace HD:=b6 (HD.out.dr hwp)
       replace HT:=b6 (HT.out.dr hwp)
       clear hwp
       go_wp2_with fail
       refine(KP.out _ HD.out).mono ?_
       rintro e wp ⟨rfl,n3,hwp⟩
       replace HD:=b6 (HD.out.dr hwp)
       replace HT:=b6 (HT.out.dr hwp)
       clear hwp
       go_wp2
       go_meet
       case rel=>exact⟨by rw[E.out];simp;exact G3.out,HD,HT⟩
     ·have E:=b6 (show Y=false from by rw[HY.out];unfold M7;simp;omega)
      clear HY
      go_wp2_with fail
      refine(KP.out _ HD.out).mono ?_
      rintro e wp ⟨rfl,n1,hwp⟩
      replace HD:=b6 (HD.out.dr hwp)
      replace HT:=b6 (HT.out.dr hwp)
      clear hwp
      go_wp2_with fail
      refine(KP.out _ HD.out).mono ?_
      rintro e wp ⟨rfl,n2,hwp⟩
      replace HD:=b6 (HD.out.dr hwp)
      replace HT:=b6 (HT.out.dr hwp)
      clear hwp
      go_wp2
      go_meet
      case rel=>exact⟨by rw[E.out],HD,HT⟩
    ·have E:=b6 (show Y=false from by rw[HY.out];unfold M7;simp;omega)
     clear HY
     go_wp2_with fail
     refine(KP.out _ HD.out).mono ?_
     rintro e wp ⟨rfl,n1,hwp⟩
     replace HD:=b6 (HD.out.dr hwp)
     replace HT:=b6 (HT.out.dr hwp)
     clear hwp
     go_wp2
     go_meet
     case rel=>exact⟨by rw[E.out],HD,HT⟩
   obtain⟨rfl,HD,HT⟩:=hcut
   cases Y with
   |true=>
    have hg:=HY.out.symm
    have hlt:k2+i<X.R.length:=by
     refine I6 (fun e=>?_)
     rw[hy,e]at hg
     cases hg
    obtain⟨gk,rfl⟩:∃g,gk=g+1:=⟨gk-1,by have:=HKI.out;omega⟩
    have HX:=b6 (show L=(t++ [y])++l6 X.R M7 gk (k2+(i+1))by
     have:=HL.out
     rw[C5,<-hy,if_pos hg]at this
     rw[this,List.append_assoc]
     rfl)
    have hy7:0<=y/\y<127:=by unfold M7 at hg;simp at hg;omega
    have hwu:IntKind.u8.wrap y=y:=by rw[IntKind.wrap_u8];omega
    obtain⟨c,hcc⟩:∃c,c=UInt8.ofNat y.toNat:=⟨_,rfl⟩
    have hcy:(c.toNat:Int)=y:=by rw[hcc,UInt8.toNat_ofNat'];omega
    have HAD:=b6 (show S++⟨#[c]⟩=i7 (t++ [y])by rw[hS,hcc];exact Ci t y)
    clear hS hcc hg hy HL HY
    go_wp2_with fail
    refine(KP.out _ HD.out).mono ?_
    rintro e wp ⟨rfl,n1,hwp⟩
    replace HD:=b6 (HD.out.dr hwp)
    replace HT:=b6 (HT.out.dr hwp)
    clear hwp
    have hcv:=CJ (wp.alloc (.cells #[.int .u8 y] 5)) wp.heap.size c (by rw[hcy];exact N0 _ _)
    have D5:=b6 (HD.out.new ((tZ wp).alloc (.cells #[.int .u8 y] 5)))
    have T5:=b6 (HT.out.alloc (.cells #[.int .u8 y] 5))
    go_upto_region 11 with fail
    clear hcv HD HT
    generalize wp.alloc (.cells #[.int .u8 y] 5)=w5 at*
    obtain⟨m,hm⟩:∃m,m=k2+i:=⟨_,rfl⟩
    have hwm:IntKind.i64.wrap ((m:Int)+1)=((k2+(i+1):Nat):Int):=by rw[IntKind.wrap_i64];omega
    rw[<-hm]at D5
    have d2:w5.cell? ⟨b,2,none⟩=some (.int .i64 (m:Int)):=D5.out.c 2 _ rfl
    have e2:=D5.out.fr 2
    obtain⟨m2,hm2⟩:∃m2,m2=k2+(i+1):=⟨_,rfl⟩
    rw[<-hm2]at hwm HX
    have HM2:=b6 hm2
    have D6:=b6 (D5.out.setk m2)
    have T6:=b6 (b7.trans (S:=fun g=>g=b) T5.out (d9 w5 b 2 (.int .i64 (m2:Int))) iE)
    clear hm hm2 D5 T5
    go_wp2
    go_roundg gk
    case measure=>omega
    case rel=>
     refine⟨i+1,t++ [y],by omega,by rw[<-HAD.out],b6 (by rw[List.length_append,HTL.out];rfl),b6 (by rw[<-HM2.out];exact HX.out),b6 (by omega),b6 (by rw[<-HM2.out];exact D6.out),b6 T6.out⟩
   |false=>
    have hX:L=t:=by
     have:=HL.out
     have e:=HY.out
     rw[this]
     cases gk with
     |zero=>exact List.append_nil _
     |succ g=>rw[C5,<-hy,if_neg (by rw[<-e];decide),List.append_nil]
    subst hX
    have hLen:=HTL.out
    obtain⟨k3,hk3⟩:∃k3,k3=k2+i:=⟨_,rfl⟩
    rw[<-hk3]at HD HKI
    have HPK:=b6 (show PO=JI (if g7 X.R k3=125 then(match s5 S b8 with
     |some m=>.ok (if true then z6 m else m,k3+1)
     |none=>.error (24,k0))else .error (24,k0))by rw[HPN.out];unfold OK;rw[hLen,<-hk3,<-hS])
    clear hS hy HL HY HTL KP hk3 HPN hLen hgk HKb
    have HDR:=b6 (fun w'=>F6 S w')
    have HB4:=b6 HT.out.size
    have HRG:=b6 (fun l (e:s5 S b8=some l)=>JO e)
    have HRN:=b6 (fun(e:s5 S b8=none)=>JN e)
    go_wp2_with fail
    refine(HDR.out _).mono ?_
    rintro e w4 ⟨v,rfl,o⟩
    have O:=b6 o
    replace HD:=b6 (HD.out.new o.touch)
    replace HT:=b6 (HT.out.trans o.touch nE)
    clear o HDR
    obtain⟨a4,c4,hv,hrg⟩:=O.out.slice
    subst hv
    have HRR:=b6 hrg
    clear hrg
    have hk3b:k3<=1024:=by have:=HKI.out;omega
    by_cases h125:g7 X.R k3=125
    ·have HPL:=b6 (show PO=_ from by rw[HPK.out,if_pos h125])
     clear HPK
     cases hl:s5 S b8 with
     |some m=>
      rw[hl]at HPL
      obtain⟨e1,e2,e3,e4,e5,e6,e7⟩:=HRG.out m hl
      rw[e1]at O HRR⊢
      have f1:((m.length:Int)==0)=false:=beq_eq_false_iff_ne.2 (by omega)
      have f2:¬(S.size:Int)<1:=by omega
      have f4:=K9 e4
      have f5:=K9 e5
      have f6:=K9 e6
      have f7:=K9 e7
      have HML:=b6 (show m.length<=4194304 from by
       have ht:b8.all (fun p=>decide (p.2.length<=4194304))=true:=by decide
       exact of_decide_eq_true (List.all_eq_true.1 ht _ (Ad hl)))
      obtain⟨n,hn⟩:∃n,n=m.length:=⟨_,rfl⟩
      have KN:=b6 (fun w' (g:Rg w' a4 m)=>Y9 a4 c4 m w' g HML.out)
      rw[<-hn]at f1 KN⊢
      clear e1 e2 e3 e4 e5 e6 e7 hl HRG HRN HML
      have O4:=b6 (show RR w4 (.slice a4 n c4) m from by rw[hn];exact O.out.own)
      have HNW:=b6 (fun g (e:(Value.slice a4 n c4).ownBlock=some g)=>O.out.new g (by rw[<-hn];exact e))
      clear hn O
      go_wp2_with fail
      refine(y7 125 HD.out (by omega) h125).mono ?_
      rintro e w6 ⟨rfl,d6,t6⟩
      have D6:=b6 d6
      have T6:=b6 (HT.out.trans t6 iE)
      have R6:=b6 (g9 O4.out t6 (fun g e e2=>by obtain⟨cs,fr,hh⟩:=j5 O4.out g e;rw[e2,HD.out.cells]at hh;cases hh))
      clear d6 t6
      have RG6:=b6 (show Rg w6 a4 m from by obtain⟨a5,c5,hv,hg⟩:=F5 R6.out;cases hv;exact hg)
      go_wp2_with fail
      refine(KN.out _ RG6.out).mono ?_
      rintro e w7 ⟨v,rfl,o⟩
      have O7:=b6 o
      clear o KN
      go_wp2
      refine bodyPost_ret (results_tmp2 rfl _ _ _) rfl ?_
      rw[HPL.out]
      exact⟨v,rfl,O7.out.own,fun g e=>Nat.le_trans T6.out.size (O7.out.new g e),D6.out.new O7.out.touch,T6.out.trans O7.out.touch nE⟩
     |none=>
      rw[hl]at HPL
      have HPO:=b6 (show PO=.error (24,k0)from HPL.out)
      clear HPL HRG
      rcases HRN.out hl with⟨hs,hr⟩|⟨hs,hr⟩|⟨hs,hr⟩|⟨hs,hr⟩|hr
      ·have hS:=J8 hs
       subst hS
       rw[hr]at O HRR⊢
       clear hl hr hs HRN
       go_wp2_with fail
       refine(y7 125 HD.out (by omega) h125).mono ?_
       rintro e w6 ⟨rfl,d6,t6⟩
       have D6:=b6 d6
       have T6:=b6 (HT.out.trans t6 iE)
       clear d6 t6
       go_wp2_with fail
       refine(j7 b X (k3+1) f op vN vn 24 k0 w6 D6.out HJ.out).mono ?_
       rintro e wf ⟨rfl,d3,t3⟩
       have DF:=b6 d3
       have TF:=b6 (T6.out.trans t3 iE)
       clear d3 t3
       go_wp2
       refine bodyPost_ret (results_tmp2 rfl _ _ _) rfl ?_
       rw[HPO.out]
       exact⟨.slice none 0 0,[],-1,rfl,I5 wf,Nat.zero_le _,fun g e=>(by cases e),DF.out,TF.out⟩
      ·have hS:=J8 hs
       subst hS
       rw[hr]at O HRR⊢
       clear hl hr hs HRN
       go_wp2_with fail
       refine(y7 125 HD.out (by omega) h125).mono ?_
       rintro e w6 ⟨rfl,d6,t6⟩
       have D6:=b6 d6
       have T6:=b6 (HT.out.trans t6 iE)
       clear d6 t6
       go_wp2_with fail
       refine(j7 b X (k3+1) f op vN vn 24 k0 w6 D6.out HJ.out).mono ?_
       rintro e wf ⟨rfl,d3,t3⟩
       have DF:=b6 d3
       have TF:=b6 (T6.out.trans t3 iE)
       clear d3 t3
       go_wp2
       refine bodyPost_ret (results_tmp2 rfl _ _ _) rfl ?_
       rw[HPO.out]
       exact⟨.slice none 0 0,[],-1,rfl,I5 wf,Nat.zero_le _,fun g e=>(by cases e),DF.out,TF.out⟩
      ·have hS:=J8 hs
       subst hS
       rw[hr]at O HRR⊢
       clear hl hr hs HRN
       go_wp2_with fail
       refine(y7 125 HD.out (by omega) h125).mono ?_
       rintro e w6 ⟨rfl,d6,t6⟩
       have D6:=b6 d6
       have T6:=b6 (HT.out.trans t6 iE)
       clear d6 t6
       go_wp2_with fail
       refine(j7 b X (k3+1) f op vN vn 24 k0 w6 D6.out HJ.out).mono ?_
       rintro e wf ⟨rfl,d3,t3⟩
       have DF:=b6 d3
       have TF:=b6 (T6.out.trans t3 iE)
       clear d3 t3
       go_wp2
       refine bodyPost_ret (results_tmp2 rfl _ _ _) rfl ?_
       rw[HPO.out]
       exact⟨.slice none 0 0,[],-1,rfl,I5 wf,Nat.zero_le _,fun g e=>(by cases e),DF.out,TF.out⟩
      ·have hS:=J8 hs
       subst hS
       rw[hr]at O HRR⊢
       clear hl hr hs HRN
       go_wp2_with fail
       refine(y7 125 HD.out (by omega) h125).mono ?_
       rintro e w6 ⟨rfl,d6,t6⟩
       have D6:=b6 d6
       have T6:=b6 (HT.out.trans t6 iE)
       clear d6 t6
       go_wp2_with fail
       refine(j7 b X (k3+1) f op vN vn 24 k0 w6 D6.out HJ.out).mono ?_
       rintro e wf ⟨rfl,d3,t3⟩
       have DF:=b6 d3
       have TF:=b6 (T6.out.trans t3 iE)
       clear d3 t3
       go_wp2
       refine bodyPost_ret (results_tmp2 rfl _ _ _) rfl ?_
       rw[HPO.out]
       exact⟨.slice none 0 0,[],-1,rfl,I5 wf,Nat.zero_le _,fun g e=>(by cases e),DF.out,TF.out⟩
      ·rw[hr]at O HRR⊢
       clear hl hr HRN
       go_wp2_with fail
       refine(y7 125 HD.out (by omega) h125).mono ?_
       rintro e w6 ⟨rfl,d6,t6⟩
       have D6:=b6 d6
       have T6:=b6 (HT.out.trans t6 iE)
       clear d6 t6
       go_wp2_with fail
       refine(j7 b X (k3+1) f op vN vn 24 k0 w6 D6.out HJ.out).mono ?_
       rintro e wf ⟨rfl,d3,t3⟩
       have DF:=b6 d3
       have TF:=b6 (T6.out.trans t3 iE)
       clear d3 t3
       go_wp2
       refine bodyPost_ret (results_tmp2 rfl _ _ _) rfl ?_
       rw[HPO.out]
       exact⟨.slice none 0 0,[],-1,rfl,I5 wf,Nat.zero_le _,fun g e=>(by cases e),DF.out,TF.out⟩
    ·have HPO:=b6 (show PO=.error (24,k0)from by rw[HPK.out,if_neg h125];rfl)
     clear HPK HRG HRN
     go_wp2_with fail
     refine(E6 125 HD.out (by omega) h125).mono ?_
     rintro e w6 ⟨rfl,d6,t6⟩
     have D6:=b6 d6
     have T6:=b6 (HT.out.trans t6 iE)
     clear d6 t6 h125
     go_wp2_with fail
     refine(j7 b X k3 f op vN vn 24 k0 w6 D6.out HJ.out).mono ?_
     rintro e wf ⟨rfl,d3,t3⟩
     have DF:=b6 d3
     have TF:=b6 (T6.out.trans t3 iE)
     clear d3 t3
     go_wp2
     refine bodyPost_ret (results_tmp2 rfl _ _ _) rfl ?_
     rw[HPO.out]
     exact⟨.slice none 0 0,[],-1,rfl,I5 wf,Nat.zero_le _,fun g e=>(by cases e),DF.out,TF.out⟩
 ·have HPO:=b6 (show PO=.error (24,k0)from by rw[hPO];unfold FY;rw[if_neg h123];rfl)
  clear hPO
  go_wp2_with fail
  refine(E6 123 HS.out (by omega) h123).mono ?_
  rintro e w3 ⟨rfl,d3,t3⟩
  have H3:=b6 d3
  have T3:=b6 (TS.out.trans t3 iE)
  clear d3 t3 h123 HS TS
  go_wp2_with fail
  go_loopg [7] 0 (fun gk v7 wq=>v7=.string ⟨#[]⟩/\wq=w3)
  case atStart=>exact⟨rfl,rfl⟩
  case round=>
   obtain⟨rfl,rfl⟩:=hrel
   go_wp2_with fail
   refine(F6 ⟨#[]⟩ _).mono ?_
   rintro e w4 ⟨v,rfl,o⟩
   have O:=b6 o
   have D6:=b6 (H3.out.new o.touch)
   have T6:=b6 (T3.out.trans o.touch nE)
   clear o
   obtain⟨a4,c4,hv,hrg⟩:=O.out.slice
   subst hv
   clear hrg O H3 T3
   go_wp2_with fail
   refine(j7 b X k1 f op vN vn 24 k0 w4 D6.out HJ.out).mono ?_
   rintro e wf ⟨rfl,d3,t3⟩
   have DF:=b6 d3
   have TF:=b6 (T6.out.trans t3 iE)
   clear d3 t3
   go_wp2
   refine bodyPost_ret (results_tmp2 rfl _ _ _) rfl ?_
   rw[HPO.out]
   exact⟨.slice none 0 0,[],-1,rfl,I5 wf,Nat.zero_le _,fun g e=>(by cases e),DF.out,TF.out⟩
end Go.Proofs.YtdhhcefmmojcmaaGreatDoor
