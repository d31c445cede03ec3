/- Texts of this proof, one behind the other. -/
import Derived.Test.YtdhhcefmmojcmaaGreatDoorWk
import Derived.Test.YtdhhcefmmojcmaaGreatDoorM32
import Derived.Test.YtdhhcefmmojcmaaGreatDoorWn
import Derived.Test.YtdhhcefmmojcmaaGreatDoorM6
set_option maxRecDepth 100000
set_option maxHeartbeats 0
set_option linter.unusedVariables false
namespace Go.Proofs.YtdhhcefmmojcmaaGreatDoor
open Go.RowKit Go.Lib
theorem GY (l:List Int)(d:Int):D7 (l++ [d])=16*D7 l+U7 d:=by simp[D7]
theorem ML {c:Int}(h:p6 c=true):U7 c<=15:=by
 unfold p6 p4 at h
 unfold U7
 simp only[Bool.or_eq_true,Bool.and_eq_true,decide_eq_true_eq]at h
 split
 ·omega
 ·split<;>omega
theorem CQ {c:Int}(h:p6 c=true):Du c=(U7 c:Nat):=by unfold Du;rw[if_pos h]
theorem MK {c:Int}(h:¬p6 c=true):Du c= -1:=by unfold Du;rw[if_neg h]
theorem CR (R:List Int)(n k:Nat):l6 R p6 (n+1) k=if p6 (g7 R k)then g7 R k::l6 R p6 n (k+1)else[]:=rfl
def PE:PR (Nat×Nat)->PR (List R2×Option Int×Nat)
 | .error e=>.error e
 | .ok (n,k1)=>.ok ([((n:Int),(n:Int))],some (n:Int),k1)
theorem Va (b:Nat)(X:Px)(k0 k:Nat)(f:Fl)(op:Nat)(vN vn:Value)(w:World)(h:DS w b X k f op vN vn 0 0)(hk:k<=X.R.length)(hR:X.R.length<=1024)(hc:g7 X.R k=120)(hj:k0<X.P.length):
 Calls Tryz.prog 101 #[.pointer (some ⟨b,0,none⟩),.int .i64 (k0:Nat)] w fun e w'=>E4 b X f op vN vn w (PE (J9 X.R k0 (k+1))) e w':=by
 have HJ:=b6 hj
 have hk1R:k+1<=X.R.length:=by have:=j9 hc (by decide);omega
 have KP0:=b6 (j6 b X k f op vN vn 0 0 0 w h (by omega) (by omega))
 rw[Nat.add_zero,hc]at KP0
 have HD:=b6 h
 obtain⟨k1,hk1⟩:∃k1,k1=k+1:=⟨_,rfl⟩
 have hwk:IntKind.i64.wrap ((k:Int)+1)=(k1:Int):=by rw[IntKind.wrap_i64];omega
 rw[<-hk1]at hk1R⊢
 obtain⟨PO,hPO⟩:∃PO,PO=PE (J9 X.R k0 k1):=⟨_,rfl⟩
 rw[<-hPO]
 clear h hc hk1 hj
 go_enter Tryz.func101,Tryz.ntmps101
 go_wp2_with fail
 refine KP0.out.mono ?_
 rintro e w1 ⟨rfl,nq,rfl⟩
 replace HD:=b6 (HD.out.new ((tZ w).drewN nq))
 have HT:=b6 ((b7.refl (fun g=>g=b) w).drewN nq)
 clear KP0
 generalize w.drewN nq=w1 at*
 have c2:w1.cell? ⟨b,2,none⟩=some (.int .i64 ((k:Nat):Int)):=HD.out.c 2 _ rfl
 have f2:=HD.out.fr 2
 have HS:=b6 (HD.out.setk k1)
 have TS:=b6 (b7.trans (S:=fun g=>g=b) HT.out (d9 w1 b 2 (.int .i64 (k1:Int))) iE)
 go_upto_region 3 with fail
 clear c2 f2 HD HT
 generalize w1.setCell ⟨b,2,none⟩ (.int .i64 (k1:Int))=w2 at*
 by_cases h123:g7 X.R k1=123
 ·obtain⟨k2,hk2⟩:∃k2,k2=k1+1:=⟨_,rfl⟩
  have hk2R:k2<=X.R.length:=by have:=j9 h123 (by decide);omega
  obtain⟨L,hL⟩:∃L,L=l6 X.R p6 6 k2:=⟨_,rfl⟩
  have HPN:=b6 (show PO=PE (if L≠ []/\g7 X.R (k2+L.length)=125/\D7 L<=1114111 then .ok (D7 L,k2+L.length+1)else .error (20,k0))by rw[hPO,hL,hk2];unfold J9;rw[if_pos h123])
  have HL:=b6 hL
  clear hPO hL
  go_wp2_with fail
  refine(y7 123 HS.out (by omega) h123).mono ?_
  rintro e w3 ⟨rfl,d3,t3⟩
  have H3:=b6 (show DS w3 b X k2 f op vN vn 0 0 by rw[hk2];exact d3)
  have T3:=b6 (TS.out.trans t3 iE)
  clear d3 t3 h123 HS TS hk2
  go_wp2_with fail
  go_loopg [10,11] 6 (fun gk v10 v11 wq=>∃(i:Nat) (t:List Int),i+gk=6/\v10=.int .i64 (D7 t:Nat)/\v11=.int .i64 (i:Nat)/\Hid (t.length=i)/\Hid (L=t++l6 X.R p6 gk (k2+i))/\Hid (k2+i<=X.R.length)/\Hid (D7 t<16^i)/\Hid (DS wq b X (k2+i) f op vN vn 0 0)/\Hid (b7 (fun g=>g=b) w wq))
  case atStart=>exact⟨0,[],rfl,rfl,rfl,b6 rfl,HL,b6 hk2R,b6 (by decide),H3,T3⟩
  case round=>
   clear HL H3 T3
   obtain⟨i,t,hgk,rfl,rfl,HTL,HL,HKI,HV,HD,HT⟩:=hrel
   obtain⟨V,hV⟩:∃V,V=D7 t:=⟨_,rfl⟩
   rw[<-hV]
   obtain⟨y,hy⟩:∃y,y=g7 X.R (k2+i):=⟨_,rfl⟩
   have HKb:=b6 (show k2+i<=1024 by have:=HKI.out;omega)
   have KP:=b6 (fun w' (g:DS w' b X (k2+i) f op vN vn 0 0)=>j6 b X (k2+i) f op vN vn 0 0 0 w' g (by have:=HKb.out;omega) (by omega))
   rw[Nat.add_zero,<-hy]at KP
   have KH:=b6 (fun w'=>IY y w')
   have hVb:V<16^i:=by rw[hV];exact HV.out
   have hV24:V<16777216:=Nat.lt_of_lt_of_le hVb (by have:=Nat.pow_le_pow_right (n:=16) (by decide) (show i<=6 by omega);exact this)
   have HVB:=b6 hVb
   obtain⟨Y,hY⟩:∃Y,Y=(p6 y&&decide (i<6)):=⟨_,rfl⟩
   have HY:=b6 hY
   have HVV:=b6 hV
   have HYY:=b6 hy
   clear hY hV hVb hy HV
   go_upto_region 22 with fail
   go_cut [131] (fun v wd=>v=.bool Y/\Hid (DS wd b X (k2+i) f op vN vn 0 0)/\Hid (b7 (fun g=>g=b) w wd))
   case first=>
    by_cases g1:p6 y=true
    ·rw[CQ g1]at KH
     have hz:((U7 y:Nat):Int)≥0:=by omega
     by_cases g2:i<6
     ·have g2I:(i:Int)<6:=by omega
      have g6I:(i:Int)<6:=by omega
      have E:=b6 (show Y=true from by rw[HY.out,g1];simp[g2])
      generalize U7 y=z at*
      clear g1 HY
      go_wp2_with fail
      refine(KP.out _ HD.out).mono ?_
      rintro e wp ⟨rfl,n1,hwp⟩
      replace HD:=b6 (HD.out.dr hwp)
      replace HT:=b6 (HT.out.dr hwp)
      clear hwp
      go_wp2_with fail
      refine(KH.out _).mono ?_
      rintro e wh ⟨rfl,rfl⟩
      go_wp2
      go_meet
      case rel=>exact⟨by rw[E.out],HD,HT⟩
     ·have g2I:¬(i:Int)<6:=by omega
      have E:=b6 (show Y=false from by rw[HY.out,g1];simp[g2])
      generalize U7 y=z at*
      clear g1 HY
      go_wp2_with fail
      refine(KP.out _ HD.out).mono ?_
      rintro e wp ⟨rfl,n1,hwp⟩
      replace HD:=b6 (HD.out.dr hwp)
      replace HT:=b6 (HT.out.dr hwp)
      clear hwp
      go_wp2_with fail
      refine(KH.out _).mono ?_
      rintro e wh ⟨rfl,rfl⟩
      go_wp2
      go_meet
      case rel=>exact⟨by rw[E.out]<;>simp[g2I],HD,HT⟩
    ·rw[MK g1]at KH
     have E:=b6 (show Y=false from by rw[HY.out];simp[g1])
     clear g1 HY
     go_wp2_with fail
     refine(KP.out _ HD.out).mono ?_
     rintro e wp ⟨rfl,n1,hwp⟩
     replace HD:=b6 (HD.out.dr hwp)
     replace HT:=b6 (HT.out.dr hwp)
     clear hwp
     go_wp2_with fail
     refine(KH.out _).mono ?_
     rintro e wh ⟨rfl,rfl⟩
     go_wp2
     go_meet
     case rel=>exact⟨by rw[E.out],HD,HT⟩
   obtain⟨rfl,HD,HT⟩:=hcut
   cases Y with
   |true=>
    have hyy:=HY.out.symm
    rw[Bool.and_eq_true,decide_eq_true_eq]at hyy
    obtain⟨hg,hlim⟩:=hyy
    have hlt:k2+i<X.R.length:=by
     refine I6 (fun e=>?_)
     rw[HYY.out,e]at hg
     cases hg
    obtain⟨gk,rfl⟩:∃g,gk=g+1:=⟨gk-1,by omega⟩
    have HX:=b6 (show L=(t++ [y])++l6 X.R p6 gk (k2+(i+1))by
     have:=HL.out
     rw[CR,<-HYY.out,if_pos hg]at this
     rw[this,List.append_assoc]
     rfl)
    have hz15:=ML hg
    rw[CQ hg]at KH
    have HVN:=b6 (show D7 (t++ [y])=16*V+U7 y by rw[GY,HVV.out])
    generalize U7 y=z at*
    have hw1:IntKind.i64.wrap (16*(V:Int))=16*(V:Int):=by rw[IntKind.wrap_i64];omega
    have hw2:IntKind.i64.wrap (16*(V:Int)+(z:Int))=((16*V+z:Nat):Int):=by rw[IntKind.wrap_i64];omega
    obtain⟨V2,hV2⟩:∃V2,V2=16*V+z:=⟨_,rfl⟩
    rw[<-hV2]at hw2 HVN
    have HP2:=b6 (show V2<16^(i+1)by have:=HVB.out;rw[Nat.pow_succ];omega)
    clear hg hV2 HY HL
    go_wp2_with fail
    refine(KP.out _ HD.out).mono ?_
    rintro e wp ⟨rfl,n1,hwp⟩
    replace HD:=b6 (HD.out.dr hwp)
    replace HT:=b6 (HT.out.dr hwp)
    clear hwp
    go_wp2_with fail
    refine(KH.out _).mono ?_
    rintro e wh ⟨rfl,rfl⟩
    obtain⟨m,hm⟩:∃m,m=k2+i:=⟨_,rfl⟩
    have hwm:IntKind.i64.wrap ((m:Int)+1)=((k2+(i+1):Nat):Int):=by rw[IntKind.wrap_i64];omega
    have hwi:IntKind.i64.wrap ((i:Int)+1)=((i+1:Nat):Int):=by rw[IntKind.wrap_i64];omega
    have D5:=HD
    rw[<-hm]at D5
    have d2:wh.cell? ⟨b,2,none⟩=some (.int .i64 (m:Int)):=D5.out.c 2 _ rfl
    have e2:=D5.out.fr 2
    obtain⟨m2,hm2⟩:∃m2,m2=k2+(i+1):=⟨_,rfl⟩
    rw[<-hm2]at hwm HX
    have HM2:=b6 hm2
    have D6:=b6 (D5.out.setk m2)
    have T6:=b6 (b7.trans (S:=fun g=>g=b) HT.out (d9 wh b 2 (.int .i64 (m2:Int))) iE)
    clear hm hm2 D5 HD HT
    go_wp2
    go_roundg gk
    case measure=>omega
    case rel=>
     refine⟨i+1,t++ [y],by omega,by rw[HVN.out],rfl,b6 (by rw[List.length_append,HTL.out];rfl),b6 (by rw[<-HM2.out];exact HX.out),b6 (by omega),b6 (by rw[HVN.out];exact HP2.out),b6 (by rw[<-HM2.out];exact D6.out),b6 T6.out⟩
   |false=>
    have hX:L=t:=by
     have:=HL.out
     have e:=HY.out
     rw[this]
     cases gk with
     |zero=>exact List.append_nil _
     |succ g=>
      have hi:i<6:=by omega
      rw[decide_eq_true hi,Bool.and_true]at e
      rw[CR,<-HYY.out,if_neg (by rw[<-e];decide),List.append_nil]
    subst hX
    have hLen:=HTL.out
    obtain⟨k3,hk3⟩:∃k3,k3=k2+i:=⟨_,rfl⟩
    rw[<-hk3]at HD HKI
    have HPK:=b6 (show PO=PE (if 0<i/\g7 X.R k3=125/\V<=1114111 then .ok (V,k3+1)else .error (20,k0))by
     rw[HPN.out,hLen,<-hk3,<-HVV.out]
     have:L≠ []↔0<i:=by rw[<-hLen];exact List.length_pos_iff.symm
     simp only[this])
    have hk3b:k3<=1024:=by have:=HKI.out;omega
    clear HY HTL KP hk3 HPN hLen hgk HKb HL HYY HVV KH
    by_cases p1:V<=1114111
    ·have p1I:(V:Int)<=1114111:=by omega
     by_cases p2:0<i
     ·have p2I:(i:Int)>0:=by omega
      by_cases p3:g7 X.R k3=125
      ·have HPO:=b6 (show PO=.ok ([((V:Int),(V:Int))],some (V:Int),k3+1)from by rw[HPK.out,if_pos ⟨p2,p3,p1⟩];rfl)
       clear p1 p2 HPK
       go_wp2_with fail
       refine(y7 125 HD.out (by omega) p3).mono ?_
       rintro e w6 ⟨rfl,d6,t6⟩
       have D6:=b6 d6
       have T6:=b6 (HT.out.trans t6 iE)
       clear d6 t6 p3
       have O:=b6 (s6 w6 87 (V:Int) (V:Int))
       go_wp2
       refine bodyPost_ret (results_tmp2 rfl _ _ _) rfl ?_
       rw[HPO.out]
       exact⟨_,rfl,O.out.own,fun g e=>Nat.le_trans T6.out.size (O.out.new g e),D6.out.new O.out.touch,T6.out.trans O.out.touch nE⟩
      ·have HPO:=b6 (show PO=.error (20,k0)from by rw[HPK.out,if_neg (fun h=>p3 h.2.1)];rfl)
       clear p1 p2 HPK
       go_wp2_with fail
       refine(E6 125 HD.out (by omega) p3).mono ?_
       rintro e w6 ⟨rfl,d6,t6⟩
       have D6:=b6 d6
       have T6:=b6 (HT.out.trans t6 iE)
       clear d6 t6 p3
       go_wp2_with fail
       refine(j7 b X k3 f op vN vn 20 k0 w6 D6.out HJ.out).mono ?_
       rintro e wf ⟨rfl,d3,t3⟩
       have DF:=b6 d3
       have TF:=b6 (T6.out.trans t3 iE)
       clear d3 t3
       have O:=b6 (s6 wf 87 (V:Int) (V:Int))
       go_wp2
       refine bodyPost_ret (results_tmp2 rfl _ _ _) rfl ?_
       rw[HPO.out]
       exact⟨_,[((V:Int),(V:Int))],(V:Int),rfl,O.out.own,Nat.le_refl _,fun g e=>Nat.le_trans TF.out.size (O.out.new g e),DF.out.new O.out.touch,TF.out.trans O.out.touch nE⟩
     ·have p2I:¬(i:Int)>0:=by omega
      have HPO:=b6 (show PO=.error (20,k0)from by rw[HPK.out,if_neg (fun h=>p2 h.1)];rfl)
      have D6:=HD
      have T6:=HT
      clear p1 p2 HPK HD HT
      go_wp2_with fail
      refine(j7 b X k3 f op vN vn 20 k0 _ D6.out HJ.out).mono ?_
      rintro e wf ⟨rfl,d3,t3⟩
      have DF:=b6 d3
      have TF:=b6 (T6.out.trans t3 iE)
      clear d3 t3
      have O:=b6 (s6 wf 87 (V:Int) (V:Int))
      go_wp2
      refine bodyPost_ret (results_tmp2 rfl _ _ _) rfl ?_
      rw[HPO.out]
      exact⟨_,[((V:Int),(V:Int))],(V:Int),rfl,O.out.own,Nat.le_refl _,fun g e=>Nat.le_trans TF.out.size (O.out.new g e),DF.out.new O.out.touch,TF.out.trans O.out.touch nE⟩
    ·have p1I:¬(V:Int)<=1114111:=by omega
     have HPO:=b6 (show PO=.error (20,k0)from by rw[HPK.out,if_neg (fun h=>p1 h.2.2)];rfl)
     have D6:=HD
     have T6:=HT
     clear p1 HPK HD HT
     go_wp2_with fail
     refine(j7 b X k3 f op vN vn 20 k0 _ D6.out HJ.out).mono ?_
     rintro e wf ⟨rfl,d3,t3⟩
     have DF:=b6 d3
     have TF:=b6 (T6.out.trans t3 iE)
     clear d3 t3
     have O:=b6 (s6 wf 87 (V:Int) (V:Int))
     go_wp2
     refine bodyPost_ret (results_tmp2 rfl _ _ _) rfl ?_
     rw[HPO.out]
     exact⟨_,[((V:Int),(V:Int))],(V:Int),rfl,O.out.own,Nat.le_refl _,fun g e=>Nat.le_trans TF.out.size (O.out.new g e),DF.out.new O.out.touch,TF.out.trans O.out.touch nE⟩
 ·obtain⟨k2,hk2⟩:∃k2,k2=k1:=⟨_,rfl⟩
  have hk2R:k2<=X.R.length:=by omega
  obtain⟨L,hL⟩:∃L,L=l6 X.R p6 2 k2:=⟨_,rfl⟩
  have HPN:=b6 (show PO=PE (if L.length=2 then .ok (D7 L,k2+2)else .error (20,k0))by rw[hPO,hL,hk2];unfold J9;rw[if_neg h123])
  have HL:=b6 hL
  clear hPO hL
  go_wp2_with fail
  refine(E6 123 HS.out (by omega) h123).mono ?_
  rintro e w3 ⟨rfl,d3,t3⟩
  have H3:=b6 (show DS w3 b X k2 f op vN vn 0 0 by rw[hk2];exact d3)
  have T3:=b6 (TS.out.trans t3 iE)
  clear d3 t3 h123 HS TS hk2
  go_wp2_with fail
  go_loopg [10,11] 2 (fun gk v10 v11 wq=>∃(i:Nat) (t:List Int),i+gk=2/\v10=.int .i64 (D7 t:Nat)/\v11=.int .i64 (i:Nat)/\Hid (t.length=i)/\Hid (L=t++l6 X.R p6 gk (k2+i))/\Hid (k2+i<=X.R.length)/\Hid (D7 t<16^i)/\Hid (DS wq b X (k2+i) f op vN vn 0 0)/\Hid (b7 (fun g=>g=b) w wq))
  case atStart=>exact⟨0,[],rfl,rfl,rfl,b6 rfl,HL,b6 hk2R,b6 (by decide),H3,T3⟩
  case round=>
   clear HL H3 T3
   obtain⟨i,t,hgk,rfl,rfl,HTL,HL,HKI,HV,HD,HT⟩:=hrel
   obtain⟨V,hV⟩:∃V,V=D7 t:=⟨_,rfl⟩
   rw[<-hV]
   obtain⟨y,hy⟩:∃y,y=g7 X.R (k2+i):=⟨_,rfl⟩
   have HKb:=b6 (show k2+i<=1024 by have:=HKI.out;omega)
   have KP:=b6 (fun w' (g:DS w' b X (k2+i) f op vN vn 0 0)=>j6 b X (k2+i) f op vN vn 0 0 0 w' g (by have:=HKb.out;omega) (by omega))
   rw[Nat.add_zero,<-hy]at KP
   have KH:=b6 (fun w'=>IY y w')
   have hVb:V<16^i:=by rw[hV];exact HV.out
   have hV24:V<16777216:=Nat.lt_of_lt_of_le hVb (by have:=Nat.pow_le_pow_right (n:=16) (by decide) (show i<=6 by omega);exact this)
   have HVB:=b6 hVb
   obtain⟨Y,hY⟩:∃Y,Y=(p6 y&&decide (i<2)):=⟨_,rfl⟩
   have HY:=b6 hY
   have HVV:=b6 hV
   have HYY:=b6 hy
   clear hY hV hVb hy HV
   go_upto_region 22 with fail
   go_cut [131] (fun v wd=>v=.bool Y/\Hid (DS wd b X (k2+i) f op vN vn 0 0)/\Hid (b7 (fun g=>g=b) w wd))
   case first=>
    by_cases g1:p6 y=true
    ·rw[CQ g1]at KH
     have hz:((U7 y:Nat):Int)≥0:=by omega
     by_cases g2:i<2
     ·have g2I:(i:Int)<2:=by omega
      have g6I:(i:Int)<6:=by omega
      have E:=b6 (show Y=true from by rw[HY.out,g1];simp[g2])
      generalize U7 y=z at*
      clear g1 HY
      go_wp2_with fail
      refine(KP.out _ HD.out).mono ?_
      rintro e wp ⟨rfl,n1,hwp⟩
      replace HD:=b6 (HD.out.dr hwp)
      replace HT:=b6 (HT.out.dr hwp)
      clear hwp
      go_wp2_with fail
      refine(KH.out _).mono ?_
      rintro e wh ⟨rfl,rfl⟩
      go_wp2
      go_meet
      case rel=>exact⟨by rw[E.out],HD,HT⟩
     ·have g2I:¬(i:Int)<2:=by omega
      have g6I:(i:Int)<6:=by omega
      have E:=b6 (show Y=false from by rw[HY.out,g1];simp[g2])
      generalize U7 y=z at*
      clear g1 HY
      go_wp2_with fail
      refine(KP.out _ HD.out).mono ?_
      rintro e wp ⟨rfl,n1,hwp⟩
      replace HD:=b6 (HD.out.dr hwp)
      replace HT:=b6 (HT.out.dr hwp)
      clear hwp
      go_wp2_with fail
      refine(KH.out _).mono ?_
      rintro e wh ⟨rfl,rfl⟩
      go_wp2
      go_meet
      case rel=>exact⟨by rw[E.out]<;>simp[g2I],HD,HT⟩
    ·rw[MK g1]at KH
     have E:=b6 (show Y=false from by rw[HY.out];simp[g1])
     clear g1 HY
     go_wp2_with fail
     refine(KP.out _ HD.out).mono ?_
     rintro e wp ⟨rfl,n1,hwp⟩
     replace HD:=b6 (HD.out.dr hwp)
     replace HT:=b6 (HT.out.dr hwp)
     clear hwp
     go_wp2_with fail
     refine(KH.out _).mono ?_
     rintro e wh ⟨rfl,rfl⟩
     go_wp2
     go_meet
     case rel=>exact⟨by rw[E.out],HD,HT⟩
   obtain⟨rfl,HD,HT⟩:=hcut
   cases Y with
   |true=>
    have hyy:=HY.out.symm
    rw[Bool.and_eq_true,decide_eq_true_eq]at hyy
    obtain⟨hg,hlim⟩:=hyy
    have hlt:k2+i<X.R.length:=by
     refine I6 (fun e=>?_)
     rw[HYY.out,e]at hg
     cases hg
    obtain⟨gk,rfl⟩:∃g,gk=g+1:=⟨gk-1,by omega⟩
    have HX:=b6 (show L=(t++ [y])++l6 X.R p6 gk (k2+(i+1))by
     have:=HL.out
     rw[CR,<-HYY.out,if_pos hg]at this
     rw[this,List.append_assoc]
     rfl)
    have hz15:=ML hg
    rw[CQ hg]at KH
    have HVN:=b6 (show D7 (t++ [y])=16*V+U7 y by rw[GY,HVV.out])
    generalize U7 y=z at*
    have hw1:IntKind.i64.wrap (16*(V:Int))=16*(V:Int):=by rw[IntKind.wrap_i64];omega
    have hw2:IntKind.i64.wrap (16*(V:Int)+(z:Int))=((16*V+z:Nat):Int):=by rw[IntKind.wrap_i64];omega
    obtain⟨V2,hV2⟩:∃V2,V2=16*V+z:=⟨_,rfl⟩
    rw[<-hV2]at hw2 HVN
    have HP2:=b6 (show V2<16^(i+1)by have:=HVB.out;rw[Nat.pow_succ];omega)
    clear hg hV2 HY HL
    go_wp2_with fail
    refine(KP.out _ HD.out).mono ?_
    rintro e wp ⟨rfl,n1,hwp⟩
    replace HD:=b6 (HD.out.dr hwp)
    replace HT:=b6 (HT.out.dr hwp)
    clear hwp
    go_wp2_with fail
    refine(KH.out _).mono ?_
    rintro e wh ⟨rfl,rfl⟩
    obtain⟨m,hm⟩:∃m,m=k2+i:=⟨_,rfl⟩
    have hwm:IntKind.i64.wrap ((m:Int)+1)=((k2+(i+1):Nat):Int):=by rw[IntKind.wrap_i64];omega
    have hwi:IntKind.i64.wrap ((i:Int)+1)=((i+1:Nat):Int):=by rw[IntKind.wrap_i64];omega
    have D5:=HD
    rw[<-hm]at D5
    have d2:wh.cell? ⟨b,2,none⟩=some (.int .i64 (m:Int)):=D5.out.c 2 _ rfl
    have e2:=D5.out.fr 2
    obtain⟨m2,hm2⟩:∃m2,m2=k2+(i+1):=⟨_,rfl⟩
    rw[<-hm2]at hwm HX
    have HM2:=b6 hm2
    have D6:=b6 (D5.out.setk m2)
    have T6:=b6 (b7.trans (S:=fun g=>g=b) HT.out (d9 wh b 2 (.int .i64 (m2:Int))) iE)
    clear hm hm2 D5 HD HT
    go_wp2
    go_roundg gk
    case measure=>omega
    case rel=>
     refine⟨i+1,t++ [y],by omega,by rw[HVN.out],rfl,b6 (by rw[List.length_append,HTL.out];rfl),b6 (by rw[<-HM2.out];exact HX.out),b6 (by omega),b6 (by rw[HVN.out];exact HP2.out),b6 (by rw[<-HM2.out];exact D6.out),b6 T6.out⟩
   |false=>
    have hX:L=t:=by
     have:=HL.out
     have e:=HY.out
     rw[this]
     cases gk with
     |zero=>exact List.append_nil _
     |succ g=>
      have hi:i<2:=by omega
      rw[decide_eq_true hi,Bool.and_true]at e
      rw[CR,<-HYY.out,if_neg (by rw[<-e];decide),List.append_nil]
    subst hX
    have hLen:=HTL.out
    obtain⟨k3,hk3⟩:∃k3,k3=k2+i:=⟨_,rfl⟩
    rw[<-hk3]at HD HKI
    have HPK:=b6 (show PO=PE (if i=2 then .ok (V,k2+2)else .error (20,k0))by rw[HPN.out,hLen,<-HVV.out])
    have hV8:V<=1114111:=by
     have:=HVB.out
     have h2:=Nat.pow_le_pow_right (n:=16) (by decide) (show i<=2 by omega)
     omega
    have p1I:(V:Int)<=1114111:=by omega
    have D6:=HD
    have T6:=HT
    clear HY HTL KP HPN hLen hgk HKb HL HYY HVV KH HD HT hV8
    by_cases p2:i=2
    ·subst p2
     have HPO:=b6 (show PO=.ok ([((V:Int),(V:Int))],some (V:Int),k3)from by rw[HPK.out,if_pos rfl,hk3];rfl)
     clear HPK hk3
     have O:=b6 (s6 wc 87 (V:Int) (V:Int))
     go_wp2
     refine bodyPost_ret (results_tmp2 rfl _ _ _) rfl ?_
     rw[HPO.out]
     exact⟨_,rfl,O.out.own,fun g e=>Nat.le_trans T6.out.size (O.out.new g e),D6.out.new O.out.touch,T6.out.trans O.out.touch nE⟩
    ·have HPO:=b6 (show PO=.error (20,k0)from by rw[HPK.out,if_neg p2];rfl)
     have p2I:((i:Int)==2)=false:=beq_eq_false_iff_ne.2 (by omega)
     clear p2 HPK hk3
     go_wp2_with fail
     refine(j7 b X k3 f op vN vn 20 k0 _ D6.out HJ.out).mono ?_
     rintro e wf ⟨rfl,d3,t3⟩
     have DF:=b6 d3
     have TF:=b6 (T6.out.trans t3 iE)
     clear d3 t3
     have O:=b6 (s6 wf 87 (V:Int) (V:Int))
     go_wp2
     refine bodyPost_ret (results_tmp2 rfl _ _ _) rfl ?_
     rw[HPO.out]
     exact⟨_,[((V:Int),(V:Int))],(V:Int),rfl,O.out.own,Nat.le_refl _,fun g e=>Nat.le_trans TF.out.size (O.out.new g e),DF.out.new O.out.touch,TF.out.trans O.out.touch nE⟩
theorem AD {y:Int}:u5 y=true↔(48<=y/\y<=57)∨(65<=y/\y<=90)∨(97<=y/\y<=122):=by
 unfold u5 p4 Y6
 simp only[Bool.or_eq_true,Bool.and_eq_true,decide_eq_true_eq]
theorem MF {R:List Int}{tab:List (ByteArray×List R2)}{k0 k:Nat}{c:Int}(h:c<33∨c>126):AA R tab k0 k c=.error (20,k0):=by
 unfold AA
 rw[if_neg (by omega),if_neg (by omega),if_neg (by omega),if_neg (by omega),if_neg (by omega),if_neg (by omega),if_neg (by omega),if_neg (by omega),if_neg (by omega),if_neg (by omega),if_neg (by omega),if_neg (by omega),if_neg (by omega),if_pos (h.imp id .inl)]
theorem QA {R:List Int}{tab:List (ByteArray×List R2)}{k0 k:Nat}{c:Int}(n1:¬c<33)(n2:¬c>126)(m0:c≠112)(m1:c≠80)(m2:c≠120)(m3:c≠100)(m4:c≠115)(m5:c≠119)(m6:c≠68)(m7:c≠83)(m8:c≠87)(m9:c≠110)(m10:c≠116)(m11:c≠114)(m12:c≠102)(m13:c≠118):
 AA R tab k0 k c=if u5 c=true then .error (20,k0)else .ok ([(c,c)],some c,k+1):=by
 unfold AA
 rw[if_neg m3,if_neg m6,if_neg m4,if_neg m7,if_neg m5,if_neg m8,if_neg (by omega),if_neg m2,if_neg m9,if_neg m10,if_neg m11,if_neg m12,if_neg m13]
 by_cases h:u5 c=true
 ·rw[if_pos (.inr (.inr h)),if_pos h]
 ·rw[if_neg (fun e=>e.elim n1 (fun e=>e.elim n2 h)),if_neg h]
theorem DO (b:Nat)(X:Px)(k0 k:Nat)(f:Fl)(op:Nat)(vN vn:Value)(w:World)(h:DS w b X k f op vN vn 0 0)(hk:k<=X.R.length)(hR:X.R.length<=1024)(hj:k0<X.P.length):
 Calls Tryz.prog 101 #[.pointer (some ⟨b,0,none⟩),.int .i64 (k0:Nat)] w fun e w'=>E4 b X f op vN vn w (L3 X.R b8 k0 k) e w':=by
 obtain⟨y,hc⟩:∃y,g7 X.R k=y:=⟨_,rfl⟩
 unfold L3
 rw[hc]
 by_cases n1:y<33
 ·rw[MF (.inl n1)]
  exact Qt b X k0 k f op vN vn w h hk hR y hc n1 hj
 by_cases n2:y>126
 ·rw[MF (.inr n2)]
  exact NY b X k0 k f op vN vn w h hk hR y hc n1 n2 hj
 by_cases m0:y=112
 ·subst m0
  have:=UU b X k0 k f op vN vn w h hk hR hc hj
  rw[<-JC]at this
  unfold AA
  simp only[show ¬(112:Int)=100 by decide,show ¬(112:Int)=68 by decide,show ¬(112:Int)=115 by decide,show ¬(112:Int)=83 by decide,show ¬(112:Int)=119 by decide,show ¬(112:Int)=87 by decide,if_false,true_or,if_true,show decide ((112:Int)=80)=false by decide]
  exact this
 by_cases m1:y=80
 ·subst m1
  have:=UQ b X k0 k f op vN vn w h hk hR hc hj
  rw[<-JC]at this
  unfold AA
  simp only[show ¬(80:Int)=100 by decide,show ¬(80:Int)=68 by decide,show ¬(80:Int)=115 by decide,show ¬(80:Int)=83 by decide,show ¬(80:Int)=119 by decide,show ¬(80:Int)=87 by decide,if_false,or_true,if_true,decide_true]
  exact this
 by_cases m2:y=120
 ·subst m2
  have:=Va b X k0 k f op vN vn w h hk hR hc hj
  unfold AA
  simp only[show ¬(120:Int)=100 by decide,show ¬(120:Int)=68 by decide,show ¬(120:Int)=115 by decide,show ¬(120:Int)=83 by decide,show ¬(120:Int)=119 by decide,show ¬(120:Int)=87 by decide,show ¬(120:Int)=112 by decide,show ¬(120:Int)=80 by decide,if_false,or_false,if_true]
  exact this
 by_cases m3:y=100
 ·subst m3;exact UR b X k0 k f op vN vn w h hk hR hc
 by_cases m4:y=115
 ·subst m4;exact UW b X k0 k f op vN vn w h hk hR hc
 by_cases m5:y=119
 ·subst m5;exact UZ b X k0 k f op vN vn w h hk hR hc
 by_cases m6:y=68
 ·subst m6;exact SH b X k0 k f op vN vn w h hk hR hc
 by_cases m7:y=83
 ·subst m7;exact SP b X k0 k f op vN vn w h hk hR hc
 by_cases m8:y=87
 ·subst m8;exact SS b X k0 k f op vN vn w h hk hR hc
 by_cases m9:y=110
 ·subst m9;exact UT b X k0 k f op vN vn w h hk hR hc
 by_cases m10:y=116
 ·subst m10;exact UX b X k0 k f op vN vn w h hk hR hc
 by_cases m11:y=114
 ·subst m11;exact UV b X k0 k f op vN vn w h hk hR hc
 by_cases m12:y=102
 ·subst m12;exact US b X k0 k f op vN vn w h hk hR hc
 by_cases m13:y=118
 ·subst m13;exact UY b X k0 k f op vN vn w h hk hR hc
 rw[QA n1 n2 m0 m1 m2 m3 m4 m5 m6 m7 m8 m9 m10 m11 m12 m13]
 by_cases ha:u5 y=true
 ·rw[if_pos ha]
  by_cases a1:y<=57
  ·exact Qs b X k0 k f op vN vn w h hk hR y hc n1 n2 m0 m1 m2 m3 m4 m5 m6 m7 m8 m9 m10 m11 m12 m13 (by have:=AD.1 ha;omega) a1 hj
  ·by_cases a3:y≥97
   ·exact SI b X k0 k f op vN vn w h hk hR y hc n1 n2 m0 m1 m2 m3 m4 m5 m6 m7 m8 m9 m10 m11 m12 m13 a1 (by omega) a3 (by have:=AD.1 ha;omega) hj
   ·exact SQ b X k0 k f op vN vn w h hk hR y hc n1 n2 m0 m1 m2 m3 m4 m5 m6 m7 m8 m9 m10 m11 m12 m13 a1 (by omega) a3 (by have:=AD.1 ha;omega) (by have:=AD.1 ha;omega) hj
 ·rw[if_neg ha]
  have hn:¬((48<=y/\y<=57)∨(65<=y/\y<=90)∨(97<=y/\y<=122)):=fun e=>ha (AD.2 e)
  by_cases a0:y≥48
  ·by_cases a3:y≥97
   ·exact SO b X k0 k f op vN vn w h hk hR y hc n1 n2 m0 m1 m2 m3 m4 m5 m6 m7 m8 m9 m10 m11 m12 m13 (by omega) a0 a3 (by omega) (by omega) (by omega)
   ·by_cases a4:y≥65
    ·exact SN b X k0 k f op vN vn w h hk hR y hc n1 n2 m0 m1 m2 m3 m4 m5 m6 m7 m8 m9 m10 m11 m12 m13 (by omega) a0 a3 a4 (by omega)
    ·exact SK b X k0 k f op vN vn w h hk hR y hc n1 n2 m0 m1 m2 m3 m4 m5 m6 m7 m8 m9 m10 m11 m12 m13 (by omega) a0 a3 a4
  ·exact SJ b X k0 k f op vN vn w h hk hR y hc n1 n2 m0 m1 m2 m3 m4 m5 m6 m7 m8 m9 m10 m11 m12 m13 a0 (by omega) (by omega)
theorem SD (l:List R2):(s9 l).length<=l.length:=by
 unfold s9
 have h:=Cn (Mh (y5 l)) (Mh (y5 l)).length (Nat.le_refl _)
 rw[List.take_length,(FA (y5 l)).length_eq]at h
 refine Nat.le_trans h ?_
 unfold y5
 rw[List.length_map]
 exact List.length_filter_le _ _
theorem Bz (l:List R2):(z6 l).length<=l.length+1:=by
 have h:=SD l
 have h2:=Cq (s9 l) (s9 l).length (Nat.le_refl _)
 rw[List.take_length]at h2
 unfold z6 Ht
 split
 ·rw[List.length_append]
  simp only[List.length_cons,List.length_nil]
  omega
 ·omega
theorem Pq:b8.all (fun p=>decide (p.2.length<=63))=true:=by decide
theorem Tw {R:List Int}{k0 k:Nat}{neg:Bool}{l:List R2}{k1:Nat}(h:E7 R b8 k0 neg k=.ok (l,k1)):l.length<=64:=by
 unfold E7 at h
 split at h
 ·simp only at h
  split at h
  ·rename_i m hm
   split at h
   ·cases h
    have:=of_decide_eq_true (List.all_eq_true.1 Pq _ (Ad hm))
    cases neg
    ·exact Nat.le_trans this (by decide)
    ·exact Nat.le_trans (Bz m) (Nat.succ_le_succ this)
   ·cases h
  ·cases h
 ·cases h
theorem ME {R:List Int}{k0 k:Nat}{l:List R2}{o:Option Int}{k1:Nat}(h:L3 R b8 k0 k=.ok (l,o,k1)):l.length<=64:=by
 unfold L3 AA at h
 have neg:∀m:List R2,m.length<=63->(z6 m).length<=64:=fun m hm=>Nat.le_trans (Bz m) (by omega)
 rcases j8 h with⟨_,h⟩|⟨_,h⟩
 ·cases h;decide
 rcases j8 h with⟨_,h⟩|⟨_,h⟩
 ·cases h;exact neg Z3 (by decide)
 rcases j8 h with⟨_,h⟩|⟨_,h⟩
 ·cases h;decide
 rcases j8 h with⟨_,h⟩|⟨_,h⟩
 ·cases h;exact neg Bm (by decide)
 rcases j8 h with⟨_,h⟩|⟨_,h⟩
 ·cases h;decide
 rcases j8 h with⟨_,h⟩|⟨_,h⟩
 ·cases h;exact neg lW (by decide)
 rcases j8 h with⟨_,h⟩|⟨_,h⟩
 ·split at h
  ·cases h
  ·rename_i hn
   have:=Tw hn
   cases h
   exact this
 rcases j8 h with⟨_,h⟩|⟨_,h⟩
 ·split at h
  ·cases h
  ·cases h
   exact Nat.succ_le_succ (Nat.zero_le _)
 rcases j8 h with⟨_,h⟩|⟨_,h⟩
 ·cases h;decide
 rcases j8 h with⟨_,h⟩|⟨_,h⟩
 ·cases h;decide
 rcases j8 h with⟨_,h⟩|⟨_,h⟩
 ·cases h;decide
 rcases j8 h with⟨_,h⟩|⟨_,h⟩
 ·cases h;decide
 rcases j8 h with⟨_,h⟩|⟨_,h⟩
 ·cases h;decide
 rcases j8 h with⟨_,h⟩|⟨_,h⟩
 ·cases h
 ·cases h
  exact Nat.succ_le_succ (Nat.zero_le _)
def Ec (R:List Int)(k:Nat):PR (List R2×Option Int×Nat):=if g7 R k=92 then L3 R b8 k (k+1)else .ok ([(g7 R k,g7 R k)],some (g7 R k),k+1)
theorem GB {R:List Int}{op k:Nat}(h:g7 R k≠ -1):G7 R b8 op k=Ec R k:=by
 unfold G7 Ec
 rw[if_neg h]
theorem Vn {R:List Int}{k:Nat}{l:List R2}{o:Option Int}{k1:Nat}(h:Ec R k=.ok (l,o,k1)):l.length<=64:=by
 unfold Ec at h
 split at h
 ·exact ME h
 ·cases h
  exact Nat.succ_le_succ (Nat.zero_le _)
theorem E4.base {b:Nat}{X:Px}{f:Fl}{op:Nat}{vN vn:Value}{w w1 w2:World}{r:PR (List R2×Option Int×Nat)}{e:Ending}(h:E4 b X f op vN vn w1 r e w2)(t:b7 (fun g=>g=b) w w1):E4 b X f op vN vn w r e w2:=by
 match r,h with
 | .ok (l,o,k1),⟨v,h1,h2,h3,h4,h5⟩=>exact⟨v,h1,h2,fun g e=>Nat.le_trans t.size (h3 g e),h4,t.trans h5 iE⟩
 | .error (c,j),⟨v,l,r,h1,h2,h3,h4,h5,h6⟩=>exact⟨v,l,r,h1,h2,h3,fun g e=>Nat.le_trans t.size (h4 g e),h5,t.trans h6 iE⟩
theorem E4.pair {b:Nat}{X:Px}{f:Fl}{op:Nat}{vN vn:Value}{w w1:World}{r:PR (List R2×Option Int×Nat)}{e:Ending}(h:E4 b X f op vN vn w r e w1):∃v x,e=.returned (.tuple #[v,.int .i64 x]):=by
 match r,h with
 | .ok (l,o,k1),⟨v,h1,_⟩=>exact⟨v,_,h1⟩
 | .error (c,j),⟨v,l,r,h1,_⟩=>exact⟨v,_,h1⟩
theorem Gp (b:Nat)(X:Px)(k:Nat)(f:Fl)(op:Nat)(vN vn:Value)(w:World)(h:DS w b X k f op vN vn 0 0)(hX:X.Good)(hk:k<X.R.length):
 Calls Tryz.prog 121 #[.pointer (some ⟨b,0,none⟩)] w fun e w'=>E4 b X f op vN vn w (Ec X.R k) e w':=by
 have hR:=hX.lenR
 have hP:=hX.lenP
 obtain⟨y,hy⟩:∃y,g7 X.R k=y:=⟨_,rfl⟩
 have KP:=b6 (fun w' (g:DS w' b X k f op vN vn 0 0)=>j6 b X k f op vN vn 0 0 0 w' g (by omega) (by omega))
 rw[Nat.add_zero,hy]at KP
 have HD:=b6 h
 obtain⟨k1,hk1⟩:∃k1,k1=k+1:=⟨_,rfl⟩
 have KE:=b6 (fun w' (g:DS w' b X k1 f op vN vn 0 0)=>DO b X k k1 f op vN vn w' g (by omega) hR (by omega))
 have hwk:IntKind.i64.wrap ((k:Int)+1)=(k1:Int):=by rw[IntKind.wrap_i64];omega
 have d2:w.cell? ⟨b,2,none⟩=some (.int .i64 ((k:Nat):Int)):=h.c 2 _ rfl
 obtain⟨Z,hZ⟩:∃Z,Z=Ec X.R k:=⟨_,rfl⟩
 rw[<-hZ]
 have HZ:=b6 hZ
 unfold Ec at HZ
 rw[hy,<-hk1]at HZ
 clear h hy hk1 hX hR hP hk hZ
 go_enter Tryz.func121,Tryz.ntmps121
 go_wp2_with fail
 refine(KP.out _ HD.out).mono ?_
 rintro e w1 ⟨rfl,nq,rfl⟩
 replace HD:=b6 (HD.out.new ((tZ w).drewN nq))
 have HT:=b6 ((b7.refl (fun g=>g=b) w).drewN nq)
 clear KP d2
 generalize w.drewN nq=w1 at*
 have c2:w1.cell? ⟨b,2,none⟩=some (.int .i64 ((k:Nat):Int)):=HD.out.c 2 _ rfl
 have f2:=HD.out.fr 2
 have HS:=b6 (HD.out.setk k1)
 have TS:=b6 (b7.trans (S:=fun g=>g=b) HT.out (d9 w1 b 2 (.int .i64 (k1:Int))) iE)
 go_upto_region 4 with fail
 clear c2 f2 HD HT
 generalize w1.setCell ⟨b,2,none⟩ (.int .i64 (k1:Int))=w2 at*
 by_cases h92:y=92
 ·rw[if_pos h92]at HZ
  subst h92
  have KF:=b6 (KE.out _ HS.out)
  rw[<-HZ.out]at KF
  clear KE
  go_wp2_with fail
  refine KF.out.mono ?_
  rintro e w3 he
  have HE:=b6 (E4.base he TS.out)
  clear KF HZ
  obtain⟨v,x,e1⟩:=he.pair
  subst e1
  clear he
  go_wp2
  refine bodyPost_ret (results_tmp2 rfl _ _ _) rfl ?_
  exact HE.out
 ·rw[if_neg h92]at HZ
  have hb:(y==92)=false:=beq_eq_false_iff_ne.2 h92
  have O:=b6 (s6 w2 87 y y)
  clear h92 KE
  go_wp2
  refine bodyPost_ret (results_tmp2 rfl _ _ _) rfl ?_
  rw[HZ.out]
  exact⟨_,rfl,O.out.own,fun g e=>Nat.le_trans TS.out.size (O.out.new g e),HS.out.new O.out.touch,TS.out.trans O.out.touch nE⟩
end Go.Proofs.YtdhhcefmmojcmaaGreatDoor
