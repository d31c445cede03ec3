/- Texts of this proof, one behind the other. -/
import Derived.Test.YtdhhcefmmojcmaaGreatDoorWr
set_option maxRecDepth 100000
set_option maxHeartbeats 0
set_option linter.unusedVariables false
namespace Go.Proofs.YtdhhcefmmojcmaaGreatDoor
open Go.RowKit Go.Lib
theorem MC (neg:Bool)(b:Nat)(X:Px)(k0 k:Nat)(f:Fl)(op:Nat)(vN vn:Value)(w:World)(h:DS w b X k f op vN vn 0 0)(hX:X.Good)(hk:k<=X.R.length)(hk1:1<=k)(hj:k0<X.R.length)(h94:decide (g7 X.R k=94)=neg):
 Calls Tryz.prog 100 #[.pointer (some ⟨b,0,none⟩),.int .i64 (k0:Nat)] w fun e w'=>Sq b X f op vN vn w neg (G2 X.R b8 k0 (if neg then k+1 else k)) e w':=by
 have HX:=b6 hX
 have hR:=hX.lenR
 have hP:=hX.lenP
 have HJ:=b6 (show k0<X.P.length by omega)
 have HBW:=b6 h.lt
 obtain⟨kb,hkb⟩:∃kb,kb=(if neg then k+1 else k):=⟨_,rfl⟩
 have HKB:=b6 (show kb<=X.R.length/\1<=kb by
  rw[hkb]
  cases neg with
  |false=>exact⟨hk,hk1⟩
  |true=>
   have:=j9 (of_decide_eq_true h94) (by decide)
   exact⟨this,by show 1<=k+1;omega⟩)
 have KE:=b6 (show Calls Tryz.prog 52 #[.pointer (some ⟨b,0,none⟩),.string ⟨#[94]⟩] w fun e w'=>e=.returned (.bool neg)/\DS w' b X kb f op vN vn 0 0/\b7 (fun g=>g=b) w w' by
  have:=BT b X k f op vN vn 0 0 ⟨#[94]⟩ w h (by omega) (by show 1<=1024;decide)
  rw[U1]at this
  have h9:decide (g7 X.R k=((94:UInt8).toNat:Int))=neg:=h94
  rw[h9]at this
  rw[hkb]
  exact this)
 rw[<-hkb]
 obtain⟨Z,hZ⟩:∃Z,Z=G2 X.R b8 k0 kb:=⟨_,rfl⟩
 rw[<-hZ]
 have HZ:=b6 (show Z=Jm X.R k0 0 kb []by rw[hZ];rfl)
 clear h hX hk hk1 hj h94 hkb hZ hP
 go_enter Tryz.func100,Tryz.ntmps100
 go_wp2_with fail
 refine KE.out.mono ?_
 rintro e w1 ⟨rfl,d1,t1⟩
 have HD:=b6 d1
 have HT:=b6 t1
 clear d1 t1 KE
 go_wp2_with fail
 go_loopg [6,7] (X.R.length+3) (fun gk v6 v7 wq=>∃(n:Nat) (l:List R2),v7=.int .i64 (n:Nat)/\n+gk=X.R.length+3/\Hid (RR wq v6 l)/\Hid (l.length<=64*n)/\Hid (∀g,v6.ownBlock=some g->w.heap.size<=g)/\Hid (b7 (fun g=>g=b) w wq)/\Hid ((∃k,(n=0->l=[])/\n<k/\k<=X.R.length/\Z=Jm X.R k0 n k l/\DS wq b X k f op vN vn 0 0)∨(∃c j:Nat,Z=.error (c,j)/\c≠0/\n<=X.R.length+1/\DS wq b X X.R.length f op vN vn (c:Nat) (g7 X.P j))))
 case atStart=>exact⟨0,[],rfl,by omega,b6 (I5 _),b6 (by decide),b6 (fun g e=>by cases e),HT,b6 (.inl ⟨kb,fun _=>rfl,by have:=HKB.out;omega,HKB.out.1,HZ.out,HD.out⟩)⟩
 case round=>
  clear HZ HD HT HKB
  obtain⟨n,l,rfl,hgk,HR,HLN,HNW,HT,HST⟩:=hrel
  obtain⟨a6,c6,hv6⟩:=e9 HR.out
  subst hv6
  rcases HST.out with⟨k,h0,hnk,hkR,hz,hd⟩|⟨c,j,hz,hc,hnR,hd⟩
  ·have HLB:=b6 (show l.length<=131072 by have:=HLN.out;omega)
   have HD:=b6 hd
   have HZ:=b6 hz
   have HNK:=b6 hnk
   have HKR:=b6 hkR
   have HW0:=b6 h0
   clear hz hd HST h0
   have e11:wr.cell? ⟨b,11,none⟩=some (.int .i64 0):=HD.out.c 11 _ rfl
   by_cases hcl:n≠0/\g7 X.R k=93
   ·have hnI:(n:Int)>0:=by have:=hcl.1;omega
    have HZF:=b6 (show Z=.ok (l,k+1)by rw[HZ.out,QO hcl.1 (by omega) hcl.2])
    have KE:=b6 (y7 93 HD.out (by omega) hcl.2)
    clear hcl HZ
    go_wp2_with fail
    refine KE.out.mono ?_
    rintro e w2 ⟨rfl,d2,t2⟩
    replace HR:=b6 (Y0 HR.out HD.out t2)
    replace HT:=b6 (HT.out.trans t2 iE)
    replace HD:=b6 d2
    clear d2 t2 KE e11
    cases neg with
    |false=>
     go_wp2
     go_ret
     rw[HZF.out]
     exact⟨_,rfl,HR.out,HLB.out,HNW.out,HD.out,HT.out⟩
    |true=>
     obtain⟨a7,c7,hv7,hg7⟩:=F5 HR.out
     cases hv7
     have HG7:=b6 hg7
     clear hg7
     go_wp2_with fail
     refine(Y9 _ _ l _ HG7.out (by have:=HLB.out;omega)).mono ?_
     rintro e wx ⟨v,rfl,o⟩
     have O:=b6 o
     clear o
     go_wp2
     go_ret
     rw[HZF.out]
     exact⟨v,rfl,O.out.own,HLB.out,fun g e=>Nat.le_trans HT.out.size (O.out.new g e),HD.out.new O.out.touch,HT.out.trans O.out.touch nE⟩
   ·have HN:=b6 (show Z=Kt X.R k0 n k l by rw[HZ.out,Hm HW0.out (by omega) hcl])
    obtain⟨gk,rfl⟩:∃g,gk=g+1:=⟨gk-1,by omega⟩
    have hwn:IntKind.i64.wrap ((n:Int)+1)=((n+1:Nat):Int):=by rw[IntKind.wrap_i64];omega
    obtain⟨n1,hn1⟩:∃n1,n1=n+1:=⟨_,rfl⟩
    rw[<-hn1]at hwn
    have HWN:=b6 hn1
    clear HZ hn1
    go_upto_region 6 with fail
    go_cut [28] (fun v wd=>v=.bool false/\Hid (DS wd b X k f op vN vn 0 0)/\Hid (b7 (fun g=>g=b) w wd)/\Hid (RR wd (.slice a6 l.length c6) l))
    case first=>
     by_cases hn0:n=0
     ·have hnI:¬(n:Int)>0:=by omega
      clear hcl hn0
      go_wp2
      go_meet
      case rel=>exact⟨rfl,HD,HT,HR⟩
     ·have hnI:(n:Int)>0:=by omega
      have KE:=b6 (E6 93 HD.out (by omega) (fun e=>hcl ⟨hn0,e⟩))
      clear hcl hn0
      go_wp2_with fail
      refine KE.out.mono ?_
      rintro e w2 ⟨rfl,d2,t2⟩
      replace HR:=b6 (Y0 HR.out HD.out t2)
      replace HT:=b6 (HT.out.trans t2 iE)
      replace HD:=b6 d2
      clear d2 t2 KE e11
      go_wp2
      go_meet
      case rel=>exact⟨rfl,HD,HT,HR⟩
    obtain⟨rfl,HD,HT,HR⟩:=hcut
    clear e11 hcl
    have KP:=b6 (j6 b X k f op vN vn 0 0 0 wc HD.out (by omega) (by omega))
    rw[Nat.add_zero]at KP
    obtain⟨y,hy⟩:∃y,y=g7 X.R k:=⟨_,rfl⟩
    rw[<-hy]at KP
    by_cases hy1:y= -1
    ·have HZF:=b6 (show Z=.error (24,k0)by rw[HN.out,Ro (by rw[<-hy];exact hy1)])
     subst hy1
     clear HN hy
     go_wp2_with fail
     refine KP.out.mono ?_
     rintro e wp ⟨rfl,n1',hwp⟩
     replace HD:=b6 (HD.out.dr hwp)
     replace HR:=b6 (RR.dr HR.out hwp)
     replace HT:=b6 (HT.out.dr hwp)
     clear hwp KP
     go_wp2_with fail
     refine(j7 b X k f op vN vn 24 k0 wp HD.out HJ.out).mono ?_
     rintro e wf ⟨rfl,d3,t3⟩
     replace HR:=b6 (Y0 HR.out HD.out t3)
     replace HD:=b6 d3
     replace HT:=b6 (HT.out.trans t3 iE)
     replace HLB:=b6 (show l.length<=131072 by have:=HLB.out;omega)
     clear d3 t3
     cases neg with
     |false=>
      go_wp2
      go_ret
      rw[HZF.out]
      exact⟨_,_,rfl,HR.out,Nat.le_trans HLB.out (by decide),HNW.out,HD.out,HT.out⟩
     |true=>
      obtain⟨a7,c7,hv7,hg7⟩:=F5 HR.out
      cases hv7
      have HG7:=b6 hg7
      clear hg7
      go_wp2_with fail
      refine(Y9 _ _ l _ HG7.out (by have:=HLB.out;omega)).mono ?_
      rintro e wx ⟨v,rfl,o⟩
      have O:=b6 o
      clear o
      go_wp2
      go_ret
      rw[HZF.out]
      exact⟨v,_,rfl,O.out.own,by have:=Bz l;have:=HLB.out;omega,fun g e=>Nat.le_trans HT.out.size (O.out.new g e),HD.out.new O.out.touch,HT.out.trans O.out.touch nE⟩
    ·have HYB:=b6 (beq_eq_false_iff_ne.2 hy1)
     have hyb:(y== -1)=false:=HYB.out
     have hyk:g7 X.R k≠ -1:=by rw[<-hy];exact hy1
     have hkl:k<X.R.length:=I6 hyk
     have KI:=b6 (fun w' (g:DS w' b X k f op vN vn 0 0)=>Gp b X k f op vN vn w' g HX.out hkl)
     obtain⟨M,hM⟩:∃M,Ec X.R k=M:=⟨_,rfl⟩
     rw[hM]at KI
     clear hy1 hy
     go_wp2_with fail
     refine KP.out.mono ?_
     rintro e wp ⟨rfl,n1',hwp⟩
     replace HD:=b6 (HD.out.dr hwp)
     replace HR:=b6 (RR.dr HR.out hwp)
     replace HT:=b6 (HT.out.dr hwp)
     clear hwp KP
     have d2:wp.cell? ⟨b,2,none⟩=some (.int .i64 (k:Int)):=HD.out.c 2 _ rfl
     go_wp2_with fail
     refine(KI.out _ HD.out).mono ?_
     rintro e w4 he
     cases M with
     |error ej=>
      obtain⟨c,j⟩:=ej
      obtain⟨v9,m,r9,rfl,r91,r92,_,r94,r95⟩:=he
      have HZ2:=b6 (show Z=.error (c,j)from by rw[HN.out,Vq hyk hM])
      have HC:=b6 (MV hM)
      replace HR:=b6 (Y0 HR.out HD.out r95)
      replace HT:=b6 (HT.out.trans r95 iE)
      replace HD:=b6 r94
      have R9:=b6 r91
      have HM9:=b6 (show m.length<=64 by omega)
      have hcb:(((c:Nat):Int)==0)=false:=beq_eq_false_iff_ne.2 (by have:=HC.out;omega)
      have e11:w4.cell? ⟨b,11,none⟩=some (.int .i64 ((c:Nat):Int)):=HD.out.c 11 _ rfl
      clear r91 r92 r94 r95 hM hyk KI HN d2
      obtain⟨a9,c9,hv9,hg9⟩:=F5 R9.out
      first|subst hv9|cases hv9
      have HG9:=b6 hg9
      clear hg9
      go_wp2_with (at_builtin;refine l3 _ rfl _ _ rfl _ _ _ rfl HR.out _ _ (m) rfl HG9.out (by have:=HLB.out;have:=HM9.out;omega) ?_)
      intro v' w7 hown hgrow hat
      obtain⟨a8,c8,hv8⟩:=e9 hown
      subst hv8
      have HP:=b6 (Ab HT.out HD.out HBW.out HNW.out hown hgrow hat)
      have HL8:=b6 (show(l++(m)).length=l.length+(m).length from List.length_append)
      clear hown hgrow hat
      go_wp2
      go_roundg gk
      case measure=>omega
      case rel=>
       refine⟨n+1,l++(m),by rw[HWN.out],by omega,b6 HP.out.1,b6 (by have:=HL8.out;have:=HLN.out;have:=HM9.out;omega),b6 HP.out.2.1,b6 HP.out.2.2.1,b6 ?_⟩
       exact .inr ⟨c,j,HZ2.out,HC.out,by omega,HP.out.2.2.2⟩
     |ok p=>
      obtain⟨m,o,k1⟩:=p
      obtain⟨v9,rfl,r91,_,r94,r95⟩:=he
      have HK1:=b6 (Rc hkl hM)
      have HM9:=b6 (Vn hM)
      replace HR:=b6 (Y0 HR.out HD.out r95)
      replace HT:=b6 (HT.out.trans r95 iE)
      replace HD:=b6 r94
      have R9:=b6 r91
      have e11:w4.cell? ⟨b,11,none⟩=some (.int .i64 0):=HD.out.c 11 _ rfl
      clear r91 r94 r95 KI d2
      cases o with
      |none=>
       have HZ2:=b6 (show Z=Jm X.R k0 (n+1) k1 (l++m)from by rw[HN.out,Vr hyk hM])
       clear hM hyk HN
       simp only[Option.getD_none]
       obtain⟨a9,c9,hv9,hg9⟩:=F5 R9.out
       first|subst hv9|cases hv9
       have HG9:=b6 hg9
       clear hg9
       go_wp2_with (at_builtin;refine l3 _ rfl _ _ rfl _ _ _ rfl HR.out _ _ (m) rfl HG9.out (by have:=HLB.out;have:=HM9.out;omega) ?_)
       intro v' w7 hown hgrow hat
       obtain⟨a8,c8,hv8⟩:=e9 hown
       subst hv8
       have HP:=b6 (Ab HT.out HD.out HBW.out HNW.out hown hgrow hat)
       have HL8:=b6 (show(l++(m)).length=l.length+(m).length from List.length_append)
       clear hown hgrow hat
       go_wp2
       go_roundg gk
       case measure=>omega
       case rel=>
        refine⟨n+1,l++(m),by rw[HWN.out],by omega,b6 HP.out.1,b6 (by have:=HL8.out;have:=HLN.out;have:=HM9.out;omega),b6 HP.out.2.1,b6 HP.out.2.2.1,b6 ?_⟩
        exact .inl ⟨k1,fun e=>by omega,by have:=HK1.out;omega,HK1.out.2,HZ2.out,HP.out.2.2.2⟩
      |some a=>
       have HA:=b6 (Vo HX.out hkl hM)
       have ha0:a≥0:=HA.out
       simp only[Option.getD_some]
       have KQ1:=b6 (fun w' (g:DS w' b X k1 f op vN vn 0 0)=>j6 b X k1 f op vN vn 0 0 0 w' g (by have:=HK1.out;omega) (by omega))
       have KQ2:=b6 (fun w' (g:DS w' b X k1 f op vN vn 0 0)=>j6 b X k1 f op vN vn 0 0 1 w' g (by have:=HK1.out;omega) (by omega))
       have KQ3:=KQ2
       rw[Nat.add_zero]at KQ1
       obtain⟨y1,hy1⟩:∃y1,y1=g7 X.R k1:=⟨_,rfl⟩
       obtain⟨y2,hy2⟩:∃y2,y2=g7 X.R (k1+1):=⟨_,rfl⟩
       rw[<-hy1]at KQ1
       rw[<-hy2]at KQ2 KQ3
       by_cases h45:y1=45
       ·by_cases h93:y2=93
        ·have HZ2:=b6 (show Z=Jm X.R k0 (n+1) k1 (l++m)from by rw[HN.out,Hu hyk hM (fun e=>e.2 (by rw[<-hy2];exact h93))])
         subst h45
         subst h93
         clear hM hyk HN hy1 hy2 KQ3
         go_wp2_with fail
         refine(KQ1.out _ HD.out).mono ?_
         rintro e wq1 ⟨rfl,nq1,hwp⟩
         replace HR:=b6 (RR.dr HR.out hwp)
         replace R9:=b6 (RR.dr R9.out hwp)
         replace HD:=b6 (HD.out.dr hwp)
         replace HT:=b6 (HT.out.dr hwp)
         have e11:wq1.cell? ⟨b,11,none⟩=some (.int .i64 0):=HD.out.c 11 _ rfl
         clear hwp
         go_wp2_with fail
         refine(KQ2.out _ HD.out).mono ?_
         rintro e wq2 ⟨rfl,nq2,hwp⟩
         replace HR:=b6 (RR.dr HR.out hwp)
         replace R9:=b6 (RR.dr R9.out hwp)
         replace HD:=b6 (HD.out.dr hwp)
         replace HT:=b6 (HT.out.dr hwp)
         have e11:wq2.cell? ⟨b,11,none⟩=some (.int .i64 0):=HD.out.c 11 _ rfl
         clear hwp
         obtain⟨a9,c9,hv9,hg9⟩:=F5 R9.out
         first|subst hv9|cases hv9
         have HG9:=b6 hg9
         clear hg9
         go_wp2_with (at_builtin;refine l3 _ rfl _ _ rfl _ _ _ rfl HR.out _ _ (m) rfl HG9.out (by have:=HLB.out;have:=HM9.out;omega) ?_)
         intro v' w7 hown hgrow hat
         obtain⟨a8,c8,hv8⟩:=e9 hown
         subst hv8
         have HP:=b6 (Ab HT.out HD.out HBW.out HNW.out hown hgrow hat)
         have HL8:=b6 (show(l++(m)).length=l.length+(m).length from List.length_append)
         clear hown hgrow hat
         go_wp2
         go_roundg gk
         case measure=>omega
         case rel=>
          refine⟨n+1,l++(m),by rw[HWN.out],by omega,b6 HP.out.1,b6 (by have:=HL8.out;have:=HLN.out;have:=HM9.out;omega),b6 HP.out.2.1,b6 HP.out.2.2.1,b6 ?_⟩
          exact .inl ⟨k1,fun e=>by omega,by have:=HK1.out;omega,HK1.out.2,HZ2.out,HP.out.2.2.2⟩
        ·have h93b:(y2 !=93)=true:=by simpa using h93
         by_cases hm1:y2= -1
         ·have HZ2:=b6 (show Z=Jm X.R k0 (n+1) k1 (l++m)from by rw[HN.out,TL hyk hM (by rw[<-hy1];exact h45) (by rw[<-hy2];exact hm1) (by have:=HK1.out;omega)])
          subst h45
          subst hm1
          clear hM hyk HN hy1 hy2 h93 h93b
          go_wp2_with fail
          refine(KQ1.out _ HD.out).mono ?_
          rintro e wq1 ⟨rfl,nq1,hwp⟩
          replace HR:=b6 (RR.dr HR.out hwp)
          replace R9:=b6 (RR.dr R9.out hwp)
          replace HD:=b6 (HD.out.dr hwp)
          replace HT:=b6 (HT.out.dr hwp)
          have e11:wq1.cell? ⟨b,11,none⟩=some (.int .i64 0):=HD.out.c 11 _ rfl
          clear hwp
          go_wp2_with fail
          refine(KQ2.out _ HD.out).mono ?_
          rintro e wq2 ⟨rfl,nq2,hwp⟩
          replace HR:=b6 (RR.dr HR.out hwp)
          replace R9:=b6 (RR.dr R9.out hwp)
          replace HD:=b6 (HD.out.dr hwp)
          replace HT:=b6 (HT.out.dr hwp)
          have e11:wq2.cell? ⟨b,11,none⟩=some (.int .i64 0):=HD.out.c 11 _ rfl
          clear hwp
          go_wp2_with fail
          refine(KQ3.out _ HD.out).mono ?_
          rintro e wq3 ⟨rfl,nq3,hwp⟩
          replace HR:=b6 (RR.dr HR.out hwp)
          replace R9:=b6 (RR.dr R9.out hwp)
          replace HD:=b6 (HD.out.dr hwp)
          replace HT:=b6 (HT.out.dr hwp)
          have e11:wq3.cell? ⟨b,11,none⟩=some (.int .i64 0):=HD.out.c 11 _ rfl
          clear hwp
          obtain⟨a9,c9,hv9,hg9⟩:=F5 R9.out
          first|subst hv9|cases hv9
          have HG9:=b6 hg9
          clear hg9
          go_wp2_with (at_builtin;refine l3 _ rfl _ _ rfl _ _ _ rfl HR.out _ _ (m) rfl HG9.out (by have:=HLB.out;have:=HM9.out;omega) ?_)
          intro v' w7 hown hgrow hat
          obtain⟨a8,c8,hv8⟩:=e9 hown
          subst hv8
          have HP:=b6 (Ab HT.out HD.out HBW.out HNW.out hown hgrow hat)
          have HL8:=b6 (show(l++(m)).length=l.length+(m).length from List.length_append)
          clear hown hgrow hat
          go_wp2
          go_roundg gk
          case measure=>omega
          case rel=>
           refine⟨n+1,l++(m),by rw[HWN.out],by omega,b6 HP.out.1,b6 (by have:=HL8.out;have:=HLN.out;have:=HM9.out;omega),b6 HP.out.2.1,b6 HP.out.2.2.1,b6 ?_⟩
           exact .inl ⟨k1,fun e=>by omega,by have:=HK1.out;omega,HK1.out.2,HZ2.out,HP.out.2.2.2⟩
         ·have hm1b:(y2 != -1)=true:=by simpa using hm1
          have hk2l:k1+1<X.R.length:=I6 (by rw[<-hy2];exact hm1)
          have HZT:=b6 (HN.out.trans (WE (n:=n) (l:=l) hyk hM (by rw[<-hy1];exact h45) (by rw[<-hy2];exact h93) (by rw[<-hy2];exact hm1)))
          obtain⟨k2,hk2⟩:∃k2,k2=k1+1:=⟨_,rfl⟩
          rw[<-hk2]at HZT hk2l
          have KI2:=b6 (fun w' (g:DS w' b X k2 f op vN vn 0 0)=>Gp b X k2 f op vN vn w' g HX.out hk2l)
          obtain⟨M2,hM2⟩:∃M2,Ec X.R k2=M2:=⟨_,rfl⟩
          rw[hM2]at KI2 HZT
          have hw2:IntKind.i64.wrap ((k1:Int)+1)=(k2:Int):=by rw[IntKind.wrap_i64];have:=HK1.out;omega
          have HK2:=b6 (show k1<k2 by omega)
          subst h45
          clear hM hyk HN hy1 hy2 h93 hm1 hk2
          go_wp2_with fail
          refine(KQ1.out _ HD.out).mono ?_
          rintro e wq1 ⟨rfl,nq1,hwp⟩
          replace HR:=b6 (RR.dr HR.out hwp)
          replace R9:=b6 (RR.dr R9.out hwp)
          replace HD:=b6 (HD.out.dr hwp)
          replace HT:=b6 (HT.out.dr hwp)
          have e11:wq1.cell? ⟨b,11,none⟩=some (.int .i64 0):=HD.out.c 11 _ rfl
          clear hwp
          go_wp2_with fail
          refine(KQ2.out _ HD.out).mono ?_
          rintro e wq2 ⟨rfl,nq2,hwp⟩
          replace HR:=b6 (RR.dr HR.out hwp)
          replace R9:=b6 (RR.dr R9.out hwp)
          replace HD:=b6 (HD.out.dr hwp)
          replace HT:=b6 (HT.out.dr hwp)
          have e11:wq2.cell? ⟨b,11,none⟩=some (.int .i64 0):=HD.out.c 11 _ rfl
          clear hwp
          go_wp2_with fail
          refine(KQ3.out _ HD.out).mono ?_
          rintro e wq3 ⟨rfl,nq3,hwp⟩
          replace HR:=b6 (RR.dr HR.out hwp)
          replace R9:=b6 (RR.dr R9.out hwp)
          replace HD:=b6 (HD.out.dr hwp)
          replace HT:=b6 (HT.out.dr hwp)
          have e11:wq3.cell? ⟨b,11,none⟩=some (.int .i64 0):=HD.out.c 11 _ rfl
          clear hwp
          have c2:wq3.cell? ⟨b,2,none⟩=some (.int .i64 (k1:Int)):=HD.out.c 2 _ rfl
          have f2:=HD.out.fr 2
          have HS:=b6 (HD.out.setk k2)
          have T1:=b6 (d9 wq3 b 2 (.int .i64 (k2:Int)))
          replace HR:=b6 (Y0 HR.out HD.out T1.out)
          replace HT:=b6 (HT.out.trans T1.out iE)
          go_upto_region 13 with fail
          clear c2 f2 HD R9 e11 T1 KQ1 KQ2 KQ3
          generalize wq3.setCell ⟨b,2,none⟩ (.int .i64 (k2:Int))=ws at*
          go_wp2_with fail
          refine(KI2.out _ HS.out).mono ?_
          rintro e w5 he
          clear HM9
          cases M2 with
          |error ej=>
           obtain⟨c,j⟩:=ej
           obtain⟨vx,mx,x,rfl,_,_,_,r94,r95⟩:=he
           have HZ2:=b6 (show Z=.error (c,j)from HZT.out)
           have HC:=b6 (MV hM2)
           replace HR:=b6 (Y0 HR.out HS.out r95)
           replace HT:=b6 (HT.out.trans r95 iE)
           have HD:=b6 r94
           have hcb:(((c:Nat):Int)==0)=false:=beq_eq_false_iff_ne.2 (by have:=HC.out;omega)
           have e11:w5.cell? ⟨b,11,none⟩=some (.int .i64 ((c:Nat):Int)):=HD.out.c 11 _ rfl
           clear r94 r95 hM2 KI2 HZT HS
           replace HR:=b6 (g9 HR.out ((tZ w5).alloc (.cells #[.int .i64 a,.int .i64 x] 87)) iE)
           have R9:=b6 (s6 w5 87 a x).own
           replace HD:=b6 (HD.out.new ((tZ w5).alloc (.cells #[.int .i64 a,.int .i64 x] 87)))
           replace HT:=b6 (HT.out.alloc (.cells #[.int .i64 a,.int .i64 x] 87))
           have HM9:=b6 (show[(a,x)].length<=64 from Nat.succ_le_succ (Nat.zero_le _))
           go_upto_region 17 with fail
           generalize w5.alloc (.cells #[.int .i64 a,.int .i64 x] 87)=wy at*
           obtain⟨a9,c9,hv9,hg9⟩:=F5 R9.out
           first|subst hv9|cases hv9
           have HG9:=b6 hg9
           clear hg9
           go_wp2_with (at_builtin;refine l3 _ rfl _ _ rfl _ _ _ rfl HR.out _ _ ([(a,x)]) rfl HG9.out (by have:=HLB.out;have:=HM9.out;omega) ?_)
           intro v' w7 hown hgrow hat
           obtain⟨a8,c8,hv8⟩:=e9 hown
           subst hv8
           have HP:=b6 (Ab HT.out HD.out HBW.out HNW.out hown hgrow hat)
           have HL8:=b6 (show(l++([(a,x)])).length=l.length+([(a,x)]).length from List.length_append)
           clear hown hgrow hat
           go_wp2
           go_roundg gk
           case measure=>omega
           case rel=>
            refine⟨n+1,l++([(a,x)]),by rw[HWN.out],by omega,b6 HP.out.1,b6 (by have:=HL8.out;have:=HLN.out;have:=HM9.out;omega),b6 HP.out.2.1,b6 HP.out.2.2.1,b6 ?_⟩
            exact .inr ⟨c,j,HZ2.out,HC.out,by omega,HP.out.2.2.2⟩
          |ok p=>
           obtain⟨mx,o,k3⟩:=p
           obtain⟨vx,rfl,_,_,r94,r95⟩:=he
           have HK3:=b6 (Rc hk2l hM2)
           replace HR:=b6 (Y0 HR.out HS.out r95)
           replace HT:=b6 (HT.out.trans r95 iE)
           have HD:=b6 r94
           have e11:w5.cell? ⟨b,11,none⟩=some (.int .i64 0):=HD.out.c 11 _ rfl
           clear r94 r95 KI2 HS
           cases o with
           |none=>
            have HZ2:=b6 (show Z=.error (22,k)from HZT.out)
            have HC:=b6 (show(22:Nat)≠0 by decide)
            simp only[Option.getD_none]
            have hlt:(-1:Int)<a:=by omega
            clear hM2 HZT
            go_wp2_with fail
            refine(j7 b X k3 f op vN vn 22 k w5 HD.out (by have:=HX.out.lenP;omega)).mono ?_
            rintro e wf ⟨rfl,d3,t3⟩
            replace HR:=b6 (Y0 HR.out HD.out t3)
            replace HD:=b6 d3
            replace HT:=b6 (HT.out.trans t3 iE)
            clear d3 t3 e11
            replace HR:=b6 (g9 HR.out ((tZ wf).alloc (.cells #[.int .i64 a,.int .i64 (-1)] 87)) iE)
            have R9:=b6 (s6 wf 87 a (-1)).own
            replace HD:=b6 (HD.out.new ((tZ wf).alloc (.cells #[.int .i64 a,.int .i64 (-1)] 87)))
            replace HT:=b6 (HT.out.alloc (.cells #[.int .i64 a,.int .i64 (-1)] 87))
            have HM9:=b6 (show[(a,(-1))].length<=64 from Nat.succ_le_succ (Nat.zero_le _))
            go_upto_region 17 with fail
            generalize wf.alloc (.cells #[.int .i64 a,.int .i64 (-1)] 87)=wy at*
            obtain⟨a9,c9,hv9,hg9⟩:=F5 R9.out
            first|subst hv9|cases hv9
            have HG9:=b6 hg9
            clear hg9
            go_wp2_with (at_builtin;refine l3 _ rfl _ _ rfl _ _ _ rfl HR.out _ _ ([(a,-1)]) rfl HG9.out (by have:=HLB.out;have:=HM9.out;omega) ?_)
            intro v' w7 hown hgrow hat
            obtain⟨a8,c8,hv8⟩:=e9 hown
            subst hv8
            have HP:=b6 (Ab HT.out HD.out HBW.out HNW.out hown hgrow hat)
            have HL8:=b6 (show(l++([(a,-1)])).length=l.length+([(a,-1)]).length from List.length_append)
            clear hown hgrow hat
            go_wp2
            go_roundg gk
            case measure=>omega
            case rel=>
             refine⟨n+1,l++([(a,-1)]),by rw[HWN.out],by omega,b6 HP.out.1,b6 (by have:=HL8.out;have:=HLN.out;have:=HM9.out;omega),b6 HP.out.2.1,b6 HP.out.2.2.1,b6 ?_⟩
             exact .inr ⟨22,k,HZ2.out,HC.out,by omega,HP.out.2.2.2⟩
           |some z=>
            simp only[Option.getD_some]
            by_cases hza:z<a
            ·have HZ2:=b6 (show Z=.error (22,k)from by rw[HZT.out];simp only;rw[if_pos hza])
             have HC:=b6 (show(22:Nat)≠0 by decide)
             clear hM2 HZT
             go_wp2_with fail
             refine(j7 b X k3 f op vN vn 22 k w5 HD.out (by have:=HX.out.lenP;omega)).mono ?_
             rintro e wf ⟨rfl,d3,t3⟩
             replace HR:=b6 (Y0 HR.out HD.out t3)
             replace HD:=b6 d3
             replace HT:=b6 (HT.out.trans t3 iE)
             clear d3 t3 e11
             replace HR:=b6 (g9 HR.out ((tZ wf).alloc (.cells #[.int .i64 a,.int .i64 z] 87)) iE)
             have R9:=b6 (s6 wf 87 a z).own
             replace HD:=b6 (HD.out.new ((tZ wf).alloc (.cells #[.int .i64 a,.int .i64 z] 87)))
             replace HT:=b6 (HT.out.alloc (.cells #[.int .i64 a,.int .i64 z] 87))
             have HM9:=b6 (show[(a,z)].length<=64 from Nat.succ_le_succ (Nat.zero_le _))
             go_upto_region 17 with fail
             generalize wf.alloc (.cells #[.int .i64 a,.int .i64 z] 87)=wy at*
             obtain⟨a9,c9,hv9,hg9⟩:=F5 R9.out
             first|subst hv9|cases hv9
             have HG9:=b6 hg9
             clear hg9
             go_wp2_with (at_builtin;refine l3 _ rfl _ _ rfl _ _ _ rfl HR.out _ _ ([(a,z)]) rfl HG9.out (by have:=HLB.out;have:=HM9.out;omega) ?_)
             intro v' w7 hown hgrow hat
             obtain⟨a8,c8,hv8⟩:=e9 hown
             subst hv8
             have HP:=b6 (Ab HT.out HD.out HBW.out HNW.out hown hgrow hat)
             have HL8:=b6 (show(l++([(a,z)])).length=l.length+([(a,z)]).length from List.length_append)
             clear hown hgrow hat
             go_wp2
             go_roundg gk
             case measure=>omega
             case rel=>
              refine⟨n+1,l++([(a,z)]),by rw[HWN.out],by omega,b6 HP.out.1,b6 (by have:=HL8.out;have:=HLN.out;have:=HM9.out;omega),b6 HP.out.2.1,b6 HP.out.2.2.1,b6 ?_⟩
              exact .inr ⟨22,k,HZ2.out,HC.out,by omega,HP.out.2.2.2⟩
            ·have HZ2:=b6 (show Z=Jm X.R k0 (n+1) k3 (l++ [(a,z)])from by rw[HZT.out];simp only;rw[if_neg hza])
             clear hM2 HZT
             replace HR:=b6 (g9 HR.out ((tZ w5).alloc (.cells #[.int .i64 a,.int .i64 z] 87)) iE)
             have R9:=b6 (s6 w5 87 a z).own
             replace HD:=b6 (HD.out.new ((tZ w5).alloc (.cells #[.int .i64 a,.int .i64 z] 87)))
             replace HT:=b6 (HT.out.alloc (.cells #[.int .i64 a,.int .i64 z] 87))
             have HM9:=b6 (show[(a,z)].length<=64 from Nat.succ_le_succ (Nat.zero_le _))
             go_upto_region 17 with fail
             generalize w5.alloc (.cells #[.int .i64 a,.int .i64 z] 87)=wy at*
             obtain⟨a9,c9,hv9,hg9⟩:=F5 R9.out
             first|subst hv9|cases hv9
             have HG9:=b6 hg9
             clear hg9
             go_wp2_with (at_builtin;refine l3 _ rfl _ _ rfl _ _ _ rfl HR.out _ _ ([(a,z)]) rfl HG9.out (by have:=HLB.out;have:=HM9.out;omega) ?_)
             intro v' w7 hown hgrow hat
             obtain⟨a8,c8,hv8⟩:=e9 hown
             subst hv8
             have HP:=b6 (Ab HT.out HD.out HBW.out HNW.out hown hgrow hat)
             have HL8:=b6 (show(l++([(a,z)])).length=l.length+([(a,z)]).length from List.length_append)
             clear hown hgrow hat
             go_wp2
             go_roundg gk
             case measure=>omega
             case rel=>
              refine⟨n+1,l++([(a,z)]),by rw[HWN.out],by omega,b6 HP.out.1,b6 (by have:=HL8.out;have:=HLN.out;have:=HM9.out;omega),b6 HP.out.2.1,b6 HP.out.2.2.1,b6 ?_⟩
              exact .inl ⟨k3,fun e=>by omega,by have:=HK1.out;have:=HK2.out;have:=HK3.out;omega,HK3.out.2,HZ2.out,HP.out.2.2.2⟩
       ·have h45b:(y1==45)=false:=beq_eq_false_iff_ne.2 h45
        have HZ2:=b6 (show Z=Jm X.R k0 (n+1) k1 (l++m)from by rw[HN.out,Hu hyk hM (fun e=>h45 (by rw[hy1];exact e.1))])
        clear hM hyk HN hy1 hy2 KQ2 KQ3 h45
        go_wp2_with fail
        refine(KQ1.out _ HD.out).mono ?_
        rintro e wq1 ⟨rfl,nq1,hwp⟩
        replace HR:=b6 (RR.dr HR.out hwp)
        replace R9:=b6 (RR.dr R9.out hwp)
        replace HD:=b6 (HD.out.dr hwp)
        replace HT:=b6 (HT.out.dr hwp)
        have e11:wq1.cell? ⟨b,11,none⟩=some (.int .i64 0):=HD.out.c 11 _ rfl
        clear hwp
        obtain⟨a9,c9,hv9,hg9⟩:=F5 R9.out
        first|subst hv9|cases hv9
        have HG9:=b6 hg9
        clear hg9
        go_wp2_with (at_builtin;refine l3 _ rfl _ _ rfl _ _ _ rfl HR.out _ _ (m) rfl HG9.out (by have:=HLB.out;have:=HM9.out;omega) ?_)
        intro v' w7 hown hgrow hat
        obtain⟨a8,c8,hv8⟩:=e9 hown
        subst hv8
        have HP:=b6 (Ab HT.out HD.out HBW.out HNW.out hown hgrow hat)
        have HL8:=b6 (show(l++(m)).length=l.length+(m).length from List.length_append)
        clear hown hgrow hat
        go_wp2
        go_roundg gk
        case measure=>omega
        case rel=>
         refine⟨n+1,l++(m),by rw[HWN.out],by omega,b6 HP.out.1,b6 (by have:=HL8.out;have:=HLN.out;have:=HM9.out;omega),b6 HP.out.2.1,b6 HP.out.2.2.1,b6 ?_⟩
         exact .inl ⟨k1,fun e=>by omega,by have:=HK1.out;omega,HK1.out.2,HZ2.out,HP.out.2.2.2⟩
  ·have HLB:=b6 (show l.length<=131072 by have:=HLN.out;omega)
   have HD:=b6 hd
   have HZF:=b6 hz
   have hcb:(((c:Nat):Int)==0)=false:=beq_eq_false_iff_ne.2 (by omega)
   have e11:wr.cell? ⟨b,11,none⟩=some (.int .i64 ((c:Nat):Int)):=HD.out.c 11 _ rfl
   clear hz hd HST hc
   cases neg with
   |false=>
    go_wp2
    go_ret
    rw[HZF.out]
    exact⟨_,_,rfl,HR.out,Nat.le_trans HLB.out (by decide),HNW.out,HD.out,HT.out⟩
   |true=>
    obtain⟨a7,c7,hv7,hg7⟩:=F5 HR.out
    cases hv7
    have HG7:=b6 hg7
    clear hg7
    go_wp2_with fail
    refine(Y9 _ _ l _ HG7.out (by have:=HLB.out;omega)).mono ?_
    rintro e wx ⟨v,rfl,o⟩
    have O:=b6 o
    clear o
    go_wp2
    go_ret
    rw[HZF.out]
    exact⟨v,_,rfl,O.out.own,by have:=Bz l;have:=HLB.out;omega,fun g e=>Nat.le_trans HT.out.size (O.out.new g e),HD.out.new O.out.touch,HT.out.trans O.out.touch nE⟩
theorem SU (b:Nat)(X:Px)(k0 k:Nat)(f:Fl)(op:Nat)(vN vn:Value)(w:World)(h:DS w b X k f op vN vn 0 0)(hX:X.Good)(hk:k<=X.R.length)(hk1:1<=k)(hj:k0<X.R.length)(h94:g7 X.R k≠94):
 Calls Tryz.prog 100 #[.pointer (some ⟨b,0,none⟩),.int .i64 (k0:Nat)] w fun e w'=>Sq b X f op vN vn w false (G2 X.R b8 k0 k) e w':=
 MC false b X k0 k f op vN vn w h hX hk hk1 hj (decide_eq_false h94)
theorem SV (b:Nat)(X:Px)(k0 k:Nat)(f:Fl)(op:Nat)(vN vn:Value)(w:World)(h:DS w b X k f op vN vn 0 0)(hX:X.Good)(hk:k<=X.R.length)(hk1:1<=k)(hj:k0<X.R.length)(h94:g7 X.R k=94):
 Calls Tryz.prog 100 #[.pointer (some ⟨b,0,none⟩),.int .i64 (k0:Nat)] w fun e w'=>Sq b X f op vN vn w true (G2 X.R b8 k0 (k+1)) e w':=
 MC true b X k0 k f op vN vn w h hX hk hk1 hj (decide_eq_true h94)
theorem JU {R:List Int}{p:Int->Bool}:∀(n m k:Nat),n<=m->l6 R p n k=(l6 R p m k).take n
 |0,m,k,_=>by simp[l6]
 |n+1,0,k,h=>by omega
 |n+1,m+1,k,h=>by
  rw[C5,C5]
  by_cases hp:p (g7 R k)=true
  ·rw[if_pos hp,if_pos hp,List.take_succ_cons,JU n m (k+1) (by omega)]
  ·rw[if_neg hp,if_neg hp]
   rfl
def Ks (R:List Int)(k0:Nat)(ns:List ByteArray)(k:Nat):PR (ByteArray×Nat):=
 if g7 R k=60 then
  if g7 R (k+1+(l6 R C2 40 (k+1)).length)=62/\1<=(l6 R C2 40 (k+1)).length/\(l6 R C2 40 (k+1)).length<=32/\S5 (i7 (l6 R C2 40 (k+1))) ns=false then
   .ok (i7 (l6 R C2 40 (k+1)),k+1+(l6 R C2 40 (k+1)).length+1)
  else .error (25,k0)
 else .error (25,k0)
theorem MZ (R:List Int)(k0:Nat)(ns:List ByteArray)(k:Nat):W3 R k0 ns k=Ks R k0 ns k:=by
 unfold W3 Ks
 by_cases h:g7 R k=60
 ·rw[if_pos h,if_pos h]
  simp only
  have ht:=JU (R:=R) (p:=C2) 32 40 (k+1) (by decide)
  have hrun:=fun i (hi:i<(l6 R C2 40 (k+1)).length)=>RN (R:=R) (p:=C2) (by decide) 40 (k+1) i hi
  generalize hL:l6 R C2 40 (k+1)=L at*
  by_cases h32:L.length<=32
  ·rw[List.take_of_length_le h32]at ht
   rw[ht]
   by_cases hc:L≠ []/\g7 R (k+1+L.length)=62/\S5 (i7 L) ns=false
   ·rw[if_pos hc,if_pos ⟨hc.2.1,List.length_pos_iff.2 hc.1,h32,hc.2.2⟩]
   ·rw[if_neg hc,if_neg (fun e=>hc ⟨List.length_pos_iff.1 e.2.1,e.1,e.2.2.2⟩)]
  ·have hlen:(l6 R C2 32 (k+1)).length=32:=by rw[ht,List.length_take];omega
   have hn:C2 (g7 R (k+1+32))=true:=Av 40 (k+1) _ (by rw[hL];exact hrun 32 (by omega))
   rw[if_neg (fun e=>by
    have:=e.2.1
    rw[hlen]at this
    rw[this]at hn
    exact absurd hn (by decide)),if_neg (fun e=>h32 e.2.2.1)]
 ·rw[if_neg h,if_neg h]
theorem NZ (b:Nat)(X:Px)(k0:Nat)(f:Fl)(op:Nat)(vN vn:Value)(w:World)(h:DS w b X (k0+1) f op vN vn 0 0)(hX:X.Good)(hj:k0<X.R.length):
 Calls Tryz.prog 100 #[.pointer (some ⟨b,0,none⟩),.int .i64 (k0:Nat)] w fun e w'=>∃(neg:Bool) (Z:PR (List R2×Nat)),E0 X.R b8 k0 (k0+1)=Bn neg Z/\Sq b X f op vN vn w neg Z e w':=by
 by_cases h94:g7 X.R (k0+1)=94
 ·exact(SV b X k0 (k0+1) f op vN vn w h hX (by omega) (by omega) hj h94).mono (fun e w' he=>⟨true,_,by unfold E0;rw[if_pos h94],he⟩)
 ·exact(SU b X k0 (k0+1) f op vN vn w h hX (by omega) (by omega) hj h94).mono (fun e w' he=>⟨false,_,by unfold E0;rw[if_neg h94],he⟩)
end Go.Proofs.YtdhhcefmmojcmaaGreatDoor
