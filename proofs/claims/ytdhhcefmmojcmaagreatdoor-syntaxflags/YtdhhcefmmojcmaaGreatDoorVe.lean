/- Texts of this proof, one behind the other. -/
import Derived.Test.YtdhhcefmmojcmaaGreatDoorM38
set_option maxRecDepth 100000
set_option maxHeartbeats 0
set_option linter.unusedVariables false
namespace Go.Proofs.YtdhhcefmmojcmaaGreatDoor
open Go.RowKit Go.Lib
theorem Nq {w:World}{an:Option Addr}{n cn:Nat}{ns:List ByteArray}(h:SL w (.slice an n cn) ns){i:Nat}{s:ByteArray}(hi:ns[i]? =some s):∃g,an=some ⟨g,0,none⟩/\g<w.heap.size/\w.cell? ⟨g,i,none⟩=some (.string s):=by
 rcases h.2 with⟨_,k⟩|⟨g,cap,cur,hv,hg,hh,rest⟩
 ·have:=(List.getElem?_eq_some_iff.1 hi).1
  omega
 ·have ha:an=some ⟨g,0,none⟩:=by cases hv;rfl
  refine⟨g,ha,lt_of_block hh,?_⟩
  have:=h.cells (g:=g) (by rw[ha];rfl) i (.string s) (by rw[List.getElem?_map,hi];rfl)
  rwa [W5]at this
theorem MN {s:ByteArray}{ns:List ByteArray}{i:Nat}(hi:i<ns.length):S5 s (ns.take (i+1))=(S5 s (ns.take i)||decide (ns[i]=s)):=by
 unfold S5
 rw[List.take_succ_eq_append_getElem hi,List.any_append]
 simp
def WD (R:List Int)(k0:Nat)(ns:List ByteArray)(k2:Nat)(L:List Int):PR (ByteArray×Nat):=
 if g7 R (k2+L.length)=62/\1<=L.length/\L.length<=32/\S5 (i7 L) ns=false then .ok (i7 L,k2+L.length+1)else .error (25,k0)
theorem TH {R:List Int}{k0:Nat}{ns:List ByteArray}{k:Nat}(h:g7 R k=60):Ks R k0 ns k=WD R k0 ns (k+1) (l6 R C2 40 (k+1)):=by
 unfold Ks WD
 rw[if_pos h]
def Sr (b:Nat)(X:Px)(f:Fl)(op:Nat)(vN vn:Value)(w:World):PR (ByteArray×Nat)->Ending->World->Prop
 | .ok (s,k1),e,w'=>e=.returned (.string s)/\DS w' b X k1 f op vN vn 0 0/\b7 (fun g=>g=b) w w'
 | .error (c,j),e,w'=>∃s,e=.returned (.string s)/\DS w' b X X.R.length f op vN vn (c:Nat) (g7 X.P j)/\b7 (fun g=>g=b) w w'
theorem Lq (b:Nat)(X:Px)(k0 k:Nat)(f:Fl)(op:Nat)(vN:Value)(an:Option Addr)(cn:Nat)(ns:List ByteArray)(w:World)(h:DS w b X k f op vN (.slice an ns.length cn) 0 0)(hs:SL w (.slice an ns.length cn) ns)(hb:∀g,(Value.slice an ns.length cn).ownBlock=some g->b<g)(hk:k<=X.R.length)(hR:X.R.length<=1024)(hj:k0<X.P.length)(hn:ns.length<=4194304):
 Calls Tryz.prog 118 #[.pointer (some ⟨b,0,none⟩),.int .i64 (k0:Nat)] w fun e w'=>Sr b X f op vN (.slice an ns.length cn) w (Ks X.R k0 ns k) e w':=by
 have HJ:=b6 hj
 obtain⟨PO,hPO⟩:∃PO,PO=Ks X.R k0 ns k:=⟨_,rfl⟩
 rw[<-hPO]
 obtain⟨N,hN⟩:∃N,N=ns.length:=⟨_,rfl⟩
 rw[<-hN]at h hs hb hn⊢
 obtain⟨vn,hvn⟩:∃vn,vn=Value.slice an N cn:=⟨_,rfl⟩
 have HSL:=b6 hs
 have HBB:=b6 hb
 rw[<-hvn]at h⊢
 have HV:=b6 hvn
 have HN:=b6 hN
 have HD:=b6 h
 have HKR:=b6 hk
 clear hs hb hvn hN h
 by_cases h60:g7 X.R k=60
 ·obtain⟨k2,hk2⟩:∃k2,k2=k+1:=⟨_,rfl⟩
  have HK2:=b6 (show k2<=X.R.length by have:=j9 h60 (by decide);omega)
  obtain⟨L,hL⟩:∃L,L=l6 X.R C2 40 k2:=⟨_,rfl⟩
  have HPN:=b6 (show PO=WD X.R k0 ns k2 L by rw[hPO,hL,hk2,TH h60])
  have HL:=b6 hL
  clear hPO hL
  go_enter Tryz.func118,Tryz.ntmps118
  go_wp2_with fail
  refine(y7 60 HD.out (by omega) h60).mono ?_
  rintro e w3 ⟨rfl,d3,t3⟩
  have H3:=b6 (show DS w3 b X k2 f op vN vn 0 0 by rw[hk2];exact d3)
  have T3:=b6 t3
  clear d3 t3 h60 HD hk2
  go_wp2_with fail
  go_loopg [5] 40 (fun gk v5 wq=>∃(i:Nat) (t:List Int),i+gk=40/\v5=.string (i7 t)/\Hid (t.length=i)/\Hid (L=t++l6 X.R C2 gk (k2+i))/\Hid (k2+i<=X.R.length)/\Hid (DS wq b X (k2+i) f op vN vn 0 0)/\Hid (b7 (fun g=>g=b) w wq))
  case atStart=>exact⟨0,[],rfl,rfl,b6 rfl,HL,HK2,H3,T3⟩
  case round=>
   clear HL H3 T3 HK2
   obtain⟨i,t,hgk,rfl,HTL,HL,HKI,HD,HT⟩:=hrel
   obtain⟨S,hS⟩:∃S,S=i7 t:=⟨_,rfl⟩
   have hSz:S.size=i:=by rw[hS,Ar,HTL.out]
   rw[<-hS]
   by_cases hlt:i<40
   ·have hltI:(S.size:Int)<40:=by omega
    obtain⟨gk,rfl⟩:∃g,gk=g+1:=⟨gk-1,by omega⟩
    obtain⟨y,hy⟩:∃y,y=g7 X.R (k2+i):=⟨_,rfl⟩
    have HKb:=b6 (show k2+i<=1024 by have:=HKI.out;omega)
    have KP:=b6 (fun w' (g:DS w' b X (k2+i) f op vN vn 0 0)=>j6 b X (k2+i) f op vN vn 0 0 0 w' g (by have:=HKb.out;omega) (by omega))
    rw[Nat.add_zero,<-hy]at KP
    obtain⟨Y,hY⟩:∃Y,Y=C2 y:=⟨_,rfl⟩
    have HY:=b6 hY
    clear hY
    have HYY:=b6 hy
    have HSS:=b6 hS
    clear hy hS
    go_wp2_with fail
    refine(KP.out _ HD.out).mono ?_
    rintro e wp ⟨rfl,n1,hwp⟩
    replace HD:=b6 (HD.out.dr hwp)
    replace HT:=b6 (HT.out.dr hwp)
    clear hwp
    go_upto_region 7 with fail
    go_cut [45] (fun v wd=>v=.bool (!Y)/\wd=wp)
    case first=>
     clear hSz hltI
     rcases(show(y=95)∨(y<48)∨(48<=y/\y<=57)∨(57<y/\y<65)∨(65<=y/\y<=90)∨(90<y/\y<97/\y≠95)∨(97<=y/\y<=122)∨(122<y)by omega)with hq|hq|hq|hq|hq|hq|hq|hq
     ·have E:=b6 (show Y=true from by rw[HY.out];unfold C2 u5 p4 Y6;simp;omega)
      subst hq
      clear HY HYY KP
      go_wp2
      go_meet
      case rel=>exact⟨by rw[E.out];rfl,rfl⟩
     ·have E:=b6 (show Y=false from by rw[HY.out];unfold C2 u5 p4 Y6;simp;omega)
      have hne:(y !=95)=true:=by simp;omega
      have a48:y<48:=by omega
      have a57:¬y>57:=by omega
      have a65:y<65:=by omega
      have a90:¬y>90:=by omega
      have a97:y<97:=by omega
      have a122:¬y>122:=by omega
      clear hq HY
      go_wp2
      go_meet
      case rel=>exact⟨by rw[E.out];rfl,rfl⟩
     ·have E:=b6 (show Y=true from by rw[HY.out];unfold C2 u5 p4 Y6;simp;omega)
      have hne:(y !=95)=true:=by simp;omega
      have a48:¬y<48:=by omega
      have a57:¬y>57:=by omega
      have a65:y<65:=by omega
      have a90:¬y>90:=by omega
      have a97:y<97:=by omega
      have a122:¬y>122:=by omega
      clear hq HY
      go_wp2
      go_meet
      case rel=>exact⟨by rw[E.out];rfl,rfl⟩
     ·have E:=b6 (show Y=false from by rw[HY.out];unfold C2 u5 p4 Y6;simp;omega)
      have hne:(y !=95)=true:=by simp;omega
      have a48:¬y<48:=by omega
      have a57:y>57:=by omega
      have a65:y<65:=by omega
      have a90:¬y>90:=by omega
      have a97:y<97:=by omega
      have a122:¬y>122:=by omega
      clear hq HY
      go_wp2
      go_meet
      case rel=>exact⟨by rw[E.out];rfl,rfl⟩
     ·have E:=b6 (show Y=true from by rw[HY.out];unfold C2 u5 p4 Y6;simp;omega)
      have hne:(y !=95)=true:=by simp;omega
      have a48:¬y<48:=by omega
      have a57:y>57:=by omega
      have a65:¬y<65:=by omega
      have a90:¬y>90:=by omega
      have a97:y<97:=by omega
      have a122:¬y>122:=by omega
      clear hq HY
      go_wp2
      go_meet
      case rel=>exact⟨by rw[E.out];rfl,rfl⟩
     ·have E:=b6 (show Y=false from by rw[HY.out];unfold C2 u5 p4 Y6;simp;omega)
      have hne:(y !=95)=true:=by simp;omega
      have a48:¬y<48:=by omega
      have a57:y>57:=by omega
      have a65:¬y<65:=by omega
      have a90:y>90:=by omega
      have a97:y<97:=by omega
      have a122:¬y>122:=by omega
      clear hq HY
      go_wp2
      go_meet
      case rel=>exact⟨by rw[E.out];rfl,rfl⟩
     ·have E:=b6 (show Y=true from by rw[HY.out];unfold C2 u5 p4 Y6;simp;omega)
      have hne:(y !=95)=true:=by simp;omega
      have a48:¬y<48:=by omega
      have a57:y>57:=by omega
      have a65:¬y<65:=by omega
      have a90:y>90:=by omega
      have a97:¬y<97:=by omega
      have a122:¬y>122:=by omega
      clear hq HY
      go_wp2
      go_meet
      case rel=>exact⟨by rw[E.out];rfl,rfl⟩
     ·have E:=b6 (show Y=false from by rw[HY.out];unfold C2 u5 p4 Y6;simp;omega)
      have hne:(y !=95)=true:=by simp;omega
      have a48:¬y<48:=by omega
      have a57:y>57:=by omega
      have a65:¬y<65:=by omega
      have a90:y>90:=by omega
      have a97:¬y<97:=by omega
      have a122:y>122:=by omega
      clear hq HY
      go_wp2
      go_meet
      case rel=>exact⟨by rw[E.out];rfl,rfl⟩
    obtain⟨rfl,rfl⟩:=hcut
    cases Y with
    |true=>
     have hg:=HY.out.symm
     have hy:=HYY.out
     have hlR:k2+i<X.R.length:=by
      refine I6 (fun e=>?_)
      rw[hy,e]at hg
      cases hg
     have HX:=b6 (show L=(t++ [y])++l6 X.R C2 gk (k2+(i+1))by
      have:=HL.out
      rw[C5,<-hy,if_pos hg]at this
      rw[this,List.append_assoc]
      rfl)
     have hy7:0<=y/\y<127:=by unfold C2 u5 p4 Y6 at hg;simp at hg;omega
     have hwu:IntKind.u8.wrap y=y:=by rw[IntKind.wrap_u8];omega
     obtain⟨c,hcc⟩:∃c,c=UInt8.ofNat y.toNat:=⟨_,rfl⟩
     have hcy:(c.toNat:Int)=y:=by rw[hcc,UInt8.toNat_ofNat'];omega
     have HAD:=b6 (show S++⟨#[c]⟩=i7 (t++ [y])by rw[HSS.out,hcc];exact Ci t y)
     have hS2:S.size<=2048:=by omega
     clear hcc hg hy HL HY hltI hSz
     have hcv:=CJ (wc.alloc (.cells #[.int .u8 y] 5)) wc.heap.size c (by rw[hcy];exact N0 _ _)
     have D5:=b6 (HD.out.new ((tZ wc).alloc (.cells #[.int .u8 y] 5)))
     have T5:=b6 (HT.out.alloc (.cells #[.int .u8 y] 5))
     go_upto_region 9 with fail
     clear hcv HD HT
     generalize wc.alloc (.cells #[.int .u8 y] 5)=w5 at*
     obtain⟨m,hm⟩:∃m,m=k2+i:=⟨_,rfl⟩
     have hwm:IntKind.i64.wrap ((m:Int)+1)=((k2+(i+1):Nat):Int):=by rw[IntKind.wrap_i64];omega
     rw[<-hm]at D5
     have d2:w5.cell? ⟨b,2,none⟩=some (.int .i64 (m:Int)):=D5.out.c 2 _ rfl
     have e2:=D5.out.fr 2
     obtain⟨m2,hm2⟩:∃m2,m2=k2+(i+1):=⟨_,rfl⟩
     rw[<-hm2]at hwm HX
     have HM2:=b6 hm2
     have D6:=b6 (D5.out.setk m2)
     have T6:=b6 (b7.trans (S:=fun g=>g=b) T5.out (d9 w5 b 2 (.int .i64 (m2:Int))) iE)
     clear hm hm2 D5 T5
     go_wp2
     go_roundg gk
     case measure=>omega
     case rel=>
      refine⟨i+1,t++ [y],by omega,by rw[<-HAD.out],b6 (by rw[List.length_append,HTL.out];rfl),b6 (by rw[<-HM2.out];exact HX.out),b6 (by omega),b6 (by rw[<-HM2.out];exact D6.out),b6 T6.out⟩
    |false=>
     have hX:L=t:=by
      have:=HL.out
      have e:=HY.out
      rw[this,C5,<-HYY.out,if_neg (by rw[<-e];decide),List.append_nil]
     have hS:=HSS.out
     clear HL HY HYY HSS hltI KP HKb
     generalize wc=wr at*
     subst hX
     have hLen:=HTL.out
     obtain⟨k3,hk3⟩:∃k3,k3=k2+i:=⟨_,rfl⟩
     rw[<-hk3]at HD HKI
     have HPK:=b6 (show PO=if g7 X.R k3=62/\1<=i/\i<=32/\S5 S ns=false then .ok (S,k3+1)else .error (25,k0)by rw[HPN.out];unfold WD;rw[hLen,<-hk3,<-hS])
     obtain⟨E,hE⟩:∃E,E=decide (g7 X.R k3=62):=⟨_,rfl⟩
     obtain⟨k4,hk4⟩:∃k4,k4=if E then k3+1 else k3:=⟨_,rfl⟩
     have KE:=b6 (show Calls Tryz.prog 52 #[.pointer (some ⟨b,0,none⟩),.string ⟨#[62]⟩] wr fun e w'=>e=.returned (.bool E)/\DS w' b X k4 f op vN vn 0 0/\b7 (fun g=>g=b) wr w' by
      have:=BT b X k3 f op vN vn 0 0 ⟨#[62]⟩ wr HD.out (by have:=HKI.out;omega) (by show 1<=1024;decide)
      rw[U1]at this
      rw[hk4,hE]
      exact this)
     have HE:=b6 hE
     have HK4:=b6 hk4
     obtain⟨O,hO⟩:∃O,O=(E&&(decide (1<=i)&&decide (i<=32))):=⟨_,rfl⟩
     have HO:=b6 hO
     clear hS hLen hk3 HPN HTL hE hk4 hO
     go_upto_region 10 with fail
     go_cut [7] (fun v wd=>v=.bool O/\Hid (DS wd b X k4 f op vN vn 0 0)/\Hid (b7 (fun g=>g=b) w wd))
     case first=>
      cases E with
      |false=>
       obtain rfl:O=false:=HO.out
       go_wp2_with fail
       refine KE.out.mono ?_
       rintro e we ⟨rfl,de,te⟩
       have DE:=b6 de
       have TE:=b6 (HT.out.trans te iE)
       clear de te
       go_wp2
       go_meet
       case rel=>exact⟨rfl,DE,TE⟩
      |true=>
       by_cases g1:1<=i
       ·have g1I:(i:Int)≥1:=by omega
        by_cases g2:i<=32
        ·have g2I:(i:Int)<=32:=by omega
         obtain rfl:O=true:=by rw[HO.out,decide_eq_true g1,decide_eq_true g2];rfl
         go_wp2_with fail
         refine KE.out.mono ?_
         rintro e we ⟨rfl,de,te⟩
         have DE:=b6 de
         have TE:=b6 (HT.out.trans te iE)
         clear de te
         go_wp2
         go_meet
         case rel=>exact⟨rfl,DE,TE⟩
        ·have g2I:¬(i:Int)<=32:=by omega
         obtain rfl:O=false:=by rw[HO.out,decide_eq_true g1,decide_eq_false g2];rfl
         go_wp2_with fail
         refine KE.out.mono ?_
         rintro e we ⟨rfl,de,te⟩
         have DE:=b6 de
         have TE:=b6 (HT.out.trans te iE)
         clear de te
         go_wp2
         go_meet
         case rel=>exact⟨by simp;omega,DE,TE⟩
       ·have g1I:¬(i:Int)≥1:=by omega
        obtain rfl:O=false:=by rw[HO.out,decide_eq_false g1];rfl
        go_wp2_with fail
        refine KE.out.mono ?_
        rintro e we ⟨rfl,de,te⟩
        have DE:=b6 de
        have TE:=b6 (HT.out.trans te iE)
        clear de te
        go_wp2
        go_meet
        case rel=>exact⟨rfl,DE,TE⟩
     obtain⟨rfl,HD5,HT5⟩:=hcut
     clear KE HD HT hgk hlt
     have c10:wc.cell? ⟨b,10,none⟩=some (.slice an N cn):=by rw[<-HV.out];exact HD5.out.c 10 _ rfl
     have HS5:=b6 (g9 HSL.out HT5.out (fun g e e2=>by have:=HBB.out g e;omega))
     go_wp2_with fail
     go_loopg [7,8] N (fun gk v7 v8 wq=>∃q:Nat,q+gk=N/\v7=.bool (O&& !S5 S (ns.take q))/\v8=.int .i64 (q:Nat)/\wq=wc)
     case atStart=>exact⟨0,Nat.zero_add _,by simp[S5],rfl,rfl⟩
     case round=>
      obtain⟨q,hgk,rfl,rfl,rfl⟩:=hrel
      by_cases hql:q<N
      ·have hqI:(q:Int)<(N:Int):=by omega
       have hwq:IntKind.i64.wrap ((q:Int)+1)=((q+1:Nat):Int):=by rw[IntKind.wrap_i64];omega
       have hqn:q<ns.length:=by have:=HN.out;omega
       obtain⟨T,hT⟩:∃T,T=ns[q]:=⟨_,rfl⟩
       obtain⟨g,han,hgl,hc⟩:=Nq HS5.out (List.getElem?_eq_getElem hqn)
       subst han
       rw[<-hT]at hc
       have HTK:=b6 (MN (s:=S) hqn)
       rw[<-hT]at HTK
       obtain⟨Bq,hBq⟩:∃Bq,Bq=(O&& !S5 S (ns.take q)):=⟨_,rfl⟩
       have HN2:=b6 (show(O&& !S5 S (ns.take (q+1)))=(Bq&& !decide (T=S))by rw[HTK.out,hBq];cases O<;>simp)
       rw[<-hBq]
       clear hBq HTK hT hqn
       cases Bq with
       |false=>
        clear hc
        go_wp2
        go_roundg (gk-1)
        case measure=>omega
        case rel=>exact⟨q+1,by omega,by rw[HN2.out];rfl,by simp,rfl⟩
       |true=>
        by_cases hTS:T=S
        ·subst hTS
         go_wp2
         go_roundg (gk-1)
         case measure=>omega
         case rel=>exact⟨q+1,by omega,by rw[HN2.out];simp,by simp,rfl⟩
        ·have HTS:=b6 hTS
         have HTL2:=b6 (show ¬T.toList=S.toList from fun e=>hTS (ByteArray.ext (Array.ext' (by rw[<-Lib.toList_data,<-Lib.toList_data];exact e))))
         clear hTS
         go_wp2
         go_roundg (gk-1)
         case measure=>omega
         case rel=>exact⟨q+1,by omega,by rw[HN2.out];simp[HTS.out,HTL2.out],by simp,rfl⟩
      ·have hqI:¬(q:Int)<(N:Int):=by omega
       obtain rfl:q=N:=by omega
       have HTA:=b6 (show S5 S (ns.take q)=S5 S ns by rw[List.take_of_length_le (by have:=HN.out;omega)])
       rw[HTA.out]
       obtain⟨V,hV⟩:∃V,V=(O&& !S5 S ns):=⟨_,rfl⟩
       rw[<-hV]
       have HVV:=b6 hV
       clear hV HTA
       cases V with
       |true=>
        have hO1:=HVV.out.symm
        rw[Bool.and_eq_true,HO.out,Bool.and_eq_true,Bool.and_eq_true,HE.out,decide_eq_true_eq,decide_eq_true_eq,decide_eq_true_eq]at hO1
        have HPP:=b6 (show PO=.ok (S,k4)by
         rw[HPK.out,if_pos ⟨hO1.1.1,hO1.1.2.1,hO1.1.2.2,by simpa using hO1.2⟩,HK4.out,HE.out,hO1.1.1]
         rfl)
        clear hO1
        go_wp2
        go_ret
        rw[HPP.out]
        exact⟨rfl,HD5.out,HT5.out⟩
       |false=>
        have HPP:=b6 (show PO=.error (25,k0)by
         rw[HPK.out,if_neg (fun e=>by
          have hO1:=HVV.out
          rw[HO.out,HE.out,decide_eq_true e.1,decide_eq_true e.2.1,decide_eq_true e.2.2.1,e.2.2.2]at hO1
          cases hO1)])
        go_wp2_with fail
        refine(j7 b X k4 f op vN vn 25 k0 wr HD5.out HJ.out).mono ?_
        rintro e wf ⟨rfl,df,tf⟩
        have DF:=b6 df
        have TF:=b6 (HT5.out.trans tf iE)
        clear df tf
        go_wp2
        go_ret
        rw[HPP.out]
        exact⟨_,rfl,DF.out,TF.out⟩
   ·have hltI:¬(S.size:Int)<40:=by omega
    obtain rfl:gk=0:=by omega
    have hX:L=t:=by rw[HL.out];exact List.append_nil _
    clear HL
    subst hX
    have hLen:=HTL.out
    obtain⟨k3,hk3⟩:∃k3,k3=k2+i:=⟨_,rfl⟩
    rw[<-hk3]at HD HKI
    have HPK:=b6 (show PO=if g7 X.R k3=62/\1<=i/\i<=32/\S5 S ns=false then .ok (S,k3+1)else .error (25,k0)by rw[HPN.out];unfold WD;rw[hLen,<-hk3,<-hS])
    obtain⟨E,hE⟩:∃E,E=decide (g7 X.R k3=62):=⟨_,rfl⟩
    obtain⟨k4,hk4⟩:∃k4,k4=if E then k3+1 else k3:=⟨_,rfl⟩
    have KE:=b6 (show Calls Tryz.prog 52 #[.pointer (some ⟨b,0,none⟩),.string ⟨#[62]⟩] wr fun e w'=>e=.returned (.bool E)/\DS w' b X k4 f op vN vn 0 0/\b7 (fun g=>g=b) wr w' by
     have:=BT b X k3 f op vN vn 0 0 ⟨#[62]⟩ wr HD.out (by have:=HKI.out;omega) (by show 1<=1024;decide)
     rw[U1]at this
     rw[hk4,hE]
     exact this)
    have HE:=b6 hE
    have HK4:=b6 hk4
    obtain⟨O,hO⟩:∃O,O=(E&&(decide (1<=i)&&decide (i<=32))):=⟨_,rfl⟩
    have HO:=b6 hO
    clear hS hLen hk3 HPN HTL hE hk4 hO
    go_upto_region 10 with fail
    go_cut [7] (fun v wd=>v=.bool O/\Hid (DS wd b X k4 f op vN vn 0 0)/\Hid (b7 (fun g=>g=b) w wd))
    case first=>
     cases E with
     |false=>
      obtain rfl:O=false:=HO.out
      go_wp2_with fail
      refine KE.out.mono ?_
      rintro e we ⟨rfl,de,te⟩
      have DE:=b6 de
      have TE:=b6 (HT.out.trans te iE)
      clear de te
      go_wp2
      go_meet
      case rel=>exact⟨rfl,DE,TE⟩
     |true=>
      have g1I:(i:Int)≥1:=by omega
      have g2I:¬(i:Int)<=32:=by omega
      obtain rfl:O=false:=by rw[HO.out,decide_eq_false (show ¬i<=32 by omega)];simp
      go_wp2_with fail
      refine KE.out.mono ?_
      rintro e we ⟨rfl,de,te⟩
      have DE:=b6 de
      have TE:=b6 (HT.out.trans te iE)
      clear de te
      go_wp2
      go_meet
      case rel=>exact⟨by simp;omega,DE,TE⟩
    obtain⟨rfl,HD5,HT5⟩:=hcut
    clear KE HD HT hgk hlt
    have c10:wc.cell? ⟨b,10,none⟩=some (.slice an N cn):=by rw[<-HV.out];exact HD5.out.c 10 _ rfl
    have HS5:=b6 (g9 HSL.out HT5.out (fun g e e2=>by have:=HBB.out g e;omega))
    go_wp2_with fail
    go_loopg [7,8] N (fun gk v7 v8 wq=>∃q:Nat,q+gk=N/\v7=.bool (O&& !S5 S (ns.take q))/\v8=.int .i64 (q:Nat)/\wq=wc)
    case atStart=>exact⟨0,Nat.zero_add _,by simp[S5],rfl,rfl⟩
    case round=>
     obtain⟨q,hgk,rfl,rfl,rfl⟩:=hrel
     by_cases hql:q<N
     ·have hqI:(q:Int)<(N:Int):=by omega
      have hwq:IntKind.i64.wrap ((q:Int)+1)=((q+1:Nat):Int):=by rw[IntKind.wrap_i64];omega
      have hqn:q<ns.length:=by have:=HN.out;omega
      obtain⟨T,hT⟩:∃T,T=ns[q]:=⟨_,rfl⟩
      obtain⟨g,han,hgl,hc⟩:=Nq HS5.out (List.getElem?_eq_getElem hqn)
      subst han
      rw[<-hT]at hc
      have HTK:=b6 (MN (s:=S) hqn)
      rw[<-hT]at HTK
      obtain⟨Bq,hBq⟩:∃Bq,Bq=(O&& !S5 S (ns.take q)):=⟨_,rfl⟩
      have HN2:=b6 (show(O&& !S5 S (ns.take (q+1)))=(Bq&& !decide (T=S))by rw[HTK.out,hBq];cases O<;>simp)
      rw[<-hBq]
      clear hBq HTK hT hqn
      cases Bq with
      |false=>
       clear hc
       go_wp2
       go_roundg (gk-1)
       case measure=>omega
       case rel=>exact⟨q+1,by omega,by rw[HN2.out];rfl,by simp,rfl⟩
      |true=>
       by_cases hTS:T=S
       ·subst hTS
        go_wp2
        go_roundg (gk-1)
        case measure=>omega
        case rel=>exact⟨q+1,by omega,by rw[HN2.out];simp,by simp,rfl⟩
       ·have HTS:=b6 hTS
        have HTL2:=b6 (show ¬T.toList=S.toList from fun e=>hTS (ByteArray.ext (Array.ext' (by rw[<-Lib.toList_data,<-Lib.toList_data];exact e))))
        clear hTS
        go_wp2
        go_roundg (gk-1)
        case measure=>omega
        case rel=>exact⟨q+1,by omega,by rw[HN2.out];simp[HTS.out,HTL2.out],by simp,rfl⟩
     ·have hqI:¬(q:Int)<(N:Int):=by omega
      obtain rfl:q=N:=by omega
      have HTA:=b6 (show S5 S (ns.take q)=S5 S ns by rw[List.take_of_length_le (by have:=HN.out;omega)])
      rw[HTA.out]
      obtain⟨V,hV⟩:∃V,V=(O&& !S5 S ns):=⟨_,rfl⟩
      rw[<-hV]
      have HVV:=b6 hV
      clear hV HTA
      cases V with
      |true=>
       have hO1:=HVV.out.symm
       rw[Bool.and_eq_true,HO.out,Bool.and_eq_true,Bool.and_eq_true,HE.out,decide_eq_true_eq,decide_eq_true_eq,decide_eq_true_eq]at hO1
       have HPP:=b6 (show PO=.ok (S,k4)by
        rw[HPK.out,if_pos ⟨hO1.1.1,hO1.1.2.1,hO1.1.2.2,by simpa using hO1.2⟩,HK4.out,HE.out,hO1.1.1]
        rfl)
       clear hO1
       go_wp2
       go_ret
       rw[HPP.out]
       exact⟨rfl,HD5.out,HT5.out⟩
      |false=>
       have HPP:=b6 (show PO=.error (25,k0)by
        rw[HPK.out,if_neg (fun e=>by
         have hO1:=HVV.out
         rw[HO.out,HE.out,decide_eq_true e.1,decide_eq_true e.2.1,decide_eq_true e.2.2.1,e.2.2.2]at hO1
         cases hO1)])
       go_wp2_with fail
       refine(j7 b X k4 f op vN vn 25 k0 wr HD5.out HJ.out).mono ?_
       rintro e wf ⟨rfl,df,tf⟩
       have DF:=b6 df
       have TF:=b6 (HT5.out.trans tf iE)
       clear df tf
       go_wp2
       go_ret
       rw[HPP.out]
       exact⟨_,rfl,DF.out,TF.out⟩
 ·have HPN:=b6 (show PO=.error (25,k0)by rw[hPO];unfold Ks;rw[if_neg h60])
  clear hPO
  go_enter Tryz.func118,Tryz.ntmps118
  go_wp2_with fail
  refine(E6 60 HD.out (by omega) h60).mono ?_
  rintro e w3 ⟨rfl,d3,t3⟩
  have H3:=b6 d3
  have T3:=b6 t3
  clear d3 t3 h60 HD
  go_wp2_with fail
  refine(j7 b X k f op vN vn 25 k0 w3 H3.out HJ.out).mono ?_
  rintro e wf ⟨rfl,df,tf⟩
  have DF:=b6 df
  have TF:=b6 (T3.out.trans tf iE)
  clear df tf
  go_wp2
  go_ret
  rw[HPN.out]
  exact⟨_,rfl,DF.out,TF.out⟩
end Go.Proofs.YtdhhcefmmojcmaaGreatDoor
