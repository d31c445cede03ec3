/- Texts of this proof, one behind the other. -/
import Derived.Test.YtdhhcefmmojcmaaGreatDoorM38
import Derived.Test.YtdhhcefmmojcmaaGreatDoorM14
import Derived.Test.YtdhhcefmmojcmaaGreatDoorM15
set_option maxRecDepth 100000
set_option maxHeartbeats 0
set_option linter.unusedVariables false
namespace Go.Proofs.YtdhhcefmmojcmaaGreatDoor
open Go.RowKit Go.Lib
def Od (f:Fl):Array Value:=#[.bool f.i,.bool f.m,.bool f.s,.bool f.u]
def Ha (c:Int):Nat->Int
 |0=> -1
 |1=>if c=105 then 0 else-1
 |2=>if c=109 then 1 else if c=105 then 0 else-1
 |3=>if c=115 then 2 else if c=109 then 1 else if c=105 then 0 else-1
 |_=>if c=85 then 3 else if c=115 then 2 else if c=109 then 1 else if c=105 then 0 else-1
def x8 (F a b:Fl):Nat->Fl
 |0=>F
 |1=>⟨(F.i||a.i)&& !b.i,F.m,F.s,F.u⟩
 |2=>⟨(F.i||a.i)&& !b.i,(F.m||a.m)&& !b.m,F.s,F.u⟩
 |3=>⟨(F.i||a.i)&& !b.i,(F.m||a.m)&& !b.m,(F.s||a.s)&& !b.s,F.u⟩
 |_=>F.turn a b
theorem NC (w:World)(A B:Obj):((w.alloc A).alloc B).heap[w.heap.size]? =(w.alloc A).heap[w.heap.size]? :=by
 have e1:(w.alloc A).heap.size=w.heap.size+1:=by simp
 exact((tZ (w.alloc A)).alloc B).block _ (by rw[e1];omega) id
theorem b9 {w:World}{g:Nat}{cs:Array Value}{t:TypeId}{fr:Nat×Nat}(h:w.heap[g]? =some (.cells cs t fr))(i:Nat)(v:Value)(hv:cs[i]? =some v):w.cell? ⟨g,i,none⟩=some v:=by
 simp[World.cell?,h,hv]
theorem V5 {w:World}{g:Nat}{cs:Array Value}{t:TypeId}(h:w.heap[g]? =some (.cells cs t (0,0)))(i:Nat):w.frozen? ⟨g,i,none⟩=false:=by
 simp[World.frozen?,h]
theorem Bu {w w':World}{b q:Nat}{X:Px}{k:Nat}{f:Fl}{op:Nat}{vN vn:Value}{er ea:Int}(h:DS w b X k f op vN vn er ea)(t:b7 (fun g=>g=q) w w')(hq:b<q):DS w' b X k f op vN vn er ea:=
 h.turn ((t.block b h.lt (fun e=>by omega)).trans h.cells) t (fun g e=>by omega)
theorem V1 {w0 w w':World}{b q:Nat}(h:b7 (fun g=>g=b) w0 w)(t:b7 (fun g=>g=q) w w')(hq:w0.heap.size<=q):b7 (fun g=>g=b) w0 w':=
 h.trans t (fun i hi e=>by omega)
def Sp (b:Nat)(X:Px)(f:Fl)(op:Nat)(vN vn:Value)(k0:Nat)(w:World):Option (Bool×Fl×Nat)->Ending->World->Prop
 |some (g,f',k'),e,w'=>e=.returned (.bool g)/\DS w' b X k' f' op vN vn 0 0/\b7 (fun g=>g=b) w w'
 |none,e,w'=>e=.returned (.bool false)/\DS w' b X X.R.length f op vN vn 20 (g7 X.P k0)/\b7 (fun g=>g=b) w w'
theorem Lp (b:Nat)(X:Px)(k0 k:Nat)(F:Fl)(op:Nat)(vN vn:Value)(w:World)(h:DS w b X k F op vN vn 0 0)(hk:k<=X.R.length)(hR:X.R.length<=1024)(hj:k0<X.P.length):
 Calls Tryz.prog 119 #[.pointer (some ⟨b,0,none⟩),.int .i64 (k0:Nat)] w fun e w'=>Sp b X F op vN vn k0 w (AG X.R F x7 k) e w':=by
 have HJ:=b6 hj
 obtain⟨PO,hPO⟩:∃PO,PO=AG X.R F x7 k:=⟨_,rfl⟩
 rw[<-hPO]
 have HPO:=b6 hPO
 have HRR:=b6 hR
 have T0:=(((b7.refl (fun g=>g=b) w).alloc (.cells #[.bool false,.bool false,.bool false,.bool false] 22)).alloc (.cells #[.bool false,.bool false,.bool false,.bool false] 22))
 have D0:=b6 (h.new (((tZ w).alloc (.cells #[.bool false,.bool false,.bool false,.bool false] 22)).alloc (.cells #[.bool false,.bool false,.bool false,.bool false] 22)))
 have B0:=b6 ((NC w (.cells #[.bool false,.bool false,.bool false,.bool false] 22) (.cells #[.bool false,.bool false,.bool false,.bool false] 22)).trans (e8 w #[.bool false,.bool false,.bool false,.bool false] 22))
 have B1:=b6 (e8 (w.alloc (.cells #[.bool false,.bool false,.bool false,.bool false] 22)) #[.bool false,.bool false,.bool false,.bool false] 22)
 have hsz:(w.alloc (.cells #[.bool false,.bool false,.bool false,.bool false] 22)).heap.size=w.heap.size+1:=by simp
 rw[hsz]at B1
 have HT0:=b6 T0
 have HLT:=b6 h.lt
 have HKR:=b6 hk
 clear h hPO T0 hsz hk hj
 go_enter Tryz.func119,Tryz.ntmps119
 go_upto_region 2 with fail
 generalize (w.alloc (.cells #[.bool false,.bool false,.bool false,.bool false] 22)).alloc (.cells #[.bool false,.bool false,.bool false,.bool false] 22)=w1 at*
 obtain⟨q0,hq0⟩:∃q0,q0=w.heap.size:=⟨_,rfl⟩
 try rw[<-hq0]
 rw[<-hq0]at B0 B1
 obtain⟨q1,hq1⟩:∃q1,q1=q0+1:=⟨_,rfl⟩
 try rw[<-hq1]
 rw[<-hq1]at B1
 have HQ:=b6 (show b<q0/\b<q1/\q0≠q1/\w.heap.size<=q0/\w.heap.size<=q1 by have:=HLT.out;omega)
 clear hq0 hq1
 go_wp2_with fail
 go_loopg [7,8] (X.R.length+1) (fun gk v7 v8 wq=>∃(kk:Nat) (A B:Fl) (mi:Bool),X.R.length+1<=kk+gk/\v7=.bool mi/\v8=.bool (A.some||B.some)/\Hid (kk<=X.R.length)/\Hid (PO=if mi then Ck X.R F A B kk else AG X.R F A kk)/\Hid (mi=false->B=x7)/\Hid (DS wq b X kk F op vN vn 0 0)/\Hid (wq.heap[q0]? =some (.cells (Od A) 22 (0,0)))/\Hid (wq.heap[q1]? =some (.cells (Od B) 22 (0,0)))/\Hid (b7 (fun g=>g=b) w wq))
 case atStart=>exact⟨k,x7,x7,false,by omega,rfl,rfl,HKR,HPO,b6 (fun _=>rfl),D0,B0,B1,HT0⟩
 case round=>
  clear HPO HKR D0 B0 B1 HT0
  obtain⟨kk,A,B,mi,hgk,rfl,rfl,HKK,HPO,HBZ,HD,HA,HB,HT⟩:=hrel
  obtain⟨c,hc⟩:∃c,c=g7 X.R kk:=⟨_,rfl⟩
  have HC:=b6 hc
  obtain⟨GG,hGG⟩:∃G,G=gk:=⟨_,rfl⟩
  have KP:=b6 (j6 b X kk F op vN vn 0 0 0 wr HD.out (by have:=HKK.out;omega) (by omega))
  rw[Nat.add_zero,<-hc]at KP
  have hcb: -1<=c/\c<=1114111∨True:=.inr trivial
  clear hc hcb
  obtain⟨kn,hkn⟩:∃kn,kn=kk+1:=⟨_,rfl⟩
  have hwk:IntKind.i64.wrap ((kk:Int)+1)=(kn:Int):=by have:=HKK.out;have:=HRR.out;rw[IntKind.wrap_i64];omega
  have HKN:=b6 hkn
  have HLT2:=b6 (show c≠ -1->kn<=X.R.length from fun e=>by have:=I6 (R:=X.R) (k:=kk) (by rw[<-HC.out];exact e);omega)
  clear hkn
  go_wp2_with fail
  refine KP.out.mono ?_
  rintro e wp ⟨rfl,n1,hwp⟩
  replace HD:=b6 (HD.out.dr hwp)
  replace HT:=b6 (HT.out.dr hwp)
  replace HA:=b6 (show wp.heap[q0]? =some (.cells (Od A) 22 (0,0))by rw[hwp];exact HA.out)
  replace HB:=b6 (show wp.heap[q1]? =some (.cells (Od B) 22 (0,0))by rw[hwp];exact HB.out)
  clear hwp KP
  have c2:wp.cell? ⟨b,2,none⟩=some (.int .i64 (kk:Int)):=HD.out.c 2 _ rfl
  have f2:=HD.out.fr 2
  have DK:=b6 (HD.out.setk kn)
  have TK:=b6 (b7.trans (S:=fun g=>g=b) HT.out (d9 wp b 2 (.int .i64 (kn:Int))) iE)
  have AK:=b6 (((d9 wp b 2 (.int .i64 (kn:Int))).block q0 (lt_of_block HA.out) (fun e=>by have:=HQ.out;omega)).trans HA.out)
  have BK:=b6 (((d9 wp b 2 (.int .i64 (kn:Int))).block q1 (lt_of_block HB.out) (fun e=>by have:=HQ.out;omega)).trans HB.out)
  go_upto_region 6 with fail
  clear c2 f2 hwk HD HT HA HB
  generalize wp.setCell ⟨b,2,none⟩ (.int .i64 (kn:Int))=w2 at*
  go_wp2_with fail
  go_loopg [11,12] 4 (fun gk v11 v12 wq=>∃i:Nat,i+gk=4/\v11=.int .i64 (Ha c i)/\v12=.int .i64 (i:Nat)/\wq=w2)
  case atStart=>exact⟨0,rfl,rfl,rfl,rfl⟩
  case round=>
   obtain⟨i,hgi,rfl,rfl,rfl⟩:=hrel
   rcases(show i=0∨i=1∨i=2∨i=3∨i=4 by omega)with rfl|rfl|rfl|rfl|rfl
   ·have hx:(⟨#[105,109,115,85]⟩:ByteArray)[0].toNat=105:=rfl
    by_cases hq:c=105
    ·subst hq
     go_wp2
     go_roundg (gk-1)
     case measure=>omega
     case rel=>exact⟨1,by omega,by rfl,by rfl,rfl⟩
    ·have hqb:(c==105)=false:=beq_eq_false_iff_ne.2 hq
     have E:=b6 (show Ha c 1=Ha c 0 by simp only[Ha];rw[if_neg hq])
     clear hq
     go_wp2
     go_roundg (gk-1)
     case measure=>omega
     case rel=>exact⟨1,by omega,by rw[E.out],by rfl,rfl⟩
   ·have hx:(⟨#[105,109,115,85]⟩:ByteArray)[1].toNat=109:=rfl
    by_cases hq:c=109
    ·subst hq
     go_wp2
     go_roundg (gk-1)
     case measure=>omega
     case rel=>exact⟨2,by omega,by rfl,by rfl,rfl⟩
    ·have hqb:(c==109)=false:=beq_eq_false_iff_ne.2 hq
     have E:=b6 (show Ha c 2=Ha c 1 by simp only[Ha];rw[if_neg hq])
     clear hq
     go_wp2
     go_roundg (gk-1)
     case measure=>omega
     case rel=>exact⟨2,by omega,by rw[E.out],by rfl,rfl⟩
   ·have hx:(⟨#[105,109,115,85]⟩:ByteArray)[2].toNat=115:=rfl
    by_cases hq:c=115
    ·subst hq
     go_wp2
     go_roundg (gk-1)
     case measure=>omega
     case rel=>exact⟨3,by omega,by rfl,by rfl,rfl⟩
    ·have hqb:(c==115)=false:=beq_eq_false_iff_ne.2 hq
     have E:=b6 (show Ha c 3=Ha c 2 by simp only[Ha];rw[if_neg hq])
     clear hq
     go_wp2
     go_roundg (gk-1)
     case measure=>omega
     case rel=>exact⟨3,by omega,by rw[E.out],by rfl,rfl⟩
   ·have hx:(⟨#[105,109,115,85]⟩:ByteArray)[3].toNat=85:=rfl
    by_cases hq:c=85
    ·subst hq
     go_wp2
     go_roundg (gk-1)
     case measure=>omega
     case rel=>exact⟨4,by omega,by rfl,by rfl,rfl⟩
    ·have hqb:(c==85)=false:=beq_eq_false_iff_ne.2 hq
     have E:=b6 (show Ha c 4=Ha c 3 by simp only[Ha];rw[if_neg hq])
     clear hq
     go_wp2
     go_roundg (gk-1)
     case measure=>omega
     case rel=>exact⟨4,by omega,by rw[E.out],by rfl,rfl⟩
   ·clear hgi
    obtain⟨aI,aM,aS,aU⟩:=A
    obtain⟨bI,bM,bS,bU⟩:=B
    obtain⟨SM,hSM⟩:∃SM,SM=(Fl.some ⟨aI,aM,aS,aU⟩||Fl.some ⟨bI,bM,bS,bU⟩):=⟨_,rfl⟩
    rw[<-hSM]
    have HSM:=b6 hSM
    clear hSM
    by_cases n1:c=105
    ·have hq:=n1
     clear n1
     have hat:Ha c 4=0:=by rw[hq];rfl
     rw[hat]
     have HC2:=b6 (HC.out.symm.trans hq)
     subst hq
     clear hat
     cases mi with
     |false=>
      obtain hBz:=HBZ.out rfl
      cases hBz
      have a0:wr.cell? ⟨q0,0,none⟩=some (.bool aI):=b9 AK.out 0 _ rfl
      cases aI with
      |false=>
       have fz:=V5 AK.out 0
       have TS:=d9 wr q0 0 (.bool true)
       have NS:=b6 (i8 AK.out 0 (.bool true))
       have OS:=b6 ((TS.block q1 (lt_of_block BK.out) (fun e=>by have:=HQ.out;omega)).trans BK.out)
       have DS2:=b6 (Bu DK.out TS (by have:=HQ.out;omega))
       have TT:=b6 (V1 TK.out TS (by have:=HQ.out;omega))
       have HPP:=b6 (show PO=AG X.R F ⟨true,aM,aS,aU⟩ kn by
        rw[HPO.out,HKN.out]
        exact CM (by rw[HC2.out];rfl))
       go_upto_region 14 with fail
       generalize wr.setCell ⟨q0,0,none⟩ (.bool true)=w3 at*
       go_wp2
       go_roundg (GG-1)
       case measure=>have:=HKK.out;omega
       case rel=>exact⟨kn,⟨true,aM,aS,aU⟩,x7,false,by have:=HKN.out;omega,rfl,by simp[Fl.some],b6 (HLT2.out (by decide)),HPP,b6 (fun e=>by rfl),DS2,NS,OS,TT⟩
      |true=>
       have HPP:=b6 (show PO=none by
        rw[HPO.out]
        refine(AH (by rw[HC2.out];rfl) (by rw[HC2.out];decide)).trans ?_
        unfold AI
        rw[if_neg (fun e=>absurd (HC2.out.symm.trans e.1) (by decide)),if_neg (fun e=>absurd (HC2.out.symm.trans e.1) (by decide))])
       go_wp2_with fail
       refine(j7 b X kn F op vN vn 20 k0 wr DK.out HJ.out).mono ?_
       rintro e wf ⟨rfl,df,tf⟩
       have DF:=b6 df
       have TF:=b6 (TK.out.trans tf iE)
       clear df tf
       go_wp2
       go_ret
       rw[HPP.out]
       exact⟨rfl,DF.out,TF.out⟩
     |true=>
      have b0:wr.cell? ⟨q1,0,none⟩=some (.bool bI):=b9 BK.out 0 _ rfl
      cases bI with
      |false=>
       have fz:=V5 BK.out 0
       have TS:=d9 wr q1 0 (.bool true)
       have NS:=b6 (i8 BK.out 0 (.bool true))
       have OS:=b6 ((TS.block q0 (lt_of_block AK.out) (fun e=>by have:=HQ.out;omega)).trans AK.out)
       have DS2:=b6 (Bu DK.out TS (by have:=HQ.out;omega))
       have TT:=b6 (V1 TK.out TS (by have:=HQ.out;omega))
       have HPP:=b6 (show PO=Ck X.R F ⟨aI,aM,aS,aU⟩ ⟨true,bM,bS,bU⟩ kn by
        rw[HPO.out,HKN.out]
        exact CN (by rw[HC2.out];rfl))
       go_upto_region 17 with fail
       generalize wr.setCell ⟨q1,0,none⟩ (.bool true)=w3 at*
       go_wp2
       go_roundg (GG-1)
       case measure=>have:=HKK.out;omega
       case rel=>exact⟨kn,⟨aI,aM,aS,aU⟩,⟨true,bM,bS,bU⟩,true,by have:=HKN.out;omega,rfl,by simp[Fl.some],b6 (HLT2.out (by decide)),HPP,b6 (fun e=>by cases e),DS2,OS,NS,TT⟩
      |true=>
       have HPP:=b6 (show PO=none by
        rw[HPO.out]
        refine(AJ (by rw[HC2.out];rfl)).trans ?_
        unfold AI
        rw[if_neg (fun e=>absurd (HC2.out.symm.trans e.1) (by decide)),if_neg (fun e=>absurd (HC2.out.symm.trans e.1) (by decide))])
       go_wp2_with fail
       refine(j7 b X kn F op vN vn 20 k0 wr DK.out HJ.out).mono ?_
       rintro e wf ⟨rfl,df,tf⟩
       have DF:=b6 df
       have TF:=b6 (TK.out.trans tf iE)
       clear df tf
       go_wp2
       go_ret
       rw[HPP.out]
       exact⟨rfl,DF.out,TF.out⟩
    by_cases n2:c=109
    ·have hq:=n2
     clear n2
     have hat:Ha c 4=1:=by rw[hq];rfl
     rw[hat]
     have HC2:=b6 (HC.out.symm.trans hq)
     subst hq
     clear hat
     cases mi with
     |false=>
      obtain hBz:=HBZ.out rfl
      cases hBz
      have a1:wr.cell? ⟨q0,1,none⟩=some (.bool aM):=b9 AK.out 1 _ rfl
      cases aM with
      |false=>
       have fz:=V5 AK.out 1
       have TS:=d9 wr q0 1 (.bool true)
       have NS:=b6 (i8 AK.out 1 (.bool true))
       have OS:=b6 ((TS.block q1 (lt_of_block BK.out) (fun e=>by have:=HQ.out;omega)).trans BK.out)
       have DS2:=b6 (Bu DK.out TS (by have:=HQ.out;omega))
       have TT:=b6 (V1 TK.out TS (by have:=HQ.out;omega))
       have HPP:=b6 (show PO=AG X.R F ⟨aI,true,aS,aU⟩ kn by
        rw[HPO.out,HKN.out]
        exact CM (by rw[HC2.out];rfl))
       go_upto_region 14 with fail
       generalize wr.setCell ⟨q0,1,none⟩ (.bool true)=w3 at*
       go_wp2
       go_roundg (GG-1)
       case measure=>have:=HKK.out;omega
       case rel=>exact⟨kn,⟨aI,true,aS,aU⟩,x7,false,by have:=HKN.out;omega,rfl,by simp[Fl.some],b6 (HLT2.out (by decide)),HPP,b6 (fun e=>by rfl),DS2,NS,OS,TT⟩
      |true=>
       have HPP:=b6 (show PO=none by
        rw[HPO.out]
        refine(AH (by rw[HC2.out];rfl) (by rw[HC2.out];decide)).trans ?_
        unfold AI
        rw[if_neg (fun e=>absurd (HC2.out.symm.trans e.1) (by decide)),if_neg (fun e=>absurd (HC2.out.symm.trans e.1) (by decide))])
       go_wp2_with fail
       refine(j7 b X kn F op vN vn 20 k0 wr DK.out HJ.out).mono ?_
       rintro e wf ⟨rfl,df,tf⟩
       have DF:=b6 df
       have TF:=b6 (TK.out.trans tf iE)
       clear df tf
       go_wp2
       go_ret
       rw[HPP.out]
       exact⟨rfl,DF.out,TF.out⟩
     |true=>
      have b1:wr.cell? ⟨q1,1,none⟩=some (.bool bM):=b9 BK.out 1 _ rfl
      cases bM with
      |false=>
       have fz:=V5 BK.out 1
       have TS:=d9 wr q1 1 (.bool true)
       have NS:=b6 (i8 BK.out 1 (.bool true))
       have OS:=b6 ((TS.block q0 (lt_of_block AK.out) (fun e=>by have:=HQ.out;omega)).trans AK.out)
       have DS2:=b6 (Bu DK.out TS (by have:=HQ.out;omega))
       have TT:=b6 (V1 TK.out TS (by have:=HQ.out;omega))
       have HPP:=b6 (show PO=Ck X.R F ⟨aI,aM,aS,aU⟩ ⟨bI,true,bS,bU⟩ kn by
        rw[HPO.out,HKN.out]
        exact CN (by rw[HC2.out];rfl))
       go_upto_region 17 with fail
       generalize wr.setCell ⟨q1,1,none⟩ (.bool true)=w3 at*
       go_wp2
       go_roundg (GG-1)
       case measure=>have:=HKK.out;omega
       case rel=>exact⟨kn,⟨aI,aM,aS,aU⟩,⟨bI,true,bS,bU⟩,true,by have:=HKN.out;omega,rfl,by simp[Fl.some],b6 (HLT2.out (by decide)),HPP,b6 (fun e=>by cases e),DS2,OS,NS,TT⟩
      |true=>
       have HPP:=b6 (show PO=none by
        rw[HPO.out]
        refine(AJ (by rw[HC2.out];rfl)).trans ?_
        unfold AI
        rw[if_neg (fun e=>absurd (HC2.out.symm.trans e.1) (by decide)),if_neg (fun e=>absurd (HC2.out.symm.trans e.1) (by decide))])
       go_wp2_with fail
       refine(j7 b X kn F op vN vn 20 k0 wr DK.out HJ.out).mono ?_
       rintro e wf ⟨rfl,df,tf⟩
       have DF:=b6 df
       have TF:=b6 (TK.out.trans tf iE)
       clear df tf
       go_wp2
       go_ret
       rw[HPP.out]
       exact⟨rfl,DF.out,TF.out⟩
    by_cases n3:c=115
    ·have hq:=n3
     clear n3
     have hat:Ha c 4=2:=by rw[hq];rfl
     rw[hat]
     have HC2:=b6 (HC.out.symm.trans hq)
     subst hq
     clear hat
     cases mi with
     |false=>
      obtain hBz:=HBZ.out rfl
      cases hBz
      have a2:wr.cell? ⟨q0,2,none⟩=some (.bool aS):=b9 AK.out 2 _ rfl
      cases aS with
      |false=>
       have fz:=V5 AK.out 2
       have TS:=d9 wr q0 2 (.bool true)
       have NS:=b6 (i8 AK.out 2 (.bool true))
       have OS:=b6 ((TS.block q1 (lt_of_block BK.out) (fun e=>by have:=HQ.out;omega)).trans BK.out)
       have DS2:=b6 (Bu DK.out TS (by have:=HQ.out;omega))
       have TT:=b6 (V1 TK.out TS (by have:=HQ.out;omega))
       have HPP:=b6 (show PO=AG X.R F ⟨aI,aM,true,aU⟩ kn by
        rw[HPO.out,HKN.out]
        exact CM (by rw[HC2.out];rfl))
       go_upto_region 14 with fail
       generalize wr.setCell ⟨q0,2,none⟩ (.bool true)=w3 at*
       go_wp2
       go_roundg (GG-1)
       case measure=>have:=HKK.out;omega
       case rel=>exact⟨kn,⟨aI,aM,true,aU⟩,x7,false,by have:=HKN.out;omega,rfl,by simp[Fl.some],b6 (HLT2.out (by decide)),HPP,b6 (fun e=>by rfl),DS2,NS,OS,TT⟩
      |true=>
       have HPP:=b6 (show PO=none by
        rw[HPO.out]
        refine(AH (by rw[HC2.out];rfl) (by rw[HC2.out];decide)).trans ?_
        unfold AI
        rw[if_neg (fun e=>absurd (HC2.out.symm.trans e.1) (by decide)),if_neg (fun e=>absurd (HC2.out.symm.trans e.1) (by decide))])
       go_wp2_with fail
       refine(j7 b X kn F op vN vn 20 k0 wr DK.out HJ.out).mono ?_
       rintro e wf ⟨rfl,df,tf⟩
       have DF:=b6 df
       have TF:=b6 (TK.out.trans tf iE)
       clear df tf
       go_wp2
       go_ret
       rw[HPP.out]
       exact⟨rfl,DF.out,TF.out⟩
     |true=>
      have b2:wr.cell? ⟨q1,2,none⟩=some (.bool bS):=b9 BK.out 2 _ rfl
      cases bS with
      |false=>
       have fz:=V5 BK.out 2
       have TS:=d9 wr q1 2 (.bool true)
       have NS:=b6 (i8 BK.out 2 (.bool true))
       have OS:=b6 ((TS.block q0 (lt_of_block AK.out) (fun e=>by have:=HQ.out;omega)).trans AK.out)
       have DS2:=b6 (Bu DK.out TS (by have:=HQ.out;omega))
       have TT:=b6 (V1 TK.out TS (by have:=HQ.out;omega))
       have HPP:=b6 (show PO=Ck X.R F ⟨aI,aM,aS,aU⟩ ⟨bI,bM,true,bU⟩ kn by
        rw[HPO.out,HKN.out]
        exact CN (by rw[HC2.out];rfl))
       go_upto_region 17 with fail
       generalize wr.setCell ⟨q1,2,none⟩ (.bool true)=w3 at*
       go_wp2
       go_roundg (GG-1)
       case measure=>have:=HKK.out;omega
       case rel=>exact⟨kn,⟨aI,aM,aS,aU⟩,⟨bI,bM,true,bU⟩,true,by have:=HKN.out;omega,rfl,by simp[Fl.some],b6 (HLT2.out (by decide)),HPP,b6 (fun e=>by cases e),DS2,OS,NS,TT⟩
      |true=>
       have HPP:=b6 (show PO=none by
        rw[HPO.out]
        refine(AJ (by rw[HC2.out];rfl)).trans ?_
        unfold AI
        rw[if_neg (fun e=>absurd (HC2.out.symm.trans e.1) (by decide)),if_neg (fun e=>absurd (HC2.out.symm.trans e.1) (by decide))])
       go_wp2_with fail
       refine(j7 b X kn F op vN vn 20 k0 wr DK.out HJ.out).mono ?_
       rintro e wf ⟨rfl,df,tf⟩
       have DF:=b6 df
       have TF:=b6 (TK.out.trans tf iE)
       clear df tf
       go_wp2
       go_ret
       rw[HPP.out]
       exact⟨rfl,DF.out,TF.out⟩
    by_cases n4:c=85
    ·have hq:=n4
     clear n4
     have hat:Ha c 4=3:=by rw[hq];rfl
     rw[hat]
     have HC2:=b6 (HC.out.symm.trans hq)
     subst hq
     clear hat
     cases mi with
     |false=>
      obtain hBz:=HBZ.out rfl
      cases hBz
      have a3:wr.cell? ⟨q0,3,none⟩=some (.bool aU):=b9 AK.out 3 _ rfl
      cases aU with
      |false=>
       have fz:=V5 AK.out 3
       have TS:=d9 wr q0 3 (.bool true)
       have NS:=b6 (i8 AK.out 3 (.bool true))
       have OS:=b6 ((TS.block q1 (lt_of_block BK.out) (fun e=>by have:=HQ.out;omega)).trans BK.out)
       have DS2:=b6 (Bu DK.out TS (by have:=HQ.out;omega))
       have TT:=b6 (V1 TK.out TS (by have:=HQ.out;omega))
       have HPP:=b6 (show PO=AG X.R F ⟨aI,aM,aS,true⟩ kn by
        rw[HPO.out,HKN.out]
        exact CM (by rw[HC2.out];rfl))
       go_upto_region 14 with fail
       generalize wr.setCell ⟨q0,3,none⟩ (.bool true)=w3 at*
       go_wp2
       go_roundg (GG-1)
       case measure=>have:=HKK.out;omega
       case rel=>exact⟨kn,⟨aI,aM,aS,true⟩,x7,false,by have:=HKN.out;omega,rfl,by simp[Fl.some],b6 (HLT2.out (by decide)),HPP,b6 (fun e=>by rfl),DS2,NS,OS,TT⟩
      |true=>
       have HPP:=b6 (show PO=none by
        rw[HPO.out]
        refine(AH (by rw[HC2.out];rfl) (by rw[HC2.out];decide)).trans ?_
        unfold AI
        rw[if_neg (fun e=>absurd (HC2.out.symm.trans e.1) (by decide)),if_neg (fun e=>absurd (HC2.out.symm.trans e.1) (by decide))])
       go_wp2_with fail
       refine(j7 b X kn F op vN vn 20 k0 wr DK.out HJ.out).mono ?_
       rintro e wf ⟨rfl,df,tf⟩
       have DF:=b6 df
       have TF:=b6 (TK.out.trans tf iE)
       clear df tf
       go_wp2
       go_ret
       rw[HPP.out]
       exact⟨rfl,DF.out,TF.out⟩
     |true=>
      have b3:wr.cell? ⟨q1,3,none⟩=some (.bool bU):=b9 BK.out 3 _ rfl
      cases bU with
      |false=>
       have fz:=V5 BK.out 3
       have TS:=d9 wr q1 3 (.bool true)
       have NS:=b6 (i8 BK.out 3 (.bool true))
       have OS:=b6 ((TS.block q0 (lt_of_block AK.out) (fun e=>by have:=HQ.out;omega)).trans AK.out)
       have DS2:=b6 (Bu DK.out TS (by have:=HQ.out;omega))
       have TT:=b6 (V1 TK.out TS (by have:=HQ.out;omega))
       have HPP:=b6 (show PO=Ck X.R F ⟨aI,aM,aS,aU⟩ ⟨bI,bM,bS,true⟩ kn by
        rw[HPO.out,HKN.out]
        exact CN (by rw[HC2.out];rfl))
       go_upto_region 17 with fail
       generalize wr.setCell ⟨q1,3,none⟩ (.bool true)=w3 at*
       go_wp2
       go_roundg (GG-1)
       case measure=>have:=HKK.out;omega
       case rel=>exact⟨kn,⟨aI,aM,aS,aU⟩,⟨bI,bM,bS,true⟩,true,by have:=HKN.out;omega,rfl,by simp[Fl.some],b6 (HLT2.out (by decide)),HPP,b6 (fun e=>by cases e),DS2,OS,NS,TT⟩
      |true=>
       have HPP:=b6 (show PO=none by
        rw[HPO.out]
        refine(AJ (by rw[HC2.out];rfl)).trans ?_
        unfold AI
        rw[if_neg (fun e=>absurd (HC2.out.symm.trans e.1) (by decide)),if_neg (fun e=>absurd (HC2.out.symm.trans e.1) (by decide))])
       go_wp2_with fail
       refine(j7 b X kn F op vN vn 20 k0 wr DK.out HJ.out).mono ?_
       rintro e wf ⟨rfl,df,tf⟩
       have DF:=b6 df
       have TF:=b6 (TK.out.trans tf iE)
       clear df tf
       go_wp2
       go_ret
       rw[HPP.out]
       exact⟨rfl,DF.out,TF.out⟩
    have hat:Ha c 4= -1:=by simp only[Ha];rw[if_neg n4,if_neg n3,if_neg n2,if_neg n1]
    rw[hat]
    clear hat
    have HNO:=b6 (show ∀g:Fl,g.put (g7 X.R kk)=none from fun g=>by rw[<-HC.out];exact Fk n1 n2 n3 n4)
    clear n1 n2 n3 n4
    by_cases h45:c=45
    ·cases mi with
     |false=>
      obtain hBz:=HBZ.out rfl
      cases hBz
      have HPP:=b6 (show PO=Ck X.R F ⟨aI,aM,aS,aU⟩ x7 kn by
       rw[HPO.out,HKN.out]
       exact LG (HC.out.symm.trans h45))
      subst h45
      go_wp2
      go_roundg (GG-1)
      case measure=>have:=HKK.out;omega
      case rel=>exact⟨kn,⟨aI,aM,aS,aU⟩,x7,true,by have:=HKN.out;omega,rfl,by rw[HSM.out];rfl,b6 (HLT2.out (by decide)),HPP,b6 (fun e=>by cases e),DK,AK,BK,TK⟩
     |true=>
      have HPP:=b6 (show PO=none by
       rw[HPO.out]
       refine(AJ (HNO.out _)).trans ?_
       unfold AI
       rw[if_neg (fun e=>absurd ((h45.symm.trans HC.out).trans e.1) (by decide)),if_neg (fun e=>absurd ((h45.symm.trans HC.out).trans e.1) (by decide))])
      subst h45
      go_wp2_with fail
      refine(j7 b X kn F op vN vn 20 k0 wr DK.out HJ.out).mono ?_
      rintro e wf ⟨rfl,df,tf⟩
      have DF:=b6 df
      have TF:=b6 (TK.out.trans tf iE)
      clear df tf
      go_wp2
      go_ret
      rw[HPP.out]
      exact⟨rfl,DF.out,TF.out⟩
    ·have h45b:(c==45)=false:=beq_eq_false_iff_ne.2 h45
     have HPE:=b6 (show PO=AI X.R F mi ⟨aI,aM,aS,aU⟩ ⟨bI,bM,bS,bU⟩ kk by
      rw[HPO.out]
      cases mi with
      |true=>exact AJ (HNO.out _)
      |false=>
       have e:=HBZ.out rfl
       rw[e]
       exact AH (HNO.out _) (by rw[<-HC.out];exact h45))
     clear h45 HPO HNO HBZ
     unfold AI at HPE
     rw[<-HC.out,<-HSM.out]at HPE
     by_cases hcl:(c=58/\(SM=true∨mi=false))∨(c=41/\SM=true)
     ·obtain⟨V,hV⟩:∃V,V=decide (c=58):=⟨_,rfl⟩
      have HV:=b6 hV
      have HPP:=b6 (show PO=some (V,F.turn ⟨aI,aM,aS,aU⟩ ⟨bI,bM,bS,bU⟩,kn)by
       rw[HPE.out,HKN.out,hV]
       rcases hcl with g|g
       ·rw[if_pos g,decide_eq_true g.1]
       ·rw[if_neg (fun e=>by have:=e.1.symm.trans g.1;omega),if_pos g,decide_eq_false (by rw[g.1];decide)])
      have HCL:=b6 hcl
      clear hV HPE
      go_upto_region 20 with fail
      go_cut [82] (fun v wd=>v=.bool true/\wd=wr)
      case first=>
       rcases hcl with⟨rfl,g⟩|⟨rfl,g⟩
       ·cases SM with
        |true=>
         go_wp2
         go_meet
         case rel=>exact⟨rfl,rfl⟩
        |false=>
         obtain rfl:mi=false:=by rcases g with g|g;cases g;exact g
         go_wp2
         go_meet
         case rel=>exact⟨rfl,rfl⟩
       ·subst g
        go_wp2
        go_meet
        case rel=>exact⟨rfl,rfl⟩
      obtain⟨rfl,rfl⟩:=hcut
      clear hcl h45b
      go_wp2_with fail
      go_loopg [13] 4 (fun gk v13 wq=>∃i:Nat,i+gk=4/\v13=.int .i64 (i:Nat)/\Hid (DS wq b X kn (x8 F ⟨aI,aM,aS,aU⟩ ⟨bI,bM,bS,bU⟩ i) op vN vn 0 0)/\Hid (wq.heap[q0]? =some (.cells (Od ⟨aI,aM,aS,aU⟩) 22 (0,0)))/\Hid (wq.heap[q1]? =some (.cells (Od ⟨bI,bM,bS,bU⟩) 22 (0,0)))/\Hid (b7 (fun g=>g=b) w wq))
      case atStart=>exact⟨0,rfl,rfl,DK,AK,BK,TK⟩
      case round=>
       clear DK AK BK TK
       obtain⟨i,hgi,rfl,DK,AK,BK,TK⟩:=hrel
       rcases(show i=0∨i=1∨i=2∨i=3∨i=4 by omega)with rfl|rfl|rfl|rfl|rfl
       ·have s0:wr.cell? ⟨q0,0,none⟩=some (.bool aI):=b9 AK.out 0 _ rfl
        have s1:wr.cell? ⟨q1,0,none⟩=some (.bool bI):=b9 BK.out 0 _ rfl
        have x0:wr.cell? ⟨b,3,none⟩=some (.bool F.i):=DK.out.c 3 _ rfl
        have f0:=DK.out.fr 3
        cases hAi:aI<;>cases hBi:bI
        ·simp only[hAi]at s0
         simp only[hBi]at s1
         have DN:=b6 (show DS wr b X kn (x8 F ⟨aI,aM,aS,aU⟩ ⟨bI,bM,bS,bU⟩ 1) op vN vn 0 0 by
          have h:=DK.out
          have e:x8 F ⟨aI,aM,aS,aU⟩ ⟨bI,bM,bS,bU⟩ 1=x8 F ⟨aI,aM,aS,aU⟩ ⟨bI,bM,bS,bU⟩ 0:=by simp[x8,hAi,hBi]
          rw[e]
          exact h)
         go_wp2
         go_roundg (gk-1)
         case measure=>omega
         case rel=>exact⟨1,by omega,by rfl,DN,AK,BK,TK⟩
        ·simp only[hAi]at s0
         simp only[hBi]at s1
         have t0:=d9 (wr) b 3 (.bool false)
         have TW:=b6 (show b7 (fun g=>g=b) wr ((wr).setCell ⟨b,3,none⟩ (.bool false))from t0)
         have DN:=b6 (show DS ((wr).setCell ⟨b,3,none⟩ (.bool false)) b X kn (x8 F ⟨aI,aM,aS,aU⟩ ⟨bI,bM,bS,bU⟩ 1) op vN vn 0 0 by
          have e:x8 F ⟨aI,aM,aS,aU⟩ ⟨bI,bM,bS,bU⟩ 1= {x8 F ⟨aI,aM,aS,aU⟩ ⟨bI,bM,bS,bU⟩ 0 with i:=false}:=by simp[x8,hAi,hBi]
          rw[e]
          exact DK.out.turn (i8 DK.out.cells 3 (.bool false)) TW.out (fun g e=>by omega))
         have AN:=b6 ((TW.out.block q0 (lt_of_block AK.out) (fun e=>by have:=HQ.out;omega)).trans AK.out)
         have BN:=b6 ((TW.out.block q1 (lt_of_block BK.out) (fun e=>by have:=HQ.out;omega)).trans BK.out)
         have TN:=b6 (TK.out.trans TW.out iE)
         clear t0
         go_wp2
         go_roundg (gk-1)
         case measure=>omega
         case rel=>exact⟨1,by omega,by rfl,DN,AN,BN,TN⟩
        ·simp only[hAi]at s0
         simp only[hBi]at s1
         have t0:=d9 (wr) b 3 (.bool true)
         have TW:=b6 (show b7 (fun g=>g=b) wr ((wr).setCell ⟨b,3,none⟩ (.bool true))from t0)
         have DN:=b6 (show DS ((wr).setCell ⟨b,3,none⟩ (.bool true)) b X kn (x8 F ⟨aI,aM,aS,aU⟩ ⟨bI,bM,bS,bU⟩ 1) op vN vn 0 0 by
          have e:x8 F ⟨aI,aM,aS,aU⟩ ⟨bI,bM,bS,bU⟩ 1= {x8 F ⟨aI,aM,aS,aU⟩ ⟨bI,bM,bS,bU⟩ 0 with i:=true}:=by simp[x8,hAi,hBi]
          rw[e]
          exact DK.out.turn (i8 DK.out.cells 3 (.bool true)) TW.out (fun g e=>by omega))
         have AN:=b6 ((TW.out.block q0 (lt_of_block AK.out) (fun e=>by have:=HQ.out;omega)).trans AK.out)
         have BN:=b6 ((TW.out.block q1 (lt_of_block BK.out) (fun e=>by have:=HQ.out;omega)).trans BK.out)
         have TN:=b6 (TK.out.trans TW.out iE)
         clear t0
         go_wp2
         go_roundg (gk-1)
         case measure=>omega
         case rel=>exact⟨1,by omega,by rfl,DN,AN,BN,TN⟩
        ·simp only[hAi]at s0
         simp only[hBi]at s1
         have t0:=d9 (wr) b 3 (.bool true)
         have t1:=d9 ((wr).setCell ⟨b,3,none⟩ (.bool true)) b 3 (.bool false)
         have TW:=b6 (show b7 (fun g=>g=b) wr (((wr).setCell ⟨b,3,none⟩ (.bool true)).setCell ⟨b,3,none⟩ (.bool false))from(b7.trans (S:=fun g=>g=b) t0 t1 iE))
         have DN:=b6 (show DS (((wr).setCell ⟨b,3,none⟩ (.bool true)).setCell ⟨b,3,none⟩ (.bool false)) b X kn (x8 F ⟨aI,aM,aS,aU⟩ ⟨bI,bM,bS,bU⟩ 1) op vN vn 0 0 by
          have e:x8 F ⟨aI,aM,aS,aU⟩ ⟨bI,bM,bS,bU⟩ 1= {x8 F ⟨aI,aM,aS,aU⟩ ⟨bI,bM,bS,bU⟩ 0 with i:=false}:=by simp[x8,hAi,hBi]
          rw[e]
          exact DK.out.turn (i8 (i8 DK.out.cells 3 (.bool true)) 3 (.bool false)) TW.out (fun g e=>by omega))
         have AN:=b6 ((TW.out.block q0 (lt_of_block AK.out) (fun e=>by have:=HQ.out;omega)).trans AK.out)
         have BN:=b6 ((TW.out.block q1 (lt_of_block BK.out) (fun e=>by have:=HQ.out;omega)).trans BK.out)
         have TN:=b6 (TK.out.trans TW.out iE)
         clear t0 t1
         go_wp2
         go_roundg (gk-1)
         case measure=>omega
         case rel=>exact⟨1,by omega,by rfl,DN,AN,BN,TN⟩
       ·have s0:wr.cell? ⟨q0,1,none⟩=some (.bool aM):=b9 AK.out 1 _ rfl
        have s1:wr.cell? ⟨q1,1,none⟩=some (.bool bM):=b9 BK.out 1 _ rfl
        have x0:wr.cell? ⟨b,4,none⟩=some (.bool F.m):=DK.out.c 4 _ rfl
        have f0:=DK.out.fr 4
        cases hAm:aM<;>cases hBm:bM
        ·simp only[hAm]at s0
         simp only[hBm]at s1
         have DN:=b6 (show DS wr b X kn (x8 F ⟨aI,aM,aS,aU⟩ ⟨bI,bM,bS,bU⟩ 2) op vN vn 0 0 by
          have h:=DK.out
          have e:x8 F ⟨aI,aM,aS,aU⟩ ⟨bI,bM,bS,bU⟩ 2=x8 F ⟨aI,aM,aS,aU⟩ ⟨bI,bM,bS,bU⟩ 1:=by simp[x8,hAm,hBm]
          rw[e]
          exact h)
         go_wp2
         go_roundg (gk-1)
         case measure=>omega
         case rel=>exact⟨2,by omega,by rfl,DN,AK,BK,TK⟩
        ·simp only[hAm]at s0
         simp only[hBm]at s1
         have t0:=d9 (wr) b 4 (.bool false)
         have TW:=b6 (show b7 (fun g=>g=b) wr ((wr).setCell ⟨b,4,none⟩ (.bool false))from t0)
         have DN:=b6 (show DS ((wr).setCell ⟨b,4,none⟩ (.bool false)) b X kn (x8 F ⟨aI,aM,aS,aU⟩ ⟨bI,bM,bS,bU⟩ 2) op vN vn 0 0 by
          have e:x8 F ⟨aI,aM,aS,aU⟩ ⟨bI,bM,bS,bU⟩ 2= {x8 F ⟨aI,aM,aS,aU⟩ ⟨bI,bM,bS,bU⟩ 1 with m:=false}:=by simp[x8,hAm,hBm]
          rw[e]
          exact DK.out.turn (i8 DK.out.cells 4 (.bool false)) TW.out (fun g e=>by omega))
         have AN:=b6 ((TW.out.block q0 (lt_of_block AK.out) (fun e=>by have:=HQ.out;omega)).trans AK.out)
         have BN:=b6 ((TW.out.block q1 (lt_of_block BK.out) (fun e=>by have:=HQ.out;omega)).trans BK.out)
         have TN:=b6 (TK.out.trans TW.out iE)
         clear t0
         go_wp2
         go_roundg (gk-1)
         case measure=>omega
         case rel=>exact⟨2,by omega,by rfl,DN,AN,BN,TN⟩
        ·simp only[hAm]at s0
         simp only[hBm]at s1
         have t0:=d9 (wr) b 4 (.bool true)
         have TW:=b6 (show b7 (fun g=>g=b) wr ((wr).setCell ⟨b,4,none⟩ (.bool true))from t0)
         have DN:=b6 (show DS ((wr).setCell ⟨b,4,none⟩ (.bool true)) b X kn (x8 F ⟨aI,aM,aS,aU⟩ ⟨bI,bM,bS,bU⟩ 2) op vN vn 0 0 by
          have e:x8 F ⟨aI,aM,aS,aU⟩ ⟨bI,bM,bS,bU⟩ 2= {x8 F ⟨aI,aM,aS,aU⟩ ⟨bI,bM,bS,bU⟩ 1 with m:=true}:=by simp[x8,hAm,hBm]
          rw[e]
          exact DK.out.turn (i8 DK.out.cells 4 (.bool true)) TW.out (fun g e=>by omega))
         have AN:=b6 ((TW.out.block q0 (lt_of_block AK.out) (fun e=>by have:=HQ.out;omega)).trans AK.out)
         have BN:=b6 ((TW.out.block q1 (lt_of_block BK.out) (fun e=>by have:=HQ.out;omega)).trans BK.out)
         have TN:=b6 (TK.out.trans TW.out iE)
         clear t0
         go_wp2
         go_roundg (gk-1)
         case measure=>omega
         case rel=>exact⟨2,by omega,by rfl,DN,AN,BN,TN⟩
        ·simp only[hAm]at s0
         simp only[hBm]at s1
         have t0:=d9 (wr) b 4 (.bool true)
         have t1:=d9 ((wr).setCell ⟨b,4,none⟩ (.bool true)) b 4 (.bool false)
         have TW:=b6 (show b7 (fun g=>g=b) wr (((wr).setCell ⟨b,4,none⟩ (.bool true)).setCell ⟨b,4,none⟩ (.bool false))from(b7.trans (S:=fun g=>g=b) t0 t1 iE))
         have DN:=b6 (show DS (((wr).setCell ⟨b,4,none⟩ (.bool true)).setCell ⟨b,4,none⟩ (.bool false)) b X kn (x8 F ⟨aI,aM,aS,aU⟩ ⟨bI,bM,bS,bU⟩ 2) op vN vn 0 0 by
          have e:x8 F ⟨aI,aM,aS,aU⟩ ⟨bI,bM,bS,bU⟩ 2= {x8 F ⟨aI,aM,aS,aU⟩ ⟨bI,bM,bS,bU⟩ 1 with m:=false}:=by simp[x8,hAm,hBm]
          rw[e]
          exact DK.out.turn (i8 (i8 DK.out.cells 4 (.bool true)) 4 (.bool false)) TW.out (fun g e=>by omega))
         have AN:=b6 ((TW.out.block q0 (lt_of_block AK.out) (fun e=>by have:=HQ.out;omega)).trans AK.out)
         have BN:=b6 ((TW.out.block q1 (lt_of_block BK.out) (fun e=>by have:=HQ.out;omega)).trans BK.out)
         have TN:=b6 (TK.out.trans TW.out iE)
         clear t0 t1
         go_wp2
         go_roundg (gk-1)
         case measure=>omega
         case rel=>exact⟨2,by omega,by rfl,DN,AN,BN,TN⟩
       ·have s0:wr.cell? ⟨q0,2,none⟩=some (.bool aS):=b9 AK.out 2 _ rfl
        have s1:wr.cell? ⟨q1,2,none⟩=some (.bool bS):=b9 BK.out 2 _ rfl
        have x0:wr.cell? ⟨b,5,none⟩=some (.bool F.s):=DK.out.c 5 _ rfl
        have f0:=DK.out.fr 5
        cases hAs:aS<;>cases hBs:bS
        ·simp only[hAs]at s0
         simp only[hBs]at s1
         have DN:=b6 (show DS wr b X kn (x8 F ⟨aI,aM,aS,aU⟩ ⟨bI,bM,bS,bU⟩ 3) op vN vn 0 0 by
          have h:=DK.out
          have e:x8 F ⟨aI,aM,aS,aU⟩ ⟨bI,bM,bS,bU⟩ 3=x8 F ⟨aI,aM,aS,aU⟩ ⟨bI,bM,bS,bU⟩ 2:=by simp[x8,hAs,hBs]
          rw[e]
          exact h)
         go_wp2
         go_roundg (gk-1)
         case measure=>omega
         case rel=>exact⟨3,by omega,by rfl,DN,AK,BK,TK⟩
        ·simp only[hAs]at s0
         simp only[hBs]at s1
         have t0:=d9 (wr) b 5 (.bool false)
         have TW:=b6 (show b7 (fun g=>g=b) wr ((wr).setCell ⟨b,5,none⟩ (.bool false))from t0)
         have DN:=b6 (show DS ((wr).setCell ⟨b,5,none⟩ (.bool false)) b X kn (x8 F ⟨aI,aM,aS,aU⟩ ⟨bI,bM,bS,bU⟩ 3) op vN vn 0 0 by
          have e:x8 F ⟨aI,aM,aS,aU⟩ ⟨bI,bM,bS,bU⟩ 3= {x8 F ⟨aI,aM,aS,aU⟩ ⟨bI,bM,bS,bU⟩ 2 with s:=false}:=by simp[x8,hAs,hBs]
          rw[e]
          exact DK.out.turn (i8 DK.out.cells 5 (.bool false)) TW.out (fun g e=>by omega))
         have AN:=b6 ((TW.out.block q0 (lt_of_block AK.out) (fun e=>by have:=HQ.out;omega)).trans AK.out)
         have BN:=b6 ((TW.out.block q1 (lt_of_block BK.out) (fun e=>by have:=HQ.out;omega)).trans BK.out)
         have TN:=b6 (TK.out.trans TW.out iE)
         clear t0
         go_wp2
         go_roundg (gk-1)
         case measure=>omega
         case rel=>exact⟨3,by omega,by rfl,DN,AN,BN,TN⟩
        ·simp only[hAs]at s0
         simp only[hBs]at s1
         have t0:=d9 (wr) b 5 (.bool true)
         have TW:=b6 (show b7 (fun g=>g=b) wr ((wr).setCell ⟨b,5,none⟩ (.bool true))from t0)
         have DN:=b6 (show DS ((wr).setCell ⟨b,5,none⟩ (.bool true)) b X kn (x8 F ⟨aI,aM,aS,aU⟩ ⟨bI,bM,bS,bU⟩ 3) op vN vn 0 0 by
          have e:x8 F ⟨aI,aM,aS,aU⟩ ⟨bI,bM,bS,bU⟩ 3= {x8 F ⟨aI,aM,aS,aU⟩ ⟨bI,bM,bS,bU⟩ 2 with s:=true}:=by simp[x8,hAs,hBs]
          rw[e]
          exact DK.out.turn (i8 DK.out.cells 5 (.bool true)) TW.out (fun g e=>by omega))
         have AN:=b6 ((TW.out.block q0 (lt_of_block AK.out) (fun e=>by have:=HQ.out;omega)).trans AK.out)
         have BN:=b6 ((TW.out.block q1 (lt_of_block BK.out) (fun e=>by have:=HQ.out;omega)).trans BK.out)
         have TN:=b6 (TK.out.trans TW.out iE)
         clear t0
         go_wp2
         go_roundg (gk-1)
         case measure=>omega
         case rel=>exact⟨3,by omega,by rfl,DN,AN,BN,TN⟩
        ·simp only[hAs]at s0
         simp only[hBs]at s1
         have t0:=d9 (wr) b 5 (.bool true)
         have t1:=d9 ((wr).setCell ⟨b,5,none⟩ (.bool true)) b 5 (.bool false)
         have TW:=b6 (show b7 (fun g=>g=b) wr (((wr).setCell ⟨b,5,none⟩ (.bool true)).setCell ⟨b,5,none⟩ (.bool false))from(b7.trans (S:=fun g=>g=b) t0 t1 iE))
         have DN:=b6 (show DS (((wr).setCell ⟨b,5,none⟩ (.bool true)).setCell ⟨b,5,none⟩ (.bool false)) b X kn (x8 F ⟨aI,aM,aS,aU⟩ ⟨bI,bM,bS,bU⟩ 3) op vN vn 0 0 by
          have e:x8 F ⟨aI,aM,aS,aU⟩ ⟨bI,bM,bS,bU⟩ 3= {x8 F ⟨aI,aM,aS,aU⟩ ⟨bI,bM,bS,bU⟩ 2 with s:=false}:=by simp[x8,hAs,hBs]
          rw[e]
          exact DK.out.turn (i8 (i8 DK.out.cells 5 (.bool true)) 5 (.bool false)) TW.out (fun g e=>by omega))
         have AN:=b6 ((TW.out.block q0 (lt_of_block AK.out) (fun e=>by have:=HQ.out;omega)).trans AK.out)
         have BN:=b6 ((TW.out.block q1 (lt_of_block BK.out) (fun e=>by have:=HQ.out;omega)).trans BK.out)
         have TN:=b6 (TK.out.trans TW.out iE)
         clear t0 t1
         go_wp2
         go_roundg (gk-1)
         case measure=>omega
         case rel=>exact⟨3,by omega,by rfl,DN,AN,BN,TN⟩
       ·have s0:wr.cell? ⟨q0,3,none⟩=some (.bool aU):=b9 AK.out 3 _ rfl
        have s1:wr.cell? ⟨q1,3,none⟩=some (.bool bU):=b9 BK.out 3 _ rfl
        have x0:wr.cell? ⟨b,6,none⟩=some (.bool F.u):=DK.out.c 6 _ rfl
        have f0:=DK.out.fr 6
        cases hAu:aU<;>cases hBu:bU
        ·simp only[hAu]at s0
         simp only[hBu]at s1
         have DN:=b6 (show DS wr b X kn (x8 F ⟨aI,aM,aS,aU⟩ ⟨bI,bM,bS,bU⟩ 4) op vN vn 0 0 by
          have h:=DK.out
          have e:x8 F ⟨aI,aM,aS,aU⟩ ⟨bI,bM,bS,bU⟩ 4=x8 F ⟨aI,aM,aS,aU⟩ ⟨bI,bM,bS,bU⟩ 3:=by simp[x8,Fl.turn,hAu,hBu]
          rw[e]
          exact h)
         go_wp2
         go_roundg (gk-1)
         case measure=>omega
         case rel=>exact⟨4,by omega,by rfl,DN,AK,BK,TK⟩
        ·simp only[hAu]at s0
         simp only[hBu]at s1
         have t0:=d9 (wr) b 6 (.bool false)
         have TW:=b6 (show b7 (fun g=>g=b) wr ((wr).setCell ⟨b,6,none⟩ (.bool false))from t0)
         have DN:=b6 (show DS ((wr).setCell ⟨b,6,none⟩ (.bool false)) b X kn (x8 F ⟨aI,aM,aS,aU⟩ ⟨bI,bM,bS,bU⟩ 4) op vN vn 0 0 by
          have e:x8 F ⟨aI,aM,aS,aU⟩ ⟨bI,bM,bS,bU⟩ 4= {x8 F ⟨aI,aM,aS,aU⟩ ⟨bI,bM,bS,bU⟩ 3 with u:=false}:=by simp[x8,Fl.turn,hAu,hBu]
          rw[e]
          exact DK.out.turn (i8 DK.out.cells 6 (.bool false)) TW.out (fun g e=>by omega))
         have AN:=b6 ((TW.out.block q0 (lt_of_block AK.out) (fun e=>by have:=HQ.out;omega)).trans AK.out)
         have BN:=b6 ((TW.out.block q1 (lt_of_block BK.out) (fun e=>by have:=HQ.out;omega)).trans BK.out)
         have TN:=b6 (TK.out.trans TW.out iE)
         clear t0
         go_wp2
         go_roundg (gk-1)
         case measure=>omega
         case rel=>exact⟨4,by omega,by rfl,DN,AN,BN,TN⟩
        ·simp only[hAu]at s0
         simp only[hBu]at s1
         have t0:=d9 (wr) b 6 (.bool true)
         have TW:=b6 (show b7 (fun g=>g=b) wr ((wr).setCell ⟨b,6,none⟩ (.bool true))from t0)
         have DN:=b6 (show DS ((wr).setCell ⟨b,6,none⟩ (.bool true)) b X kn (x8 F ⟨aI,aM,aS,aU⟩ ⟨bI,bM,bS,bU⟩ 4) op vN vn 0 0 by
          have e:x8 F ⟨aI,aM,aS,aU⟩ ⟨bI,bM,bS,bU⟩ 4= {x8 F ⟨aI,aM,aS,aU⟩ ⟨bI,bM,bS,bU⟩ 3 with u:=true}:=by simp[x8,Fl.turn,hAu,hBu]
          rw[e]
          exact DK.out.turn (i8 DK.out.cells 6 (.bool true)) TW.out (fun g e=>by omega))
         have AN:=b6 ((TW.out.block q0 (lt_of_block AK.out) (fun e=>by have:=HQ.out;omega)).trans AK.out)
         have BN:=b6 ((TW.out.block q1 (lt_of_block BK.out) (fun e=>by have:=HQ.out;omega)).trans BK.out)
         have TN:=b6 (TK.out.trans TW.out iE)
         clear t0
         go_wp2
         go_roundg (gk-1)
         case measure=>omega
         case rel=>exact⟨4,by omega,by rfl,DN,AN,BN,TN⟩
        ·simp only[hAu]at s0
         simp only[hBu]at s1
         have t0:=d9 (wr) b 6 (.bool true)
         have t1:=d9 ((wr).setCell ⟨b,6,none⟩ (.bool true)) b 6 (.bool false)
         have TW:=b6 (show b7 (fun g=>g=b) wr (((wr).setCell ⟨b,6,none⟩ (.bool true)).setCell ⟨b,6,none⟩ (.bool false))from(b7.trans (S:=fun g=>g=b) t0 t1 iE))
         have DN:=b6 (show DS (((wr).setCell ⟨b,6,none⟩ (.bool true)).setCell ⟨b,6,none⟩ (.bool false)) b X kn (x8 F ⟨aI,aM,aS,aU⟩ ⟨bI,bM,bS,bU⟩ 4) op vN vn 0 0 by
          have e:x8 F ⟨aI,aM,aS,aU⟩ ⟨bI,bM,bS,bU⟩ 4= {x8 F ⟨aI,aM,aS,aU⟩ ⟨bI,bM,bS,bU⟩ 3 with u:=false}:=by simp[x8,Fl.turn,hAu,hBu]
          rw[e]
          exact DK.out.turn (i8 (i8 DK.out.cells 6 (.bool true)) 6 (.bool false)) TW.out (fun g e=>by omega))
         have AN:=b6 ((TW.out.block q0 (lt_of_block AK.out) (fun e=>by have:=HQ.out;omega)).trans AK.out)
         have BN:=b6 ((TW.out.block q1 (lt_of_block BK.out) (fun e=>by have:=HQ.out;omega)).trans BK.out)
         have TN:=b6 (TK.out.trans TW.out iE)
         clear t0 t1
         go_wp2
         go_roundg (gk-1)
         case measure=>omega
         case rel=>exact⟨4,by omega,by rfl,DN,AN,BN,TN⟩
       ·have HVB:=b6 (show(c==58)=V by rw[HV.out];rfl)
        cases V with
        |true=>
         obtain rfl:c=58:=of_decide_eq_true HV.out.symm
         go_wp2
         go_ret
         rw[HPP.out]
         exact⟨rfl,DK.out,TK.out⟩
        |false=>
         have hcb:(c==58)=false:=HVB.out
         go_wp2
         go_ret
         rw[HPP.out]
         exact⟨rfl,DK.out,TK.out⟩
     ·have HPP:=b6 (show PO=none by
       rw[HPE.out,if_neg (fun e=>hcl (.inl e)),if_neg (fun e=>hcl (.inr e))])
      clear HPE
      by_cases h58:c=58
      ·subst h58
       cases SM with
       |true=>exact absurd (.inl ⟨rfl,.inl rfl⟩) hcl
       |false=>
        cases mi with
        |false=>exact absurd (.inl ⟨rfl,.inr rfl⟩) hcl
        |true=>
         clear hcl
         go_wp2_with fail
         refine(j7 b X kn F op vN vn 20 k0 wr DK.out HJ.out).mono ?_
         rintro e wf ⟨rfl,df,tf⟩
         have DF:=b6 df
         have TF:=b6 (TK.out.trans tf iE)
         clear df tf
         go_wp2
         go_ret
         rw[HPP.out]
         exact⟨rfl,DF.out,TF.out⟩
      ·have h58b:(c==58)=false:=beq_eq_false_iff_ne.2 h58
       clear h58
       by_cases h41:c=41
       ·subst h41
        cases SM with
        |true=>exact absurd (.inr ⟨rfl,rfl⟩) hcl
        |false=>
         clear hcl
         go_wp2_with fail
         refine(j7 b X kn F op vN vn 20 k0 wr DK.out HJ.out).mono ?_
         rintro e wf ⟨rfl,df,tf⟩
         have DF:=b6 df
         have TF:=b6 (TK.out.trans tf iE)
         clear df tf
         go_wp2
         go_ret
         rw[HPP.out]
         exact⟨rfl,DF.out,TF.out⟩
       ·have h41b:(c==41)=false:=beq_eq_false_iff_ne.2 h41
        clear h41 hcl
        go_wp2_with fail
        refine(j7 b X kn F op vN vn 20 k0 wr DK.out HJ.out).mono ?_
        rintro e wf ⟨rfl,df,tf⟩
        have DF:=b6 df
        have TF:=b6 (TK.out.trans tf iE)
        clear df tf
        go_wp2
        go_ret
        rw[HPP.out]
        exact⟨rfl,DF.out,TF.out⟩
end Go.Proofs.YtdhhcefmmojcmaaGreatDoor
