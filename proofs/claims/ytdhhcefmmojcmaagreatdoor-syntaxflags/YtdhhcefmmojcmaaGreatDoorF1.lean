/- Texts of this proof, one behind the other. -/
import Derived.Test.YtdhhcefmmojcmaaGreatDoorF0
set_option maxRecDepth 100000
set_option maxHeartbeats 0
set_option linter.unusedVariables false
namespace Go.Proofs.YtdhhcefmmojcmaaGreatDoor
open Go.RowKit Go.Lib
def Y8 (f:Fl):Nat->List Int
 |0=> []
 |1=>(if f.i then[105]else[])
 |2=>(if f.i then[105]else[])++(if f.m then[109]else[])
 |3=>(if f.i then[105]else[])++(if f.m then[109]else[])++(if f.s then[115]else[])
 |_=>f.letters
theorem W6 (a b:List Int):i7 a++i7 b=i7 (a++b):=by
 apply ByteArray.ext
 rw[ByteArray.data_append]
 unfold i7
 simp
theorem Ti (l:List Int)(s:ByteArray):(⟨#[40,63]⟩:ByteArray)++i7 l++⟨#[41]⟩++s=i7 ([40,63]++l++ [41])++s:=by
 rw[show(⟨#[40,63]⟩:ByteArray)=i7 [40,63]from rfl,show(⟨#[41]⟩:ByteArray)=i7 [41]from rfl,W6,W6]
theorem LF (s:ByteArray)(hz:s.size<=140737488351232)(fi fm fs fu:Bool)(w:World)(ht:J1 w)(hx:Sx w)(h7:7<=w.heap.size):
 Calls Tryz.prog 5 #[.string s,.agg #[.bool fi,.bool fm,.bool fs,.bool fu]] w fun e w'=>e=.returned (.bool true)/\b7 (fun _=>False) w w':=by
 have KS:=b6 (fun(wq:World) (t:b7 (fun _=>False) w wq)=>Bk wq (ht.new t) (hx.new t) (Nat.le_trans h7 t.size))
 have KP:=b6 (fun(S:ByteArray) (wq:World) (t:b7 (fun _=>False) w wq)=>AO S x7 wq (ht.new t) (hx.new t) (Nat.le_trans h7 t.size))
 have KD:=b6 (fun(wq:World)=>Bd s ⟨fi,fm,fs,fu⟩ wq)
 obtain⟨L,hL⟩:∃L,L=(⟨fi,fm,fs,fu⟩:Fl).letters:=⟨_,rfl⟩
 have hL4:L.length<=4:=by rw[hL];cases fi<;>cases fm<;>cases fs<;>cases fu<;>decide
 have HL4:=b6 hL4
 have HFP:=b6 (fun(h1:s.size<=1000) (hb:E5 s (mk 1)=false) (hl:L≠ [])=>show I0 ((⟨#[40,63]⟩:ByteArray)++i7 L++⟨#[41]⟩++s) x7=Xd (L.length+3) (I0 s ⟨fi,fm,fs,fu⟩)from by
  rw[Ti,hL]
  rw[hL]at hl
  exact Th h1 hb ⟨fi,fm,fs,fu⟩ hl)
 have HE:=b6 (fun c j (h:I0 s ⟨fi,fm,fs,fu⟩=.error (c,j))=>Hz h)
 have HAT:=b6 (fun(h1:s.size<=1000) (hb:E5 s (mk 1)=false) c j (h:I0 s ⟨fi,fm,fs,fu⟩=.error (c,j))=>VB h1 hb h)
 have HLT:=b6 (show Y8 ⟨fi,fm,fs,fu⟩ 4=L from hL.symm)
 have T0:=b6 ((tZ w).alloc (.cells #[.bool fi,.bool fm,.bool fs,.bool fu] 22))
 have B0:=b6 (e8 w #[.bool fi,.bool fm,.bool fs,.bool fu] 22)
 clear ht hx h7 hL
 unfold x7 at KP HFP
 simp only at KP KD
 go_enter Tryz.func5,Tryz.ntmps5
 go_upto_region 1 with fail
 generalize w.alloc (.cells #[.bool fi,.bool fm,.bool fs,.bool fu] 22)=w0 at*
 obtain⟨fb,hfb⟩:∃fb,fb=w.heap.size:=⟨_,rfl⟩
 rw[<-hfb]at B0⊢
 clear hfb
 go_wp2_with fail
 refine(KS.out _ T0.out).mono ?_
 rintro e w1 ⟨rfl,t1⟩
 have T1:=b6 (T0.out.trans t1 iE)
 have B1:=b6 ((t1.block fb (lt_of_block B0.out) id).trans B0.out)
 clear t1 KS T0 B0
 have x0:w1.cell? ⟨fb,0,none⟩=some (.bool fi):=b9 B1.out 0 _ rfl
 have x1:w1.cell? ⟨fb,1,none⟩=some (.bool fm):=b9 B1.out 1 _ rfl
 have x2:w1.cell? ⟨fb,2,none⟩=some (.bool fs):=b9 B1.out 2 _ rfl
 have x3:w1.cell? ⟨fb,3,none⟩=some (.bool fu):=b9 B1.out 3 _ rfl
 go_wp2_with fail
 go_loopg [6,7] 4 (fun gk v6 v7 wq=>∃i:Nat,i+gk=4/\v6=.string (i7 (Y8 ⟨fi,fm,fs,fu⟩ i))/\v7=.int .i64 (i:Nat)/\wq=w1)
 case atStart=>exact⟨0,rfl,rfl,rfl,rfl⟩
 case round=>
  obtain⟨i,hgk,rfl,rfl,rfl⟩:=hrel
  rcases(show i=0∨i=1∨i=2∨i=3∨i=4 by omega)with rfl|rfl|rfl|rfl|rfl
  ·have hx:(⟨#[105,109,115,85]⟩:ByteArray).extract 0 1=⟨#[105]⟩:=rfl
   have hb:(i7 (Y8 ⟨fi,fm,fs,fu⟩ 0)).size<=4:=by cases fi<;>cases fm<;>cases fs<;>cases fu<;>decide
   cases fi with
   |false=>
    go_wp2
    go_roundg (gk-1)
    case measure=>omega
    case rel=>exact⟨1,by omega,by simp[Y8],by rfl,rfl⟩
   |true=>
    have HB:=b6 (show i7 (Y8 ⟨true,fm,fs,fu⟩ 0)++⟨#[105]⟩=i7 (Y8 ⟨true,fm,fs,fu⟩ 1)from(W6 _ [105]).trans (by simp[Y8]))
    obtain⟨B,hB⟩:∃B,B=i7 (Y8 ⟨true,fm,fs,fu⟩ 0):=⟨_,rfl⟩
    rw[<-hB]at hb HB⊢
    clear hB
    go_wp2
    go_roundg (gk-1)
    case measure=>omega
    case rel=>exact⟨1,by omega,by rw[<-HB.out],by rfl,rfl⟩
  ·have hx:(⟨#[105,109,115,85]⟩:ByteArray).extract 1 2=⟨#[109]⟩:=rfl
   have hb:(i7 (Y8 ⟨fi,fm,fs,fu⟩ 1)).size<=4:=by cases fi<;>cases fm<;>cases fs<;>cases fu<;>decide
   cases fm with
   |false=>
    go_wp2
    go_roundg (gk-1)
    case measure=>omega
    case rel=>exact⟨2,by omega,by simp[Y8],by rfl,rfl⟩
   |true=>
    have HB:=b6 (show i7 (Y8 ⟨fi,true,fs,fu⟩ 1)++⟨#[109]⟩=i7 (Y8 ⟨fi,true,fs,fu⟩ 2)from(W6 _ [109]).trans (by simp[Y8]))
    obtain⟨B,hB⟩:∃B,B=i7 (Y8 ⟨fi,true,fs,fu⟩ 1):=⟨_,rfl⟩
    rw[<-hB]at hb HB⊢
    clear hB
    go_wp2
    go_roundg (gk-1)
    case measure=>omega
    case rel=>exact⟨2,by omega,by rw[<-HB.out],by rfl,rfl⟩
  ·have hx:(⟨#[105,109,115,85]⟩:ByteArray).extract 2 3=⟨#[115]⟩:=rfl
   have hb:(i7 (Y8 ⟨fi,fm,fs,fu⟩ 2)).size<=4:=by cases fi<;>cases fm<;>cases fs<;>cases fu<;>decide
   cases fs with
   |false=>
    go_wp2
    go_roundg (gk-1)
    case measure=>omega
    case rel=>exact⟨3,by omega,by simp[Y8],by rfl,rfl⟩
   |true=>
    have HB:=b6 (show i7 (Y8 ⟨fi,fm,true,fu⟩ 2)++⟨#[115]⟩=i7 (Y8 ⟨fi,fm,true,fu⟩ 3)from(W6 _ [115]).trans (by simp[Y8]))
    obtain⟨B,hB⟩:∃B,B=i7 (Y8 ⟨fi,fm,true,fu⟩ 2):=⟨_,rfl⟩
    rw[<-hB]at hb HB⊢
    clear hB
    go_wp2
    go_roundg (gk-1)
    case measure=>omega
    case rel=>exact⟨3,by omega,by rw[<-HB.out],by rfl,rfl⟩
  ·have hx:(⟨#[105,109,115,85]⟩:ByteArray).extract 3 4=⟨#[85]⟩:=rfl
   have hb:(i7 (Y8 ⟨fi,fm,fs,fu⟩ 3)).size<=4:=by cases fi<;>cases fm<;>cases fs<;>cases fu<;>decide
   cases fu with
   |false=>
    go_wp2
    go_roundg (gk-1)
    case measure=>omega
    case rel=>exact⟨4,by omega,by simp[Y8,Fl.letters],by rfl,rfl⟩
   |true=>
    have HB:=b6 (show i7 (Y8 ⟨fi,fm,fs,true⟩ 3)++⟨#[85]⟩=i7 (Y8 ⟨fi,fm,fs,true⟩ 4)from(W6 _ [85]).trans (by simp[Y8,Fl.letters]))
    obtain⟨B,hB⟩:∃B,B=i7 (Y8 ⟨fi,fm,fs,true⟩ 3):=⟨_,rfl⟩
    rw[<-hB]at hb HB⊢
    clear hB
    go_wp2
    go_roundg (gk-1)
    case measure=>omega
    case rel=>exact⟨4,by omega,by rw[<-HB.out],by rfl,rfl⟩
  ·rw[HLT.out]
   clear hgk
   obtain⟨SL2,hSL⟩:∃SL2,SL2=i7 L:=⟨_,rfl⟩
   have hsl:SL2.size=L.length:=by rw[hSL,Ar]
   have hsl4:SL2.size<=4:=by omega
   rw[<-hSL]at HFP⊢
   have HSL:=b6 hSL
   by_cases hL0:L=[]
   ·have hE:(SL2.toList==[])=true:=by rw[hSL,hL0,Lib.toList_data];rfl
    clear hSL hsl
    go_wp2
    go_ret
    exact⟨rfl,T1.out⟩
   ·have hE:(SL2.toList==[])=false:=by
     rw[Lib.toList_data]
     refine beq_eq_false_iff_ne.2 (fun e=>hL0 ?_)
     have:SL2.size=0:=by
      show SL2.data.size=0
      rw[<-Array.length_toList,e]
      rfl
     exact List.eq_nil_of_length_eq_zero (by omega)
    have HL0:=b6 hL0
    have HSZ:=b6 hsl
    clear hSL hL0 hsl
    by_cases hs1:s.size<=1000
    ·have hs1I:¬(s.size:Int)>1000:=by omega
     by_cases hmk:E5 s (mk 1)=true
     ·rw[Ew,Bool.and_eq_true,decide_eq_true_eq]at hmk
      have hs2I:(s.size:Int)>2:=by omega
      have hs3:3<=s.size:=hmk.1
      have hs3I:(3:Int)<=(s.size:Int):=by omega
      have hmk2:=hmk.2
      clear hmk
      go_wp2
      go_ret
      exact⟨rfl,T1.out⟩
     ·have hmf:E5 s (mk 1)=false:=by simpa using hmk
      have HFP2:=b6 (HFP.out hs1 hmf HL0.out)
      have HAT2:=b6 (HAT.out hs1 hmf)
      clear HFP HAT hmf
      go_upto_region 10 with fail
      go_cut [43] (fun v wd=>v=.bool false/\wd=wr)
      case first=>
       rw[Ew]at hmk
       by_cases hs3:3<=s.size
       ·rw[decide_eq_true hs3,Bool.true_and]at hmk
        have hs2I:(s.size:Int)>2:=by omega
        have hs3I:(3:Int)<=(s.size:Int):=by omega
        have hmk2:((s.extract 0 3).toList==[239,187,191])=false:=by simpa using hmk
        clear hmk
        go_wp2
        go_meet
        case rel=>exact⟨rfl,rfl⟩
       ·have hs2I:¬(s.size:Int)>2:=by omega
        clear hmk
        go_wp2
        go_meet
        case rel=>exact⟨rfl,rfl⟩
      obtain⟨rfl,rfl⟩:=hcut
      clear hmk hE hs1I
      go_wp2_with fail
      refine(KD.out _).mono ?_
      intro e w2 hh
      obtain⟨aN,nN,cN,pr,ad,nd,cd,dc,dj,rfl,t2,hD⟩:=GH hh
      have T2:=b6 (T1.out.trans t2 iE)
      have HD2:=b6 hD
      clear hh t2 hD T1 KD B1 x0 x1 x2 x3
      go_upto_region 13 with fail
      have t3:=(tZ w2).alloc (.cells #[.slice aN nN cN,.int .i64 pr,.slice ad nd cd,.int .i64 dc,.int .i64 dj] 41)
      have D3:=b6 (e8 w2 #[.slice aN nN cN,.int .i64 pr,.slice ad nd cd,.int .i64 dc,.int .i64 dj] 41)
      have X3:=b6 t3
      generalize w2.alloc (.cells #[.slice aN nN cN,.int .i64 pr,.slice ad nd cd,.int .i64 dc,.int .i64 dj] 41)=w3 at*
      obtain⟨d,hde⟩:∃d,d=w2.heap.size:=⟨_,rfl⟩
      rw[<-hde]at D3⊢
      have T3:=b6 (T2.out.trans t3 iE)
      clear t3 T2 hde
      have KP2:=b6 (KP.out ((⟨#[40,63]⟩:ByteArray)++SL2++⟨#[41]⟩++s) w3 T3.out)
      clear KP
      go_wp2_with fail
      refine KP2.out.mono ?_
      intro e w4 hh
      obtain⟨⟨ck,sa,sn,sc,fo,mi,ma,la,ca,nm,ka,kn,kc⟩,an,n,m,f0,f1,rfl,t4,hP⟩:=GJ hh
      simp only
      have T4:=b6 (T3.out.trans t4 iE)
      have X4:=b6 (X3.out.trans t4 iE)
      have D4:=b6 ((t4.block d (lt_of_block D3.out) id).trans D3.out)
      have HP4:=b6 hP
      clear hh t4 hP T3 X3 D3 KP2
      go_upto_region 14 with fail
      have HK:=Jp w4 #[.int .i64 ck,.slice sa sn sc,.bool fo,.int .i64 mi,.int .i64 ma,.bool la,.int .i64 ca,.string nm,.slice ka kn kc,.slice an n m] #[.int .i64 f0,.int .i64 f1]
      generalize (w4.alloc (.cells #[.int .i64 ck,.slice sa sn sc,.bool fo,.int .i64 mi,.int .i64 ma,.bool la,.int .i64 ca,.string nm,.slice ka kn kc,.slice an n m] 31)).alloc (.cells #[.int .i64 f0,.int .i64 f1] 34)=w5 at*
      obtain⟨hp5,hq5,t5⟩:=HK
      obtain⟨p,hpe⟩:∃p,p=w4.heap.size:=⟨_,rfl⟩
      rw[<-hpe]at hp5 hq5⊢
      obtain⟨q,hqe⟩:∃q,q=p+1:=⟨_,rfl⟩
      rw[<-hqe]at hq5⊢
      have T5:=b6 (T4.out.trans t5 iE)
      have X5:=b6 (X4.out.trans t5 iE)
      have Y5:=b6 t5
      have D5:=b6 ((t5.block d (lt_of_block D4.out) id).trans D4.out)
      have P5:=b6 hp5
      have Q5:=b6 hq5
      clear hp5 hq5 hpe hqe t5 T4 X4 D4
      rcases HD2.out with⟨hr,_⟩|⟨x,ns,ds,q2,hr,hdc,hdj,hpr,hnd,hnl,hdw⟩
      ·have hcn:(dc !=0)=true:=by simpa using HE.out _ _ hr
       have HJ:=b6 (HAT2.out _ _ hr)
       obtain⟨hf0,hf1⟩:f0=dc/\f1=dj+((L.length+3:Nat):Int):=by
        have h:=HFP2.out
        rw[hr]at h
        rcases HP4.out with⟨h2,_⟩|⟨_,_,h2,_⟩
        ·rw[h]at h2
         cases h2
         exact⟨rfl,rfl⟩
        ·rw[h]at h2
         cases h2
       rw[hf0,hf1]at Q5
       clear hf0 hf1
       obtain⟨z,hzz⟩:∃z:Nat,z=SL2.size:=⟨_,rfl⟩
       obtain⟨u1,hu⟩:∃u1,u1=dj+(z:Int):=⟨_,rfl⟩
       have hu1:dj+(z:Int)=u1:=hu.symm
       have hw1:IntKind.i64.wrap u1=u1:=by have:=HJ.out;rw[IntKind.wrap_i64];omega
       obtain⟨y,hy⟩:∃y,y=dj+((L.length+3:Nat):Int):=⟨_,rfl⟩
       have hy2:u1+3=y:=by rw[hy,hu,hzz,HSZ.out];omega
       have hw2:IntKind.i64.wrap y=y:=by have:=HJ.out;rw[IntKind.wrap_i64];omega
       rw[<-hy]at Q5
       have q0:w5.cell? ⟨q,0,none⟩=some (.int .i64 dc):=b9 Q5.out 0 _ rfl
       have q1:w5.cell? ⟨q,1,none⟩=some (.int .i64 y):=b9 Q5.out 1 _ rfl
       have d3:w5.cell? ⟨d,3,none⟩=some (.int .i64 dc):=b9 D5.out 3 _ rfl
       have d4:w5.cell? ⟨d,4,none⟩=some (.int .i64 dj):=b9 D5.out 4 _ rfl
       have hzs:SL2.size=z:=hzz.symm
       clear hy hzz hr hu
       go_wp2
       go_ret
       exact⟨rfl,T5.out⟩
      ·clear hnd
       subst hdc
       subst hdj
       subst hpr
       rcases HP4.out with⟨h2,_⟩|⟨x2,ns2,h2,hf0,hf1,hn,htn⟩
       ·have h:=HFP2.out
        rw[hr,h2]at h
        cases h
       ·obtain⟨rfl,rfl⟩:x2=x/\ns2=ns:=by
         have h:=HFP2.out
         rw[hr,h2]at h
         cases h
         exact⟨rfl,rfl⟩
        subst hf0
        subst hf1
        have HNL:=b6 (g9 hnl X5.out iE)
        have HDW:=b6 (hdw.new X5.out)
        have q0:w5.cell? ⟨q,0,none⟩=some (.int .i64 0):=b9 Q5.out 0 _ rfl
        have q1:w5.cell? ⟨q,1,none⟩=some (.int .i64 0):=b9 Q5.out 1 _ rfl
        have c0:w5.cell? ⟨p,0,none⟩=some (.int .i64 ck):=b9 P5.out 0 _ rfl
        have c1:w5.cell? ⟨p,1,none⟩=some (.slice sa sn sc):=b9 P5.out 1 _ rfl
        have c2:w5.cell? ⟨p,2,none⟩=some (.bool fo):=b9 P5.out 2 _ rfl
        have c3:w5.cell? ⟨p,3,none⟩=some (.int .i64 mi):=b9 P5.out 3 _ rfl
        have c4:w5.cell? ⟨p,4,none⟩=some (.int .i64 ma):=b9 P5.out 4 _ rfl
        have c5:w5.cell? ⟨p,5,none⟩=some (.bool la):=b9 P5.out 5 _ rfl
        have c6:w5.cell? ⟨p,6,none⟩=some (.int .i64 ca):=b9 P5.out 6 _ rfl
        have c7:w5.cell? ⟨p,7,none⟩=some (.string nm):=b9 P5.out 7 _ rfl
        have c8:w5.cell? ⟨p,8,none⟩=some (.slice ka kn kc):=b9 P5.out 8 _ rfl
        have d0:w5.cell? ⟨d,0,none⟩=some (.slice aN nN cN):=b9 D5.out 0 _ rfl
        have d1:w5.cell? ⟨d,1,none⟩=some (.int .i64 (q2:Nat)):=b9 D5.out 1 _ rfl
        have d2:w5.cell? ⟨d,2,none⟩=some (.slice ad nd cd):=b9 D5.out 2 _ rfl
        have d3:w5.cell? ⟨d,3,none⟩=some (.int .i64 0):=b9 D5.out 3 _ rfl
        have d4:w5.cell? ⟨d,4,none⟩=some (.int .i64 0):=b9 D5.out 4 _ rfl
        have KA:=b6 (AX _ x2 (Nat.le_refl _) _ _ _ ds q2 aN nN cN (q2:Nat) ad nd cd 0 0 w5 (htn.new Y5.out) HDW.out HNL.out)
        unfold j4.arr at KA
        clear htn hn hr h2 hnl hdw
        go_wp2_with fail
        refine KA.out.mono ?_
        rintro e w9 ⟨rfl,t9⟩
        have T9:=b6 (T5.out.trans t9 iE)
        clear t9 KA
        go_wp2
        go_ret
        exact⟨rfl,T9.out⟩
    ·have hs1I:(s.size:Int)>1000:=by omega
     go_wp2
     go_ret
     exact⟨rfl,T1.out⟩
end Go.Proofs.YtdhhcefmmojcmaaGreatDoor
