/- Texts of this proof, one behind the other. -/
import Derived.Test.YtdhhcefmmojcmaaGreatDoorM0
set_option maxRecDepth 100000
set_option maxHeartbeats 0
set_option linter.unusedVariables false
namespace Go.Proofs.YtdhhcefmmojcmaaGreatDoor
open Go.RowKit Go.Lib
def Al (s:ByteArray)(m:Nat):Nat->Nat->Nat->Nat->Nat->Int×Nat
 |0,_,sc,_,_=>((sc:Int),1+m)
 |k+1,i,sc,lo,hi=>if i=s.size∨l5 s i<lo∨hi<l5 s i then(-1,i)else Al s m k (i+1) (64*sc+l5 s i%64) 128 191
def DD (s:ByteArray):Int×Nat:=match L4 (l5 s 0)with
 |none=>(-1,1)
 |some l=>Al s l.more l.more 1 (l5 s 0%2^(7-l.more)) l.low l.high
theorem MS {b:Nat}{l:AC}(h:L4 b=some l):l.first<256/\l.last<256/\l.more<=3/\l.low<256/\l.high<256:=Fa l (List.mem_of_find?_eq_some h)
theorem CB (n k:Nat)(hn:n<256)(hk:k<=7):bits .and .i64 (wrap64 (n:Int)) ((2^k-1:Nat):Int)=((n%2^k:Nat):Int):=by
 have hp:2^k<=2^7:=Nat.pow_le_pow_right (by decide) hk
 rw[IntWalk.wrap64_in _ (by omega),(bits_nat .i64 62 (by decide) Ca n (2^k-1) (by omega) (by omega)).1,Nat.and_two_pow_sub_one_eq_mod]
theorem Rh (sc n:Nat)(hs:sc<524288):bits .or .i64 ((sc:Int)*64) ((n:Int)%64)=((64*sc+n%64:Nat):Int):=by
 rw[show(sc:Int)*64=((2^6*sc:Nat):Int)by omega,show(n:Int)%64=((n%64:Nat):Int)by omega,TQ (n%64) sc 6 (by omega) (by omega)]
theorem Pr (s:ByteArray)(hs:0<s.size)(hb:s.size<=140737488351232)(w:World)(ht:J1 w):
 Calls Tryz.prog 67 #[.string s] w fun e w'=>e=.returned (.tuple #[.int .i64 (DD s).1,.int .i64 ((DD s).2:Nat)])/\b7 (fun _=>False) w w':=by
 have K:=b6 (LN (l5 s 0) w ht)
 have HB:=b6 (S2 s 0 hs)
 have hsI:(0:Int)<(s.size:Int):=by omega
 obtain⟨R,hR⟩:∃R,DD s=R:=⟨_,rfl⟩
 have HR:=b6 hR
 rw[hR]
 clear hR ht
 cases hl:L4 (l5 s 0)with
 |none=>
  rw[EY hl,<-HB.out]at K
  have HRN:=b6 (show R=(-1,1)by rw[<-HR.out];unfold DD;rw[hl])
  clear hl
  go_enter Tryz.func67,Tryz.ntmps67
  go_wp2_with fail
  refine K.out.mono ?_
  rintro e w1 ⟨rfl,tc⟩
  have T:=b6 tc
  clear tc K
  go_wp2
  go_ret2
  exact⟨by rw[HRN.out];rfl,T.out.alloc _⟩
 |some l=>
  rw[EZ hl,<-HB.out]at K
  have hsm:=MS hl
  have HRS:=b6 (show Al s l.more l.more 1 (l5 s 0%2^(7-l.more)) l.low l.high=R by rw[<-HR.out];unfold DD;rw[hl])
  clear hl HR
  obtain⟨x,y,m,lo,hi⟩:=l
  unfold Gy at K
  dsimp only at K hsm HRS
  go_enter Tryz.func67,Tryz.ntmps67
  go_wp2_with fail
  refine K.out.mono ?_
  rintro e w1 ⟨rfl,tc⟩
  have T:=b6 (tc.alloc (.cells #[.int .u8 x,.int .u8 y,.int .i64 m,.int .u8 lo,.int .u8 hi] 147))
  have B:=b6 (e8 w1 #[.int .u8 x,.int .u8 y,.int .i64 m,.int .u8 lo,.int .u8 hi] 147)
  clear tc K
  go_upto_region 4 with fail
  generalize (w1.alloc (.cells #[.int .u8 x,.int .u8 y,.int .i64 m,.int .u8 lo,.int .u8 hi] 147))=wA at*
  obtain⟨g,hg⟩:∃g,g=w1.heap.size:=⟨_,rfl⟩
  rw[<-hg]at B⊢
  clear hg
  have c2:wA.cell? ⟨g,2,none⟩=some (.int .i64 m):=by simp[World.cell?,B.out]
  have c3:wA.cell? ⟨g,3,none⟩=some (.int .u8 lo):=by simp[World.cell?,B.out]
  have c4:wA.cell? ⟨g,4,none⟩=some (.int .u8 hi):=by simp[World.cell?,B.out]
  go_cut [6] (fun v wd=>v=.int .i64 ((l5 s 0%2^(7-m):Nat):Int)/\∃n,wd=wA.drewN n)
  case first=>
   rcases(show m=0∨m=1∨m=2∨m=3 by omega)with rfl|rfl|rfl|rfl
   ·have HM:=b6 (CB (l5 s 0) 7 (y6 s 0) (by decide))
    go_quiet (fail)
    go_wp2
    go_meet
    case rel=>exact⟨by rw[HB.out];exact congrArg _ HM.out,_,rfl⟩
   ·have HM:=b6 (CB (l5 s 0) 6 (y6 s 0) (by decide))
    go_quiet (fail)
    go_wp2
    go_meet
    case rel=>exact⟨by rw[HB.out];exact congrArg _ HM.out,_,rfl⟩
   ·have HM:=b6 (CB (l5 s 0) 5 (y6 s 0) (by decide))
    go_quiet (fail)
    go_wp2
    go_meet
    case rel=>exact⟨by rw[HB.out];exact congrArg _ HM.out,_,rfl⟩
   ·have HM:=b6 (CB (l5 s 0) 4 (y6 s 0) (by decide))
    go_quiet (fail)
    go_wp2
    go_meet
    case rel=>exact⟨by rw[HB.out];exact congrArg _ HM.out,_,rfl⟩
  obtain⟨rfl,n1,rfl⟩:=hcut
  have hsc:l5 s 0%2^(7-m)<128:=by
   have h1:0<2^(7-m):=Nat.two_pow_pos _
   have h2:2^(7-m)<=2^7:=Nat.pow_le_pow_right (by decide) (by omega)
   have:=Nat.mod_lt (l5 s 0) h1
   omega
  generalize l5 s 0%2^(7-m)=sc0 at*
  replace T:=b6 (T.out.drewN n1)
  replace B:=b6 (show(wA.drewN n1).heap[g]? =_ from B.out)
  have e2:(wA.drewN n1).cell? ⟨g,2,none⟩=some (.int .i64 m):=c2
  have e3:(wA.drewN n1).cell? ⟨g,3,none⟩=some (.int .u8 lo):=c3
  have e4:(wA.drewN n1).cell? ⟨g,4,none⟩=some (.int .u8 hi):=c4
  clear c2 c3 c4 HB
  generalize wA.drewN n1=wB at*
  go_wp2_with fail
  go_quiet (fail)
  replace T:=b6 (T.out.drewN nq)
  replace B:=b6 (show(wB.drewN nq).heap[g]? =_ from B.out)
  have d2:(wB.drewN nq).cell? ⟨g,2,none⟩=some (.int .i64 m):=e2
  clear e2 e3 e4
  generalize wB.drewN nq=wC at*
  go_wp2_with fail
  go_loopg [6,7,8,9] m (fun gk v6 v7 v8 v9 wq=>∃i sc l h:Nat,i+gk=m+1/\1<=i/\v6=.int .i64 (sc:Nat)/\v7=.int .u8 (l:Nat)/\v8=.int .u8 (h:Nat)/\v9=.int .i64 (i:Nat)/\i<=s.size/\l<256/\h<256/\((i=1->sc<128)/\(i=2->sc<8192)/\(i=3->sc<524288))/\Al s m gk i sc l h=R/\wC=wq)
  case atStart=>exact⟨1,sc0,lo,hi,by omega,Nat.le_refl _,rfl,rfl,rfl,rfl,by omega,by omega,by omega,⟨fun _=>hsc,by omega,by omega⟩,HRS.out,rfl⟩
  case round=>
   obtain⟨i,sc,l,h,hk,h1,rfl,rfl,rfl,rfl,hin,hl,hh,hb3,htk,rfl⟩:=hrel
   have HK:=b6 htk
   clear htk HRS
   by_cases hlt:i<=m
   ·obtain⟨gk,rfl⟩:∃q,gk=q+1:=⟨gk-1,by omega⟩
    have HST:=b6 (show(if i=s.size∨l5 s i<l∨h<l5 s i then((-1:Int),i)else Al s m gk (i+1) (64*sc+l5 s i%64) 128 191)=R from HK.out)
    have hltI:(i:Int)<=(m:Int):=by omega
    clear HK
    by_cases hend:i=s.size
    ·have HRE:=b6 (show R=(-1,i)by rw[<-HST.out,if_pos (.inl hend)])
     have hd:decide ((i:Int)=(s.size:Int))=true:=decide_eq_true (by omega)
     clear HST
     go_wp2
     go_ret2
     exact⟨by rw[HRE.out];rfl,T.out⟩
    ·have hd:decide ((i:Int)=(s.size:Int))=false:=decide_eq_false (by omega)
     have hd2:((i:Int)==(s.size:Int))=false:=by rw[beq_eq_false_iff_ne];omega
     have hii:i<s.size:=by omega
     have hiI:(i:Int)<(s.size:Int):=by omega
     have hbi:=S2 s i hii
     have HBI:=b6 hbi
     have hbl:=y6 s i
     by_cases hlo:l5 s i<l
     ·have HRE:=b6 (show R=(-1,i)by rw[<-HST.out,if_pos (.inr (.inl hlo))])
      have k1:(s[i].toNat:Int)<(l:Int):=by rw[hbi];omega
      clear HST hbi
      go_wp2
      go_ret2
      exact⟨by rw[HRE.out];rfl,T.out⟩
     ·have k1:(l:Int)<=(s[i].toNat:Int):=by rw[hbi];omega
      by_cases hhi:h<l5 s i
      ·have HRE:=b6 (show R=(-1,i)by rw[<-HST.out,if_pos (.inr (.inr hhi))])
       have k2:(h:Int)<(s[i].toNat:Int):=by rw[hbi];omega
       clear HST hbi
       go_wp2
       go_ret2
       exact⟨by rw[HRE.out];rfl,T.out⟩
      ·have k2:(s[i].toNat:Int)<=(h:Int):=by rw[hbi];omega
       have HRE:=b6 (show Al s m gk (i+1) (64*sc+l5 s i%64) 128 191=R by rw[<-HST.out,if_neg (by omega)])
       have HNX:=b6 (Rh sc (l5 s i) (by omega))
       clear HST hbi
       go_wp2
       go_roundg gk
       case measure=>omega
       case rel=>exact⟨i+1,64*sc+l5 s i%64,128,191,by omega,by omega,by rw[HBI.out,HNX.out],rfl,rfl,by go_num,by omega,by omega,by omega,⟨by omega,by omega,by omega⟩,HRE.out,rfl⟩
   ·obtain rfl:gk=0:=by omega
    have HRE:=b6 (show R=((sc:Int),1+m)from HK.out.symm)
    have hltI:¬((i:Int)<=(m:Int)):=by omega
    have z0:IntKind.i64.wrap (1+(m:Int))=1+(m:Int):=by rw[IntKind.wrap_i64];omega
    go_wp2_with fail
    go_quiet (fail)
    go_wp2
    go_ret2
    exact⟨by rw[HRE.out];rfl,T.out.drewN _⟩
theorem LJ (r:Int)(w:World):Calls Tryz.prog 91 #[.int .i64 r] w fun e w'=>e=.returned (.bool (decide (55296<=r)&&decide (r<57344)))/\w=w':=by
 by_cases h1:55296<=r
 ·by_cases h2:r<57344
  ·go_enter Tryz.func91,Tryz.ntmps91
   go_wp2
   go_ret
   exact⟨by simp[h1,h2],rfl⟩
  ·have k2:decide (r<57344)=false:=decide_eq_false h2
   go_enter Tryz.func91,Tryz.ntmps91
   go_wp2
   go_ret
   exact⟨by simp,rfl⟩
 ·have k1:decide (55296<=r)=false:=decide_eq_false h1
  go_enter Tryz.func91,Tryz.ntmps91
  go_wp2
  go_ret
  exact⟨by simp,rfl⟩
def M9 (U:Nat->Int)(i:Nat):Int×Nat:=
 if U i= -1 then(-1,1)
 else if ¬(55296<=U i/\U i<57344)then(U i,2)
 else if 56320<=U i∨U (i+2)<56320∨57344<=U (i+2)then(-1,2)
 else(65536+(U i-55296)*1024+U (i+2)-56320,4)
theorem Rr (U:Nat->Int)(bd bl bh i:Nat)(w:World)(hi:i<=140737488351232)(hU:∀j,-1<=U j/\U j<=65535)
 (hc:∀wq,b7 (fun _=>False) w wq->∀j:Nat,j<=140737488351240->Calls Tryz.prog 90 (#[.int .i64 j]++#[.pointer (some ⟨bd,0,none⟩),.pointer (some ⟨bl,0,none⟩),.pointer (some ⟨bh,0,none⟩)]) wq fun e w'=>e=.returned (.int .i64 (U j))/\b7 (fun _=>False) wq w'):
 Calls Tryz.prog 64 #[.func (.func 90) #[] #[.pointer (some ⟨bd,0,none⟩),.pointer (some ⟨bl,0,none⟩),.pointer (some ⟨bh,0,none⟩)],.int .i64 i] w fun e w'=>e=.returned (.tuple #[.int .i64 (M9 U i).1,.int .i64 ((M9 U i).2:Nat)])/\b7 (fun _=>False) w w':=by
 have HC:=b6 hc
 have K1:=b6 (hc w (b7.refl _ w) i (by omega))
 have hu:=hU i
 have hv:=hU (i+2)
 obtain⟨R,hR⟩:∃R,M9 U i=R:=⟨_,rfl⟩
 have HR:=b6 hR
 unfold M9 at hR
 rw[HR.out]
 clear hc HR
 obtain⟨j,hj⟩:∃j,j=i+2:=⟨_,rfl⟩
 have hji:(j:Int)=(i:Int)+2:=by omega
 have hjb:j<=140737488351240:=by omega
 rw[<-hj]at hR hv
 clear hj
 obtain⟨u,hu0⟩:∃u,U i=u:=⟨_,rfl⟩
 rw[hu0]at hR hu K1
 have KV:=b6 (fun wq tq=>HC.out wq tq j hjb)
 obtain⟨v,hv0⟩:∃v,U j=v:=⟨_,rfl⟩
 rw[hv0]at hR hv KV
 rw[hji]at KV
 clear hu0 hv0 HC hU hji hjb
 have HR:=b6 hR
 clear hR
 go_enter Tryz.func64,Tryz.ntmps64
 go_wp2_with fail
 refine K1.out.mono ?_
 rintro e w1 ⟨rfl,tc⟩
 have T:=b6 tc
 clear tc K1
 by_cases h1:u= -1
 ·subst h1
  have HE:=b6 (show R=(-1,1)by rw[<-HR.out,if_pos rfl])
  go_wp2
  go_ret2
  exact⟨by rw[HE.out];rfl,T.out⟩
 have hd1:decide (u= -1)=false:=decide_eq_false h1
 have hd1':(u== -1)=false:=by simpa using h1
 rw[if_neg h1]at HR
 have KH:=b6 (LJ u w1)
 by_cases h2:55296<=u/\u<57344
 ·rw[show(decide (55296<=u)&&decide (u<57344))=true by simp[h2]]at KH
  rw[if_neg (fun k=>k h2)]at HR
  obtain⟨h2a,h2b⟩:=h2
  go_wp2_with fail
  refine KH.out.mono ?_
  rintro e w1 ⟨rfl,rfl⟩
  go_wp2_with fail
  refine(KV.out w1 T.out).mono ?_
  rintro e w2 ⟨rfl,tc⟩
  replace T:=b6 (T.out.trans tc iE)
  clear tc KV KH
  by_cases h3:56320<=u
  ·have HE:=b6 (show R=(-1,2)by rw[<-HR.out,if_pos (.inl h3)])
   go_wp2
   go_ret2
   exact⟨by rw[HE.out];rfl,T.out⟩
  ·by_cases h4:v<56320
   ·have HE:=b6 (show R=(-1,2)by rw[<-HR.out,if_pos (.inr (.inl h4))])
    go_wp2
    go_ret2
    exact⟨by rw[HE.out];rfl,T.out⟩
   ·by_cases h5:57344<=v
    ·have HE:=b6 (show R=(-1,2)by rw[<-HR.out,if_pos (.inr (.inr h5))])
     go_wp2
     go_ret2
     exact⟨by rw[HE.out];rfl,T.out⟩
    ·have HE:=b6 (show R=(65536+(u-55296)*1024+v-56320,4)by rw[<-HR.out,if_neg (by omega)])
     go_wp2
     go_ret2
     exact⟨by rw[HE.out];rfl,T.out⟩
 ·rw[show(decide (55296<=u)&&decide (u<57344))=false by simp;omega]at KH
  have HE:=b6 (show R=(u,2)by rw[<-HR.out,if_pos h2])
  clear h2
  go_wp2_with fail
  refine KH.out.mono ?_
  rintro e w1 ⟨rfl,rfl⟩
  go_wp2
  go_ret2
  exact⟨by rw[HE.out];rfl,T.out⟩
theorem Ps (b i:Nat)(s:ByteArray)(w:World)(ht:J1 w)(hd:w.cell? ⟨b,0,none⟩=some (.string s))(hi:i<s.size)(hs:s.size<=140737488351232):
 Calls Tryz.prog 66 (#[.int .i64 i]++#[.pointer (some ⟨b,0,none⟩)]) w fun e w'=>e=.returned (.tuple #[.int .i64 (DD (s.extract i s.size)).1,.int .i64 ((DD (s.extract i s.size)).2:Nat)])/\b7 (fun _=>False) w w':=by
 have hsz:(s.extract i s.size).size=s.size-i:=by rw[ByteArray.size_extract];omega
 have K:=b6 (Pr (s.extract i s.size) (by omega) (by omega) w ht)
 have hiI:(i:Int)<=(s.size:Int):=by omega
 generalize DD (s.extract i s.size)=R at*
 clear ht hsz
 go_enter Tryz.func66,Tryz.ntmps66
 go_wp2_with fail
 refine K.out.mono ?_
 rintro e w1 ⟨rfl,tc⟩
 have T:=b6 tc
 clear tc K
 go_wp2
 go_ret2
 exact⟨rfl,T.out⟩
theorem GS (U:Nat->Int)(b bd bl bh i:Nat)(w:World)(hi:i<=140737488351232)(hU:∀j,-1<=U j/\U j<=65535)(hb:w.cell? ⟨b,0,none⟩=some (.func (.func 90) #[] #[.pointer (some ⟨bd,0,none⟩),.pointer (some ⟨bl,0,none⟩),.pointer (some ⟨bh,0,none⟩)]))
 (hc:∀wq,b7 (fun _=>False) w wq->∀j:Nat,j<=140737488351240->Calls Tryz.prog 90 (#[.int .i64 j]++#[.pointer (some ⟨bd,0,none⟩),.pointer (some ⟨bl,0,none⟩),.pointer (some ⟨bh,0,none⟩)]) wq fun e w'=>e=.returned (.int .i64 (U j))/\b7 (fun _=>False) wq w'):
 Calls Tryz.prog 63 (#[.int .i64 i]++#[.pointer (some ⟨b,0,none⟩)]) w fun e w'=>e=.returned (.tuple #[.int .i64 (M9 U i).1,.int .i64 ((M9 U i).2:Nat)])/\b7 (fun _=>False) w w':=by
 have K:=b6 (Rr U bd bl bh i w hi hU hc)
 generalize M9 U i=R at*
 clear hc hU
 go_enter Tryz.func63,Tryz.ntmps63
 go_wp2_with fail
 refine K.out.mono ?_
 rintro e w1 ⟨rfl,tc⟩
 have T:=b6 tc
 clear tc K
 go_wp2
 go_ret2
 exact⟨rfl,T.out⟩
end Go.Proofs.YtdhhcefmmojcmaaGreatDoor
namespace Go.Proofs.YtdhhcefmmojcmaaGreatDoor
open Go.RowKit
def Z2 (s:ByteArray)(i:Nat):Int:=if s.size<i+2 then-1 else(l5 s i+256*l5 s (i+1):Nat)
def Z1 (s:ByteArray)(i:Nat):Int:=if s.size<i+2 then-1 else(l5 s (i+1)+256*l5 s i:Nat)
theorem FK (s:ByteArray)(i:Nat): -1<=Z2 s i/\Z2 s i<=65535:=by
 have:=y6 s i
 have:=y6 s (i+1)
 unfold Z2
 split<;>omega
theorem FJ (s:ByteArray)(i:Nat): -1<=Z1 s i/\Z1 s i<=65535:=by
 have:=y6 s i
 have:=y6 s (i+1)
 unfold Z1
 split<;>omega
def r8 (s:ByteArray)(c i:Nat):Int×Nat:=if c=2 then M9 (Z2 s) i else if c=3 then M9 (Z1 s) i else if c=4 then((l5 s i:Int),1)else DD (s.extract i s.size)
structure V3 (lo:Nat)(w:World)(b:Nat)(v:Value):Prop where
 lt:b<w.heap.size
 ge:lo<=b
 cell:w.cell? ⟨b,0,none⟩=some v
theorem V3.kept {lo:Nat}{w w':World}{b:Nat}{v:Value}{S:Nat->Prop}(h:V3 lo w b v)(t:b7 S w w')(hs:¬S b):V3 lo w' b v:=⟨Nat.lt_of_lt_of_le h.lt t.size,h.ge,(t.cell (p:=⟨b,0,none⟩) h.lt hs).trans h.cell⟩
theorem V3.made {w:World}{v:Value}{t:TypeId}{n lo:Nat}(h:n=w.heap.size)(hl:lo<=n):V3 lo (w.alloc (.cells #[v] t)) n v:=by
 subst h
 exact⟨by simp,hl,by unfold World.cell?;rw[e8];rfl⟩
theorem V3.alloc {lo:Nat}{w:World}{b:Nat}{v:Value}(h:V3 lo w b v)(o:Obj):V3 lo (w.alloc o) b v:=h.kept ((tZ w).alloc o) id
theorem V3.low {lo lo':Nat}{w:World}{b:Nat}{v:Value}(h:V3 lo w b v)(hl:lo'<=lo):V3 lo' w b v:=⟨h.lt,Nat.le_trans hl h.ge,h.cell⟩
theorem W1 (P:Program)(w:World)(a:Addr)(m:Mode)(f:Fn)(t c:Array Value):(store a (.func f t c) m).run P w=stored P w a (.func f t c) m:=run_store P w a _ m rfl
attribute [local go_sem] W1
def Kw (lo:Nat)(s:ByteArray)(c:Nat)(e:Ending)(w':World):Prop:=∃bd bl bh,e=.returned (.func (.func 90) #[] #[.pointer (some ⟨bd,0,none⟩),.pointer (some ⟨bl,0,none⟩),.pointer (some ⟨bh,0,none⟩)])/\V3 lo w' bd (.string s)/\V3 lo w' bl (.int .i64 (if c=3 then 1 else 0))/\V3 lo w' bh (.int .i64 (if c=3 then 0 else 1))
theorem PB (s:ByteArray)(w:World):Calls Tryz.prog 62 #[.string s,.int .i64 2] w fun e w'=>Kw w.heap.size s 2 e w'/\b7 (fun _=>False) w w':=by
 go_enter Tryz.func62,Tryz.ntmps62
 go_wp2
 go_ret
 refine⟨⟨_,_,_,rfl,?_,?_,?_⟩,(((b7.refl _ w).alloc _).alloc _).alloc _⟩
 ·exact((V3.made rfl (Nat.le_refl _)).alloc _).alloc _
 ·exact(V3.made (by simp) (by omega)).alloc _
 ·exact V3.made (by simp) (by omega)
theorem Kn (s:ByteArray)(w:World):Calls Tryz.prog 62 #[.string s,.int .i64 3] w fun e w'=>Kw w.heap.size s 3 e w'/\b7 (fun _=>False) w w':=by
 go_enter Tryz.func62,Tryz.ntmps62
 go_wp2
 go_ret
 refine⟨⟨_,_,_,rfl,?_,?_,?_⟩,(((b7.refl _ w).alloc _).alloc _).alloc _⟩
 ·exact((V3.made rfl (Nat.le_refl _)).alloc _).alloc _
 ·exact(V3.made (by simp) (by omega)).alloc _
 ·exact V3.made (by simp) (by omega)
theorem Mn (s:ByteArray)(w:World):Calls Tryz.prog 43 #[.string s,.int .i64 4] w fun e w'=>∃b,e=.returned (.func (.func 65) #[] #[.pointer (some ⟨b,0,none⟩)])/\V3 w.heap.size w' b (.string s)/\b7 (fun _=>False) w w':=by
 go_enter Tryz.func43,Tryz.ntmps43
 go_wp2
 go_ret
 exact⟨_,rfl,V3.made rfl (Nat.le_refl _),(b7.refl _ w).alloc _⟩
theorem Pt (s:ByteArray)(w:World):Calls Tryz.prog 43 #[.string s,.int .i64 1] w fun e w'=>∃b,e=.returned (.func (.func 66) #[] #[.pointer (some ⟨b,0,none⟩)])/\V3 w.heap.size w' b (.string s)/\b7 (fun _=>False) w w':=by
 go_enter Tryz.func43,Tryz.ntmps43
 go_wp2
 go_ret
 exact⟨_,rfl,V3.made rfl (Nat.le_refl _),(b7.refl _ w).alloc _⟩
theorem FD (s:ByteArray)(c:Int)(n:Nat)(w:World)(hcn:(c=2/\n=2)∨(c=3/\n=3))(K:∀w,Calls Tryz.prog 62 #[.string s,.int .i64 c] w fun e w'=>Kw w.heap.size s n e w'/\b7 (fun _=>False) w w'):
 Calls Tryz.prog 43 #[.string s,.int .i64 c] w fun e w'=>∃b bd bl bh,e=.returned (.func (.func 63) #[] #[.pointer (some ⟨b,0,none⟩)])/\V3 w.heap.size w' b (.func (.func 90) #[] #[.pointer (some ⟨bd,0,none⟩),.pointer (some ⟨bl,0,none⟩),.pointer (some ⟨bh,0,none⟩)])/\V3 w.heap.size w' bd (.string s)/\V3 w.heap.size w' bl (.int .i64 (if n=3 then 1 else 0))/\V3 w.heap.size w' bh (.int .i64 (if n=3 then 0 else 1))/\b7 (fun _=>False) w w':=by
 rcases hcn with⟨rfl,rfl⟩|⟨rfl,rfl⟩
 all_goals
  have KK:=b6 K
  clear K
  go_enter Tryz.func43,Tryz.ntmps43
  go_wp2_with fail
  refine(KK.out _).mono ?_
  rintro e w1 ⟨⟨bd,bl,bh,rfl,o1,o2,o3⟩,tc⟩
  have T:=b6 (((tZ w).alloc _).trans tc iE)
  have HL:=b6 (show w.heap.size<=w1.heap.size from T.out.size)
  have HA:=b6 (show w.heap.size<=(w.alloc (.cells #[.string s] 9)).heap.size by simp)
  have O1:=b6 o1
  have O2:=b6 o2
  have O3:=b6 o3
  clear tc o1 o2 o3 KK
  go_wp2
  go_ret
  exact⟨_,rfl,bd,bl,bh,V3.made rfl HL.out,(O1.out.low HA.out).alloc _,(O2.out.low HA.out).alloc _,(O3.out.low HA.out).alloc _,T.out.alloc _⟩
def UH (lo:Nat)(s:ByteArray)(c:Nat)(fid b:Nat)(w:World):Prop:=∀q,q<lo->∀wq,b7 (fun k=>k=q) w wq->J1 wq->∀i:Nat,i<s.size->Calls Tryz.prog fid (#[.int .i64 i]++#[.pointer (some ⟨b,0,none⟩)]) wq fun e w'=>e=.returned (.tuple #[.int .i64 (r8 s c i).1,.int .i64 ((r8 s c i).2:Nat)])/\b7 (fun _=>False) wq w'
theorem Mo (s:ByteArray)(c:Nat)(w:World)(hs:s.size<=140737488351232)(hc:1<=c/\c<=4):
 Calls Tryz.prog 43 #[.string s,.int .i64 c] w fun e w'=>∃fid b,(fid=63∨fid=65∨fid=66)/\e=.returned (.func (.func fid) #[] #[.pointer (some ⟨b,0,none⟩)])/\UH w.heap.size s c fid b w'/\b7 (fun _=>False) w w':=by
 have out:∀{q b:Nat},q<w.heap.size->w.heap.size<=b->¬b=q:=fun h1 h2 e=>by omega
 rcases(show c=1∨c=2∨c=3∨c=4 by omega)with rfl|rfl|rfl|rfl
 ·refine(Pt s w).mono ?_
  rintro e w' ⟨b,rfl,o,tc⟩
  exact⟨66,b,.inr (.inr rfl),rfl,fun q hq wq tq ht i hi=>Ps b i s wq ht (o.kept tq (out hq o.ge)).cell hi hs,tc⟩
 ·refine(FD s 2 2 w (.inl ⟨rfl,rfl⟩) (PB s)).mono ?_
  rintro e w' ⟨b,bd,bl,bh,rfl,o,o1,o2,o3,tc⟩
  refine⟨63,b,.inl rfl,rfl,fun q hq wq tq ht i hi=>GS (Z2 s) b bd bl bh i wq (by omega) (FK s) (o.kept tq (out hq o.ge)).cell (fun wz tz j hj=>?_),tc⟩
  exact Iu bd bl bh j s wz ((o1.kept tq (out hq o1.ge)).kept tz id).cell ((o2.kept tq (out hq o2.ge)).kept tz id).cell ((o3.kept tq (out hq o3.ge)).kept tz id).cell hs hj
 ·refine(FD s 3 3 w (.inr ⟨rfl,rfl⟩) (Kn s)).mono ?_
  rintro e w' ⟨b,bd,bl,bh,rfl,o,o1,o2,o3,tc⟩
  refine⟨63,b,.inl rfl,rfl,fun q hq wq tq ht i hi=>GS (Z1 s) b bd bl bh i wq (by omega) (FJ s) (o.kept tq (out hq o.ge)).cell (fun wz tz j hj=>?_),tc⟩
  exact PA bd bl bh j s wz ((o1.kept tq (out hq o1.ge)).kept tz id).cell ((o2.kept tq (out hq o2.ge)).kept tz id).cell ((o3.kept tq (out hq o3.ge)).kept tz id).cell hs hj
 ·refine(Mn s w).mono ?_
  rintro e w' ⟨b,rfl,o,tc⟩
  exact⟨65,b,.inr (.inl rfl),rfl,fun q hq wq tq _ i hi=>Mm b i s wq (o.kept tq (out hq o.ge)).cell hi,tc⟩
end Go.Proofs.YtdhhcefmmojcmaaGreatDoor
namespace Go.Proofs.YtdhhcefmmojcmaaGreatDoor
open Go.RowKit Go.Lib
def E5 (s p:ByteArray):Bool:=decide (p.size<=s.size)&&((s.extract 0 p.size).toList==p.toList)
theorem EQ (s p:ByteArray)(w:World):Calls Tryz.prog 89 #[.string s,.string p] w fun e w'=>e=.returned (.bool (E5 s p))/\w=w':=by
 by_cases h:p.size<=s.size
 ·have hI:(p.size:Int)<=(s.size:Int):=by omega
  have HB:=b6 (show E5 s p=((s.extract 0 p.size).toList==p.toList)by unfold E5;rw[decide_eq_true h];rfl)
  go_enter Tryz.func89,Tryz.ntmps89
  go_wp2
  go_ret
  exact⟨by rw[HB.out];rfl,rfl⟩
 ·have hI:¬((p.size:Int)<=(s.size:Int)):=by omega
  have HB:=b6 (show E5 s p=false by unfold E5;rw[decide_eq_false h];rfl)
  go_enter Tryz.func89,Tryz.ntmps89
  go_wp2
  go_ret
  exact⟨by rw[HB.out];rfl,rfl⟩
theorem Cg (s p:ByteArray)(w:World):Calls Tryz.prog 61 #[.string s,.string p] w fun e w'=>e=.returned (.bool (E5 s p))/\w=w':=by
 have K:=b6 (EQ s p w)
 go_enter Tryz.func61,Tryz.ntmps61
 go_wp2_with fail
 refine K.out.mono ?_
 rintro e w1 ⟨rfl,rfl⟩
 go_wp2
 go_ret
 exact⟨rfl,rfl⟩
def mk (c:Nat):ByteArray:=if c=1 then⟨#[239,187,191]⟩else if c=2 then⟨#[255,254]⟩else if c=3 then⟨#[254,255]⟩else⟨#[]⟩
theorem MX {w:World}(h:J1 w)(c:Nat)(hc:c<5):w.cell? ⟨0,c,none⟩=some (.string (mk c)):=by
 obtain⟨⟨t,h0⟩,_⟩:=h
 unfold World.cell?
 rw[h0]
 rcases(show c=0∨c=1∨c=2∨c=3∨c=4 by omega)with rfl|rfl|rfl|rfl|rfl<;>rfl
theorem MY (c:Nat):(mk c).size<=3:=by
 unfold mk
 split
 ·decide
 ·split
  ·decide
  ·split<;>decide
def sn (s:ByteArray):Nat->Nat->Nat×Nat
 |0,_=>(1,0)
 |k+1,c=>if E5 s (mk c)then(c,(mk c).size)else sn s k (c+1)
theorem Pf (s:ByteArray)(w:World)(ht:J1 w):Calls Tryz.prog 60 #[.string s] w fun e w'=>e=.returned (.tuple #[.int .i64 ((sn s 3 1).1:Nat),.int .i64 ((sn s 3 1).2:Nat)])/\b7 (fun _=>False) w w':=by
 have HT:=b6 ht
 obtain⟨R,hR⟩:∃R,sn s 3 1=R:=⟨_,rfl⟩
 have HR:=b6 hR
 rw[hR]
 clear ht hR
 go_enter Tryz.func60,Tryz.ntmps60
 go_wp2_with fail
 go_loopg [4] 3 (fun gk i wq=>∃k:Nat,k+gk=4/\1<=k/\i=.int .i64 (k:Nat)/\sn s gk k=R/\w=wq)
 case atStart=>exact⟨1,rfl,Nat.le_refl _,rfl,HR.out,rfl⟩
 case round=>
  obtain⟨k,hk,h1,rfl,hsn,rfl⟩:=hrel
  have HS:=b6 hsn
  clear hsn HR
  by_cases hlt:k<=3
  ·obtain⟨gk,rfl⟩:∃q,gk=q+1:=⟨gk-1,by omega⟩
   have d0:=MX HT.out k (by omega)
   have HST:=b6 (show(if E5 s (mk k)then(k,(mk k).size)else sn s gk (k+1))=R from HS.out)
   have hms:=MY k
   have KH:=b6 (Cg s (mk k) w)
   have hkI:(k:Int)<=3:=by omega
   clear HS
   generalize mk k=p at*
   obtain⟨X,hX⟩:∃X,E5 s p=X:=⟨_,rfl⟩
   rw[hX]at HST KH
   clear hX
   cases X
   ·have HRE:=b6 (show sn s gk (k+1)=R from HST.out)
    go_wp2_with fail
    refine KH.out.mono ?_
    rintro e w1 ⟨rfl,rfl⟩
    go_wp2
    go_roundg gk
    case measure=>omega
    case rel=>exact⟨k+1,by omega,by omega,by go_num,HRE.out,rfl⟩
   ·have HRE:=b6 (show(k,p.size)=R from HST.out)
    go_wp2_with fail
    refine KH.out.mono ?_
    rintro e w1 ⟨rfl,rfl⟩
    go_wp2_with fail
    go_quiet (fail)
    go_wp2
    go_ret2
    exact⟨by rw[<-HRE.out];rfl,(b7.refl _ _).drewN _⟩
  ·obtain rfl:gk=0:=by omega
   have HRE:=b6 (show(1,0)=R from HS.out)
   have hkI:¬((k:Int)<=3):=by omega
   go_wp2
   go_ret2
   exact⟨by rw[<-HRE.out];rfl,b7.refl _ _⟩
def bg (s:ByteArray)(c:Nat):Nat×Nat:=if c=0 then sn s 3 1 else if E5 s (mk c)then(c,(mk c).size)else(c,0)
theorem FT (s:ByteArray)(c:Nat)(hc:c<=4)(w:World)(ht:J1 w):Calls Tryz.prog 42 #[.string s,.int .i64 c] w fun e w'=>e=.returned (.tuple #[.int .i64 ((bg s c).1:Nat),.int .i64 ((bg s c).2:Nat)])/\b7 (fun _=>False) w w':=by
 by_cases h0:c=0
 ·subst h0
  have KS:=b6 (Pf s w ht)
  rw[show bg s 0=sn s 3 1 from rfl]
  generalize sn s 3 1=R at*
  clear ht
  go_enter Tryz.func42,Tryz.ntmps42
  go_wp2_with fail
  refine KS.out.mono ?_
  rintro e w1 ⟨rfl,tc⟩
  have T:=b6 tc
  clear tc KS
  go_wp2
  go_ret2
  exact⟨rfl,T.out⟩
 ·obtain⟨R,hR⟩:∃R,bg s c=R:=⟨_,rfl⟩
  have HR:=b6 hR
  unfold bg at HR
  rw[if_neg h0]at HR
  rw[hR]
  have d0:=MX ht c (by omega)
  have hms:=MY c
  have KH:=b6 (Cg s (mk c) w)
  have hcd:decide ((c:Int)=0)=false:=decide_eq_false (by omega)
  have hcd2:((c:Int)==0)=false:=by rw[beq_eq_false_iff_ne];omega
  have hcI:(c:Int)<5:=by omega
  clear hR ht h0
  generalize mk c=p at*
  obtain⟨X,hX⟩:∃X,E5 s p=X:=⟨_,rfl⟩
  rw[hX]at HR KH
  clear hX
  cases X
  ·have HRE:=b6 (show(c,0)=R from HR.out)
   go_enter Tryz.func42,Tryz.ntmps42
   go_wp2_with fail
   refine KH.out.mono ?_
   rintro e w1 ⟨rfl,rfl⟩
   go_wp2
   go_ret2
   exact⟨by rw[<-HRE.out];rfl,b7.refl _ _⟩
  ·have HRE:=b6 (show(c,p.size)=R from HR.out)
   go_enter Tryz.func42,Tryz.ntmps42
   go_wp2_with fail
   refine KH.out.mono ?_
   rintro e w1 ⟨rfl,rfl⟩
   go_wp2_with fail
   go_quiet (fail)
   go_wp2
   go_ret2
   exact⟨by rw[<-HRE.out];rfl,(b7.refl _ _).drewN _⟩
structure L2 (W0 wr:World)(q:Nat)(ty:TypeId)(cs:Array Value)(v1 v2:Value)(rs ps:List Int):Prop where
 o1:wr.ownsRow 0 3 1 v1 rs.length (J3 rs)
 o2:wr.ownsRow 0 3 1 v2 ps.length (J3 ps)
 n1:∀g,v1.ownBlock=some g->W0.heap.size<=g
 n2:∀g,v2.ownBlock=some g->W0.heap.size<=g
 ne:∀g,v1.ownBlock=some g->v2.ownBlock≠some g
 blk:wr.heap[q]? =some (.cells cs ty (0,0))
 touch:b7 (fun k=>k=q) W0 wr
theorem V0 {w:World}{v:Value}{n:Nat}{xs:List Value}(h:w.ownsRow 0 3 1 v n xs){g:Nat}(hg:v.ownBlock=some g):∃cur,w.heap[g]? =some (.cells cur 3 (0,0)):=by
 rcases h.2 with⟨rfl,_⟩|⟨b,cap,cur,rfl,_,hh,_⟩
 ·simp[Value.ownBlock]at hg
 ·simp[Value.ownBlock]at hg
  subst hg
  exact⟨cur,hh⟩
theorem S8 {w w':World}{v:Value}{n:Nat}{xs:List Value}(h:w.ownsRow 0 3 1 v n xs)(hb:∀g,v.ownBlock=some g->w'.heap[g]? =w.heap[g]?):w'.ownsRow 0 3 1 v n xs:=by
 refine⟨h.1,?_⟩
 rcases h.2 with h0|⟨g,cap,cur,rfl,hg,hh,rest⟩
 ·exact .inl h0
 ·exact .inr ⟨g,cap,cur,rfl,hg,(hb g rfl).trans hh,rest⟩
theorem L2.ne1 {W0 wr:World}{q:Nat}{ty:TypeId}{cs:Array Value}{v1 v2:Value}{rs ps:List Int}(h:L2 W0 wr q ty cs v1 v2 rs ps)(ht:ty≠3):v1.ownBlock≠some q:=fun e=>by
 obtain⟨cur,hc⟩:=V0 h.o1 e
 rw[h.blk]at hc
 simp at hc
 exact ht hc.2
theorem L2.ne2 {W0 wr:World}{q:Nat}{ty:TypeId}{cs:Array Value}{v1 v2:Value}{rs ps:List Int}(h:L2 W0 wr q ty cs v1 v2 rs ps)(ht:ty≠3):v2.ownBlock≠some q:=fun e=>by
 obtain⟨cur,hc⟩:=V0 h.o2 e
 rw[h.blk]at hc
 simp at hc
 exact ht hc.2
theorem L2.still {W0 wr w':World}{q:Nat}{ty:TypeId}{cs:Array Value}{v1 v2:Value}{rs ps:List Int}(h:L2 W0 wr q ty cs v1 v2 rs ps)(t:b7 (fun _=>False) wr w'):L2 W0 w' q ty cs v1 v2 rs ps:=
 ⟨S8 h.o1 (fun g hg=>t.block g (lt_of_block (V0 h.o1 hg).choose_spec) id),S8 h.o2 (fun g hg=>t.block g (lt_of_block (V0 h.o2 hg).choose_spec) id),h.n1,h.n2,h.ne,(t.block q (lt_of_block h.blk) id).trans h.blk,h.touch.trans t nE⟩
theorem L2.set {W0 wr:World}{q:Nat}{ty:TypeId}{cs:Array Value}{v1 v2:Value}{rs ps:List Int}(h:L2 W0 wr q ty cs v1 v2 rs ps)(ht:ty≠3)(i:Nat)(x:Value):L2 W0 (wr.setCell ⟨q,i,none⟩ x) q ty (cs.set! i x) v1 v2 rs ps:=
 ⟨S8 h.o1 (fun g hg=>Below.heap_setCell _ _ _ _ (fun e=>h.ne1 ht (by rw[hg,e]))),S8 h.o2 (fun g hg=>Below.heap_setCell _ _ _ _ (fun e=>h.ne2 ht (by rw[hg,e]))),h.n1,h.n2,h.ne,i8 h.blk i x,h.touch.setCell (fun _=>rfl) x⟩
theorem L2.app1 {W0 wr w1:World}{q:Nat}{ty:TypeId}{cs:Array Value}{v1 v2 v':Value}{rs ps:List Int}{x:Int}{o:Obj}(h:L2 W0 wr q ty cs v1 v2 rs ps)(ht:ty≠3)(hown:w1.ownsRow 0 3 1 v' (rs.length+1) (J3 rs++ [.int .i64 x]))(hg:(wr.alloc o).grownBy w1 v1.ownBlock)(hat:v'.ownBlock=v1.ownBlock∨v'.ownBlock=some (wr.heap.size+1)):L2 W0 w1 q ty cs v' v2 (rs++ [x]) ps:=by
 have key:∀k,k<wr.heap.size->v1.ownBlock≠some k->w1.heap[k]? =wr.heap[k]? :=fun k hk hn=>by
  rw[hg.block k (by simp;omega) (fun e=>hn e.symm),Below.heap_alloc _ _ _ hk]
 refine⟨?_,S8 h.o2 (fun g e=>key g (lt_of_block (V0 h.o2 e).choose_spec) (fun k=>h.ne g k e)),fun g e=>?_,h.n2,fun g e k=>?_,(key q (lt_of_block h.blk) (h.ne1 ht)).trans h.blk,(h.touch.alloc o).grown hg (fun k e hk=>by have:=h.n1 k e;omega)⟩
 ·rw[List.length_append,J3,List.map_append]
  exact hown
 ·rcases hat with k|k
  ·exact h.n1 g (by rw[<-k];exact e)
  ·rw[k]at e
   simp at e
   have:=h.touch.size
   omega
 ·rcases hat with z|z
  ·exact h.ne g (by rw[<-z];exact e) k
  ·rw[z]at e
   simp at e
   have:=lt_of_block (V0 h.o2 k).choose_spec
   omega
theorem L2.app2 {W0 wr w1:World}{q:Nat}{ty:TypeId}{cs:Array Value}{v1 v2 v':Value}{rs ps:List Int}{x:Int}{o:Obj}(h:L2 W0 wr q ty cs v1 v2 rs ps)(ht:ty≠3)(hown:w1.ownsRow 0 3 1 v' (ps.length+1) (J3 ps++ [.int .i64 x]))(hg:(wr.alloc o).grownBy w1 v2.ownBlock)(hat:v'.ownBlock=v2.ownBlock∨v'.ownBlock=some (wr.heap.size+1)):L2 W0 w1 q ty cs v1 v' rs (ps++ [x]):=by
 have key:∀k,k<wr.heap.size->v2.ownBlock≠some k->w1.heap[k]? =wr.heap[k]? :=fun k hk hn=>by
  rw[hg.block k (by simp;omega) (fun e=>hn e.symm),Below.heap_alloc _ _ _ hk]
 refine⟨S8 h.o1 (fun g e=>key g (lt_of_block (V0 h.o1 e).choose_spec) (h.ne g e)),?_,h.n1,fun g e=>?_,fun g e k=>?_,(key q (lt_of_block h.blk) (h.ne2 ht)).trans h.blk,(h.touch.alloc o).grown hg (fun k e hk=>by have:=h.n2 k e;omega)⟩
 ·rw[List.length_append,J3,List.map_append]
  exact hown
 ·rcases hat with k|k
  ·exact h.n2 g (by rw[<-k];exact e)
  ·rw[k]at e
   simp at e
   have:=h.touch.size
   omega
 ·rcases hat with z|z
  ·exact h.ne g e (by rw[<-z];exact k)
  ·rw[z]at k
   simp at k
   have:=lt_of_block (V0 h.o1 e).choose_spec
   omega
theorem I4 {P:Program}{fn:Func}{p q:Tmp}{ty ty2:TypeId}(h:fn.results=#[.cell p ty,.cell q ty2])(tmps:Array Value)(w:World)(g g2:Nat)(et et2:TypeId)(cs cs2:Array Value)(fr fr2:Nat×Nat)(d d2:TypeDesc)
 (hp:tmps.getD p undef=.pointer (some ⟨g,0,none⟩)) (hg:w.heap[g]? =some (.cells cs et fr))
 (hu:P.underlying ty=some d) (hd:(match d with| .struct _| .array _ _=>true|_=>false)=true) (hi:(P.info? ty).map (·.size)=some cs.size)
 (hp2:tmps.getD q undef=.pointer (some ⟨g2,0,none⟩)) (hg2:w.heap[g2]? =some (.cells cs2 et2 fr2))
 (hu2:P.underlying ty2=some d2) (hd2:(match d2 with| .struct _| .array _ _=>true|_=>false)=true) (hi2:(P.info? ty2).map (·.size)=some cs2.size):
 (results fn tmps).run P w=.ok (.tuple #[.agg cs,.agg cs2]) w:=by
 have hp':tmps[p]?.getD undef=.pointer (some ⟨g,0,none⟩):=by simpa using hp
 have hp2':tmps[q]?.getD undef=.pointer (some ⟨g2,0,none⟩):=by simpa using hp2
 simp[results,h,hp',hp2',asAddr,run_loadVar_row w g et ty cs fr d hg hu hd hi,run_loadVar_row w g2 et2 ty2 cs2 fr2 d2 hg2 hu2 hd2 hi2]
theorem GV (U:Nat->Int)(i:Nat):1<=(M9 U i).2/\(M9 U i).2<=4:=by
 unfold M9
 split
 ·simp
 ·split
  ·simp
  ·split<;>simp
theorem GW (s:ByteArray)(m:Nat)(hm:m<=3):∀(k i sc lo hi:Nat),1<=i->i+k=m+1->1<=(Al s m k i sc lo hi).2/\(Al s m k i sc lo hi).2<=4
 |0,i,sc,lo,hi,h1,h2=>by
  unfold Al
  dsimp only
  omega
 |k+1,i,sc,lo,hi,h1,h2=>by
  unfold Al
  split
  ·dsimp only
   omega
  ·exact GW s m hm k (i+1) _ _ _ (by omega) (by omega)
theorem Sc (s:ByteArray):1<=(DD s).2/\(DD s).2<=4:=by
 unfold DD
 split
 ·simp
 ·rename_i l h
  have:=MS h
  exact GW s l.more (by omega) l.more 1 _ _ _ (Nat.le_refl _) (by omega)
theorem Af (s:ByteArray)(c i:Nat):1<=(r8 s c i).2/\(r8 s c i).2<=4:=by
 unfold r8
 split
 ·exact GV _ _
 ·split
  ·exact GV _ _
  ·split
   ·simp
   ·exact Sc _
def F8 (s:ByteArray)(c:Nat)(strict:Bool):Nat->Nat->List Int->List Int->Nat->Option Nat×List Int×List Int×Nat
 |0,_,rs,ps,bad=>(none,rs,ps,bad)
 |k+1,i,rs,ps,bad=>
  if i<s.size then
   if(r8 s c i).1= -1 then
    if strict=true then(some i,[],[],0)else F8 s c strict k (i+(r8 s c i).2) (rs++ [65533]) (ps++ [(i:Int)]) (bad+1)
   else F8 s c strict k (i+(r8 s c i).2) (rs++ [(r8 s c i).1]) (ps++ [(i:Int)]) bad
  else(none,rs,ps,bad)
theorem Ay {s:ByteArray}{c:Nat}{strict:Bool}{k i:Nat}{rs ps:List Int}{bad:Nat}(h:s.size<=i):F8 s c strict k i rs ps bad=(none,rs,ps,bad):=by
 cases k with
 |zero=>rfl
 |succ k=>
  unfold F8
  rw[if_neg (by omega)]
theorem U0 {s:ByteArray}{c:Nat}{strict:Bool}{k i:Nat}{rs ps:List Int}{bad:Nat}(h:i<s.size):F8 s c strict (k+1) i rs ps bad=if(r8 s c i).1= -1 then
        if strict=true then(some i,[],[],0)else F8 s c strict k (i+(r8 s c i).2) (rs++ [65533]) (ps++ [(i:Int)]) (bad+1)
 else F8 s c strict k (i+(r8 s c i).2) (rs++ [(r8 s c i).1]) (ps++ [(i:Int)]) bad:=by
 conv=>lhs;unfold F8
 rw[if_pos h]
end Go.Proofs.YtdhhcefmmojcmaaGreatDoor
