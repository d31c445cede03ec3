/- Texts of this proof, one behind the other. -/
import Derived.Test.YtdhhcefmmojcmaaGreatDoorM5
import Derived.Test.YtdhhcefmmojcmaaGreatDoorM20
set_option maxRecDepth 100000
set_option maxHeartbeats 0
set_option linter.unusedVariables false
namespace Go.Proofs.YtdhhcefmmojcmaaGreatDoor
open Go.RowKit Go.Lib
theorem PM (s:List R2):Z4 s []=[]:=by
 cases s<;>rw[Z4]
theorem Rg.head {w:World}{a:Option Addr}{x:R2}{s:List R2}(h:Rg w a (x::s)):∃b o,a=some ⟨b,o,none⟩/\b<w.heap.size/\w.cell? ⟨b,o,none⟩=some (.int .i64 x.1)/\w.cell? ⟨b,o+1,none⟩=some (.int .i64 x.2)/\Rg w (some ⟨b,o+2,none⟩) s:=by
 rcases h with h|⟨b,o,rfl,hb,hc⟩
 ·simp at h
 ·have h0:=hc 0 (by simp)
  simp only[Nat.zero_mul,Nat.add_zero,List.getElem_cons_zero]at h0
  refine⟨b,o,rfl,hb,h0.1,h0.2,.inr ⟨b,o+2,rfl,hb,fun i hi=>?_⟩⟩
  have:=hc (i+1) (by simpa using hi)
  rw[show o+(i+1)*2=o+2+i*2 by omega]at this
  simpa using this
theorem Sv (a1 a2:Option Addr)(c1 c2:Nat)(s t:List R2)(w:World)(h1:Rg w a1 s)(h2:Rg w a2 t)(k1:s.length<=c1)(k2:t.length<=c2)(hb:s.length+t.length<=4194304):
 Calls Tryz.prog 133 #[.slice a1 s.length c1,.slice a2 t.length c2] w fun e w'=>∃v,e=.returned v/\E9 w w' 60 v (Z4 s t):=by
 obtain⟨i0,hi33,hz0,hz1,hz2⟩:=info_parts AB
 have H1:=b6 h1
 have H2:=b6 h2
 have K1:=b6 k1
 have K2:=b6 k2
 clear h1 h2 k1 k2
 go_enter Tryz.func133,Tryz.ntmps133
 go_wp2_with fail
 go_loopg [0,1,5] (s.length+t.length) (fun gk v0 v1 v wr=>∃(p q o:List R2) (b1 b2:Option Addr) (d1 d2:Nat),p.length+q.length=gk/\v0=.slice b1 p.length d1/\v1=.slice b2 q.length d2/\p.length<=d1/\q.length<=d2/\Rg w b1 p/\Rg w b2 q/\o.length+p.length+q.length<=s.length+t.length/\o++Z4 p q=Z4 s t/\E9 w wr 60 v o)
 case atStart=>exact⟨s,t,[],a1,a2,c1,c2,rfl,rfl,rfl,K1.out,K2.out,H1.out,H2.out,by simp,rfl,E9.nil _ _⟩
 case round=>
  obtain⟨p,q,o,b1,b2,d1,d2,hgk,rfl,rfl,l1,l2,r1,r2,hol,heq,how⟩:=hrel
  have OW:=b6 how
  have HE:=b6 heq
  have R1:=b6 (r1.new how.touch)
  have R2:=b6 (r2.new how.touch)
  have R01:=b6 r1
  have R02:=b6 r2
  obtain⟨av,cv,hav⟩:=e9 how.own
  subst hav
  clear how r1 r2 heq
  obtain⟨M,hM⟩:∃M,M=o.length:=⟨_,rfl⟩
  rw[<-hM]at OW⊢
  have HM:=b6 hM
  clear hM
  cases p with
  |nil=>
   have HEE:=b6 (show o=Z4 s t from by have:=HE.out;rw[Z4,List.append_nil]at this;exact this)
   go_wp2
   go_ret
   refine⟨_,rfl,?_⟩
   rw[<-HEE.out]
   exact OW.out
  |cons x p=>
   cases q with
   |nil=>
    have HEE:=b6 (show o=Z4 s t from by have:=HE.out;rw[PM,List.append_nil]at this;exact this)
    go_wp2
    go_ret
    refine⟨_,rfl,?_⟩
    rw[<-HEE.out]
    exact OW.out
   |cons y q=>
    obtain⟨xa,xb⟩:=x
    obtain⟨ya,yb⟩:=y
    obtain⟨e1,o1,hb1,_,x0,x1,rp⟩:=R1.out.head
    obtain⟨e2,o2,hb2,_,y0,y1,rq⟩:=R2.out.head
    obtain⟨_,_,hb1',_,_,_,rp0⟩:=R01.out.head
    obtain⟨_,_,hb2',_,_,_,rq0⟩:=R02.out.head
    subst hb1
    subst hb2
    simp only[Option.some.injEq,Addr.mk.injEq,and_true]at hb1' hb2'
    obtain⟨rfl,rfl⟩:=hb1'
    obtain⟨rfl,rfl⟩:=hb2'
    have RP:=b6 rp0
    have RQ:=b6 rq0
    dsimp only at x0 x1 y0 y1
    clear rp rq rp0 rq0
    simp only[List.length_cons]at hgk l1 l2 hol⊢
    have CA:=b6 (fun wq=>EJ xa xb ya yb wq)
    obtain⟨cx,hcx⟩:∃cx,cx=max xa ya:=⟨_,rfl⟩
    obtain⟨cy,hcy⟩:∃cy,cy=min xb yb:=⟨_,rfl⟩
    rw[<-hcx,<-hcy]at CA
    have HAL:=b6 (show Z4 ((xa,xb)::p) ((ya,yb)::q)=(if cx<=cy then[(cx,cy)]else[])++(if xb<yb then Z4 p ((ya,yb)::q)else Z4 ((xa,xb)::p) q)from by rw[Z4,hcx,hcy])
    clear hcx hcy
    go_upto_region 3 with fail
    go_cut [6] (fun v wd=>∃rb,v=.pointer (some ⟨rb,0,none⟩)/\wd.heap[rb]? =some (.cells #[.int .i64 cx,.int .i64 cy] 60 (0,0))/\b7 (fun _=>False) wr wd/\wr.heap.size<=rb)
    case first=>
     go_region_with (go_at_call 33;refine(CA.out _).mono ?_;rintro e w1 ⟨rfl,tc⟩;have TC:=b6 tc;(try (have jb:w1.heap[wr.heap.size]? =some (.cells #[.int .i64 0,.int .i64 0] 60 (0,0)):=(tc.block _ (by simp) id).trans (by show(wr.heap.push _)[_]? =_;simp);have JB:=b6 jb;have j0:=F7 jb;have j1:=E2 jb;have jf0:=AL (i:=0) jb;have jf1:=AL (i:=1) jb;clear jb));clear tc)
     all_goals
      go_wp2
      go_meet
      case rel=>
       first
       |exact⟨_,rfl,Ae _ _ _,((b7.refl _ wr).drew.trans TC.out iE).alloc _,TC.out.size⟩
       |exact⟨_,rfl,Kl (Kk JB.out),((((tZ wr).drew.alloc (.cells #[.int .i64 0,.int .i64 0] 60)).trans TC.out iE).setCell (p:=⟨wr.heap.size,0,none⟩) (fun h=>absurd h (Nat.lt_irrefl _)) _).setCell (p:=⟨wr.heap.size,1,none⟩) (fun h=>absurd h (Nat.lt_irrefl _)) _,Nat.le_refl _⟩
    obtain⟨rb,rfl,hrb,tcw,hge⟩:=hcut
    have RB:=b6 hrb
    have OA:=b6 (OW.out.still tcw)
    have HOWN:=b6 (show ∀g,(Value.slice av M cv).ownBlock=some g->g≠rb from fun g e=>by
     have:=(OW.out.own.lt g e).2
     omega)
    have z0:=F7 hrb
    have z1:=E2 hrb
    have hMb:M<=4194304:=by rw[HM.out];omega
    have hob:o.length<=4194304:=by omega
    clear hrb tcw OW x0 x1 y0 y1 R1 R2
    go_upto_if 26 with fail
    go_cut [5] (fun v wd=>E9 w wd 60 v (o++(if cx<=cy then[(cx,cy)]else[]))/\b7 (fun k=>w.heap.size<=k) wc wd)
    case first=>
     by_cases hc:cx<=cy
     ·rw[decide_eq_true hc]
      go_wp2_with (at_builtin;refine wpList_append_own_at _ rfl _ _ 25 rfl 0 60 i0 (.agg #[.int .i64 0,.int .i64 0]) 2 16 Tryz.underlying25 hi33 hz0 hz1 hz2 rfl (by decide) _ _ _ rfl (OA.out.own.alloc _) ⟨wc.heap.size,0,none⟩ 1 1 [.int .i64 cx,.int .i64 cy] rfl rfl (z7 wc [.int .i64 cx,.int .i64 cy] 60) (by intro u hu;simp at hu;rcases hu with rfl|rfl<;>rfl) (by unfold maxLen;omega) (by omega) (Nat.zero_le _) ?_)
      intro v' w4 hown hgrow _ hat
      have OC:=b6 (OA.out.more (xs:=[(cx,cy)]) hown hgrow hat)
      have TG:=b6 (((b7.refl (fun k=>w.heap.size<=k) wc).alloc (.cells #[.int .i64 cx,.int .i64 cy] 60)).grown hgrow (fun k e hk=>OA.out.new k e))
      have HC:=b6 hc
      clear hown hgrow hat hc
      go_wp2
      go_meet
      case rel=>
       rw[if_pos HC.out]
       exact⟨OC.out,TG.out⟩
     ·have HC:=b6 hc
      rw[decide_eq_false hc]
      clear hc
      go_wp2
      go_meet
      case rel=>
       rw[if_neg (by have:=HC.out;omega),List.append_nil]
       exact⟨OA.out,b7.refl _ _⟩
    obtain⟨owx,_⟩:=hcut
    have ol2:(o++(if cx<=cy then[(cx,cy)]else[])).length<=o.length+1:=by
     rw[List.length_append]
     split<;>simp
    obtain⟨o2,ho2⟩:∃o2,o2=o++(if cx<=cy then[(cx,cy)]else[]):=⟨_,rfl⟩
    rw[<-ho2]at owx ol2
    have HE2:=b6 (show o2++(if xb<yb then Z4 p ((ya,yb)::q)else Z4 ((xa,xb)::p) q)=Z4 s t from by rw[<-HE.out,HAL.out,ho2,List.append_assoc])
    have OX:=b6 owx
    obtain⟨av5,cv5,hv5⟩:=e9 owx.own
    subst hv5
    have Q1:=(R01.out.new owx.touch).head
    have Q2:=(R02.out.new owx.touch).head
    obtain⟨f1,g1,hb1,_,x0,x1,_⟩:=Q1
    obtain⟨f2,g2,hb2,_,y0,y1,_⟩:=Q2
    simp only[Option.some.injEq,Addr.mk.injEq,and_true]at hb1 hb2
    obtain⟨rfl,rfl⟩:=hb1
    obtain⟨rfl,rfl⟩:=hb2
    dsimp only at x0 x1 y0 y1
    clear ho2 owx z0 z1
    go_upto_region 6 with fail
    go_cut [39] (fun v wd=>v=.bool (decide (xb<yb))/\b7 (fun _=>False) wc wd)
    case first=>
     go_quiet (fail)
     go_wp2
     go_meet
     case rel=>exact⟨rfl,(b7.refl _ _).drewN _⟩
    obtain⟨rfl,tcz⟩:=hcut
    have OZ:=b6 (OX.out.still tcz)
    clear tcz x0 x1 y0 y1
    by_cases hxy:xb<yb
    ·rw[decide_eq_true hxy]
     have HXY:=b6 hxy
     clear hxy
     by_cases hd:d1=1
     ·have hp0:p=[]:=List.eq_nil_of_length_eq_zero (by omega)
      subst hp0
      subst hd
      go_wp2_with fail
      go_roundg (gk-1)
      case measure=>omega
      case rel=>
       refine⟨[],(ya,yb)::q,o2,_,_,_,_,?_,rfl,rfl,Nat.zero_le _,by simpa using l2,.inl rfl,R02.out,?_,?_,OZ.out⟩
       ·simp;simp at hgk;omega
       ·simp;simp at hol;omega
       ·have:=HE2.out
        rw[if_pos HXY.out]at this
        exact this
     ·have g1':(1:Int)<=((p.length+1:Nat):Int):=by omega
      have g2':(1:Int)<=(d1:Int):=by omega
      go_wp2_with fail
      go_roundg (gk-1)
      case measure=>omega
      case rel=>
       refine⟨p,(ya,yb)::q,o2,_,_,_,_,?_,rfl,rfl,by omega,by simpa using l2,RP.out,R02.out,?_,?_,OZ.out⟩
       ·simp;omega
       ·simp;omega
       ·have:=HE2.out
        rw[if_pos HXY.out]at this
        exact this
    ·rw[decide_eq_false hxy]
     have HXY:=b6 hxy
     clear hxy
     by_cases hd:d2=1
     ·have hp0:q=[]:=List.eq_nil_of_length_eq_zero (by omega)
      subst hp0
      subst hd
      go_wp2_with fail
      go_roundg (gk-1)
      case measure=>omega
      case rel=>
       refine⟨(xa,xb)::p,[],o2,_,_,_,_,?_,rfl,rfl,by simpa using l1,Nat.zero_le _,R01.out,.inl rfl,?_,?_,OZ.out⟩
       ·simp;simp at hgk;omega
       ·simp;simp at hol;omega
       ·have:=HE2.out
        rw[if_neg (by have:=HXY.out;omega)]at this
        exact this
     ·have g1':(1:Int)<=((q.length+1:Nat):Int):=by omega
      have g2':(1:Int)<=(d2:Int):=by omega
      go_wp2_with fail
      go_roundg (gk-1)
      case measure=>omega
      case rel=>
       refine⟨(xa,xb)::p,q,o2,_,_,_,_,?_,rfl,rfl,by simpa using l1,by omega,R01.out,RQ.out,?_,?_,OZ.out⟩
       ·simp;omega
       ·simp;omega
       ·have:=HE2.out
        rw[if_neg (by have:=HXY.out;omega)]at this
        exact this
theorem PN (a1 a2:Option Addr)(c1 c2:Nat)(s t:List R2)(w:World)(h1:Rg w a1 s)(h2:Rg w a2 t)(k1:s.length<=c1)(k2:t.length<=c2)(hs:l9 s)(ht:l9 t):
 Calls Tryz.prog 133 #[.slice a1 s.length c1,.slice a2 t.length c2] w fun e w'=>∃v n,e=.returned v/\l9 n/\(∀x,In x n↔In x s/\In x t)/\E9 w w' 60 v n:=by
 refine(Sv a1 a2 c1 c2 s t w h1 h2 k1 k2 (by have:=W7 hs;have:=W7 ht;omega)).mono ?_
 rintro e w' ⟨v,rfl,ow⟩
 have h:=Dp s t hs ht
 exact⟨v,Z4 s t,rfl,h.1,h.2,ow⟩
theorem E9.cap {W0 wr:World}{e n cap:Nat}{a:Option Addr}{s:List R2}(h:E9 W0 wr e (.slice a n cap) s):s.length<=cap:=by
 rcases h.own.2 with⟨_,h0⟩|⟨g,cap',cur,hv,_,_,hle,_⟩
 ·omega
 ·simp only[Value.slice.injEq]at hv
  omega
theorem OF (a1 a2:Option Addr)(c1 c2:Nat)(s t:List R2)(w:World)(h1:Rg w a1 s)(h2:Rg w a2 t)(k1:s.length<=c1)(hs:l9 s)(ht:l9 t):
 Calls Tryz.prog 115 #[.slice a1 s.length c1,.slice a2 t.length c2] w fun e w'=>∃v n,e=.returned v/\l9 n/\(∀x,In x n↔In x s/\¬In x t)/\E9 w w' 60 v n:=by
 have K:=b6 (BC a2 c2 t w h2 ht)
 have H1:=b6 h1
 have KK:=b6 k1
 clear h1 h2 k1
 go_enter Tryz.func115,Tryz.ntmps115
 go_wp2_with fail
 refine K.out.mono ?_
 rintro e w1 ⟨v,n,rfl,hcn,hin,ow⟩
 obtain⟨a3,c3,hv,hrg⟩:=ow.rg
 subst hv
 have K2:=b6 (PN a1 a3 c1 c3 s n w1 (H1.out.new ow.touch) hrg KK.out ow.cap hs hcn)
 have T1:=b6 ow.touch
 have HIN:=b6 hin
 clear hrg ow hcn hin K
 go_wp2_with fail
 refine K2.out.mono ?_
 rintro e w2 ⟨v2,m,rfl,hcm,him,ow2⟩
 obtain⟨a4,c4,hv⟩:=e9 ow2.own
 subst hv
 have OW2:=b6 ow2
 have HCM:=b6 hcm
 have HIM:=b6 him
 clear ow2 hcm him K2
 go_wp2
 go_ret
 refine⟨_,m,rfl,HCM.out,fun x=>?_,⟨OW2.out.own,fun g e=>Nat.le_trans T1.out.size (OW2.out.new g e),T1.out.trans OW2.out.touch iE⟩⟩
 rw[HIM.out x,HIN.out x]
 constructor
 ·exact fun h=>⟨h.1,h.2.2⟩
 ·refine fun h=>⟨h.1,?_,h.2⟩
  obtain⟨r,hr,q1,q2⟩:=h.1
  have:=hs.in_ r hr
  unfold Ap at this
  omega
def Fl.arr (f:Fl):Array Value:=#[.bool f.i,.bool f.m,.bool f.s,.bool f.u]
theorem Fl.one (f:Fl):f.arr.all (·.oneCell')=true:=by simp[Fl.arr,Value.oneCell']
theorem F0:(Tryz.prog.info? 38).map (·.size)=some 4:=by kernel_rfl
def Fl.cnt (f:Fl):Nat:=f.i.toNat+f.m.toNat+f.s.toNat+f.u.toNat
theorem PS.row4 {w:World}{b:Nat}{X:Px}{k:Nat}{f:Fl}{vn:Value}{ns:List ByteArray}{op:Nat}(h:PS w b X k f vn ns op){q:Nat}{old cs:Array Value}(hq:b<q)(hb:w.heap[q]? =some (.cells old 38 (0,0))):PS (w.setRow q cs) b X k f vn ns op:=
 h.far (g8 w q cs) (fun g e=>by subst e;exact⟨hq,fun cs fr e=>by rw[hb]at e;cases e⟩)
theorem PS.cell4 {w:World}{b:Nat}{X:Px}{k:Nat}{f:Fl}{vn:Value}{ns:List ByteArray}{op:Nat}(h:PS w b X k f vn ns op){q i:Nat}{old:Array Value}{v:Value}(hq:b<q)(hb:w.heap[q]? =some (.cells old 38 (0,0))):PS (w.setCell ⟨q,i,none⟩ v) b X k f vn ns op:=
 h.far (d9 w q i v) (fun g e=>by subst e;exact⟨hq,fun cs fr e=>by rw[hb]at e;cases e⟩)
theorem DU (b:Nat)(X:Px)(k:Nat)(f:Fl)(vn:Value)(ns:List ByteArray)(op:Nat)(w:World)(h:PS w b X k f vn ns op)(hX:X.Good)(hk:k<=X.R.length):
 Calls Tryz.prog 151 #[.pointer (some ⟨b,0,none⟩)] w fun e w'=>e=.returned (.agg (C3 X.R 5 k x7).1.arr)/\PS w' b X (C3 X.R 5 k x7).2 f vn ns op/\b7 (fun g=>g=b) w w':=by
 obtain⟨A,hA⟩:∃A,A=C3 X.R 5 k x7:=⟨_,rfl⟩
 have HA:=b6 hA.symm
 rw[<-hA]
 clear hA
 have HRl:=b6 hX.lenR
 have T1:=b6 (((tZ w).alloc (.cells x7.arr 38)).alloc (.cells x7.arr 38))
 have B1:=b6 (((((tZ (w.alloc (.cells x7.arr 38))).alloc (.cells x7.arr 38)).block w.heap.size (by simp) id)).trans (e8 w x7.arr 38))
 have B2:=b6 (e8 (w.alloc (.cells x7.arr 38)) x7.arr 38)
 rw[show(w.alloc (.cells x7.arr 38)).heap.size=w.heap.size+1 by simp]at B2
 have HP:=b6 (h.new T1.out)
 have hlt:=h.lt
 clear h hX
 have HKL:=b6 hk
 clear hk
 go_enter Tryz.func151,Tryz.ntmps151
 go_wp2_with fail
 change Hid (b7 _ _ ((w.alloc (.cells #[.bool false,.bool false,.bool false,.bool false] 38)).alloc (.cells #[.bool false,.bool false,.bool false,.bool false] 38)))at T1
 change Hid (PS ((w.alloc (.cells #[.bool false,.bool false,.bool false,.bool false] 38)).alloc (.cells #[.bool false,.bool false,.bool false,.bool false] 38)) _ _ _ _ _ _ _)at HP
 change Hid (((w.alloc (.cells #[.bool false,.bool false,.bool false,.bool false] 38)).alloc (.cells #[.bool false,.bool false,.bool false,.bool false] 38)).heap[_]? =_)at B1
 change Hid (((w.alloc (.cells #[.bool false,.bool false,.bool false,.bool false] 38)).alloc (.cells #[.bool false,.bool false,.bool false,.bool false] 38)).heap[_]? =_)at B2
 generalize (w.alloc (.cells #[.bool false,.bool false,.bool false,.bool false] 38)).alloc (.cells #[.bool false,.bool false,.bool false,.bool false] 38)=w1 at*
 obtain⟨q1,hq1⟩:∃q,q=w.heap.size:=⟨_,rfl⟩
 obtain⟨q2,hq2⟩:∃q,q=w.heap.size+1:=⟨_,rfl⟩
 have HQ:=b6 (show w.heap.size<=q1/\q1<q2/\b<q1 from⟨by omega,by omega,by omega⟩)
 rw[<-hq2]at B2
 rw[<-hq1]at B1
 have e1:q1+1=q2:=by omega
 rw[<-hq1]
 simp only[e1]
 clear hq1 hq2 e1 hlt
 have T2:=b6 (T1.out.mono (S':=fun g=>g=b) nE)
 clear T1
 go_loopg [] 5 (fun gk wq=>∃(kk:Nat) (ff:Fl),Hid (PS wq b X kk f vn ns op)/\Hid (wq.heap[q1]? =some (.cells x7.arr 38 (0,0)))/\Hid (wq.heap[q2]? =some (.cells ff.arr 38 (0,0)))/\Hid (C3 X.R gk kk ff=A)/\Hid (5<=gk+ff.cnt)/\Hid (kk<=X.R.length)/\Hid (b7 (fun g=>g=b) w wq))
 case atStart=>exact⟨k,x7,HP,B1,B2,HA,b6 (Nat.le_refl _),HKL,T2⟩
 case round=>
  obtain⟨kk,⟨fi,fm,fs,fu⟩,HK,BQ,BF,HD,HC,HL,TK⟩:=hrel
  clear HP B1 B2 HA HKL T2
  have h2000:kk<=1024:=by have:=HL.out;have:=HRl.out;omega
  obtain⟨n,hn⟩:∃n,gk=n+1:=by
   have:=HC.out
   have h4:(⟨fi,fm,fs,fu⟩:Fl).cnt<=4:=by cases fi<;>cases fm<;>cases fs<;>cases fu<;>decide
   exact⟨gk-1,by omega⟩
  subst hn
  rw[C3]at HD
  have KL:=b6 (Bj b X kk f vn ns op wr HK.out (by omega))
  have HLT:=b6 (fun(h:g7 X.R kk≠ -1)=>I6 h)
  generalize g7 X.R kk=x at*
  by_cases h105:x=105
  ·subst h105
   cases fi with
   |false=>
    rw[if_pos ⟨rfl,rfl⟩]at HD
    go_wp2_with fail
    refine KL.out.mono ?_
    rintro e w2 ⟨rfl,t1⟩
    have H2:=b6 (HK.out.new t1)
    have Q2:=b6 ((t1.block q1 (lt_of_block BQ.out) id).trans BQ.out)
    have F2:=b6 ((t1.block q2 (lt_of_block BF.out) id).trans BF.out)
    have T2:=b6 (TK.out.trans t1 nE)
    have hkl:=HLT.out (by decide)
    have y0:w2.cell? ⟨q2,0,none⟩=some (.bool false):=by unfold World.cell?;rw[F2.out];rfl
    have g0:w2.frozen? ⟨q2,0,none⟩=false:=by unfold World.frozen?;rw[F2.out];rfl
    have TS:=d9 w2 q2 0 (.bool true)
    have F3:=b6 (show(w2.setCell ⟨q2,0,none⟩ (.bool true)).heap[q2]? =some (.cells (Fl.arr ⟨true,fm,fs,fu⟩) 38 (0,0))from i8 F2.out 0 _)
    have H3:=b6 (H2.out.cell4 (i:=0) (v:=.bool true) (show b<q2 by have:=HQ.out;omega) F2.out)
    have Q3:=b6 ((TS.block q1 (lt_of_block Q2.out) (fun e=>by have:=HQ.out;omega)).trans Q2.out)
    have T3:=b6 (T2.out.trans TS (fun i hi e=>by have:=HQ.out;omega))
    have c5:=H3.out.c5
    have f5:=H3.out.fr 5
    have e5:((kk+1:Nat):Int)=(kk:Int)+1:=by omega
    have TS2:=d9 (w2.setCell ⟨q2,0,none⟩ (.bool true)) b 5 (.int .i64 ((kk+1:Nat):Int))
    have H4:=b6 (H3.out.setk (kk+1))
    have F4:=b6 ((TS2.block q2 (lt_of_block F3.out) (fun e=>by have:=HQ.out;omega)).trans F3.out)
    have Q4:=b6 ((TS2.block q1 (lt_of_block Q3.out) (fun e=>by have:=HQ.out;omega)).trans Q3.out)
    have T4:=b6 (T3.out.trans TS2 (fun i hi e=>e))
    rw[e5]at H4 F4 Q4 T4
    clear t1 KL HLT HK BQ BF TK TS TS2 e5
    go_wp2
    go_roundg n
    case measure=>omega
    case rel=>exact⟨kk+1,⟨true,fm,fs,fu⟩,H4,Q4,F4,HD,b6 (by have:=HC.out;revert this;unfold Fl.cnt;dsimp only;simp only[Bool.toNat_true,Bool.toNat_false];omega),b6 hkl,T4⟩
   |true=>
    rw[if_neg (fun e=>by cases e.2)]at HD
    rw[if_neg (fun e=>absurd e.1 (by decide))]at HD
    rw[if_neg (fun e=>absurd e.1 (by decide))]at HD
    rw[if_neg (fun e=>absurd e.1 (by decide))]at HD
    go_wp2_with fail
    refine KL.out.mono ?_
    rintro e w2 ⟨rfl,t1⟩
    have H2:=b6 (HK.out.new t1)
    have Q2:=b6 ((t1.block q1 (lt_of_block BQ.out) id).trans BQ.out)
    have F2:=b6 ((t1.block q2 (lt_of_block BF.out) id).trans BF.out)
    have T2:=b6 (TK.out.trans t1 nE)
    have y0:w2.cell? ⟨q2,0,none⟩=some (.bool true):=by unfold World.cell?;rw[F2.out];rfl
    have y1:w2.cell? ⟨q2,1,none⟩=some (.bool fm):=by unfold World.cell?;rw[F2.out];rfl
    have y2:w2.cell? ⟨q2,2,none⟩=some (.bool fs):=by unfold World.cell?;rw[F2.out];rfl
    have y3:w2.cell? ⟨q2,3,none⟩=some (.bool fu):=by unfold World.cell?;rw[F2.out];rfl
    clear t1 KL HLT HK BQ BF TK HC
    go_wp2_with (first|refine wpList_load_row rfl 38 _ rfl q2 rfl 38 _ (0,0) _ F2.out Tryz.underlying38 rfl F0 ?_|refine wpList_store_row rfl 38 _ _ rfl q1 _ rfl rfl 38 _ Q2.out F0 (by rfl) (Fl.one _) ?_|fail)
    refine bodyPost_ret (o9 rfl _ _ q1 38 _ (0,0) _ rfl (setRow_heap _ q1 _ _ 38 (0,0) Q2.out) Tryz.underlying38 rfl (by kernel_rfl)) rfl ?_
    rw[<-HD.out]
    exact⟨rfl,H2.out.row4 HQ.out.2.2 Q2.out,T2.out.trans (g8 _ _ _) (fun i hi e=>by have:=HQ.out;omega)⟩
  by_cases h109:x=109
  ·subst h109
   cases fm with
   |false=>
    rw[if_neg (fun e=>absurd e.1 (by decide))]at HD
    rw[if_pos ⟨rfl,rfl⟩]at HD
    go_wp2_with fail
    refine KL.out.mono ?_
    rintro e w2 ⟨rfl,t1⟩
    have H2:=b6 (HK.out.new t1)
    have Q2:=b6 ((t1.block q1 (lt_of_block BQ.out) id).trans BQ.out)
    have F2:=b6 ((t1.block q2 (lt_of_block BF.out) id).trans BF.out)
    have T2:=b6 (TK.out.trans t1 nE)
    have hkl:=HLT.out (by decide)
    have y1:w2.cell? ⟨q2,1,none⟩=some (.bool false):=by unfold World.cell?;rw[F2.out];rfl
    have g1:w2.frozen? ⟨q2,1,none⟩=false:=by unfold World.frozen?;rw[F2.out];rfl
    have TS:=d9 w2 q2 1 (.bool true)
    have F3:=b6 (show(w2.setCell ⟨q2,1,none⟩ (.bool true)).heap[q2]? =some (.cells (Fl.arr ⟨fi,true,fs,fu⟩) 38 (0,0))from i8 F2.out 1 _)
    have H3:=b6 (H2.out.cell4 (i:=1) (v:=.bool true) (show b<q2 by have:=HQ.out;omega) F2.out)
    have Q3:=b6 ((TS.block q1 (lt_of_block Q2.out) (fun e=>by have:=HQ.out;omega)).trans Q2.out)
    have T3:=b6 (T2.out.trans TS (fun i hi e=>by have:=HQ.out;omega))
    have c5:=H3.out.c5
    have f5:=H3.out.fr 5
    have e5:((kk+1:Nat):Int)=(kk:Int)+1:=by omega
    have TS2:=d9 (w2.setCell ⟨q2,1,none⟩ (.bool true)) b 5 (.int .i64 ((kk+1:Nat):Int))
    have H4:=b6 (H3.out.setk (kk+1))
    have F4:=b6 ((TS2.block q2 (lt_of_block F3.out) (fun e=>by have:=HQ.out;omega)).trans F3.out)
    have Q4:=b6 ((TS2.block q1 (lt_of_block Q3.out) (fun e=>by have:=HQ.out;omega)).trans Q3.out)
    have T4:=b6 (T3.out.trans TS2 (fun i hi e=>e))
    rw[e5]at H4 F4 Q4 T4
    clear t1 KL HLT HK BQ BF TK TS TS2 e5
    go_wp2
    go_roundg n
    case measure=>omega
    case rel=>exact⟨kk+1,⟨fi,true,fs,fu⟩,H4,Q4,F4,HD,b6 (by have:=HC.out;revert this;unfold Fl.cnt;dsimp only;simp only[Bool.toNat_true,Bool.toNat_false];omega),b6 hkl,T4⟩
   |true=>
    rw[if_neg (fun e=>absurd e.1 (by decide))]at HD
    rw[if_neg (fun e=>by cases e.2)]at HD
    rw[if_neg (fun e=>absurd e.1 (by decide))]at HD
    rw[if_neg (fun e=>absurd e.1 (by decide))]at HD
    go_wp2_with fail
    refine KL.out.mono ?_
    rintro e w2 ⟨rfl,t1⟩
    have H2:=b6 (HK.out.new t1)
    have Q2:=b6 ((t1.block q1 (lt_of_block BQ.out) id).trans BQ.out)
    have F2:=b6 ((t1.block q2 (lt_of_block BF.out) id).trans BF.out)
    have T2:=b6 (TK.out.trans t1 nE)
    have y0:w2.cell? ⟨q2,0,none⟩=some (.bool fi):=by unfold World.cell?;rw[F2.out];rfl
    have y1:w2.cell? ⟨q2,1,none⟩=some (.bool true):=by unfold World.cell?;rw[F2.out];rfl
    have y2:w2.cell? ⟨q2,2,none⟩=some (.bool fs):=by unfold World.cell?;rw[F2.out];rfl
    have y3:w2.cell? ⟨q2,3,none⟩=some (.bool fu):=by unfold World.cell?;rw[F2.out];rfl
    clear t1 KL HLT HK BQ BF TK HC
    go_wp2_with (first|refine wpList_load_row rfl 38 _ rfl q2 rfl 38 _ (0,0) _ F2.out Tryz.underlying38 rfl F0 ?_|refine wpList_store_row rfl 38 _ _ rfl q1 _ rfl rfl 38 _ Q2.out F0 (by rfl) (Fl.one _) ?_|fail)
    refine bodyPost_ret (o9 rfl _ _ q1 38 _ (0,0) _ rfl (setRow_heap _ q1 _ _ 38 (0,0) Q2.out) Tryz.underlying38 rfl (by kernel_rfl)) rfl ?_
    rw[<-HD.out]
    exact⟨rfl,H2.out.row4 HQ.out.2.2 Q2.out,T2.out.trans (g8 _ _ _) (fun i hi e=>by have:=HQ.out;omega)⟩
  by_cases h115:x=115
  ·subst h115
   cases fs with
   |false=>
    rw[if_neg (fun e=>absurd e.1 (by decide))]at HD
    rw[if_neg (fun e=>absurd e.1 (by decide))]at HD
    rw[if_pos ⟨rfl,rfl⟩]at HD
    go_wp2_with fail
    refine KL.out.mono ?_
    rintro e w2 ⟨rfl,t1⟩
    have H2:=b6 (HK.out.new t1)
    have Q2:=b6 ((t1.block q1 (lt_of_block BQ.out) id).trans BQ.out)
    have F2:=b6 ((t1.block q2 (lt_of_block BF.out) id).trans BF.out)
    have T2:=b6 (TK.out.trans t1 nE)
    have hkl:=HLT.out (by decide)
    have y2:w2.cell? ⟨q2,2,none⟩=some (.bool false):=by unfold World.cell?;rw[F2.out];rfl
    have g2:w2.frozen? ⟨q2,2,none⟩=false:=by unfold World.frozen?;rw[F2.out];rfl
    have TS:=d9 w2 q2 2 (.bool true)
    have F3:=b6 (show(w2.setCell ⟨q2,2,none⟩ (.bool true)).heap[q2]? =some (.cells (Fl.arr ⟨fi,fm,true,fu⟩) 38 (0,0))from i8 F2.out 2 _)
    have H3:=b6 (H2.out.cell4 (i:=2) (v:=.bool true) (show b<q2 by have:=HQ.out;omega) F2.out)
    have Q3:=b6 ((TS.block q1 (lt_of_block Q2.out) (fun e=>by have:=HQ.out;omega)).trans Q2.out)
    have T3:=b6 (T2.out.trans TS (fun i hi e=>by have:=HQ.out;omega))
    have c5:=H3.out.c5
    have f5:=H3.out.fr 5
    have e5:((kk+1:Nat):Int)=(kk:Int)+1:=by omega
    have TS2:=d9 (w2.setCell ⟨q2,2,none⟩ (.bool true)) b 5 (.int .i64 ((kk+1:Nat):Int))
    have H4:=b6 (H3.out.setk (kk+1))
    have F4:=b6 ((TS2.block q2 (lt_of_block F3.out) (fun e=>by have:=HQ.out;omega)).trans F3.out)
    have Q4:=b6 ((TS2.block q1 (lt_of_block Q3.out) (fun e=>by have:=HQ.out;omega)).trans Q3.out)
    have T4:=b6 (T3.out.trans TS2 (fun i hi e=>e))
    rw[e5]at H4 F4 Q4 T4
    clear t1 KL HLT HK BQ BF TK TS TS2 e5
    go_wp2
    go_roundg n
    case measure=>omega
    case rel=>exact⟨kk+1,⟨fi,fm,true,fu⟩,H4,Q4,F4,HD,b6 (by have:=HC.out;revert this;unfold Fl.cnt;dsimp only;simp only[Bool.toNat_true,Bool.toNat_false];omega),b6 hkl,T4⟩
   |true=>
    rw[if_neg (fun e=>absurd e.1 (by decide))]at HD
    rw[if_neg (fun e=>absurd e.1 (by decide))]at HD
    rw[if_neg (fun e=>by cases e.2)]at HD
    rw[if_neg (fun e=>absurd e.1 (by decide))]at HD
    go_wp2_with fail
    refine KL.out.mono ?_
    rintro e w2 ⟨rfl,t1⟩
    have H2:=b6 (HK.out.new t1)
    have Q2:=b6 ((t1.block q1 (lt_of_block BQ.out) id).trans BQ.out)
    have F2:=b6 ((t1.block q2 (lt_of_block BF.out) id).trans BF.out)
    have T2:=b6 (TK.out.trans t1 nE)
    have y0:w2.cell? ⟨q2,0,none⟩=some (.bool fi):=by unfold World.cell?;rw[F2.out];rfl
    have y1:w2.cell? ⟨q2,1,none⟩=some (.bool fm):=by unfold World.cell?;rw[F2.out];rfl
    have y2:w2.cell? ⟨q2,2,none⟩=some (.bool true):=by unfold World.cell?;rw[F2.out];rfl
    have y3:w2.cell? ⟨q2,3,none⟩=some (.bool fu):=by unfold World.cell?;rw[F2.out];rfl
    clear t1 KL HLT HK BQ BF TK HC
    go_wp2_with (first|refine wpList_load_row rfl 38 _ rfl q2 rfl 38 _ (0,0) _ F2.out Tryz.underlying38 rfl F0 ?_|refine wpList_store_row rfl 38 _ _ rfl q1 _ rfl rfl 38 _ Q2.out F0 (by rfl) (Fl.one _) ?_|fail)
    refine bodyPost_ret (o9 rfl _ _ q1 38 _ (0,0) _ rfl (setRow_heap _ q1 _ _ 38 (0,0) Q2.out) Tryz.underlying38 rfl (by kernel_rfl)) rfl ?_
    rw[<-HD.out]
    exact⟨rfl,H2.out.row4 HQ.out.2.2 Q2.out,T2.out.trans (g8 _ _ _) (fun i hi e=>by have:=HQ.out;omega)⟩
  by_cases h85:x=85
  ·subst h85
   cases fu with
   |false=>
    rw[if_neg (fun e=>absurd e.1 (by decide))]at HD
    rw[if_neg (fun e=>absurd e.1 (by decide))]at HD
    rw[if_neg (fun e=>absurd e.1 (by decide))]at HD
    rw[if_pos ⟨rfl,rfl⟩]at HD
    go_wp2_with fail
    refine KL.out.mono ?_
    rintro e w2 ⟨rfl,t1⟩
    have H2:=b6 (HK.out.new t1)
    have Q2:=b6 ((t1.block q1 (lt_of_block BQ.out) id).trans BQ.out)
    have F2:=b6 ((t1.block q2 (lt_of_block BF.out) id).trans BF.out)
    have T2:=b6 (TK.out.trans t1 nE)
    have hkl:=HLT.out (by decide)
    have y3:w2.cell? ⟨q2,3,none⟩=some (.bool false):=by unfold World.cell?;rw[F2.out];rfl
    have g3:w2.frozen? ⟨q2,3,none⟩=false:=by unfold World.frozen?;rw[F2.out];rfl
    have TS:=d9 w2 q2 3 (.bool true)
    have F3:=b6 (show(w2.setCell ⟨q2,3,none⟩ (.bool true)).heap[q2]? =some (.cells (Fl.arr ⟨fi,fm,fs,true⟩) 38 (0,0))from i8 F2.out 3 _)
    have H3:=b6 (H2.out.cell4 (i:=3) (v:=.bool true) (show b<q2 by have:=HQ.out;omega) F2.out)
    have Q3:=b6 ((TS.block q1 (lt_of_block Q2.out) (fun e=>by have:=HQ.out;omega)).trans Q2.out)
    have T3:=b6 (T2.out.trans TS (fun i hi e=>by have:=HQ.out;omega))
    have c5:=H3.out.c5
    have f5:=H3.out.fr 5
    have e5:((kk+1:Nat):Int)=(kk:Int)+1:=by omega
    have TS2:=d9 (w2.setCell ⟨q2,3,none⟩ (.bool true)) b 5 (.int .i64 ((kk+1:Nat):Int))
    have H4:=b6 (H3.out.setk (kk+1))
    have F4:=b6 ((TS2.block q2 (lt_of_block F3.out) (fun e=>by have:=HQ.out;omega)).trans F3.out)
    have Q4:=b6 ((TS2.block q1 (lt_of_block Q3.out) (fun e=>by have:=HQ.out;omega)).trans Q3.out)
    have T4:=b6 (T3.out.trans TS2 (fun i hi e=>e))
    rw[e5]at H4 F4 Q4 T4
    clear t1 KL HLT HK BQ BF TK TS TS2 e5
    go_wp2
    go_roundg n
    case measure=>omega
    case rel=>exact⟨kk+1,⟨fi,fm,fs,true⟩,H4,Q4,F4,HD,b6 (by have:=HC.out;revert this;unfold Fl.cnt;dsimp only;simp only[Bool.toNat_true,Bool.toNat_false];omega),b6 hkl,T4⟩
   |true=>
    rw[if_neg (fun e=>absurd e.1 (by decide))]at HD
    rw[if_neg (fun e=>absurd e.1 (by decide))]at HD
    rw[if_neg (fun e=>absurd e.1 (by decide))]at HD
    rw[if_neg (fun e=>by cases e.2)]at HD
    go_wp2_with fail
    refine KL.out.mono ?_
    rintro e w2 ⟨rfl,t1⟩
    have H2:=b6 (HK.out.new t1)
    have Q2:=b6 ((t1.block q1 (lt_of_block BQ.out) id).trans BQ.out)
    have F2:=b6 ((t1.block q2 (lt_of_block BF.out) id).trans BF.out)
    have T2:=b6 (TK.out.trans t1 nE)
    have y0:w2.cell? ⟨q2,0,none⟩=some (.bool fi):=by unfold World.cell?;rw[F2.out];rfl
    have y1:w2.cell? ⟨q2,1,none⟩=some (.bool fm):=by unfold World.cell?;rw[F2.out];rfl
    have y2:w2.cell? ⟨q2,2,none⟩=some (.bool fs):=by unfold World.cell?;rw[F2.out];rfl
    have y3:w2.cell? ⟨q2,3,none⟩=some (.bool true):=by unfold World.cell?;rw[F2.out];rfl
    clear t1 KL HLT HK BQ BF TK HC
    go_wp2_with (first|refine wpList_load_row rfl 38 _ rfl q2 rfl 38 _ (0,0) _ F2.out Tryz.underlying38 rfl F0 ?_|refine wpList_store_row rfl 38 _ _ rfl q1 _ rfl rfl 38 _ Q2.out F0 (by rfl) (Fl.one _) ?_|fail)
    refine bodyPost_ret (o9 rfl _ _ q1 38 _ (0,0) _ rfl (setRow_heap _ q1 _ _ 38 (0,0) Q2.out) Tryz.underlying38 rfl (by kernel_rfl)) rfl ?_
    rw[<-HD.out]
    exact⟨rfl,H2.out.row4 HQ.out.2.2 Q2.out,T2.out.trans (g8 _ _ _) (fun i hi e=>by have:=HQ.out;omega)⟩
  have b1:(x==105)=false:=beq_eq_false_iff_ne.2 h105
  have b2:(x==109)=false:=beq_eq_false_iff_ne.2 h109
  have b3:(x==115)=false:=beq_eq_false_iff_ne.2 h115
  have b4:(x==85)=false:=beq_eq_false_iff_ne.2 h85
  rw[if_neg (fun e=>h105 e.1),if_neg (fun e=>h109 e.1),if_neg (fun e=>h115 e.1),if_neg (fun e=>h85 e.1)]at HD
  go_wp2_with fail
  refine KL.out.mono ?_
  rintro e w2 ⟨rfl,t1⟩
  have H2:=b6 (HK.out.new t1)
  have Q2:=b6 ((t1.block q1 (lt_of_block BQ.out) id).trans BQ.out)
  have F2:=b6 ((t1.block q2 (lt_of_block BF.out) id).trans BF.out)
  have T2:=b6 (TK.out.trans t1 nE)
  have y0:w2.cell? ⟨q2,0,none⟩=some (.bool fi):=by unfold World.cell?;rw[F2.out];rfl
  have y1:w2.cell? ⟨q2,1,none⟩=some (.bool fm):=by unfold World.cell?;rw[F2.out];rfl
  have y2:w2.cell? ⟨q2,2,none⟩=some (.bool fs):=by unfold World.cell?;rw[F2.out];rfl
  have y3:w2.cell? ⟨q2,3,none⟩=some (.bool fu):=by unfold World.cell?;rw[F2.out];rfl
  clear t1 KL HLT HK BQ BF TK HC
  go_wp2_with (first|refine wpList_load_row rfl 38 _ rfl q2 rfl 38 _ (0,0) _ F2.out Tryz.underlying38 rfl F0 ?_|refine wpList_store_row rfl 38 _ _ rfl q1 _ rfl rfl 38 _ Q2.out F0 (by rfl) (Fl.one _) ?_|fail)
  refine bodyPost_ret (o9 rfl _ _ q1 38 _ (0,0) _ rfl (setRow_heap _ q1 _ _ 38 (0,0) Q2.out) Tryz.underlying38 rfl (by kernel_rfl)) rfl ?_
  rw[<-HD.out]
  exact⟨rfl,H2.out.row4 HQ.out.2.2 Q2.out,T2.out.trans (g8 _ _ _) (fun i hi e=>by have:=HQ.out;omega)⟩
end Go.Proofs.YtdhhcefmmojcmaaGreatDoor
