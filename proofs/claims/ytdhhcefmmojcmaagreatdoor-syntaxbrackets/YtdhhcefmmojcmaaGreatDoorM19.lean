/- Texts of this proof, one behind the other. -/
import Derived.Test.YtdhhcefmmojcmaaGreatDoorM18
import Derived.Test.YtdhhcefmmojcmaaGreatDoorM16
set_option maxRecDepth 100000
set_option maxHeartbeats 0
set_option linter.unusedVariables false
namespace Go.Proofs.YtdhhcefmmojcmaaGreatDoor
open Go.RowKit Go.Lib
theorem Om {w w1 w4:World}{b:Nat}{X:Px}{k:Nat}{f:Fl}{vn:Value}{ns:List ByteArray}{op:Nat}{v v':Value}{L m:List R2}(h:PS w1 b X k f vn ns op)(hb:b<w.heap.size)
 (ho:w1.ownsRow 0 60 2 v L.length (l4 L)) (hn:∀g,v.ownBlock=some g->w.heap.size<=g) (T:b7 (fun g=>g=b) w w1)
 (hown:w4.ownsRow 0 60 2 v' (L.length+m.length) (l4 L++l4 m)) (hg:w1.grownBy w4 v.ownBlock) (hat:v'.ownBlock=v.ownBlock∨v'.ownBlock=some w1.heap.size):
 PS w4 b X k f vn ns op/\w4.ownsRow 0 60 2 v' (L++m).length (l4 (L++m))/\(∀g,v'.ownBlock=some g->w.heap.size<=g)/\b7 (fun g=>g=b) w w4:=by
 have TG:b7 (fun k=>v.ownBlock=some k) w1 w4:=b7.grown (b7.refl _ w1) hg (fun k e _=>e)
 refine⟨h.far TG (fun g e=>⟨by have:=hn g e;omega,fun cs fr hh=>?_⟩),?_,fun g e=>?_,T.grown hg (fun k e hk=>by have:=hn k e;omega)⟩
 ·obtain⟨cs2,fr2,h2⟩:=j5 ho g e
  rw[hh]at h2
  cases h2
 ·rw[List.length_append,y8]
  exact hown
 ·rcases hat with e2|e2
  ·exact hn g (by rw[<-e2];exact e)
  ·rw[e2]at e
   cases e
   exact T.size
theorem Ut (l:List R2):s9 (s9 l)=s9 l:=(IP (r7 l).1 (DL.refl _)).symm
theorem Qf {l m:List R2}(h:DL l m):s9 l=s9 m:=by
 refine IP (r7 l).1 (fun x a b=>?_)
 rw[(r7 l).2 x]
 exact⟨fun e=>(h x a b).1 e.2,fun e=>⟨⟨a,b⟩,(h x a b).2 e⟩⟩
theorem TJ {l m:List R2}(h:DL l m):z6 l=z6 m:=by unfold z6;rw[Qf h]
theorem Li (l:List R2):(s9 l).length<=557057:=W7 (r7 l).1
theorem Ot (b:Nat)(X:Px)(k0 k:Nat)(f:Fl)(vn:Value)(ns:List ByteArray)(op:Nat)(w:World)(h:PS w b X k f vn ns op)(hX:X.Good)(hk:k<=X.R.length)(hk0:k0<=X.R.length):
 Calls Tryz.prog 111 #[.pointer (some ⟨b,0,none⟩),.int .i64 (k0:Nat)] w fun e w'=>Dm b X f vn ns op w (E0 X.R b8 k0 k) e w':=by
 have hlen:=hX.lenR
 have hb:=h.lt
 obtain⟨q,kk,hkk,hF,KT⟩:∃(q:Bool) (kk:Nat),kk<=X.R.length/\E0 X.R b8 k0 k=Bn q (G2 X.R b8 k0 kk)/\
  Calls Tryz.prog 69 #[.pointer (some ⟨b,0,none⟩),.string ⟨#[94]⟩] w fun e w'=>e=.returned (.bool q)/\PS w' b X kk f vn ns op/\b7 (fun g=>g=b) w w':=by
  unfold E0
  by_cases e:g7 X.R k=94
  ·exact⟨true,k+1,j9 e (by decide),by rw[if_pos e],o7 94 h (by omega) e⟩
  ·exact⟨false,k,hk,by rw[if_neg e],o6 94 h (by omega) e⟩
 rw[hF]
 obtain⟨A,hA⟩:∃A,A=Bn q (G2 X.R b8 k0 kk):=⟨_,rfl⟩
 have HA:=b6 hA.symm
 rw[<-hA]
 unfold G2 at HA
 have TK:=b6 (b7.refl (fun g=>g=b) w)
 have KI:=b6 (fun(k':Nat) (hk':k'<=X.R.length) w' hp=>QP b X k0 k' f vn ns op w' hp hX hk' hk0)
 have HI:=b6 (fun(k':Nat) l k1 (e:G6 X.R b8 k0 k'=.ok (l,k1))=>V6 e)
 replace KT:=b6 KT
 have HKK:=b6 hkk
 have HLEN:=b6 hlen
 have HB:=b6 hb
 clear hA hF h hX hk hk0 hlen hb hkk
 have KM:=b6 (KI.out kk HKK.out)
 have HM:=b6 (HI.out kk)
 generalize G6 X.R b8 k0 kk=M at*
 go_enter Tryz.func111,Tryz.ntmps111
 go_wp2_with fail
 refine KT.out.mono ?_
 rintro e w1 ⟨rfl,hp,tt⟩
 have HK:=b6 hp
 replace TK:=b6 (TK.out.trans tt iE)
 clear hp tt KT
 have KM2:=b6 (KM.out _ HK.out)
 clear KM
 match M with
 | .error (ec,ej)=>
   unfold Dm u6 at KM2
   go_wp2_with fail
   refine KM2.out.mono ?_
   rintro e w2 ⟨rfl,tt⟩
   replace TK:=b6 (TK.out.trans tt iE)
   clear tt KM2 KI HI HM
   go_wp2
   refine⟨rfl,?_⟩
   rw[<-HA.out]
   exact⟨rfl,TK.out⟩
 | .ok (l0,k1)=>
   have HK1:=b6 (HM.out l0 k1 rfl)
   unfold Dm at KM2
   simp only at KM2 HA
   clear HM
   go_wp2_with fail
   refine KM2.out.mono ?_
   rintro e w2 ⟨v,rfl,ho,hn,hp,tt⟩
   have O:=b6 ho
   have N:=b6 (fun g e=>Nat.le_trans TK.out.size (hn g e))
   replace HK:=b6 hp
   replace TK:=b6 (TK.out.trans tt iE)
   have HL0:=b6 (show(s9 l0).length<=k1*557057 from by have:=Li l0;have:=HK1.out;omega)
   clear ho hn hp tt KM2
   have HG:=b6 (show F1 X.R b8 k0 (X.R.length+1) k1 l0=F1 X.R b8 k0 (X.R.length+1) k1 l0 from rfl)
   obtain⟨Z,hZ⟩:∃Z,Z=F1 X.R b8 k0 (X.R.length+1) k1 l0:=⟨_,rfl⟩
   rw[<-hZ]at HA
   replace HG:=b6 hZ.symm
   clear hZ HKK
   go_wp2_with fail
   go_loopg [6] (X.R.length+1) (fun gk vq wq=>∃(k:Nat) (l L:List R2),X.R.length+1<=k+gk/\Hid (k<=X.R.length)/\Hid (F1 X.R b8 k0 gk k l=Z)/\Hid (DL L l)/\Hid (L.length<=k*557057)/\Hid (wq.ownsRow 0 60 2 vq L.length (l4 L))/\Hid (∀g,vq.ownBlock=some g->w.heap.size<=g)/\Hid (PS wq b X k f vn ns op)/\Hid (b7 (fun g=>g=b) w wq))
   case atStart=>exact⟨k1,l0,s9 l0,by omega,b6 HK1.out.2,HG,b6 (Hh l0),HL0,O,N,HK,TK⟩
   case round=>
    obtain⟨k,l,L,hgk,HKL,HG,HE,HLL,O,N,HK,TK⟩:=hrel
    obtain⟨gk,rfl⟩:∃g,gk=g+1:=⟨gk-1,by have:=HKL.out;omega⟩
    rw[F1]at HG
    obtain⟨a0,c0,hv⟩:=e9 O.out
    subst hv
    by_cases h93:g7 X.R k=93
    ·rw[if_pos h93]at HG
     have KT:=b6 (o7 93 HK.out (by have:=HKL.out;have:=HLEN.out;omega) h93)
     have HZ:=HG.out
     subst HZ
     clear h93 KI HI
     go_wp2_with fail
     refine KT.out.mono ?_
     rintro e w3 ⟨rfl,hp,tt⟩
     replace O:=b6 (g9 O.out tt (fun g e s=>by have:=N.out g e;have:=HB.out;omega))
     replace HK:=b6 hp
     replace TK:=b6 (TK.out.trans tt iE)
     have R1:=b6 (show Rg w3 a0 L from by obtain⟨a1,c1,he,hr⟩:=F5 O.out;cases he;exact hr)
     have K4:=b6 (UA a0 c0 L w3 R1.out (by have:=HLL.out;have:=HKL.out;have:=HLEN.out;omega))
     clear hp tt KT HG
     go_wp2_with fail
     refine K4.out.mono ?_
     rintro e w4 ⟨v4,rfl,o4⟩
     have HCN:=b6 (Qf HE.out)
     have HNQ:=b6 (TJ HE.out)
     obtain⟨a4,c4,hv,r4⟩:=o4.slice
     subst hv
     have O4:=b6 (o4.own)
     have N4:=b6 (fun g e=>Nat.le_trans TK.out.size (o4.new g e))
     replace HK:=b6 (HK.out.new o4.touch)
     replace TK:=b6 (TK.out.trans o4.touch nE)
     have K5:=b6 (Nc a4 c4 L w4 r4)
     clear o4 K4 O N R1 r4
     go_wp2_with fail
     refine K5.out.mono ?_
     rintro e w5 ⟨v5,rfl,o5⟩
     have O5:=b6 (o5.own)
     have N5:=b6 (fun g e=>Nat.le_trans TK.out.size (o5.new g e))
     replace HK:=b6 (HK.out.new o5.touch)
     replace O4:=b6 (g9 O4.out o5.touch iE)
     replace TK:=b6 (TK.out.trans o5.touch nE)
     obtain⟨a5,c5,hv,r5⟩:=o5.slice
     subst hv
     clear o5 K5 r5
     cases q with
     |true=>
      have K6:=b6 (BD true (.slice a5 (z6 L).length c5) (.slice a4 (s9 L).length c4) w5)
      simp only[if_true]at K6
      go_wp2_with fail
      refine K6.out.mono ?_
      rintro e w6 ⟨rfl,rfl⟩
      clear K6
      go_wp2
      go_ret
      rw[<-HA.out]
      refine⟨_,rfl,?_,N5.out,HK.out,TK.out⟩
      rw[if_pos rfl,Cj,<-HNQ.out]
      exact O5.out
     |false=>
      have K6:=b6 (BD false (.slice a5 (z6 L).length c5) (.slice a4 (s9 L).length c4) w5)
      simp only[Bool.false_eq_true,if_false]at K6
      go_wp2_with fail
      refine K6.out.mono ?_
      rintro e w6 ⟨rfl,rfl⟩
      clear K6
      go_wp2
      go_ret
      rw[<-HA.out]
      refine⟨_,rfl,?_,N4.out,HK.out,TK.out⟩
      rw[if_neg (by decide),Ut,<-HCN.out]
      exact O4.out
    ·rw[if_neg h93]at HG
     have KT:=b6 (o6 93 HK.out (by have:=HKL.out;have:=HLEN.out;omega) h93)
     have KM:=b6 (KI.out k HKL.out)
     have HM:=b6 (HI.out k)
     generalize G6 X.R b8 k0 k=M at*
     have HG2:=HG
     clear h93 HG
     go_wp2_with fail
     refine KT.out.mono ?_
     rintro e w3 ⟨rfl,hp,tt⟩
     replace O:=b6 (g9 O.out tt (fun g e s=>by have:=N.out g e;have:=HB.out;omega))
     replace HK:=b6 hp
     replace TK:=b6 (TK.out.trans tt iE)
     have KM2:=b6 (KM.out _ HK.out)
     clear hp tt KT KM
     match M with
     | .error (ec,ej)=>
       unfold Dm u6 at KM2
       simp only at HG2
       have HZ:=HG2.out
       subst HZ
       go_wp2_with fail
       refine KM2.out.mono ?_
       rintro e w4 ⟨rfl,tt⟩
       replace TK:=b6 (TK.out.trans tt iE)
       clear tt KM2 KI HI HM
       go_wp2
       refine⟨rfl,?_⟩
       rw[<-HA.out]
       exact⟨rfl,TK.out⟩
     | .ok (m,k2)=>
       have HK2:=b6 (HM.out m k2 rfl)
       unfold Dm at KM2
       simp only at KM2 HG2
       clear HM
       go_wp2_with fail
       refine KM2.out.mono ?_
       rintro e w4 ⟨v4,rfl,ho,hn,hp,tt⟩
       obtain⟨a4,c4,hv,r4⟩:=F5 ho
       subst hv
       replace O:=b6 (g9 O.out tt (fun g e s=>by have:=N.out g e;have:=HB.out;omega))
       replace HK:=b6 hp
       replace TK:=b6 (TK.out.trans tt iE)
       have R4:=b6 r4
       clear ho hn hp tt KM2 r4
       go_wp2_with (at_builtin;refine Cx _ rfl _ _ rfl _ _ _ rfl O.out a4 c4 (s9 m) rfl R4.out (by have:=HLL.out;have:=HKL.out;have:=HLEN.out;have:=Li m;omega) ?_)
       intro v' w5 hown hgrow hat
       have OW:=b6 hown
       have HGR:=b6 hgrow
       have HAT:=b6 hat
       clear hown hgrow hat
       have HALL:=b6 (Om (m:=s9 m) HK.out HB.out O.out N.out TK.out OW.out HGR.out HAT.out)
       clear OW HGR HAT O N TK HK R4
       go_wp2
       go_roundg gk
       case measure=>omega
       case rel=>
        exact⟨k2,l++m,L++s9 m,by have:=HK2.out;omega,b6 HK2.out.2,HG2,b6 (HE.out.app (Hh m)),b6 (by have:=HK2.out;have:=HLL.out;have:=Li m;rw[List.length_append];omega),b6 HALL.out.2.1,b6 HALL.out.2.2.1,b6 HALL.out.1,b6 HALL.out.2.2.2⟩
theorem Rm {R:List Int}{k:Nat}{a b:Int}{k1:Nat}(h:S7 R k=some (a,b,k1)):0<=a/\ -1<=b:=by
 unfold S7 at h
 simp only at h
 split at h
 ·cases h
 split at h
 ·cases h;omega
 split at h
 ·split at h
  ·cases h;omega
  ·split at h
   ·cases h
   split at h
   ·cases h;omega
   ·cases h
 ·cases h
theorem NE {R:List Int}{k:Nat}{a b:Int}{k1:Nat}(h:o8 R k=some (a,b,k1)):0<=a/\ -1<=b:=by
 unfold o8 at h
 split at h
 ·cases h;omega
 split at h
 ·cases h;omega
 split at h
 ·cases h;omega
 split at h
 ·exact Rm h
 ·cases h
def Cc (x y:Int)(z:Bool):j4:=⟨10,none,0,0,false,x,y,z,0,⟨#[]⟩,none,0,0⟩
def PI (b:Nat)(X:Px)(k:Nat)(f:Fl)(vn:Value)(ns:List ByteArray)(op:Nat)(w:World):PR (Option (Int×Int×Bool×Nat))->Ending->World->Prop
 | .error (c,j),e,w'=>e=u6 c (g7 X.P j)/\b7 (fun g=>g=b) w w'
 | .ok none,e,w'=>e=.returned (.tuple #[.agg j4.zero.arr,.bool false])/\PS w' b X k f vn ns op/\b7 (fun g=>g=b) w w'
 | .ok (some (x,y,z,k1)),e,w'=>e=.returned (.tuple #[.agg (Cc x y z).arr,.bool true])/\PS w' b X k1 f vn ns op/\b7 (fun g=>g=b) w w'
theorem PS.row {w:World}{b:Nat}{X:Px}{k:Nat}{f:Fl}{vn:Value}{ns:List ByteArray}{op:Nat}(h:PS w b X k f vn ns op){q:Nat}{old cs:Array Value}(hq:b<q)(hb:w.heap[q]? =some (.cells old 28 (0,0))):PS (w.setRow q cs) b X k f vn ns op:=
 h.far (g8 w q cs) (fun g e=>by subst e;exact⟨hq,fun cs fr e=>by rw[hb]at e;cases e⟩)
theorem GL (b:Nat)(X:Px)(k:Nat)(f:Fl)(vn:Value)(ns:List ByteArray)(op:Nat)(w:World)(h:PS w b X k f vn ns op)(hX:X.Good)(hk:k<=X.R.length):
 Calls Tryz.prog 94 #[.pointer (some ⟨b,0,none⟩)] w fun e w'=>PI b X k f vn ns op w (C8 X.R f.u k) e w':=by
 have hk2:k<=1024:=by have:=hX.lenR;omega
 have HPL:=b6 (show k<X.P.length by have:=hX.lenP;omega)
 obtain⟨A,hA⟩:∃A,A=C8 X.R f.u k:=⟨_,rfl⟩
 have HA:=b6 hA.symm
 rw[<-hA]
 clear hA
 unfold C8 at HA
 have TA:=b6 ((b7.refl (fun g=>g=b) w).alloc (.cells j4.zero.arr 28))
 have QB:=b6 (e8 w j4.zero.arr 28)
 have HP:=b6 (h.new ((tZ w).alloc (.cells j4.zero.arr 28)))
 have hlt:=h.lt
 have KB:=b6 (fun w' hp=>KY b X k f vn ns op w' hp hX hk)
 have HBV:=b6 (fun(x y:Int) (k1:Nat) (e:o8 X.R k=some (x,y,k1))=>And.intro (NE e) (BR e).2)
 have HRl:=b6 hX.lenR
 clear h hk hX
 go_enter Tryz.func94,Tryz.ntmps94
 go_upto_region 1 with fail
 unfold j4.zero j4.arr at TA QB HP
 generalize w.alloc (.cells _ 28)=w1 at*
 obtain⟨q,hq⟩:∃q,q=w.heap.size:=⟨_,rfl⟩
 have HQ:=b6 (show w.heap.size<=q/\b<q by omega)
 rw[<-hq]at QB⊢
 clear hq hlt
 have c5:=HP.out.c5
 generalize o8 X.R k=N at*
 match N with
 |none=>
  have HA2:=HA
  go_wp2_with fail
  refine(KB.out _ HP.out).mono ?_
  rintro e w2 ⟨x,y,k1,rfl,hp,tt⟩
  have H2:=b6 hp
  have T2:=b6 (TA.out.trans tt iE)
  have Q2:=b6 ((tt.block q (lt_of_block QB.out) (fun e=>by have:=HQ.out;omega)).trans QB.out)
  have f5:=hp.fr 5
  have d5:=hp.c5
  have H3:=b6 (hp.setk k)
  have T3:=b6 (T2.out.trans (d9 w2 b 5 (.int .i64 (k:Nat))) iE)
  have Q3:=b6 (((d9 w2 b 5 (.int .i64 (k:Nat))).block q (lt_of_block Q2.out) (fun e=>by have:=HQ.out;omega)).trans Q2.out)
  clear hp tt KB c5
  go_wp2_with (first|refine wpList_store_row rfl 28 _ _ rfl q _ rfl rfl 28 _ Q3.out l7 (by rfl) (j4.one j4.zero) ?_|fail)
  refine bodyPost_ret (l8 rfl _ _ q 28 _ (0,0) _ rfl (setRow_heap _ q _ _ 28 (0,0) Q3.out) Tryz.underlying28 rfl (by kernel_rfl)) rfl ?_
  rw[<-HA.out]
  exact⟨rfl,H3.out.row HQ.out.2 Q3.out,T3.out.trans (g8 _ _ _) (fun i hi e=>by have:=HQ.out;omega)⟩
 |some (x,y,k1)=>
  obtain⟨⟨hx,hy⟩,hk1⟩:=HBV.out x y k1 rfl
  have hk3:k1<=1024:=by have:=HRl.out;omega
  simp only at HA
  clear HBV hk1
  by_cases e1:y= -1
  ·subst e1
   have eB:((-1:Int) !=(-1:Int))=false:=rfl
   have g0:¬(-1:Int)>64:=by omega
   by_cases g1:x>64
   ·rw[if_pos (by omega)]at HA
    go_wp2_with fail
    refine(KB.out _ HP.out).mono ?_
    rintro e w2 ⟨rfl,hp,tt⟩
    have H2:=b6 hp
    have T2:=b6 (TA.out.trans tt iE)
    have Q2:=b6 ((tt.block q (lt_of_block QB.out) (fun e=>by have:=HQ.out;omega)).trans QB.out)
    clear hp tt KB c5
    have KW:=b6 (A1 b X k1 f vn ns op 23 k w2 H2.out HPL.out)
    go_wp2_with fail
    refine KW.out.mono ?_
    rintro e w3 ⟨rfl,t3⟩
    have T3:=b6 (T2.out.trans t3 nE)
    clear t3 KW
    go_wp2
    refine⟨rfl,?_⟩
    rw[<-HA.out]
    exact⟨rfl,T3.out⟩
   ·rw[if_neg (by omega)]at HA
    by_cases h63:g7 X.R k1=63
    ·rw[if_pos h63]at HA
     cases hu:f.u
     ·rw[hu]at HA
      go_wp2_with fail
      refine(KB.out _ HP.out).mono ?_
      rintro e w2 ⟨rfl,hp,tt⟩
      have H2:=b6 hp
      have T2:=b6 (TA.out.trans tt iE)
      have Q2:=b6 ((tt.block q (lt_of_block QB.out) (fun e=>by have:=HQ.out;omega)).trans QB.out)
      clear hp tt KB c5
      go_wp2_with fail
      refine(o7 63 H2.out (by omega) h63).mono ?_
      rintro e w3 ⟨rfl,hp,tt⟩
      have H3:=b6 hp
      have T3:=b6 (T2.out.trans tt iE)
      have Q3:=b6 ((tt.block q (lt_of_block Q2.out) (fun e=>by have:=HQ.out;omega)).trans Q2.out)
      clear hp tt
      have c9:=H3.out.c9
      rw[hu]at c9
      go_wp2_with (first|refine wpList_store_row rfl 28 _ _ rfl q _ rfl rfl 28 _ Q3.out l7 (by rfl) (j4.one (Cc x (-1) true)) ?_|fail)
      refine bodyPost_ret (l8 rfl _ _ q 28 _ (0,0) _ rfl (setRow_heap _ q _ _ 28 (0,0) Q3.out) Tryz.underlying28 rfl (by kernel_rfl)) rfl ?_
      rw[<-HA.out]
      exact⟨rfl,H3.out.row HQ.out.2 Q3.out,T3.out.trans (g8 _ _ _) (fun i hi e=>by have:=HQ.out;omega)⟩
     ·rw[hu]at HA
      go_wp2_with fail
      refine(KB.out _ HP.out).mono ?_
      rintro e w2 ⟨rfl,hp,tt⟩
      have H2:=b6 hp
      have T2:=b6 (TA.out.trans tt iE)
      have Q2:=b6 ((tt.block q (lt_of_block QB.out) (fun e=>by have:=HQ.out;omega)).trans QB.out)
      clear hp tt KB c5
      go_wp2_with fail
      refine(o7 63 H2.out (by omega) h63).mono ?_
      rintro e w3 ⟨rfl,hp,tt⟩
      have H3:=b6 hp
      have T3:=b6 (T2.out.trans tt iE)
      have Q3:=b6 ((tt.block q (lt_of_block Q2.out) (fun e=>by have:=HQ.out;omega)).trans Q2.out)
      clear hp tt
      have c9:=H3.out.c9
      rw[hu]at c9
      go_wp2_with (first|refine wpList_store_row rfl 28 _ _ rfl q _ rfl rfl 28 _ Q3.out l7 (by rfl) (j4.one (Cc x (-1) false)) ?_|fail)
      refine bodyPost_ret (l8 rfl _ _ q 28 _ (0,0) _ rfl (setRow_heap _ q _ _ 28 (0,0) Q3.out) Tryz.underlying28 rfl (by kernel_rfl)) rfl ?_
      rw[<-HA.out]
      exact⟨rfl,H3.out.row HQ.out.2 Q3.out,T3.out.trans (g8 _ _ _) (fun i hi e=>by have:=HQ.out;omega)⟩
    ·rw[if_neg h63]at HA
     cases hu:f.u
     ·rw[hu]at HA
      go_wp2_with fail
      refine(KB.out _ HP.out).mono ?_
      rintro e w2 ⟨rfl,hp,tt⟩
      have H2:=b6 hp
      have T2:=b6 (TA.out.trans tt iE)
      have Q2:=b6 ((tt.block q (lt_of_block QB.out) (fun e=>by have:=HQ.out;omega)).trans QB.out)
      clear hp tt KB c5
      go_wp2_with fail
      refine(o6 63 H2.out (by omega) h63).mono ?_
      rintro e w3 ⟨rfl,hp,tt⟩
      have H3:=b6 hp
      have T3:=b6 (T2.out.trans tt iE)
      have Q3:=b6 ((tt.block q (lt_of_block Q2.out) (fun e=>by have:=HQ.out;omega)).trans Q2.out)
      clear hp tt
      have c9:=H3.out.c9
      rw[hu]at c9
      go_wp2_with (first|refine wpList_store_row rfl 28 _ _ rfl q _ rfl rfl 28 _ Q3.out l7 (by rfl) (j4.one (Cc x (-1) false)) ?_|fail)
      refine bodyPost_ret (l8 rfl _ _ q 28 _ (0,0) _ rfl (setRow_heap _ q _ _ 28 (0,0) Q3.out) Tryz.underlying28 rfl (by kernel_rfl)) rfl ?_
      rw[<-HA.out]
      exact⟨rfl,H3.out.row HQ.out.2 Q3.out,T3.out.trans (g8 _ _ _) (fun i hi e=>by have:=HQ.out;omega)⟩
     ·rw[hu]at HA
      go_wp2_with fail
      refine(KB.out _ HP.out).mono ?_
      rintro e w2 ⟨rfl,hp,tt⟩
      have H2:=b6 hp
      have T2:=b6 (TA.out.trans tt iE)
      have Q2:=b6 ((tt.block q (lt_of_block QB.out) (fun e=>by have:=HQ.out;omega)).trans QB.out)
      clear hp tt KB c5
      go_wp2_with fail
      refine(o6 63 H2.out (by omega) h63).mono ?_
      rintro e w3 ⟨rfl,hp,tt⟩
      have H3:=b6 hp
      have T3:=b6 (T2.out.trans tt iE)
      have Q3:=b6 ((tt.block q (lt_of_block Q2.out) (fun e=>by have:=HQ.out;omega)).trans Q2.out)
      clear hp tt
      have c9:=H3.out.c9
      rw[hu]at c9
      go_wp2_with (first|refine wpList_store_row rfl 28 _ _ rfl q _ rfl rfl 28 _ Q3.out l7 (by rfl) (j4.one (Cc x (-1) true)) ?_|fail)
      refine bodyPost_ret (l8 rfl _ _ q 28 _ (0,0) _ rfl (setRow_heap _ q _ _ 28 (0,0) Q3.out) Tryz.underlying28 rfl (by kernel_rfl)) rfl ?_
      rw[<-HA.out]
      exact⟨rfl,H3.out.row HQ.out.2 Q3.out,T3.out.trans (g8 _ _ _) (fun i hi e=>by have:=HQ.out;omega)⟩
  ·have eB:(y !=(-1:Int))=true:=by simpa using e1
   by_cases g0:x>y
   ·rw[if_pos (by omega)]at HA
    go_wp2_with fail
    refine(KB.out _ HP.out).mono ?_
    rintro e w2 ⟨rfl,hp,tt⟩
    have H2:=b6 hp
    have T2:=b6 (TA.out.trans tt iE)
    have Q2:=b6 ((tt.block q (lt_of_block QB.out) (fun e=>by have:=HQ.out;omega)).trans QB.out)
    clear hp tt KB c5
    have KW:=b6 (A1 b X k1 f vn ns op 23 k w2 H2.out HPL.out)
    go_wp2_with fail
    refine KW.out.mono ?_
    rintro e w3 ⟨rfl,t3⟩
    have T3:=b6 (T2.out.trans t3 nE)
    clear t3 KW
    go_wp2
    refine⟨rfl,?_⟩
    rw[<-HA.out]
    exact⟨rfl,T3.out⟩
   ·by_cases g1:x>64
    ·rw[if_pos (by omega)]at HA
     go_wp2_with fail
     refine(KB.out _ HP.out).mono ?_
     rintro e w2 ⟨rfl,hp,tt⟩
     have H2:=b6 hp
     have T2:=b6 (TA.out.trans tt iE)
     have Q2:=b6 ((tt.block q (lt_of_block QB.out) (fun e=>by have:=HQ.out;omega)).trans QB.out)
     clear hp tt KB c5
     have KW:=b6 (A1 b X k1 f vn ns op 23 k w2 H2.out HPL.out)
     go_wp2_with fail
     refine KW.out.mono ?_
     rintro e w3 ⟨rfl,t3⟩
     have T3:=b6 (T2.out.trans t3 nE)
     clear t3 KW
     go_wp2
     refine⟨rfl,?_⟩
     rw[<-HA.out]
     exact⟨rfl,T3.out⟩
    ·by_cases g2:y>64
     ·rw[if_pos (by omega)]at HA
      go_wp2_with fail
      refine(KB.out _ HP.out).mono ?_
      rintro e w2 ⟨rfl,hp,tt⟩
      have H2:=b6 hp
      have T2:=b6 (TA.out.trans tt iE)
      have Q2:=b6 ((tt.block q (lt_of_block QB.out) (fun e=>by have:=HQ.out;omega)).trans QB.out)
      clear hp tt KB c5
      have KW:=b6 (A1 b X k1 f vn ns op 23 k w2 H2.out HPL.out)
      go_wp2_with fail
      refine KW.out.mono ?_
      rintro e w3 ⟨rfl,t3⟩
      have T3:=b6 (T2.out.trans t3 nE)
      clear t3 KW
      go_wp2
      refine⟨rfl,?_⟩
      rw[<-HA.out]
      exact⟨rfl,T3.out⟩
     ·rw[if_neg (by omega)]at HA
      by_cases h63:g7 X.R k1=63
      ·rw[if_pos h63]at HA
       cases hu:f.u
       ·rw[hu]at HA
        go_wp2_with fail
        refine(KB.out _ HP.out).mono ?_
        rintro e w2 ⟨rfl,hp,tt⟩
        have H2:=b6 hp
        have T2:=b6 (TA.out.trans tt iE)
        have Q2:=b6 ((tt.block q (lt_of_block QB.out) (fun e=>by have:=HQ.out;omega)).trans QB.out)
        clear hp tt KB c5
        go_wp2_with fail
        refine(o7 63 H2.out (by omega) h63).mono ?_
        rintro e w3 ⟨rfl,hp,tt⟩
        have H3:=b6 hp
        have T3:=b6 (T2.out.trans tt iE)
        have Q3:=b6 ((tt.block q (lt_of_block Q2.out) (fun e=>by have:=HQ.out;omega)).trans Q2.out)
        clear hp tt
        have c9:=H3.out.c9
        rw[hu]at c9
        go_wp2_with (first|refine wpList_store_row rfl 28 _ _ rfl q _ rfl rfl 28 _ Q3.out l7 (by rfl) (j4.one (Cc x y true)) ?_|fail)
        refine bodyPost_ret (l8 rfl _ _ q 28 _ (0,0) _ rfl (setRow_heap _ q _ _ 28 (0,0) Q3.out) Tryz.underlying28 rfl (by kernel_rfl)) rfl ?_
        rw[<-HA.out]
        exact⟨rfl,H3.out.row HQ.out.2 Q3.out,T3.out.trans (g8 _ _ _) (fun i hi e=>by have:=HQ.out;omega)⟩
       ·rw[hu]at HA
        go_wp2_with fail
        refine(KB.out _ HP.out).mono ?_
        rintro e w2 ⟨rfl,hp,tt⟩
        have H2:=b6 hp
        have T2:=b6 (TA.out.trans tt iE)
        have Q2:=b6 ((tt.block q (lt_of_block QB.out) (fun e=>by have:=HQ.out;omega)).trans QB.out)
        clear hp tt KB c5
        go_wp2_with fail
        refine(o7 63 H2.out (by omega) h63).mono ?_
        rintro e w3 ⟨rfl,hp,tt⟩
        have H3:=b6 hp
        have T3:=b6 (T2.out.trans tt iE)
        have Q3:=b6 ((tt.block q (lt_of_block Q2.out) (fun e=>by have:=HQ.out;omega)).trans Q2.out)
        clear hp tt
        have c9:=H3.out.c9
        rw[hu]at c9
        go_wp2_with (first|refine wpList_store_row rfl 28 _ _ rfl q _ rfl rfl 28 _ Q3.out l7 (by rfl) (j4.one (Cc x y false)) ?_|fail)
        refine bodyPost_ret (l8 rfl _ _ q 28 _ (0,0) _ rfl (setRow_heap _ q _ _ 28 (0,0) Q3.out) Tryz.underlying28 rfl (by kernel_rfl)) rfl ?_
        rw[<-HA.out]
        exact⟨rfl,H3.out.row HQ.out.2 Q3.out,T3.out.trans (g8 _ _ _) (fun i hi e=>by have:=HQ.out;omega)⟩
      ·rw[if_neg h63]at HA
       cases hu:f.u
       ·rw[hu]at HA
        go_wp2_with fail
        refine(KB.out _ HP.out).mono ?_
        rintro e w2 ⟨rfl,hp,tt⟩
        have H2:=b6 hp
        have T2:=b6 (TA.out.trans tt iE)
        have Q2:=b6 ((tt.block q (lt_of_block QB.out) (fun e=>by have:=HQ.out;omega)).trans QB.out)
        clear hp tt KB c5
        go_wp2_with fail
        refine(o6 63 H2.out (by omega) h63).mono ?_
        rintro e w3 ⟨rfl,hp,tt⟩
        have H3:=b6 hp
        have T3:=b6 (T2.out.trans tt iE)
        have Q3:=b6 ((tt.block q (lt_of_block Q2.out) (fun e=>by have:=HQ.out;omega)).trans Q2.out)
        clear hp tt
        have c9:=H3.out.c9
        rw[hu]at c9
        go_wp2_with (first|refine wpList_store_row rfl 28 _ _ rfl q _ rfl rfl 28 _ Q3.out l7 (by rfl) (j4.one (Cc x y false)) ?_|fail)
        refine bodyPost_ret (l8 rfl _ _ q 28 _ (0,0) _ rfl (setRow_heap _ q _ _ 28 (0,0) Q3.out) Tryz.underlying28 rfl (by kernel_rfl)) rfl ?_
        rw[<-HA.out]
        exact⟨rfl,H3.out.row HQ.out.2 Q3.out,T3.out.trans (g8 _ _ _) (fun i hi e=>by have:=HQ.out;omega)⟩
       ·rw[hu]at HA
        go_wp2_with fail
        refine(KB.out _ HP.out).mono ?_
        rintro e w2 ⟨rfl,hp,tt⟩
        have H2:=b6 hp
        have T2:=b6 (TA.out.trans tt iE)
        have Q2:=b6 ((tt.block q (lt_of_block QB.out) (fun e=>by have:=HQ.out;omega)).trans QB.out)
        clear hp tt KB c5
        go_wp2_with fail
        refine(o6 63 H2.out (by omega) h63).mono ?_
        rintro e w3 ⟨rfl,hp,tt⟩
        have H3:=b6 hp
        have T3:=b6 (T2.out.trans tt iE)
        have Q3:=b6 ((tt.block q (lt_of_block Q2.out) (fun e=>by have:=HQ.out;omega)).trans Q2.out)
        clear hp tt
        have c9:=H3.out.c9
        rw[hu]at c9
        go_wp2_with (first|refine wpList_store_row rfl 28 _ _ rfl q _ rfl rfl 28 _ Q3.out l7 (by rfl) (j4.one (Cc x y true)) ?_|fail)
        refine bodyPost_ret (l8 rfl _ _ q 28 _ (0,0) _ rfl (setRow_heap _ q _ _ 28 (0,0) Q3.out) Tryz.underlying28 rfl (by kernel_rfl)) rfl ?_
        rw[<-HA.out]
        exact⟨rfl,H3.out.row HQ.out.2 Q3.out,T3.out.trans (g8 _ _ _) (fun i hi e=>by have:=HQ.out;omega)⟩
end Go.Proofs.YtdhhcefmmojcmaaGreatDoor
