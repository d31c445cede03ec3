/- Texts of this proof, one behind the other. -/
import Derived.Test.YtdhhcefmmojcmaaGreatDoorVe
import Derived.Test.YtdhhcefmmojcmaaGreatDoorVf
import Derived.Test.YtdhhcefmmojcmaaGreatDoorM10
set_option maxRecDepth 100000
set_option maxHeartbeats 0
set_option linter.unusedVariables false
namespace Go.Proofs.YtdhhcefmmojcmaaGreatDoor
open Go.RowKit Go.Lib
theorem Vh:(Tryz.prog.info? 9).map (fun i=>(i.zero,i.size,i.bytes))=some (some (.string ⟨#[]⟩),1,16):=by kernel_rfl
theorem TY (w:World)(x:Int):IZ (w.alloc (.cells #[.int .i64 x] 3)) (.slice (some ⟨w.heap.size,0,none⟩) 1 1) [x]:=
 ⟨rfl,.inr ⟨w.heap.size,1,#[.int .i64 x],rfl,Nat.zero_le _,e8 w _ _,Nat.le_refl _,by unfold maxLen;omega,rfl,rfl⟩⟩
theorem SX (R:List Int)(k:Nat)(c d:UInt8):EM R k ⟨#[c,d]⟩=(decide (g7 R k=(c.toNat:Int))&&decide (g7 R (k+1)=(d.toNat:Int))):=by
 by_cases h1:g7 R k=(c.toNat:Int)
 ·by_cases h2:g7 R (k+1)=(d.toNat:Int)
  ·rw[decide_eq_true h1,decide_eq_true h2]
   refine MD (fun i hi=>?_)
   rcases(show i=0∨i=1 by have:i<2:=hi;omega)with rfl|rfl
   ·exact h1
   ·exact h2
  ·rw[decide_eq_false h2,Bool.and_false]
   exact EN (i:=1) (by show 1<2;decide) h2
 ·rw[decide_eq_false h1,Bool.false_and]
  exact EN (i:=0) (by show 0<2;decide) h1
section
variable {w w' : World} {b : Nat} {X : Px} {k : Nat} {f : Fl} {op : Nat} {vN vn : Value} {er ea : Int} {ds : List Dc} {ns : List ByteArray}
theorem QS.setop (h:QS w b X k f op vN vn er ea ds ns)(o:Nat):QS (w.setCell ⟨b,7,none⟩ (.int .i64 (o:Nat))) b X k f o vN vn er ea ds ns:=
 h.mv (h.s.turn (i8 h.s.cells 7 _) (d9 _ _ _ _) (fun g e=>by omega)) (d9 _ _ _ _)
theorem Am (w:World)(b:Nat)(v3 v4 v5 v6:Value):b7 (fun g=>g=b) w ((((w.setCell ⟨b,3,none⟩ v3).setCell ⟨b,4,none⟩ v4).setCell ⟨b,5,none⟩ v5).setCell ⟨b,6,none⟩ v6):=
 b7.trans (S:=fun g=>g=b) (b7.trans (S:=fun g=>g=b) (b7.trans (S:=fun g=>g=b) (d9 _ _ _ _) (d9 _ _ _ _) iE) (d9 _ _ _ _) iE) (d9 _ _ _ _) iE
theorem QS.setf (h:QS w b X k f op vN vn er ea ds ns)(gi gm gs gu:Bool):QS ((((w.setCell ⟨b,3,none⟩ (.bool gi)).setCell ⟨b,4,none⟩ (.bool gm)).setCell ⟨b,5,none⟩ (.bool gs)).setCell ⟨b,6,none⟩ (.bool gu)) b X k ⟨gi,gm,gs,gu⟩ op vN vn er ea ds ns:=
 h.mv (h.s.turn (i8 (i8 (i8 (i8 h.s.cells 3 _) 4 _) 5 _) 6 _) (Am _ _ _ _ _ _) (fun g e=>by omega)) (Am _ _ _ _ _ _)
theorem QS.failC (h:QS w b X k f op vN vn 0 0 ds ns)(c j:Nat)(hj:j<X.P.length):
 Calls Tryz.prog 74 #[.pointer (some ⟨b,0,none⟩),.int .i64 (c:Nat),.int .i64 (j:Nat)] w fun e w'=>e=.returned (.tuple #[])/\QS w' b X X.R.length f op vN vn (c:Nat) (g7 X.P j) ds ns/\GT b w w' vN vn vN vn:=by
 refine(j7 b X k f op vN vn c j w h.s hj).mono ?_
 rintro e w' ⟨h1,h2,h3⟩
 exact⟨h1,h.mv h2 h3,(GT.refl b w vN vn).own h3⟩
theorem QS.eatC (h:QS w b X k f op vN vn er ea ds ns)(s:ByteArray)(hk:k<=2048)(hs:s.size<=1024)(v:Bool)(k1:Nat)(hv:EM X.R k s=v)(hk1:k1=if v then k+s.size else k):
 Calls Tryz.prog 52 #[.pointer (some ⟨b,0,none⟩),.string s] w fun e w'=>e=.returned (.bool v)/\QS w' b X k1 f op vN vn er ea ds ns/\GT b w w' vN vn vN vn:=by
 refine(BT b X k f op vN vn er ea s w h.s hk hs).mono ?_
 rintro e w' ⟨h1,h2,h3⟩
 rw[hv]at h1 h2
 rw[<-hk1]at h2
 exact⟨h1,h.mv h2 h3,(GT.refl b w vN vn).own h3⟩
theorem QS.not45 (h:QS w b X k f op vN vn er ea ds ns){q:Nat}{cs:Array Value}{fr:Nat×Nat}(hq:w.heap[q]? =some (.cells cs 45 fr)):¬ZT b vN vn q:=fun z=>by
 rcases z with rfl|z|z
 ·rw[h.s.cells]at hq
  cases hq
 ·obtain⟨cs2,fr2,hh⟩:=j5 h.nl q z
  rw[hh]at hq
  cases hq
 ·obtain⟨cs2,fr2,hh⟩:=j5 h.sl q z
  rw[hh]at hq
  cases hq
theorem QS.was (h:QS w b X k f op vN vn er ea ds ns){q:Nat}{cs:Array Value}{fr:Nat×Nat}{vN' vn':Value}(hq:w.heap[q]? =some (.cells cs 45 fr))(g:GT b w w' vN vn vN' vn'):w'.heap[q]? =some (.cells cs 45 fr):=
 (g.t.block q (lt_of_block hq) (h.not45 hq)).trans hq
theorem QS.named {w4:World}{v':Value}{K:ByteArray}{o:Obj}(h:QS w b X k f op vN vn er ea ds ns)(hown:w4.ownsRow 0 9 1 v' (ns.length+1) (ns.map Value.string++ [.string K]))(hg:(w.alloc o).grownBy w4 vn.ownBlock)(hat:v'.ownBlock=vn.ownBlock∨v'.ownBlock=some (w.heap.size+1)):
 QS (w4.setCell ⟨b,10,none⟩ v') b X k f op vN v' er ea ds (ns++ [K])/\GT b w (w4.setCell ⟨b,10,none⟩ v') vN vn vN v':=by
 have TG:b7 (fun g=>vn.ownBlock=some g) w w4:=b7.grown ((b7.refl _ w).alloc o) hg (fun k e _=>e)
 have hvb:vn.ownBlock≠some b:=fun e=>by have:=h.nn b e;omega
 have C4:=(TG.block b h.s.lt hvb).trans h.s.cells
 have TS:=d9 w4 b 10 v'
 have T:b7 (fun g=>g=b∨vn.ownBlock=some g) w (w4.setCell ⟨b,10,none⟩ v'):=b7.trans (TG.mono (fun _ _ e=>.inr e)) TS (fun _ _ e=>.inl e)
 have hv:v'.ownBlock≠some b:=fun e=>by
  rcases hat with e2|e2
  ·exact hvb (by rw[<-e2];exact e)
  ·rw[e2]at e
   cases e
   have:=h.s.lt
   omega
 refine⟨⟨h.s.turn (i8 C4 10 v') T (fun g e=>?_),g9 h.nl T (fun g e x=>?_),?_,h.nN,fun g e=>?_⟩,⟨T.mono (fun _ _ e=>e.elim .inl (fun e=>.inr (.inr e))),.inl rfl,?_⟩⟩
 ·rcases e with rfl|e
  ·exact Nat.le_refl _
  ·exact Nat.le_of_lt (h.nn g e)
 ·obtain⟨cs,fr,hh⟩:=j5 h.nl g e
  rcases x with rfl|x
  ·rw[h.s.cells]at hh
   cases hh
  ·obtain⟨cs2,fr2,hh2⟩:=j5 h.sl g x
   rw[hh2]at hh
   cases hh
 ·have:=g9 hown TS (fun g e e2=>by subst e2;exact hv e)
  unfold SL
  rw[List.length_append,List.map_append]
  exact this
 ·rcases hat with e2|e2
  ·exact h.nn g (by rw[<-e2];exact e)
  ·rw[e2]at e
   cases e
   have:=h.s.lt
   omega
 ·rcases hat with e2|e2
  ·exact .inl e2
  ·exact .inr ⟨_,e2,by omega⟩
end
def Wd (b:Nat)(X:Px)(op:Nat)(alt:A8):Prop:=∀(w:World) (k:Nat) (f:Fl) (vN vn:Value) (ds:List Dc) (ns:List ByteArray),QS w b X k f op vN vn 0 0 ds ns->k<=X.R.length->ds.length<=2*k->ns.length<=k+1->
 Calls Tryz.prog 29 #[.pointer (some ⟨b,0,none⟩)] w fun e w'=>DP b X k vN vn op (fun _=>False) 1 0 w ds (alt ⟨k,f,ns⟩) e w'
def Nz (b:Nat)(X:Px)(op:Nat):Option A8->Prop
 |none=>op=32
 |some alt=>op<=31/\Ah X.R alt/\Ku X.R alt/\Wd b X (op+1) alt
def DY (R:List Int)(alt:A8)(k:Nat)(f:Fl)(ns:List ByteArray)(G:Bool)(S:ByteArray)(k1:Nat)(f1:Fl):PR (Option Nd×St):=match D8 R alt k ⟨k1,f,if G then ns++ [S]else ns⟩ f1 with
 | .error e=>.error e
 | .ok (x,s1)=>.ok (some (if G then .grp ns.length S x else x),s1)
theorem NI {R:List Int}{alt:A8}{st:St}(h:g7 R (st.k+1)≠63):p7 R (some alt) st=DY R alt st.k st.f st.ns true ⟨#[]⟩ (st.k+1) st.f:=by
 unfold p7 DY G5
 simp only
 rw[if_neg h]
 simp only[if_true]
 cases D8 R alt st.k ⟨st.k+1,st.f,st.ns++ [⟨#[]⟩]⟩ st.f with
 |error e=>rfl
 |ok p=>rfl
theorem NJ {R:List Int}{alt:A8}{st:St}(h:g7 R (st.k+1)=63)(h2:g7 R (st.k+2)=80):p7 R (some alt) st=(match Ks R st.k st.ns (st.k+3)with
 | .error e=>.error e
 | .ok (s,k1)=>DY R alt st.k st.f st.ns true s k1 st.f):=by
 unfold p7
 simp only
 rw[if_pos h,if_pos h2,MZ]
 cases Ks R st.k st.ns (st.k+3)with
 |error e=>rfl
 |ok p=>
  obtain⟨s,k1⟩:=p
  unfold DY G5
  simp only[if_true]
  cases D8 R alt st.k ⟨k1,st.f,st.ns++ [s]⟩ st.f with
  |error e=>rfl
  |ok p=>rfl
theorem Oj {R:List Int}{alt:A8}{st:St}(g:Fl)(k1:Nat):QI R alt st (some (true,g,k1))=DY R alt st.k st.f st.ns false ⟨#[]⟩ k1 g:=by
 unfold QI DY
 simp only[Bool.false_eq_true,if_false]
 cases D8 R alt st.k ⟨k1,st.f,st.ns⟩ g with
 |error e=>rfl
 |ok p=>rfl
theorem MG {R:List Int}{F:Fl}{mi:Bool}{a b:Fl}{k:Nat}{g:Bool}{f:Fl}{k1:Nat}(h:AI R F mi a b k=some (g,f,k1)):k1=k+1/\k1<=R.length:=by
 unfold AI at h
 split at h
 ·rename_i c
  cases h
  have:=j9 c.1 (by decide)
  exact⟨rfl,by omega⟩
 ·split at h
  ·rename_i c
   cases h
   have:=j9 c.1 (by decide)
   exact⟨rfl,by omega⟩
  ·cases h
theorem Tf {R:List Int}{F:Fl}{k:Nat}{g:Bool}{f:Fl}{k1:Nat}(hk:k<=R.length)(h:AG R F x7 k=some (g,f,k1)):k<k1/\k1<=R.length:=by
 have h1:=Aa (R:=R) 5 k x7 hk
 unfold AG at h
 split at h
 ·rename_i c
  have:=j9 c (by decide)
  unfold Ck at h
  have h2:=Aa (R:=R) 5 ((C3 R 5 k x7).2+1) x7 (by omega)
  have:=MG h
  omega
 ·have:=MG h
  omega
theorem Tz {R:List Int}{k0:Nat}{ns:List ByteArray}{k k1:Nat}{s:ByteArray}(h:Ks R k0 ns k=.ok (s,k1)):k<k1/\k1<=R.length:=Ak (by rw[MZ];exact h)
theorem Ty {R:List Int}{k0:Nat}{ns:List ByteArray}{k:Nat}{e:Nat×Nat}(h:Ks R k0 ns k=.error e):e=(25,k0):=by
 unfold Ks at h
 split at h
 ·split at h
  ·cases h
  ·cases h
   rfl
 ·cases h
  rfl
theorem IW (b:Nat)(X:Px)(k:Nat)(fi fm fs fu:Bool)(op:Nat)(vN vn:Value)(ds:List Dc)(ns:List ByteArray)(alt:A8)(w:World)(h:QS w b X (k+1) ⟨fi,fm,fs,fu⟩ op vN vn 0 0 ds ns)(hX:X.Good)(hk:k<X.R.length)(hds:ds.length<=2*k)(hN:ns.length<=k+1)(hS:Nz b X op (some alt)):
 Calls Tryz.prog 98 #[.pointer (some ⟨b,0,none⟩),.int .i64 (k:Nat)] w fun e w'=>Bl b X k vN vn op w ds (p7 X.R (some alt) ⟨k,⟨fi,fm,fs,fu⟩,ns⟩) e w':=by
 obtain⟨PO,hPO⟩:∃PO,PO=p7 X.R (some alt) ⟨k,⟨fi,fm,fs,fu⟩,ns⟩:=⟨_,rfl⟩
 rw[<-hPO]
 have HPO:=b6 hPO
 obtain⟨i9,hi9,hz0,hz1,hz2⟩:=info_parts Vh
 obtain⟨hop,hFw,hEr,hSub⟩:=hS
 have HFW:=b6 hFw
 have HER:=b6 hEr
 have HSUB:=b6 hSub
 have HR:=b6 hX.lenR
 have HKP:=b6 (show k<X.P.length by have:=hX.lenP;omega)
 have HK:=b6 hk
 have HDS:=b6 hds
 have HNS:=b6 hN
 have HOP:=b6 hop
 have hopI:¬(op:Int)≥32:=by omega
 have c7:w.cell? ⟨b,7,none⟩=some (.int .i64 (op:Nat)):=h.s.c 7 _ rfl
 have c3:w.cell? ⟨b,3,none⟩=some (.bool fi):=h.s.c 3 _ rfl
 have c4:w.cell? ⟨b,4,none⟩=some (.bool fm):=h.s.c 4 _ rfl
 have c5:w.cell? ⟨b,5,none⟩=some (.bool fs):=h.s.c 5 _ rfl
 have c6:w.cell? ⟨b,6,none⟩=some (.bool fu):=h.s.c 6 _ rfl
 have T1:=(tZ w).alloc (.cells #[.bool fi,.bool fm,.bool fs,.bool fu] 45)
 have HQ1:=b6 (h.new T1)
 have HG1:=b6 ((GT.refl b w vN vn).still T1)
 have HW1:=b6 (e8 w #[.bool fi,.bool fm,.bool fs,.bool fu] 45)
 have HBW:=b6 h.s.lt
 clear h hX hk hds hN hPO T1 hFw hEr hSub hop
 go_enter Tryz.func98,Tryz.ntmps98
 go_upto_region 4 with fail
 go_upto_region 5 with fail
 clear c7 c3 c4 c5 c6 hopI
 generalize w.alloc (.cells #[.bool fi,.bool fm,.bool fs,.bool fu] 45)=w1 at*
 obtain⟨q,hq⟩:∃q,q=w.heap.size:=⟨_,rfl⟩
 have HQQ:=b6 (show b<q/\w.heap.size<=q by have:=HBW.out;omega)
 rw[<-hq]at HW1⊢
 clear hq
 have hk2:k+1<=2048:=by have:=HR.out;have:=HK.out;omega
 obtain⟨E1,hE1⟩:∃E,E=(decide (g7 X.R (k+1)=63)&&decide (g7 X.R (k+2)=80)):=⟨_,rfl⟩
 have KE:=b6 (HQ1.out.eatC ⟨#[63,80]⟩ hk2 (by show 2<=1024;decide) E1 (if E1 then k+3 else k+1) (by rw[SX,hE1];rfl) rfl)
 have HE1:=b6 hE1
 clear hE1 hk2
 go_wp2_with fail
 refine KE.out.mono ?_
 rintro e w2 ⟨rfl,hq2,hg2⟩
 have HQ2:=b6 hq2
 have HG2:=b6 (HG1.out.trans hg2)
 have HW2:=b6 (HQ1.out.was HW1.out hg2)
 clear hq2 hg2 KE HQ1 HG1 HW1
 go_upto_if 23 with fail
 go_cut [6,7] (fun v6 v7 wd=>∃(G:Bool) (S:ByteArray) (k1:Nat) (f1:Fl) (er ea:Int),v6=.bool G/\v7=.string S/\Hid (QS wd b X k1 f1 op vN vn er ea ds ns)/\Hid (GT b w wd vN vn vN vn)/\Hid (wd.heap[q]? =some (.cells #[.bool fi,.bool fm,.bool fs,.bool fu] 45 (0,0)))/\
  Hid ((er=0/\ea=0/\k+1<=k1/\k1<=X.R.length/\PO=DY X.R alt k ⟨fi,fm,fs,fu⟩ ns G S k1 f1)∨(er=25/\ea=g7 X.P k/\k1=X.R.length/\G=true/\PO=.error (25,k))))
 case first=>
  cases E1 with
  |true=>
    have hb:=HE1.out.symm
    rw[Bool.and_eq_true,decide_eq_true_eq,decide_eq_true_eq]at hb
    obtain⟨h63,h80⟩:=hb
    have hk3R:k+3<=X.R.length:=by have:=j9 h80 (by decide);omega
    change Hid (QS w2 b X (k+3) _ op vN vn 0 0 ds ns)at HQ2
    obtain⟨an,cn,hvn⟩:=e9 HQ2.out.sl
    have KN:=b6 (show Calls Tryz.prog 118 #[.pointer (some ⟨b,0,none⟩),.int .i64 (k:Nat)] w2 fun e w'=>Sr b X ⟨fi,fm,fs,fu⟩ op vN vn w2 (Ks X.R k ns (k+3)) e w' from by
     have hs:=HQ2.out.s
     have hsl:=HQ2.out.sl
     have hnn:=HQ2.out.nn
     rw[hvn]at hs hsl hnn⊢
     exact Lq b X k (k+3) _ op vN an cn ns w2 hs hsl hnn hk3R HR.out HKP.out (by have:=HNS.out;have:=HK.out;have:=HR.out;omega))
    have HPN:=b6 (HPO.out.trans (NJ (st:=⟨k,⟨fi,fm,fs,fu⟩,ns⟩) h63 h80))
    simp only at HPN
    have HFN:=b6 (fun s k1 (e:Ks X.R k ns (k+3)=.ok (s,k1))=>Tz e)
    have HFE:=b6 (fun p (e:Ks X.R k ns (k+3)=.error p)=>Ty e)
    clear h63 h80 hvn
    generalize Ks X.R k ns (k+3)=Z at*
    match Z with
    | .ok (s,k1)=>
      unfold Sr at KN
      simp only at KN HPN
      go_wp2_with fail
      refine KN.out.mono ?_
      rintro e w3 ⟨rfl,d3,t3⟩
      have HQ3:=b6 (HQ2.out.mv d3 t3)
      have HG3:=b6 (HG2.out.own t3)
      have HW3:=b6 ((t3.block q (lt_of_block HW2.out) (fun e=>by have:=HQQ.out;omega)).trans HW2.out)
      have HLK:=b6 (HFN.out s k1 rfl)
      clear d3 t3 KN
      go_wp2
      go_meet
      case rel=>exact⟨true,s,k1,_,0,0,rfl,rfl,HQ3,HG3,HW3,b6 (.inl ⟨rfl,rfl,by have:=HLK.out;omega,HLK.out.2,HPN.out⟩)⟩
    | .error (c,j)=>
      cases HFE.out _ rfl
      unfold Sr at KN
      simp only at KN HPN
      go_wp2_with fail
      refine KN.out.mono ?_
      rintro e w3 ⟨s,rfl,d3,t3⟩
      have HQ3:=b6 (HQ2.out.mv d3 t3)
      have HG3:=b6 (HG2.out.own t3)
      have HW3:=b6 ((t3.block q (lt_of_block HW2.out) (fun e=>by have:=HQQ.out;omega)).trans HW2.out)
      clear d3 t3 KN
      go_wp2
      go_meet
      case rel=>exact⟨true,s,_,_,_,_,rfl,rfl,HQ3,HG3,HW3,b6 (.inr ⟨rfl,rfl,rfl,rfl,HPN.out⟩)⟩
  |false=>
   have hb:=HE1.out
   change Hid (QS w2 b X (k+1) _ op vN vn 0 0 ds ns)at HQ2
   have hk2:k+1<=2048:=by have:=HR.out;have:=HK.out;omega
   by_cases h63:g7 X.R (k+1)=63
   ·have h80:g7 X.R (k+2)≠80:=fun e=>by rw[decide_eq_true h63,decide_eq_true e]at hb;cases hb
    have hk3R:k+2<=X.R.length:=by have:=j9 h63 (by decide);omega
    clear hb
    have KE:=b6 (HQ2.out.eatC ⟨#[63]⟩ hk2 (by show 1<=1024;decide) true (k+2) (by rw[U1];exact decide_eq_true h63) rfl)
    go_wp2_with fail
    refine KE.out.mono ?_
    rintro e w3 ⟨rfl,hq3,hg3⟩
    have HQ3:=b6 hq3
    have HG3:=b6 (HG2.out.trans hg3)
    have HW3:=b6 (HQ2.out.was HW2.out hg3)
    clear hq3 hg3 KE
    have KF:=b6 (Lp b X k (k+2) ⟨fi,fm,fs,fu⟩ op vN vn w3 HQ3.out.s hk3R HR.out HKP.out)
    have HPN:=b6 (HPO.out.trans (LE X.R alt ⟨k,⟨fi,fm,fs,fu⟩,ns⟩ h63 h80))
    simp only at HPN
    have HFN:=b6 (fun g f k1 (e:AG X.R ⟨fi,fm,fs,fu⟩ x7 (k+2)=some (g,f,k1))=>Tf hk3R e)
    clear h63 h80
    generalize AG X.R ⟨fi,fm,fs,fu⟩ x7 (k+2)=Z at*
    match Z with
    |some (true,g,k1)=>
     unfold Sp at KF
     simp only at KF
     rw[Oj]at HPN
     simp only at HPN
     go_wp2_with fail
     refine KF.out.mono ?_
     rintro e w4 ⟨rfl,d4,t4⟩
     have HQ4:=b6 (HQ3.out.mv d4 t4)
     have HG4:=b6 (HG3.out.own t4)
     have HW4:=b6 ((t4.block q (lt_of_block HW3.out) (fun e=>by have:=HQQ.out;omega)).trans HW3.out)
     have HLK:=b6 (HFN.out _ _ _ rfl)
     clear d4 t4 KF
     go_wp2
     go_meet
     case rel=>exact⟨false,⟨#[]⟩,k1,g,0,0,rfl,rfl,HQ4,HG4,HW4,b6 (.inl ⟨rfl,rfl,by have:=HLK.out;omega,HLK.out.2,HPN.out⟩)⟩
    |some (false,g,k1)=>
     unfold Sp at KF
     simp only at KF
     unfold QI at HPN
     simp only at HPN
     go_wp2_with fail
     refine KF.out.mono ?_
     rintro e w4 ⟨rfl,d4,t4⟩
     have HQ4:=b6 (HQ3.out.mv d4 t4)
     have HG4:=b6 (HG3.out.own t4)
     clear d4 t4 KF
     go_wp2
     go_ret
     rw[HPN.out]
     exact⟨rfl,vN,vn,HQ4.out,HG4.out⟩
    |none=>
     unfold Sp at KF
     simp only at KF
     unfold QI at HPN
     simp only at HPN
     go_wp2_with fail
     refine KF.out.mono ?_
     rintro e w4 ⟨rfl,d4,t4⟩
     have HQ4:=b6 (HQ3.out.mv d4 t4)
     have HG4:=b6 (HG3.out.own t4)
     clear d4 t4 KF
     go_wp2
     go_ret
     rw[HPN.out]
     exact⟨_,_,vN,vn,ds,ns,rfl,HQ4.out,HG4.out,by have:=HK.out;have:=HOP.out;omega⟩
   ·clear hb
    have KE:=b6 (HQ2.out.eatC ⟨#[63]⟩ hk2 (by show 1<=1024;decide) false (k+1) (by rw[U1];exact decide_eq_false h63) rfl)
    have HPN:=b6 (HPO.out.trans (NI (st:=⟨k,⟨fi,fm,fs,fu⟩,ns⟩) h63))
    simp only at HPN
    go_wp2_with fail
    refine KE.out.mono ?_
    rintro e w3 ⟨rfl,hq3,hg3⟩
    have HQ3:=b6 hq3
    have HG3:=b6 (HG2.out.trans hg3)
    have HW3:=b6 (HQ2.out.was HW2.out hg3)
    clear hq3 hg3 KE
    go_wp2
    go_meet
    case rel=>exact⟨true,⟨#[]⟩,k+1,_,0,0,rfl,rfl,HQ3,HG3,HW3,b6 (.inl ⟨rfl,rfl,Nat.le_refl _,HK.out,HPN.out⟩)⟩
 obtain⟨G,S,k1,f1,er,ea,rfl,rfl,HQ2,HG2,HW2,HZ⟩:=hcut
 clear HPO HE1
 obtain⟨N,hNN⟩:∃N,N=ns.length:=⟨_,rfl⟩
 have HNN:=b6 hNN
 clear hNN
 obtain⟨NV,hNV⟩:∃NV:Int,NV=if G then(N:Int)else 0:=⟨_,rfl⟩
 have HNV:=b6 hNV
 clear hNV
 go_upto_if 33 with fail
 go_cut [8] (fun v8 wd=>∃(vn2:Value) (ns2:List ByteArray),v8=.int .i64 NV/\Hid (QS wd b X k1 f1 op vN vn2 er ea ds ns2)/\Hid (ns2=if G then ns++ [S]else ns)/\Hid (GT b w wd vN vn vN vn2)/\Hid (wd.heap[q]? =some (.cells #[.bool fi,.bool fm,.bool fs,.bool fu] 45 (0,0))))
 case first=>
  cases G with
  |false=>
   go_wp2
   go_meet
   case rel=>exact⟨vn,ns,by rw[HNV.out];rfl,HQ2,b6 rfl,HG2,HW2⟩
  |true=>
   obtain⟨an,cn,hvn⟩:=e9 HQ2.out.sl
   rw[<-HNN.out]at hvn
   subst hvn
   have hNb:N<=4194304:=by have:=HNN.out;have:=HNS.out;have:=HR.out;have:=HK.out;omega
   have c10:wc.cell? ⟨b,10,none⟩=some (.slice an N cn):=HQ2.out.s.c 10 _ rfl
   have f10:=HQ2.out.s.fr 10
   have c10a:(wc.alloc (.cells #[.string S] 9)).cell? ⟨b,10,none⟩=some (.slice an N cn):=(((tZ wc).alloc (.cells #[.string S] 9)).cell (p:=⟨b,10,none⟩) HQ2.out.s.lt id).trans c10
   have HO:=b6 (show wc.ownsRow 0 9 1 (.slice an N cn) N (ns.map Value.string)from by have:=HQ2.out.sl;unfold SL at this;rw[<-HNN.out]at this;exact this)
   go_wp2_with (at_builtin;refine wpList_append_own_at _ rfl _ _ 29 rfl 0 9 i9 (.string ⟨#[]⟩) 1 16 Tryz.underlying29 hi9 hz0 hz1 hz2 rfl (by decide) _ _ _ rfl (HO.out.alloc _) ⟨wc.heap.size,0,none⟩ 1 1 [.string S] rfl rfl (JP wc S) (by intro u hu;simp at hu;subst hu;rfl) (by unfold maxLen;omega) (by omega) (Nat.zero_le _) ?_)
   intro v' w4 hown hgrow _ hat
   have TG:=b7.grown (S:=fun g=>(Value.slice an N cn).ownBlock=some g) ((b7.refl _ wc).alloc (.cells #[.string S] 9)) hgrow (fun k e _=>e)
   have C4:=(TG.block b HQ2.out.s.lt (fun e=>by have:=HQ2.out.nn b e;omega)).trans HQ2.out.s.cells
   have d10:w4.cell? ⟨b,10,none⟩=some (.slice an N cn):=by unfold World.cell?;rw[C4];rfl
   have g10:w4.frozen? ⟨b,10,none⟩=false:=by unfold World.frozen?;rw[C4];rfl
   rw[HNN.out]at hown
   obtain⟨hq4,hg4⟩:=HQ2.out.named hown hgrow hat
   have HQ4:=b6 hq4
   have HG4:=b6 (HG2.out.trans hg4)
   have HW4:=b6 (HQ2.out.was HW2.out hg4)
   obtain⟨a',c',hv'⟩:=e9 hown
   subst hv'
   clear hq4 hg4 hown hgrow hat TG C4 HO c10 f10 c10a
   go_wp2
   go_meet
   case rel=>exact⟨_,_,by rw[HNV.out];rfl,HQ4,b6 rfl,HG4,HW4⟩
 obtain⟨vn2,ns2,rfl,HQ3,HNS2,HG3,HW3⟩:=hcut
 clear HQ2 HG2 HW2
 rcases HZ.out with⟨rfl,rfl,hk1,hk1R,hPR⟩|⟨rfl,rfl,rfl,rfl,hPR⟩
 ·clear HZ
  have HK1:=b6 hk1
  have HK1R:=b6 hk1R
  have HPR:=b6 hPR
  clear hk1 hk1R hPR
  have c11:wc.cell? ⟨b,11,none⟩=some (.int .i64 0):=HQ3.out.s.c 11 _ rfl
  have c7:wc.cell? ⟨b,7,none⟩=some (.int .i64 (op:Nat)):=HQ3.out.s.c 7 _ rfl
  have f7:=HQ3.out.s.fr 7
  obtain⟨o1,ho1⟩:∃o1,o1=op+1:=⟨_,rfl⟩
  have HO1:=b6 ho1
  have hwo:IntKind.i64.wrap ((op:Int)+1)=(o1:Int):=by have:=HOP.out;rw[IntKind.wrap_i64];omega
  have hwo2:IntKind.i64.wrap ((o1:Int)-1)=(op:Int):=by have:=HOP.out;rw[IntKind.wrap_i64];omega
  clear ho1
  have HQ4:=b6 (HQ3.out.setop o1)
  have t4:=d9 wc b 7 (.int .i64 (o1:Nat))
  have HG4:=b6 (HG3.out.own t4)
  have HW4:=b6 ((t4.block q (lt_of_block HW3.out) (fun e=>by have:=HQQ.out;omega)).trans HW3.out)
  clear t4
  go_upto_region 19 with fail
  clear c11 c7 f7 HQ3 HG3 HW3 hwo
  generalize wc.setCell ⟨b,7,none⟩ (.int .i64 (o1:Nat))=w5 at*
  have KS:=b6 (HSUB.out w5 k1 f1 vN vn2 ds ns2 (by rw[<-HO1.out];exact HQ4.out) HK1R.out (by have:=HDS.out;have:=HK1.out;omega) (by rw[HNS2.out];have:=HNS.out;have:=HK1.out;cases G<;>simp<;>omega))
  rw[<-HO1.out]at KS
  have HPW:=HPR
  unfold DY D8 at HPW
  simp only at HPW
  rw[<-HNS2.out]at HPW
  have HERR:=b6 (fun c j (e:alt ⟨k1,f1,ns2⟩=.error (c,j))=>(HER.out ⟨k1,f1,ns2⟩ HK1R.out c j e).1)
  have HFWD:=b6 (fun x s1 (e:alt ⟨k1,f1,ns2⟩=.ok (x,s1))=>(HFW.out ⟨k1,f1,ns2⟩ x s1 HK1R.out e))
  clear HPR HER HFW HSUB
  generalize alt ⟨k1,f1,ns2⟩=r at*
  match r with
  | .error (c,j)=>
    have HC20:=b6 (HERR.out c j rfl)
    unfold DP at KS
    simp only at KS HPW
    go_wp2_with fail
    refine KS.out.mono ?_
    rintro e w6 ⟨rr,f',vN',vn',ds',ns',rfl,hq6,hg6,hb6⟩
    have HQ6:=b6 hq6
    have HG6:=b6 (HG4.out.trans hg6)
    have HW6:=b6 (HQ4.out.was HW4.out hg6)
    have HB6:=b6 hb6
    clear hq6 hg6 hb6 KS
    have c11:w6.cell? ⟨b,11,none⟩=some (.int .i64 (c:Nat)):=HQ6.out.s.c 11 _ rfl
    have hcz:((c:Int)==0)=false:=beq_eq_false_iff_ne.2 (by have:=HC20.out;omega)
    have c7:w6.cell? ⟨b,7,none⟩=some (.int .i64 (o1:Nat)):=HQ6.out.s.c 7 _ rfl
    have f7:=HQ6.out.s.fr 7
    have HQ7o:=b6 (HQ6.out.setop op)
    have t7:=d9 w6 b 7 (.int .i64 (op:Nat))
    have HG7o:=b6 (HG6.out.own t7)
    have HW7o:=b6 ((t7.block q (lt_of_block HW6.out) (fun e=>by have:=HQQ.out;omega)).trans HW6.out)
    clear t7
    go_upto_region 23 with fail
    clear c7 f7 c11 hcz
    generalize w6.setCell ⟨b,7,none⟩ (.int .i64 (op:Nat))=w7 at*
    have s0:w7.cell? ⟨q,0,none⟩=some (.bool fi):=b9 HW7o.out 0 _ rfl
    have s1:w7.cell? ⟨q,1,none⟩=some (.bool fm):=b9 HW7o.out 1 _ rfl
    have s2:w7.cell? ⟨q,2,none⟩=some (.bool fs):=b9 HW7o.out 2 _ rfl
    have s3:w7.cell? ⟨q,3,none⟩=some (.bool fu):=b9 HW7o.out 3 _ rfl
    obtain⟨v3,d3⟩:∃v,w7.cell? ⟨b,3,none⟩=some (.bool v):=⟨_,HQ7o.out.s.c 3 _ rfl⟩
    obtain⟨v4,d4⟩:∃v,w7.cell? ⟨b,4,none⟩=some (.bool v):=⟨_,HQ7o.out.s.c 4 _ rfl⟩
    obtain⟨v5,d5⟩:∃v,w7.cell? ⟨b,5,none⟩=some (.bool v):=⟨_,HQ7o.out.s.c 5 _ rfl⟩
    obtain⟨v6,d6⟩:∃v,w7.cell? ⟨b,6,none⟩=some (.bool v):=⟨_,HQ7o.out.s.c 6 _ rfl⟩
    have g3:=HQ7o.out.s.fr 3
    have g4:=HQ7o.out.s.fr 4
    have g5:=HQ7o.out.s.fr 5
    have g6:=HQ7o.out.s.fr 6
    have HQ8:=b6 (HQ7o.out.setf fi fm fs fu)
    have t8:=Am w7 b (.bool fi) (.bool fm) (.bool fs) (.bool fu)
    have HG8:=b6 (HG7o.out.own t8)
    clear t8
    go_upto_region 24 with fail
    clear s0 s1 s2 s3 d3 d4 d5 d6 g3 g4 g5 g6
    generalize (((w7.setCell ⟨b,3,none⟩ (.bool fi)).setCell ⟨b,4,none⟩ (.bool fm)).setCell ⟨b,5,none⟩ (.bool fs)).setCell ⟨b,6,none⟩ (.bool fu)=w8 at*
    have c11b:w8.cell? ⟨b,11,none⟩=some (.int .i64 (c:Nat)):=HQ8.out.s.c 11 _ rfl
    have hcn:((c:Int) !=0)=true:=by simp;have:=HC20.out;omega
    go_wp2
    go_ret
    rw[HPW.out]
    exact⟨rr,_,vN',vn',ds',ns',rfl,HQ8.out,HG8.out,by have:=HB6.out;have:=HK1.out;have:=HOP.out;have:=HO1.out;omega⟩
  | .ok (x,⟨k2,f2,ns3⟩)=>
    unfold DP at KS
    simp only at KS HPW
    go_wp2_with fail
    refine KS.out.mono ?_
    rintro e w6 ⟨p,vN',vn',es,rfl,hq6,hg6,hd6,hb6⟩
    have HQ6:=b6 hq6
    have HG6:=b6 (HG4.out.trans hg6)
    have HW6:=b6 (HQ4.out.was HW4.out hg6)
    have HSZ:=b6 HG4.out.t.size
    have HD6:=b6 (hd6.wide (B':=fun g=>False∨(w.heap.size<=g/\g<w6.heap.size)) (fun g e=>by have:=HSZ.out;rcases e with e|e;exact e.elim;exact .inr ⟨by omega,e.2⟩))
    have HB6:=b6 hb6
    have HK2:=b6 (HFWD.out x _ rfl)
    clear hq6 hg6 hd6 hb6 KS
    have c11:w6.cell? ⟨b,11,none⟩=some (.int .i64 0):=HQ6.out.s.c 11 _ rfl
    have hk2b:k2<=2048:=by have h2:k2<=X.R.length:=HK2.out.2;have:=HR.out;omega
    by_cases h41:g7 X.R k2=41
    ·rw[if_pos h41]at HPW
     have hk2R:k2+1<=X.R.length:=by have:=j9 h41 (by decide);omega
     have KE:=b6 (HQ6.out.eatC ⟨#[41]⟩ hk2b (by show 1<=1024;decide) true (k2+1) (by rw[U1];exact decide_eq_true h41) rfl)
     go_wp2_with fail
     refine KE.out.mono ?_
     rintro e w7 ⟨rfl,hq7,hg7⟩
     have HWX:=b6 (HQ6.out.was HW6.out hg7)
     have HDX:=b6 (HD6.out.kept hg7.t (fun g _ s=>HQ6.out.nd s))
     have HSX:=b6 hg7.t.size
     replace HQ6:=b6 hq7
     replace HG6:=b6 (HG6.out.trans hg7)
     replace HW6:=HWX
     replace HD6:=b6 (HDX.out.wide (B':=fun g=>False∨(w.heap.size<=g/\g<w7.heap.size)) (fun g e=>by have:=HSX.out;rcases e with e|e;exact e.elim;exact .inr ⟨e.1,by omega⟩))
     clear hq7 hg7 KE c11 HWX HDX HSX
     generalize w7=w6 at*
     have c7:w6.cell? ⟨b,7,none⟩=some (.int .i64 (o1:Nat)):=HQ6.out.s.c 7 _ rfl
     have f7:=HQ6.out.s.fr 7
     have HQ7o:=b6 (HQ6.out.setop op)
     have t7:=d9 w6 b 7 (.int .i64 (op:Nat))
     have HG7o:=b6 (HG6.out.own t7)
     have HW7o:=b6 ((t7.block q (lt_of_block HW6.out) (fun e=>by have:=HQQ.out;omega)).trans HW6.out)
     have HS7:=b6 t7.size
     have HD7:=b6 (HD6.out.kept t7 (fun g _ s=>HQ6.out.nd (.inl s)))
     clear t7
     go_upto_region 23 with fail
     clear c7 f7
     generalize w6.setCell ⟨b,7,none⟩ (.int .i64 (op:Nat))=w7 at*
     have s0:w7.cell? ⟨q,0,none⟩=some (.bool fi):=b9 HW7o.out 0 _ rfl
     have s1:w7.cell? ⟨q,1,none⟩=some (.bool fm):=b9 HW7o.out 1 _ rfl
     have s2:w7.cell? ⟨q,2,none⟩=some (.bool fs):=b9 HW7o.out 2 _ rfl
     have s3:w7.cell? ⟨q,3,none⟩=some (.bool fu):=b9 HW7o.out 3 _ rfl
     obtain⟨v3,d3⟩:∃v,w7.cell? ⟨b,3,none⟩=some (.bool v):=⟨_,HQ7o.out.s.c 3 _ rfl⟩
     obtain⟨v4,d4⟩:∃v,w7.cell? ⟨b,4,none⟩=some (.bool v):=⟨_,HQ7o.out.s.c 4 _ rfl⟩
     obtain⟨v5,d5⟩:∃v,w7.cell? ⟨b,5,none⟩=some (.bool v):=⟨_,HQ7o.out.s.c 5 _ rfl⟩
     obtain⟨v6,d6⟩:∃v,w7.cell? ⟨b,6,none⟩=some (.bool v):=⟨_,HQ7o.out.s.c 6 _ rfl⟩
     have g3:=HQ7o.out.s.fr 3
     have g4:=HQ7o.out.s.fr 4
     have g5:=HQ7o.out.s.fr 5
     have g6:=HQ7o.out.s.fr 6
     have HQ8:=b6 (HQ7o.out.setf fi fm fs fu)
     have t8:=Am w7 b (.bool fi) (.bool fm) (.bool fs) (.bool fu)
     have HG8:=b6 (HG7o.out.own t8)
     have HS8:=b6 t8.size
     have HD8:=b6 ((HD7.out.kept t8 (fun g _ s=>HQ7o.out.nd (.inl s))).wide (B':=fun g=>False∨(w.heap.size<=g/\g<((((w7.setCell ⟨b,3,none⟩ (.bool fi)).setCell ⟨b,4,none⟩ (.bool fm)).setCell ⟨b,5,none⟩ (.bool fs)).setCell ⟨b,6,none⟩ (.bool fu)).heap.size)) (fun g e=>by have:=HS7.out;have:=HS8.out;rcases e with e|e;exact e.elim;exact .inr ⟨e.1,by omega⟩))
     clear t8
     go_upto_region 24 with fail
     clear s0 s1 s2 s3 d3 d4 d5 d6 g3 g4 g5 g6
     generalize (((w7.setCell ⟨b,3,none⟩ (.bool fi)).setCell ⟨b,4,none⟩ (.bool fm)).setCell ⟨b,5,none⟩ (.bool fs)).setCell ⟨b,6,none⟩ (.bool fu)=w8 at*
     have c11b:w8.cell? ⟨b,11,none⟩=some (.int .i64 0):=HQ8.out.s.c 11 _ rfl
     cases G with
     |false=>
      go_wp2
      go_ret
      rw[HPW.out]
      exact⟨p,vN',vn',es,rfl,HQ8.out,HG8.out,HD8.out,by have h1:es.length+2*k1<=2*k2+1:=HB6.out;have:=HK1.out;show es.length+2*k<=2*(k2+1)+0;omega⟩
     |true=>
      have TA:=(tZ w8).alloc (.cells #[.int .i64 (p:Int)] 3)
      have HQ9:=b6 (HQ8.out.new TA)
      have HG9:=b6 (HG8.out.still TA)
      have HS9:=b6 TA.size
      have HL8:=b6 (show w.heap.size<=w8.heap.size from HG8.out.t.size)
      have HI9:=b6 (TY w8 (p:Int))
      have HD9:=b6 (HD8.out.new TA)
      have HA9:=b6 (show(w8.alloc (.cells #[.int .i64 (p:Int)] 3)).heap.size=w8.heap.size+1 by simp)
      have KP:=b6 (HQ9.out.put (by rw[List.length_append];have h1:es.length+2*k1<=2*k2+1:=HB6.out;have:=HDS.out;have h2:k2<=X.R.length:=HK2.out.2;have:=HK.out;have:=HR.out;omega) ⟨11,0,0,(N:Int),none,0,0,false,false,S,some ⟨w8.heap.size,0,none⟩,1,1⟩)
      unfold Dc.arr at KP
      clear TA
      obtain⟨m,hm⟩:∃m,m=(ds++es).length:=⟨_,rfl⟩
      rw[<-hm]at KP
      have HM:=b6 hm
      clear hm
      obtain rfl:NV=(N:Int):=HNV.out
      go_wp2_with fail
      generalize w8.alloc (.cells #[.int .i64 (p:Int)] 3)=w9 at*
      refine KP.out.mono ?_
      rintro e wA ⟨rfl,vN2,hqA,hgA⟩
      have HQA:=b6 hqA
      have HGA:=b6 (HG9.out.trans hgA)
      have HDA:=b6 ((HD9.out.kept hgA.t (fun g _ s=>HQ9.out.nd s)))
      have HIA:=b6 (g9 HI9.out hgA.t (fun g e s=>by
       obtain⟨cs,fr,hh⟩:=j5 HI9.out g e
       exact(HQ9.out.nd s _ _ _ hh).2 rfl))
      have HSA:=b6 hgA.t.size
      clear hqA hgA KP
      go_wp2
      go_ret
      rw[HPW.out]
      refine⟨m,vN2,vn',es++ [_],rfl,by rw[<-List.append_assoc];exact HQA.out,HGA.out,?_,?_⟩
      ·rw[<-List.append_assoc,HM.out]
       have hgr:Nd.grp ns.length S x=.mk 11 0 0 (N:Int) false false [] S [x]:=by rw[HNN.out];rfl
       rw[if_pos trivial,hgr]
       refine DW.mk (ds++es).length ⟨11,0,0,(N:Int),none,0,0,false,false,S,some ⟨w8.heap.size,0,none⟩,1,1⟩ [] [p] [x] (IX _ _) (I5 wA) (fun g e=>by cases e) HIA.out (fun g e=>?_) rfl (fun i q2 x2 e1 e2=>?_)
       ·cases e
        have:=HL8.out
        have:=HA9.out
        have:=HSA.out
        exact .inr ⟨by show w.heap.size<=w8.heap.size;omega,by show w8.heap.size<wA.heap.size;omega⟩
       ·match i,e1,e2 with
        |0,e1,e2=>
         cases e1
         cases e2
         refine(HDA.out.more (fun g e=>?_) _)
         have:=HA9.out
         have:=HSA.out
         rcases e with e|e
         ·exact e.elim
         ·exact .inr ⟨e.1,by omega⟩
      ·have h1:es.length+2*k1<=2*k2+1:=HB6.out
       have:=HK1.out
       show(es++ [_]).length+2*k<=2*(k2+1)+0
       rw[List.length_append,List.length_singleton]
       omega
    ·rw[if_neg h41]at HPW
     have KE:=b6 (HQ6.out.eatC ⟨#[41]⟩ hk2b (by show 1<=1024;decide) false k2 (by rw[U1];exact decide_eq_false h41) rfl)
     go_wp2_with fail
     refine KE.out.mono ?_
     rintro e w7 ⟨rfl,hq7,hg7⟩
     have HQ7:=b6 hq7
     have HG7:=b6 (HG6.out.trans hg7)
     have HW7:=b6 (HQ6.out.was HW6.out hg7)
     clear hq7 hg7 KE c11
     have KF:=b6 (HQ7.out.failC 25 k HKP.out)
     go_wp2_with fail
     refine KF.out.mono ?_
     rintro e w7b ⟨rfl,hq7,hg7⟩
     have HWX:=b6 (HQ7.out.was HW7.out hg7)
     replace HQ6:=b6 hq7
     replace HG6:=b6 (HG7.out.trans hg7)
     replace HW6:=HWX
     clear hq7 hg7 KF HWX HQ7 HG7 HW7 HD6
     generalize w7b=w6 at*
     have c7:w6.cell? ⟨b,7,none⟩=some (.int .i64 (o1:Nat)):=HQ6.out.s.c 7 _ rfl
     have f7:=HQ6.out.s.fr 7
     have HQ7o:=b6 (HQ6.out.setop op)
     have t7:=d9 w6 b 7 (.int .i64 (op:Nat))
     have HG7o:=b6 (HG6.out.own t7)
     have HW7o:=b6 ((t7.block q (lt_of_block HW6.out) (fun e=>by have:=HQQ.out;omega)).trans HW6.out)
     clear t7
     go_upto_region 23 with fail
     clear c7 f7
     generalize w6.setCell ⟨b,7,none⟩ (.int .i64 (op:Nat))=w7 at*
     have s0:w7.cell? ⟨q,0,none⟩=some (.bool fi):=b9 HW7o.out 0 _ rfl
     have s1:w7.cell? ⟨q,1,none⟩=some (.bool fm):=b9 HW7o.out 1 _ rfl
     have s2:w7.cell? ⟨q,2,none⟩=some (.bool fs):=b9 HW7o.out 2 _ rfl
     have s3:w7.cell? ⟨q,3,none⟩=some (.bool fu):=b9 HW7o.out 3 _ rfl
     obtain⟨v3,d3⟩:∃v,w7.cell? ⟨b,3,none⟩=some (.bool v):=⟨_,HQ7o.out.s.c 3 _ rfl⟩
     obtain⟨v4,d4⟩:∃v,w7.cell? ⟨b,4,none⟩=some (.bool v):=⟨_,HQ7o.out.s.c 4 _ rfl⟩
     obtain⟨v5,d5⟩:∃v,w7.cell? ⟨b,5,none⟩=some (.bool v):=⟨_,HQ7o.out.s.c 5 _ rfl⟩
     obtain⟨v6,d6⟩:∃v,w7.cell? ⟨b,6,none⟩=some (.bool v):=⟨_,HQ7o.out.s.c 6 _ rfl⟩
     have g3:=HQ7o.out.s.fr 3
     have g4:=HQ7o.out.s.fr 4
     have g5:=HQ7o.out.s.fr 5
     have g6:=HQ7o.out.s.fr 6
     have HQ8:=b6 (HQ7o.out.setf fi fm fs fu)
     have t8:=Am w7 b (.bool fi) (.bool fm) (.bool fs) (.bool fu)
     have HG8:=b6 (HG7o.out.own t8)
     clear t8
     go_upto_region 24 with fail
     clear s0 s1 s2 s3 d3 d4 d5 d6 g3 g4 g5 g6
     generalize (((w7.setCell ⟨b,3,none⟩ (.bool fi)).setCell ⟨b,4,none⟩ (.bool fm)).setCell ⟨b,5,none⟩ (.bool fs)).setCell ⟨b,6,none⟩ (.bool fu)=w8 at*
     have c11b:w8.cell? ⟨b,11,none⟩=some (.int .i64 25):=HQ8.out.s.c 11 _ rfl
     go_wp2
     go_ret
     rw[HPW.out]
     exact⟨p,_,vN',vn',ds++es,ns3,rfl,HQ8.out,HG8.out,by rw[List.length_append];have h1:es.length+2*k1<=2*k2+1:=HB6.out;have:=HK1.out;have h2:k2<=X.R.length:=HK2.out.2;have:=HOP.out;omega⟩
 ·clear HZ
  have c11:wc.cell? ⟨b,11,none⟩=some (.int .i64 25):=HQ3.out.s.c 11 _ rfl
  go_wp2
  go_ret
  exact⟨_,_,vN,vn2,ds,ns2,rfl,HQ3.out,HG3.out,by have:=HK.out;have:=HOP.out;omega⟩
end Go.Proofs.YtdhhcefmmojcmaaGreatDoor
