/- Texts of this proof, one behind the other. -/
import Derived.Test.YtdhhcefmmojcmaaGreatDoorM14
import Derived.Test.YtdhhcefmmojcmaaGreatDoorM12
import Derived.Test.YtdhhcefmmojcmaaGreatDoorM10
import Derived.Test.YtdhhcefmmojcmaaGreatDoorM5
import Derived.Deep.RegionHeld3
import Derived.Test.YtdhhcefmmojcmaaGreatDoorM9
set_option maxRecDepth 100000
set_option maxHeartbeats 0
set_option linter.unusedVariables false
namespace Go.Proofs.YtdhhcefmmojcmaaGreatDoor
open Go.RowKit Go.Lib
def Qr (a:Option Addr)(n c:Nat)(fold:Bool):Dc:=⟨1,0,0,0,a,n,c,fold,false,⟨#[]⟩,none,0,0⟩
theorem W8 {w:World}{b:Nat}{X:Px}{k:Nat}{f:Fl}{op:Nat}{vN vn:Value}{er ea:Int}{ds:List Dc}{ns:List ByteArray}(h:QS w b X k f op vN vn er ea ds ns)(hn:ds.length<=4194304)(a:Option Addr)(c:Nat)(l:List R2)(hl:Rg w a l)(hll:l.length<=4194304):
 Calls Tryz.prog 99 #[.pointer (some ⟨b,0,none⟩),.slice a l.length c] w fun e w'=>e=.returned (.int .i64 (ds.length:Nat))/\∃(vN':Value) (d:Dc),QS w' b X k f op vN' vn er ea (ds++ [d]) ns/\GT b w w' vN vn vN' vn/\DW w' (fun g=>w.heap.size<=g/\g<w'.heap.size) (ds++ [d]) ds.length (.cls f (s9 l)):=by
 have KC:=b6 (fun w' (g:Rg w' a l)=>Ma a c l w' g hll)
 have HL:=b6 hl
 have H:=b6 h
 have HN:=b6 hn
 have KP:=b6 (fun w' (g:QS w' b X k f op vN vn er ea ds ns) (d:Dc)=>g.put hn d)
 obtain⟨n,hn1⟩:∃n,n=l.length:=⟨_,rfl⟩
 obtain⟨m,hm⟩:∃m,m=ds.length:=⟨_,rfl⟩
 obtain⟨L,hL⟩:∃L,L=s9 l:=⟨_,rfl⟩
 rw[<-hn1]at KC⊢
 rw[<-hm]at KP⊢
 rw[<-hL]at KC⊢
 have HM:=b6 hm
 obtain⟨fi,fm,fs,fu⟩:=f
 have e3:w.cell? ⟨b,3,none⟩=some (.bool fi):=h.s.c 3 _ rfl
 clear h hn hl hll hn1 hm hL
 go_enter Tryz.func99,Tryz.ntmps99
 go_wp2_with fail
 have Mk0:True:=trivial
 go_region_with (first
  |(clear Mk0;go_at_call 120;refine(KC.out _ (HL.out.new (b7.refl _ w).drew)).mono ?_;rintro e w1 ⟨v,rfl,o1⟩;obtain⟨a1,c1,hv,_⟩:=o1.slice;subst hv;have T1:=b6 ((tZ w).drew.trans o1.touch iE);have HQ:=b6 (H.out.new T1.out);have d3:w1.cell? ⟨b,3,none⟩=some (.bool fi):=HQ.out.s.c 3 _ rfl;have O1:=b6 o1;have K3:=b6 (KP.out w1 HQ.out (Qr a1 L.length c1 fi));unfold Qr Dc.arr at K3;clear o1 KP KC;have Mk1:True:=trivial)
  |(clear Mk1;go_at_call 77;refine K3.out.mono ?_;rintro e w2 ⟨rfl,vN',hq2,hg2⟩;have HQ2:=b6 hq2;have HG2:=b6 hg2;clear hq2 hg2 K3))
 all_goals
  go_wp2
  go_ret
  refine⟨rfl,vN',_,HQ2.out,(GT.refl b w vN vn).still T1.out |>.trans HG2.out,?_⟩
  rw[HM.out]
  refine DW.mk ds.length (Qr a1 L.length c1 fi) L [] [] (IX _ _) ?_ (fun g e=>⟨?_,?_⟩) (LK w2) (fun g e=>by cases e) rfl (fun i q x e=>by cases e)
  ·refine g9 O1.out.own HG2.out.t (fun g e s=>?_)
   obtain⟨cs,fr,hh⟩:=j5 O1.out.own g e
   exact(HQ.out.nd s _ _ _ hh).1 rfl
  ·have:=O1.out.new g e
   simpa using this
  ·have:=CV O1.out.own g e
   exact Nat.lt_of_lt_of_le this HG2.out.t.size
theorem U1 (R:List Int)(k:Nat)(c:UInt8):EM R k ⟨#[c]⟩=decide (g7 R k=(c.toNat:Int)):=by
 unfold EM
 rw[show(⟨#[c]⟩:ByteArray).size=1 from rfl,show List.range 1=[0]from rfl]
 simp only[List.all_cons,List.all_nil,Bool.and_true,Nat.add_zero]
 rw[show l5 ⟨#[c]⟩ 0=c.toNat from rfl]
 by_cases h:g7 R k=(c.toNat:Int)
 ·rw[h];simp
 ·simp[h]
theorem y7 {w:World}{b:Nat}{X:Px}{k:Nat}{f:Fl}{op:Nat}{vN vn:Value}{er ea:Int}(c:UInt8)(h:DS w b X k f op vN vn er ea)(hk:k<=2048)(hc:g7 X.R k=(c.toNat:Int)):
 Calls Tryz.prog 52 #[.pointer (some ⟨b,0,none⟩),.string ⟨#[c]⟩] w fun e w'=>e=.returned (.bool true)/\DS w' b X (k+1) f op vN vn er ea/\b7 (fun g=>g=b) w w':=by
 have:=BT b X k f op vN vn er ea ⟨#[c]⟩ w h hk (by show 1<=1024;decide)
 rw[U1,show decide (g7 X.R k=(c.toNat:Int))=true from by simpa using hc,if_pos rfl]at this
 exact this
theorem E6 {w:World}{b:Nat}{X:Px}{k:Nat}{f:Fl}{op:Nat}{vN vn:Value}{er ea:Int}(c:UInt8)(h:DS w b X k f op vN vn er ea)(hk:k<=2048)(hc:g7 X.R k≠(c.toNat:Int)):
 Calls Tryz.prog 52 #[.pointer (some ⟨b,0,none⟩),.string ⟨#[c]⟩] w fun e w'=>e=.returned (.bool false)/\DS w' b X k f op vN vn er ea/\b7 (fun g=>g=b) w w':=by
 have:=BT b X k f op vN vn er ea ⟨#[c]⟩ w h hk (by show 1<=1024;decide)
 rw[U1,show decide (g7 X.R k=(c.toNat:Int))=false from by simpa using hc,if_neg (by decide)]at this
 exact this
theorem DH (l:List Nat)(d:Nat):L0 (l++ [d])=10*L0 l+d:=by simp[L0]
def OM (l:List Nat):Int:=if l=[]then-1 else(L0 l:Nat)
theorem Rn (l:List Nat)(d:Nat):OM (l++ [d])=10*(L0 l:Nat)+(d:Int):=by
 unfold OM
 rw[if_neg (by simp),DH]
 omega
theorem DM (b:Nat)(X:Px)(k:Nat)(f:Fl)(op:Nat)(vN vn:Value)(er ea:Int)(w:World)(h:DS w b X k f op vN vn er ea)(hk:k<=X.R.length)(hR:X.R.length<=1024):
 Calls Tryz.prog 97 #[.pointer (some ⟨b,0,none⟩)] w fun e w'=>e=.returned (.int .i64 (OM (M3 X.R 4 k)))/\DS w' b X (k+(M3 X.R 4 k).length) f op vN vn er ea/\b7 (fun g=>g=b) w w':=by
 have HD:=b6 h
 obtain⟨L,hL⟩:∃L,L=M3 X.R 4 k:=⟨_,rfl⟩
 rw[<-hL]
 have HL:=b6 hL
 have HK:=b6 hk
 clear h hL hk
 go_enter Tryz.func97,Tryz.ntmps97
 go_wp2_with fail
 go_loopg [3,4] 4 (fun gk v3 v4 wq=>∃(i:Nat) (l:List Nat),i+gk=4/\v3=.int .i64 (OM l)/\v4=.int .i64 (i:Nat)/\Hid (L=l++M3 X.R gk (k+i))/\Hid (l.length=i)/\Hid (L0 l<10^i)/\Hid (k+i<=X.R.length)/\Hid (DS wq b X (k+i) f op vN vn er ea)/\Hid (b7 (fun g=>g=b) w wq))
 case atStart=>exact⟨0,[],rfl,rfl,rfl,HL,b6 rfl,b6 (by decide),HK,HD,b6 (b7.refl _ _)⟩
 case round=>
  clear HL HD HK
  obtain⟨i,l,hgk,rfl,rfl,HL,HLL,HV,HK,HD,HT⟩:=hrel
  obtain⟨V,hV⟩:∃V:Nat,V=L0 l:=⟨_,rfl⟩
  by_cases hlt:i<4
  ·obtain⟨gk,rfl⟩:∃g,gk=g+1:=⟨gk-1,by omega⟩
   have hltI:(i:Int)<4:=by omega
   have hwi:IntKind.i64.wrap ((i:Int)+1)=((i+1:Nat):Int):=by rw[IntKind.wrap_i64];omega
   have KP:=b6 (j6 b X (k+i) f op vN vn er ea 0 wr HD.out (by have:=HK.out;omega) (by omega))
   obtain⟨y,hy⟩:∃y,y=g7 X.R (k+i):=⟨_,rfl⟩
   rw[show k+i+0=k+i from rfl,<-hy]at KP
   have hdg:=HL.out
   rw[M3,<-hy]at hdg
   by_cases hd:p4 y=true
   ·rw[if_pos hd]at hdg
    have HX:=b6 hdg
    have h48:¬y<48:=by unfold p4 at hd;simp at hd;omega
    have h57:¬y>57:=by unfold p4 at hd;simp at hd;omega
    have hkl:k+i<X.R.length:=I6 (by rw[<-hy];omega)
    have HY:=b6 hy
    have hV4:V<=999:=by
     have:=HV.out
     rw[<-hV]at this
     have:10^i<=10^3:=Nat.pow_le_pow_right (by decide) (by omega)
     omega
    have HPW:=b6 (show 10*V+(y-48).toNat<10^(i+1)by have:=HV.out;rw[<-hV]at this;rw[Nat.pow_succ];omega)
    have hw1:IntKind.i64.wrap (10*(V:Int))=10*(V:Int):=by rw[IntKind.wrap_i64];omega
    have hw2:IntKind.i64.wrap (10*(V:Int)+y)=10*(V:Int)+y:=by rw[IntKind.wrap_i64];omega
    have hw3:IntKind.i64.wrap (10*(V:Int)+y-48)=10*(V:Int)+y-48:=by rw[IntKind.wrap_i64];omega
    have hz2:IntKind.i64.wrap y=y:=by rw[IntKind.wrap_i64];omega
    have hz3:IntKind.i64.wrap (y-48)=y-48:=by rw[IntKind.wrap_i64];omega
    have HVV:=b6 hV
    clear hdg hd hy hV
    go_wp2_with fail
    refine KP.out.mono ?_
    rintro e w1 ⟨rfl,nq,rfl⟩
    have HQ:=b6 (HD.out.new ((tZ wr).drewN nq))
    have HT1:=b6 (HT.out.drewN nq)
    generalize wr.drewN nq=w1 at*
    clear KP
    have c2:w1.cell? ⟨b,2,none⟩=some (.int .i64 ((k+i:Nat):Int)):=HQ.out.c 2 _ rfl
    have f2:=HQ.out.fr 2
    have hwk:IntKind.i64.wrap (((k+i:Nat):Int)+1)=((k+(i+1):Nat):Int):=by rw[IntKind.wrap_i64];omega
    have HS:=b6 (HQ.out.setk (k+(i+1)))
    have TS:=b6 (b7.trans (S:=fun g=>g=b) HT1.out (d9 w1 b 2 (.int .i64 ((k+(i+1):Nat):Int))) iE)
    by_cases hn:l=[]
    ·subst hn
     obtain rfl:V=0:=HVV.out
     have hlt0:OM []<0:=by decide
     go_wp2
     go_roundg gk
     case measure=>omega
     case rel=>
      refine⟨i+1,[]++ [(y-48).toNat],by omega,?_,rfl,?_,?_,?_,b6 (by omega),HS,TS⟩
      ·rw[Rn,<-HVV.out]
       congr 1
       omega
      ·exact b6 (by rw[HX.out,HY.out,List.append_assoc];rfl)
      ·exact b6 (by rw[List.length_append,HLL.out];rfl)
      ·exact b6 (by rw[DH,<-HVV.out];exact HPW.out)
    ·have hnv:OM l=(V:Int):=by unfold OM;rw[if_neg hn,HVV.out]
     rw[hnv]
     have hlt0:¬(V:Int)<0:=by omega
     go_wp2
     go_roundg gk
     case measure=>omega
     case rel=>
      refine⟨i+1,l++ [(y-48).toNat],by omega,?_,rfl,?_,?_,?_,b6 (by omega),HS,TS⟩
      ·rw[Rn,<-HVV.out]
       congr 1
       omega
      ·exact b6 (by rw[HX.out,HY.out,List.append_assoc];rfl)
      ·exact b6 (by rw[List.length_append,HLL.out];rfl)
      ·exact b6 (by rw[DH,<-HVV.out];exact HPW.out)
   ·rw[if_neg hd,List.append_nil]at hdg
    have HX:=b6 hdg
    by_cases h48:y<48
    ·clear hdg hd hy hV
     go_wp2_with fail
     refine KP.out.mono ?_
     rintro e w1 ⟨rfl,nq,rfl⟩
     have HQ:=b6 (HD.out.new ((tZ wr).drewN nq))
     have HT1:=b6 (HT.out.drewN nq)
     generalize wr.drewN nq=w1 at*
     clear KP
     go_wp2
     go_ret
     rw[HX.out,HLL.out]
     exact⟨rfl,HQ.out,HT1.out⟩
    ·have h57:y>57:=by unfold p4 at hd;simp at hd;omega
     clear hdg hd hy hV
     go_wp2_with fail
     refine KP.out.mono ?_
     rintro e w1 ⟨rfl,nq,rfl⟩
     have HQ:=b6 (HD.out.new ((tZ wr).drewN nq))
     have HT1:=b6 (HT.out.drewN nq)
     generalize wr.drewN nq=w1 at*
     clear KP
     go_wp2
     go_ret
     rw[HX.out,HLL.out]
     exact⟨rfl,HQ.out,HT1.out⟩
  ·obtain rfl:i=4:=by omega
   obtain rfl:gk=0:=by omega
   have HX:=b6 (show L=l from by have:=HL.out;rw[M3,List.append_nil]at this;exact this)
   clear hV
   go_wp2
   go_ret
   rw[HX.out,HLL.out]
   exact⟨rfl,HD.out,HT.out⟩
theorem Hr:b8.all (fun p=>decide (s5 p.1 b8=some p.2))=true:=by decide
theorem Fb {s:ByteArray}{l:List R2}:∀{t:List (ByteArray×List R2)},s5 s t=some l->∃p ∈ t,p.1=s
 | [],h=>by cases h
 |(n,m)::t,h=>by
  rw[s5]at h
  split at h
  ·rename_i e
   exact⟨(n,m),by simp,e.symm⟩
  ·obtain⟨p,hp,e⟩:=Fb h
   exact⟨p,by simp[hp],e⟩
theorem DV {s:ByteArray}(h:EE s):s5 s b8=none:=by
 cases hl:s5 s b8 with
 |none=>rfl
 |some l=>
  obtain⟨p,hp,e⟩:=Fb hl
  subst e
  obtain⟨n0,n1,n2,n3,n4,n5,n6,n7,n8,n9,n10,n11,n12,n13,n14,n15,n16,n17⟩:=h
  simp only[Lib.toList_data]at n0 n1 n2 n3 n4 n5 n6 n7 n8 n9 n10 n11 n12 n13 n14 n15 n16 n17
  simp only[b8,List.mem_cons,List.not_mem_nil,or_false]at hp
  rcases hp with rfl|rfl|rfl|rfl|rfl|rfl|rfl|rfl|rfl|rfl|rfl|rfl|rfl|rfl|rfl|rfl|rfl|rfl
  ·exact absurd n0 (by decide)
  ·exact absurd n1 (by decide)
  ·exact absurd n2 (by decide)
  ·exact absurd n3 (by decide)
  ·exact absurd n4 (by decide)
  ·exact absurd n5 (by decide)
  ·exact absurd n6 (by decide)
  ·exact absurd n7 (by decide)
  ·exact absurd n8 (by decide)
  ·exact absurd n9 (by decide)
  ·exact absurd n10 (by decide)
  ·exact absurd n11 (by decide)
  ·exact absurd n12 (by decide)
  ·exact absurd n13 (by decide)
  ·exact absurd n14 (by decide)
  ·exact absurd n15 (by decide)
  ·exact absurd n16 (by decide)
  ·exact absurd n17 (by decide)
def VY (w:World):Option (List R2)->Ending->World->Prop
 |some l,e,w'=>∃v,e=.returned (.tuple #[v,.bool true])/\E9 w w' 60 v (s9 l)
 |none,e,w'=>∃v l,e=.returned (.tuple #[v,.bool false])/\E9 w w' 60 v l
theorem Qe (s:ByteArray)(w:World):Calls Tryz.prog 152 #[.string s] w fun e w'=>VY w (s5 s b8) e w':=by
 rcases Ff s with⟨p,hp,rfl⟩|h
 ·have h1:=of_decide_eq_true (List.all_eq_true.1 Hr p hp)
  rw[h1]
  have fit:∀{l:List R2} {e:Ending} {w':World},(∃v n,e=.returned (.tuple #[v,.bool true])/\l9 n/\(∀x,In x n↔(0<=x/\x<=1114111)/\In x l)/\E9 w w' 60 v n)->VY w (some l) e w':=fun⟨v,n,g1,g2,g3,g4⟩=>⟨v,g1,by rw[<-CH g2 g3];exact g4⟩
  clear h1
  simp only[b8,List.mem_cons,List.not_mem_nil,or_false]at hp
  rcases hp with rfl|rfl|rfl|rfl|rfl|rfl|rfl|rfl|rfl|rfl|rfl|rfl|rfl|rfl|rfl|rfl|rfl|rfl
  ·exact(x6 _ _ Ph (by decide) (by decide) w).mono (fun e w' h=>fit h)
  ·exact(x6 _ _ Fw (by decide) (by decide) w).mono (fun e w' h=>fit h)
  ·exact(x6 _ _ Gc (by decide) (by decide) w).mono (fun e w' h=>fit h)
  ·exact(x6 _ _ JZ (by decide) (by decide) w).mono (fun e w' h=>fit h)
  ·exact(x6 _ _ Pi (by decide) (by decide) w).mono (fun e w' h=>fit h)
  ·exact(x6 _ _ Im (by decide) (by decide) w).mono (fun e w' h=>fit h)
  ·exact(x6 _ _ Fx (by decide) (by decide) w).mono (fun e w' h=>fit h)
  ·exact(x6 _ _ Fy (by decide) (by decide) w).mono (fun e w' h=>fit h)
  ·exact(x6 _ _ Nr (by decide) (by decide) w).mono (fun e w' h=>fit h)
  ·exact(x6 _ _ Ka (by decide) (by decide) w).mono (fun e w' h=>fit h)
  ·exact(x6 _ _ Kb (by decide) (by decide) w).mono (fun e w' h=>fit h)
  ·exact(x6 _ _ Kc (by decide) (by decide) w).mono (fun e w' h=>fit h)
  ·exact(x6 _ _ Kd (by decide) (by decide) w).mono (fun e w' h=>fit h)
  ·exact(x6 _ _ Ul (by decide) (by decide) w).mono (fun e w' h=>fit h)
  ·exact(x6 _ _ Fz (by decide) (by decide) w).mono (fun e w' h=>fit h)
  ·exact(x6 _ _ Um (by decide) (by decide) w).mono (fun e w' h=>fit h)
  ·exact(x6 _ _ Ke (by decide) (by decide) w).mono (fun e w' h=>fit h)
  ·exact(x6 _ _ RX (by decide) (by decide) w).mono (fun e w' h=>fit h)
 ·rw[DV h]
  exact(Lh s h w).mono (fun e w' ⟨v,n,g1,_,_,g4⟩=>⟨v,n,g1,g4⟩)
def Dm (b:Nat)(X:Px)(f:Fl)(vn:Value)(ns:List ByteArray)(op:Nat)(w:World):PR (List R2×Nat)->Ending->World->Prop
 | .error (c,j),e,w'=>e=u6 c (g7 X.P j)/\b7 (fun g=>g=b) w w'
 | .ok (l,k1),e,w'=>∃v,e=.returned v/\w'.ownsRow 0 60 2 v (s9 l).length (l4 (s9 l))/\(∀g,v.ownBlock=some g->w.heap.size<=g)/\PS w' b X k1 f vn ns op/\b7 (fun g=>g=b) w w'
theorem Nc (a:Option Addr)(cap:Nat)(m:List R2)(w:World)(hl:Rg w a (s9 m)):Calls Tryz.prog 24 #[.slice a (s9 m).length cap] w fun e w'=>∃v,e=.returned v/\E9 w w' 60 v (z6 m):=
 (BC a cap (s9 m) w hl (r7 m).1).mono (fun e w' ⟨v,n,g1,g2,g3,g4⟩=>⟨v,g1,by rw[<-Vp m,<-Fg g2 g3];exact g4⟩)
theorem Cj (m:List R2):s9 (z6 m)=z6 m:=(IP (Dx m).1 (DL.refl _)).symm
theorem Vl (c:Int)(h:u5 c=true):c<128:=by
 simp only[u5,p4,Y6,Bool.or_eq_true,Bool.and_eq_true,decide_eq_true_eq]at h
 omega
theorem JM (s:ByteArray)(hs:EE s)(h5:(s.toList==[115,112,97,99,101])=false)(w:World):Calls Tryz.prog 147 #[.string s] w fun e w'=>∃a c,e=.returned (.slice a (ends []).length c)/\(([]:List R2)=[]∨Ig w' a (ends []))/\b7 (fun _=>False) w w':=by
 obtain⟨n0,n1,n2,n3,n4,n5,n6,n7,n8,n9,n10,n11,n12,n13,n14,n15,n16,n17⟩:=hs
 go_enter Tryz.func147,Tryz.ntmps147
 go_wp2
 go_ret
 refine⟨none,0,rfl,?_,b7.refl _ _⟩
 simp
theorem GR (s:ByteArray)(l:List R2)(hl:l.length<=4096)(n0:(s.toList==[65,110,121])=false)(n1:(s.toList==[76])=false)(n2:(s.toList==[78])=false)(n3:(s.toList==[100])=false)(n4:(s.toList==[119])=false)(n5:(s.toList==[115])=false)
 (h:∀w,Calls Tryz.prog 147 #[.string s] w fun e w'=>∃a c,e=.returned (.slice a (ends l).length c)/\(l=[]∨Ig w' a (ends l))/\b7 (fun _=>False) w w') (w:World):
 Calls Tryz.prog 135 #[.string s] w fun e w'=>∃v,e=.returned v/\E9 w w' 87 v l:=by
 obtain⟨j0,hi87,hy0,hy1,hy2⟩:=info_parts Dv
 have K:=b6 h
 clear h
 go_enter Tryz.func135,Tryz.ntmps135
 go_wp2_with fail
 refine(K.out _).mono ?_
 rintro e w1 ⟨a,c,rfl,hig,t1⟩
 have HIG:=b6 hig
 have T1:=b6 t1
 obtain⟨m,hm⟩:∃m,m=(ends l).length:=⟨_,rfl⟩
 have HM:=b6 (show m=l.length*2 by rw[hm,Qx])
 rw[<-hm]
 clear K hig t1 n0 n1 n2 n3 n4 n5 hm
 go_wp2_with fail
 go_loopg [3,5] l.length (fun gk v3 v5 wq=>∃(i:Nat),i+gk=l.length/\v5=.int .i64 ((2*i:Nat):Int)/\Hid (E9 w1 wq 87 v3 (l.take i)))
 case atStart=>exact⟨0,Nat.zero_add _,rfl,b6 (E9.nil w1 87)⟩
 case round=>
  obtain⟨i,hgk,rfl,HO⟩:=hrel
  obtain⟨p,hp⟩:∃p,p=2*i:=⟨_,rfl⟩
  rw[<-hp]
  have hw0:IntKind.i64.wrap ((p:Int)+1)=((p+1:Nat):Int):=by rw[IntKind.wrap_i64];omega
  obtain⟨a3,c3,hv3⟩:=e9 HO.out.own
  by_cases hlt:i<l.length
  ·have hltI:((p+1:Nat):Int)<(m:Int):=by have:=HM.out;omega
   have hltJ:(p:Int)<(m:Int):=by omega
   have hp0:0<=(p:Int)+1:=by omega
   have hw2:IntKind.i64.wrap ((p:Int)+2)=((2*(i+1):Nat):Int):=by rw[IntKind.wrap_i64];omega
   rcases HIG.out with h0|hg
   ·rw[h0]at hlt;simp at hlt
   obtain⟨g,rfl,hgl,hgc⟩:=hg.new HO.out.touch
   obtain⟨e0,e1⟩:=Qw l i hlt
   obtain⟨q0,q1⟩:=List.getElem?_eq_some_iff.1 e0
   obtain⟨r0,r1⟩:=List.getElem?_eq_some_iff.1 e1
   have d0:wr.cell? ⟨g,p,none⟩=some (.int .i64 (l[i]).1):=by have:=hgc (2*i) q0;rw[q1,<-hp]at this;exact this
   have d1:wr.cell? ⟨g,p+1,none⟩=some (.int .i64 (l[i]).2):=by have:=hgc (2*i+1) r0;rw[r1,<-hp]at this;exact this
   have hlen:(l.take i).length=i:=by rw[List.length_take];omega
   rw[hlen]at hv3
   subst hv3
   have HTK:=b6 (show l.take (i+1)=l.take i++ [((l[i]).1,(l[i]).2)]from List.take_succ_eq_append_getElem hlt)
   generalize (l[i]).1=x at*
   generalize (l[i]).2=y at*
   have OD:=b6 (HO.out.still ((tZ wr).drew))
   have OW:=b6 (show wr.drew.ownsRow 0 87 2 (.slice a3 i c3) i (l4 (l.take i))from by have:=OD.out.own;rw[hlen]at this;exact this)
   have HLN:=b6 hlen
   have hi4:i<=4096:=by omega
   clear e0 e1 q0 q1 r0 r1 hgc hp HO hlen
   go_wp2_with fail
   go_region_law ((refine U3 _ (by rfl) _ _ _ (by rfl) 0 87 j0 _ 2 16 Tryz.underlying84 hi87 hy0 hy1 hy2 rfl (by decide) _ _ _ (by rfl) (OW.out.alloc _) ⟨wr.heap.size,0,none⟩ 1 1 [.int .i64 x,.int .i64 y] (by rfl) (by rfl) (z7 wr.drew [.int .i64 x,.int .i64 y] 87) (by intro u hu;simp at hu;rcases hu with rfl|rfl<;>rfl) (by unfold maxLen;omega) (by omega) (Nat.zero_le _) (wr.heap.size+1) (by simp) ?_;intro v' w4 hown hgrow hat))
   all_goals
    have OC:=b6 (OD.out.more (xs:=[(x,y)]) (by rw[HLN.out];exact hown) ⟨hgrow.os,hgrow.tape,hgrow.output,hgrow.size,hgrow.block⟩ hat)
    clear hown hgrow hat
    go_wp2
    go_roundg (gk-1)
    case measure=>omega
    case rel=>exact⟨i+1,by omega,by go_num,b6 (by rw[HTK.out];exact OC.out)⟩
  ·have hltI:¬((p+1:Nat):Int)<(m:Int):=by have:=HM.out;omega
   have HL:=b6 (show l.take i=l from List.take_of_length_le (by omega))
   rw[HL.out]at hv3 HO
   subst hv3
   go_wp2
   go_ret
   exact⟨_,rfl,HO.out.base T1.out⟩
theorem y4 {s:ByteArray}{l:List R2}(hl:l.length<=4096)(hn:([[65,110,121],[76],[78],[100],[119],[115]]:List (List UInt8)).all (fun x=> !(s.data.toList==x))=true)
 (h:∀w,Calls Tryz.prog 147 #[.string s] w fun e w'=>∃a c,e=.returned (.slice a (ends l).length c)/\Ig w' a (ends l)/\b7 (fun _=>False) w w') (w:World):
 Calls Tryz.prog 135 #[.string s] w fun e w'=>∃v,e=.returned v/\E9 w w' 87 v l:=by
 simp only[List.all_cons,List.all_nil,Bool.and_true,Bool.and_eq_true,Bool.not_eq_true']at hn
 obtain⟨n0,n1,n2,n3,n4,n5⟩:=hn
 exact GR s l hl (by rw[Lib.toList_data];exact n0) (by rw[Lib.toList_data];exact n1) (by rw[Lib.toList_data];exact n2) (by rw[Lib.toList_data];exact n3) (by rw[Lib.toList_data];exact n4) (by rw[Lib.toList_data];exact n5) (fun w=>(h w).mono (fun _ _ ⟨a,c,h1,h2,h3⟩=>⟨a,c,h1,.inr h2,h3⟩)) w
theorem s6 (w:World)(t:TypeId)(x y:Int):E9 w (w.alloc (.cells #[.int .i64 x,.int .i64 y] t)) t (.slice (some ⟨w.heap.size,0,none⟩) 1 1) [(x,y)]:=
 ⟨⟨rfl,.inr ⟨w.heap.size,1,#[.int .i64 x,.int .i64 y],rfl,Nat.zero_le _,e8 w _ _,Nat.le_refl _,by unfold maxLen;omega,rfl,rfl⟩⟩,fun g e=>by cases e;exact Nat.le_refl _,(b7.refl _ w).alloc _⟩
theorem GC (b:Nat)(X:Px)(k0 k:Nat)(neg:Bool)(f:Fl)(vn:Value)(ns:List ByteArray)(op:Nat)(w:World)(h:PS w b X k f vn ns op)(hX:X.Good)(hk:k<=X.R.length)(hk0:k0<=X.R.length):
 Calls Tryz.prog 142 #[.pointer (some ⟨b,0,none⟩),.int .i64 (k0:Nat),.bool neg] w fun e w'=>Dm b X f vn ns op w (E7 X.R b8 k0 neg k) e w':=by
 have hmf:∀(fn:Fn) (first cap:Array Value) (w:World),(Instr.makeFunc fn first cap).run Tryz.prog w=.ok (.func fn first cap) w:=fun _ _ _ _=>rfl
 have HRl:=b6 hX.lenR
 have hk2:k<=1024:=by have:=HRl.out;omega
 obtain⟨A,hA⟩:∃A,A=E7 X.R b8 k0 neg k:=⟨_,rfl⟩
 have HA:=b6 hA.symm
 rw[<-hA]
 unfold E7 at HA
 simp only at HA
 clear hA
 have HK:=b6 h
 have TK:=b6 (b7.refl (fun g=>g=b) w)
 have KW:=b6 (fun k1 w' hp=>A1 b X k1 f vn ns op 24 k0 w' hp (by have:=hX.lenP;omega))
 by_cases h123:g7 X.R k=123
 ·rw[if_pos h123]at HA
  have hk3:k+1<=X.R.length:=j9 h123 (by decide)
  obtain⟨l,hl⟩:∃l,l6 X.R u5 X.R.length (k+1)=l:=⟨_,rfl⟩
  have K2:=b6 (fun a c w1 (hp:PS w1 b X (k+1) f vn ns op) ho=>AQ b X (k+1) f vn ns op a c X.R.length (X.R.length:Int) rfl (s9 Hp) u5 w1 hp hX hk3 (by have:=HRl.out;omega) ho (r7 _).1 Hj rfl Vl l hl)
  have hle:=Dz (R:=X.R) (p:=u5) rfl X.R.length (k+1) hk3
  rw[hl]at HA hle
  have KC:=b6 (fun w'=>Qe (i7 l) w')
  generalize i7 l=S at*
  obtain⟨k1,hk1⟩:∃k1,k1=k+1+l.length:=⟨_,rfl⟩
  rw[<-hk1]at HA hle K2
  have hk4:k1<=1024:=by have:=HRl.out;omega
  clear h hX hk hk0 hk3 hl hle hk1
  generalize s5 S b8=L at*
  match L with
  |none=>
   simp only at HA
   go_enter Tryz.func142,Tryz.ntmps142
   go_wp2_with fail
   refine(o7 123 HK.out (by omega) h123).mono ?_
   rintro e ws1 ⟨rfl,hp,tt⟩
   replace HK:=b6 hp
   replace TK:=b6 (TK.out.trans tt iE)
   clear hp tt
   clear h123
   have c1:ws1.drew.cell? ⟨b,1,none⟩=some (.slice X.ar X.R.length X.cr):=HK.out.c1
   go_wp2_with fail
   have Mk0:True:=trivial
   go_region_held3 (fun w'=>w'.cell? ⟨b,1,none⟩=some (.slice X.ar X.R.length X.cr)) (first|exact c1|exact c1b|exact c1c|exact HK.out.c1)
    (first
      |(clear Mk0;go_at_call 144;refine(X1 _).mono ?_;rintro e w1 ⟨v,rfl,o1⟩;obtain⟨a1,ca1,hv,_⟩:=o1.slice;subst hv;have T1:=b6 ((tZ ws1).drew.trans o1.touch iE);have c1b:=(HK.out.new T1.out).c1;have K3:=b6 (K2.out a1 ca1 w1 (HK.out.new T1.out) o1.own);clear o1 K2;have Mk1:True:=trivial)
      |(clear Mk1;go_at_call 137;refine K3.out.mono ?_;rintro e w2 ⟨rfl,hp2,t2⟩;replace HK:=b6 hp2;have c1c:=HK.out.c1;replace TK:=b6 ((TK.out.trans T1.out nE).trans t2 iE);clear hp2 t2 K3 T1))
   try clear c1
   go_wp2_with fail
   refine(KC.out _).mono ?_
   rintro e w3 ⟨v,lx,rfl,ow⟩
   obtain⟨a3,c3,hv,_⟩:=ow.slice
   subst hv
   replace HK:=b6 (HK.out.new ow.touch)
   replace TK:=b6 (TK.out.trans ow.touch nE)
   clear ow KC
   go_wp2_with fail
   refine(KW.out _ _ HK.out).mono ?_
   rintro e w9 ⟨rfl,t9⟩
   replace TK:=b6 (TK.out.trans t9 nE)
   clear t9 KW
   go_wp2
   refine⟨rfl,?_⟩
   rw[<-HA.out]
   exact⟨rfl,TK.out⟩
  |some m=>
   simp only at HA
   by_cases h125:g7 X.R k1=125
   ·rw[if_pos h125]at HA
    clear KW
    go_enter Tryz.func142,Tryz.ntmps142
    go_wp2_with fail
    refine(o7 123 HK.out (by omega) h123).mono ?_
    rintro e ws1 ⟨rfl,hp,tt⟩
    replace HK:=b6 hp
    replace TK:=b6 (TK.out.trans tt iE)
    clear hp tt
    clear h123
    have c1:ws1.drew.cell? ⟨b,1,none⟩=some (.slice X.ar X.R.length X.cr):=HK.out.c1
    go_wp2_with fail
    have Mk0:True:=trivial
    go_region_held3 (fun w'=>w'.cell? ⟨b,1,none⟩=some (.slice X.ar X.R.length X.cr)) (first|exact c1|exact c1b|exact c1c|exact HK.out.c1)
     (first
       |(clear Mk0;go_at_call 144;refine(X1 _).mono ?_;rintro e w1 ⟨v,rfl,o1⟩;obtain⟨a1,ca1,hv,_⟩:=o1.slice;subst hv;have T1:=b6 ((tZ ws1).drew.trans o1.touch iE);have c1b:=(HK.out.new T1.out).c1;have K3:=b6 (K2.out a1 ca1 w1 (HK.out.new T1.out) o1.own);clear o1 K2;have Mk1:True:=trivial)
       |(clear Mk1;go_at_call 137;refine K3.out.mono ?_;rintro e w2 ⟨rfl,hp2,t2⟩;replace HK:=b6 hp2;have c1c:=HK.out.c1;replace TK:=b6 ((TK.out.trans T1.out nE).trans t2 iE);clear hp2 t2 K3 T1))
    try clear c1
    go_wp2_with fail
    refine(KC.out _).mono ?_
    rintro e w3 ⟨v,rfl,ow⟩
    obtain⟨a3,c3,hv,_⟩:=ow.slice
    subst hv
    have T3:=b6 (TK.out.trans ow.touch nE)
    have O3:=b6 ow.own
    have N3:=b6 (fun g e=>Nat.le_trans TK.out.size (ow.new g e))
    replace HK:=b6 (HK.out.new ow.touch)
    clear ow KC TK
    go_wp2_with fail
    refine(o7 125 HK.out (by omega) h125).mono ?_
    rintro e w4 ⟨rfl,hp,tt⟩
    have O4:=b6 (g9 O3.out tt (fun g e s=>by subst s;obtain⟨cs,fr,hh⟩:=j5 O3.out g e;rw[HK.out.cells]at hh;cases hh))
    replace HK:=b6 hp
    have T4:=b6 (T3.out.trans tt iE)
    obtain⟨a4,c4,hv4,r4⟩:=F5 O4.out
    cases hv4
    have KN:=b6 (Nc a3 c3 m w4 r4)
    clear hp tt h125 T3 O3 r4
    go_wp2_with fail
    refine KN.out.mono ?_
    rintro e w5 ⟨v5,rfl,ow⟩
    obtain⟨a5,c5,hv5,_⟩:=ow.slice
    subst hv5
    have O5:=b6 (g9 O4.out ow.touch iE)
    have P5:=b6 ow.own
    have N5:=b6 (fun g e=>Nat.le_trans T4.out.size (ow.new g e))
    replace HK:=b6 (HK.out.new ow.touch)
    have T5:=b6 (T4.out.trans ow.touch nE)
    clear ow KN O4 T4
    cases neg with
    |false=>
     go_wp2_with fail
     refine(BD false _ _ w5).mono ?_
     rintro e w6 ⟨he,rfl⟩
     rw[if_neg (by decide)]at he
     subst he
     go_wp2
     go_ret
     rw[<-HA.out]
     exact⟨_,rfl,O5.out,N3.out,HK.out,T5.out⟩
    |true=>
     go_wp2_with fail
     refine(BD true _ _ w5).mono ?_
     rintro e w6 ⟨he,rfl⟩
     rw[if_pos rfl]at he
     subst he
     go_wp2
     go_ret
     rw[<-HA.out]
     refine⟨.slice a5 (z6 m).length c5,rfl,?_,N5.out,HK.out,T5.out⟩
     have hc:s9 (if True then z6 m else m)=z6 m:=by rw[if_pos trivial];exact Cj m
     rw[hc]
     exact P5.out
   ·rw[if_neg h125]at HA
    go_enter Tryz.func142,Tryz.ntmps142
    go_wp2_with fail
    refine(o7 123 HK.out (by omega) h123).mono ?_
    rintro e ws1 ⟨rfl,hp,tt⟩
    replace HK:=b6 hp
    replace TK:=b6 (TK.out.trans tt iE)
    clear hp tt
    clear h123
    have c1:ws1.drew.cell? ⟨b,1,none⟩=some (.slice X.ar X.R.length X.cr):=HK.out.c1
    go_wp2_with fail
    have Mk0:True:=trivial
    go_region_held3 (fun w'=>w'.cell? ⟨b,1,none⟩=some (.slice X.ar X.R.length X.cr)) (first|exact c1|exact c1b|exact c1c|exact HK.out.c1)
     (first
       |(clear Mk0;go_at_call 144;refine(X1 _).mono ?_;rintro e w1 ⟨v,rfl,o1⟩;obtain⟨a1,ca1,hv,_⟩:=o1.slice;subst hv;have T1:=b6 ((tZ ws1).drew.trans o1.touch iE);have c1b:=(HK.out.new T1.out).c1;have K3:=b6 (K2.out a1 ca1 w1 (HK.out.new T1.out) o1.own);clear o1 K2;have Mk1:True:=trivial)
       |(clear Mk1;go_at_call 137;refine K3.out.mono ?_;rintro e w2 ⟨rfl,hp2,t2⟩;replace HK:=b6 hp2;have c1c:=HK.out.c1;replace TK:=b6 ((TK.out.trans T1.out nE).trans t2 iE);clear hp2 t2 K3 T1))
    try clear c1
    go_wp2_with fail
    refine(KC.out _).mono ?_
    rintro e w3 ⟨v,rfl,ow⟩
    obtain⟨a3,c3,hv,_⟩:=ow.slice
    subst hv
    replace HK:=b6 (HK.out.new ow.touch)
    replace TK:=b6 (TK.out.trans ow.touch nE)
    clear ow KC
    go_wp2_with fail
    refine(o6 125 HK.out (by omega) h125).mono ?_
    rintro e ws4 ⟨rfl,hp,tt⟩
    replace HK:=b6 hp
    replace TK:=b6 (TK.out.trans tt iE)
    clear hp tt
    go_wp2_with fail
    refine(KW.out _ _ HK.out).mono ?_
    rintro e w9 ⟨rfl,t9⟩
    replace TK:=b6 (TK.out.trans t9 nE)
    clear t9 KW
    go_wp2
    refine⟨rfl,?_⟩
    rw[<-HA.out]
    exact⟨rfl,TK.out⟩
 ·rw[if_neg h123]at HA
  clear h hX hk hk0
  go_enter Tryz.func142,Tryz.ntmps142
  go_wp2_with fail
  refine(o6 123 HK.out (by omega) h123).mono ?_
  rintro e ws1 ⟨rfl,hp,tt⟩
  replace HK:=b6 hp
  replace TK:=b6 (TK.out.trans tt iE)
  clear hp tt
  clear h123
  go_wp2_with fail
  refine(KW.out _ _ HK.out).mono ?_
  rintro e w9 ⟨rfl,t9⟩
  replace TK:=b6 (TK.out.trans t9 nE)
  clear t9 KW
  go_wp2
  refine⟨rfl,?_⟩
  rw[<-HA.out]
  exact⟨rfl,TK.out⟩
end Go.Proofs.YtdhhcefmmojcmaaGreatDoor
