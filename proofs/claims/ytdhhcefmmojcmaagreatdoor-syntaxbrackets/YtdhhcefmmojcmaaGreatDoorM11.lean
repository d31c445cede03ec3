/- Texts of this proof, one behind the other. -/
import Derived.Test.YtdhhcefmmojcmaaGreatDoorM1
import Derived.Test.YtdhhcefmmojcmaaGreatDoorM9
import Derived.Test.YtdhhcefmmojcmaaGreatDoorM4
import Derived.Test.YtdhhcefmmojcmaaGreatDoorM10
import Derived.Lib.AtoiAll
import Derived.Deep.RegionWith
set_option maxRecDepth 100000
set_option maxHeartbeats 0
set_option linter.unusedVariables false
namespace Go.Proofs.YtdhhcefmmojcmaaGreatDoor
open Go.RowKit Go.Lib
theorem NM (br bs:Nat)(r:Int)(a:Option Addr)(cap:Nat)(s:List R2)(i:Nat)(hi:i<s.length)(y:Int)(hy:y=s[i].2)(w:World)(hr:w.cell? ⟨br,0,none⟩=some (.int .i64 r))(hs:w.cell? ⟨bs,0,none⟩=some (.slice a s.length cap))(hl:Rg w a s):
 Calls Tryz.prog 31 (#[.int .i64 i]++#[.pointer (some ⟨br,0,none⟩),.pointer (some ⟨bs,0,none⟩)]) w fun e w'=>e=.returned (.bool (decide (r<=y)))/\b7 (fun _=>False) w w':=by
 obtain⟨b,o,rfl,_,hcell⟩:∃b o,a=some ⟨b,o,none⟩/\b<w.heap.size/\∀i (h:i<s.length),w.cell? ⟨b,o+i*2,none⟩=some (.int .i64 (s[i]).1)/\w.cell? ⟨b,o+i*2+1,none⟩=some (.int .i64 (s[i]).2):=by
  rcases hl with h|h
  ·rw[h]at hi;simp at hi
  ·exact h
 obtain⟨d0,d1⟩:=hcell i hi
 generalize s[i].1=x at d0
 rw[<-hy]at d1
 clear hy
 have hiI:(i:Int)<(s.length:Int):=by omega
 clear hcell
 go_enter Tryz.func31,Tryz.ntmps31
 go_wp2_with fail
 go_quiet (fail)
 go_wp2
 go_ret
 exact⟨rfl,(b7.refl _ _).drewN _⟩
theorem Md (br bs:Nat)(r:Int)(a:Option Addr)(cap:Nat)(s:List R2)(w:World)(hbr:br<w.heap.size)(hbs:bs<w.heap.size)(hr:w.cell? ⟨br,0,none⟩=some (.int .i64 r))(hs:w.cell? ⟨bs,0,none⟩=some (.slice a s.length cap))(hl:Rg w a s)
 (hmono:∀i j (hi:i<s.length) (hj:j<s.length),i<=j->s[i].2<=s[j].2) (hb:s.length<=4194304):
 Calls Tryz.prog 30 #[.int .i64 s.length,.func (.func 31) #[] #[.pointer (some ⟨br,0,none⟩),.pointer (some ⟨bs,0,none⟩)]] w fun e w'=>∃k:Nat,e=.returned (.int .i64 k)/\k<=s.length/\(∀t (_:t<k) (hl:t<s.length),¬r<=s[t].2)/\(∀t (_:k<=t) (hl:t<s.length),r<=s[t].2)/\b7 (fun _=>False) w w':=by
 have HC:=b6 (fun(wq:World) (tc:b7 (fun _=>False) w wq) (i:Nat) (hi:i<s.length) (y:Int) (hy:y=s[i].2)=>NM br bs r a cap s i hi y hy wq ((tc.cell (p:=⟨br,0,none⟩) hbr id).trans hr) ((tc.cell (p:=⟨bs,0,none⟩) hbs id).trans hs) (hl.new tc))
 have M:=b6 hmono
 clear hr hs hl hmono hbr hbs
 go_enter Tryz.func30,Tryz.ntmps30
 go_wp2_with fail
 go_loopg [5,6] s.length (fun gk x y wr=>∃lo hi:Nat,x=.int .i64 lo/\y=.int .i64 hi/\lo<=hi/\hi<=s.length/\hi-lo<=gk/\Hid ((∀t (_:t<lo) (hl:t<s.length),¬r<=s[t].2)/\(∀t (_:hi<=t) (hl:t<s.length),r<=s[t].2))/\b7 (fun _=>False) w wr)
 case atStart=>exact⟨0,s.length,rfl,rfl,Nat.zero_le _,Nat.le_refl _,by omega,b6 ⟨fun t ht=>absurd ht (Nat.not_lt_zero _),fun t h1 h2=>by omega⟩,b7.refl _ _⟩
 case round=>
  obtain⟨lo,hi,rfl,rfl,hlh,hin,hg,I,htc⟩:=hrel
  have TC:=b6 htc
  clear htc
  by_cases hlt:lo<hi
  ·have hmid:(lo+hi) / 2<s.length:=by omega
   have HMID:=b6 hmid
   obtain⟨y,hy⟩:∃y,y=s[(lo+hi) / 2].2:=⟨_,rfl⟩
   have hc:=HC.out wr TC.out ((lo+hi) / 2) hmid y hy
   rw[show(((lo+hi) / 2:Nat):Int)=((lo:Int)+(hi:Int)) / 2 by omega]at hc
   have HY:=b6 hy
   clear hy hmid
   by_cases hp:r<=y
   ·rw[decide_eq_true hp]at hc
    have HP:=b6 hp
    clear hp
    go_wp2_with fail
    refine hc.mono ?_
    rintro e w' ⟨rfl,tc⟩
    have T2:=b6 (TC.out.trans tc iE)
    clear tc hc
    go_wp2_with fail
    go_roundg ((lo+hi) / 2-lo)
    case measure=>omega
    case rel=>
     exact⟨lo,(lo+hi) / 2,rfl,by rw[show((lo:Int)+(hi:Int)) / 2=(((lo+hi) / 2:Nat):Int)by omega],by omega,by omega,Nat.le_refl _,b6 ⟨I.out.1,fun t ht htl=>by have h1:=M.out _ t HMID.out htl ht;have h2:=HP.out;rw[HY.out]at h2;omega⟩,T2.out⟩
   ·rw[decide_eq_false hp]at hc
    have HP:=b6 hp
    clear hp
    go_wp2_with fail
    refine hc.mono ?_
    rintro e w' ⟨rfl,tc⟩
    have T2:=b6 (TC.out.trans tc iE)
    clear tc hc
    go_wp2_with fail
    go_roundg (hi-((lo+hi) / 2+1))
    case measure=>omega
    case rel=>
     exact⟨(lo+hi) / 2+1,hi,by rw[show((lo:Int)+(hi:Int)) / 2+1=(((lo+hi) / 2+1:Nat):Int)by omega],rfl,by omega,hin,Nat.le_refl _,b6 ⟨fun t ht htl=>by have h1:=M.out t _ htl HMID.out (by omega);have h2:=HP.out;rw[HY.out]at h2;omega,I.out.2⟩,T2.out⟩
  ·obtain rfl:hi=lo:=by omega
   go_wp2
   go_ret
   exact⟨hi,rfl,hin,I.out.1,I.out.2,TC.out⟩
theorem IK {s:List R2}(h:l9 s)(i j:Nat)(hi:i<s.length)(hj:j<s.length)(hij:i<j):s[i].2+1<s[j].1:=(List.pairwise_iff_getElem.1 h.up) i j hi hj hij
theorem Ld {s:List R2}(h:l9 s)(i j:Nat)(hi:i<s.length)(hj:j<s.length)(hij:i<=j):s[i].2<=s[j].2:=by
 rcases Nat.lt_or_ge i j with k|k
 ·have h1:=IK h i j hi hj k
  have h2:=h.in_ s[j] (List.getElem_mem _)
  unfold Ap at h2
  omega
 ·obtain rfl:i=j:=by omega
  exact Int.le_refl _
theorem QK {s:List R2}(x:Int)(h1:∀t (hl:t<s.length),¬x<=s[t].2):s7 x s=false:=by
 rw[<-Bool.not_eq_true,u7]
 rintro⟨r,hr,_,k⟩
 obtain⟨t,ht,rfl⟩:=List.getElem_of_mem hr
 exact h1 t ht k
theorem Vf {s:List R2}(h:l9 s)(x:Int)(k:Nat)(hk:k<s.length)(h1:∀t (_:t<k) (hl:t<s.length),¬x<=s[t].2)(h2:x<=s[k].2):s7 x s=decide (s[k].1<=x):=by
 refine Eu ?_
 rw[decide_eq_true_eq]
 constructor
 ·rintro⟨r,hr,k1,k2⟩
  obtain⟨t,ht,rfl⟩:=List.getElem_of_mem hr
  rcases Nat.lt_trichotomy t k with q|q|q
  ·exact absurd k2 (h1 t q ht)
  ·subst q
   exact k1
  ·have:=IK h k t hk ht q
   omega
 ·exact fun q=>⟨s[k],List.getElem_mem _,q,h2⟩
theorem Mz (w:World)(v:Value)(t:TypeId):(w.alloc (.cells #[v] t)).cell? ⟨w.heap.size,0,none⟩=some v:=by
 rw[World.cell?_alloc_at _ _ _ _ (by simp)];rfl
theorem ER (a:Option Addr)(cap:Nat)(s:List R2)(r:Int)(w:World)(hl:Rg w a s)(hs:l9 s):
 Calls Tryz.prog 17 #[.slice a s.length cap,.int .i64 r] w fun e w'=>e=.returned (.bool (s7 r s))/\b7 (fun _=>False) w w':=by
 have HL:=b6 hl
 have HS:=b6 hs
 have hb:=W7 hs
 have K:=b6 (fun(wq:World) h1 h2 h3 h4 h5=>Md (w.heap.size+1) w.heap.size r a cap s wq h1 h2 h3 h4 h5 (Ld hs) (by omega))
 have T2:=b6 (((tZ w).alloc (.cells #[.slice a s.length cap] 25)).alloc (.cells #[.int .i64 r] 3))
 clear hl hs
 go_enter Tryz.func17,Tryz.ntmps17
 go_wp2_with fail
 have q1:((w.alloc (.cells #[.slice a s.length cap] 25)).alloc (.cells #[.int .i64 r] 3)).cell? ⟨w.heap.size,0,none⟩=some (.slice a s.length cap):=(((tZ _).alloc _).cell (p:=⟨w.heap.size,0,none⟩) (by simp) id).trans (Mz _ _ _)
 have q2:((w.alloc (.cells #[.slice a s.length cap] 25)).alloc (.cells #[.int .i64 r] 3)).cell? ⟨w.heap.size+1,0,none⟩=some (.int .i64 r):=by
  have:=Mz (w.alloc (.cells #[.slice a s.length cap] 25)) (.int .i64 r) 3
  rw[show(w.alloc (.cells #[.slice a s.length cap] 25)).heap.size=w.heap.size+1 by simp]at this
  exact this
 have z2:w.heap.size+1<((w.alloc (.cells #[.slice a s.length cap] 25)).alloc (.cells #[.int .i64 r] 3)).heap.size:=by simp
 generalize ((w.alloc (.cells #[.slice a s.length cap] 25)).alloc (.cells #[.int .i64 r] 3))=w2 at*
 have z1:w.heap.size<w2.heap.size:=Nat.lt_of_succ_lt z2
 refine(K.out w2 z2 z1 q2 q1 (HL.out.new T2.out)).mono ?_
 rintro e w3 ⟨k,rfl,hk,h1,h2,tc⟩
 have T3:=b6 (T2.out.trans tc iE)
 have p1:=(tc.cell (p:=⟨w.heap.size,0,none⟩) z1 id).trans q1
 have p2:=(tc.cell (p:=⟨w.heap.size+1,0,none⟩) z2 id).trans q2
 have R3:=b6 (HL.out.new T3.out)
 clear tc q1 q2 z1 z2 K
 by_cases hlt:k<s.length
 ·have HX:=b6 (Vf HS.out r k hlt (fun t p q=>by have:=h1 t p q;omega) (h2 k (Nat.le_refl _) hlt))
  obtain⟨b,o,ha,hbl,hcell⟩:∃b o,a=some ⟨b,o,none⟩/\b<w3.heap.size/\∀i (h:i<s.length),w3.cell? ⟨b,o+i*2,none⟩=some (.int .i64 (s[i]).1)/\w3.cell? ⟨b,o+i*2+1,none⟩=some (.int .i64 (s[i]).2):=by
   rcases R3.out with h|h
   ·rw[h]at hlt;simp at hlt
   ·exact h
  subst ha
  obtain⟨d0,d1⟩:=hcell k hlt
  obtain⟨x,hx⟩:∃x,x=s[k].1:=⟨_,rfl⟩
  rw[<-hx]at d0 HX
  have hkI:(k:Int)<(s.length:Int):=by omega
  have hd:decide ((k:Int)<(s.length:Int))=true:=decide_eq_true hkI
  clear hcell hx h1 h2 d1
  go_wp2_with fail
  go_quiet (fail)
  go_wp2
  go_ret
  rw[HX.out]
  exact⟨rfl,T3.out.drewN _⟩
 ·have HX:=b6 (QK (s:=s) r (fun t ht=>by have:=h1 t (by omega) ht;omega))
  have hd:decide ((k:Int)<(s.length:Int))=false:=decide_eq_false (by omega)
  clear h1 h2
  go_wp2_with fail
  go_quiet (fail)
  go_wp2
  go_ret
  rw[HX.out]
  exact⟨rfl,T3.out.drewN _⟩
theorem E9.base {w w1 w2:World}{e:TypeId}{v:Value}{s:List R2}(h:E9 w1 w2 e v s)(t:b7 (fun _=>False) w w1):E9 w w2 e v s:=
 ⟨h.own,fun g e=>Nat.le_trans t.size (h.new g e),t.trans h.touch iE⟩
theorem E9.slice {w w1:World}{e:TypeId}{v:Value}{s:List R2}(h:E9 w w1 e v s):∃a c,v=.slice a s.length c/\Rg w1 a s:=F5 h.own
theorem UP {a b n:List R2}(hn:l9 n)(h:∀x,In x n↔In x (s9 a)∨In x (s9 b)):n=s9 (a++b):=by
 refine CH hn (fun x=>?_)
 rw[h,(r7 a).2,(r7 b).2,E3]
 constructor
 ·rintro(h|h)
  ·exact⟨h.1,.inl h.2⟩
  ·exact⟨h.1,.inr h.2⟩
 ·rintro⟨h,h2|h2⟩
  ·exact .inl ⟨h,h2⟩
  ·exact .inr ⟨h,h2⟩
theorem UA (a:Option Addr)(cap:Nat)(l:List R2)(w:World)(hl:Rg w a l)(hb:l.length*16<=140737488351232):
 Calls Tryz.prog 22 #[.slice a l.length cap] w fun e w'=>∃v,e=.returned v/\E9 w w' 60 v (s9 l):=
 (Hv a cap l w hl hb).mono (fun e w' ⟨v,s,h1,h2,h3,h4⟩=>⟨v,h1,by rw[<-CH h2 h3];exact⟨h4.own,h4.new,h4.touch⟩⟩)
theorem JH (a1 a2:Option Addr)(c1 c2:Nat)(s t:List R2)(w:World)(h1:Rg w a1 (s9 s))(h2:Rg w a2 (s9 t)):
 Calls Tryz.prog 21 #[.slice a1 (s9 s).length c1,.slice a2 (s9 t).length c2] w fun e w'=>∃v,e=.returned v/\E9 w w' 60 v (s9 (s++t)):=
 (TU a1 a2 c1 c2 _ _ w h1 h2 (r7 s).1 (r7 t).1).mono (fun e w' ⟨v,n,g1,g2,g3,g4⟩=>⟨v,g1,by rw[<-UP g2 g3];exact g4⟩)
theorem J5 (x y:Int)(w:World):Calls Tryz.prog 113 #[.int .i64 x,.int .i64 y] w fun e w'=>∃v,e=.returned v/\E9 w w' 60 v (s9 [(x,y)]):=by
 have K:=b6 (UA (some ⟨w.heap.size,0,none⟩) 1 [(x,y)] (w.alloc (.cells #[.int .i64 x,.int .i64 y] 60)) (u9 w [(x,y)] 60) (by simp))
 have T:=b6 ((tZ w).alloc (.cells #[.int .i64 x,.int .i64 y] 60))
 go_enter Tryz.func113,Tryz.ntmps113
 go_wp2_with fail
 refine K.out.mono ?_
 rintro e w1 ⟨v,rfl,ow⟩
 have OW:=b6 (ow.base T.out)
 obtain⟨a,c,hv,_⟩:=ow.slice
 subst hv
 clear ow K T
 go_wp2
 go_ret
 exact⟨_,rfl,OW.out⟩
theorem M8 (x:Int)(w:World):Calls Tryz.prog 116 #[.int .i64 x] w fun e w'=>∃v,e=.returned v/\E9 w w' 60 v (s9 [(x,x)]):=by
 have K:=b6 (J5 x x w)
 go_enter Tryz.func116,Tryz.ntmps116
 go_wp2_with fail
 refine K.out.mono ?_
 rintro e w1 ⟨v,rfl,ow⟩
 have OW:=b6 ow
 obtain⟨a,c,hv,_⟩:=ow.slice
 subst hv
 clear ow K
 go_wp2
 go_ret
 exact⟨_,rfl,OW.out⟩
theorem Bc (w:World):Calls Tryz.prog 149 #[] w fun e w'=>∃v,e=.returned v/\E9 w w' 60 v (s9 [(48,57)]):=by
 have K:=b6 (J5 48 57 w)
 go_enter Tryz.func149,Tryz.ntmps149
 go_wp2_with fail
 refine K.out.mono ?_
 rintro e w1 ⟨v,rfl,ow⟩
 have OW:=b6 ow
 obtain⟨a,c,hv,_⟩:=ow.slice
 subst hv
 clear ow K
 go_wp2
 go_ret
 exact⟨_,rfl,OW.out⟩
theorem X1 (w:World):Calls Tryz.prog 144 #[] w fun e w'=>∃v,e=.returned v/\E9 w w' 60 v (s9 ([(48,57)]++ [(65,90)]++ [(97,122)])):=by
 have K1:=b6 (Bc w)
 go_enter Tryz.func144,Tryz.ntmps144
 go_wp2_with fail
 refine K1.out.mono ?_
 rintro e w1 ⟨v,rfl,o1⟩
 obtain⟨a1,c1,hv,r1⟩:=o1.slice
 subst hv
 have O1:=b6 o1
 have R1:=b6 r1
 have K2:=b6 (J5 65 90 w1)
 clear o1 r1 K1
 go_wp2_with fail
 refine K2.out.mono ?_
 rintro e w2 ⟨v,rfl,o2⟩
 obtain⟨a2,c2,hv,r2⟩:=o2.slice
 subst hv
 have K3:=b6 (JH a1 a2 c1 c2 [(48,57)] [(65,90)] w2 (R1.out.new o2.touch) r2)
 have T2:=b6 (O1.out.touch.trans o2.touch iE)
 clear o2 r2 K2
 go_wp2_with fail
 refine K3.out.mono ?_
 rintro e w3 ⟨v,rfl,o3⟩
 obtain⟨a3,c3,hv,r3⟩:=o3.slice
 subst hv
 have R3:=b6 r3
 have T3:=b6 (T2.out.trans o3.touch iE)
 have K4:=b6 (J5 97 122 w3)
 clear o3 r3 K3
 go_wp2_with fail
 refine K4.out.mono ?_
 rintro e w4 ⟨v,rfl,o4⟩
 obtain⟨a4,c4,hv,r4⟩:=o4.slice
 subst hv
 have K5:=b6 (JH a3 a4 c3 c4 ([(48,57)]++ [(65,90)]) [(97,122)] w4 (R3.out.new o4.touch) r4)
 have T4:=b6 (T3.out.trans o4.touch iE)
 clear o4 r4 K4
 go_wp2_with fail
 refine K5.out.mono ?_
 rintro e w5 ⟨v,rfl,o5⟩
 have OW:=b6 (o5.base T4.out)
 obtain⟨a5,c5,hv,_⟩:=o5.slice
 subst hv
 clear o5 K5
 go_wp2
 go_ret
 exact⟨_,rfl,OW.out⟩
theorem M6 (w:World):Calls Tryz.prog 153 #[] w fun e w'=>∃v,e=.returned v/\E9 w w' 60 v (s9 ([(48,57)]++ [(65,70)]++ [(97,102)])):=by
 have K1:=b6 (Bc w)
 go_enter Tryz.func153,Tryz.ntmps153
 go_wp2_with fail
 refine K1.out.mono ?_
 rintro e w1 ⟨v,rfl,o1⟩
 obtain⟨a1,c1,hv,r1⟩:=o1.slice
 subst hv
 have O1:=b6 o1
 have R1:=b6 r1
 have K2:=b6 (J5 65 70 w1)
 clear o1 r1 K1
 go_wp2_with fail
 refine K2.out.mono ?_
 rintro e w2 ⟨v,rfl,o2⟩
 obtain⟨a2,c2,hv,r2⟩:=o2.slice
 subst hv
 have K3:=b6 (JH a1 a2 c1 c2 [(48,57)] [(65,70)] w2 (R1.out.new o2.touch) r2)
 have T2:=b6 (O1.out.touch.trans o2.touch iE)
 clear o2 r2 K2
 go_wp2_with fail
 refine K3.out.mono ?_
 rintro e w3 ⟨v,rfl,o3⟩
 obtain⟨a3,c3,hv,r3⟩:=o3.slice
 subst hv
 have R3:=b6 r3
 have T3:=b6 (T2.out.trans o3.touch iE)
 have K4:=b6 (J5 97 102 w3)
 clear o3 r3 K3
 go_wp2_with fail
 refine K4.out.mono ?_
 rintro e w4 ⟨v,rfl,o4⟩
 obtain⟨a4,c4,hv,r4⟩:=o4.slice
 subst hv
 have K5:=b6 (JH a3 a4 c3 c4 ([(48,57)]++ [(65,70)]) [(97,102)] w4 (R3.out.new o4.touch) r4)
 have T4:=b6 (T3.out.trans o4.touch iE)
 clear o4 r4 K4
 go_wp2_with fail
 refine K5.out.mono ?_
 rintro e w5 ⟨v,rfl,o5⟩
 have OW:=b6 (o5.base T4.out)
 obtain⟨a5,c5,hv,_⟩:=o5.slice
 subst hv
 clear o5 K5
 go_wp2
 go_ret
 exact⟨_,rfl,OW.out⟩
def Hp:List R2:=[(48,57)]++ [(65,90)]++ [(97,122)]
def Tq:List R2:=[(48,57)]++ [(65,70)]++ [(97,102)]
def Tr:List R2:=Hp++ [(95,95)]
theorem BU (w:World):Calls Tryz.prog 138 #[] w fun e w'=>∃v,e=.returned v/\E9 w w' 60 v (s9 Tr):=by
 have K1:=b6 (X1 w)
 go_enter Tryz.func138,Tryz.ntmps138
 go_wp2_with fail
 refine K1.out.mono ?_
 rintro e w1 ⟨v,rfl,o1⟩
 obtain⟨a1,c1,hv,r1⟩:=o1.slice
 subst hv
 have O1:=b6 o1
 have R1:=b6 r1
 have K2:=b6 (M8 95 w1)
 clear o1 r1 K1
 go_wp2_with fail
 refine K2.out.mono ?_
 rintro e w2 ⟨v,rfl,o2⟩
 obtain⟨a2,c2,hv,r2⟩:=o2.slice
 subst hv
 have K3:=b6 (JH a1 a2 c1 c2 Hp [(95,95)] w2 (R1.out.new o2.touch) r2)
 have T2:=b6 (O1.out.touch.trans o2.touch iE)
 clear o2 r2 K2
 unfold Hp at K3
 go_wp2_with fail
 refine K3.out.mono ?_
 rintro e w3 ⟨v,rfl,o3⟩
 have OW:=b6 (o3.base T2.out)
 obtain⟨a3,c3,hv,_⟩:=o3.slice
 subst hv
 clear o3 K3
 go_wp2
 go_ret
 exact⟨_,rfl,OW.out⟩
theorem BD (t:Bool)(v u:Value)(w:World):Calls Tryz.prog 114 #[.bool t,v,u] w fun e w'=>e=.returned (if t=true then v else u)/\w'=w:=by
 cases t
 ·go_enter Tryz.func114,Tryz.ntmps114
  go_wp2
  go_ret
  exact⟨rfl,rfl⟩
 ·go_enter Tryz.func114,Tryz.ntmps114
  go_wp2
  go_ret
  exact⟨rfl,rfl⟩
theorem JL (t:Bool)(x y:Int)(w:World):Calls Tryz.prog 117 #[.bool t,.int .i64 x,.int .i64 y] w fun e w'=>e=.returned (.int .i64 (if t=true then x else y))/\w'=w:=by
 cases t
 ·go_enter Tryz.func117,Tryz.ntmps117
  go_wp2
  go_ret
  exact⟨rfl,rfl⟩
 ·go_enter Tryz.func117,Tryz.ntmps117
  go_wp2
  go_ret
  exact⟨rfl,rfl⟩
theorem CP {l:List R2}{x:Int}:s7 x (s9 l)=(decide (0<=x/\x<=1114111)&&s7 x l):=by
 rw[Bool.eq_iff_iff,u7,Bool.and_eq_true,u7,(r7 l).2,decide_eq_true_eq]
theorem MI (x:Int):s7 x (s9 [(48,57)])=p4 x:=by
 rw[CP,Bool.eq_iff_iff]
 simp only[s7,p4,List.any_cons,List.any_nil,Bool.and_eq_true,decide_eq_true_eq,Bool.or_false]
 omega
theorem Hj (x:Int):s7 x (s9 Hp)=u5 x:=by
 rw[CP,Bool.eq_iff_iff]
 simp only[Hp,s7,u5,p4,Y6,List.cons_append,List.nil_append,List.any_cons,List.any_nil,Bool.and_eq_true,Bool.or_eq_true,decide_eq_true_eq,Bool.or_false]
 omega
theorem MJ (x:Int):s7 x (s9 Tq)=p6 x:=by
 rw[CP,Bool.eq_iff_iff]
 simp only[Tq,s7,p6,p4,List.cons_append,List.nil_append,List.any_cons,List.any_nil,Bool.and_eq_true,Bool.or_eq_true,decide_eq_true_eq,Bool.or_false]
 omega
theorem Tl (x:Int):s7 x (s9 Tr)=C2 x:=by
 rw[CP,Bool.eq_iff_iff]
 simp only[Tr,Hp,s7,C2,u5,p4,Y6,List.cons_append,List.nil_append,List.any_cons,List.any_nil,Bool.and_eq_true,Bool.or_eq_true,decide_eq_true_eq,Bool.or_false]
 omega
def Px.cut (X:Px)(i j:Nat):ByteArray:=X.s.extract (g7 X.P i).toNat (g7 X.P j).toNat
theorem Px.Good.at_nat {X:Px}(h:X.Good){i:Nat}(hi:i<=X.R.length):∃n:Nat,g7 X.P i=(n:Int)/\n<=X.s.size:=by
 have hl:i<X.P.length:=by have:=h.lenP;omega
 have:=h.up i hl
 rw[P8 hl]
 exact⟨X.P[i].toNat,by omega,by omega⟩
theorem Px.Good.le {X:Px}(h:X.Good):∀(n i:Nat),i+n<=X.R.length->g7 X.P i<=g7 X.P (i+n)
 |0,i,_=>Int.le_refl _
 |n+1,i,hi=>by
  have h1:i+n<X.P.length:=by have:=h.lenP;omega
  have h2:i+n+1<X.P.length:=by have:=h.lenP;omega
  have:=h.mono (i+n) h1 h2
  have ih:=Px.Good.le h n i (by omega)
  rw[P8 h1]at ih
  rw[show i+(n+1)=i+n+1 by omega,P8 h2]
  omega
theorem RO {R:List Int}{p:Int->Bool}{n k:Nat}:(l6 R p (n+1) k).length=if p (g7 R k)=true then(l6 R p n (k+1)).length+1 else 0:=by
 rw[l6]
 split<;>simp
theorem Ui (b:Nat)(X:Px)(k:Nat)(f:Fl)(vn:Value)(ns:List ByteArray)(op:Nat)(a:Option Addr)(c m:Nat)(s:List R2)(p:Int->Bool)(w:World)(h:PS w b X k f vn ns op)(hX:X.Good)(hk:k<=X.R.length)(hm:m<=1024)
 (ho:w.ownsRow 0 60 2 (.slice a s.length c) s.length (l4 s)) (hs:l9 s) (hp:∀x,s7 x s=p x) (hend:p (-1)=false):
 Calls Tryz.prog 137 #[.pointer (some ⟨b,0,none⟩),.func (.func 17) #[.slice a s.length c] #[],.int .i64 (m:Nat)] w fun e w'=>
  e=.returned (.string (X.cut k (k+(l6 X.R p m k).length)))/\PS w' b X (k+(l6 X.R p m k).length) f vn ns op/\b7 (fun g=>g=b) w w':=by
 have HR:=b6 (Dz (R:=X.R) hend m k hk)
 obtain⟨L,hL⟩:∃L,L=(l6 X.R p m k).length:=⟨_,rfl⟩
 have HL:=b6 hL.symm
 rw[<-hL]at HR⊢
 have HP:=b6 h
 have HO:=b6 ho
 have HX:=b6 hX
 have HEND:=b6 hend
 have HS:=b6 hs
 have c5:=h.c5
 have TW:=b6 (b7.refl (fun g=>g=b) w)
 obtain⟨S,hS⟩:∃S,S=X.cut k (k+L):=⟨_,rfl⟩
 have HCUT:=b6 hS
 rw[<-hS]
 have hRl:=hX.lenR
 clear hS
 clear h ho hL hX hend hs
 obtain⟨n,hn⟩:∃n,n=s.length:=⟨_,rfl⟩
 have HN:=b6 hn
 rw[<-hn]at HO⊢
 have hkk:k<=1024:=by omega
 clear hn hk hRl
 go_enter Tryz.func137,Tryz.ntmps137
 go_wp2_with fail
 clear c5
 go_loopg [] m (fun gk wq=>∃i:Nat,i+gk=m/\Hid (i<=L)/\Hid (PS wq b X (k+i) f vn ns op)/\Hid (i+(l6 X.R p (m-i) (k+i)).length=L)/\Hid (wq.ownsRow 0 60 2 (.slice a n c) n (l4 s))/\Hid (b7 (fun g=>g=b) w wq))
 case atStart=>exact⟨0,by omega,b6 (Nat.zero_le _),HP,b6 (by rw[Nat.zero_add];exact HL.out),HO,TW⟩
 case round=>
  obtain⟨i,hi,HIL,HK,HD,HOW,TK⟩:=hrel
  clear HP HL HO TW
  have HKL:=b6 (show k+i<=2048 from by have:=HR.out;have:=HIL.out;have:=HX.out.lenR;omega)
  have c5:=HK.out.c5
  have KL:=b6 (Bj b X (k+i) f vn ns op wr HK.out HKL.out)
  by_cases h0:gk=0
  ·subst h0
   have im:i=m:=by omega
   subst im
   rw[Nat.sub_self,show l6 X.R p 0 (k+i)=[]from rfl]at HD
   have HK1:=HK
   have TK1:=TK
   have hge:¬(i:Int)<(i:Int):=by omega
   have HE:=b6 (show i=L from by have:=HD.out;simpa using this)
   obtain⟨pa,ea,la⟩:=HX.out.at_nat (i:=k) (by have:=HR.out;omega)
   obtain⟨pb,eb,lb⟩:=HX.out.at_nat (i:=k+i) (by have:=HR.out;have:=HE.out;omega)
   have hab:pa<=pb:=by
    have:=HX.out.le i k (by have:=HR.out;have:=HE.out;omega)
    rw[ea,eb]at this
    omega
   have HFIN:=b6 (show S=X.s.extract pa pb from by rw[HCUT.out,<-HE.out];unfold Px.cut;rw[ea,eb];rfl)
   have hs1:X.s.size<=1024:=HX.out.size
   have c4:=HK1.out.c4
   have c2:=HK1.out.c2
   have e5:=HK1.out.c5
   have hpl:X.P.length=X.R.length+1:=HX.out.lenP
   have hpk:k+i<X.P.length:=by have:=HR.out;have:=HE.out;omega
   have HPL:=b6 HK1.out.places
   obtain⟨g,o,hap,hcp⟩:∃g o,X.ap=some ⟨g,o,none⟩/\∀j (h:j<X.P.length),wr.cell? ⟨g,o+j,none⟩=some (.int .i64 X.P[j]):=by
    rcases HPL.out with h0|h0
    ·rw[h0]at hpk;simp at hpk
    ·exact h0
   have d0:=hcp k (by omega)
   have d1:=hcp (k+i) hpk
   rw[<-P8 (by omega),ea]at d0
   rw[<-P8 hpk,eb]at d1
   rw[hap]at c2
   obtain⟨pl,hpl2⟩:∃pl,pl=X.P.length:=⟨_,rfl⟩
   rw[<-hpl2]at c2 hpk
   have i0:(k:Int)<(pl:Int):=by omega
   have i1:(k:Int)+(i:Int)<(pl:Int):=by omega
   obtain⟨str,hstr⟩:∃str,str=X.s:=⟨_,rfl⟩
   rw[<-hstr]at c4 HFIN lb hs1
   have j0:(pa:Int)<=(pb:Int):=by omega
   have j1:(pb:Int)<=(str.size:Int):=by omega
   have HPS:=b6 (HK1.out)
   clear hpl hpl2 hcp hap ea eb hstr HPL HD HR HX HS HCUT HEND HIL HOW HN hp
   go_wp2_with fail
   go_quiet (fail)
   go_wp2
   go_ret
   have:=HE.out
   subst this
   rw[HFIN.out]
   exact⟨rfl,HPS.out.new ((b7.refl _ _).drewN _),TK1.out.drewN _⟩
  ·obtain⟨g1,hg1⟩:∃g1,m-i=g1+1:=⟨m-i-1,by omega⟩
   rw[hg1,RO]at HD
   have hlt:(i:Int)<(m:Int):=by omega
   have HG1:=b6 hg1
   clear hg1
   have KH:=b6 (fun(w':World) (t:b7 (fun _=>False) wr w') (x:Int)=>(ER a c s x w' (by have:=g9 HOW.out t iE;rw[HN.out]at this;obtain⟨a1,c1,he,hr⟩:=F5 this;cases he;exact hr) HS.out).mono (fun e w'' h=>(show e=.returned (.bool (p x))/\b7 (fun _=>False) w' w'' from⟨by rw[<-hp x];exact h.1,h.2⟩)))
   rw[<-HN.out]at KH
   generalize hx:g7 X.R (k+i)=x at*
   have HXE:=b6 hx
   clear hx
   by_cases hpx:p x=true
   ·rw[if_pos hpx]at HD
    go_wp2_with fail
    refine KL.out.mono ?_
    rintro e w1 ⟨rfl,t1⟩
    have K2:=b6 (KH.out w1 t1 x)
    rw[hpx]at K2
    have T1:=b6 t1
    clear t1 KH KL
    go_wp2_with fail
    refine K2.out.mono ?_
    rintro e w2 ⟨rfl,t2⟩
    have T2:=b6 (T1.out.trans t2 iE)
    have HK2:=b6 (HK.out.new T2.out)
    have d5:=HK2.out.c5
    have f5:=HK2.out.fr 5
    have HAP:=b6 (show ∀g,(Value.slice a n c).ownBlock=some g->¬g=b from fun g e e2=>by
     subst e2
     obtain⟨cs,fr,hh⟩:=j5 HOW.out g e
     rw[HK.out.cells]at hh
     cases hh)
    have HOW3:=b6 (g9 (g9 HOW.out T2.out iE) (d9 w2 b 5 (.int .i64 ((k+(i+1):Nat):Int))) HAP.out)
    have HK3:=b6 (HK2.out.setk (k+(i+1)))
    have TK3:=b6 ((TK.out.trans T2.out nE).trans (d9 w2 b 5 (.int .i64 ((k+(i+1):Nat):Int))) iE)
    have e1:((k+(i+1):Nat):Int)=(k:Int)+(i:Int)+1:=by omega
    rw[e1]at HOW3 HK3 TK3
    have HD2:=b6 (show(i+1)+(l6 X.R p (m-(i+1)) (k+(i+1))).length=L from by
     have h1:=HG1.out
     rw[show m-(i+1)=g1 by omega,show k+(i+1)=k+i+1 by omega]
     have:=HD.out
     omega)
    have HIL2:=b6 (show i+1<=L from by have:=HD2.out;omega)
    clear t2 K2 HK HOW TK HAP HD HIL HG1 HKL e1 c5 T1 T2 hpx
    go_wp2
    go_roundg (gk-1)
    case measure=>omega
    case rel=>exact⟨i+1,by omega,HIL2,HK3,HD2,HOW3,TK3⟩
   ·rw[if_neg hpx]at HD
    have hpf:p x=false:=by simpa using hpx
    go_wp2_with fail
    refine KL.out.mono ?_
    rintro e w1 ⟨rfl,t1⟩
    have K2:=b6 (KH.out w1 t1 x)
    rw[hpf]at K2
    have T1:=b6 t1
    clear t1 KH KL
    go_wp2_with fail
    refine K2.out.mono ?_
    rintro e w2 ⟨rfl,t2⟩
    have T2:=b6 (T1.out.trans t2 iE)
    have HK1:=b6 (HK.out.new T2.out)
    have TK1:=b6 (TK.out.trans T2.out nE)
    clear t2 K2 HK TK HG1 HKL c5 T1 T2 hpx hpf HXE hlt
    have HE:=b6 (show i=L from by have:=HD.out;simpa using this)
    obtain⟨pa,ea,la⟩:=HX.out.at_nat (i:=k) (by have:=HR.out;omega)
    obtain⟨pb,eb,lb⟩:=HX.out.at_nat (i:=k+i) (by have:=HR.out;have:=HE.out;omega)
    have hab:pa<=pb:=by
     have:=HX.out.le i k (by have:=HR.out;have:=HE.out;omega)
     rw[ea,eb]at this
     omega
    have HFIN:=b6 (show S=X.s.extract pa pb from by rw[HCUT.out,<-HE.out];unfold Px.cut;rw[ea,eb];rfl)
    have hs1:X.s.size<=1024:=HX.out.size
    have c4:=HK1.out.c4
    have c2:=HK1.out.c2
    have e5:=HK1.out.c5
    have hpl:X.P.length=X.R.length+1:=HX.out.lenP
    have hpk:k+i<X.P.length:=by have:=HR.out;have:=HE.out;omega
    have HPL:=b6 HK1.out.places
    obtain⟨g,o,hap,hcp⟩:∃g o,X.ap=some ⟨g,o,none⟩/\∀j (h:j<X.P.length),w2.cell? ⟨g,o+j,none⟩=some (.int .i64 X.P[j]):=by
     rcases HPL.out with h0|h0
     ·rw[h0]at hpk;simp at hpk
     ·exact h0
    have d0:=hcp k (by omega)
    have d1:=hcp (k+i) hpk
    rw[<-P8 (by omega),ea]at d0
    rw[<-P8 hpk,eb]at d1
    rw[hap]at c2
    obtain⟨pl,hpl2⟩:∃pl,pl=X.P.length:=⟨_,rfl⟩
    rw[<-hpl2]at c2 hpk
    have i0:(k:Int)<(pl:Int):=by omega
    have i1:(k:Int)+(i:Int)<(pl:Int):=by omega
    obtain⟨str,hstr⟩:∃str,str=X.s:=⟨_,rfl⟩
    rw[<-hstr]at c4 HFIN lb hs1
    have j0:(pa:Int)<=(pb:Int):=by omega
    have j1:(pb:Int)<=(str.size:Int):=by omega
    have HPS:=b6 (HK1.out)
    clear hpl hpl2 hcp hap ea eb hstr HPL HD HR HX HS HCUT HEND HIL HOW HN hp
    go_wp2_with fail
    go_quiet (fail)
    go_wp2
    go_ret
    have:=HE.out
    subst this
    rw[HFIN.out]
    exact⟨rfl,HPS.out.new ((b7.refl _ _).drewN _),TK1.out.drewN _⟩
theorem Av {R:List Int}{p:Int->Bool}:∀(n k:Nat) (c:Int),c ∈ l6 R p n k->p c=true
 |0,k,c,h=>by simp[l6]at h
 |n+1,k,c,h=>by
  rw[l6]at h
  split at h
  ·rename_i hp
   rcases List.mem_cons.1 h with rfl|h
   ·exact hp
   ·exact Av n (k+1) c h
  ·simp at h
theorem If {R:List Int}{p:Int->Bool}(n k:Nat):(l6 R p n k).length<=n:=by
 induction n generalizing k with
 |zero=>simp[l6]
 |succ n ih=>
  rw[l6]
  split
  ·simp only[List.length_cons];have:=ih (k+1);omega
  ·simp
theorem Hi (s:ByteArray)(a b:Nat)(c:UInt8)(h:a<=b)(hc:s.data.toList[b]? =some c):(s.extract a (b+1)).data.toList=(s.extract a b).data.toList++ [c]:=by
 rw[ByteArray.data_extract,ByteArray.data_extract,Array.toList_extract,Array.toList_extract]
 simp only[List.extract_eq_take_drop]
 have hb:b<s.data.toList.length:=(List.getElem?_eq_some_iff.1 hc).1
 rw[show b+1-a=(b-a)+1 by omega,List.take_add_one,List.getElem?_drop,show a+(b-a)=b by omega,hc]
 rfl
theorem IR {X:Px}(h:X.Good)(k:Nat):∀(n:Nat),k+n<=X.R.length->(∀i,i<n->g7 X.R (k+i)<128)->
 g7 X.P (k+n)=g7 X.P k+(n:Int)/\(X.s.extract (g7 X.P k).toNat (g7 X.P k+(n:Int)).toNat).data.toList=((X.R.drop k).take n).map (fun c=>UInt8.ofNat c.toNat)
 |0,hk,_=>by
  refine⟨by simp,?_⟩
  simp
 |n+1,hk,ha=>by
  obtain⟨e1,e2⟩:=IR h k n (by omega) (fun i hi=>ha i (by omega))
  have l0:k+n<X.R.length:=by omega
  have l1:k+n<X.P.length:=by have:=h.lenP;omega
  have l2:k+n+1<X.P.length:=by have:=h.lenP;omega
  have hlt:=ha n (by omega)
  rw[P8 l0]at hlt
  obtain⟨g1,g2⟩:=h.ascii (k+n) l0 l1 l2 hlt
  rw[P8 l1]at e1
  obtain⟨a,ea,_⟩:=h.at_nat (i:=k) (by omega)
  rw[ea]at e1 e2⊢
  rw[show k+(n+1)=k+n+1 by omega,P8 l2]
  refine⟨by omega,?_⟩
  rw[show X.P[k+n].toNat=a+n by omega]at g2
  have:=Hi X.s a (a+n) _ (by omega) g2
  rw[show((a:Int)+((n+1:Nat):Int)).toNat=a+n+1 by omega,show((a:Nat):Int).toNat=a by omega,this]
  rw[show((a:Int)+(n:Int)).toNat=a+n by omega,show((a:Nat):Int).toNat=a by omega]at e2
  rw[e2,List.take_add_one,List.getElem?_drop,List.getElem?_eq_getElem l0]
  simp
theorem Fq {R:List Int}{p:Int->Bool}(hp:p (-1)=false):∀(n k:Nat),l6 R p n k=(R.drop k).take (l6 R p n k).length
 |0,k=>by simp[l6]
 |n+1,k=>by
  rw[l6]
  split
  ·rename_i h
   have hl:g7 R k≠ -1:=fun e=>by rw[e,hp]at h;cases h
   have hk:=I6 hl
   have ih:=Fq (R:=R) hp n (k+1)
   rw[List.drop_eq_getElem_cons hk,List.length_cons,List.take_succ_cons,<-ih,P8 hk]
  ·simp
theorem RN {R:List Int}{p:Int->Bool}(hp:p (-1)=false)(n k i:Nat)(hi:i<(l6 R p n k).length):g7 R (k+i) ∈ l6 R p n k:=by
 have hne:=(Ex (R:=R) hp n k).2 i hi
 have hk:=I6 hne
 have e:=Fq (R:=R) hp n k
 rw[e,P8 hk]
 refine List.mem_of_getElem? (i:=i) ?_
 rw[List.getElem?_take,if_pos hi,List.getElem?_drop,List.getElem?_eq_getElem hk]
theorem SG {X:Px}(h:X.Good){p:Int->Bool}(hp:p (-1)=false)(ha:∀c,p c=true->c<128)(n k:Nat)(hk:k<=X.R.length):X.cut k (k+(l6 X.R p n k).length)=i7 (l6 X.R p n k):=by
 have hl:=Dz (R:=X.R) hp n k hk
 obtain⟨e1,e2⟩:=IR h k (l6 X.R p n k).length hl (fun i hi=>ha _ (Av n k _ (RN hp n k i hi)))
 unfold Px.cut i7
 rw[e1]
 apply ByteArray.ext
 apply Array.toList_inj.1
 rw[e2,<-Fq hp]
theorem Us {c:Int}(h0:0<=c)(h1:c<256):((UInt8.ofNat c.toNat).toNat:Int)=c:=by
 have:(UInt8.ofNat c.toNat).toNat=c.toNat%256:=by simp
 omega
theorem GK:∀(l:List Int) (a:Nat),(∀c ∈ l,p4 c=true)->a*10^l.length+10^l.length<=1000000000000000000->
 parseUint10 a (l.map fun c=>UInt8.ofNat c.toNat)=.ok ((l.map fun c=>(c-48).toNat).foldl (fun a d=>10*a+d) a)
 | [],a,_,_=>rfl
 |c::l,a,h,hb=>by
  have hc:=h c (by simp)
  simp only[p4,Bool.and_eq_true,decide_eq_true_eq]at hc
  have e:=Us (c:=c) (by omega) (by omega)
  rw[List.length_cons,Nat.pow_succ]at hb
  have hp:0<10^l.length:=Nat.pow_pos (by decide)
  generalize hP:10^l.length=P at*
  have hd:(c-48).toNat+1<=10:=by omega
  have h2:((c-48).toNat+1)*P<=10*P:=Nat.mul_le_mul_right P hd
  have h3:a*(P*10)=10*a*P:=by rw[Nat.mul_comm P 10,<-Nat.mul_assoc,Nat.mul_comm a 10]
  have h4:(10*a+(c-48).toNat)*P+P=10*a*P+((c-48).toNat+1)*P:=by rw[Nat.add_mul,Nat.add_mul];omega
  have ih:=GK l (10*a+(c-48).toNat) (fun x hx=>h x (by simp[hx])) (by rw[hP];omega)
  have h5:10*a+(c-48).toNat<=1000000000000000000:=by
   have:10*a+(c-48).toNat<=(10*a+(c-48).toNat)*P:=Nat.le_mul_of_pos_right _ hp
   omega
  rw[List.map_cons,List.map_cons,List.foldl_cons,<-ih,parseUint10]
  have e2:(UInt8.ofNat c.toNat).toNat=c.toNat:=by omega
  rw[e2,if_pos (by omega),if_neg (by omega),if_neg (by omega)]
  rw[show a*10+(c.toNat-48)=10*a+(c-48).toNat by omega]
theorem PQ {l:List Int}(h:∀c ∈ l,p4 c=true)(hl:l.length<=4)(h0:l≠ []):atoiAll (i7 l).data.toList=.ok ((L0 (l.map fun c=>(c-48).toNat):Nat):Int)/\L0 (l.map fun c=>(c-48).toNat)<10000:=by
 have hv:∀(l:List Int) (a:Nat),(∀c ∈ l,p4 c=true)->(l.map fun c=>(c-48).toNat).foldl (fun a d=>10*a+d) a<(a+1)*10^l.length:=by
  intro l
  induction l with
  |nil=>intro a _;simp
  |cons c l ih=>
   intro a h
   have hc:=h c (by simp)
   simp only[p4,Bool.and_eq_true,decide_eq_true_eq]at hc
   rw[List.map_cons,List.foldl_cons]
   have:=ih (10*a+(c-48).toNat) (fun x hx=>h x (by simp[hx]))
   rw[List.length_cons,Nat.pow_succ]
   have h2:(10*a+(c-48).toNat+1)*10^l.length<=((a+1)*10)*10^l.length:=Nat.mul_le_mul_right _ (by omega)
   rw[Nat.mul_assoc,Nat.mul_comm 10 (10^l.length)]at h2
   omega
 have hb:=hv l 0 h
 have hp:10^l.length<=10^4:=Nat.pow_le_pow_right (by decide) hl
 have hb2:L0 (l.map fun c=>(c-48).toNat)<10000:=by unfold L0;omega
 refine⟨?_,hb2⟩
 have hpu:=GK l 0 h (by omega)
 match l,h0,h,hpu,hb2 with
 |c::l,_,h,hpu,hb2=>
  have hc:=h c (by simp)
  simp only[p4,Bool.and_eq_true,decide_eq_true_eq]at hc
  have e:=Us (c:=c) (by omega) (by omega)
  unfold atoiAll
  have el:(i7 (c::l)).data.toList=UInt8.ofNat c.toNat::l.map fun c=>UInt8.ofNat c.toNat:=by simp[i7]
  rw[el]
  dsimp only
  rw[if_neg (by omega)]
  unfold parseMag
  rw[if_neg (by simp)]
  rw[List.map_cons]at hpu
  rw[hpu]
  dsimp only
  rw[if_neg (by unfold L0 at hb2;omega),if_neg (by omega),if_neg (by omega)]
  rfl
theorem AQ (b:Nat)(X:Px)(k:Nat)(f:Fl)(vn:Value)(ns:List ByteArray)(op:Nat)(a:Option Addr)(c m:Nat)(mi:Int)(hmi:mi=(m:Int))(s:List R2)(p:Int->Bool)(w:World)(h:PS w b X k f vn ns op)(hX:X.Good)(hk:k<=X.R.length)(hm:m<=1024)
 (ho:w.ownsRow 0 60 2 (.slice a s.length c) s.length (l4 s)) (hs:l9 s) (hp:∀x,s7 x s=p x) (hend:p (-1)=false) (ha:∀c,p c=true->c<128) (l:List Int) (hl:l6 X.R p m k=l):
 Calls Tryz.prog 137 #[.pointer (some ⟨b,0,none⟩),.func (.func 17) #[.slice a s.length c] #[],.int .i64 mi] w fun e w'=>
  e=.returned (.string (i7 l))/\PS w' b X (k+l.length) f vn ns op/\b7 (fun g=>g=b) w w':=by
 subst hmi
 have h1:=Ui b X k f vn ns op a c m s p w h hX hk hm ho hs hp hend
 rw[SG hX hend ha m k hk,hl]at h1
 exact h1
theorem QY (c:Int)(h:p4 c=true):c<128:=by
 simp only[p4,Bool.and_eq_true,decide_eq_true_eq]at h
 omega
theorem GE (b:Nat)(X:Px)(k:Nat)(f:Fl)(vn:Value)(ns:List ByteArray)(op:Nat)(w:World)(h:PS w b X k f vn ns op)(hX:X.Good)(hk:k<=X.R.length)(h0:l6 X.R p4 4 k=[]):
 Calls Tryz.prog 136 #[.pointer (some ⟨b,0,none⟩)] w fun e w'=>∃n:Int,e=.returned (.tuple #[.int .i64 n,.bool false])/\PS w' b X k f vn ns op/\b7 (fun g=>g=b) w w':=by
 have hmf:∀(fn:Fn) (first cap:Array Value) (w:World),(Instr.makeFunc fn first cap).run Tryz.prog w=.ok (.func fn first cap) w:=fun _ _ _ _=>rfl
 have K2:=b6 (fun a c w1 (hp:PS w1 b X k f vn ns op) ho=>AQ b X k f vn ns op a c 4 4 rfl (s9 [(48,57)]) p4 w1 hp hX hk (by omega) ho (r7 _).1 MI rfl QY [] h0)
 have HP:=b6 h
 have hz:(i7 []).size<=140737488355328:=by show(0:Nat)<=_;omega
 have hz2:(i7 []).data.toList=[]:=rfl
 have KA:=b6 (fun w1 (hw:Sx w1)=>ID (i7 []) hz w1 hw)
 rw[hz2]at KA
 have Mk0:True:=trivial
 clear h h0
 go_enter Tryz.func136,Tryz.ntmps136
 go_wp2_with fail
 go_region_with (first
  |(clear Mk0;go_at_call 149;refine(Bc _).mono ?_;rintro e w1 ⟨v,rfl,o1⟩;obtain⟨a1,c1,hv,_⟩:=o1.slice;subst hv;have K3:=b6 (K2.out a1 c1 w1 (HP.out.new ((b7.refl _ w).drew.trans o1.touch iE)) o1.own);have T1:=b6 ((tZ w).drew.trans o1.touch iE);clear o1 K2;have Mk1:True:=trivial)
  |(clear Mk1;go_at_call 137;refine K3.out.mono ?_;rintro e w2 ⟨rfl,hp2,t2⟩;have K4:=b6 (KA.out w2 hp2.env);have P2:=b6 hp2;have T2:=b6 ((T1.out.mono (S':=fun g=>g=b) nE).trans t2 iE);clear hp2 t2 K3;have Mk2:True:=trivial)
  |(clear Mk2;go_at_call 148;refine K4.out.mono ?_;rintro e w3 ⟨v,rfl,⟨n,ad,hv⟩,t3⟩;subst hv;have P3:=b6 (P2.out.new t3);have T3:=b6 (T2.out.trans t3 nE);clear t3 K4))
 go_wp2_with fail
 go_quiet (fail)
 go_wp2
 refine bodyPost_ret (results_tmp2 rfl _ _ _) rfl ?_
 exact⟨_,rfl,by rw[List.length_nil,Nat.add_zero]at P3;exact P3.out.new ((b7.refl _ _).drewN _),T3.out.drewN _⟩
theorem Fh (b:Nat)(X:Px)(k:Nat)(f:Fl)(vn:Value)(ns:List ByteArray)(op:Nat)(w:World)(h:PS w b X k f vn ns op)(hX:X.Good)(hk:k<=X.R.length)(l:List Int)(h0:l6 X.R p4 4 k=l)(hne:l≠ []):
 Calls Tryz.prog 136 #[.pointer (some ⟨b,0,none⟩)] w fun e w'=>e=.returned (.tuple #[.int .i64 ((L0 (M3 X.R 4 k):Nat):Int),.bool true])/\PS w' b X (k+l.length) f vn ns op/\b7 (fun g=>g=b) w w':=by
 have hmf:∀(fn:Fn) (first cap:Array Value) (w:World),(Instr.makeFunc fn first cap).run Tryz.prog w=.ok (.func fn first cap) w:=fun _ _ _ _=>rfl
 have hdg:M3 X.R 4 k=l.map fun c=>(c-48).toNat:=by rw[V4,h0]
 have hll:l.length<=4:=by rw[<-h0];exact If _ _
 have hat:=PQ (l:=l) (fun c hc=>by rw[<-h0]at hc;exact Av _ _ c hc) hll hne
 rw[<-hdg]at hat
 obtain⟨N,hN⟩:∃N,N=L0 (M3 X.R 4 k):=⟨_,rfl⟩
 rw[<-hN]at hat⊢
 have K2:=b6 (fun a c w1 (hp:PS w1 b X k f vn ns op) ho=>AQ b X k f vn ns op a c 4 4 rfl (s9 [(48,57)]) p4 w1 hp hX hk (by omega) ho (r7 _).1 MI rfl QY l h0)
 have HP:=b6 h
 have hz:(i7 l).size<=140737488355328:=by
  have:(i7 l).size=l.length:=by unfold i7;rw[<-AS];simp
  omega
 have KA:=b6 (fun w1 (hw:Sx w1)=>(ID (i7 l) hz w1 hw).mono (fun e w' hh=>(show e=.returned (.tuple #[.int .i64 (N:Int),.nilIface])/\b7 (fun _=>False) w1 w' from by
  obtain⟨v,g1,g2,g3⟩:=hh
  unfold WU at g2
  rw[hat.1]at g2
  exact⟨by rw[g1,g2],g3⟩)))
 have Mk0:True:=trivial
 clear h h0 hdg hll hat hN hz
 generalize l.length=L at*
 go_enter Tryz.func136,Tryz.ntmps136
 go_wp2_with fail
 go_region_with (first
  |(clear Mk0;go_at_call 149;refine(Bc _).mono ?_;rintro e w1 ⟨v,rfl,o1⟩;obtain⟨a1,c1,hv,_⟩:=o1.slice;subst hv;have K3:=b6 (K2.out a1 c1 w1 (HP.out.new ((b7.refl _ w).drew.trans o1.touch iE)) o1.own);have T1:=b6 ((tZ w).drew.trans o1.touch iE);clear o1 K2;have Mk1:True:=trivial)
  |(clear Mk1;go_at_call 137;refine K3.out.mono ?_;rintro e w2 ⟨rfl,hp2,t2⟩;have K4:=b6 (KA.out w2 hp2.env);have P2:=b6 hp2;have T2:=b6 ((T1.out.mono (S':=fun g=>g=b) nE).trans t2 iE);clear hp2 t2 K3;have Mk2:True:=trivial)
  |(clear Mk2;go_at_call 148;refine K4.out.mono ?_;rintro e w3 ⟨rfl,t3⟩;have P3:=b6 (P2.out.new t3);have T3:=b6 (T2.out.trans t3 nE);clear t3 K4))
 go_wp2_with fail
 go_quiet (fail)
 go_wp2
 refine bodyPost_ret (results_tmp2 rfl _ _ _) rfl ?_
 exact⟨rfl,P3.out.new ((b7.refl _ _).drewN _),T3.out.drewN _⟩
end Go.Proofs.YtdhhcefmmojcmaaGreatDoor
