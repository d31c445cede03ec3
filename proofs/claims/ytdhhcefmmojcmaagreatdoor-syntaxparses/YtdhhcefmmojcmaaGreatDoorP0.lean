/- Texts of this proof, one behind the other. -/
import Derived.Test.YtdhhcefmmojcmaaGreatDoorM10
import Derived.Test.YtdhhcefmmojcmaaGreatDoorM1
import Derived.Test.YtdhhcefmmojcmaaGreatDoorVm
set_option maxRecDepth 100000
set_option maxHeartbeats 0
set_option linter.unusedVariables false
namespace Go.Proofs.YtdhhcefmmojcmaaGreatDoor
open Go.ChangeShapes Go.WideShapes Go.ChangeAt Go.RowKit
open Go.Lib
theorem Nk {s:ByteArray}{f:Fl}{x:Nd}{ns:List ByteArray}(h:I0 s f=.ok (x,ns)):ns.length<=1025:=by
 unfold I0 at h
 split at h
 ·cases h
 ·rename_i hs
  split at h
  ·cases h
  ·rename_i R P bad hd
   have hb:=(Gg s 1 (by decide)).2.2
   obtain⟨R2,P2,e1,e2,e3⟩:=Gn s s.size (bg s 1).2 [] [] 0 hb (by omega) (by rw[hd])
   rw[hd,List.nil_append]at e1 e2
   simp only at e1 e2
   subst e1
   subst e2
   have hg:=(Db (by omega) hb e3 0 0 none none 0 0).lenR
   simp only at hg
   split at h
   ·rename_i r hp
    cases h
    unfold S9 at hp
    split at hp
    ·cases hp
    ·rename_i y s1 he
     split at hp
     ·cases hp
      have g1:=Cz R b8 32 _ _ _ (Nat.zero_le _) he
      have g2:=B8 R b8 32 _ _ _ (Nat.zero_le _) he
      simp only[List.length_singleton]at g1 g2
      omega
     ·cases hp
   ·cases h
theorem MR:laidOutB Tryz.prog=true:=by kernel_rfl
theorem GF {H:Type}{enc:TypeId×Value->H}{W:World}{base b0:Nat}{sp:Nat->Bool}{held:Bool}{r:Reach}{v:Value}{d:DataW H}{ps:List MemPlace}(hv:Value.okWide Tryz.prog W r b0 22 v)(hd:DataW.Trod enc Tryz.prog W base sp held 22 v d ps):∃b0 b1 b2 b3,v=.agg #[.bool b0,.bool b1,.bool b2,.bool b3]:=by
 have hc4:Tryz.prog.cellsOf 4=1:=by kernel_rfl
 have hc22:Tryz.prog.cellsOf 22=4:=by kernel_rfl
 simp only[Value.okWide,Tryz.underlying22]at hv
 obtain⟨xs,rfl,hn,_⟩:=hv
 rw[hc22]at hn
 obtain⟨fuel,hf0⟩:=hd
 obtain⟨l⟩:=xs
 match l,hn with
 | [a0,a1,a2,a3],_=>
   obtain⟨zs0,m0,_,hy0,_,hl0,he0⟩:=DataW.trod_array (P:=Tryz.prog) Tryz.underlying22 hf0
   rw[hc4]at he0
   match zs0,hl0,he0 with
   | [p0,p1,p2,p3],_,he0=>
     obtain⟨b0,e0,_⟩:=DataW.trod_bool (P:=Tryz.prog) Tryz.underlying4 (he0 0 (by decide))
     obtain rfl:a0=.bool b0:=by simpa [Value.cells]using e0
     obtain⟨b1,e1,_⟩:=DataW.trod_bool (P:=Tryz.prog) Tryz.underlying4 (he0 1 (by decide))
     obtain rfl:a1=.bool b1:=by simpa [Value.cells]using e1
     obtain⟨b2,e2,_⟩:=DataW.trod_bool (P:=Tryz.prog) Tryz.underlying4 (he0 2 (by decide))
     obtain rfl:a2=.bool b2:=by simpa [Value.cells]using e2
     obtain⟨b3,e3,_⟩:=DataW.trod_bool (P:=Tryz.prog) Tryz.underlying4 (he0 3 (by decide))
     obtain rfl:a3=.bool b3:=by simpa [Value.cells]using e3
     exact⟨b0,b1,b2,b3,rfl⟩
end Go.Proofs.YtdhhcefmmojcmaaGreatDoor
namespace Go.Proofs.YtdhhcefmmojcmaaGreatDoor
open Go.RowKit Go.Lib
theorem LT (s:ByteArray)(fi fm fs fu:Bool)(c j:Int)(hp:I0 s ⟨fi,fm,fs,fu⟩=.error (c,j))(w:World)(ht:J1 w)(hx:Sx w)(h7:7<=w.heap.size):
 Calls Tryz.prog 3 #[.string s,.agg #[.bool fi,.bool fm,.bool fs,.bool fu]] w fun e w'=>e=.returned (.bool true)/\b7 (fun _=>False) w w':=by
 have KS:=b6 (fun(wq:World) (t:b7 (fun _=>False) w wq)=>Bk wq (ht.new t) (hx.new t) (Nat.le_trans h7 t.size))
 have KP:=b6 (fun(wq:World) (t:b7 (fun _=>False) w wq)=>AO s ⟨fi,fm,fs,fu⟩ wq (ht.new t) (hx.new t) (Nat.le_trans h7 t.size))
 have KD:=b6 (fun(wq:World)=>Bd s ⟨fi,fm,fs,fu⟩ wq)
 have hc:=Hz hp
 have hcn:(c !=0)=true:=by simpa using hc
 rw[hp]at KP KD
 unfold Iw at KP
 unfold EF at KD
 simp only at KP KD
 have T0:=b6 ((tZ w).alloc (.cells #[.bool fi,.bool fm,.bool fs,.bool fu] 22))
 have B0:=b6 (e8 w #[.bool fi,.bool fm,.bool fs,.bool fu] 22)
 clear ht hx h7 hp hc
 go_enter Tryz.func3,Tryz.ntmps3
 go_upto_region 1 with fail
 generalize w.alloc (.cells #[.bool fi,.bool fm,.bool fs,.bool fu] 22)=w0 at*
 obtain⟨fb,hfb⟩:∃fb,fb=w.heap.size:=⟨_,rfl⟩
 rw[<-hfb]at B0⊢
 clear hfb
 go_wp2_with fail
 refine(KS.out _ T0.out).mono ?_
 rintro e w1 ⟨rfl,t1⟩
 have T1:=b6 (T0.out.trans t1 iE)
 have B1:=b6 ((t1.block fb (lt_of_block B0.out) id).trans B0.out)
 have KP2:=b6 (KP.out _ T1.out)
 clear t1 KS KP T0 B0
 have x0:w1.cell? ⟨fb,0,none⟩=some (.bool fi):=b9 B1.out 0 _ rfl
 have x1:w1.cell? ⟨fb,1,none⟩=some (.bool fm):=b9 B1.out 1 _ rfl
 have x2:w1.cell? ⟨fb,2,none⟩=some (.bool fs):=b9 B1.out 2 _ rfl
 have x3:w1.cell? ⟨fb,3,none⟩=some (.bool fu):=b9 B1.out 3 _ rfl
 go_wp2_with fail
 refine KP2.out.mono ?_
 rintro e w3 ⟨rfl,t3⟩
 have T3:=b6 (T1.out.trans t3 iE)
 have B3:=b6 ((t3.block fb (lt_of_block B1.out) id).trans B1.out)
 clear t3 T1 KP2 x0 x1 x2 x3 B1
 unfold I7
 go_upto_region 4 with fail
 have HK:=Jp w3 #[.int .i64 0,.slice none 0 0,.bool false,.int .i64 0,.int .i64 0,.bool false,.int .i64 0,.string ⟨#[]⟩,.slice none 0 0,.slice none 0 0] #[.int .i64 c,.int .i64 j]
 generalize (w3.alloc (.cells #[.int .i64 0,.slice none 0 0,.bool false,.int .i64 0,.int .i64 0,.bool false,.int .i64 0,.string ⟨#[]⟩,.slice none 0 0,.slice none 0 0] 31)).alloc (.cells #[.int .i64 c,.int .i64 j] 34)=w4 at*
 obtain⟨hp4,hq4,t4⟩:=HK
 have T4:=b6 (T3.out.trans t4 iE)
 have B4:=b6 ((t4.block fb (lt_of_block B3.out) id).trans B3.out)
 obtain⟨p,hpe⟩:∃p,p=w3.heap.size:=⟨_,rfl⟩
 rw[<-hpe]at hp4 hq4⊢
 obtain⟨q,hqe⟩:∃q,q=p+1:=⟨_,rfl⟩
 rw[<-hqe]at hq4⊢
 have P4:=b6 hp4
 have Q4:=b6 hq4
 clear hp4 hq4 hpe hqe t4 T3 B3
 have x0:w4.cell? ⟨fb,0,none⟩=some (.bool fi):=b9 B4.out 0 _ rfl
 have x1:w4.cell? ⟨fb,1,none⟩=some (.bool fm):=b9 B4.out 1 _ rfl
 have x2:w4.cell? ⟨fb,2,none⟩=some (.bool fs):=b9 B4.out 2 _ rfl
 have x3:w4.cell? ⟨fb,3,none⟩=some (.bool fu):=b9 B4.out 3 _ rfl
 go_wp2_with fail
 refine(KD.out _).mono ?_
 rintro e w5 ⟨rfl,t5⟩
 have T5:=b6 (T4.out.trans t5 iE)
 have P5:=b6 ((t5.block p (lt_of_block P4.out) id).trans P4.out)
 have Q5:=b6 ((t5.block q (lt_of_block Q4.out) id).trans Q4.out)
 clear t5 T4 P4 Q4 B4 x0 x1 x2 x3 KD
 unfold TZ
 go_upto_region 5 with fail
 have t6:=(tZ w5).alloc (.cells #[.slice none 0 0,.int .i64 0,.slice none 0 0,.int .i64 c,.int .i64 j] 41)
 have D6:=b6 (e8 w5 #[.slice none 0 0,.int .i64 0,.slice none 0 0,.int .i64 c,.int .i64 j] 41)
 generalize w5.alloc (.cells #[.slice none 0 0,.int .i64 0,.slice none 0 0,.int .i64 c,.int .i64 j] 41)=w6 at*
 obtain⟨d,hde⟩:∃d,d=w5.heap.size:=⟨_,rfl⟩
 rw[<-hde]at D6⊢
 have T6:=b6 (T5.out.trans t6 iE)
 have P6:=b6 ((t6.block p (lt_of_block P5.out) id).trans P5.out)
 have Q6:=b6 ((t6.block q (lt_of_block Q5.out) id).trans Q5.out)
 clear t6 T5 P5 Q5 hde
 have q0:w6.cell? ⟨q,0,none⟩=some (.int .i64 c):=b9 Q6.out 0 _ rfl
 have q1:w6.cell? ⟨q,1,none⟩=some (.int .i64 j):=b9 Q6.out 1 _ rfl
 have d2:w6.cell? ⟨d,2,none⟩=some (.slice none 0 0):=b9 D6.out 2 _ rfl
 have d3:w6.cell? ⟨d,3,none⟩=some (.int .i64 c):=b9 D6.out 3 _ rfl
 have d4:w6.cell? ⟨d,4,none⟩=some (.int .i64 j):=b9 D6.out 4 _ rfl
 have p0:w6.cell? ⟨p,0,none⟩=some (.int .i64 0):=b9 P6.out 0 _ rfl
 have p8:w6.cell? ⟨p,8,none⟩=some (.slice none 0 0):=b9 P6.out 8 _ rfl
 have p9:w6.cell? ⟨p,9,none⟩=some (.slice none 0 0):=b9 P6.out 9 _ rfl
 go_wp2
 go_ret
 exact⟨rfl,T6.out⟩
theorem OO (s:ByteArray)(fi fm fs fu:Bool)(x:Nd)(ns:List ByteArray)(hp:I0 s ⟨fi,fm,fs,fu⟩=.ok (x,ns))(w:World)(ht:J1 w)(hx:Sx w)(h7:7<=w.heap.size):
 Calls Tryz.prog 3 #[.string s,.agg #[.bool fi,.bool fm,.bool fs,.bool fu]] w fun e w'=>e=.returned (.bool true)/\b7 (fun _=>False) w w':=by
 have KS:=b6 (fun(wq:World) (t:b7 (fun _=>False) w wq)=>Bk wq (ht.new t) (hx.new t) (Nat.le_trans h7 t.size))
 have KP:=b6 (fun(wq:World) (t:b7 (fun _=>False) w wq)=>AO s ⟨fi,fm,fs,fu⟩ wq (ht.new t) (hx.new t) (Nat.le_trans h7 t.size))
 have KD:=b6 (fun(wq:World)=>Bd s ⟨fi,fm,fs,fu⟩ wq)
 have HNL:=b6 (Nk hp)
 rw[hp]at KP KD
 unfold Iw at KP
 unfold EF at KD
 simp only at KP KD
 have T0:=b6 ((tZ w).alloc (.cells #[.bool fi,.bool fm,.bool fs,.bool fu] 22))
 have B0:=b6 (e8 w #[.bool fi,.bool fm,.bool fs,.bool fu] 22)
 clear ht hx h7 hp
 go_enter Tryz.func3,Tryz.ntmps3
 go_upto_region 1 with fail
 generalize w.alloc (.cells #[.bool fi,.bool fm,.bool fs,.bool fu] 22)=w0 at*
 obtain⟨fb,hfb⟩:∃fb,fb=w.heap.size:=⟨_,rfl⟩
 rw[<-hfb]at B0⊢
 clear hfb
 go_wp2_with fail
 refine(KS.out _ T0.out).mono ?_
 rintro e w1 ⟨rfl,t1⟩
 have T1:=b6 (T0.out.trans t1 iE)
 have B1:=b6 ((t1.block fb (lt_of_block B0.out) id).trans B0.out)
 have KP2:=b6 (KP.out _ T1.out)
 clear t1 KS KP T0 B0
 have x0:w1.cell? ⟨fb,0,none⟩=some (.bool fi):=b9 B1.out 0 _ rfl
 have x1:w1.cell? ⟨fb,1,none⟩=some (.bool fm):=b9 B1.out 1 _ rfl
 have x2:w1.cell? ⟨fb,2,none⟩=some (.bool fs):=b9 B1.out 2 _ rfl
 have x3:w1.cell? ⟨fb,3,none⟩=some (.bool fu):=b9 B1.out 3 _ rfl
 go_wp2_with fail
 refine KP2.out.mono ?_
 rintro e w3 ⟨c,an,nn,cn,rfl,ht3,hs3,hn3,t3⟩
 have T3:=b6 (T1.out.trans t3 iE)
 have B3:=b6 ((t3.block fb (lt_of_block B1.out) id).trans B1.out)
 obtain⟨n,hn⟩:∃n,n=ns.length:=⟨_,rfl⟩
 obtain rfl:nn=n:=by
  obtain⟨_,_,hv⟩:=e9 hs3
  cases hv
  exact hn.symm
 have HNN:=b6 hn
 have HT3:=b6 ht3
 have HS3:=b6 hs3
 obtain⟨ck,sa,sn,sc,fo,mi,ma,la,ca,nm,ka,kn,kc⟩:=c
 unfold j4.arr
 clear t3 T1 KP2 ht3 hs3 hn3 hn x0 x1 x2 x3 B1
 go_upto_region 4 with fail
 have HK:=Jp w3 #[.int .i64 ck,.slice sa sn sc,.bool fo,.int .i64 mi,.int .i64 ma,.bool la,.int .i64 ca,.string nm,.slice ka kn kc,.slice an nn cn] #[.int .i64 0,.int .i64 0]
 generalize (w3.alloc (.cells #[.int .i64 ck,.slice sa sn sc,.bool fo,.int .i64 mi,.int .i64 ma,.bool la,.int .i64 ca,.string nm,.slice ka kn kc,.slice an nn cn] 31)).alloc (.cells #[.int .i64 0,.int .i64 0] 34)=w4 at*
 obtain⟨hp4,hq4,t4⟩:=HK
 have T4:=b6 (T3.out.trans t4 iE)
 have B4:=b6 ((t4.block fb (lt_of_block B3.out) id).trans B3.out)
 obtain⟨p,hpe⟩:∃p,p=w3.heap.size:=⟨_,rfl⟩
 rw[<-hpe]at hp4 hq4⊢
 obtain⟨q,hqe⟩:∃q,q=p+1:=⟨_,rfl⟩
 rw[<-hqe]at hq4⊢
 have HT4:=b6 (HT3.out.new t4)
 have HS4:=b6 (show SL w4 (.slice an nn cn) ns from g9 HS3.out t4 iE)
 have P4:=b6 hp4
 have Q4:=b6 hq4
 clear hp4 hq4 hpe hqe t4 T3 B3 HT3 HS3
 have x0:w4.cell? ⟨fb,0,none⟩=some (.bool fi):=b9 B4.out 0 _ rfl
 have x1:w4.cell? ⟨fb,1,none⟩=some (.bool fm):=b9 B4.out 1 _ rfl
 have x2:w4.cell? ⟨fb,2,none⟩=some (.bool fs):=b9 B4.out 2 _ rfl
 have x3:w4.cell? ⟨fb,3,none⟩=some (.bool fu):=b9 B4.out 3 _ rfl
 go_wp2_with fail
 refine(KD.out _).mono ?_
 rintro e w5 ⟨aN,nN,cN,pr,ad,cd,ds,rfl,hnl5,hsl5,hdw5,_,_,_,t5⟩
 rw[<-HNN.out]at hsl5⊢
 have T5:=b6 (T4.out.trans t5 iE)
 have P5:=b6 ((t5.block p (lt_of_block P4.out) id).trans P4.out)
 have Q5:=b6 ((t5.block q (lt_of_block Q4.out) id).trans Q4.out)
 have HT5:=b6 (HT4.out.new t5)
 have HS5:=b6 (show SL w5 (.slice an nn cn) ns from g9 HS4.out t5 iE)
 have HL5:=b6 hnl5
 have HM5:=b6 hsl5
 have HW5:=b6 hdw5
 clear t5 T4 P4 Q4 B4 x0 x1 x2 x3 KD HT4 HS4 hnl5 hsl5 hdw5
 unfold TZ
 go_upto_region 5 with fail
 have t6:=(tZ w5).alloc (.cells #[.slice aN nN cN,.int .i64 (pr:Nat),.slice ad nn cd,.int .i64 0,.int .i64 0] 41)
 have D6:=b6 (e8 w5 #[.slice aN nN cN,.int .i64 (pr:Nat),.slice ad nn cd,.int .i64 0,.int .i64 0] 41)
 generalize w5.alloc (.cells #[.slice aN nN cN,.int .i64 (pr:Nat),.slice ad nn cd,.int .i64 0,.int .i64 0] 41)=w6 at*
 obtain⟨d,hde⟩:∃d,d=w5.heap.size:=⟨_,rfl⟩
 rw[<-hde]at D6⊢
 have T6:=b6 (T5.out.trans t6 iE)
 have P6:=b6 ((t6.block p (lt_of_block P5.out) id).trans P5.out)
 have Q6:=b6 ((t6.block q (lt_of_block Q5.out) id).trans Q5.out)
 have HT6:=b6 (HT5.out.new t6)
 have HS6:=b6 (show SL w6 (.slice an nn cn) ns from g9 HS5.out t6 iE)
 have HL6:=b6 (show NL w6 (.slice aN nN cN) ds from g9 HL5.out t6 iE)
 have HM6:=b6 (show SL w6 (.slice ad nn cd) ns from g9 HM5.out t6 iE)
 have HW6:=b6 (HW5.out.new t6)
 clear t6 T5 P5 Q5 hde HT5 HS5 HL5 HM5 HW5
 have q0:w6.cell? ⟨q,0,none⟩=some (.int .i64 0):=b9 Q6.out 0 _ rfl
 have q1:w6.cell? ⟨q,1,none⟩=some (.int .i64 0):=b9 Q6.out 1 _ rfl
 have d2:w6.cell? ⟨d,2,none⟩=some (.slice ad nn cd):=b9 D6.out 2 _ rfl
 have d3:w6.cell? ⟨d,3,none⟩=some (.int .i64 0):=b9 D6.out 3 _ rfl
 have d4:w6.cell? ⟨d,4,none⟩=some (.int .i64 0):=b9 D6.out 4 _ rfl
 have p9:w6.cell? ⟨p,9,none⟩=some (.slice an nn cn):=b9 P6.out 9 _ rfl
 go_upto_region 9 with fail
 clear q0 q1 d2 d3 d4 p9 Q6
 have hnb:nn<=4194304:=by rw[HNN.out];have:=HNL.out;omega
 go_wp2_with fail
 go_loopg [8] nn (fun gk v8 wq=>∃i:Nat,i+gk=nn/\v8=.int .i64 (i:Nat)/\Hid (b7 (fun _=>False) w6 wq))
 case atStart=>exact⟨0,Nat.zero_add _,rfl,b6 (b7.refl _ _)⟩
 case round=>
  obtain⟨i,hgk,rfl,HT⟩:=hrel
  have d2:wr.cell? ⟨d,2,none⟩=some (.slice ad nn cd):=b9 ((HT.out.block d (lt_of_block D6.out) id).trans D6.out) 2 _ rfl
  by_cases hlt:i<nn
  ·have hltI:(i:Int)<(nn:Int):=by omega
   have hwi:IntKind.i64.wrap ((i:Int)+1)=((i+1:Nat):Int):=by rw[IntKind.wrap_i64];omega
   have p9:wr.cell? ⟨p,9,none⟩=some (.slice an nn cn):=b9 ((HT.out.block p (lt_of_block P6.out) id).trans P6.out) 9 _ rfl
   have hil:i<ns.length:=by have:=HNN.out;omega
   obtain⟨S,hS⟩:∃S,S=ns[i]:=⟨_,rfl⟩
   have hi2:ns[i]? =some S:=by rw[hS];exact List.getElem?_eq_getElem hil
   obtain⟨g1,h1,hl1,hc1⟩:=Nq HS6.out hi2
   obtain⟨g2,h2,hl2,hc2⟩:=Nq HM6.out hi2
   subst h1
   subst h2
   have e1:wr.cell? ⟨g1,i,none⟩=some (.string S):=(HT.out.cell (p:=⟨g1,i,none⟩) hl1 id).trans hc1
   have e2:wr.cell? ⟨g2,i,none⟩=some (.string S):=(HT.out.cell (p:=⟨g2,i,none⟩) hl2 id).trans hc2
   clear hc1 hc2 hl1 hl2 hi2 hS hil
   have HTD:=b6 (HT.out.drew)
   go_wp2_with fail
   go_region
   go_wp2
   go_roundg (gk-1)
   case measure=>omega
   case rel=>exact⟨i+1,by omega,by simp,HTD⟩
  ·have hltI:¬(i:Int)<(nn:Int):=by omega
   have hP:=(HT.out.block p (lt_of_block P6.out) id).trans P6.out
   have hD:=(HT.out.block d (lt_of_block D6.out) id).trans D6.out
   have c0:wr.cell? ⟨p,0,none⟩=some (.int .i64 ck):=b9 hP 0 _ rfl
   have c1:wr.cell? ⟨p,1,none⟩=some (.slice sa sn sc):=b9 hP 1 _ rfl
   have c2:wr.cell? ⟨p,2,none⟩=some (.bool fo):=b9 hP 2 _ rfl
   have c3:wr.cell? ⟨p,3,none⟩=some (.int .i64 mi):=b9 hP 3 _ rfl
   have c4:wr.cell? ⟨p,4,none⟩=some (.int .i64 ma):=b9 hP 4 _ rfl
   have c5:wr.cell? ⟨p,5,none⟩=some (.bool la):=b9 hP 5 _ rfl
   have c6:wr.cell? ⟨p,6,none⟩=some (.int .i64 ca):=b9 hP 6 _ rfl
   have c7:wr.cell? ⟨p,7,none⟩=some (.string nm):=b9 hP 7 _ rfl
   have c8:wr.cell? ⟨p,8,none⟩=some (.slice ka kn kc):=b9 hP 8 _ rfl
   have d0:wr.cell? ⟨d,0,none⟩=some (.slice aN nN cN):=b9 hD 0 _ rfl
   have d1:wr.cell? ⟨d,1,none⟩=some (.int .i64 (pr:Nat)):=b9 hD 1 _ rfl
   have d3:wr.cell? ⟨d,3,none⟩=some (.int .i64 0):=b9 hD 3 _ rfl
   have d4:wr.cell? ⟨d,4,none⟩=some (.int .i64 0):=b9 hD 4 _ rfl
   have KA:=b6 (AX _ x (Nat.le_refl _) _ _ _ ds pr aN nN cN (pr:Nat) ad nn cd 0 0 wr (HT6.out.new HT.out) (HW6.out.new HT.out) (g9 HL6.out HT.out iE))
   unfold j4.arr at KA
   have TW:=b6 (T6.out.trans HT.out iE)
   clear hP hD
   go_wp2_with fail
   refine KA.out.mono ?_
   rintro e w9 ⟨rfl,t9⟩
   have T9:=b6 (TW.out.trans t9 iE)
   clear t9 KA
   go_wp2
   go_ret
   exact⟨rfl,T9.out⟩
theorem JJ (s:ByteArray)(f:Fl)(w:World)(ht:J1 w)(hx:Sx w)(h7:7<=w.heap.size):
 Calls Tryz.prog 3 #[.string s,.agg #[.bool f.i,.bool f.m,.bool f.s,.bool f.u]] w fun e w'=>e=.returned (.bool true)/\b7 (fun _=>False) w w':=by
 obtain⟨fi,fm,fs,fu⟩:=f
 cases hp:I0 s ⟨fi,fm,fs,fu⟩with
 |error e=>exact LT s fi fm fs fu e.1 e.2 hp w ht hx h7
 |ok r=>exact OO s fi fm fs fu r.1 r.2 hp w ht hx h7
end Go.Proofs.YtdhhcefmmojcmaaGreatDoor
