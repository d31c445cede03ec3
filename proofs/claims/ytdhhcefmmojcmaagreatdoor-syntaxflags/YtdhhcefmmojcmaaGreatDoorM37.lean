/- Texts of this proof, one behind the other. -/
import Derived.Test.YtdhhcefmmojcmaaGreatDoorM15
import Derived.Test.YtdhhcefmmojcmaaGreatDoorM36
set_option maxRecDepth 100000
set_option maxHeartbeats 0
set_option linter.unusedVariables false
namespace Go.Proofs.YtdhhcefmmojcmaaGreatDoor
open Go.RowKit Go.Lib
def Bl (b:Nat)(X:Px)(k:Nat)(vN vn:Value)(op:Nat)(w:World)(ds:List Dc):PR (Option Nd×St)->Ending->World->Prop
 | .ok (none,st),e,w'=>e=.returned (.int .i64 (-1))/\∃vN' vn',QS w' b X st.k st.f op vN' vn' 0 0 ds st.ns/\GT b w w' vN vn vN' vn'
 | .ok (some x,st),e,w'=>DP b X k vN vn op (fun _=>False) 0 2 w ds (.ok (x,st)) e w'
 | .error (c,j),e,w'=>DP b X k vN vn op (fun _=>False) 0 2 w ds (.error (c,j)) e w'
theorem QS.setk {w:World}{b:Nat}{X:Px}{k:Nat}{f:Fl}{op:Nat}{vN vn:Value}{er ea:Int}{ds:List Dc}{ns:List ByteArray}(h:QS w b X k f op vN vn er ea ds ns)(k1:Nat):QS (w.setCell ⟨b,2,none⟩ (.int .i64 (k1:Nat))) b X k1 f op vN vn er ea ds ns:=
 h.mv (h.s.setk k1) (d9 _ _ _ _)
theorem Qj (b:Nat)(X:Px)(k:Nat)(fi fm fs fu:Bool)(op:Nat)(vN vn:Value)(ds:List Dc)(ns:List ByteArray)(w:World)(h:QS w b X k ⟨fi,fm,fs,fu⟩ op vN vn 0 0 ds ns)(hR:X.R.length<=1024)(hk:k<X.R.length)(hds:ds.length<=4194304)(hc:g7 X.R k=94)(hfm:fm=true):
 Calls Tryz.prog 76 #[.pointer (some ⟨b,0,none⟩)] w fun e w'=>Bl b X k vN vn op w ds (.ok (some (.border 4),⟨k+1,⟨fi,fm,fs,fu⟩,ns⟩)) e w':=by
 have KP:=b6 (j6 b X k ⟨fi,fm,fs,fu⟩ op vN vn 0 0 0 w h.s (by omega) (by omega))
 rw[Nat.add_zero,hc]at KP
 have HQ:=b6 h
 have HDS:=b6 hds
 obtain⟨k1,hk1⟩:∃k1,k1=k+1:=⟨_,rfl⟩
 have hwk:IntKind.i64.wrap ((k:Int)+1)=(k1:Int):=by rw[IntKind.wrap_i64];omega
 have HK1:=b6 hk1
 have d2:w.cell? ⟨b,2,none⟩=some (.int .i64 (k:Int)):=h.s.c 2 _ rfl
 rw[<-hk1]
 clear h hc hk1 hds
 unfold Bl DP
 go_enter Tryz.func76,Tryz.ntmps76
 go_wp2_with fail
 refine KP.out.mono ?_
 rintro e w1 ⟨rfl,nq,rfl⟩
 replace HQ:=b6 (HQ.out.new ((tZ w).drewN nq))
 have HG:=b6 ((GT.refl b w vN vn).still ((tZ w).drewN nq))
 clear KP d2
 generalize w.drewN nq=w1 at*
 have c2:w1.cell? ⟨b,2,none⟩=some (.int .i64 (k:Int)):=HQ.out.s.c 2 _ rfl
 have f2:=HQ.out.s.fr 2
 have HS:=b6 (HQ.out.setk k1)
 have HG2:=b6 (HG.out.own (d9 w1 b 2 (.int .i64 (k1:Int))))
 go_upto_region 4 with fail
 clear c2 f2 HQ HG
 generalize w1.setCell ⟨b,2,none⟩ (.int .i64 (k1:Int))=w2 at*
 have K:=b6 (HS.out.put HDS.out ⟨4,0,0,0,none,0,0,false,false,⟨#[]⟩,none,0,0⟩)
 have c4:w2.cell? ⟨b,4,none⟩=some (.bool fm):=HS.out.s.c 4 _ rfl
 unfold Dc.arr at K
 obtain⟨m,hm⟩:∃m,m=ds.length:=⟨_,rfl⟩
 rw[<-hm]at K
 have HM:=b6 hm
 clear hm
 subst hfm
 go_wp2_with fail
 refine K.out.mono ?_
 rintro e w3 ⟨rfl,vN',hq,hg⟩
 have H3:=b6 hq
 have G3:=b6 (HG2.out.trans hg)
 clear hq hg K c4
 go_wp2
 go_ret
 exact⟨m,vN',vn,[⟨4,0,0,0,none,0,0,false,false,⟨#[]⟩,none,0,0⟩],rfl,H3.out,G3.out,by rw[HM.out];exact DW.leaf _ _ _ _,by have:=HK1.out;simp only[List.length_cons,List.length_nil];omega⟩
theorem Qi (b:Nat)(X:Px)(k:Nat)(fi fm fs fu:Bool)(op:Nat)(vN vn:Value)(ds:List Dc)(ns:List ByteArray)(w:World)(h:QS w b X k ⟨fi,fm,fs,fu⟩ op vN vn 0 0 ds ns)(hR:X.R.length<=1024)(hk:k<X.R.length)(hds:ds.length<=4194304)(hc:g7 X.R k=94)(hfm:fm=false):
 Calls Tryz.prog 76 #[.pointer (some ⟨b,0,none⟩)] w fun e w'=>Bl b X k vN vn op w ds (.ok (some (.border 2),⟨k+1,⟨fi,fm,fs,fu⟩,ns⟩)) e w':=by
 have KP:=b6 (j6 b X k ⟨fi,fm,fs,fu⟩ op vN vn 0 0 0 w h.s (by omega) (by omega))
 rw[Nat.add_zero,hc]at KP
 have HQ:=b6 h
 have HDS:=b6 hds
 obtain⟨k1,hk1⟩:∃k1,k1=k+1:=⟨_,rfl⟩
 have hwk:IntKind.i64.wrap ((k:Int)+1)=(k1:Int):=by rw[IntKind.wrap_i64];omega
 have HK1:=b6 hk1
 have d2:w.cell? ⟨b,2,none⟩=some (.int .i64 (k:Int)):=h.s.c 2 _ rfl
 rw[<-hk1]
 clear h hc hk1 hds
 unfold Bl DP
 go_enter Tryz.func76,Tryz.ntmps76
 go_wp2_with fail
 refine KP.out.mono ?_
 rintro e w1 ⟨rfl,nq,rfl⟩
 replace HQ:=b6 (HQ.out.new ((tZ w).drewN nq))
 have HG:=b6 ((GT.refl b w vN vn).still ((tZ w).drewN nq))
 clear KP d2
 generalize w.drewN nq=w1 at*
 have c2:w1.cell? ⟨b,2,none⟩=some (.int .i64 (k:Int)):=HQ.out.s.c 2 _ rfl
 have f2:=HQ.out.s.fr 2
 have HS:=b6 (HQ.out.setk k1)
 have HG2:=b6 (HG.out.own (d9 w1 b 2 (.int .i64 (k1:Int))))
 go_upto_region 4 with fail
 clear c2 f2 HQ HG
 generalize w1.setCell ⟨b,2,none⟩ (.int .i64 (k1:Int))=w2 at*
 have K:=b6 (HS.out.put HDS.out ⟨2,0,0,0,none,0,0,false,false,⟨#[]⟩,none,0,0⟩)
 have c4:w2.cell? ⟨b,4,none⟩=some (.bool fm):=HS.out.s.c 4 _ rfl
 unfold Dc.arr at K
 obtain⟨m,hm⟩:∃m,m=ds.length:=⟨_,rfl⟩
 rw[<-hm]at K
 have HM:=b6 hm
 clear hm
 subst hfm
 go_wp2_with fail
 refine K.out.mono ?_
 rintro e w3 ⟨rfl,vN',hq,hg⟩
 have H3:=b6 hq
 have G3:=b6 (HG2.out.trans hg)
 clear hq hg K c4
 go_wp2
 go_ret
 exact⟨m,vN',vn,[⟨2,0,0,0,none,0,0,false,false,⟨#[]⟩,none,0,0⟩],rfl,H3.out,G3.out,by rw[HM.out];exact DW.leaf _ _ _ _,by have:=HK1.out;simp only[List.length_cons,List.length_nil];omega⟩
theorem Ql (b:Nat)(X:Px)(k:Nat)(fi fm fs fu:Bool)(op:Nat)(vN vn:Value)(ds:List Dc)(ns:List ByteArray)(w:World)(h:QS w b X k ⟨fi,fm,fs,fu⟩ op vN vn 0 0 ds ns)(hR:X.R.length<=1024)(hk:k<X.R.length)(hds:ds.length<=4194304)(hc:g7 X.R k=36)(hfm:fm=true):
 Calls Tryz.prog 76 #[.pointer (some ⟨b,0,none⟩)] w fun e w'=>Bl b X k vN vn op w ds (.ok (some (.border 5),⟨k+1,⟨fi,fm,fs,fu⟩,ns⟩)) e w':=by
 have KP:=b6 (j6 b X k ⟨fi,fm,fs,fu⟩ op vN vn 0 0 0 w h.s (by omega) (by omega))
 rw[Nat.add_zero,hc]at KP
 have HQ:=b6 h
 have HDS:=b6 hds
 obtain⟨k1,hk1⟩:∃k1,k1=k+1:=⟨_,rfl⟩
 have hwk:IntKind.i64.wrap ((k:Int)+1)=(k1:Int):=by rw[IntKind.wrap_i64];omega
 have HK1:=b6 hk1
 have d2:w.cell? ⟨b,2,none⟩=some (.int .i64 (k:Int)):=h.s.c 2 _ rfl
 rw[<-hk1]
 clear h hc hk1 hds
 unfold Bl DP
 go_enter Tryz.func76,Tryz.ntmps76
 go_wp2_with fail
 refine KP.out.mono ?_
 rintro e w1 ⟨rfl,nq,rfl⟩
 replace HQ:=b6 (HQ.out.new ((tZ w).drewN nq))
 have HG:=b6 ((GT.refl b w vN vn).still ((tZ w).drewN nq))
 clear KP d2
 generalize w.drewN nq=w1 at*
 have c2:w1.cell? ⟨b,2,none⟩=some (.int .i64 (k:Int)):=HQ.out.s.c 2 _ rfl
 have f2:=HQ.out.s.fr 2
 have HS:=b6 (HQ.out.setk k1)
 have HG2:=b6 (HG.out.own (d9 w1 b 2 (.int .i64 (k1:Int))))
 go_upto_region 4 with fail
 clear c2 f2 HQ HG
 generalize w1.setCell ⟨b,2,none⟩ (.int .i64 (k1:Int))=w2 at*
 have K:=b6 (HS.out.put HDS.out ⟨5,0,0,0,none,0,0,false,false,⟨#[]⟩,none,0,0⟩)
 have c4:w2.cell? ⟨b,4,none⟩=some (.bool fm):=HS.out.s.c 4 _ rfl
 unfold Dc.arr at K
 obtain⟨m,hm⟩:∃m,m=ds.length:=⟨_,rfl⟩
 rw[<-hm]at K
 have HM:=b6 hm
 clear hm
 subst hfm
 go_wp2_with fail
 refine K.out.mono ?_
 rintro e w3 ⟨rfl,vN',hq,hg⟩
 have H3:=b6 hq
 have G3:=b6 (HG2.out.trans hg)
 clear hq hg K c4
 go_wp2
 go_ret
 exact⟨m,vN',vn,[⟨5,0,0,0,none,0,0,false,false,⟨#[]⟩,none,0,0⟩],rfl,H3.out,G3.out,by rw[HM.out];exact DW.leaf _ _ _ _,by have:=HK1.out;simp only[List.length_cons,List.length_nil];omega⟩
theorem Qk (b:Nat)(X:Px)(k:Nat)(fi fm fs fu:Bool)(op:Nat)(vN vn:Value)(ds:List Dc)(ns:List ByteArray)(w:World)(h:QS w b X k ⟨fi,fm,fs,fu⟩ op vN vn 0 0 ds ns)(hR:X.R.length<=1024)(hk:k<X.R.length)(hds:ds.length<=4194304)(hc:g7 X.R k=36)(hfm:fm=false):
 Calls Tryz.prog 76 #[.pointer (some ⟨b,0,none⟩)] w fun e w'=>Bl b X k vN vn op w ds (.ok (some (.border 3),⟨k+1,⟨fi,fm,fs,fu⟩,ns⟩)) e w':=by
 have KP:=b6 (j6 b X k ⟨fi,fm,fs,fu⟩ op vN vn 0 0 0 w h.s (by omega) (by omega))
 rw[Nat.add_zero,hc]at KP
 have HQ:=b6 h
 have HDS:=b6 hds
 obtain⟨k1,hk1⟩:∃k1,k1=k+1:=⟨_,rfl⟩
 have hwk:IntKind.i64.wrap ((k:Int)+1)=(k1:Int):=by rw[IntKind.wrap_i64];omega
 have HK1:=b6 hk1
 have d2:w.cell? ⟨b,2,none⟩=some (.int .i64 (k:Int)):=h.s.c 2 _ rfl
 rw[<-hk1]
 clear h hc hk1 hds
 unfold Bl DP
 go_enter Tryz.func76,Tryz.ntmps76
 go_wp2_with fail
 refine KP.out.mono ?_
 rintro e w1 ⟨rfl,nq,rfl⟩
 replace HQ:=b6 (HQ.out.new ((tZ w).drewN nq))
 have HG:=b6 ((GT.refl b w vN vn).still ((tZ w).drewN nq))
 clear KP d2
 generalize w.drewN nq=w1 at*
 have c2:w1.cell? ⟨b,2,none⟩=some (.int .i64 (k:Int)):=HQ.out.s.c 2 _ rfl
 have f2:=HQ.out.s.fr 2
 have HS:=b6 (HQ.out.setk k1)
 have HG2:=b6 (HG.out.own (d9 w1 b 2 (.int .i64 (k1:Int))))
 go_upto_region 4 with fail
 clear c2 f2 HQ HG
 generalize w1.setCell ⟨b,2,none⟩ (.int .i64 (k1:Int))=w2 at*
 have K:=b6 (HS.out.put HDS.out ⟨3,0,0,0,none,0,0,false,false,⟨#[]⟩,none,0,0⟩)
 have c4:w2.cell? ⟨b,4,none⟩=some (.bool fm):=HS.out.s.c 4 _ rfl
 unfold Dc.arr at K
 obtain⟨m,hm⟩:∃m,m=ds.length:=⟨_,rfl⟩
 rw[<-hm]at K
 have HM:=b6 hm
 clear hm
 subst hfm
 go_wp2_with fail
 refine K.out.mono ?_
 rintro e w3 ⟨rfl,vN',hq,hg⟩
 have H3:=b6 hq
 have G3:=b6 (HG2.out.trans hg)
 clear hq hg K c4
 go_wp2
 go_ret
 exact⟨m,vN',vn,[⟨3,0,0,0,none,0,0,false,false,⟨#[]⟩,none,0,0⟩],rfl,H3.out,G3.out,by rw[HM.out];exact DW.leaf _ _ _ _,by have:=HK1.out;simp only[List.length_cons,List.length_nil];omega⟩
theorem NR (b:Nat)(X:Px)(k:Nat)(fi fm fs fu:Bool)(op:Nat)(vN vn:Value)(ds:List Dc)(ns:List ByteArray)(w:World)(h:QS w b X k ⟨fi,fm,fs,fu⟩ op vN vn 0 0 ds ns)(hR:X.R.length<=1024)(hk:k<X.R.length)(hds:ds.length<=4194304)(hc:g7 X.R k=46)(hfs:fs=true):
 Calls Tryz.prog 76 #[.pointer (some ⟨b,0,none⟩)] w fun e w'=>Bl b X k vN vn op w ds (.ok (some (.cls ⟨fi,fm,fs,fu⟩ (s9 Cp)),⟨k+1,⟨fi,fm,fs,fu⟩,ns⟩)) e w':=by
 have KP:=b6 (j6 b X k ⟨fi,fm,fs,fu⟩ op vN vn 0 0 0 w h.s (by omega) (by omega))
 rw[Nat.add_zero,hc]at KP
 have HQ:=b6 h
 have HDS:=b6 hds
 obtain⟨k1,hk1⟩:∃k1,k1=k+1:=⟨_,rfl⟩
 have hwk:IntKind.i64.wrap ((k:Int)+1)=(k1:Int):=by rw[IntKind.wrap_i64];omega
 have HK1:=b6 hk1
 have d2:w.cell? ⟨b,2,none⟩=some (.int .i64 (k:Int)):=h.s.c 2 _ rfl
 rw[<-hk1]
 clear h hc hk1 hds
 unfold Bl DP
 go_enter Tryz.func76,Tryz.ntmps76
 go_wp2_with fail
 refine KP.out.mono ?_
 rintro e w1 ⟨rfl,nq,rfl⟩
 replace HQ:=b6 (HQ.out.new ((tZ w).drewN nq))
 have HG:=b6 ((GT.refl b w vN vn).still ((tZ w).drewN nq))
 clear KP d2
 generalize w.drewN nq=w1 at*
 have c2:w1.cell? ⟨b,2,none⟩=some (.int .i64 (k:Int)):=HQ.out.s.c 2 _ rfl
 have f2:=HQ.out.s.fr 2
 have HS:=b6 (HQ.out.setk k1)
 have HG2:=b6 (HG.out.own (d9 w1 b 2 (.int .i64 (k1:Int))))
 go_upto_region 4 with fail
 clear c2 f2 HQ HG
 generalize w1.setCell ⟨b,2,none⟩ (.int .i64 (k1:Int))=w2 at*
 have TA:=b6 ((tZ w2).alloc (.cells #[.int .i64 0,.int .i64 1114111] 87))
 have HRG:=b6 (show Rg (w2.alloc (.cells #[.int .i64 0,.int .i64 1114111] 87)) (some ⟨w2.heap.size,0,none⟩) Cp from u9 w2 Cp 87)
 have K:=b6 (W8 (HS.out.new TA.out) HDS.out (some ⟨w2.heap.size,0,none⟩) 1 Cp HRG.out (by decide))
 have HSZ:=b6 (show w.heap.size<=(w2.alloc (.cells #[.int .i64 0,.int .i64 1114111] 87)).heap.size from Nat.le_trans HG2.out.t.size TA.out.size)
 obtain⟨m,hm⟩:∃m,m=ds.length:=⟨_,rfl⟩
 rw[<-hm]at K
 have HM:=b6 hm
 clear hm HRG
 have c4:w2.cell? ⟨b,5,none⟩=some (.bool fs):=HS.out.s.c 5 _ rfl
 subst hfs
 go_wp2_with fail
 refine K.out.mono ?_
 rintro e w3 ⟨rfl,vN',d,hq,hg,hd⟩
 have H3:=b6 hq
 have G3:=b6 ((HG2.out.still TA.out).trans hg)
 have D3:=b6 hd
 clear hq hg hd K
 go_wp2
 go_ret
 exact⟨m,vN',vn,[d],rfl,H3.out,G3.out,D3.out.wide (fun g e=>.inr ⟨Nat.le_trans HSZ.out e.1,e.2⟩),by have:=HK1.out;simp only[List.length_cons,List.length_nil];omega⟩
theorem NU (b:Nat)(X:Px)(k:Nat)(fi fm fs fu:Bool)(op:Nat)(vN vn:Value)(ds:List Dc)(ns:List ByteArray)(w:World)(h:QS w b X k ⟨fi,fm,fs,fu⟩ op vN vn 0 0 ds ns)(hR:X.R.length<=1024)(hk:k<X.R.length)(hds:ds.length<=4194304)(hc:g7 X.R k=46)(hfs:fs=false):
 Calls Tryz.prog 76 #[.pointer (some ⟨b,0,none⟩)] w fun e w'=>Bl b X k vN vn op w ds (.ok (some (.cls ⟨fi,fm,fs,fu⟩ (s9 EX)),⟨k+1,⟨fi,fm,fs,fu⟩,ns⟩)) e w':=by
 have KP:=b6 (j6 b X k ⟨fi,fm,fs,fu⟩ op vN vn 0 0 0 w h.s (by omega) (by omega))
 rw[Nat.add_zero,hc]at KP
 have HQ:=b6 h
 have HDS:=b6 hds
 obtain⟨k1,hk1⟩:∃k1,k1=k+1:=⟨_,rfl⟩
 have hwk:IntKind.i64.wrap ((k:Int)+1)=(k1:Int):=by rw[IntKind.wrap_i64];omega
 have HK1:=b6 hk1
 have d2:w.cell? ⟨b,2,none⟩=some (.int .i64 (k:Int)):=h.s.c 2 _ rfl
 rw[<-hk1]
 clear h hc hk1 hds
 unfold Bl DP
 go_enter Tryz.func76,Tryz.ntmps76
 go_wp2_with fail
 refine KP.out.mono ?_
 rintro e w1 ⟨rfl,nq,rfl⟩
 replace HQ:=b6 (HQ.out.new ((tZ w).drewN nq))
 have HG:=b6 ((GT.refl b w vN vn).still ((tZ w).drewN nq))
 clear KP d2
 generalize w.drewN nq=w1 at*
 have c2:w1.cell? ⟨b,2,none⟩=some (.int .i64 (k:Int)):=HQ.out.s.c 2 _ rfl
 have f2:=HQ.out.s.fr 2
 have HS:=b6 (HQ.out.setk k1)
 have HG2:=b6 (HG.out.own (d9 w1 b 2 (.int .i64 (k1:Int))))
 go_upto_region 4 with fail
 clear c2 f2 HQ HG
 generalize w1.setCell ⟨b,2,none⟩ (.int .i64 (k1:Int))=w2 at*
 have TA:=b6 ((tZ w2).alloc (.cells #[.int .i64 0,.int .i64 9,.int .i64 11,.int .i64 1114111] 87))
 have HRG:=b6 (show Rg (w2.alloc (.cells #[.int .i64 0,.int .i64 9,.int .i64 11,.int .i64 1114111] 87)) (some ⟨w2.heap.size,0,none⟩) EX from u9 w2 EX 87)
 have K:=b6 (W8 (HS.out.new TA.out) HDS.out (some ⟨w2.heap.size,0,none⟩) 2 EX HRG.out (by decide))
 have HSZ:=b6 (show w.heap.size<=(w2.alloc (.cells #[.int .i64 0,.int .i64 9,.int .i64 11,.int .i64 1114111] 87)).heap.size from Nat.le_trans HG2.out.t.size TA.out.size)
 obtain⟨m,hm⟩:∃m,m=ds.length:=⟨_,rfl⟩
 rw[<-hm]at K
 have HM:=b6 hm
 clear hm HRG
 have c4:w2.cell? ⟨b,5,none⟩=some (.bool fs):=HS.out.s.c 5 _ rfl
 subst hfs
 go_wp2_with fail
 refine K.out.mono ?_
 rintro e w3 ⟨rfl,vN',d,hq,hg,hd⟩
 have H3:=b6 hq
 have G3:=b6 ((HG2.out.still TA.out).trans hg)
 have D3:=b6 hd
 clear hq hg hd K
 go_wp2
 go_ret
 exact⟨m,vN',vn,[d],rfl,H3.out,G3.out,D3.out.wide (fun g e=>.inr ⟨Nat.le_trans HSZ.out e.1,e.2⟩),by have:=HK1.out;simp only[List.length_cons,List.length_nil];omega⟩
theorem Ln (b:Nat)(X:Px)(k:Nat)(fi fm fs fu:Bool)(op:Nat)(vN vn:Value)(ds:List Dc)(ns:List ByteArray)(w:World)(h:QS w b X k ⟨fi,fm,fs,fu⟩ op vN vn 0 0 ds ns)(hR:X.R.length<=1024)(hk:k<X.R.length)(hds:ds.length<=4194304)(y:Int)(hc:g7 X.R k=y)(q1:(y==40)=false)(q2:(y==46)=false)(q3:(y==94)=false)(q4:(y==36)=false)(q5:(y==91)=false)(q6:(y==92)=false):
 Calls Tryz.prog 76 #[.pointer (some ⟨b,0,none⟩)] w fun e w'=>Bl b X k vN vn op w ds (.ok (some (.cls ⟨fi,fm,fs,fu⟩ (s9 [(y,y)])),⟨k+1,⟨fi,fm,fs,fu⟩,ns⟩)) e w':=by
 have KP:=b6 (j6 b X k ⟨fi,fm,fs,fu⟩ op vN vn 0 0 0 w h.s (by omega) (by omega))
 rw[Nat.add_zero,hc]at KP
 have HQ:=b6 h
 have HDS:=b6 hds
 obtain⟨k1,hk1⟩:∃k1,k1=k+1:=⟨_,rfl⟩
 have hwk:IntKind.i64.wrap ((k:Int)+1)=(k1:Int):=by rw[IntKind.wrap_i64];omega
 have HK1:=b6 hk1
 have d2:w.cell? ⟨b,2,none⟩=some (.int .i64 (k:Int)):=h.s.c 2 _ rfl
 rw[<-hk1]
 clear h hc hk1 hds
 unfold Bl DP
 go_enter Tryz.func76,Tryz.ntmps76
 go_wp2_with fail
 refine KP.out.mono ?_
 rintro e w1 ⟨rfl,nq,rfl⟩
 replace HQ:=b6 (HQ.out.new ((tZ w).drewN nq))
 have HG:=b6 ((GT.refl b w vN vn).still ((tZ w).drewN nq))
 clear KP d2
 generalize w.drewN nq=w1 at*
 have c2:w1.cell? ⟨b,2,none⟩=some (.int .i64 (k:Int)):=HQ.out.s.c 2 _ rfl
 have f2:=HQ.out.s.fr 2
 have HS:=b6 (HQ.out.setk k1)
 have HG2:=b6 (HG.out.own (d9 w1 b 2 (.int .i64 (k1:Int))))
 go_upto_region 4 with fail
 clear c2 f2 HQ HG
 generalize w1.setCell ⟨b,2,none⟩ (.int .i64 (k1:Int))=w2 at*
 have TA:=b6 ((tZ w2).alloc (.cells #[.int .i64 y,.int .i64 y] 87))
 have HRG:=b6 (show Rg (w2.alloc (.cells #[.int .i64 y,.int .i64 y] 87)) (some ⟨w2.heap.size,0,none⟩) [(y,y)]from u9 w2 [(y,y)] 87)
 have K:=b6 (W8 (HS.out.new TA.out) HDS.out (some ⟨w2.heap.size,0,none⟩) 1 [(y,y)] HRG.out (Nat.succ_le_succ (Nat.zero_le _)))
 have HSZ:=b6 (show w.heap.size<=(w2.alloc (.cells #[.int .i64 y,.int .i64 y] 87)).heap.size from Nat.le_trans HG2.out.t.size TA.out.size)
 obtain⟨m,hm⟩:∃m,m=ds.length:=⟨_,rfl⟩
 rw[<-hm]at K
 have HM:=b6 hm
 clear hm HRG
 go_wp2_with fail
 refine K.out.mono ?_
 rintro e w3 ⟨rfl,vN',d,hq,hg,hd⟩
 have H3:=b6 hq
 have G3:=b6 ((HG2.out.still TA.out).trans hg)
 have D3:=b6 hd
 clear hq hg hd K
 go_wp2
 go_ret
 exact⟨m,vN',vn,[d],rfl,H3.out,G3.out,D3.out.wide (fun g e=>.inr ⟨Nat.le_trans HSZ.out e.1,e.2⟩),by have:=HK1.out;simp only[List.length_cons,List.length_nil];omega⟩
theorem IT (b:Nat)(X:Px)(k:Nat)(fi fm fs fu:Bool)(op:Nat)(vN vn:Value)(ds:List Dc)(ns:List ByteArray)(w:World)(h:QS w b X k ⟨fi,fm,fs,fu⟩ op vN vn 0 0 ds ns)(hR:X.R.length<=1024)(hk:k<X.R.length)(hds:ds.length<=4194304)(hc:g7 X.R k=91)(hX:X.Good)(hop:op<=32):
 Calls Tryz.prog 76 #[.pointer (some ⟨b,0,none⟩)] w fun e w'=>Bl b X k vN vn op w ds (FW ⟨k,⟨fi,fm,fs,fu⟩,ns⟩ (E0 X.R b8 k (k+1))) e w':=by
 have KP:=b6 (j6 b X k ⟨fi,fm,fs,fu⟩ op vN vn 0 0 0 w h.s (by omega) (by omega))
 rw[Nat.add_zero,hc]at KP
 have HQ:=b6 h
 have HDS:=b6 hds
 obtain⟨k1,hk1⟩:∃k1,k1=k+1:=⟨_,rfl⟩
 have hwk:IntKind.i64.wrap ((k:Int)+1)=(k1:Int):=by rw[IntKind.wrap_i64];omega
 have HK1:=b6 hk1
 have d2:w.cell? ⟨b,2,none⟩=some (.int .i64 (k:Int)):=h.s.c 2 _ rfl
 have KL:=b6 (fun w' (g:DS w' b X (k+1) ⟨fi,fm,fs,fu⟩ op vN vn 0 0)=>NZ b X k ⟨fi,fm,fs,fu⟩ op vN vn w' g hX hk)
 have HFW:=b6 (fun l k2 (e:E0 X.R b8 k (k+1)=.ok (l,k2))=>Gj e)
 rw[<-hk1]at KL HFW⊢
 obtain⟨C,hC⟩:∃C,C=E0 X.R b8 k k1:=⟨_,rfl⟩
 rw[<-hC]at KL HFW⊢
 have HOP:=b6 hop
 have HKL:=b6 hk
 clear h hc hk1 hds hC hX hop
 go_enter Tryz.func76,Tryz.ntmps76
 go_wp2_with fail
 refine KP.out.mono ?_
 rintro e w1 ⟨rfl,nq,rfl⟩
 replace HQ:=b6 (HQ.out.new ((tZ w).drewN nq))
 have HG:=b6 ((GT.refl b w vN vn).still ((tZ w).drewN nq))
 clear KP d2
 generalize w.drewN nq=w1 at*
 have c2:w1.cell? ⟨b,2,none⟩=some (.int .i64 (k:Int)):=HQ.out.s.c 2 _ rfl
 have f2:=HQ.out.s.fr 2
 have HS:=b6 (HQ.out.setk k1)
 have HG2:=b6 (HG.out.own (d9 w1 b 2 (.int .i64 (k1:Int))))
 go_upto_region 4 with fail
 clear c2 f2 HQ HG
 generalize w1.setCell ⟨b,2,none⟩ (.int .i64 (k1:Int))=w2 at*
 go_wp2_with fail
 refine(KL.out _ HS.out.s).mono ?_
 rintro e w3 ⟨neg,Z,hz,he⟩
 have HZ:=b6 hz
 clear hz KL
 cases Z with
 |error ej=>
  obtain⟨c,j⟩:=ej
  obtain⟨v,l,rfl,r1,r2,_,r4,r5⟩:=he
  have HCE:=b6 (show C=.error (c,j)from HZ.out)
  have H3:=b6 (HS.out.mv r4 r5)
  have G3:=b6 (HG2.out.own r5)
  obtain⟨a,cc,hv,hg⟩:=F5 r1
  subst hv
  have K:=b6 (W8 H3.out HDS.out a cc l hg (by omega))
  clear r1 r2 r4 r5 hg HZ HFW
  go_wp2_with fail
  refine K.out.mono ?_
  rintro e w4 ⟨rfl,vN',d,hq,hg,_⟩
  have H4:=b6 hq
  have G4:=b6 (G3.out.trans hg)
  clear hq hg K
  go_wp2
  go_ret
  rw[HCE.out]
  exact⟨_,_,vN',vn,ds++ [d],ns,rfl,H4.out,G4.out,by have:=HOP.out;have:=HKL.out;rw[List.length_append];simp only[List.length_cons,List.length_nil];omega⟩
 |ok p=>
  obtain⟨l,k2⟩:=p
  obtain⟨v,rfl,r1,r2,_,r4,r5⟩:=he
  have HCE:=b6 (show C=.ok (if neg then z6 l else s9 l,k2)from HZ.out)
  have HK2:=b6 (HFW.out _ _ HCE.out)
  have H3:=b6 (HS.out.mv r4 r5)
  have G3:=b6 (HG2.out.own r5)
  have HE:=b6 (show s9 (if neg then z6 l else l)=if neg then z6 l else s9 l by
   cases neg
   ·rfl
   ·exact Cj l)
  have HLL:=b6 (show(if neg then z6 l else l).length<=4194304 by
   have:=Bz l
   cases neg
   ·show l.length<=4194304
    omega
   ·show(z6 l).length<=4194304
    omega)
  generalize (if neg then z6 l else s9 l)=E at*
  generalize (if neg then z6 l else l)=l2 at*
  obtain⟨a,cc,hv,hg⟩:=F5 r1
  subst hv
  have K:=b6 (W8 H3.out HDS.out a cc l2 hg HLL.out)
  have HSZ:=b6 G3.out.t.size
  obtain⟨m,hm⟩:∃m,m=ds.length:=⟨_,rfl⟩
  rw[<-hm]at K
  clear r1 r2 r4 r5 hg HZ HFW hm
  go_wp2_with fail
  refine K.out.mono ?_
  rintro e w4 ⟨rfl,vN',d,hq,hg,hd⟩
  have H4:=b6 hq
  have G4:=b6 (G3.out.trans hg)
  have D4:=b6 hd
  clear hq hg hd K
  go_wp2
  go_ret
  rw[HCE.out,<-HE.out]
  exact⟨m,vN',vn,[d],rfl,H4.out,G4.out,D4.out.wide (fun g e=>.inr ⟨Nat.le_trans HSZ.out e.1,e.2⟩),by have:=HK1.out;have:=HK2.out;simp only[List.length_cons,List.length_nil];omega⟩
theorem Qm (b:Nat)(X:Px)(k:Nat)(fi fm fs fu:Bool)(op:Nat)(vN vn:Value)(ds:List Dc)(ns:List ByteArray)(w:World)(h:QS w b X k ⟨fi,fm,fs,fu⟩ op vN vn 0 0 ds ns)(hR:X.R.length<=1024)(hk:k<X.R.length)(hds:ds.length<=4194304)(hc:g7 X.R k=92)(hy:g7 X.R (k+1)=65):
 Calls Tryz.prog 76 #[.pointer (some ⟨b,0,none⟩)] w fun e w'=>Bl b X k vN vn op w ds (.ok (some (.border 2),⟨k+2,⟨fi,fm,fs,fu⟩,ns⟩)) e w':=by
 have KP:=b6 (j6 b X k ⟨fi,fm,fs,fu⟩ op vN vn 0 0 0 w h.s (by omega) (by omega))
 rw[Nat.add_zero,hc]at KP
 have HQ:=b6 h
 have HDS:=b6 hds
 obtain⟨k1,hk1⟩:∃k1,k1=k+1:=⟨_,rfl⟩
 have hwk:IntKind.i64.wrap ((k:Int)+1)=(k1:Int):=by rw[IntKind.wrap_i64];omega
 have HK1:=b6 hk1
 have d2:w.cell? ⟨b,2,none⟩=some (.int .i64 (k:Int)):=h.s.c 2 _ rfl
 rw[<-hk1]at hy
 have HY:=b6 hy
 clear h hc hk1 hds hy
 unfold Bl DP
 go_enter Tryz.func76,Tryz.ntmps76
 go_wp2_with fail
 refine KP.out.mono ?_
 rintro e w1 ⟨rfl,nq,rfl⟩
 replace HQ:=b6 (HQ.out.new ((tZ w).drewN nq))
 have HG:=b6 ((GT.refl b w vN vn).still ((tZ w).drewN nq))
 clear KP d2
 generalize w.drewN nq=w1 at*
 have c2:w1.cell? ⟨b,2,none⟩=some (.int .i64 (k:Int)):=HQ.out.s.c 2 _ rfl
 have f2:=HQ.out.s.fr 2
 have HS:=b6 (HQ.out.setk k1)
 have HG2:=b6 (HG.out.own (d9 w1 b 2 (.int .i64 (k1:Int))))
 go_upto_region 4 with fail
 clear c2 f2 HQ HG
 generalize w1.setCell ⟨b,2,none⟩ (.int .i64 (k1:Int))=w2 at*
 go_wp2_with fail
 refine(y7 65 HS.out.s (by have:=HK1.out;omega) HY.out).mono ?_
 rintro e w4 ⟨rfl,d,t⟩
 replace HG2:=b6 (HG2.out.own t)
 have HS4:=b6 (HS.out.mv d t)
 clear d t
 have K:=b6 (HS4.out.put HDS.out ⟨2,0,0,0,none,0,0,false,false,⟨#[]⟩,none,0,0⟩)
 unfold Dc.arr at K
 obtain⟨m,hm⟩:∃m,m=ds.length:=⟨_,rfl⟩
 rw[<-hm]at K
 have HM:=b6 hm
 clear hm
 go_wp2_with fail
 refine K.out.mono ?_
 rintro e w3 ⟨rfl,vN',hq,hg⟩
 have H3:=b6 (show QS w3 b X (k+2) ⟨fi,fm,fs,fu⟩ op vN' vn 0 0 _ ns by have:=HK1.out;rw[show k+2=k1+1 by omega];exact hq)
 have G3:=b6 (HG2.out.trans hg)
 clear hq hg K
 go_wp2
 go_ret
 exact⟨m,vN',vn,[⟨2,0,0,0,none,0,0,false,false,⟨#[]⟩,none,0,0⟩],rfl,H3.out,G3.out,by rw[HM.out];exact DW.leaf _ _ _ _,by simp only[List.length_cons,List.length_nil];omega⟩
theorem Qp (b:Nat)(X:Px)(k:Nat)(fi fm fs fu:Bool)(op:Nat)(vN vn:Value)(ds:List Dc)(ns:List ByteArray)(w:World)(h:QS w b X k ⟨fi,fm,fs,fu⟩ op vN vn 0 0 ds ns)(hR:X.R.length<=1024)(hk:k<X.R.length)(hds:ds.length<=4194304)(hc:g7 X.R k=92)(hy:g7 X.R (k+1)=122):
 Calls Tryz.prog 76 #[.pointer (some ⟨b,0,none⟩)] w fun e w'=>Bl b X k vN vn op w ds (.ok (some (.border 3),⟨k+2,⟨fi,fm,fs,fu⟩,ns⟩)) e w':=by
 have KP:=b6 (j6 b X k ⟨fi,fm,fs,fu⟩ op vN vn 0 0 0 w h.s (by omega) (by omega))
 rw[Nat.add_zero,hc]at KP
 have HQ:=b6 h
 have HDS:=b6 hds
 obtain⟨k1,hk1⟩:∃k1,k1=k+1:=⟨_,rfl⟩
 have hwk:IntKind.i64.wrap ((k:Int)+1)=(k1:Int):=by rw[IntKind.wrap_i64];omega
 have HK1:=b6 hk1
 have d2:w.cell? ⟨b,2,none⟩=some (.int .i64 (k:Int)):=h.s.c 2 _ rfl
 rw[<-hk1]at hy
 have HY:=b6 hy
 have N65:=b6 (show((122:Int))≠((65:UInt8).toNat:Int)by decide)
 clear h hc hk1 hds hy
 unfold Bl DP
 go_enter Tryz.func76,Tryz.ntmps76
 go_wp2_with fail
 refine KP.out.mono ?_
 rintro e w1 ⟨rfl,nq,rfl⟩
 replace HQ:=b6 (HQ.out.new ((tZ w).drewN nq))
 have HG:=b6 ((GT.refl b w vN vn).still ((tZ w).drewN nq))
 clear KP d2
 generalize w.drewN nq=w1 at*
 have c2:w1.cell? ⟨b,2,none⟩=some (.int .i64 (k:Int)):=HQ.out.s.c 2 _ rfl
 have f2:=HQ.out.s.fr 2
 have HS:=b6 (HQ.out.setk k1)
 have HG2:=b6 (HG.out.own (d9 w1 b 2 (.int .i64 (k1:Int))))
 go_upto_region 4 with fail
 clear c2 f2 HQ HG
 generalize w1.setCell ⟨b,2,none⟩ (.int .i64 (k1:Int))=w2 at*
 go_wp2_with fail
 refine(E6 65 HS.out.s (by have:=HK1.out;omega) (by rw[HY.out];exact N65.out)).mono ?_
 rintro e wn ⟨rfl,d,t⟩
 replace HG2:=b6 (HG2.out.own t)
 replace HS:=b6 (HS.out.mv d t)
 clear d t
 go_wp2_with fail
 refine(y7 122 HS.out.s (by have:=HK1.out;omega) HY.out).mono ?_
 rintro e w4 ⟨rfl,d,t⟩
 replace HG2:=b6 (HG2.out.own t)
 have HS4:=b6 (HS.out.mv d t)
 clear d t
 have K:=b6 (HS4.out.put HDS.out ⟨3,0,0,0,none,0,0,false,false,⟨#[]⟩,none,0,0⟩)
 unfold Dc.arr at K
 obtain⟨m,hm⟩:∃m,m=ds.length:=⟨_,rfl⟩
 rw[<-hm]at K
 have HM:=b6 hm
 clear hm
 go_wp2_with fail
 refine K.out.mono ?_
 rintro e w3 ⟨rfl,vN',hq,hg⟩
 have H3:=b6 (show QS w3 b X (k+2) ⟨fi,fm,fs,fu⟩ op vN' vn 0 0 _ ns by have:=HK1.out;rw[show k+2=k1+1 by omega];exact hq)
 have G3:=b6 (HG2.out.trans hg)
 clear hq hg K
 go_wp2
 go_ret
 exact⟨m,vN',vn,[⟨3,0,0,0,none,0,0,false,false,⟨#[]⟩,none,0,0⟩],rfl,H3.out,G3.out,by rw[HM.out];exact DW.leaf _ _ _ _,by simp only[List.length_cons,List.length_nil];omega⟩
theorem Qo (b:Nat)(X:Px)(k:Nat)(fi fm fs fu:Bool)(op:Nat)(vN vn:Value)(ds:List Dc)(ns:List ByteArray)(w:World)(h:QS w b X k ⟨fi,fm,fs,fu⟩ op vN vn 0 0 ds ns)(hR:X.R.length<=1024)(hk:k<X.R.length)(hds:ds.length<=4194304)(hc:g7 X.R k=92)(hy:g7 X.R (k+1)=98):
 Calls Tryz.prog 76 #[.pointer (some ⟨b,0,none⟩)] w fun e w'=>Bl b X k vN vn op w ds (.ok (some (.border 6),⟨k+2,⟨fi,fm,fs,fu⟩,ns⟩)) e w':=by
 have KP:=b6 (j6 b X k ⟨fi,fm,fs,fu⟩ op vN vn 0 0 0 w h.s (by omega) (by omega))
 rw[Nat.add_zero,hc]at KP
 have HQ:=b6 h
 have HDS:=b6 hds
 obtain⟨k1,hk1⟩:∃k1,k1=k+1:=⟨_,rfl⟩
 have hwk:IntKind.i64.wrap ((k:Int)+1)=(k1:Int):=by rw[IntKind.wrap_i64];omega
 have HK1:=b6 hk1
 have d2:w.cell? ⟨b,2,none⟩=some (.int .i64 (k:Int)):=h.s.c 2 _ rfl
 rw[<-hk1]at hy
 have HY:=b6 hy
 have N65:=b6 (show((98:Int))≠((65:UInt8).toNat:Int)by decide)
 have N122:=b6 (show((98:Int))≠((122:UInt8).toNat:Int)by decide)
 clear h hc hk1 hds hy
 unfold Bl DP
 go_enter Tryz.func76,Tryz.ntmps76
 go_wp2_with fail
 refine KP.out.mono ?_
 rintro e w1 ⟨rfl,nq,rfl⟩
 replace HQ:=b6 (HQ.out.new ((tZ w).drewN nq))
 have HG:=b6 ((GT.refl b w vN vn).still ((tZ w).drewN nq))
 clear KP d2
 generalize w.drewN nq=w1 at*
 have c2:w1.cell? ⟨b,2,none⟩=some (.int .i64 (k:Int)):=HQ.out.s.c 2 _ rfl
 have f2:=HQ.out.s.fr 2
 have HS:=b6 (HQ.out.setk k1)
 have HG2:=b6 (HG.out.own (d9 w1 b 2 (.int .i64 (k1:Int))))
 go_upto_region 4 with fail
 clear c2 f2 HQ HG
 generalize w1.setCell ⟨b,2,none⟩ (.int .i64 (k1:Int))=w2 at*
 go_wp2_with fail
 refine(E6 65 HS.out.s (by have:=HK1.out;omega) (by rw[HY.out];exact N65.out)).mono ?_
 rintro e wn ⟨rfl,d,t⟩
 replace HG2:=b6 (HG2.out.own t)
 replace HS:=b6 (HS.out.mv d t)
 clear d t
 go_wp2_with fail
 refine(E6 122 HS.out.s (by have:=HK1.out;omega) (by rw[HY.out];exact N122.out)).mono ?_
 rintro e wn ⟨rfl,d,t⟩
 replace HG2:=b6 (HG2.out.own t)
 replace HS:=b6 (HS.out.mv d t)
 clear d t
 go_wp2_with fail
 refine(y7 98 HS.out.s (by have:=HK1.out;omega) HY.out).mono ?_
 rintro e w4 ⟨rfl,d,t⟩
 replace HG2:=b6 (HG2.out.own t)
 have HS4:=b6 (HS.out.mv d t)
 clear d t
 have K:=b6 (HS4.out.put HDS.out ⟨6,0,0,0,none,0,0,false,false,⟨#[]⟩,none,0,0⟩)
 unfold Dc.arr at K
 obtain⟨m,hm⟩:∃m,m=ds.length:=⟨_,rfl⟩
 rw[<-hm]at K
 have HM:=b6 hm
 clear hm
 go_wp2_with fail
 refine K.out.mono ?_
 rintro e w3 ⟨rfl,vN',hq,hg⟩
 have H3:=b6 (show QS w3 b X (k+2) ⟨fi,fm,fs,fu⟩ op vN' vn 0 0 _ ns by have:=HK1.out;rw[show k+2=k1+1 by omega];exact hq)
 have G3:=b6 (HG2.out.trans hg)
 clear hq hg K
 go_wp2
 go_ret
 exact⟨m,vN',vn,[⟨6,0,0,0,none,0,0,false,false,⟨#[]⟩,none,0,0⟩],rfl,H3.out,G3.out,by rw[HM.out];exact DW.leaf _ _ _ _,by simp only[List.length_cons,List.length_nil];omega⟩
theorem Qn (b:Nat)(X:Px)(k:Nat)(fi fm fs fu:Bool)(op:Nat)(vN vn:Value)(ds:List Dc)(ns:List ByteArray)(w:World)(h:QS w b X k ⟨fi,fm,fs,fu⟩ op vN vn 0 0 ds ns)(hR:X.R.length<=1024)(hk:k<X.R.length)(hds:ds.length<=4194304)(hc:g7 X.R k=92)(hy:g7 X.R (k+1)=66):
 Calls Tryz.prog 76 #[.pointer (some ⟨b,0,none⟩)] w fun e w'=>Bl b X k vN vn op w ds (.ok (some (.border 7),⟨k+2,⟨fi,fm,fs,fu⟩,ns⟩)) e w':=by
 have KP:=b6 (j6 b X k ⟨fi,fm,fs,fu⟩ op vN vn 0 0 0 w h.s (by omega) (by omega))
 rw[Nat.add_zero,hc]at KP
 have HQ:=b6 h
 have HDS:=b6 hds
 obtain⟨k1,hk1⟩:∃k1,k1=k+1:=⟨_,rfl⟩
 have hwk:IntKind.i64.wrap ((k:Int)+1)=(k1:Int):=by rw[IntKind.wrap_i64];omega
 have HK1:=b6 hk1
 have d2:w.cell? ⟨b,2,none⟩=some (.int .i64 (k:Int)):=h.s.c 2 _ rfl
 rw[<-hk1]at hy
 have HY:=b6 hy
 have N65:=b6 (show((66:Int))≠((65:UInt8).toNat:Int)by decide)
 have N122:=b6 (show((66:Int))≠((122:UInt8).toNat:Int)by decide)
 have N98:=b6 (show((66:Int))≠((98:UInt8).toNat:Int)by decide)
 clear h hc hk1 hds hy
 unfold Bl DP
 go_enter Tryz.func76,Tryz.ntmps76
 go_wp2_with fail
 refine KP.out.mono ?_
 rintro e w1 ⟨rfl,nq,rfl⟩
 replace HQ:=b6 (HQ.out.new ((tZ w).drewN nq))
 have HG:=b6 ((GT.refl b w vN vn).still ((tZ w).drewN nq))
 clear KP d2
 generalize w.drewN nq=w1 at*
 have c2:w1.cell? ⟨b,2,none⟩=some (.int .i64 (k:Int)):=HQ.out.s.c 2 _ rfl
 have f2:=HQ.out.s.fr 2
 have HS:=b6 (HQ.out.setk k1)
 have HG2:=b6 (HG.out.own (d9 w1 b 2 (.int .i64 (k1:Int))))
 go_upto_region 4 with fail
 clear c2 f2 HQ HG
 generalize w1.setCell ⟨b,2,none⟩ (.int .i64 (k1:Int))=w2 at*
 go_wp2_with fail
 refine(E6 65 HS.out.s (by have:=HK1.out;omega) (by rw[HY.out];exact N65.out)).mono ?_
 rintro e wn ⟨rfl,d,t⟩
 replace HG2:=b6 (HG2.out.own t)
 replace HS:=b6 (HS.out.mv d t)
 clear d t
 go_wp2_with fail
 refine(E6 122 HS.out.s (by have:=HK1.out;omega) (by rw[HY.out];exact N122.out)).mono ?_
 rintro e wn ⟨rfl,d,t⟩
 replace HG2:=b6 (HG2.out.own t)
 replace HS:=b6 (HS.out.mv d t)
 clear d t
 go_wp2_with fail
 refine(E6 98 HS.out.s (by have:=HK1.out;omega) (by rw[HY.out];exact N98.out)).mono ?_
 rintro e wn ⟨rfl,d,t⟩
 replace HG2:=b6 (HG2.out.own t)
 replace HS:=b6 (HS.out.mv d t)
 clear d t
 go_wp2_with fail
 refine(y7 66 HS.out.s (by have:=HK1.out;omega) HY.out).mono ?_
 rintro e w4 ⟨rfl,d,t⟩
 replace HG2:=b6 (HG2.out.own t)
 have HS4:=b6 (HS.out.mv d t)
 clear d t
 have K:=b6 (HS4.out.put HDS.out ⟨7,0,0,0,none,0,0,false,false,⟨#[]⟩,none,0,0⟩)
 unfold Dc.arr at K
 obtain⟨m,hm⟩:∃m,m=ds.length:=⟨_,rfl⟩
 rw[<-hm]at K
 have HM:=b6 hm
 clear hm
 go_wp2_with fail
 refine K.out.mono ?_
 rintro e w3 ⟨rfl,vN',hq,hg⟩
 have H3:=b6 (show QS w3 b X (k+2) ⟨fi,fm,fs,fu⟩ op vN' vn 0 0 _ ns by have:=HK1.out;rw[show k+2=k1+1 by omega];exact hq)
 have G3:=b6 (HG2.out.trans hg)
 clear hq hg K
 go_wp2
 go_ret
 exact⟨m,vN',vn,[⟨7,0,0,0,none,0,0,false,false,⟨#[]⟩,none,0,0⟩],rfl,H3.out,G3.out,by rw[HM.out];exact DW.leaf _ _ _ _,by simp only[List.length_cons,List.length_nil];omega⟩
def WH (st:St):PR (List R2×Option Int×Nat)->PR (Option Nd×St)
 | .error e=>.error e
 | .ok (l,_,k1)=>.ok (some (.cls st.f (s9 l)),{st with k:=k1})
theorem NX (b:Nat)(X:Px)(k:Nat)(fi fm fs fu:Bool)(op:Nat)(vN vn:Value)(ds:List Dc)(ns:List ByteArray)(w:World)(h:QS w b X k ⟨fi,fm,fs,fu⟩ op vN vn 0 0 ds ns)(hR:X.R.length<=1024)(hk:k<X.R.length)(hds:ds.length<=4194304)(hc:g7 X.R k=92)(hX:X.Good)(hop:op<=32)(n1:g7 X.R (k+1)≠65)(n2:g7 X.R (k+1)≠122)(n3:g7 X.R (k+1)≠98)(n4:g7 X.R (k+1)≠66):
 Calls Tryz.prog 76 #[.pointer (some ⟨b,0,none⟩)] w fun e w'=>Bl b X k vN vn op w ds (WH ⟨k,⟨fi,fm,fs,fu⟩,ns⟩ (L3 X.R b8 k (k+1))) e w':=by
 have KP:=b6 (j6 b X k ⟨fi,fm,fs,fu⟩ op vN vn 0 0 0 w h.s (by omega) (by omega))
 rw[Nat.add_zero,hc]at KP
 have HQ:=b6 h
 have HDS:=b6 hds
 obtain⟨k1,hk1⟩:∃k1,k1=k+1:=⟨_,rfl⟩
 have hwk:IntKind.i64.wrap ((k:Int)+1)=(k1:Int):=by rw[IntKind.wrap_i64];omega
 have HK1:=b6 hk1
 have d2:w.cell? ⟨b,2,none⟩=some (.int .i64 (k:Int)):=h.s.c 2 _ rfl
 have KL:=b6 (fun w' (g:DS w' b X k1 ⟨fi,fm,fs,fu⟩ op vN vn 0 0)=>DO b X k k1 ⟨fi,fm,fs,fu⟩ op vN vn w' g (by omega) hR (by have:=hX.lenP;omega))
 have HFW:=b6 (fun l o k2 (e:L3 X.R b8 k k1=.ok (l,o,k2))=>Es e)
 have HLN:=b6 (fun l o k2 (e:L3 X.R b8 k k1=.ok (l,o,k2))=>ME e)
 rw[<-hk1]at n1 n2 n3 n4⊢
 have N65:=b6 n1
 have N122:=b6 n2
 have N98:=b6 n3
 have N66:=b6 n4
 obtain⟨C,hC⟩:∃C,C=L3 X.R b8 k k1:=⟨_,rfl⟩
 rw[<-hC]at KL HFW HLN⊢
 have HOP:=b6 hop
 have HKL:=b6 hk
 clear h hc hk1 hds hC hX hop n1 n2 n3 n4
 unfold Bl DP
 go_enter Tryz.func76,Tryz.ntmps76
 go_wp2_with fail
 refine KP.out.mono ?_
 rintro e w1 ⟨rfl,nq,rfl⟩
 replace HQ:=b6 (HQ.out.new ((tZ w).drewN nq))
 have HG:=b6 ((GT.refl b w vN vn).still ((tZ w).drewN nq))
 clear KP d2
 generalize w.drewN nq=w1 at*
 have c2:w1.cell? ⟨b,2,none⟩=some (.int .i64 (k:Int)):=HQ.out.s.c 2 _ rfl
 have f2:=HQ.out.s.fr 2
 have HS:=b6 (HQ.out.setk k1)
 have HG2:=b6 (HG.out.own (d9 w1 b 2 (.int .i64 (k1:Int))))
 go_upto_region 4 with fail
 clear c2 f2 HQ HG
 generalize w1.setCell ⟨b,2,none⟩ (.int .i64 (k1:Int))=w2 at*
 go_wp2_with fail
 refine(E6 65 HS.out.s (by have:=HK1.out;omega) N65.out).mono ?_
 rintro e wn ⟨rfl,d,t⟩
 replace HG2:=b6 (HG2.out.own t)
 replace HS:=b6 (HS.out.mv d t)
 clear d t
 go_wp2_with fail
 refine(E6 122 HS.out.s (by have:=HK1.out;omega) N122.out).mono ?_
 rintro e wn ⟨rfl,d,t⟩
 replace HG2:=b6 (HG2.out.own t)
 replace HS:=b6 (HS.out.mv d t)
 clear d t
 go_wp2_with fail
 refine(E6 98 HS.out.s (by have:=HK1.out;omega) N98.out).mono ?_
 rintro e wn ⟨rfl,d,t⟩
 replace HG2:=b6 (HG2.out.own t)
 replace HS:=b6 (HS.out.mv d t)
 clear d t
 go_wp2_with fail
 refine(E6 66 HS.out.s (by have:=HK1.out;omega) N66.out).mono ?_
 rintro e wn ⟨rfl,d,t⟩
 replace HG2:=b6 (HG2.out.own t)
 replace HS:=b6 (HS.out.mv d t)
 clear d t
 go_wp2_with fail
 refine(KL.out _ HS.out.s).mono ?_
 rintro e w3 he
 cases C with
 |error ej=>
  obtain⟨c,j⟩:=ej
  obtain⟨v,l,r,rfl,r1,r2,_,r4,r5⟩:=he
  have H3:=b6 (HS.out.mv r4 r5)
  have G3:=b6 (HG2.out.own r5)
  obtain⟨a,cc,hv,hg⟩:=F5 r1
  subst hv
  have K:=b6 (W8 H3.out HDS.out a cc l hg (by omega))
  clear r1 r2 r4 r5 hg HFW HLN KL
  go_wp2_with fail
  refine K.out.mono ?_
  rintro e w4 ⟨rfl,vN',d,hq,hg,_⟩
  have H4:=b6 hq
  have G4:=b6 (G3.out.trans hg)
  clear hq hg K
  go_wp2
  go_ret
  exact⟨_,_,vN',vn,ds++ [d],ns,rfl,H4.out,G4.out,by have:=HOP.out;have:=HKL.out;rw[List.length_append];simp only[List.length_cons,List.length_nil];omega⟩
 |ok p=>
  obtain⟨l,o,k2⟩:=p
  obtain⟨v,rfl,r1,_,r4,r5⟩:=he
  have HK2:=b6 (HFW.out _ _ _ rfl)
  have HLL:=b6 (HLN.out _ _ _ rfl)
  have H3:=b6 (HS.out.mv r4 r5)
  have G3:=b6 (HG2.out.own r5)
  obtain⟨a,cc,hv,hg⟩:=F5 r1
  subst hv
  have K:=b6 (W8 H3.out HDS.out a cc l hg (by have:=HLL.out;omega))
  have HSZ:=b6 G3.out.t.size
  obtain⟨m,hm⟩:∃m,m=ds.length:=⟨_,rfl⟩
  rw[<-hm]at K
  clear r1 r4 r5 hg HFW HLN KL hm
  go_wp2_with fail
  refine K.out.mono ?_
  rintro e w4 ⟨rfl,vN',d,hq,hg,hd⟩
  have H4:=b6 hq
  have G4:=b6 (G3.out.trans hg)
  have D4:=b6 hd
  clear hq hg hd K
  go_wp2
  go_ret
  exact⟨m,vN',vn,[d],rfl,H4.out,G4.out,D4.out.wide (fun g e=>.inr ⟨Nat.le_trans HSZ.out e.1,e.2⟩),by have:=HK1.out;have:=HK2.out;simp only[List.length_cons,List.length_nil];omega⟩
end Go.Proofs.YtdhhcefmmojcmaaGreatDoor
