/- Texts of this proof, one behind the other. -/
import Derived.Test.YtdhhcefmmojcmaaGreatDoorM22
import Derived.Test.YtdhhcefmmojcmaaGreatDoorM23
set_option maxRecDepth 100000
set_option maxHeartbeats 0
set_option linter.unusedVariables false
namespace Go.Proofs.YtdhhcefmmojcmaaGreatDoor
open Go.RowKit Go.Lib
theorem Lb (b:Nat)(X:Px)(k:Nat)(f:Fl)(vn:Value)(ns:List ByteArray)(op:Nat)(w:World)(h:PS w b X (k+1) f vn ns 32)(hX:X.Good)(hk:k+1<=X.R.length):
 Calls Tryz.prog 109 #[.pointer (some ⟨b,0,none⟩),.int .i64 (k:Nat)] w fun e w'=>U5 b X vn op (fun _=>False) w (.error (21,k)) e w':=by
 have TA:=b6 (((tZ w).alloc (.cells j4.zero.arr 28)).mono (S':=fun g=>g=b) nE)
 have QB:=b6 (e8 w j4.zero.arr 28)
 have HP:=b6 (h.new ((tZ w).alloc (.cells j4.zero.arr 28)))
 have hlt:=h.lt
 have hk2:k+1<=1024:=by have:=hX.lenR;omega
 have KW:=b6 (fun w' hp=>A1 b X (k+1) f vn ns 32 21 k w' hp (by have:=hX.lenP;omega))
 clear h
 go_enter Tryz.func109,Tryz.ntmps109
 go_upto_region 1 with fail
 unfold j4.zero j4.arr at TA QB HP
 generalize w.alloc (.cells _ 28)=w1 at*
 obtain⟨q,hq⟩:∃q,q=w.heap.size:=⟨_,rfl⟩
 have HQ:=b6 (show w.heap.size<=q/\b<q by omega)
 rw[<-hq]at QB⊢
 clear hq hlt
 have c11:=HP.out.c11
 go_wp2_with fail
 refine(KW.out _ HP.out).mono ?_
 rintro e w9 ⟨rfl,t9⟩
 replace TA:=b6 (TA.out.trans t9 nE)
 clear t9 KW
 go_wp2
 exact⟨rfl,rfl,TA.out.mono (fun _ _ e=>.inl e)⟩
theorem II (b:Nat)(X:Px)(k:Nat)(f:Fl)(vn:Value)(ns:List ByteArray)(op:Nat)(r:PR (Nd×St))(w:World)(h:PS w b X (k+1) f vn ns op)(hX:X.Good)(hk:k+1<=X.R.length)(hop:op<=31)(h63:g7 X.R (k+1)≠63)
 (KG:∀w',PS w' b X (k+1) f vn ns op->Calls Tryz.prog 127 #[.pointer (some ⟨b,0,none⟩),.int .i64 (k:Nat),.string ⟨#[]⟩] w' fun e w''=>J0 b X vn op (fun _=>False) w' r e w''):
 Calls Tryz.prog 109 #[.pointer (some ⟨b,0,none⟩),.int .i64 (k:Nat)] w fun e w'=>U5 b X vn op (fun _=>False) w (Ed r) e w':=by
 have TA:=b6 (((tZ w).alloc (.cells j4.zero.arr 28)).mono (S':=fun g=>g=b) nE)
 have QB:=b6 (e8 w j4.zero.arr 28)
 have HP:=b6 (h.new ((tZ w).alloc (.cells j4.zero.arr 28)))
 have hlt:=h.lt
 have hk2:k+1<=1024:=by have:=hX.lenR;omega
 have hopn:((op:Int)==32)=false:=beq_eq_false_iff_ne.2 (by omega)
 have KI:=b6 KG
 obtain⟨A,hA⟩:∃A,A=Ed r:=⟨_,rfl⟩
 rw[<-hA]
 have HA:=b6 hA
 clear KG hA
 clear h
 go_enter Tryz.func109,Tryz.ntmps109
 go_upto_region 1 with fail
 unfold j4.zero j4.arr at TA QB HP
 generalize w.alloc (.cells _ 28)=w1 at*
 obtain⟨q,hq⟩:∃q,q=w.heap.size:=⟨_,rfl⟩
 have HQ:=b6 (show w.heap.size<=q/\b<q by omega)
 rw[<-hq]at QB⊢
 clear hq hlt
 have c11:=HP.out.c11
 go_wp2_with fail
 refine(Ac 63 80 HP.out (by omega) (fun e=>h63 e.1)).mono ?_
 rintro e w2 ⟨rfl,hp,tt⟩
 replace QB:=b6 ((tt.block q (lt_of_block QB.out) (fun e=>by have:=HQ.out;omega)).trans QB.out)
 replace HP:=b6 hp
 replace TA:=b6 (TA.out.trans tt iE)
 clear hp tt
 go_wp2_with fail
 refine(Ac 63 58 HP.out (by omega) (fun e=>h63 e.1)).mono ?_
 rintro e w2b ⟨rfl,hp,tt⟩
 replace QB:=b6 ((tt.block q (lt_of_block QB.out) (fun e=>by have:=HQ.out;omega)).trans QB.out)
 replace HP:=b6 hp
 replace TA:=b6 (TA.out.trans tt iE)
 clear hp tt
 go_wp2_with fail
 refine(o6 63 HP.out (by omega) h63).mono ?_
 rintro e w2c ⟨rfl,hp,tt⟩
 replace QB:=b6 ((tt.block q (lt_of_block QB.out) (fun e=>by have:=HQ.out;omega)).trans QB.out)
 replace HP:=b6 hp
 replace TA:=b6 (TA.out.trans tt iE)
 clear hp tt
 clear c11
 have KE2:=b6 (KI.out _ HP.out)
 clear KI
 match r with
 | .error (ec,ej)=>
   unfold J0 u6 at KE2
   go_wp2_with fail
   refine KE2.out.mono ?_
   rintro e w3 ⟨rfl,tt⟩
   replace TA:=b6 ((TA.out.mono (S':=fun g=>g=b∨vn.ownBlock=some g) (fun _ _ e=>.inl e)).trans tt iE)
   clear tt KE2
   go_wp2
   refine⟨rfl,?_⟩
   rw[HA.out]
   exact⟨rfl,TA.out⟩
 | .ok (x,st)=>
   unfold J0 at KE2
   simp only at KE2
   go_wp2_with fail
   refine KE2.out.mono ?_
   rintro e w3 ⟨c,vn',rfl,ht,hp,hn,tt⟩
   have HT:=b6 ht
   have HN:=b6 (show vn'.ownBlock=vn.ownBlock∨∃g,vn'.ownBlock=some g/\w.heap.size<=g from by rcases hn with e|⟨g,e,hg⟩;exact .inl e;exact .inr ⟨g,e,Nat.le_trans TA.out.size hg⟩)
   have HNQ:=b6 (show ¬vn.ownBlock=some q from HP.out.notN QB.out (by decide))
   have HW2:=b6 (lt_of_block QB.out)
   replace QB:=b6 ((tt.block q (lt_of_block QB.out) (fun e=>by have:=HQ.out;rcases e with e|e;omega;exact HNQ.out e)).trans QB.out)
   have SZ:=b6 TA.out.size
   replace HP:=b6 hp
   have HTT:=b6 (TA.out.mono (S':=fun g=>g=b∨vn.ownBlock=some g) (fun _ _ e=>.inl e) |>.trans tt iE)
   clear ht hp hn tt KE2 TA
   obtain⟨ck,sa,sn,sc,fo,mi,ma,la,ca,nm,ka,kn,kc⟩:=c
   unfold j4.arr
   go_wp2_with (first|refine wpList_store_row rfl 28 _ _ rfl q _ rfl rfl 28 _ QB.out l7 (by rfl) (j4.one ⟨ck,sa,sn,sc,fo,mi,ma,la,ca,nm,ka,kn,kc⟩) ?_|fail)
   refine bodyPost_ret (l8 rfl _ _ q 28 _ (0,0) _ rfl (setRow_heap _ q _ _ 28 (0,0) QB.out) Tryz.underlying28 rfl (by kernel_rfl)) rfl ?_
   have TR:=g8 w3 q #[.int .i64 ck,.slice sa sn sc,.bool fo,.int .i64 mi,.int .i64 ma,.bool la,.int .i64 ca,.string nm,.slice ka kn kc]
   have HS3:=TR.size
   rw[HA.out]
   exact⟨⟨ck,sa,sn,sc,fo,mi,ma,la,ca,nm,ka,kn,kc⟩,vn',rfl,(HT.out.kept TR (fun g hg e=>by have:=HW2.out;have:=HQ.out;rcases hg with hg|hg;exact hg.elim;omega)).more (fun g hg=>.inr (by have:=SZ.out;rcases hg with hg|hg;exact hg.elim;omega)),HP.out.row (by have:=HQ.out;omega) QB.out,HN.out,HTT.out.trans TR (fun i hi e=>by have:=HQ.out;omega)⟩
theorem FU (b:Nat)(X:Px)(k:Nat)(f:Fl)(vn:Value)(ns:List ByteArray)(op:Nat)(ec ej:Nat)(w:World)(h:PS w b X (k+1) f vn ns op)(hX:X.Good)(hk:k+1<=X.R.length)(hop:op<=31)(h63:g7 X.R (k+1)=63)(h80:g7 X.R (k+2)=80)
 (KN:∀w',PS w' b X (k+3) f vn ns op->Calls Tryz.prog 128 #[.pointer (some ⟨b,0,none⟩),.int .i64 (k:Nat)] w' fun e w''=>PH b X f vn ns op w' (.error (ec,ej)) e w''):
 Calls Tryz.prog 109 #[.pointer (some ⟨b,0,none⟩),.int .i64 (k:Nat)] w fun e w'=>U5 b X vn op (fun _=>False) w (.error (ec,ej)) e w':=by
 have TA:=b6 (((tZ w).alloc (.cells j4.zero.arr 28)).mono (S':=fun g=>g=b) nE)
 have QB:=b6 (e8 w j4.zero.arr 28)
 have HP:=b6 (h.new ((tZ w).alloc (.cells j4.zero.arr 28)))
 have hlt:=h.lt
 have hk2:k+1<=1024:=by have:=hX.lenR;omega
 have hopn:((op:Int)==32)=false:=beq_eq_false_iff_ne.2 (by omega)
 have KI:=b6 KN
 clear KN
 clear h
 go_enter Tryz.func109,Tryz.ntmps109
 go_upto_region 1 with fail
 unfold j4.zero j4.arr at TA QB HP
 generalize w.alloc (.cells _ 28)=w1 at*
 obtain⟨q,hq⟩:∃q,q=w.heap.size:=⟨_,rfl⟩
 have HQ:=b6 (show w.heap.size<=q/\b<q by omega)
 rw[<-hq]at QB⊢
 clear hq hlt
 have c11:=HP.out.c11
 go_wp2_with fail
 refine(ED 63 80 HP.out (by omega) h63 h80).mono ?_
 rintro e w2 ⟨rfl,hp,tt⟩
 replace QB:=b6 ((tt.block q (lt_of_block QB.out) (fun e=>by have:=HQ.out;omega)).trans QB.out)
 replace HP:=b6 hp
 replace TA:=b6 (TA.out.trans tt iE)
 clear hp tt
 clear c11
 have KE2:=b6 (KI.out _ HP.out)
 clear KI
 unfold PH u6 at KE2
 go_wp2_with fail
 refine KE2.out.mono ?_
 rintro e w3 ⟨rfl,tt⟩
 replace TA:=b6 (TA.out.trans tt iE)
 clear tt KE2
 go_wp2
 exact⟨rfl,rfl,TA.out.mono (fun _ _ e=>.inl e)⟩
theorem La (b:Nat)(X:Px)(k:Nat)(f:Fl)(vn:Value)(ns:List ByteArray)(op:Nat)(name:ByteArray)(k1:Nat)(r:PR (Nd×St))(w:World)(h:PS w b X (k+1) f vn ns op)(hX:X.Good)(hk:k+1<=X.R.length)(hop:op<=31)(h63:g7 X.R (k+1)=63)(h80:g7 X.R (k+2)=80)
 (KN:∀w',PS w' b X (k+3) f vn ns op->Calls Tryz.prog 128 #[.pointer (some ⟨b,0,none⟩),.int .i64 (k:Nat)] w' fun e w''=>PH b X f vn ns op w' (.ok (name,k1)) e w'')
 (KG:∀w',PS w' b X k1 f vn ns op->Calls Tryz.prog 127 #[.pointer (some ⟨b,0,none⟩),.int .i64 (k:Nat),.string name] w' fun e w''=>J0 b X vn op (fun _=>False) w' r e w''):
 Calls Tryz.prog 109 #[.pointer (some ⟨b,0,none⟩),.int .i64 (k:Nat)] w fun e w'=>U5 b X vn op (fun _=>False) w (Ed r) e w':=by
 have TA:=b6 (((tZ w).alloc (.cells j4.zero.arr 28)).mono (S':=fun g=>g=b) nE)
 have QB:=b6 (e8 w j4.zero.arr 28)
 have HP:=b6 (h.new ((tZ w).alloc (.cells j4.zero.arr 28)))
 have hlt:=h.lt
 have hk2:k+1<=1024:=by have:=hX.lenR;omega
 have hopn:((op:Int)==32)=false:=beq_eq_false_iff_ne.2 (by omega)
 have KI:=b6 KG
 obtain⟨A,hA⟩:∃A,A=Ed r:=⟨_,rfl⟩
 rw[<-hA]
 have HA:=b6 hA
 have KJ:=b6 KN
 clear KG hA KN
 clear h
 go_enter Tryz.func109,Tryz.ntmps109
 go_upto_region 1 with fail
 unfold j4.zero j4.arr at TA QB HP
 generalize w.alloc (.cells _ 28)=w1 at*
 obtain⟨q,hq⟩:∃q,q=w.heap.size:=⟨_,rfl⟩
 have HQ:=b6 (show w.heap.size<=q/\b<q by omega)
 rw[<-hq]at QB⊢
 clear hq hlt
 have c11:=HP.out.c11
 go_wp2_with fail
 refine(ED 63 80 HP.out (by omega) h63 h80).mono ?_
 rintro e w2 ⟨rfl,hp,tt⟩
 replace QB:=b6 ((tt.block q (lt_of_block QB.out) (fun e=>by have:=HQ.out;omega)).trans QB.out)
 replace HP:=b6 hp
 replace TA:=b6 (TA.out.trans tt iE)
 clear hp tt
 clear c11
 have KJ2:=b6 (KJ.out _ HP.out)
 unfold PH at KJ2
 simp only at KJ2
 clear KJ
 go_wp2_with fail
 refine KJ2.out.mono ?_
 rintro e w2n ⟨rfl,hp,tt⟩
 replace QB:=b6 ((tt.block q (lt_of_block QB.out) (fun e=>by have:=HQ.out;omega)).trans QB.out)
 replace HP:=b6 hp
 replace TA:=b6 (TA.out.trans tt iE)
 clear hp tt KJ2
 have KE2:=b6 (KI.out _ HP.out)
 clear KI
 match r with
 | .error (ec,ej)=>
   unfold J0 u6 at KE2
   go_wp2_with fail
   refine KE2.out.mono ?_
   rintro e w3 ⟨rfl,tt⟩
   replace TA:=b6 ((TA.out.mono (S':=fun g=>g=b∨vn.ownBlock=some g) (fun _ _ e=>.inl e)).trans tt iE)
   clear tt KE2
   go_wp2
   refine⟨rfl,?_⟩
   rw[HA.out]
   exact⟨rfl,TA.out⟩
 | .ok (x,st)=>
   unfold J0 at KE2
   simp only at KE2
   go_wp2_with fail
   refine KE2.out.mono ?_
   rintro e w3 ⟨c,vn',rfl,ht,hp,hn,tt⟩
   have HT:=b6 ht
   have HN:=b6 (show vn'.ownBlock=vn.ownBlock∨∃g,vn'.ownBlock=some g/\w.heap.size<=g from by rcases hn with e|⟨g,e,hg⟩;exact .inl e;exact .inr ⟨g,e,Nat.le_trans TA.out.size hg⟩)
   have HNQ:=b6 (show ¬vn.ownBlock=some q from HP.out.notN QB.out (by decide))
   have HW2:=b6 (lt_of_block QB.out)
   replace QB:=b6 ((tt.block q (lt_of_block QB.out) (fun e=>by have:=HQ.out;rcases e with e|e;omega;exact HNQ.out e)).trans QB.out)
   have SZ:=b6 TA.out.size
   replace HP:=b6 hp
   have HTT:=b6 (TA.out.mono (S':=fun g=>g=b∨vn.ownBlock=some g) (fun _ _ e=>.inl e) |>.trans tt iE)
   clear ht hp hn tt KE2 TA
   obtain⟨ck,sa,sn,sc,fo,mi,ma,la,ca,nm,ka,kn,kc⟩:=c
   unfold j4.arr
   go_wp2_with (first|refine wpList_store_row rfl 28 _ _ rfl q _ rfl rfl 28 _ QB.out l7 (by rfl) (j4.one ⟨ck,sa,sn,sc,fo,mi,ma,la,ca,nm,ka,kn,kc⟩) ?_|fail)
   refine bodyPost_ret (l8 rfl _ _ q 28 _ (0,0) _ rfl (setRow_heap _ q _ _ 28 (0,0) QB.out) Tryz.underlying28 rfl (by kernel_rfl)) rfl ?_
   have TR:=g8 w3 q #[.int .i64 ck,.slice sa sn sc,.bool fo,.int .i64 mi,.int .i64 ma,.bool la,.int .i64 ca,.string nm,.slice ka kn kc]
   have HS3:=TR.size
   rw[HA.out]
   exact⟨⟨ck,sa,sn,sc,fo,mi,ma,la,ca,nm,ka,kn,kc⟩,vn',rfl,(HT.out.kept TR (fun g hg e=>by have:=HW2.out;have:=HQ.out;rcases hg with hg|hg;exact hg.elim;omega)).more (fun g hg=>.inr (by have:=SZ.out;rcases hg with hg|hg;exact hg.elim;omega)),HP.out.row (by have:=HQ.out;omega) QB.out,HN.out,HTT.out.trans TR (fun i hi e=>by have:=HQ.out;omega)⟩
theorem Lc (b:Nat)(X:Px)(k:Nat)(f:Fl)(vn:Value)(ns:List ByteArray)(op:Nat)(r:PR (Nd×St))(w:World)(h:PS w b X (k+1) f vn ns op)(hX:X.Good)(hk:k+1<=X.R.length)(hop:op<=31)(h63:g7 X.R (k+1)=63)(h58:g7 X.R (k+2)=58)
 (KG:∀w',PS w' b X (k+3) f vn ns op->Calls Tryz.prog 129 #[.pointer (some ⟨b,0,none⟩),.int .i64 (k:Nat),.agg f.arr] w' fun e w''=>J0 b X vn op (fun _=>False) w' r e w''):
 Calls Tryz.prog 109 #[.pointer (some ⟨b,0,none⟩),.int .i64 (k:Nat)] w fun e w'=>U5 b X vn op (fun _=>False) w (Ed r) e w':=by
 have TA:=b6 (((tZ w).alloc (.cells j4.zero.arr 28)).mono (S':=fun g=>g=b) nE)
 have QB:=b6 (e8 w j4.zero.arr 28)
 have HP:=b6 (h.new ((tZ w).alloc (.cells j4.zero.arr 28)))
 have hlt:=h.lt
 have hk2:k+1<=1024:=by have:=hX.lenR;omega
 have hopn:((op:Int)==32)=false:=beq_eq_false_iff_ne.2 (by omega)
 have KI:=b6 KG
 obtain⟨A,hA⟩:∃A,A=Ed r:=⟨_,rfl⟩
 rw[<-hA]
 have HA:=b6 hA
 clear KG hA
 clear h
 go_enter Tryz.func109,Tryz.ntmps109
 go_upto_region 1 with fail
 unfold j4.zero j4.arr at TA QB HP
 generalize w.alloc (.cells _ 28)=w1 at*
 obtain⟨q,hq⟩:∃q,q=w.heap.size:=⟨_,rfl⟩
 have HQ:=b6 (show w.heap.size<=q/\b<q by omega)
 rw[<-hq]at QB⊢
 clear hq hlt
 have c11:=HP.out.c11
 go_wp2_with fail
 refine(Ac 63 80 HP.out (by omega) (fun e=>by have:=e.2;rw[show k+1+1=k+2 from rfl,h58]at this;exact absurd this (by decide))).mono ?_
 rintro e w2 ⟨rfl,hp,tt⟩
 replace QB:=b6 ((tt.block q (lt_of_block QB.out) (fun e=>by have:=HQ.out;omega)).trans QB.out)
 replace HP:=b6 hp
 replace TA:=b6 (TA.out.trans tt iE)
 clear hp tt
 go_wp2_with fail
 refine(ED 63 58 HP.out (by omega) h63 h58).mono ?_
 rintro e w2b ⟨rfl,hp,tt⟩
 replace QB:=b6 ((tt.block q (lt_of_block QB.out) (fun e=>by have:=HQ.out;omega)).trans QB.out)
 replace HP:=b6 hp
 replace TA:=b6 (TA.out.trans tt iE)
 clear hp tt
 clear c11
 have KE2:=b6 (KI.out _ HP.out)
 clear KI
 obtain⟨⟨c6,c7,c8,c9⟩,f6,f7,f8,f9⟩:=HP.out.c69
 clear f6 f7 f8 f9
 unfold Fl.arr at KE2
 generalize f.i=fi at*
 generalize f.m=fm at*
 generalize f.s=fs at*
 generalize f.u=fu at*
 match r with
 | .error (ec,ej)=>
   unfold J0 u6 at KE2
   go_wp2_with fail
   refine KE2.out.mono ?_
   rintro e w3 ⟨rfl,tt⟩
   replace TA:=b6 ((TA.out.mono (S':=fun g=>g=b∨vn.ownBlock=some g) (fun _ _ e=>.inl e)).trans tt iE)
   clear tt KE2
   go_wp2
   refine⟨rfl,?_⟩
   rw[HA.out]
   exact⟨rfl,TA.out⟩
 | .ok (x,st)=>
   unfold J0 at KE2
   simp only at KE2
   go_wp2_with fail
   refine KE2.out.mono ?_
   rintro e w3 ⟨c,vn',rfl,ht,hp,hn,tt⟩
   have HT:=b6 ht
   have HN:=b6 (show vn'.ownBlock=vn.ownBlock∨∃g,vn'.ownBlock=some g/\w.heap.size<=g from by rcases hn with e|⟨g,e,hg⟩;exact .inl e;exact .inr ⟨g,e,Nat.le_trans TA.out.size hg⟩)
   have HNQ:=b6 (show ¬vn.ownBlock=some q from HP.out.notN QB.out (by decide))
   have HW2:=b6 (lt_of_block QB.out)
   replace QB:=b6 ((tt.block q (lt_of_block QB.out) (fun e=>by have:=HQ.out;rcases e with e|e;omega;exact HNQ.out e)).trans QB.out)
   have SZ:=b6 TA.out.size
   replace HP:=b6 hp
   have HTT:=b6 (TA.out.mono (S':=fun g=>g=b∨vn.ownBlock=some g) (fun _ _ e=>.inl e) |>.trans tt iE)
   clear ht hp hn tt KE2 TA c6 c7 c8 c9
   obtain⟨ck,sa,sn,sc,fo,mi,ma,la,ca,nm,ka,kn,kc⟩:=c
   unfold j4.arr
   go_wp2_with (first|refine wpList_store_row rfl 28 _ _ rfl q _ rfl rfl 28 _ QB.out l7 (by rfl) (j4.one ⟨ck,sa,sn,sc,fo,mi,ma,la,ca,nm,ka,kn,kc⟩) ?_|fail)
   refine bodyPost_ret (l8 rfl _ _ q 28 _ (0,0) _ rfl (setRow_heap _ q _ _ 28 (0,0) QB.out) Tryz.underlying28 rfl (by kernel_rfl)) rfl ?_
   have TR:=g8 w3 q #[.int .i64 ck,.slice sa sn sc,.bool fo,.int .i64 mi,.int .i64 ma,.bool la,.int .i64 ca,.string nm,.slice ka kn kc]
   have HS3:=TR.size
   rw[HA.out]
   exact⟨⟨ck,sa,sn,sc,fo,mi,ma,la,ca,nm,ka,kn,kc⟩,vn',rfl,(HT.out.kept TR (fun g hg e=>by have:=HW2.out;have:=HQ.out;rcases hg with hg|hg;exact hg.elim;omega)).more (fun g hg=>.inr (by have:=SZ.out;rcases hg with hg|hg;exact hg.elim;omega)),HP.out.row (by have:=HQ.out;omega) QB.out,HN.out,HTT.out.trans TR (fun i hi e=>by have:=HQ.out;omega)⟩
theorem IG (b:Nat)(X:Px)(k:Nat)(f:Fl)(vn:Value)(ns:List ByteArray)(op:Nat)(A:PR (Option Nd×St))(w:World)(h:PS w b X (k+1) f vn ns op)(hX:X.Good)(hk:k+1<=X.R.length)(hop:op<=31)(h63:g7 X.R (k+1)=63)(h80:g7 X.R (k+2)≠80)(h58:g7 X.R (k+2)≠58)
 (KF:∀w',PS w' b X (k+2) f vn ns op->Calls Tryz.prog 130 #[.pointer (some ⟨b,0,none⟩),.int .i64 (k:Nat)] w' fun e w''=>U5 b X vn op (fun _=>False) w' A e w''):
 Calls Tryz.prog 109 #[.pointer (some ⟨b,0,none⟩),.int .i64 (k:Nat)] w fun e w'=>U5 b X vn op (fun _=>False) w A e w':=by
 have TA:=b6 (((tZ w).alloc (.cells j4.zero.arr 28)).mono (S':=fun g=>g=b) nE)
 have QB:=b6 (e8 w j4.zero.arr 28)
 have HP:=b6 (h.new ((tZ w).alloc (.cells j4.zero.arr 28)))
 have hlt:=h.lt
 have hk2:k+1<=1024:=by have:=hX.lenR;omega
 have hopn:((op:Int)==32)=false:=beq_eq_false_iff_ne.2 (by omega)
 have KI:=b6 KF
 obtain⟨M,hA⟩:∃M,M=A:=⟨_,rfl⟩
 have HA:=b6 hA
 rw[<-hA]at KI
 clear KF hA
 clear h
 go_enter Tryz.func109,Tryz.ntmps109
 go_upto_region 1 with fail
 unfold j4.zero j4.arr at TA QB HP
 generalize w.alloc (.cells _ 28)=w1 at*
 obtain⟨q,hq⟩:∃q,q=w.heap.size:=⟨_,rfl⟩
 have HQ:=b6 (show w.heap.size<=q/\b<q by omega)
 rw[<-hq]at QB⊢
 clear hq hlt
 have c11:=HP.out.c11
 go_wp2_with fail
 refine(Ac 63 80 HP.out (by omega) (fun e=>h80 e.2)).mono ?_
 rintro e w2 ⟨rfl,hp,tt⟩
 replace QB:=b6 ((tt.block q (lt_of_block QB.out) (fun e=>by have:=HQ.out;omega)).trans QB.out)
 replace HP:=b6 hp
 replace TA:=b6 (TA.out.trans tt iE)
 clear hp tt
 go_wp2_with fail
 refine(Ac 63 58 HP.out (by omega) (fun e=>h58 e.2)).mono ?_
 rintro e w2b ⟨rfl,hp,tt⟩
 replace QB:=b6 ((tt.block q (lt_of_block QB.out) (fun e=>by have:=HQ.out;omega)).trans QB.out)
 replace HP:=b6 hp
 replace TA:=b6 (TA.out.trans tt iE)
 clear hp tt
 go_wp2_with fail
 refine(o7 63 HP.out (by omega) h63).mono ?_
 rintro e w2c ⟨rfl,hp,tt⟩
 replace QB:=b6 ((tt.block q (lt_of_block QB.out) (fun e=>by have:=HQ.out;omega)).trans QB.out)
 replace HP:=b6 hp
 replace TA:=b6 (TA.out.trans tt iE)
 clear hp tt
 clear c11
 have KE2:=b6 (KI.out _ HP.out)
 clear KI
 match M with
 | .error (ec,ej)=>
   unfold U5 u6 at KE2
   go_wp2_with fail
   refine KE2.out.mono ?_
   rintro e w3 ⟨rfl,tt⟩
   replace TA:=b6 ((TA.out.mono (S':=fun g=>g=b∨vn.ownBlock=some g) (fun _ _ e=>.inl e)).trans tt iE)
   clear tt KE2
   go_wp2
   refine⟨rfl,?_⟩
   rw[<-HA.out]
   exact⟨rfl,TA.out⟩
 | .ok (none,st)=>
   unfold U5 at KE2
   simp only at KE2
   go_wp2_with fail
   refine KE2.out.mono ?_
   rintro e w3 ⟨c,vn',rfl,hp,hn,tt⟩
   have HN:=b6 (show vn'.ownBlock=vn.ownBlock∨∃g,vn'.ownBlock=some g/\w.heap.size<=g from by rcases hn with e|⟨g,e,hg⟩;exact .inl e;exact .inr ⟨g,e,Nat.le_trans TA.out.size hg⟩)
   have HNQ:=b6 (show ¬vn.ownBlock=some q from HP.out.notN QB.out (by decide))
   have HW2:=b6 (lt_of_block QB.out)
   replace QB:=b6 ((tt.block q (lt_of_block QB.out) (fun e=>by have:=HQ.out;rcases e with e|e;omega;exact HNQ.out e)).trans QB.out)
   have SZ:=b6 TA.out.size
   replace HP:=b6 hp
   have HTT:=b6 (TA.out.mono (S':=fun g=>g=b∨vn.ownBlock=some g) (fun _ _ e=>.inl e) |>.trans tt iE)
   clear hp hn tt KE2 TA
   obtain⟨ck,sa,sn,sc,fo,mi,ma,la,ca,nm,ka,kn,kc⟩:=c
   unfold j4.arr
   go_wp2_with (first|refine wpList_store_row rfl 28 _ _ rfl q _ rfl rfl 28 _ QB.out l7 (by rfl) (j4.one ⟨ck,sa,sn,sc,fo,mi,ma,la,ca,nm,ka,kn,kc⟩) ?_|fail)
   refine bodyPost_ret (l8 rfl _ _ q 28 _ (0,0) _ rfl (setRow_heap _ q _ _ 28 (0,0) QB.out) Tryz.underlying28 rfl (by kernel_rfl)) rfl ?_
   have TR:=g8 w3 q #[.int .i64 ck,.slice sa sn sc,.bool fo,.int .i64 mi,.int .i64 ma,.bool la,.int .i64 ca,.string nm,.slice ka kn kc]
   have HS3:=TR.size
   rw[<-HA.out]
   exact⟨⟨ck,sa,sn,sc,fo,mi,ma,la,ca,nm,ka,kn,kc⟩,vn',rfl,HP.out.row (by have:=HQ.out;omega) QB.out,HN.out,HTT.out.trans TR (fun i hi e=>by have:=HQ.out;omega)⟩
 | .ok (some x,st)=>
   unfold U5 at KE2
   simp only at KE2
   go_wp2_with fail
   refine KE2.out.mono ?_
   rintro e w3 ⟨c,vn',rfl,ht,hp,hn,tt⟩
   have HT:=b6 ht
   have HN:=b6 (show vn'.ownBlock=vn.ownBlock∨∃g,vn'.ownBlock=some g/\w.heap.size<=g from by rcases hn with e|⟨g,e,hg⟩;exact .inl e;exact .inr ⟨g,e,Nat.le_trans TA.out.size hg⟩)
   have HNQ:=b6 (show ¬vn.ownBlock=some q from HP.out.notN QB.out (by decide))
   have HW2:=b6 (lt_of_block QB.out)
   replace QB:=b6 ((tt.block q (lt_of_block QB.out) (fun e=>by have:=HQ.out;rcases e with e|e;omega;exact HNQ.out e)).trans QB.out)
   have SZ:=b6 TA.out.size
   replace HP:=b6 hp
   have HTT:=b6 (TA.out.mono (S':=fun g=>g=b∨vn.ownBlock=some g) (fun _ _ e=>.inl e) |>.trans tt iE)
   clear ht hp hn tt KE2 TA
   obtain⟨ck,sa,sn,sc,fo,mi,ma,la,ca,nm,ka,kn,kc⟩:=c
   unfold j4.arr
   go_wp2_with (first|refine wpList_store_row rfl 28 _ _ rfl q _ rfl rfl 28 _ QB.out l7 (by rfl) (j4.one ⟨ck,sa,sn,sc,fo,mi,ma,la,ca,nm,ka,kn,kc⟩) ?_|fail)
   refine bodyPost_ret (l8 rfl _ _ q 28 _ (0,0) _ rfl (setRow_heap _ q _ _ 28 (0,0) QB.out) Tryz.underlying28 rfl (by kernel_rfl)) rfl ?_
   have TR:=g8 w3 q #[.int .i64 ck,.slice sa sn sc,.bool fo,.int .i64 mi,.int .i64 ma,.bool la,.int .i64 ca,.string nm,.slice ka kn kc]
   have HS3:=TR.size
   rw[<-HA.out]
   exact⟨⟨ck,sa,sn,sc,fo,mi,ma,la,ca,nm,ka,kn,kc⟩,vn',rfl,(HT.out.kept TR (fun g hg e=>by have:=HW2.out;have:=HQ.out;rcases hg with hg|hg;exact hg.elim;omega)).more (fun g hg=>.inr (by have:=SZ.out;rcases hg with hg|hg;exact hg.elim;omega)),HP.out.row (by have:=HQ.out;omega) QB.out,HN.out,HTT.out.trans TR (fun i hi e=>by have:=HQ.out;omega)⟩
def MH (R:List Int)(alt:A8)(st:St):PR (Option Nd×St):=
 let g:=x9 R st.f (st.k+2)
 if g.2.1=true/\g7 R g.2.2=58 then match D8 R alt st.k {st with k:=g.2.2+1} g.1 with
  | .error e=>.error e
  | .ok (x,s1)=>.ok (some x,s1)
 else if g.2.1=true/\g7 R g.2.2=41 then .ok (none,⟨g.2.2+1,g.1,st.ns⟩)
 else .error (20,st.k)
def Ur (b:Nat)(X:Px)(op:Nat)(alt:A8):Prop:=∀(w:World) (k:Nat) (f:Fl) (vn:Value) (ns:List ByteArray),PS w b X (k+2) f vn ns op->k+2<=X.R.length->ns.length<=k+1->
 Calls Tryz.prog 130 #[.pointer (some ⟨b,0,none⟩),.int .i64 (k:Nat)] w fun e w'=>U5 b X vn op (fun _=>False) w (MH X.R alt ⟨k,f,ns⟩) e w'
theorem NF (b:Nat)(X:Px)(k:Nat)(f:Fl)(vn:Value)(ns:List ByteArray)(op:Nat)(alt:A8)(w:World)(h:PS w b X (k+1) f vn ns op)(hX:X.Good)(hk:k+1<=X.R.length)(hop:op<=31)(hN:ns.length<=k+1)(hF:Ah X.R alt)(hs:Ny b X (op+1) alt)(KF:Ur b X op alt):
 Calls Tryz.prog 109 #[.pointer (some ⟨b,0,none⟩),.int .i64 (k:Nat)] w fun e w'=>U5 b X vn op (fun _=>False) w (p7 X.R (some alt) ⟨k,f,ns⟩) e w':=by
 have hRl:=hX.lenR
 by_cases h63:g7 X.R (k+1)=63
 ·have hk2:k+2<=X.R.length:=j9 h63 (by decide)
  by_cases h80:g7 X.R (k+2)=80
  ·have hk3:k+3<=X.R.length:=j9 h80 (by decide)
   have KN:=fun w' hp=>Re b X k (k+3) f vn ns op w' hp hX hk3 (by omega) (by omega)
   cases hn:W3 X.R k ns (k+3)with
   |error e=>
    obtain⟨ec,ej⟩:=e
    rw[hn]at KN
    have e:p7 X.R (some alt) ⟨k,f,ns⟩=.error (ec,ej):=by simp only[p7,if_pos h63,if_pos h80,hn]
    rw[e]
    exact FU b X k f vn ns op ec ej w h hX hk hop h63 h80 KN
   |ok p=>
    obtain⟨name,k1⟩:=p
    rw[hn]at KN
    have hk1:=Ak hn
    have e:p7 X.R (some alt) ⟨k,f,ns⟩=Ed (G5 X.R alt k ⟨k1,f,ns⟩ name):=by
     simp only[p7,if_pos h63,if_pos h80,hn]
     cases G5 X.R alt k ⟨k1,f,ns⟩ name<;>rfl
    rw[e]
    exact La b X k f vn ns op name k1 _ w h hX hk hop h63 h80 KN (fun w' hp=>Gr b X k k1 f vn ns op name alt w' hp hX (by omega) (by omega) hop (by omega) hF hs)
  ·by_cases h58:g7 X.R (k+2)=58
   ·have hk3:k+3<=X.R.length:=j9 h58 (by decide)
    have e:p7 X.R (some alt) ⟨k,f,ns⟩=Ed (D8 X.R alt k ⟨k+3,f,ns⟩ f):=by
     simp only[p7,if_pos h63,if_neg h80,if_pos h58]
     cases D8 X.R alt k ⟨k+3,f,ns⟩ f<;>rfl
    rw[e]
    exact Lc b X k f vn ns op _ w h hX hk hop h63 h58 (fun w' hp=>Cw b X k (k+3) f f vn ns op alt w' hp hX hk3 (by omega) hop (by omega) hF hs)
   ·have e:p7 X.R (some alt) ⟨k,f,ns⟩=MH X.R alt ⟨k,f,ns⟩:=by
     simp only[p7,MH,if_pos h63,if_neg h80,if_neg h58]
     cases D8 X.R alt k ⟨(x9 X.R f (k+2)).2.2+1,f,ns⟩ (x9 X.R f (k+2)).1<;>rfl
    rw[e]
    exact IG b X k f vn ns op _ w h hX hk hop h63 h80 h58 (fun w' hp=>KF w' k f vn ns hp hk2 hN)
 ·have e:p7 X.R (some alt) ⟨k,f,ns⟩=Ed (G5 X.R alt k ⟨k+1,f,ns⟩ ⟨#[]⟩):=by
   simp only[p7,if_neg h63]
   cases G5 X.R alt k ⟨k+1,f,ns⟩ ⟨#[]⟩<;>rfl
  rw[e]
  exact II b X k f vn ns op _ w h hX hk hop h63 (fun w' hp=>Gr b X k (k+1) f vn ns op ⟨#[]⟩ alt w' hp hX hk (by omega) hop hN hF hs)
end Go.Proofs.YtdhhcefmmojcmaaGreatDoor
