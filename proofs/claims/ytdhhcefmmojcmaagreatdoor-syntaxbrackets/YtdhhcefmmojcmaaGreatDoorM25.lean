/- Texts of this proof, one behind the other. -/
import Derived.Test.YtdhhcefmmojcmaaGreatDoorM24
set_option maxRecDepth 100000
set_option maxHeartbeats 0
set_option linter.unusedVariables false
namespace Go.Proofs.YtdhhcefmmojcmaaGreatDoor
open Go.RowKit Go.Lib
theorem QG (b:Nat)(X:Px)(k:Nat)(f:Fl)(vn:Value)(ns:List ByteArray)(op:Nat)(g:Fl)(k1:Nat)(w:World)(h:PS w b X (k+2) f vn ns op)(hX:X.Good)(hk:k+2<=X.R.length)(hk1:k1<=X.R.length)
 (KL:∀w',PS w' b X (k+2) f vn ns op->Calls Tryz.prog 140 #[.pointer (some ⟨b,0,none⟩)] w' fun e w''=>e=.returned (.tuple #[.agg g.arr,.bool false])/\PS w'' b X k1 f vn ns op/\b7 (fun g=>g=b) w' w''):
 Calls Tryz.prog 130 #[.pointer (some ⟨b,0,none⟩),.int .i64 (k:Nat)] w fun e w'=>U5 b X vn op (fun _=>False) w (.error (20,k)) e w':=by
 have TA:=b6 (((tZ w).alloc (.cells j4.zero.arr 28)).mono (S':=fun g=>g=b) nE)
 have QB:=b6 (e8 w j4.zero.arr 28)
 have HP:=b6 (h.new ((tZ w).alloc (.cells j4.zero.arr 28)))
 have hlt:=h.lt
 have hk2:k+2<=1024:=by have:=hX.lenR;omega
 have KW:=b6 (fun k1 w' hp=>A1 b X k1 f vn ns op 20 k w' hp (by have:=hX.lenP;omega))
 have hk4:k1<=1024:=by have:=hX.lenR;omega
 obtain⟨gi,gm,gs,gu⟩:=g
 have KI:=b6 KL
 clear KL
 clear h
 go_enter Tryz.func130,Tryz.ntmps130
 go_upto_region 1 with fail
 unfold j4.zero j4.arr at TA QB HP
 generalize w.alloc (.cells _ 28)=w1 at*
 obtain⟨q,hq⟩:∃q,q=w.heap.size:=⟨_,rfl⟩
 have HQ:=b6 (show w.heap.size<=q/\b<q by omega)
 rw[<-hq]at QB⊢
 clear hq hlt
 go_wp2_with fail
 refine(KI.out _ HP.out).mono ?_
 rintro e w2 ⟨he,hp,tt⟩
 change e=.returned (.tuple #[.agg #[.bool gi,.bool gm,.bool gs,.bool gu],.bool false])at he
 subst he
 replace QB:=b6 ((tt.block q (lt_of_block QB.out) (fun e=>by have:=HQ.out;omega)).trans QB.out)
 replace HP:=b6 hp
 replace TA:=b6 (TA.out.trans tt iE)
 clear hp tt KI
 go_upto_region 2 with(first|refine wpList_store_row rfl 38 _ _ rfl w2.heap.size _ rfl rfl 38 _ (e8 w2 _ 38) F0 (by rfl) (Fl.one ⟨gi,gm,gs,gu⟩) ?_|fail)
 have TB:=b6 (((tZ w2).alloc (.cells #[.bool false,.bool false,.bool false,.bool false] 38)).trans (g8 (w2.alloc (.cells #[.bool false,.bool false,.bool false,.bool false] 38)) w2.heap.size #[.bool gi,.bool gm,.bool gs,.bool gu]) (fun i hi e=>by omega))
 have RA:=b6 (setRow_heap (w2.alloc (.cells #[.bool false,.bool false,.bool false,.bool false] 38)) w2.heap.size _ #[.bool gi,.bool gm,.bool gs,.bool gu] 38 (0,0) (e8 w2 _ 38))
 obtain⟨q6,hq6⟩:∃q,q=w2.heap.size:=⟨_,rfl⟩
 have HQ6:=b6 (show q<q6 from by rw[hq6];exact lt_of_block QB.out)
 rw[<-hq6]at RA TB⊢
 generalize (w2.alloc (.cells #[.bool false,.bool false,.bool false,.bool false] 38)).setRow q6 #[.bool gi,.bool gm,.bool gs,.bool gu]=w3 at*
 replace QB:=b6 ((TB.out.block q (lt_of_block QB.out) id).trans QB.out)
 replace HP:=b6 (HP.out.new TB.out)
 replace TA:=b6 (TA.out.trans TB.out nE)
 clear TB hq6
 go_wp2_with fail
 refine(KW.out _ _ HP.out).mono ?_
 rintro e w9 ⟨rfl,t9⟩
 replace TA:=b6 (TA.out.trans t9 nE)
 clear t9 KW
 go_wp2
 exact⟨rfl,rfl,TA.out.mono (fun _ _ e=>.inl e)⟩
theorem LC (b:Nat)(X:Px)(k:Nat)(f:Fl)(vn:Value)(ns:List ByteArray)(op:Nat)(g:Fl)(k1:Nat)(h58:g7 X.R k1≠58)(h41:g7 X.R k1≠41)(w:World)(h:PS w b X (k+2) f vn ns op)(hX:X.Good)(hk:k+2<=X.R.length)(hk1:k1<=X.R.length)
 (KL:∀w',PS w' b X (k+2) f vn ns op->Calls Tryz.prog 140 #[.pointer (some ⟨b,0,none⟩)] w' fun e w''=>e=.returned (.tuple #[.agg g.arr,.bool true])/\PS w'' b X k1 f vn ns op/\b7 (fun g=>g=b) w' w''):
 Calls Tryz.prog 130 #[.pointer (some ⟨b,0,none⟩),.int .i64 (k:Nat)] w fun e w'=>U5 b X vn op (fun _=>False) w (.error (20,k)) e w':=by
 have TA:=b6 (((tZ w).alloc (.cells j4.zero.arr 28)).mono (S':=fun g=>g=b) nE)
 have QB:=b6 (e8 w j4.zero.arr 28)
 have HP:=b6 (h.new ((tZ w).alloc (.cells j4.zero.arr 28)))
 have hlt:=h.lt
 have hk2:k+2<=1024:=by have:=hX.lenR;omega
 have KW:=b6 (fun k1 w' hp=>A1 b X k1 f vn ns op 20 k w' hp (by have:=hX.lenP;omega))
 have hk4:k1<=1024:=by have:=hX.lenR;omega
 obtain⟨gi,gm,gs,gu⟩:=g
 have KI:=b6 KL
 clear KL
 clear h
 go_enter Tryz.func130,Tryz.ntmps130
 go_upto_region 1 with fail
 unfold j4.zero j4.arr at TA QB HP
 generalize w.alloc (.cells _ 28)=w1 at*
 obtain⟨q,hq⟩:∃q,q=w.heap.size:=⟨_,rfl⟩
 have HQ:=b6 (show w.heap.size<=q/\b<q by omega)
 rw[<-hq]at QB⊢
 clear hq hlt
 go_wp2_with fail
 refine(KI.out _ HP.out).mono ?_
 rintro e w2 ⟨he,hp,tt⟩
 change e=.returned (.tuple #[.agg #[.bool gi,.bool gm,.bool gs,.bool gu],.bool true])at he
 subst he
 replace QB:=b6 ((tt.block q (lt_of_block QB.out) (fun e=>by have:=HQ.out;omega)).trans QB.out)
 replace HP:=b6 hp
 replace TA:=b6 (TA.out.trans tt iE)
 clear hp tt KI
 go_upto_region 2 with(first|refine wpList_store_row rfl 38 _ _ rfl w2.heap.size _ rfl rfl 38 _ (e8 w2 _ 38) F0 (by rfl) (Fl.one ⟨gi,gm,gs,gu⟩) ?_|fail)
 have TB:=b6 (((tZ w2).alloc (.cells #[.bool false,.bool false,.bool false,.bool false] 38)).trans (g8 (w2.alloc (.cells #[.bool false,.bool false,.bool false,.bool false] 38)) w2.heap.size #[.bool gi,.bool gm,.bool gs,.bool gu]) (fun i hi e=>by omega))
 have RA:=b6 (setRow_heap (w2.alloc (.cells #[.bool false,.bool false,.bool false,.bool false] 38)) w2.heap.size _ #[.bool gi,.bool gm,.bool gs,.bool gu] 38 (0,0) (e8 w2 _ 38))
 obtain⟨q6,hq6⟩:∃q,q=w2.heap.size:=⟨_,rfl⟩
 have HQ6:=b6 (show q<q6 from by rw[hq6];exact lt_of_block QB.out)
 rw[<-hq6]at RA TB⊢
 generalize (w2.alloc (.cells #[.bool false,.bool false,.bool false,.bool false] 38)).setRow q6 #[.bool gi,.bool gm,.bool gs,.bool gu]=w3 at*
 replace QB:=b6 ((TB.out.block q (lt_of_block QB.out) id).trans QB.out)
 replace HP:=b6 (HP.out.new TB.out)
 replace TA:=b6 (TA.out.trans TB.out nE)
 clear TB hq6
 go_wp2_with fail
 refine(o6 58 HP.out (by omega) h58).mono ?_
 rintro e w4 ⟨rfl,hp,tt⟩
 replace QB:=b6 ((tt.block q (lt_of_block QB.out) (fun e=>by have:=HQ.out;omega)).trans QB.out)
 replace RA:=b6 ((tt.block q6 (lt_of_block RA.out) (fun e=>by have:=HQ.out;have:=HQ6.out;omega)).trans RA.out)
 replace HP:=b6 hp
 replace TA:=b6 (TA.out.trans tt iE)
 clear hp tt
 go_wp2_with fail
 refine(o6 41 HP.out (by omega) h41).mono ?_
 rintro e w5 ⟨rfl,hp,tt⟩
 replace QB:=b6 ((tt.block q (lt_of_block QB.out) (fun e=>by have:=HQ.out;omega)).trans QB.out)
 replace RA:=b6 ((tt.block q6 (lt_of_block RA.out) (fun e=>by have:=HQ.out;have:=HQ6.out;omega)).trans RA.out)
 replace HP:=b6 hp
 replace TA:=b6 (TA.out.trans tt iE)
 clear hp tt
 go_wp2_with fail
 refine(KW.out _ _ HP.out).mono ?_
 rintro e w9 ⟨rfl,t9⟩
 replace TA:=b6 (TA.out.trans t9 nE)
 clear t9 KW
 go_wp2
 exact⟨rfl,rfl,TA.out.mono (fun _ _ e=>.inl e)⟩
theorem LD (b:Nat)(X:Px)(k:Nat)(f:Fl)(vn:Value)(ns:List ByteArray)(op:Nat)(g:Fl)(k1:Nat)(r:PR (Nd×St))(h58:g7 X.R k1=58)(KG:∀w',PS w' b X (k1+1) f vn ns op->Calls Tryz.prog 129 #[.pointer (some ⟨b,0,none⟩),.int .i64 (k:Nat),.agg g.arr] w' fun e w''=>J0 b X vn op (fun _=>False) w' r e w'')(w:World)(h:PS w b X (k+2) f vn ns op)(hX:X.Good)(hk:k+2<=X.R.length)(hk1:k1<=X.R.length)
 (KL:∀w',PS w' b X (k+2) f vn ns op->Calls Tryz.prog 140 #[.pointer (some ⟨b,0,none⟩)] w' fun e w''=>e=.returned (.tuple #[.agg g.arr,.bool true])/\PS w'' b X k1 f vn ns op/\b7 (fun g=>g=b) w' w''):
 Calls Tryz.prog 130 #[.pointer (some ⟨b,0,none⟩),.int .i64 (k:Nat)] w fun e w'=>U5 b X vn op (fun _=>False) w (Ed r) e w':=by
 have TA:=b6 (((tZ w).alloc (.cells j4.zero.arr 28)).mono (S':=fun g=>g=b) nE)
 have QB:=b6 (e8 w j4.zero.arr 28)
 have HP:=b6 (h.new ((tZ w).alloc (.cells j4.zero.arr 28)))
 have hlt:=h.lt
 have hk2:k+2<=1024:=by have:=hX.lenR;omega
 have hk4:k1<=1024:=by have:=hX.lenR;omega
 have KJ:=b6 KG
 obtain⟨A,hA⟩:∃A,A=Ed r:=⟨_,rfl⟩
 rw[<-hA]
 have HA:=b6 hA
 clear KG hA
 obtain⟨gi,gm,gs,gu⟩:=g
 have KI:=b6 KL
 clear KL
 clear h
 go_enter Tryz.func130,Tryz.ntmps130
 go_upto_region 1 with fail
 unfold j4.zero j4.arr at TA QB HP
 generalize w.alloc (.cells _ 28)=w1 at*
 obtain⟨q,hq⟩:∃q,q=w.heap.size:=⟨_,rfl⟩
 have HQ:=b6 (show w.heap.size<=q/\b<q by omega)
 rw[<-hq]at QB⊢
 clear hq hlt
 go_wp2_with fail
 refine(KI.out _ HP.out).mono ?_
 rintro e w2 ⟨he,hp,tt⟩
 change e=.returned (.tuple #[.agg #[.bool gi,.bool gm,.bool gs,.bool gu],.bool true])at he
 subst he
 replace QB:=b6 ((tt.block q (lt_of_block QB.out) (fun e=>by have:=HQ.out;omega)).trans QB.out)
 replace HP:=b6 hp
 replace TA:=b6 (TA.out.trans tt iE)
 clear hp tt KI
 go_upto_region 2 with(first|refine wpList_store_row rfl 38 _ _ rfl w2.heap.size _ rfl rfl 38 _ (e8 w2 _ 38) F0 (by rfl) (Fl.one ⟨gi,gm,gs,gu⟩) ?_|fail)
 have TB:=b6 (((tZ w2).alloc (.cells #[.bool false,.bool false,.bool false,.bool false] 38)).trans (g8 (w2.alloc (.cells #[.bool false,.bool false,.bool false,.bool false] 38)) w2.heap.size #[.bool gi,.bool gm,.bool gs,.bool gu]) (fun i hi e=>by omega))
 have RA:=b6 (setRow_heap (w2.alloc (.cells #[.bool false,.bool false,.bool false,.bool false] 38)) w2.heap.size _ #[.bool gi,.bool gm,.bool gs,.bool gu] 38 (0,0) (e8 w2 _ 38))
 obtain⟨q6,hq6⟩:∃q,q=w2.heap.size:=⟨_,rfl⟩
 have HQ6:=b6 (show q<q6 from by rw[hq6];exact lt_of_block QB.out)
 rw[<-hq6]at RA TB⊢
 generalize (w2.alloc (.cells #[.bool false,.bool false,.bool false,.bool false] 38)).setRow q6 #[.bool gi,.bool gm,.bool gs,.bool gu]=w3 at*
 replace QB:=b6 ((TB.out.block q (lt_of_block QB.out) id).trans QB.out)
 replace HP:=b6 (HP.out.new TB.out)
 replace TA:=b6 (TA.out.trans TB.out nE)
 clear TB hq6
 go_wp2_with fail
 refine(o7 58 HP.out (by omega) h58).mono ?_
 rintro e w4 ⟨rfl,hp,tt⟩
 replace QB:=b6 ((tt.block q (lt_of_block QB.out) (fun e=>by have:=HQ.out;omega)).trans QB.out)
 replace RA:=b6 ((tt.block q6 (lt_of_block RA.out) (fun e=>by have:=HQ.out;have:=HQ6.out;omega)).trans RA.out)
 replace HP:=b6 hp
 replace TA:=b6 (TA.out.trans tt iE)
 clear hp tt
 have KE2:=b6 (KJ.out _ HP.out)
 change Hid (Calls Tryz.prog 129 #[.pointer (some ⟨b,0,none⟩),.int .i64 (k:Nat),.agg #[.bool gi,.bool gm,.bool gs,.bool gu]] _ _)at KE2
 clear KJ
 match r with
 | .error (ec,ej)=>
   unfold J0 u6 at KE2
   go_wp2_with (first|refine wpList_load_row rfl 38 _ rfl q6 rfl 38 _ (0,0) _ RA.out Tryz.underlying38 rfl F0 ?_|fail)
   refine KE2.out.mono ?_
   rintro e w3 ⟨rfl,tt⟩
   replace TA:=b6 ((TA.out.mono (S':=fun g=>g=b∨vn.ownBlock=some g) (fun _ _ e=>.inl e)).trans tt iE)
   clear tt KE2
   go_wp2
   refine⟨rfl,?_⟩
   rw[HA.out]
   exact⟨rfl,TA.out⟩
 | .ok (x,st)=>
   unfold J0 at KE2
   simp only at KE2
   go_wp2_with (first|refine wpList_load_row rfl 38 _ rfl q6 rfl 38 _ (0,0) _ RA.out Tryz.underlying38 rfl F0 ?_|fail)
   refine KE2.out.mono ?_
   rintro e w3 ⟨c,vn',rfl,ht,hp,hn,tt⟩
   have HT:=b6 ht
   have HN:=b6 (show vn'.ownBlock=vn.ownBlock∨∃g,vn'.ownBlock=some g/\w.heap.size<=g from by rcases hn with e|⟨g,e,hg⟩;exact .inl e;exact .inr ⟨g,e,Nat.le_trans TA.out.size hg⟩)
   have HNQ:=b6 (show ¬vn.ownBlock=some q from HP.out.notN QB.out (by decide))
   have HW2:=b6 (lt_of_block QB.out)
   replace QB:=b6 ((tt.block q (lt_of_block QB.out) (fun e=>by have:=HQ.out;rcases e with e|e;omega;exact HNQ.out e)).trans QB.out)
   have SZ:=b6 TA.out.size
   replace HP:=b6 hp
   have HTT:=b6 (TA.out.mono (S':=fun g=>g=b∨vn.ownBlock=some g) (fun _ _ e=>.inl e) |>.trans tt iE)
   clear ht hp hn tt KE2 TA
   obtain⟨ck,sa,sn,sc,fo,mi,ma,la,ca,nm,ka,kn,kc⟩:=c
   unfold j4.arr
   go_wp2_with (first|refine wpList_store_row rfl 28 _ _ rfl q _ rfl rfl 28 _ QB.out l7 (by rfl) (j4.one ⟨ck,sa,sn,sc,fo,mi,ma,la,ca,nm,ka,kn,kc⟩) ?_|fail)
   refine bodyPost_ret (l8 rfl _ _ q 28 _ (0,0) _ rfl (setRow_heap _ q _ _ 28 (0,0) QB.out) Tryz.underlying28 rfl (by kernel_rfl)) rfl ?_
   have TR:=g8 w3 q #[.int .i64 ck,.slice sa sn sc,.bool fo,.int .i64 mi,.int .i64 ma,.bool la,.int .i64 ca,.string nm,.slice ka kn kc]
   have HS3:=TR.size
   rw[HA.out]
   exact⟨⟨ck,sa,sn,sc,fo,mi,ma,la,ca,nm,ka,kn,kc⟩,vn',rfl,(HT.out.kept TR (fun g hg e=>by have:=HW2.out;have:=HQ.out;rcases hg with hg|hg;exact hg.elim;omega)).more (fun g hg=>.inr (by have:=SZ.out;rcases hg with hg|hg;exact hg.elim;omega)),HP.out.row (by have:=HQ.out;omega) QB.out,HN.out,HTT.out.trans TR (fun i hi e=>by have:=HQ.out;omega)⟩
theorem Og (b:Nat)(X:Px)(k:Nat)(f:Fl)(vn:Value)(ns:List ByteArray)(op:Nat)(g:Fl)(k1:Nat)(h58:g7 X.R k1≠58)(h41:g7 X.R k1=41)(w:World)(h:PS w b X (k+2) f vn ns op)(hX:X.Good)(hk:k+2<=X.R.length)(hk1:k1<=X.R.length)
 (KL:∀w',PS w' b X (k+2) f vn ns op->Calls Tryz.prog 140 #[.pointer (some ⟨b,0,none⟩)] w' fun e w''=>e=.returned (.tuple #[.agg g.arr,.bool true])/\PS w'' b X k1 f vn ns op/\b7 (fun g=>g=b) w' w''):
 Calls Tryz.prog 130 #[.pointer (some ⟨b,0,none⟩),.int .i64 (k:Nat)] w fun e w'=>U5 b X vn op (fun _=>False) w (.ok (none,⟨k1+1,g,ns⟩)) e w':=by
 have TA:=b6 (((tZ w).alloc (.cells j4.zero.arr 28)).mono (S':=fun g=>g=b) nE)
 have QB:=b6 (e8 w j4.zero.arr 28)
 have HP:=b6 (h.new ((tZ w).alloc (.cells j4.zero.arr 28)))
 have hlt:=h.lt
 have hk2:k+2<=1024:=by have:=hX.lenR;omega
 have hk4:k1<=1024:=by have:=hX.lenR;omega
 obtain⟨gi,gm,gs,gu⟩:=g
 have KI:=b6 KL
 clear KL
 clear h
 go_enter Tryz.func130,Tryz.ntmps130
 go_upto_region 1 with fail
 unfold j4.zero j4.arr at TA QB HP
 generalize w.alloc (.cells _ 28)=w1 at*
 obtain⟨q,hq⟩:∃q,q=w.heap.size:=⟨_,rfl⟩
 have HQ:=b6 (show w.heap.size<=q/\b<q by omega)
 rw[<-hq]at QB⊢
 clear hq hlt
 go_wp2_with fail
 refine(KI.out _ HP.out).mono ?_
 rintro e w2 ⟨he,hp,tt⟩
 change e=.returned (.tuple #[.agg #[.bool gi,.bool gm,.bool gs,.bool gu],.bool true])at he
 subst he
 replace QB:=b6 ((tt.block q (lt_of_block QB.out) (fun e=>by have:=HQ.out;omega)).trans QB.out)
 replace HP:=b6 hp
 replace TA:=b6 (TA.out.trans tt iE)
 clear hp tt KI
 go_upto_region 2 with(first|refine wpList_store_row rfl 38 _ _ rfl w2.heap.size _ rfl rfl 38 _ (e8 w2 _ 38) F0 (by rfl) (Fl.one ⟨gi,gm,gs,gu⟩) ?_|fail)
 have TB:=b6 (((tZ w2).alloc (.cells #[.bool false,.bool false,.bool false,.bool false] 38)).trans (g8 (w2.alloc (.cells #[.bool false,.bool false,.bool false,.bool false] 38)) w2.heap.size #[.bool gi,.bool gm,.bool gs,.bool gu]) (fun i hi e=>by omega))
 have RA:=b6 (setRow_heap (w2.alloc (.cells #[.bool false,.bool false,.bool false,.bool false] 38)) w2.heap.size _ #[.bool gi,.bool gm,.bool gs,.bool gu] 38 (0,0) (e8 w2 _ 38))
 obtain⟨q6,hq6⟩:∃q,q=w2.heap.size:=⟨_,rfl⟩
 have HQ6:=b6 (show q<q6 from by rw[hq6];exact lt_of_block QB.out)
 rw[<-hq6]at RA TB⊢
 generalize (w2.alloc (.cells #[.bool false,.bool false,.bool false,.bool false] 38)).setRow q6 #[.bool gi,.bool gm,.bool gs,.bool gu]=w3 at*
 replace QB:=b6 ((TB.out.block q (lt_of_block QB.out) id).trans QB.out)
 replace HP:=b6 (HP.out.new TB.out)
 replace TA:=b6 (TA.out.trans TB.out nE)
 clear TB hq6
 go_wp2_with fail
 refine(o6 58 HP.out (by omega) h58).mono ?_
 rintro e w4 ⟨rfl,hp,tt⟩
 replace QB:=b6 ((tt.block q (lt_of_block QB.out) (fun e=>by have:=HQ.out;omega)).trans QB.out)
 replace RA:=b6 ((tt.block q6 (lt_of_block RA.out) (fun e=>by have:=HQ.out;have:=HQ6.out;omega)).trans RA.out)
 replace HP:=b6 hp
 replace TA:=b6 (TA.out.trans tt iE)
 clear hp tt
 go_wp2_with fail
 refine(o7 41 HP.out (by omega) h41).mono ?_
 rintro e w5 ⟨rfl,hp,tt⟩
 replace QB:=b6 ((tt.block q (lt_of_block QB.out) (fun e=>by have:=HQ.out;omega)).trans QB.out)
 replace RA:=b6 ((tt.block q6 (lt_of_block RA.out) (fun e=>by have:=HQ.out;have:=HQ6.out;omega)).trans RA.out)
 replace HP:=b6 hp
 replace TA:=b6 (TA.out.trans tt iE)
 clear hp tt
 have HF:=b6 (HP.out.setf ⟨gi,gm,gs,gu⟩)
 have TS:=b6 (Aw w5 b (.bool gi) (.bool gm) (.bool gs) (.bool gu))
 dsimp only at HF
 obtain⟨⟨c6,c7,c8,c9⟩,f6,f7,f8,f9⟩:=HP.out.c69
 clear HP
 generalize f.i=fi at*
 generalize f.m=fm at*
 generalize f.s=fs at*
 generalize f.u=fu at*
 go_upto_region 6 with(first|refine wpList_load_row rfl 38 _ rfl q6 rfl 38 _ (0,0) _ RA.out Tryz.underlying38 rfl F0 ?_|fail)
 clear c6 c7 c8 c9 f6 f7 f8 f9
 generalize (((w5.setCell ⟨b,6,none⟩ (.bool gi)).setCell ⟨b,7,none⟩ (.bool gm)).setCell ⟨b,8,none⟩ (.bool gs)).setCell ⟨b,9,none⟩ (.bool gu)=w6 at*
 replace QB:=b6 ((TS.out.block q (lt_of_block QB.out) (fun e=>by have:=HQ.out;omega)).trans QB.out)
 replace TA:=b6 (TA.out.trans TS.out iE)
 clear RA TS
 go_wp2_with (first|refine wpList_store_row rfl 28 _ _ rfl q _ rfl rfl 28 _ QB.out l7 (by rfl) (j4.one j4.zero) ?_|fail)
 refine bodyPost_ret (l8 rfl _ _ q 28 _ (0,0) _ rfl (setRow_heap _ q _ _ 28 (0,0) QB.out) Tryz.underlying28 rfl (by kernel_rfl)) rfl ?_
 exact⟨j4.zero,vn,rfl,HF.out.row (by have:=HQ.out;omega) QB.out,.inl rfl,(TA.out.trans (g8 _ _ _) (fun i hi e=>by have:=HQ.out;omega)).mono (fun _ _ e=>.inl e)⟩
def Wa (b:Nat)(X:Px)(op:Nat):Prop:=∀(w:World) (k:Nat) (f:Fl) (vn:Value) (ns:List ByteArray),PS w b X k f vn ns op->k<=X.R.length->
 Calls Tryz.prog 140 #[.pointer (some ⟨b,0,none⟩)] w fun e w'=>e=.returned (.tuple #[.agg (x9 X.R f k).1.arr,.bool (x9 X.R f k).2.1])/\PS w' b X (x9 X.R f k).2.2 f vn ns op/\b7 (fun g=>g=b) w w'
theorem Jh (b:Nat)(X:Px)(op:Nat)(alt:A8)(hX:X.Good)(hop:op<=31)(hF:Ah X.R alt)(hs:Ny b X (op+1) alt)(hl:Wa b X op):Ur b X op alt:=by
 intro w k f vn ns h hk hN
 have KL:=fun w' hp=>hl w' (k+2) f vn ns hp hk
 have hfw:=Ds (R:=X.R) f (k+2) hk
 unfold MH
 simp only
 generalize x9 X.R f (k+2)=G at*
 obtain⟨g,ok,k1⟩:=G
 simp only at KL hfw⊢
 cases ok with
 |false=>
  rw[if_neg (fun e=>by cases e.1),if_neg (fun e=>by cases e.1)]
  exact QG b X k f vn ns op g k1 w h hX hk hfw.2 KL
 |true=>
  by_cases h58:g7 X.R k1=58
  ·rw[if_pos ⟨rfl,h58⟩]
   have hk3:k1+1<=X.R.length:=j9 h58 (by decide)
   refine(LD b X k f vn ns op g k1 (D8 X.R alt k ⟨k1+1,f,ns⟩ g) h58 (fun w' hp=>Cw b X k (k1+1) f g vn ns op alt w' hp hX hk3 (by omega) hop (by omega) hF hs) w h hX hk hfw.2 KL).mono ?_
   ·intro e w' hh
    cases hr:D8 X.R alt k ⟨k1+1,f,ns⟩ g with
    |error _=>rw[hr]at hh;exact hh
    |ok p=>rw[hr]at hh;exact hh
  ·rw[if_neg (fun e=>h58 e.2)]
   by_cases h41:g7 X.R k1=41
   ·rw[if_pos ⟨rfl,h41⟩]
    exact Og b X k f vn ns op g k1 h58 h41 w h hX hk hfw.2 KL
   ·rw[if_neg (fun e=>h41 e.2)]
    exact LC b X k f vn ns op g k1 h58 h41 w h hX hk hfw.2 KL
end Go.Proofs.YtdhhcefmmojcmaaGreatDoor
