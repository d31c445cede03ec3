/- Texts of this proof, one behind the other. -/
import Derived.Test.YtdhhcefmmojcmaaGreatDoorM27
set_option maxRecDepth 100000
set_option maxHeartbeats 0
set_option linter.unusedVariables false
namespace Go.Proofs.YtdhhcefmmojcmaaGreatDoor
open Go.RowKit Go.Lib
theorem MO:(Tryz.prog.info? 28).map (fun i=>(i.zero,i.size,i.bytes))=some (some (.agg j4.zero.arr),9,112):=by kernel_rfl
theorem Pa {R:List Int}{u:Bool}{k:Nat}{e:Nat×Nat}(h:C8 R u k=.error e):e=(23,k)/\∃p,o8 R k=some p:=by
 unfold C8 at h
 split at h
 ·cases h
 ·rename_i hb
  split at h
  ·cases h
   exact⟨rfl,_,hb⟩
  ·split at h
   ·cases h
   ·cases h
theorem LX {R:List Int}{u:Bool}{k:Nat}(h:C8 R u k=.ok none):o8 R k=none:=by
 unfold C8 at h
 split at h
 ·assumption
 ·split at h
  ·cases h
  ·split at h
   ·cases h
   ·cases h
theorem LY {R:List Int}{u:Bool}{k:Nat}{p:Int×Int×Bool×Nat}(h:C8 R u k=.ok (some p)):∃p,o8 R k=some p:=by
 unfold C8 at h
 split at h
 ·cases h
 ·rename_i hb
  exact⟨_,hb⟩
theorem IM (c:j4):∀u ∈ c.list,u.oneCell'=true:=by
 intro u hu
 have:=j4.one c
 exact(Array.all_eq_true_iff_forall_mem.1 this) u (by simpa [j4.arr,j4.list]using hu)
def WT (b:Nat)(X:Px)(op:Nat)(sub:Option A8)(w0:World)(vn:Value)(q:Nat)(Z:PR (List Nd×St))(n:Nat)(v3:Value)(wr:World):Prop:=
 ∃(st:St) (l:List Nd) (cs:List j4) (vn':Value),X.R.length+1<=st.k+n/\Hid (st.k<=X.R.length)/\Hid (I1 X.R b8 sub n st l=Z)/\Hid (st.ns.length<=st.k+1)/\Hid (l.length<=st.k)/\Hid (PS wr b X st.k st.f vn' st.ns op)/\Hid (FR (q+1) wr v3 cs l)/\
  Hid (vn'.ownBlock=vn.ownBlock∨∃g,vn'.ownBlock=some g/\w0.heap.size<=g)/\Hid (wr.heap[q]? =some (.cells j4.zero.arr 28 (0,0)))/\Hid (b7 (fun g=>g=b∨vn.ownBlock=some g) w0 wr)
theorem Uh (b:Nat)(X:Px)(k:Nat)(f:Fl)(vn:Value)(ns:List ByteArray)(op:Nat)(sub:Option A8)(w:World)(h:PS w b X k f vn ns op)(hX:X.Good)(hk:k<=X.R.length)(hN:ns.length<=k+1)(hs:Kv b X op sub):
 Calls Tryz.prog 68 #[.pointer (some ⟨b,0,none⟩)] w fun e w'=>J0 b X vn op (fun _=>False) w (G9 X.R b8 sub ⟨k,f,ns⟩) e w':=by
 obtain⟨i0,hi28,hz0,hz1,hz2⟩:=info_parts MO
 obtain⟨A,hA⟩:∃A,A=G9 X.R b8 sub ⟨k,f,ns⟩:=⟨_,rfl⟩
 have HA:=b6 hA.symm
 rw[<-hA]
 unfold G9 at HA
 clear hA
 obtain⟨Z,hZ⟩:∃Z,Z=I1 X.R b8 sub (X.R.length+1) ⟨k,f,ns⟩ []:=⟨_,rfl⟩
 rw[<-hZ]at HA
 have HZ:=b6 hZ.symm
 clear hZ
 have TA:=b6 ((tZ w).alloc (.cells j4.zero.arr 28))
 have QB:=b6 (e8 w j4.zero.arr 28)
 have HP:=b6 (h.new ((tZ w).alloc (.cells j4.zero.arr 28)))
 have hlt:=h.lt
 have HX:=b6 hX
 have HLEN:=b6 hX.lenR
 have HLP:=b6 hX.lenP
 have HS:=b6 hs
 have HKK:=b6 hk
 have HNN:=b6 hN
 clear h hX hk hN hs
 go_enter Tryz.func68,Tryz.ntmps68
 go_upto_region 1 with fail
 unfold j4.zero j4.arr at TA QB HP
 generalize w.alloc (.cells _ 28)=w1 at*
 obtain⟨q,hq⟩:∃q,q=w.heap.size:=⟨_,rfl⟩
 have HQ:=b6 (show w.heap.size<=q/\b<q by omega)
 rw[<-hq]at QB⊢
 clear hq hlt
 go_wp2_with fail
 go_loopg [3] (X.R.length+1) (fun gk v3 wq=>WT b X op sub w vn q Z gk v3 wq)
 case atStart=>exact⟨⟨k,f,ns⟩,[],[],vn,by simp only;omega,HKK,HZ,HNN,b6 (Nat.zero_le _),HP,b6 (FR.nil _ _),b6 (.inl rfl),b6 QB.out,b6 (TA.out.mono nE)⟩
 case round=>
  clear HP QB TA HZ HKK HNN
  obtain⟨⟨k,f,ns⟩,l,cs,vn',hgk,HK,HZ,HN,HL,HP,PC,HV,QB,TT⟩:=hrel
  simp only at hgk HK HZ HN HL HP
  obtain⟨gk,rfl⟩:∃g,gk=g+1:=⟨gk-1,by have:=HK.out;omega⟩
  rw[I1]at HZ
  simp only at HZ
  obtain⟨a3,c3,hv3⟩:=e9 PC.out.own
  subst hv3
  have hk2:k<=1024:=by have:=HLEN.out;have:=HK.out;omega
  by_cases he:Y3 (g7 X.R k)=true
  ·rw[if_pos he]at HZ
   have KR:=b6 (DZ b X k f vn' ns op wr HP.out (by omega))
   rw[he]at KR
   go_wp2_with fail
   refine KR.out.mono ?_
   rintro e w2 ⟨rfl,t2⟩
   replace HP:=b6 (HP.out.new t2)
   replace PC:=b6 (PC.out.still t2)
   replace QB:=b6 ((t2.block q (lt_of_block QB.out) id).trans QB.out)
   replace TT:=b6 (TT.out.trans t2 nE)
   clear t2 KR
   have K7:=b6 (PC.out.all 8)
   go_wp2_with fail
   refine K7.out.mono ?_
   rintro e w3 ⟨c,rfl,ht,t3⟩
   have HT:=b6 ht
   replace HP:=b6 (HP.out.new t3)
   replace QB:=b6 ((t3.block q (lt_of_block QB.out) id).trans QB.out)
   replace TT:=b6 (TT.out.trans t3 nE)
   clear ht t3 K7 PC
   obtain⟨ck,sa,sn,sc,fo,mi,ma,la,ca,nm,ka,kn,kc⟩:=c
   unfold j4.arr
   go_wp2_with (first|refine wpList_store_row rfl 28 _ _ rfl q _ rfl rfl 28 _ QB.out l7 (by rfl) (j4.one ⟨ck,sa,sn,sc,fo,mi,ma,la,ca,nm,ka,kn,kc⟩) ?_|fail)
   refine bodyPost_ret (o9 rfl _ _ q 28 _ (0,0) _ rfl (setRow_heap _ q _ _ 28 (0,0) QB.out) Tryz.underlying28 rfl (by kernel_rfl)) rfl ?_
   rw[<-HA.out,<-HZ.out]
   have TR:=g8 w3 q #[.int .i64 ck,.slice sa sn sc,.bool fo,.int .i64 mi,.int .i64 ma,.bool la,.int .i64 ca,.string nm,.slice ka kn kc]
   refine⟨⟨ck,sa,sn,sc,fo,mi,ma,la,ca,nm,ka,kn,kc⟩,vn',rfl,?_,HP.out.row HQ.out.2 QB.out,HV.out,TT.out.trans TR (fun i hi e=>by have:=HQ.out;omega)⟩
   exact(HT.out.kept TR (fun g hg s=>by omega)).more (fun g hg=>.inr ⟨by have:=HQ.out;omega,Nat.lt_of_lt_of_le hg.2 TR.size⟩)
  ·rw[if_neg he]at HZ
   have hlt:k<X.R.length:=I6 (fun e=>he (by rw[e];rfl))
   have KR:=b6 (DZ b X k f vn' ns op wr HP.out (by omega))
   rw[show Y3 (g7 X.R k)=false from by simpa using he]at KR
   have KQ:=b6 (fun w' hp=>GL b X k f vn' ns op w' hp HX.out (by omega))
   have KW:=b6 (fun(k1:Nat) w' (hp:PS w' b X k1 f vn' ns op)=>A1 b X k1 f vn' ns op 23 k w' hp (by have:=HLP.out;omega))
   have KA:=b6 (fun w' hp=>PT b X k f vn' ns op sub w' hp HX.out hlt HN.out HS.out)
   have HQE:=b6 (fun e=>Pa (R:=X.R) (u:=f.u) (k:=k) (e:=e))
   have HQN:=b6 (LX (R:=X.R) (u:=f.u) (k:=k))
   have HQS:=b6 (fun p=>LY (R:=X.R) (u:=f.u) (k:=k) (p:=p))
   unfold C7 at HZ
   simp only at HZ
   go_wp2_with fail
   refine KR.out.mono ?_
   rintro e w2 ⟨rfl,t2⟩
   replace HP:=b6 (HP.out.new t2)
   replace PC:=b6 (PC.out.still t2)
   replace QB:=b6 ((t2.block q (lt_of_block QB.out) id).trans QB.out)
   replace TT:=b6 (TT.out.trans t2 nE)
   clear t2 KR he
   have c5:=HP.out.c5
   have KQ2:=b6 (KQ.out _ HP.out)
   clear KQ
   generalize C8 X.R f.u k=Q at*
   match Q with
   | .error e=>
     obtain⟨rfl,p,hp⟩:=HQE.out e rfl
     rw[hp]at HZ
     simp only at HZ
     unfold PI u6 at KQ2
     simp only at KQ2
     go_wp2_with fail
     refine KQ2.out.mono ?_
     rintro e w3 ⟨rfl,t3⟩
     replace TT:=b6 (TT.out.trans t3 (fun _ _ e=>.inl e))
     clear t3 KQ2 KW KA HQE HQN HQS hp
     go_wp2
     refine⟨rfl,?_⟩
     rw[<-HA.out,<-HZ.out]
     exact⟨rfl,TT.out⟩
   | .ok (some (x,y,z,k1))=>
     obtain⟨p,hp⟩:=HQS.out _ rfl
     rw[hp]at HZ
     simp only at HZ
     unfold PI at KQ2
     simp only at KQ2
     go_wp2_with fail
     refine KQ2.out.mono ?_
     rintro e w3 ⟨rfl,hp3,t3⟩
     have HP3:=b6 hp3
     replace TT:=b6 (TT.out.trans t3 (fun _ _ e=>.inl e))
     clear t3 KQ2 KA HQE HQN HQS hp hp3 HP
     go_upto_region 5 with(first|refine wpList_store_row rfl 28 _ _ rfl w3.heap.size _ rfl rfl 28 _ (e8 w3 _ 28) l7 (by rfl) (j4.one (Cc x y z)) ?_|fail)
     have TB:=b6 (((tZ w3).alloc (.cells #[.int .i64 0,.slice none 0 0,.bool false,.int .i64 0,.int .i64 0,.bool false,.int .i64 0,.string ⟨#[]⟩,.slice none 0 0] 28)).trans (g8 (w3.alloc (.cells #[.int .i64 0,.slice none 0 0,.bool false,.int .i64 0,.int .i64 0,.bool false,.int .i64 0,.string ⟨#[]⟩,.slice none 0 0] 28)) w3.heap.size (Cc x y z).arr) (fun i hi e=>by omega))
     generalize (w3.alloc (.cells #[.int .i64 0,.slice none 0 0,.bool false,.int .i64 0,.int .i64 0,.bool false,.int .i64 0,.string ⟨#[]⟩,.slice none 0 0] 28)).setRow w3.heap.size (Cc x y z).arr=w4 at*
     have HP4:=b6 (HP3.out.new TB.out)
     replace TT:=b6 (TT.out.trans TB.out nE)
     clear TB HP3
     have KW2:=b6 (KW.out k1 w4 HP4.out)
     go_wp2_with fail
     refine KW2.out.mono ?_
     rintro e w5 ⟨rfl,t5⟩
     replace TT:=b6 (TT.out.trans t5 nE)
     clear t5 KW2 KW
     go_wp2
     refine⟨rfl,?_⟩
     rw[<-HA.out,<-HZ.out]
     exact⟨rfl,TT.out⟩
   | .ok none=>
     rw[HQN.out rfl]at HZ
     simp only at HZ
     unfold PI at KQ2
     simp only at KQ2
     clear HQE HQN HQS KW
     go_wp2_with fail
     refine KQ2.out.mono ?_
     rintro e w3 ⟨rfl,hp3,t3⟩
     replace QB:=b6 ((t3.block q (lt_of_block QB.out) (fun e=>by have:=HQ.out;omega)).trans QB.out)
     replace PC:=b6 (PC.out.kept t3 (fun g e=>HP.out.nt (.inl e)))
     replace HP:=b6 hp3
     replace TT:=b6 (TT.out.trans t3 (fun _ _ e=>.inl e))
     clear t3 KQ2 hp3 c5
     go_upto_region 5 with(first|refine wpList_store_row rfl 28 _ _ rfl w3.heap.size _ rfl rfl 28 _ (e8 w3 _ 28) l7 (by rfl) (j4.one j4.zero) ?_|fail)
     have TB:=b6 (((tZ w3).alloc (.cells #[.int .i64 0,.slice none 0 0,.bool false,.int .i64 0,.int .i64 0,.bool false,.int .i64 0,.string ⟨#[]⟩,.slice none 0 0] 28)).trans (g8 (w3.alloc (.cells #[.int .i64 0,.slice none 0 0,.bool false,.int .i64 0,.int .i64 0,.bool false,.int .i64 0,.string ⟨#[]⟩,.slice none 0 0] 28)) w3.heap.size j4.zero.arr) (fun i hi e=>by omega))
     generalize (w3.alloc (.cells #[.int .i64 0,.slice none 0 0,.bool false,.int .i64 0,.int .i64 0,.bool false,.int .i64 0,.string ⟨#[]⟩,.slice none 0 0] 28)).setRow w3.heap.size j4.zero.arr=w4 at*
     replace HP:=b6 (HP.out.new TB.out)
     replace PC:=b6 (PC.out.still TB.out)
     replace QB:=b6 ((TB.out.block q (lt_of_block QB.out) id).trans QB.out)
     replace TT:=b6 (TT.out.trans TB.out nE)
     clear TB
     have KA2:=b6 (KA.out _ HP.out)
     have HAF:=b6 (fun o s=>Y1 (R:=X.R) (tab:=b8) (st:=⟨k,f,ns⟩) (s1:=s) (o:=o) HS.out.fwd hlt)
     have HAG:=b6 (fun o s=>CE (R:=X.R) (tab:=b8) (st:=⟨k,f,ns⟩) (s1:=s) (o:=o) HS.out.fwd HS.out.grw hlt)
     clear KA
     generalize F9 X.R b8 sub ⟨k,f,ns⟩=M at*
     match M with
     | .error (ec,ej)=>
       simp only at HZ
       unfold U5 u6 at KA2
       simp only at KA2
       clear HAF HAG
       go_wp2_with fail
       refine KA2.out.mono ?_
       rintro e w5 ⟨rfl,t5⟩
       replace TT:=b6 (TT.out.trans t5 (fun i hi e=>by
        rcases e with e|e
        ·exact .inl e
        ·rcases HV.out with e2|⟨g,e2,hg⟩
         ·exact .inr (by rw[<-e2];exact e)
         ·rw[e2]at e;cases e;omega))
       clear t5 KA2
       go_wp2
       refine⟨rfl,?_⟩
       rw[<-HA.out,<-HZ.out]
       exact⟨rfl,TT.out⟩
     | .ok (none,⟨k1,f1,ns1⟩)=>
       simp only at HZ
       unfold U5 at KA2
       simp only at KA2
       have HF:=b6 (HAF.out _ _ rfl)
       have HG:=b6 (HAG.out _ _ rfl)
       clear HAF HAG
       go_wp2_with fail
       refine KA2.out.mono ?_
       rintro e w5 ⟨c,vn2,rfl,hp5,hn5,t5⟩
       have HS4:=b6 TT.out.size
       replace TT:=b6 (TT.out.trans t5 (fun i hi e=>by
        rcases e with e|e
        ·exact .inl e
        ·rcases HV.out with e2|⟨g,e2,hg⟩
         ·exact .inr (by rw[<-e2];exact e)
         ·rw[e2]at e;cases e;omega))
       replace HV:=b6 (show vn2.ownBlock=vn.ownBlock∨∃g,vn2.ownBlock=some g/\w.heap.size<=g from by
        rcases hn5 with e|⟨g,e,hg⟩
        ·rw[e];exact HV.out
        ·exact .inr ⟨g,e,Nat.le_trans HS4.out hg⟩)
       replace QB:=b6 ((t5.block q (lt_of_block QB.out) (fun e=>by
        rcases e with e|e
        ·have:=HQ.out;omega
        ·exact HP.out.notN QB.out (by decide) e)).trans QB.out)
       replace PC:=b6 (PC.out.kept t5 (fun g e=>HP.out.nt e))
       replace HP:=b6 hp5
       clear t5 KA2 hp5 hn5 HS4
       obtain⟨ck,sa,sn,sc,fo,mi,ma,la,ca,nm,ka,kn,kc⟩:=c
       unfold j4.arr
       go_upto_region 8 with(first|refine wpList_store_row rfl 28 _ _ rfl w5.heap.size _ rfl rfl 28 _ (e8 w5 _ 28) l7 (by rfl) (j4.one ⟨ck,sa,sn,sc,fo,mi,ma,la,ca,nm,ka,kn,kc⟩) ?_|fail)
       have TB:=b6 (((tZ w5).alloc (.cells #[.int .i64 0,.slice none 0 0,.bool false,.int .i64 0,.int .i64 0,.bool false,.int .i64 0,.string ⟨#[]⟩,.slice none 0 0] 28)).trans (g8 (w5.alloc (.cells #[.int .i64 0,.slice none 0 0,.bool false,.int .i64 0,.int .i64 0,.bool false,.int .i64 0,.string ⟨#[]⟩,.slice none 0 0] 28)) w5.heap.size #[.int .i64 ck,.slice sa sn sc,.bool fo,.int .i64 mi,.int .i64 ma,.bool la,.int .i64 ca,.string nm,.slice ka kn kc]) (fun i hi e=>by omega))
       generalize (w5.alloc (.cells #[.int .i64 0,.slice none 0 0,.bool false,.int .i64 0,.int .i64 0,.bool false,.int .i64 0,.string ⟨#[]⟩,.slice none 0 0] 28)).setRow w5.heap.size #[.int .i64 ck,.slice sa sn sc,.bool fo,.int .i64 mi,.int .i64 ma,.bool la,.int .i64 ca,.string nm,.slice ka kn kc]=w6 at*
       replace HP:=b6 (HP.out.new TB.out)
       replace PC:=b6 (PC.out.still TB.out)
       replace QB:=b6 ((TB.out.block q (lt_of_block QB.out) id).trans QB.out)
       replace TT:=b6 (TT.out.trans TB.out nE)
       clear TB
       go_wp2
       go_roundg gk
       case measure=>omega
       case rel=>exact⟨⟨k1,f1,ns1⟩,l,cs,vn2,by have:=HF.out;simp only at this⊢;omega,b6 HF.out.2,HZ,b6 (by have:=HF.out;have:=HG.out;have:=HN.out;simp only at*;omega),b6 (by have:=HF.out;have:=HL.out;simp only at*;omega),HP,PC,HV,QB,TT⟩
     | .ok (some x,⟨k1,f1,ns1⟩)=>
       simp only at HZ
       unfold U5 at KA2
       simp only at KA2
       have HF:=b6 (HAF.out _ _ rfl)
       have HG:=b6 (HAG.out _ _ rfl)
       clear HAF HAG
       go_wp2_with fail
       refine KA2.out.mono ?_
       rintro e w5 ⟨c,vn2,rfl,ht5,hp5,hn5,t5⟩
       have HS4:=b6 TT.out.size
       have HQ4:=b6 (lt_of_block QB.out)
       have HPL:=b6 (fun g e=>PC.out.lt (g:=g) e)
       have HS45:=b6 t5.size
       replace TT:=b6 (TT.out.trans t5 (fun i hi e=>by
        rcases e with e|e
        ·exact .inl e
        ·rcases HV.out with e2|⟨g,e2,hg⟩
         ·exact .inr (by rw[<-e2];exact e)
         ·rw[e2]at e;cases e;omega))
       replace HV:=b6 (show vn2.ownBlock=vn.ownBlock∨∃g,vn2.ownBlock=some g/\w.heap.size<=g from by
        rcases hn5 with e|⟨g,e,hg⟩
        ·rw[e];exact HV.out
        ·exact .inr ⟨g,e,Nat.le_trans HS4.out hg⟩)
       replace QB:=b6 ((t5.block q (lt_of_block QB.out) (fun e=>by
        rcases e with e|e
        ·have:=HQ.out;omega
        ·exact HP.out.notN QB.out (by decide) e)).trans QB.out)
       replace PC:=b6 (PC.out.kept t5 (fun g e=>HP.out.nt e))
       replace HP:=b6 hp5
       have HT:=b6 (ht5.more (B':=fun g=>w4.heap.size<=g/\g<w5.heap.size) (fun g e=>e.elim False.elim id))
       clear t5 KA2 hp5 hn5 ht5
       obtain⟨ck,sa,sn,sc,fo,mi,ma,la,ca,nm,ka,kn,kc⟩:=c
       unfold j4.arr
       go_upto_region 8 with(first|refine wpList_store_row rfl 28 _ _ rfl w5.heap.size _ rfl rfl 28 _ (e8 w5 _ 28) l7 (by rfl) (j4.one ⟨ck,sa,sn,sc,fo,mi,ma,la,ca,nm,ka,kn,kc⟩) ?_|fail)
       have TB:=b6 (((tZ w5).alloc (.cells #[.int .i64 0,.slice none 0 0,.bool false,.int .i64 0,.int .i64 0,.bool false,.int .i64 0,.string ⟨#[]⟩,.slice none 0 0] 28)).trans (g8 (w5.alloc (.cells #[.int .i64 0,.slice none 0 0,.bool false,.int .i64 0,.int .i64 0,.bool false,.int .i64 0,.string ⟨#[]⟩,.slice none 0 0] 28)) w5.heap.size #[.int .i64 ck,.slice sa sn sc,.bool fo,.int .i64 mi,.int .i64 ma,.bool la,.int .i64 ca,.string nm,.slice ka kn kc]) (fun i hi e=>by omega))
       have RA:=b6 (setRow_heap (w5.alloc (.cells #[.int .i64 0,.slice none 0 0,.bool false,.int .i64 0,.int .i64 0,.bool false,.int .i64 0,.string ⟨#[]⟩,.slice none 0 0] 28)) w5.heap.size _ #[.int .i64 ck,.slice sa sn sc,.bool fo,.int .i64 mi,.int .i64 ma,.bool la,.int .i64 ca,.string nm,.slice ka kn kc] 28 (0,0) (e8 w5 _ 28))
       generalize (w5.alloc (.cells #[.int .i64 0,.slice none 0 0,.bool false,.int .i64 0,.int .i64 0,.bool false,.int .i64 0,.string ⟨#[]⟩,.slice none 0 0] 28)).setRow w5.heap.size #[.int .i64 ck,.slice sa sn sc,.bool fo,.int .i64 mi,.int .i64 ma,.bool la,.int .i64 ca,.string nm,.slice ka kn kc]=w6 at*
       obtain⟨q7,hq7⟩:∃q7,q7=w5.heap.size:=⟨_,rfl⟩
       rw[<-hq7]at RA⊢
       clear hq7
       replace HP:=b6 (HP.out.new TB.out)
       replace PC:=b6 (PC.out.still TB.out)
       replace QB:=b6 ((TB.out.block q (lt_of_block QB.out) id).trans QB.out)
       replace TT:=b6 (TT.out.trans TB.out nE)
       replace HT:=b6 (HT.out.new TB.out)
       have HS46:=b6 (Nat.le_trans HS45.out TB.out.size)
       have HB6:=b6 (show ∀g,w4.heap.size<=g/\g<w5.heap.size->g<w6.heap.size from fun g e=>Nat.lt_of_lt_of_le e.2 TB.out.size)
       clear TB HS45
       have KR:=b6 (Mb b X k1 f1 vn2 ns1 op ⟨ck,sa,sn,sc,fo,mi,ma,la,ca,nm,ka,kn,kc⟩ x (fun g=>w4.heap.size<=g/\g<w5.heap.size) w6 HP.out HX.out HF.out.2 HT.out HB6.out)
       have HRF:=b6 (fun y s=>Ic (R:=X.R) (x:=x) (st:=⟨k1,f1,ns1⟩) (y:=y) (s1:=s) HF.out.2)
       have HRN:=b6 (fun y s=>RI (R:=X.R) (x:=x) (st:=⟨k1,f1,ns1⟩) (y:=y) (s1:=s))
       unfold j4.arr at KR
       generalize Z7 X.R x ⟨k1,f1,ns1⟩=V at*
       match V with
       | .error (ec,ej)=>
         simp only at HZ
         unfold J0 u6 at KR
         simp only at KR
         clear HRF HRN
         go_wp2_with (first|refine wpList_load_row rfl 28 _ rfl q7 rfl 28 _ (0,0) _ RA.out Tryz.underlying28 rfl l7 ?_|fail)
         refine KR.out.mono ?_
         rintro e w7 ⟨rfl,t7⟩
         replace TT:=b6 (TT.out.trans t7 (fun i hi e=>by
          rcases e with e|e
          ·exact .inl e
          ·rcases HV.out with e2|⟨g,e2,hg⟩
           ·exact .inr (by rw[<-e2];exact e)
           ·rw[e2]at e;cases e;omega))
         clear t7 KR
         go_wp2
         refine⟨rfl,?_⟩
         rw[<-HA.out,<-HZ.out]
         exact⟨rfl,TT.out⟩
       | .ok (y,⟨k2,f2,ns2⟩)=>
         simp only at HZ
         unfold J0 at KR
         simp only at KR
         have HF2:=b6 (HRF.out _ _ rfl)
         have HN2:=b6 (HRN.out _ _ rfl)
         clear HRF HRN
         go_wp2_with (first|refine wpList_load_row rfl 28 _ rfl q7 rfl 28 _ (0,0) _ RA.out Tryz.underlying28 rfl l7 ?_|fail)
         refine KR.out.mono ?_
         rintro e w7 ⟨c2,vn3,rfl,ht7,hp7,hn7,t7⟩
         have HS6:=b6 TT.out.size
         replace TT:=b6 (TT.out.trans t7 (fun i hi e=>by
          rcases e with e|e
          ·exact .inl e
          ·rcases HV.out with e2|⟨g,e2,hg⟩
           ·exact .inr (by rw[<-e2];exact e)
           ·rw[e2]at e;cases e;omega))
         replace HV:=b6 (show vn3.ownBlock=vn.ownBlock∨∃g,vn3.ownBlock=some g/\w.heap.size<=g from by
          rcases hn7 with e|⟨g,e,hg⟩
          ·rw[e];exact HV.out
          ·exact .inr ⟨g,e,Nat.le_trans HS6.out hg⟩)
         replace QB:=b6 ((t7.block q (lt_of_block QB.out) (fun e=>by
          rcases e with e|e
          ·have:=HQ.out;omega
          ·exact HP.out.notN QB.out (by decide) e)).trans QB.out)
         replace PC:=b6 (PC.out.kept t7 (fun g e=>HP.out.nt e))
         replace HP:=b6 hp7
         have HX7:=b6 ht7
         have HB7:=b6 (show ∀g,((w4.heap.size<=g/\g<w5.heap.size)∨(w6.heap.size<=g/\g<w7.heap.size))->((q+1<=g/\g<w7.heap.size)/\(Value.slice a3 cs.length c3).ownBlock≠some g)from fun g e=>by
          have h1:=HQ4.out
          have h2:=t7.size
          have h3:w4.heap.size<=g/\g<w7.heap.size:=by
           rcases e with e|e
           ·exact⟨e.1,Nat.lt_of_lt_of_le (HB6.out g e) h2⟩
           ·exact⟨by have:=HB6.out;have:=lt_of_block RA.out;have:=HS46.out;omega,e.2⟩
          exact⟨⟨by omega,h3.2⟩,fun e2=>by have:=HPL.out g e2;omega⟩)
         have HLO:=b6 (show q+1<=w7.heap.size from lt_of_block QB.out)
         have hnb:cs.length<=1024:=by have:=PC.out.len;have:=HL.out;omega
         clear t7 KR hp7 hn7 ht7 HT HB6 HPL HQ4 HS4 HS6 RA HS46
         obtain⟨dk,ta,tn,tc,go,ni,na,ma2,da,om,la2,ln,lc⟩:=c2
         unfold j4.arr
         go_wp2_with (at_builtin;refine wpList_append_own_at _ rfl _ _ 26 rfl 0 28 i0 (.agg j4.zero.arr) 9 112 Tryz.underlying26 hi28 hz0 hz1 hz2 rfl (by decide) _ _ _ rfl (PC.out.own.alloc _) ⟨w7.heap.size,0,none⟩ 1 1 (j4.list ⟨dk,ta,tn,tc,go,ni,na,ma2,da,om,la2,ln,lc⟩) rfl rfl (z7 w7 (j4.list ⟨dk,ta,tn,tc,go,ni,na,ma2,da,om,la2,ln,lc⟩) 28) (IM ⟨dk,ta,tn,tc,go,ni,na,ma2,da,om,la2,ln,lc⟩) (by unfold maxLen;omega) (by omega) (Nat.zero_le _) ?_)
         intro v' w9 hown hgrow _ hat
         have PX:=PC.out.push HX7.out HB7.out HLO.out hown hgrow (by simpa using hat)
         have PC9:=b6 PX.1
         have HP9:=b6 (HP.out.far PX.2 (fun g e=>⟨by have:=PC.out.new g e;have:=HQ.out;omega,fun cs2 fr hh=>by
          obtain⟨cs3,fr3,hh3⟩:=j5 PC.out.own g e
          rw[hh3]at hh
          cases hh⟩))
         have QB9:=b6 ((PX.2.block q (lt_of_block QB.out) (fun e=>by have:=PC.out.new q e;omega)).trans QB.out)
         have TT9:=b6 (TT.out.trans PX.2 (fun i hi e=>by have:=PC.out.new i e;have:=HQ.out;omega))
         clear PX hown hgrow hat PC HP QB TT HX7 HB7 HLO
         go_wp2
         go_roundg gk
         case measure=>omega
         case rel=>exact⟨⟨k2,f2,ns2⟩,l++ [y],_,vn3,by have:=HF.out;have:=HF2.out;simp only at*;omega,b6 HF2.out.2,HZ,b6 (by have:=HF.out;have:=HF2.out;have:=HG.out;have:=HN.out;have:=HN2.out;simp only at*;subst this;omega),b6 (by have:=HF.out;have:=HF2.out;have:=HL.out;rw[List.length_append];simp only[List.length_singleton]at*;omega),HP9,PC9,HV,QB9,TT9⟩
theorem FR.first {lo:Nat}{w:World}{c:j4}{x:Nd}{B:Nat->Prop}(hx:TN w B c x)(hB:∀g,B g->lo<=g/\g<w.heap.size)(hlo:lo<=w.heap.size):FR lo (w.alloc (.cells c.arr 28)) (.slice (some ⟨w.heap.size,0,none⟩) 1 1) [c] [x]:=by
 refine⟨Lg w c,fun g e=>?_,rfl,fun i c' x' e1 e2=>?_⟩
 ·cases e
  exact hlo
 ·match i with
  |0=>
   cases e1
   cases e2
   refine(hx.new ((tZ w).alloc _)).more (fun g hg=>⟨⟨(hB g hg).1,?_⟩,fun e=>?_⟩)
   ·have:=(hB g hg).2
    simp
    omega
   ·obtain rfl:w.heap.size=g:=Option.some.inj e
    have:=(hB _ hg).2
    omega
  |i+1=>cases e1
def WQ (b:Nat)(X:Px)(op:Nat)(sub:Option A8)(w0:World)(vn:Value)(q:Nat)(Z:PR (Nd×St))(n:Nat)(v3:Value)(wr:World):Prop:=
 ∃(st:St) (l:List Nd) (cs:List j4) (vn':Value),X.R.length+1<=st.k+n/\Hid (st.k<=X.R.length)/\Hid (J4 X.R b8 sub n st l=Z)/\Hid (st.ns.length<=st.k+1)/\Hid (l.length<=st.k+1)/\Hid (PS wr b X st.k st.f vn' st.ns op)/\Hid (FR (q+1) wr v3 cs l)/\
  Hid (vn'.ownBlock=vn.ownBlock∨∃g,vn'.ownBlock=some g/\w0.heap.size<=g)/\Hid (wr.heap[q]? =some (.cells j4.zero.arr 28 (0,0)))/\Hid (b7 (fun g=>g=b∨vn.ownBlock=some g) w0 wr)
theorem IA (b:Nat)(X:Px)(k:Nat)(f:Fl)(vn:Value)(ns:List ByteArray)(op:Nat)(sub:Option A8)(w:World)(h:PS w b X k f vn ns op)(hX:X.Good)(hk:k<=X.R.length)(hN:ns.length<=k+1)(hs:Kv b X op sub):
 Calls Tryz.prog 45 #[.pointer (some ⟨b,0,none⟩)] w fun e w'=>J0 b X vn op (fun _=>False) w (S1 X.R b8 sub ⟨k,f,ns⟩) e w':=by
 obtain⟨i0,hi28,hz0,hz1,hz2⟩:=info_parts MO
 obtain⟨A,hA⟩:∃A,A=S1 X.R b8 sub ⟨k,f,ns⟩:=⟨_,rfl⟩
 have HA:=b6 hA.symm
 rw[<-hA]
 unfold S1 at HA
 clear hA
 have TA:=b6 ((tZ w).alloc (.cells j4.zero.arr 28))
 have QB:=b6 (e8 w j4.zero.arr 28)
 have HP:=b6 (h.new ((tZ w).alloc (.cells j4.zero.arr 28)))
 have hlt:=h.lt
 have HLEN:=b6 hX.lenR
 have KR:=b6 (fun(k':Nat) (f':Fl) (vn':Value) (ns':List ByteArray) w' hp hk' hN'=>Uh b X k' f' vn' ns' op sub w' hp hX hk' hN' hs)
 have HCF:=b6 (fun st x s1=>I8 (R:=X.R) (tab:=b8) hs.fwd st x s1)
 have HCG:=b6 (fun st x s1=>Eo (R:=X.R) (tab:=b8) hs.fwd hs.grw st x s1)
 have HKK:=b6 hk
 have HNN:=b6 hN
 clear h hX hk hN hs
 go_enter Tryz.func45,Tryz.ntmps45
 go_upto_region 1 with fail
 unfold j4.zero j4.arr at TA QB HP
 generalize w.alloc (.cells _ 28)=w1 at*
 obtain⟨q,hq⟩:∃q,q=w.heap.size:=⟨_,rfl⟩
 have HQ:=b6 (show w.heap.size<=q/\b<q by omega)
 rw[<-hq]at QB⊢
 clear hq hlt
 have KR1:=b6 (KR.out k f vn ns _ HP.out HKK.out HNN.out)
 have HF1:=b6 (fun x s1=>HCF.out ⟨k,f,ns⟩ x s1 HKK.out)
 have HG1:=b6 (fun x s1=>HCG.out ⟨k,f,ns⟩ x s1 HKK.out)
 generalize G9 X.R b8 sub ⟨k,f,ns⟩=M at*
 match M with
 | .error (ec,ej)=>
   unfold J0 u6 at KR1
   simp only at KR1 HA
   clear HF1 HG1 HCF HCG
   go_wp2_with fail
   refine KR1.out.mono ?_
   rintro e w2 ⟨rfl,t2⟩
   have TT:=b6 ((TA.out.mono (S':=fun g=>g=b∨vn.ownBlock=some g) nE).trans t2 iE)
   clear t2 KR1 KR
   go_wp2
   refine⟨rfl,?_⟩
   rw[<-HA.out]
   exact⟨rfl,TT.out⟩
 | .ok (x,⟨k1,f1,ns1⟩)=>
   unfold J0 at KR1
   simp only at KR1 HA
   have HF2:=b6 (HF1.out _ _ rfl)
   have HG2:=b6 (HG1.out _ _ rfl)
   clear HF1 HG1
   obtain⟨Z,hZ⟩:∃Z,Z=J4 X.R b8 sub (X.R.length+1) ⟨k1,f1,ns1⟩ [x]:=⟨_,rfl⟩
   rw[<-hZ]at HA
   have HZ:=b6 hZ.symm
   clear hZ
   go_wp2_with fail
   refine KR1.out.mono ?_
   rintro e w2 ⟨c,vn2,rfl,ht2,hp2,hn2,t2⟩
   have TT:=b6 ((TA.out.mono (S':=fun g=>g=b∨vn.ownBlock=some g) nE).trans t2 iE)
   have HV:=b6 (show vn2.ownBlock=vn.ownBlock∨∃g,vn2.ownBlock=some g/\w.heap.size<=g from by
    rcases hn2 with e|⟨g,e,hg⟩
    ·exact .inl e
    ·exact .inr ⟨g,e,Nat.le_trans TA.out.size hg⟩)
   have HQ4:=b6 (lt_of_block QB.out)
   replace QB:=b6 ((t2.block q (lt_of_block QB.out) (fun e=>by
    rcases e with e|e
    ·have:=HQ.out;omega
    ·exact HP.out.notN QB.out (by decide) e)).trans QB.out)
   have PC:=b6 (FR.first (lo:=q+1) ht2 (fun g e=>by have:=HQ4.out;rcases e with e|e;exact e.elim;exact⟨by omega,e.2⟩) (lt_of_block QB.out))
   obtain⟨ck,sa,sn,sc,fo,mi,ma,la,ca,nm,ka,kn,kc⟩:=c
   have TB:=b6 ((tZ w2).alloc (.cells (j4.arr ⟨ck,sa,sn,sc,fo,mi,ma,la,ca,nm,ka,kn,kc⟩) 28))
   replace HP:=b6 (hp2.new TB.out)
   replace QB:=b6 ((TB.out.block q (lt_of_block QB.out) id).trans QB.out)
   replace TT:=b6 (TT.out.trans TB.out nE)
   clear t2 KR1 hp2 hn2 ht2 TA TB HQ4
   unfold j4.arr at*
   go_upto_region 2 with fail
   generalize w2.alloc (.cells _ 28)=w3 at*
   generalize w2.heap.size=q2 at*
   go_wp2_with fail
   go_loopg [3] (X.R.length+1) (fun gk v3 wq=>WQ b X op sub w vn q Z gk v3 wq)
   case atStart=>exact⟨⟨k1,f1,ns1⟩,[x],_,vn2,by simp only;omega,b6 HF2.out.2,HZ,b6 (by have:=HF2.out;have:=HG2.out;have:=HNN.out;simp only at*;omega),b6 (by simp),HP,PC,HV,QB,TT⟩
   case round=>
    clear HP QB HZ HKK HNN PC HV TT HF2 HG2
    obtain⟨⟨k,f,ns⟩,l,cs,vn',hgk,HK,HZ,HN,HL,HP,PC,HV,QB,TT⟩:=hrel
    simp only at hgk HK HZ HN HL HP
    obtain⟨gk,rfl⟩:∃g,gk=g+1:=⟨gk-1,by have:=HK.out;omega⟩
    rw[J4]at HZ
    simp only at HZ
    obtain⟨a3,c3,hv3⟩:=e9 PC.out.own
    subst hv3
    have hk2:k<=1024:=by have:=HLEN.out;have:=HK.out;omega
    by_cases h124:g7 X.R k=124
    ·rw[if_pos h124]at HZ
     have hk3:k+1<=X.R.length:=j9 h124 (by decide)
     have KT:=b6 (o7 124 HP.out (by omega) h124)
     have KR1:=b6 (fun w' hp=>KR.out (k+1) f vn' ns w' hp hk3 (by have:=HN.out;omega))
     have HF1:=b6 (fun x s1=>HCF.out ⟨k+1,f,ns⟩ x s1 hk3)
     have HG1:=b6 (fun x s1=>HCG.out ⟨k+1,f,ns⟩ x s1 hk3)
     go_wp2_with fail
     refine KT.out.mono ?_
     rintro e w2 ⟨rfl,hp2,t2⟩
     replace PC:=b6 (PC.out.kept t2 (fun g e=>HP.out.nt (.inl e)))
     replace QB:=b6 ((t2.block q (lt_of_block QB.out) (fun e=>by have:=HQ.out;omega)).trans QB.out)
     replace HP:=b6 hp2
     replace TT:=b6 (TT.out.trans t2 (fun _ _ e=>.inl e))
     clear t2 KT hp2
     have KR2:=b6 (KR1.out _ HP.out)
     clear KR1
     generalize G9 X.R b8 sub ⟨k+1,f,ns⟩=M at*
     match M with
     | .error (ec,ej)=>
       simp only at HZ
       unfold J0 u6 at KR2
       simp only at KR2
       clear HF1 HG1 HCF HCG
       go_wp2_with fail
       refine KR2.out.mono ?_
       rintro e w7 ⟨rfl,t7⟩
       replace TT:=b6 (TT.out.trans t7 (fun i hi e=>by
        rcases e with e|e
        ·exact .inl e
        ·rcases HV.out with e2|⟨g,e2,hg⟩
         ·exact .inr (by rw[<-e2];exact e)
         ·rw[e2]at e;cases e;omega))
       clear t7 KR2 KR
       go_wp2
       refine⟨rfl,?_⟩
       rw[<-HA.out,<-HZ.out]
       exact⟨rfl,TT.out⟩
     | .ok (y,⟨k2,f2,ns2⟩)=>
       simp only at HZ
       unfold J0 at KR2
       simp only at KR2
       have HF2:=b6 (HF1.out _ _ rfl)
       have HG2:=b6 (HG1.out _ _ rfl)
       clear HF1 HG1
       go_wp2_with fail
       refine KR2.out.mono ?_
       rintro e w7 ⟨c2,vn3,rfl,ht7,hp7,hn7,t7⟩
       have HPL:=b6 (fun g e=>PC.out.lt (g:=g) e)
       have HQ4:=b6 (lt_of_block QB.out)
       have HS6:=b6 TT.out.size
       replace TT:=b6 (TT.out.trans t7 (fun i hi e=>by
        rcases e with e|e
        ·exact .inl e
        ·rcases HV.out with e2|⟨g,e2,hg⟩
         ·exact .inr (by rw[<-e2];exact e)
         ·rw[e2]at e;cases e;omega))
       replace HV:=b6 (show vn3.ownBlock=vn.ownBlock∨∃g,vn3.ownBlock=some g/\w.heap.size<=g from by
        rcases hn7 with e|⟨g,e,hg⟩
        ·rw[e];exact HV.out
        ·exact .inr ⟨g,e,Nat.le_trans HS6.out hg⟩)
       replace QB:=b6 ((t7.block q (lt_of_block QB.out) (fun e=>by
        rcases e with e|e
        ·have:=HQ.out;omega
        ·exact HP.out.notN QB.out (by decide) e)).trans QB.out)
       replace PC:=b6 (PC.out.kept t7 (fun g e=>HP.out.nt e))
       replace HP:=b6 hp7
       have HX7:=b6 ht7
       have HB7:=b6 (show ∀g,(False∨(w2.heap.size<=g/\g<w7.heap.size))->((q+1<=g/\g<w7.heap.size)/\(Value.slice a3 cs.length c3).ownBlock≠some g)from fun g e=>by
        have h1:=HQ4.out
        rcases e with e|e
        ·exact e.elim
        ·exact⟨⟨by omega,e.2⟩,fun e2=>by have:=HPL.out g e2;omega⟩)
       have HLO:=b6 (show q+1<=w7.heap.size from lt_of_block QB.out)
       have hnb:cs.length<=1025:=by have:=PC.out.len;have:=HL.out;omega
       clear t7 KR2 hp7 hn7 ht7 HPL HQ4 HS6
       obtain⟨dk,ta,tn,tc,go,ni,na,ma2,da,om,la2,ln,lc⟩:=c2
       unfold j4.arr
       go_wp2_with (at_builtin;refine wpList_append_own_at _ rfl _ _ 26 rfl 0 28 i0 (.agg j4.zero.arr) 9 112 Tryz.underlying26 hi28 hz0 hz1 hz2 rfl (by decide) _ _ _ rfl (PC.out.own.alloc _) ⟨w7.heap.size,0,none⟩ 1 1 (j4.list ⟨dk,ta,tn,tc,go,ni,na,ma2,da,om,la2,ln,lc⟩) rfl rfl (z7 w7 (j4.list ⟨dk,ta,tn,tc,go,ni,na,ma2,da,om,la2,ln,lc⟩) 28) (IM ⟨dk,ta,tn,tc,go,ni,na,ma2,da,om,la2,ln,lc⟩) (by unfold maxLen;omega) (by omega) (Nat.zero_le _) ?_)
       intro v' w9 hown hgrow _ hat
       have PX:=PC.out.push HX7.out HB7.out HLO.out hown hgrow (by simpa using hat)
       have PC9:=b6 PX.1
       have HP9:=b6 (HP.out.far PX.2 (fun g e=>⟨by have:=PC.out.new g e;have:=HQ.out;omega,fun cs2 fr hh=>by
        obtain⟨cs3,fr3,hh3⟩:=j5 PC.out.own g e
        rw[hh3]at hh
        cases hh⟩))
       have QB9:=b6 ((PX.2.block q (lt_of_block QB.out) (fun e=>by have:=PC.out.new q e;omega)).trans QB.out)
       have TT9:=b6 (TT.out.trans PX.2 (fun i hi e=>by have:=PC.out.new i e;have:=HQ.out;omega))
       clear PX hown hgrow hat PC HP QB TT HX7 HB7 HLO
       go_wp2
       go_roundg gk
       case measure=>omega
       case rel=>exact⟨⟨k2,f2,ns2⟩,l++ [y],_,vn3,by have:=HF2.out;simp only at*;omega,b6 HF2.out.2,HZ,b6 (by have:=HF2.out;have:=HG2.out;have:=HN.out;simp only at*;omega),b6 (by have:=HF2.out;have:=HL.out;rw[List.length_append];simp only[List.length_singleton]at*;omega),HP9,PC9,HV,QB9,TT9⟩
    ·rw[if_neg h124]at HZ
     have KT:=b6 (o6 124 HP.out (by omega) h124)
     clear KR HCF HCG
     go_wp2_with fail
     refine KT.out.mono ?_
     rintro e w2 ⟨rfl,hp2,t2⟩
     replace PC:=b6 (PC.out.kept t2 (fun g e=>HP.out.nt (.inl e)))
     replace QB:=b6 ((t2.block q (lt_of_block QB.out) (fun e=>by have:=HQ.out;omega)).trans QB.out)
     replace HP:=b6 hp2
     replace TT:=b6 (TT.out.trans t2 (fun _ _ e=>.inl e))
     clear t2 KT hp2
     have K7:=b6 (PC.out.all 9)
     go_wp2_with fail
     refine K7.out.mono ?_
     rintro e w3 ⟨c,rfl,ht,t3⟩
     have HT:=b6 ht
     replace HP:=b6 (HP.out.new t3)
     replace QB:=b6 ((t3.block q (lt_of_block QB.out) id).trans QB.out)
     replace TT:=b6 (TT.out.trans t3 nE)
     clear ht t3 K7 PC
     obtain⟨ck,sa,sn,sc,fo,mi,ma,la,ca,nm,ka,kn,kc⟩:=c
     unfold j4.arr
     go_wp2_with (first|refine wpList_store_row rfl 28 _ _ rfl q _ rfl rfl 28 _ QB.out l7 (by rfl) (j4.one ⟨ck,sa,sn,sc,fo,mi,ma,la,ca,nm,ka,kn,kc⟩) ?_|fail)
     refine bodyPost_ret (o9 rfl _ _ q 28 _ (0,0) _ rfl (setRow_heap _ q _ _ 28 (0,0) QB.out) Tryz.underlying28 rfl (by kernel_rfl)) rfl ?_
     rw[<-HA.out,<-HZ.out]
     have TR:=g8 w3 q #[.int .i64 ck,.slice sa sn sc,.bool fo,.int .i64 mi,.int .i64 ma,.bool la,.int .i64 ca,.string nm,.slice ka kn kc]
     refine⟨⟨ck,sa,sn,sc,fo,mi,ma,la,ca,nm,ka,kn,kc⟩,vn',rfl,?_,HP.out.row HQ.out.2 QB.out,HV.out,TT.out.trans TR (fun i hi e=>by have:=HQ.out;omega)⟩
     exact(HT.out.kept TR (fun g hg s=>by omega)).more (fun g hg=>.inr ⟨by have:=HQ.out;omega,Nat.lt_of_lt_of_le hg.2 TR.size⟩)
theorem PL (b:Nat)(X:Px)(hX:X.Good):∀(n op:Nat),op+n=32->Ny b X op (B7 X.R b8 n)
 |0,op,e=>fun w k f vn ns h hk hN=>IA b X k f vn ns op none w h hX hk hN (show op=32 by omega)
 |n+1,op,e=>fun w k f vn ns h hk hN=>IA b X k f vn ns op (some (B7 X.R b8 n)) w h hX hk hN ⟨by omega,B8 X.R b8 n,Cz X.R b8 n,PL b X hX n (op+1) (by omega)⟩
end Go.Proofs.YtdhhcefmmojcmaaGreatDoor
