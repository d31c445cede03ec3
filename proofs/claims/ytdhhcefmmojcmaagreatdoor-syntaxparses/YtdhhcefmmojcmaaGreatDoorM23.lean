/- Texts of this proof, one behind the other. -/
import Derived.Test.YtdhhcefmmojcmaaGreatDoorM22
set_option maxRecDepth 100000
set_option maxHeartbeats 0
set_option linter.unusedVariables false
namespace Go.Proofs.YtdhhcefmmojcmaaGreatDoor
open Go.RowKit Go.Lib
theorem Vi:(Tryz.prog.info? 9).map (fun i=>(i.zero,i.size,i.bytes))=some (some (.string ⟨#[]⟩),1,16):=by kernel_rfl
theorem PS.named {w w4:World}{b:Nat}{X:Px}{k:Nat}{f:Fl}{a:Option Addr}{n c:Nat}{ns:List ByteArray}{op:Nat}{v':Value}{K:ByteArray}{o:Obj}(h:PS w b X k f (.slice a n c) ns op)(hb:b<w.heap.size)
 (hn:n=ns.length) (hown:w4.ownsRow 0 9 1 v' (n+1) (ns.map Value.string++ [.string K])) (hg:(w.alloc o).grownBy w4 (Value.slice a n c).ownBlock) (hat:v'.ownBlock=(Value.slice a n c).ownBlock∨v'.ownBlock=some (w.heap.size+1)):
 PS (w4.setCell ⟨b,10,none⟩ v') b X k f v' (ns++ [K]) op/\b7 (fun g=>g=b∨(Value.slice a n c).ownBlock=some g) w (w4.setCell ⟨b,10,none⟩ v'):=by
 have TG:b7 (fun k=>(Value.slice a n c).ownBlock=some k) w w4:=b7.grown ((b7.refl _ w).alloc o) hg (fun k e _=>e)
 have C4:=(TG.block b hb (fun e=>h.apart e)).trans h.cells
 have TS:=d9 w4 b 10 v'
 have hv:v'.ownBlock≠some b:=fun e=>by
  rcases hat with e2|e2
  ·exact h.apart (by rw[<-e2];exact e)
  ·rw[e2]at e
   cases e
   omega
 have T:b7 (fun g=>g=b∨(Value.slice a n c).ownBlock=some g) w (w4.setCell ⟨b,10,none⟩ v'):=b7.trans (TG.mono (fun _ _ e=>.inr e)) TS (fun _ _ e=>.inl e)
 have lowS:∀g,g=b∨(Value.slice a n c).ownBlock=some g->7<=g:=fun g e=>by
  rcases e with e|e
  ·subst e;exact h.low
  ·exact h.lowN g e
 refine⟨⟨i8 C4 10 v',?_,?_,?_,h.oldR,h.oldP,h.env.kept T lowS,h.low,fun g e=>?_,fun g o e=>?_⟩,T⟩
 ·exact Io.kept (Io.kept h.runes TG (fun g o e=>h.apN g o (.inl e)) (fun g o hl e=>AM (by rw[<-e];exact h.runes) hl)) TS (fun g o e x=>by have:=h.oldR g o e;omega) (fun g o hl e=>Nat.lt_of_lt_of_le (AM (by rw[<-e];exact h.runes) hl) TG.size)
 ·exact Io.kept (Io.kept h.places TG (fun g o e=>h.apN g o (.inr e)) (fun g o hl e=>AM (by rw[<-e];exact h.places) hl)) TS (fun g o e x=>by have:=h.oldP g o e;omega) (fun g o hl e=>Nat.lt_of_lt_of_le (AM (by rw[<-e];exact h.places) hl) TG.size)
 ·have:=g9 hown TS (fun g e e2=>by subst e2;exact hv e)
  unfold SL
  rw[List.length_append,List.map_append,<-hn]
  exact this
 ·rcases hat with e2|e2
  ·exact h.lowN g (by rw[<-e2];exact e)
  ·rw[e2]at e
   cases e
   have:=h.low
   omega
 ·rcases hat with e2|e2
  ·rw[e2]
   exact h.apN g o e
  ·intro e3
   rw[e2]at e3
   cases e3
   rcases e with e|e
   ·have:=h.oldR _ o e
    omega
   ·have:=h.oldP _ o e
    omega
theorem PS.grown_cells {w w4:World}{b:Nat}{X:Px}{k:Nat}{f:Fl}{vn:Value}{ns:List ByteArray}{op:Nat}{o:Obj}(h:PS w b X k f vn ns op)(hg:(w.alloc o).grownBy w4 vn.ownBlock):w4.heap[b]? =some (.cells (X.cells k f vn op) 74 (0,0))/\b7 (fun k=>vn.ownBlock=some k) w w4:=by
 have TG:b7 (fun k=>vn.ownBlock=some k) w w4:=b7.grown ((b7.refl _ w).alloc o) hg (fun k e _=>e)
 exact⟨(TG.block b h.lt (fun e=>h.apart e)).trans h.cells,TG⟩
theorem JP (w:World)(K:ByteArray):∀j u,([.string K]:List Value)[j]? =some u->(w.alloc (.cells #[.string K] 9)).cell? ((⟨w.heap.size,0,none⟩:Addr).add j)=some u:=z7 w [.string K] 9
theorem Gr (b:Nat)(X:Px)(k0 k:Nat)(f:Fl)(vn:Value)(ns:List ByteArray)(op:Nat)(name:ByteArray)(alt:A8)(w:World)(h:PS w b X k f vn ns op)(hX:X.Good)(hk:k<=X.R.length)(hk0:k0<=X.R.length)(hop:op<=31)(hN:ns.length<=k)(hF:Ah X.R alt)(hs:Ny b X (op+1) alt):
 Calls Tryz.prog 127 #[.pointer (some ⟨b,0,none⟩),.int .i64 (k0:Nat),.string name] w fun e w'=>J0 b X vn op (fun _=>False) w (G5 X.R alt k0 ⟨k,f,ns⟩ name) e w':=by
 obtain⟨i0,hi9,hz0,hz1,hz2⟩:=info_parts Vi
 obtain⟨A,hA⟩:∃A,A=G5 X.R alt k0 ⟨k,f,ns⟩ name:=⟨_,rfl⟩
 have HA:=b6 hA.symm
 rw[<-hA]
 unfold G5 at HA
 simp only at HA
 clear hA
 obtain⟨fi,fm,fs,fu⟩:=f
 have KW:=b6 (fun w' vn' hp=>Cw b X k0 k ⟨fi,fm,fs,fu⟩ ⟨fi,fm,fs,fu⟩ vn' (ns++ [name]) op alt w' hp hX hk hk0 hop (by rw[List.length_append];simp only[List.length_singleton];omega) hF hs)
 have HNB:=b6 (show ns.length<=1024 from by have:=hX.lenR;omega)
 clear hX hk hk0 hop hF hs hN
 obtain⟨an,cn,hvn⟩:=e9 h.names
 subst hvn
 obtain⟨N,hN⟩:∃N,N=ns.length:=⟨_,rfl⟩
 have HN:=b6 hN
 rw[<-hN]at h HNB HA⊢
 have hNb:N<=1024:=HNB.out
 clear hN
 have T1:=b6 ((tZ w).alloc (.cells #[.int .i64 0,.slice none 0 0,.bool false,.int .i64 0,.int .i64 0,.bool false,.int .i64 0,.string ⟨#[]⟩,.slice none 0 0] 28))
 have Q1:=b6 (e8 w #[.int .i64 0,.slice none 0 0,.bool false,.int .i64 0,.int .i64 0,.bool false,.int .i64 0,.string ⟨#[]⟩,.slice none 0 0] 28)
 have HP:=b6 (h.new T1.out)
 have hlt:=h.lt
 clear h
 go_enter Tryz.func127,Tryz.ntmps127
 go_upto_region 1 with fail
 generalize w.alloc (.cells #[.int .i64 0,.slice none 0 0,.bool false,.int .i64 0,.int .i64 0,.bool false,.int .i64 0,.string ⟨#[]⟩,.slice none 0 0] 28)=w1 at*
 obtain⟨qr,hqr⟩:∃q,q=w.heap.size:=⟨_,rfl⟩
 have HQ:=b6 (show w.heap.size<=qr/\b<qr from⟨by omega,by omega⟩)
 rw[<-hqr]at Q1⊢
 clear hqr hlt
 have c10:=HP.out.c10
 have f10:=HP.out.fr 10
 go_upto_region 2 with fail
 have c10a:=(HP.out.new ((tZ w1).alloc (.cells #[.string name] 9))).c10
 have HO:=b6 (show w1.ownsRow 0 9 1 (.slice an N cn) N (ns.map Value.string)from by have:=HP.out.names;unfold SL at this;rw[<-HN.out]at this;exact this)
 go_wp2_with (at_builtin;refine wpList_append_own_at _ rfl _ _ 29 rfl 0 9 i0 (.string ⟨#[]⟩) 1 16 Tryz.underlying29 hi9 hz0 hz1 hz2 rfl (by decide) _ _ _ rfl (HO.out.alloc _) ⟨w1.heap.size,0,none⟩ 1 1 [.string name] rfl rfl (JP w1 name) (by intro u hu;simp at hu;subst hu;rfl) (by unfold maxLen;omega) (by omega) (Nat.zero_le _) ?_)
 intro v' w4 hown hgrow _ hat
 obtain⟨HN4,TN4⟩:=HP.out.named (K:=name) HP.out.lt HN.out hown hgrow hat
 obtain⟨C4,TG⟩:=HP.out.grown_cells hgrow
 have d10:w4.cell? ⟨b,10,none⟩=some (.slice an N cn):=by unfold World.cell?;rw[C4];rfl
 have g10:w4.frozen? ⟨b,10,none⟩=false:=by unfold World.frozen?;rw[C4];rfl
 have Q4:=b6 ((TG.block qr (lt_of_block Q1.out) (fun e=>HP.out.notN Q1.out (by decide) e)).trans Q1.out)
 have HS4:=b6 TG.size
 obtain⟨a',c',hv'⟩:=e9 hown
 subst hv'
 have HAT:=b6 hat
 have H5:=b6 HN4
 have T5:=b6 ((T1.out.mono (S':=fun g=>g=b∨(Value.slice an N cn).ownBlock=some g) nE).trans TN4 iE)
 have TS:=d9 w4 b 10 (.slice a' (N+1) c')
 have Q5:=b6 ((TS.block qr (lt_of_block Q4.out) (fun e=>by have:=HQ.out;omega)).trans Q4.out)
 have HS5:=b6 (show w1.heap.size<=(w4.setCell ⟨b,10,none⟩ (.slice a' (N+1) c')).heap.size from Nat.le_trans HS4.out TS.size)
 have HS1:=b6 (show w.heap.size<=w1.heap.size/\qr<w1.heap.size from⟨T1.out.size,lt_of_block Q1.out⟩)
 clear TS TG C4 hown hgrow hat HN4 TN4 HO c10 f10 c10a HP Q1 Q4 T1 HS4
 go_upto_region 3 with fail
 clear d10 g10
 generalize w4.setCell ⟨b,10,none⟩ (.slice a' (N+1) c')=w5 at*
 obtain⟨⟨c6,c7,c8,c9⟩,f6,f7,f8,f9⟩:=H5.out.c69
 dsimp only at c6 c7 c8 c9
 clear f6 f7 f8 f9
 have KE:=b6 (KW.out w5 _ H5.out)
 change Hid (Calls Tryz.prog 129 #[.pointer (some ⟨b,0,none⟩),.int .i64 (k0:Nat),.agg #[.bool fi,.bool fm,.bool fs,.bool fu]] _ _)at KE
 clear KW
 generalize D8 X.R alt k0 ⟨k,⟨fi,fm,fs,fu⟩,ns++ [name]⟩ ⟨fi,fm,fs,fu⟩=r at*
 match r with
 | .error (ec,ej)=>
   unfold J0 u6 at KE
   go_wp2_with fail
   refine KE.out.mono ?_
   rintro e w6 ⟨rfl,tt⟩
   have T6:=b6 (T5.out.trans tt (fun i hi e=>by
    rcases e with e|e
    ·exact .inl e
    ·rcases HAT.out with e2|e2
     ·exact .inr (by rw[<-e2];exact e)
     ·rw[e2]at e
      cases e
      have:=HS1.out
      omega))
   clear tt KE
   go_wp2
   refine⟨rfl,?_⟩
   rw[<-HA.out]
   exact⟨rfl,T6.out⟩
 | .ok (x,⟨k1,f1,ns1⟩)=>
   unfold J0 at KE
   simp only at HA
   go_wp2_with fail
   refine KE.out.mono ?_
   rintro e w6 ⟨⟨ck,sa,sn,sc,fo,mi,ma,la,ca,nm,ka,kn,kc⟩,vn',he,htn,hp,hvn,tt⟩
   change e=.returned (.agg #[.int .i64 ck,.slice sa sn sc,.bool fo,.int .i64 mi,.int .i64 ma,.bool la,.int .i64 ca,.string nm,.slice ka kn kc])at he
   subst he
   have H6:=b6 hp
   have HVN:=b6 hvn
   have X6:=b6 htn
   have T6:=b6 (T5.out.trans tt (fun i hi e=>by
    rcases e with e|e
    ·exact .inl e
    ·rcases HAT.out with e2|e2
     ·exact .inr (by rw[<-e2];exact e)
     ·rw[e2]at e
      cases e
      have:=HS1.out
      omega))
   have Q6:=b6 ((tt.block qr (lt_of_block Q5.out) (fun e=>by rcases e with e|e;(have:=HQ.out;omega);exact H5.out.notN Q5.out (by decide) e)).trans Q5.out)
   have HS6:=b6 (show w5.heap.size<=w6.heap.size from tt.size)
   clear hp htn tt hvn KE H5 Q5 T5 c6 c7 c8 c9
   go_upto_region 4 with(first|refine wpList_store_row rfl 28 _ _ rfl w6.heap.size _ rfl rfl 28 _ (e8 w6 _ 28) l7 (by rfl) (j4.one ⟨ck,sa,sn,sc,fo,mi,ma,la,ca,nm,ka,kn,kc⟩) ?_|fail)
   have TA:=b6 (((tZ w6).alloc (.cells #[.int .i64 0,.slice none 0 0,.bool false,.int .i64 0,.int .i64 0,.bool false,.int .i64 0,.string ⟨#[]⟩,.slice none 0 0] 28)).trans (g8 (w6.alloc (.cells #[.int .i64 0,.slice none 0 0,.bool false,.int .i64 0,.int .i64 0,.bool false,.int .i64 0,.string ⟨#[]⟩,.slice none 0 0] 28)) w6.heap.size #[.int .i64 ck,.slice sa sn sc,.bool fo,.int .i64 mi,.int .i64 ma,.bool la,.int .i64 ca,.string nm,.slice ka kn kc]) (fun i hi e=>by omega))
   have R7:=b6 (setRow_heap (w6.alloc (.cells #[.int .i64 0,.slice none 0 0,.bool false,.int .i64 0,.int .i64 0,.bool false,.int .i64 0,.string ⟨#[]⟩,.slice none 0 0] 28)) w6.heap.size _ #[.int .i64 ck,.slice sa sn sc,.bool fo,.int .i64 mi,.int .i64 ma,.bool la,.int .i64 ca,.string nm,.slice ka kn kc] 28 (0,0) (e8 w6 _ 28))
   obtain⟨q8,hq8⟩:∃q,q=w6.heap.size:=⟨_,rfl⟩
   have HQ8:=b6 (show qr<q8 by rw[hq8];exact lt_of_block Q6.out)
   have HQ9:=b6 (show q8=w6.heap.size from hq8)
   change Hid (b7 _ _ ((w6.alloc (Obj.cells #[.int .i64 0,.slice none 0 0,.bool false,.int .i64 0,.int .i64 0,.bool false,.int .i64 0,.string ⟨#[]⟩,.slice none 0 0] 28)).setRow w6.heap.size #[.int .i64 ck,.slice sa sn sc,.bool fo,.int .i64 mi,.int .i64 ma,.bool la,.int .i64 ca,.string nm,.slice ka kn kc]))at TA
   rw[<-hq8]at TA R7⊢
   change Hid (((w6.alloc (Obj.cells #[.int .i64 0,.slice none 0 0,.bool false,.int .i64 0,.int .i64 0,.bool false,.int .i64 0,.string ⟨#[]⟩,.slice none 0 0] 28)).setRow q8 #[.int .i64 ck,.slice sa sn sc,.bool fo,.int .i64 mi,.int .i64 ma,.bool la,.int .i64 ca,.string nm,.slice ka kn kc]).heap[q8]? =_)at R7
   have H7:=b6 (H6.out.new TA.out)
   have X7:=b6 (X6.out.new TA.out)
   have T7:=b6 (T6.out.trans TA.out nE)
   have Q7:=b6 ((TA.out.block qr (lt_of_block Q6.out) id).trans Q6.out)
   have HS7:=b6 (show w6.heap.size<=((w6.alloc (.cells #[.int .i64 0,.slice none 0 0,.bool false,.int .i64 0,.int .i64 0,.bool false,.int .i64 0,.string ⟨#[]⟩,.slice none 0 0] 28)).setRow q8 #[.int .i64 ck,.slice sa sn sc,.bool fo,.int .i64 mi,.int .i64 ma,.bool la,.int .i64 ca,.string nm,.slice ka kn kc]).heap.size from TA.out.size)
   have HS7b:=b6 (show q8<((w6.alloc (.cells #[.int .i64 0,.slice none 0 0,.bool false,.int .i64 0,.int .i64 0,.bool false,.int .i64 0,.string ⟨#[]⟩,.slice none 0 0] 28)).setRow q8 #[.int .i64 ck,.slice sa sn sc,.bool fo,.int .i64 mi,.int .i64 ma,.bool la,.int .i64 ca,.string nm,.slice ka kn kc]).heap.size from lt_of_block R7.out)
   clear TA hq8 H6 X6 T6 Q6
   generalize (w6.alloc (.cells #[.int .i64 0,.slice none 0 0,.bool false,.int .i64 0,.int .i64 0,.bool false,.int .i64 0,.string ⟨#[]⟩,.slice none 0 0] 28)).setRow q8 #[.int .i64 ck,.slice sa sn sc,.bool fo,.int .i64 mi,.int .i64 ma,.bool la,.int .i64 ca,.string nm,.slice ka kn kc]=w7 at*
   have K8:=b6 (Lg w7 ⟨ck,sa,sn,sc,fo,mi,ma,la,ca,nm,ka,kn,kc⟩)
   change Hid (CL (w7.alloc (Obj.cells #[.int .i64 ck,.slice sa sn sc,.bool fo,.int .i64 mi,.int .i64 ma,.bool la,.int .i64 ca,.string nm,.slice ka kn kc] 28)) _ _)at K8
   have TB:=b6 ((tZ w7).alloc (.cells #[.int .i64 ck,.slice sa sn sc,.bool fo,.int .i64 mi,.int .i64 ma,.bool la,.int .i64 ca,.string nm,.slice ka kn kc] 28))
   obtain⟨qk,hqk⟩:∃q,q=w7.heap.size:=⟨_,rfl⟩
   have HQK:=b6 (show q8<qk/\qk<(w7.alloc (.cells #[.int .i64 ck,.slice sa sn sc,.bool fo,.int .i64 mi,.int .i64 ma,.bool la,.int .i64 ca,.string nm,.slice ka kn kc] 28)).heap.size from⟨by have:=HS7b.out;omega,by rw[hqk];simp⟩)
   have HQK2:=b6 (show w6.heap.size<=qk by have:=HS7.out;omega)
   have H8:=b6 (H7.out.new TB.out)
   have X8:=b6 (X7.out.new TB.out)
   have T8:=b6 (T7.out.trans TB.out nE)
   have Q8:=b6 ((TB.out.block qr (lt_of_block Q7.out) id).trans Q7.out)
   rw[<-hqk]at K8
   clear TB H7 X7 T7 Q7 HS7b
   go_wp2_with (first|refine wpList_load_row rfl 28 _ rfl q8 rfl 28 _ (0,0) _ R7.out Tryz.underlying28 rfl l7 ?_|refine wpList_store_row rfl 28 _ _ rfl qr _ rfl rfl 28 _ Q8.out l7 (by rfl) (j4.one ⟨11,none,0,0,false,0,0,false,(N:Int),name,some ⟨w7.heap.size,0,none⟩,1,1⟩) ?_|fail)
   rw[<-hqk]
   refine bodyPost_ret (o9 rfl _ _ qr 28 _ (0,0) _ rfl (setRow_heap _ qr _ _ 28 (0,0) Q8.out) Tryz.underlying28 rfl (by kernel_rfl)) rfl ?_
   rw[<-HA.out]
   generalize w7.alloc (.cells #[.int .i64 ck,.slice sa sn sc,.bool fo,.int .i64 mi,.int .i64 ma,.bool la,.int .i64 ca,.string nm,.slice ka kn kc] 28)=w8 at*
   have TR:=g8 w8 qr (j4.arr ⟨11,none,0,0,false,0,0,false,(N:Int),name,some ⟨qk,0,none⟩,1,1⟩)
   refine⟨⟨11,none,0,0,false,0,0,false,(N:Int),name,some ⟨qk,0,none⟩,1,1⟩,vn',rfl,?_,H8.out.row (by have:=HQ.out;omega) Q8.out,?_,T8.out.trans TR (fun i hi e=>by have:=HQ.out;omega)⟩
   ·have:=(X8.out.kept TR (fun g hg e=>by rcases hg with hg|hg;exact hg.elim;(have:=HS1.out;have:=HS5.out;omega))).more (B':=fun g=>False∨(w.heap.size<=g/\g<(w8.setRow qr (j4.arr ⟨11,none,0,0,false,0,0,false,(N:Int),name,some ⟨qk,0,none⟩,1,1⟩)).heap.size)) (fun g hg=>by
     rcases hg with hg|hg
     ·exact hg.elim
     ·have:=HS1.out;have:=HS5.out;have:=HQK.out;have:=HQK2.out;have:=TR.size;exact .inr ⟨by omega,by omega⟩)
    exact TN.one this 11 0 0 (N:Int) false false name ⟨qk,0,none⟩ (g9 K8.out TR (fun g e s=>by obtain rfl:qk=g:=Option.some.inj e;have:=HQK.out;have:=HQ8.out;omega)) (fun g e=>by
     obtain rfl:qk=g:=Option.some.inj e
     have:=HQK.out;have:=HQ8.out;have:=HQ.out;have:=TR.size
     exact .inr ⟨by omega,by omega⟩)
   ·rcases HVN.out with e|⟨g,e1,e2⟩
    ·rcases HAT.out with e3|e3
     ·exact .inl (e.trans e3)
     ·exact .inr ⟨_,e.trans e3,by have:=HS1.out;omega⟩
    ·exact .inr ⟨g,e1,by have:=HS1.out;have:=HS5.out;omega⟩
theorem Oo (K x:ByteArray)(l:List ByteArray):S5 K (x::l)=(decide (x=K)||S5 K l):=by simp[S5]
theorem Un (a b:ByteArray):(a.toList==b.toList)=decide (a=b):=by
 rw[Bool.eq_iff_iff,decide_eq_true_eq,beq_iff_eq,Lib.toList_data,Lib.toList_data]
 constructor
 ·intro h;exact ByteArray.ext (Array.ext' h)
 ·intro h;rw[h]
theorem On (v:Value)(ns:List ByteArray)(K:ByteArray)(w:World)(hs:SL w v ns)(hb:ns.length<=1048576):
 Calls Tryz.prog 150 #[v,.string K] w fun e w'=>∃j:Int,e=.returned (.int .i64 j)/\decide (0<=j)=S5 K ns/\w'=w:=by
 obtain⟨a,c,hv⟩:=e9 hs
 subst hv
 obtain⟨A,hA⟩:∃A,A=S5 K ns:=⟨_,rfl⟩
 have HA:=b6 hA.symm
 rw[<-hA]
 clear hA
 obtain⟨n,hn⟩:∃n,n=ns.length:=⟨_,rfl⟩
 have HN:=b6 hn
 have HS:=b6 hs
 rw[<-hn]at hb⊢
 clear hn hs
 go_enter Tryz.func150,Tryz.ntmps150
 go_wp2_with fail
 go_loopg [8] n (fun gk u wq=>∃i:Nat,i+gk=n/\u=.int .i64 (i:Nat)/\Hid (S5 K (ns.drop i)=A)/\wq=w)
 case atStart=>exact⟨0,by omega,rfl,HA,rfl⟩
 case round=>
  obtain⟨i,hi,rfl,HD,rfl⟩:=hrel
  by_cases hlt:i<n
  ·have hl:(i:Int)<(n:Int):=by omega
   have hlt2:i<ns.length:=by rw[<-HN.out];exact hlt
   rw[List.drop_eq_getElem_cons hlt2,Oo]at HD
   obtain⟨x,hx⟩:∃x,x=ns[i]:=⟨_,rfl⟩
   rw[<-hx]at HD
   obtain⟨g,ha⟩:∃g,a=some ⟨g,0,none⟩:=by
    rcases HS.out.2 with⟨hv,h0⟩|⟨g,cap,cur,hv,_⟩
    ·rw[h0]at hlt2;omega
    ·cases hv;exact⟨g,rfl⟩
   subst ha
   have d0:wr.cell? ⟨g,i,none⟩=some (.string x):=by
    have:=HS.out.cells (g:=g) rfl i (.string x) (by rw[List.getElem?_map,List.getElem?_eq_getElem hlt2,hx];rfl)
    rwa [Ai]at this
   clear hx hlt2
   by_cases he:x=K
   ·subst he
    rw[decide_eq_true rfl,Bool.true_or]at HD
    go_wp2_with fail
    go_wp2
    go_ret
    exact⟨_,rfl,by rw[<-HD.out];simp,rfl⟩
   ·rw[decide_eq_false he,Bool.false_or]at HD
    have s1:(K.toList==x.toList)=false:=by rw[Un];exact decide_eq_false (fun e=>he e.symm)
    have s3:¬K=x:=fun e=>he e.symm
    go_wp2
    go_roundg (gk-1)
    case measure=>omega
    case rel=>exact⟨i+1,by omega,by go_num,HD,rfl⟩
  ·have hl:¬(i:Int)<(n:Int):=by omega
   rw[List.drop_eq_nil_of_le (by have:=HN.out;omega)]at HD
   go_wp2
   go_ret
   exact⟨_,rfl,by rw[<-HD.out];rfl,rfl⟩
theorem CI (v:Value)(ns:List ByteArray)(K:ByteArray)(w:World)(hs:SL w v ns)(hb:ns.length<=1048576):
 Calls Tryz.prog 139 #[v,.string K] w fun e w'=>e=.returned (.bool (S5 K ns))/\w'=w:=by
 have K1:=b6 (On v ns K w hs hb)
 obtain⟨a,c,hv⟩:=e9 hs
 subst hv
 clear hs hb
 generalize S5 K ns=A at*
 go_enter Tryz.func139,Tryz.ntmps139
 go_wp2_with fail
 refine K1.out.mono ?_
 rintro e w1 ⟨j,rfl,hj,rfl⟩
 have HJ:=b6 hj
 clear hj K1
 go_wp2
 go_ret
 exact⟨by rw[<-HJ.out];first|rfl|simp,rfl⟩
def PH (b:Nat)(X:Px)(f:Fl)(vn:Value)(ns:List ByteArray)(op:Nat)(w:World):PR (ByteArray×Nat)->Ending->World->Prop
 | .error (c,j),e,w'=>e=u6 c (g7 X.P j)/\b7 (fun g=>g=b) w w'
 | .ok (nm,k1),e,w'=>e=.returned (.string nm)/\PS w' b X k1 f vn ns op/\b7 (fun g=>g=b) w w'
theorem Vm (c:Int)(h:C2 c=true):c<128:=by
 simp only[C2,u5,p4,Y6,Bool.or_eq_true,Bool.and_eq_true,decide_eq_true_eq]at h
 omega
theorem Re (b:Nat)(X:Px)(k0 k:Nat)(f:Fl)(vn:Value)(ns:List ByteArray)(op:Nat)(w:World)(h:PS w b X k f vn ns op)(hX:X.Good)(hk:k<=X.R.length)(hk0:k0<=X.R.length)(hN:ns.length<=4096):
 Calls Tryz.prog 128 #[.pointer (some ⟨b,0,none⟩),.int .i64 (k0:Nat)] w fun e w'=>PH b X f vn ns op w (W3 X.R k0 ns k) e w':=by
 have hmf:∀(fn:Fn) (first cap:Array Value) (w:World),(Instr.makeFunc fn first cap).run Tryz.prog w=.ok (.func fn first cap) w:=fun _ _ _ _=>rfl
 have HRl:=b6 hX.lenR
 have hk2:k<=1024:=by have:=HRl.out;omega
 obtain⟨A,hA⟩:∃A,A=W3 X.R k0 ns k:=⟨_,rfl⟩
 have HA:=b6 hA.symm
 rw[<-hA]
 unfold W3 at HA
 simp only at HA
 clear hA
 have HK:=b6 h
 have TK:=b6 (b7.refl (fun g=>g=b) w)
 have KW:=b6 (fun k1 w' hp=>A1 b X k1 f vn ns op 25 k0 w' hp (by have:=hX.lenP;omega))
 by_cases h60:g7 X.R k=60
 ·rw[if_pos h60]at HA
  have hk3:k+1<=X.R.length:=j9 h60 (by decide)
  obtain⟨l,hl⟩:∃l,l6 X.R C2 32 (k+1)=l:=⟨_,rfl⟩
  have K2:=b6 (fun a c w1 (hp:PS w1 b X (k+1) f vn ns op) ho=>AQ b X (k+1) f vn ns op a c 32 32 rfl (s9 Tr) C2 w1 hp hX hk3 (by omega) ho (r7 _).1 Tl rfl Vm l hl)
  have hle:=Dz (R:=X.R) (p:=C2) rfl 32 (k+1) hk3
  rw[hl]at HA hle
  clear h hX hk hk0 hk3
  by_cases h0:l=[]
  ·subst h0
   rw[if_neg (fun e=>e.1 rfl)]at HA
   clear hl hle
   go_enter Tryz.func128,Tryz.ntmps128
   go_wp2_with fail
   refine(o7 60 HK.out (by omega) h60).mono ?_
   rintro e ws1 ⟨rfl,hp,tt⟩
   replace HK:=b6 hp
   replace TK:=b6 (TK.out.trans tt iE)
   clear hp tt
   clear h60
   go_wp2_with fail
   have Mk0:True:=trivial
   go_region_with (first
    |(clear Mk0;go_at_call 138;refine(BU _).mono ?_;rintro e w1 ⟨v,rfl,o1⟩;obtain⟨a1,c1,hv,_⟩:=o1.slice;subst hv;have T1:=b6 ((tZ ws1).drew.trans o1.touch iE);have K3:=b6 (K2.out a1 c1 w1 (HK.out.new T1.out) o1.own);clear o1 K2;have Mk1:True:=trivial)
    |(clear Mk1;go_at_call 137;refine K3.out.mono ?_;rintro e w2 ⟨rfl,hp2,t2⟩;replace HK:=b6 hp2;replace TK:=b6 ((TK.out.trans T1.out nE).trans t2 iE);clear hp2 t2 K3 T1))
   have hz1:(i7 []).toList.isEmpty=true:=by rw[Lib.toList_data];rfl
   have hz2:((i7 []).toList==([]:List UInt8))=true:=by rw[Lib.toList_data];rfl
   go_wp2_with fail
   refine(KW.out _ _ HK.out).mono ?_
   rintro e w9 ⟨rfl,t9⟩
   replace TK:=b6 (TK.out.trans t9 nE)
   clear t9 KW
   go_wp2
   refine⟨rfl,?_⟩
   rw[<-HA.out]
   exact⟨rfl,TK.out⟩
  ·have hs1:(i7 l).toList.isEmpty=false:=by
    rw[Lib.toList_data]
    cases l with
    |nil=>exact absurd rfl h0
    |cons c l=>rfl
   have hs2:((i7 l).toList==([]:List UInt8))=false:=by
    rw[Lib.toList_data]
    cases l with
    |nil=>exact absurd rfl h0
    |cons c l=>rfl
   generalize hS:i7 l=S at*
   obtain⟨k1,hk1⟩:∃k1,k1=k+1+l.length:=⟨_,rfl⟩
   rw[<-hk1]at HA hle K2
   have hk4:k1<=1024:=by have:=HRl.out;omega
   have HL0:=b6 h0
   clear hl hle hS hk1 h0
   by_cases h62:g7 X.R k1=62
   ·cases hin:S5 S ns with
    |false=>
     rw[if_pos ⟨HL0.out,h62,hin⟩]at HA
     clear KW
     go_enter Tryz.func128,Tryz.ntmps128
     go_wp2_with fail
     refine(o7 60 HK.out (by omega) h60).mono ?_
     rintro e ws1 ⟨rfl,hp,tt⟩
     replace HK:=b6 hp
     replace TK:=b6 (TK.out.trans tt iE)
     clear hp tt
     clear h60
     go_wp2_with fail
     have Mk0:True:=trivial
     go_region_with (first
      |(clear Mk0;go_at_call 138;refine(BU _).mono ?_;rintro e w1 ⟨v,rfl,o1⟩;obtain⟨a1,c1,hv,_⟩:=o1.slice;subst hv;have T1:=b6 ((tZ ws1).drew.trans o1.touch iE);have K3:=b6 (K2.out a1 c1 w1 (HK.out.new T1.out) o1.own);clear o1 K2;have Mk1:True:=trivial)
      |(clear Mk1;go_at_call 137;refine K3.out.mono ?_;rintro e w2 ⟨rfl,hp2,t2⟩;replace HK:=b6 hp2;replace TK:=b6 ((TK.out.trans T1.out nE).trans t2 iE);clear hp2 t2 K3 T1))
     go_wp2_with fail
     refine(o7 62 HK.out (by omega) h62).mono ?_
     rintro e ws5 ⟨rfl,hp,tt⟩
     replace HK:=b6 hp
     replace TK:=b6 (TK.out.trans tt iE)
     clear hp tt
     have c10:=HK.out.c10
     have KC:=b6 (CI vn ns S ws5 HK.out.names (by omega))
     rw[hin]at KC
     go_wp2_with fail
     refine KC.out.mono ?_
     rintro e w8 ⟨rfl,rfl⟩
     clear KC c10
     go_wp2
     go_ret
     rw[<-HA.out]
     exact⟨rfl,HK.out,TK.out⟩
    |true=>
     rw[if_neg (fun e=>by rw[hin]at e;cases e.2.2)]at HA
     go_enter Tryz.func128,Tryz.ntmps128
     go_wp2_with fail
     refine(o7 60 HK.out (by omega) h60).mono ?_
     rintro e ws1 ⟨rfl,hp,tt⟩
     replace HK:=b6 hp
     replace TK:=b6 (TK.out.trans tt iE)
     clear hp tt
     clear h60
     go_wp2_with fail
     have Mk0:True:=trivial
     go_region_with (first
      |(clear Mk0;go_at_call 138;refine(BU _).mono ?_;rintro e w1 ⟨v,rfl,o1⟩;obtain⟨a1,c1,hv,_⟩:=o1.slice;subst hv;have T1:=b6 ((tZ ws1).drew.trans o1.touch iE);have K3:=b6 (K2.out a1 c1 w1 (HK.out.new T1.out) o1.own);clear o1 K2;have Mk1:True:=trivial)
      |(clear Mk1;go_at_call 137;refine K3.out.mono ?_;rintro e w2 ⟨rfl,hp2,t2⟩;replace HK:=b6 hp2;replace TK:=b6 ((TK.out.trans T1.out nE).trans t2 iE);clear hp2 t2 K3 T1))
     go_wp2_with fail
     refine(o7 62 HK.out (by omega) h62).mono ?_
     rintro e ws5 ⟨rfl,hp,tt⟩
     replace HK:=b6 hp
     replace TK:=b6 (TK.out.trans tt iE)
     clear hp tt
     have c10:=HK.out.c10
     have KC:=b6 (CI vn ns S ws5 HK.out.names (by omega))
     rw[hin]at KC
     go_wp2_with fail
     refine KC.out.mono ?_
     rintro e w8 ⟨rfl,rfl⟩
     clear KC c10
     go_wp2_with fail
     refine(KW.out _ _ HK.out).mono ?_
     rintro e w9 ⟨rfl,t9⟩
     replace TK:=b6 (TK.out.trans t9 nE)
     clear t9 KW
     go_wp2
     refine⟨rfl,?_⟩
     rw[<-HA.out]
     exact⟨rfl,TK.out⟩
   ·rw[if_neg (fun e=>h62 e.2.1)]at HA
    go_enter Tryz.func128,Tryz.ntmps128
    go_wp2_with fail
    refine(o7 60 HK.out (by omega) h60).mono ?_
    rintro e ws1 ⟨rfl,hp,tt⟩
    replace HK:=b6 hp
    replace TK:=b6 (TK.out.trans tt iE)
    clear hp tt
    clear h60
    go_wp2_with fail
    have Mk0:True:=trivial
    go_region_with (first
     |(clear Mk0;go_at_call 138;refine(BU _).mono ?_;rintro e w1 ⟨v,rfl,o1⟩;obtain⟨a1,c1,hv,_⟩:=o1.slice;subst hv;have T1:=b6 ((tZ ws1).drew.trans o1.touch iE);have K3:=b6 (K2.out a1 c1 w1 (HK.out.new T1.out) o1.own);clear o1 K2;have Mk1:True:=trivial)
     |(clear Mk1;go_at_call 137;refine K3.out.mono ?_;rintro e w2 ⟨rfl,hp2,t2⟩;replace HK:=b6 hp2;replace TK:=b6 ((TK.out.trans T1.out nE).trans t2 iE);clear hp2 t2 K3 T1))
    go_wp2_with fail
    refine(o6 62 HK.out (by omega) h62).mono ?_
    rintro e ws5 ⟨rfl,hp,tt⟩
    replace HK:=b6 hp
    replace TK:=b6 (TK.out.trans tt iE)
    clear hp tt
    go_wp2_with fail
    refine(KW.out _ _ HK.out).mono ?_
    rintro e w9 ⟨rfl,t9⟩
    replace TK:=b6 (TK.out.trans t9 nE)
    clear t9 KW
    go_wp2
    refine⟨rfl,?_⟩
    rw[<-HA.out]
    exact⟨rfl,TK.out⟩
 ·rw[if_neg h60]at HA
  clear h hX hk hk0
  go_enter Tryz.func128,Tryz.ntmps128
  go_wp2_with fail
  refine(o6 60 HK.out (by omega) h60).mono ?_
  rintro e ws1 ⟨rfl,hp,tt⟩
  replace HK:=b6 hp
  replace TK:=b6 (TK.out.trans tt iE)
  clear hp tt
  clear h60
  go_wp2_with fail
  refine(KW.out _ _ HK.out).mono ?_
  rintro e w9 ⟨rfl,t9⟩
  replace TK:=b6 (TK.out.trans t9 nE)
  clear t9 KW
  go_wp2
  refine⟨rfl,?_⟩
  rw[<-HA.out]
  exact⟨rfl,TK.out⟩
end Go.Proofs.YtdhhcefmmojcmaaGreatDoor
