/- Texts of this proof, one behind the other. -/
import Derived.Test.YtdhhcefmmojcmaaGreatDoorVj
import Derived.Test.YtdhhcefmmojcmaaGreatDoorM10
import Derived.Test.YtdhhcefmmojcmaaGreatDoorM8
set_option maxRecDepth 100000
set_option maxHeartbeats 0
set_option linter.unusedVariables false
namespace Go.Proofs.YtdhhcefmmojcmaaGreatDoor
open Go.RowKit Go.Lib
theorem UI {R:List Int}{tab:List (ByteArray×List R2)}{sub:Option A8}{op n:Nat}{st:St}{l:List Nd}{Z:PR (Nd×St)}(h:Ss R tab sub op n st l=Z)(hn:R.length+1<=st.k+n)(hk:st.k<=R.length):
 ∃m,n=m+1/\Z=(match Bb R op (G9 R tab sub st)with
  | .error e=>.error e
  | .ok (x,s1)=>if g7 R s1.k=124 then Ss R tab sub op m {s1 with k:=s1.k+1} (l++ [x])else .ok (Z0 9 (l++ [x]),s1)):=by
 obtain⟨n,rfl⟩:∃m,n=m+1:=⟨n-1,by omega⟩
 rw[Ss]at h
 exact⟨n,rfl,h.symm⟩
theorem MB {R:List Int}{op:Nat}{r:PR (Nd×St)}{x:Nd}{s1:St}(h:Bb R op r=.ok (x,s1)):r=.ok (x,s1):=by
 match r,h with
 | .ok (y,s2),h=>
   rw[Ax]at h
   split at h
   ·cases h
   ·exact h
theorem MA {R:List Int}{op:Nat}{r:PR (Nd×St)}{c j:Nat}(h:Bb R op r=.error (c,j))(hr:∀c j,r=.error (c,j)->20<=c):20<=c:=by
 match r,h,hr with
 | .error (c2,j2),h,hr=>
   cases h
   exact hr _ _ rfl
 | .ok (y,s2),h,hr=>
   rw[Ax]at h
   split at h
   ·cases h
    decide
   ·cases h
def WP (b:Nat)(X:Px)(op:Nat)(sub:Option A8)(w:World)(vN vn:Value)(k:Nat)(ds:List Dc)(PO:PR (Nd×St))(gk:Nat)(v3:Value)(wr:World):Prop:=
 ∃(st:St) (l:List Nd) (ps:List Nat) (es:List Dc) (vN' vn':Value) (n d:Nat),X.R.length+2<=st.k+gk/\Hid (X.R.length+1<=st.k+n)/\Hid (Ss X.R b8 sub op n st l=PO)/\Hid (st.k<=X.R.length/\k<=st.k)/\Hid (st.ns.length<=st.k+1)/\
  Hid (QS wr b X st.k st.f op vN' vn' 0 0 (ds++es) st.ns)/\Hid (KL w.heap.size wr v3 ps l (ds++es))/\Hid (GT b w wr vN vn vN' vn')/\Hid (es.length+2*k+d<=2*st.k)/\Hid (l=[]∨d=1)/\Hid (l.length<=st.k)
theorem Gm (b:Nat)(X:Px)(k:Nat)(f:Fl)(op:Nat)(vN vn:Value)(ds:List Dc)(ns:List ByteArray)(sub:Option A8)(w:World)(h:QS w b X k f op vN vn 0 0 ds ns)(hX:X.Good)(hk:k<=X.R.length)(hds:ds.length<=2*k)(hN:ns.length<=k+1)(hop:op<=32)(hS:Nz b X op sub)(hF:∀a,sub=some a->Ah X.R a)(hG:∀a,sub=some a->Kq X.R a)(hE:∀a,sub=some a->Ku X.R a):
 Calls Tryz.prog 29 #[.pointer (some ⟨b,0,none⟩)] w fun e w'=>DP b X k vN vn op (fun _=>False) 1 0 w ds (Bb X.R op (S1 X.R b8 sub ⟨k,f,ns⟩)) e w':=by
 obtain⟨i3,hi3,hz0,hz1,hz2⟩:=info_parts QM
 obtain⟨PO,hPO⟩:∃PO,PO=Bb X.R op (S1 X.R b8 sub ⟨k,f,ns⟩):=⟨_,rfl⟩
 rw[<-hPO]
 have HZ:=b6 (show Ss X.R b8 sub op (X.R.length+1) ⟨k,f,ns⟩ []=PO from by rw[hPO];exact Su hF op ⟨k,f,ns⟩ hk)
 have HX:=b6 hX
 have HR:=b6 hX.lenR
 have HK:=b6 hk
 have HKD:=b6 hk
 have HDS:=b6 hds
 have HOP:=b6 hop
 have HBW:=b6 h.s.lt
 have HQ0:=b6 (show QS w b X k f op vN vn 0 0 (ds++ []) ns by rw[List.append_nil];exact h)
 have HNN:=b6 hN
 have HROW:=b6 (fun(k:Nat) (f:Fl) (vN vn:Value) (ds:List Dc) (ns:List ByteArray) (w:World) (h:QS w b X k f op vN vn 0 0 ds ns) (hk:k<=X.R.length) (hds:ds.length<=2*k) (hN:ns.length<=k+1)=>Qu b X k f op vN vn ds ns sub w h hX hk hds hN hop hS hF hG hE)
 have HCF:=b6 (fun st x s1 (hk:st.k<=X.R.length) (e:G9 X.R b8 sub st=.ok (x,s1))=>And.intro (I8 hF st x s1 hk e) (Eo (tab:=b8) hF hG st x s1 hk e))
 have HCE:=b6 (fun st c j (hk:st.k<=X.R.length) (e:G9 X.R b8 sub st=.error (c,j))=>(Le b8 hE hF st hk c j e).1)
 clear h hX hk hds hN hop hS hF hG hE hPO
 go_enter Tryz.func29,Tryz.ntmps29
 go_wp2_with fail
 go_loopg [3] (X.R.length+2) (fun gk v3 wq=>WP b X op sub w vN vn k ds PO gk v3 wq)
 case atStart=>exact⟨⟨k,f,ns⟩,[],[],[],vN,vn,X.R.length+1,0,by show _<=k+_;omega,b6 (by show _<=k+_;omega),HZ,b6 ⟨HK.out,Nat.le_refl _⟩,HNN,HQ0,b6 (KL.nil _ _ _),b6 (GT.refl _ _ _ _),b6 (by show 0+2*k+0<=2*k;omega),b6 (.inl rfl),b6 (Nat.zero_le _)⟩
 case round=>
  clear HQ0 HNN HZ HK
  obtain⟨⟨kk,f,ns⟩,l,ps,es,vN',vn',n,d,hgk,HN1,HRW,HKK,HNS,HQ,HKL,HG,HES,HD1,HLL⟩:=hrel
  simp only at hgk HN1 HRW HKK HNS HQ HES HLL
  obtain⟨m,hm,hzz⟩:=UI HRW.out HN1.out HKK.out.1
  have HMM:=b6 hm
  have HZZ:=b6 hzz
  have KR:=b6 (HROW.out kk f vN' vn' (ds++es) ns wr HQ.out HKK.out.1 (by rw[List.length_append];have:=HES.out;have:=HDS.out;omega) HNS.out)
  have HCC:=b6 (fun x s1 (e:Bb X.R op (G9 X.R b8 sub ⟨kk,f,ns⟩)=.ok (x,s1))=>HCF.out ⟨kk,f,ns⟩ x s1 HKK.out.1 (MB e))
  have HEE:=b6 (fun c j (e:Bb X.R op (G9 X.R b8 sub ⟨kk,f,ns⟩)=.error (c,j))=>MA e (fun c j e2=>HCE.out ⟨kk,f,ns⟩ c j HKK.out.1 e2))
  have HSW:=b6 (show w.heap.size<=wr.heap.size from HG.out.t.size)
  have HVL:=b6 (fun g (e:u3.ownBlock=some g)=>show g<wr.heap.size from ET HKL.out.z e)
  clear hm hzz HRW HROW HCF HCE
  generalize Bb X.R op (G9 X.R b8 sub ⟨kk,f,ns⟩)=C at*
  match C with
  | .error (c,j)=>
    unfold DP at KR
    simp only at KR HZZ
    have HC20:=b6 (HEE.out c j rfl)
    clear HEE HCC
    go_wp2_with fail
    refine KR.out.mono ?_
    rintro e wa ⟨r,f',vNa,vna,dsa,nsa,rfl,hqa,hga,hba⟩
    have HQA:=b6 hqa
    have HGA:=b6 (HG.out.trans hga)
    have HKA:=b6 (HKL.out.kept hga.t (fun g s=>HQ.out.nd s) [])
    have HBA:=b6 (show dsa.length+2*k+1<=ds.length+2*X.R.length+4*(33-op)by rw[List.length_append]at hba;have:=HES.out;omega)
    clear hqa hga hba KR HKL HG HQ
    obtain⟨a3,c3,hv3⟩:=e9 HKA.out.z
    obtain⟨N,hNl⟩:∃N,N=ps.length:=⟨_,rfl⟩
    have hN0:(BV ps).length=N:=by rw[L5,hNl]
    rw[hN0]at hv3
    have HNL:=b6 hNl
    have HO:=b6 (show wa.ownsRow 0 3 1 (.slice a3 N c3) N ((BV ps).map fun i=>Value.int .i64 i)from by have:=HKA.out.z;unfold IZ at this;rw[hv3,hN0]at this;exact this)
    have hNb:N<=4194304:=by
     have h3:=HKA.out.len
     have h4:=HLL.out
     have:=HKK.out
     have:=HR.out
     omega
    subst hv3
    clear hNl hN0
    go_wp2_with (at_builtin;refine wpList_append_own_at _ rfl _ _ 56 rfl 0 3 i3 (.int .i64 0) 1 8 Tryz.underlying56 hi3 hz0 hz1 hz2 rfl (by decide) _ _ _ rfl (HO.out.alloc _) ⟨wa.heap.size,0,none⟩ 1 1 [.int .i64 r] rfl rfl (z7 wa [.int .i64 r] 3) (by intro u hu;simp at hu;subst hu;rfl) (by unfold maxLen;omega) (by omega) (Nat.zero_le _) ?_)
    intro v' w4 hown hgrow _ hat
    have TG:=b7.grown (S:=fun g=>(Value.slice a3 N c3).ownBlock=some g) ((b7.refl _ wa).alloc (.cells #[.int .i64 r] 3)) hgrow (fun k e _=>e)
    have HOW:=fun g (e:(Value.slice a3 N c3).ownBlock=some g)=>HKA.out.own g e
    have HQ4:=b6 (HQA.out.side HKA.out.z (fun g e=>by have:=HOW g e;have:=HBW.out;omega) TG)
    have HG4:=b6 (HGA.out.side TG HOW)
    have HI4:=b6 (show IZ w4 v' (BV ps++ [r])from Ho (by rw[L5,<-HNL.out];exact hown))
    clear hown hgrow hat TG HOW HO HKA HQA HGA
    have c11:w4.cell? ⟨b,11,none⟩=some (.int .i64 (c:Nat)):=HQ4.out.s.c 11 _ rfl
    have hcn:((c:Int) !=0)=true:=by simp;have:=HC20.out;omega
    have KJ:=b6 (Y7 HQ4.out (by have:=HBA.out;have:=HDS.out;have:=HKD.out;have:=HR.out;omega) 9 v' _ HI4.out)
    go_wp2_with fail
    refine KJ.out.mono ?_
    rintro e wj ⟨r2,vNj,esj,rfl,hqj,hgj,hlj,_,_⟩
    have HQJ:=b6 hqj
    have HGJ:=b6 (HG4.out.trans hgj)
    have HLJ:=b6 hlj
    clear hqj hgj hlj KJ
    go_wp2
    go_ret
    rw[HZZ.out]
    exact⟨r2,_,vNj,_,_,_,rfl,HQJ.out,HGJ.out,by rw[List.length_append];have:=HBA.out;have:=HLJ.out;omega⟩
  | .ok (x,⟨k2,f2,ns2⟩)=>
    unfold DP at KR
    simp only at KR HZZ
    obtain⟨hf1,hf2⟩:=HCC.out x _ rfl
    have HF1:=b6 (show kk<=k2/\k2<=X.R.length from hf1)
    have HF2:=b6 (show ns2.length+kk<=ns.length+k2 from hf2)
    clear hf1 hf2 HCC HEE
    go_wp2_with fail
    refine KR.out.mono ?_
    rintro e wa ⟨p,vNa,vna,esa,rfl,hqa,hga,hda,hba⟩
    have HQA:=b6 hqa
    have HGA:=b6 (HG.out.trans hga)
    have HKA:=b6 (HKL.out.kept hga.t (fun g s=>HQ.out.nd s) esa)
    have HDA:=b6 hda
    have HBA:=b6 (show esa.length+2*kk<=2*k2+1 from hba)
    have HSA:=b6 hga.t.size
    clear hqa hga hda hba KR HKL HG HQ
    obtain⟨a3,c3,hv3⟩:=e9 HKA.out.z
    obtain⟨N,hNl⟩:∃N,N=ps.length:=⟨_,rfl⟩
    have hN0:(BV ps).length=N:=by rw[L5,hNl]
    rw[hN0]at hv3
    have HNL:=b6 hNl
    have HO:=b6 (show wa.ownsRow 0 3 1 (.slice a3 N c3) N ((BV ps).map fun i=>Value.int .i64 i)from by have:=HKA.out.z;unfold IZ at this;rw[hv3,hN0]at this;exact this)
    have hNb:N<=4194304:=by
     have h3:=HKA.out.len
     have h4:=HLL.out
     have:=HKK.out
     have:=HR.out
     omega
    subst hv3
    clear hNl hN0
    go_wp2_with (at_builtin;refine wpList_append_own_at _ rfl _ _ 56 rfl 0 3 i3 (.int .i64 0) 1 8 Tryz.underlying56 hi3 hz0 hz1 hz2 rfl (by decide) _ _ _ rfl (HO.out.alloc _) ⟨wa.heap.size,0,none⟩ 1 1 [.int .i64 (p:Int)] rfl rfl (z7 wa [.int .i64 (p:Int)] 3) (by intro u hu;simp at hu;subst hu;rfl) (by unfold maxLen;omega) (by omega) (Nat.zero_le _) ?_)
    intro v' w4 hown hgrow _ hat
    have TG:=b7.grown (S:=fun g=>(Value.slice a3 N c3).ownBlock=some g) ((b7.refl _ wa).alloc (.cells #[.int .i64 (p:Int)] 3)) hgrow (fun k e _=>e)
    have HOW:=fun g (e:(Value.slice a3 N c3).ownBlock=some g)=>HKA.out.own g e
    have HQ4:=b6 (HQA.out.side HKA.out.z (fun g e=>by have:=HOW g e;have:=HBW.out;omega) TG)
    have HG4:=b6 (HGA.out.side TG HOW)
    have HK4:=b6 (show KL w.heap.size w4 v' (ps++ [p]) (l++ [x]) (ds++es++esa)from by
     refine HKA.out.push HDA.out (fun g e=>?_) (Nat.le_trans HSW.out HSA.out) (Ho (by rw[L5,<-HNL.out];exact hown)) hgrow hat
     rcases e with e|e
     ·exact e.elim
     ·exact⟨Nat.le_trans HSW.out e.1,e.2,fun e2=>by have:=HVL.out g e2;omega⟩)
    clear hown hgrow hat TG HOW HO HKA HQA HGA
    have c11:w4.cell? ⟨b,11,none⟩=some (.int .i64 0):=HQ4.out.s.c 11 _ rfl
    have hk2b:k2<=2048:=by have:=HF1.out;have:=HR.out;omega
    by_cases h124:g7 X.R k2=124
    ·have KE:=b6 (HQ4.out.eatC ⟨#[124]⟩ hk2b (by show 1<=1024;decide) true (k2+1) (by rw[U1];exact decide_eq_true h124) rfl)
     have HK2R:=b6 (j9 h124 (by decide))
     rw[if_pos h124]at HZZ
     clear h124
     go_wp2_with fail
     refine KE.out.mono ?_
     rintro e w5 ⟨rfl,hq5,hg5⟩
     have HQ5:=b6 (show QS w5 b X (k2+1) f2 op vNa vna 0 0 (ds++(es++esa)) ns2 from by rw[<-List.append_assoc];exact hq5)
     have HG5:=b6 (HG4.out.trans hg5)
     have HK5:=b6 (show KL w.heap.size w5 v' (ps++ [p]) (l++ [x]) (ds++(es++esa))from by have:=HK4.out.kept hg5.t (fun g s=>HQ4.out.nd s) [];rw[List.append_nil,List.append_assoc]at this;exact this)
     clear hq5 hg5 KE c11
     go_wp2
     go_roundg (gk-1)
     case measure=>have:=HK2R.out;have:=HF1.out;omega
     case rel=>exact⟨⟨k2+1,f2,ns2⟩,(l++ [x]:List Nd),ps++ [p],es++esa,vNa,vna,m,1,by show _<=k2+1+_;have:=HF1.out;omega,b6 (by show _<=k2+1+m;have:=HF1.out;have:=HN1.out;have:=HMM.out;omega),b6 HZZ.out.symm,b6 ⟨by show k2+1<=_;have:=HK2R.out;omega,by show k<=k2+1;have:=HF1.out;have:=HKK.out;omega⟩,b6 (by show ns2.length<=k2+1+1;have:=HF2.out;have:=HNS.out;omega),HQ5,HK5,HG5,b6 (by show(es++esa).length+2*k+1<=2*(k2+1);rw[List.length_append];have:=HBA.out;have:=HES.out;omega),b6 (.inr rfl),b6 (by show(l++ [x]).length<=k2+1;rw[List.length_append,List.length_singleton];have:=HF1.out;have:=HLL.out;omega)⟩
    ·have KE:=b6 (HQ4.out.eatC ⟨#[124]⟩ hk2b (by show 1<=1024;decide) false k2 (by rw[U1];exact decide_eq_false h124) rfl)
     rw[if_neg h124]at HZZ
     clear h124
     go_wp2_with fail
     refine KE.out.mono ?_
     rintro e w5 ⟨rfl,hq5,hg5⟩
     have HQ5:=b6 hq5
     have HG5:=b6 (HG4.out.trans hg5)
     have HK5:=b6 (show KL w.heap.size w5 v' (ps++ [p]) (l++ [x]) (ds++es++esa)from by have:=HK4.out.kept hg5.t (fun g s=>HQ4.out.nd s) [];rw[List.append_nil]at this;exact this)
     clear hq5 hg5 KE c11
     have KJ:=b6 (Y7 HQ5.out (by rw[List.length_append,List.length_append];have:=HBA.out;have:=HES.out;have:=HDS.out;have:=HKD.out;have:=HF1.out;have:=HR.out;omega) 9 v' _ HK5.out.z)
     go_wp2_with fail
     refine KJ.out.mono ?_
     rintro e wj ⟨r,vNj,esj,rfl,hqj,hgj,hlj,hl1,htr⟩
     obtain⟨q,rfl,hdw⟩:=htr (fun g=>False∨(w.heap.size<=g/\g<w5.heap.size)) (ps++ [p]) (l++ [x]) rfl HK5.out.len (fun g e=>.inr ⟨HK5.out.own g e,ET HK5.out.z e⟩) (fun i q x e1 e2=>(HK5.out.tr i q x e1 e2).wide (fun g e=>.inr ⟨e.1,e.2.1⟩))
     have HQJ:=b6 (show QS wj b X k2 f2 op vNj vna 0 0 (ds++(es++esa++esj)) ns2 from by rw[<-List.append_assoc,<-List.append_assoc];exact hqj)
     have HDJ:=b6 (show DW wj (fun g=>False∨(w.heap.size<=g/\g<wj.heap.size)) (ds++(es++esa++esj)) q (Z0 9 (l++ [x]))from by rw[<-List.append_assoc,<-List.append_assoc];exact hdw.wide (fun g e=>by rcases e with e|e;exact .inl e;exact .inr ⟨e.1,Nat.lt_of_lt_of_le e.2 hgj.t.size⟩))
     have HGJ:=b6 (HG5.out.trans hgj)
     have HLJ:=b6 (show(es++esa++esj).length+2*k<=2*k2+1 from by
      rw[List.length_append,List.length_append]
      have h1:=HES.out
      have h2:=HBA.out
      rcases HD1.out with e|e
      ·have h3:=hl1 (by have:=HK5.out.len;rw[L5,this,e];rfl)
       rw[h3]
       simp only[List.length_nil]
       omega
      ·omega)
     clear hqj hgj hlj hl1 htr hdw KJ
     go_wp2
     go_ret
     rw[HZZ.out]
     exact⟨q,vNj,vna,es++esa++esj,rfl,HQJ.out,HGJ.out,HDJ.out,HLJ.out⟩
theorem IS (b:Nat)(X:Px)(hX:X.Good):∀(n op:Nat),op+n=32->∀(w:World) (k:Nat) (f:Fl) (vN vn:Value) (ds:List Dc) (ns:List ByteArray),QS w b X k f op vN vn 0 0 ds ns->k<=X.R.length->ds.length<=2*k->ns.length<=k+1->
 Calls Tryz.prog 29 #[.pointer (some ⟨b,0,none⟩)] w fun e w'=>DP b X k vN vn op (fun _=>False) 1 0 w ds (Bb X.R op (B7 X.R b8 n ⟨k,f,ns⟩)) e w'
 |0,op,ho,w,k,f,vN,vn,ds,ns,h,hk,hds,hN=>by
  obtain rfl:op=32:=by omega
  exact Gm b X k f 32 vN vn ds ns none w h hX hk hds hN (Nat.le_refl _) rfl (fun a e=>by cases e) (fun a e=>by cases e) (fun a e=>by cases e)
 |n+1,op,ho,w,k,f,vN,vn,ds,ns,h,hk,hds,hN=>by
  have hsub:Wd b X (op+1) (B7 X.R b8 n):=fun w k f vN vn ds ns h hk hds hN=>by
   have:=IS b X hX n (op+1) (by omega) w k f vN vn ds ns h hk hds hN
   rw[UM (by omega)]at this
   exact this
  exact Gm b X k f op vN vn ds ns (some (B7 X.R b8 n)) w h hX hk hds hN (by omega) ⟨by omega,B8 _ _ _,Cy _ _,hsub⟩ (fun a e=>by cases e;exact B8 _ _ _) (fun a e=>by cases e;exact Cz _ _ _) (fun a e=>by cases e;exact Cy _ _)
theorem Km (x y:Nat)(hx:x<256)(hy:y<256):wrap64 (wrap64 (x:Int)+wrap64 (256*wrap64 (y:Int)))=((x+256*y:Nat):Int):=by
 rw[IntWalk.wrap64_in (x:Int) (by omega),IntWalk.wrap64_in (y:Int) (by omega),IntWalk.wrap64_in (256*(y:Int)) (by omega),IntWalk.wrap64_in _ (by omega)]
 omega
theorem DQ (s:ByteArray)(i:Nat)(w:World)(hi:i+1<s.size)(hs:s.size<=1099511627776):Calls Tryz.prog 72 #[.string s,.int .i64 i,.int .i64 2] w fun e w'=>e=.returned (.int .i64 ((l5 s i+256*l5 s (i+1):Nat):Int))/\b7 (fun _=>False) w w':=by
 obtain⟨j,hj⟩:∃j,j=i+1:=⟨_,rfl⟩
 rw[<-hj]at hi⊢
 have z1:IntKind.i64.wrap ((i:Int)+1)=(j:Int):=by rw[IntKind.wrap_i64];omega
 have q1:(i:Int)<(s.size:Int):=by omega
 have q2:(j:Int)<(s.size:Int):=by omega
 have q3:i<s.size:=by omega
 have HB1:=b6 (S2 s i q3)
 have HB2:=b6 (S2 s j hi)
 have HV:=b6 (Km (l5 s i) (l5 s j) (y6 s i) (y6 s j))
 clear hj
 go_enter Tryz.func72,Tryz.ntmps72
 go_wp2_with fail
 go_quiet (fail)
 go_wp2
 go_ret
 exact⟨by rw[HB1.out,HB2.out,HV.out];rfl,(b7.refl _ w).drewN _⟩
theorem Cf (s:ByteArray)(i:Nat)(w:World)(hi:i+1<s.size)(hs:s.size<=1099511627776):Calls Tryz.prog 72 #[.string s,.int .i64 i,.int .i64 3] w fun e w'=>e=.returned (.int .i64 ((l5 s (i+1)+256*l5 s i:Nat):Int))/\b7 (fun _=>False) w w':=by
 obtain⟨j,hj⟩:∃j,j=i+1:=⟨_,rfl⟩
 rw[<-hj]at hi⊢
 have z1:IntKind.i64.wrap ((i:Int)+1)=(j:Int):=by rw[IntKind.wrap_i64];omega
 have q1:(i:Int)<(s.size:Int):=by omega
 have q2:(j:Int)<(s.size:Int):=by omega
 have q3:i<s.size:=by omega
 have HB1:=b6 (S2 s i q3)
 have HB2:=b6 (S2 s j hi)
 have HV:=b6 (Km (l5 s j) (l5 s i) (y6 s j) (y6 s i))
 clear hj
 go_enter Tryz.func72,Tryz.ntmps72
 go_wp2_with fail
 go_quiet (fail)
 go_wp2
 go_ret
 exact⟨by rw[HB1.out,HB2.out,HV.out];rfl,(b7.refl _ w).drewN _⟩
theorem Jb (s:ByteArray)(a:Nat)(w:World)(ha:a<s.size)(hs:s.size<=1099511627776):Calls Tryz.prog 71 #[.string s,.int .i64 a] w fun e w'=>e=.returned (.tuple #[.int .i64 (Sl s a).1,.int .i64 ((Sl s a).2:Nat)])/\w=w':=by
 have haI:(a:Int)<(s.size:Int):=by omega
 have hb:=S2 s a ha
 have hbl:=y6 s a
 have HB:=b6 hb
 have hw:wrap64 ((s[a].toNat:Nat):Int)=(l5 s a:Nat):=by rw[hb,IntWalk.wrap64_in _ (by omega)]
 obtain⟨R,hR⟩:∃R,Sl s a=R:=⟨_,rfl⟩
 have HR:=b6 hR
 unfold Sl at HR
 rw[hR]
 clear hR hb
 go_enter Tryz.func71,Tryz.ntmps71
 go_upto_region 1 with fail
 go_cut [6] (fun v wd=>v=.int .i64 (l5 s a:Nat)/\w=wd)
 case first=>
  go_wp2
  go_meet
  case rel=>exact⟨by rw[hw],rfl⟩
 obtain⟨rfl,rfl⟩:=hcut
 clear hw HB
 generalize l5 s a=b at*
 by_cases h1:b<128
 ·have HE:=b6 (show((b:Int),1)=R by rw[<-HR.out,if_pos h1])
  have h1I:(b:Int)<128:=by omega
  go_wp2
  go_ret2
  exact⟨by rw[<-HE.out];rfl,rfl⟩
 have h1I:¬((b:Int)<128):=by omega
 rw[if_neg h1]at HR
 by_cases h2:194<=b/\b<=223
 ·have HL:=b6 (show r6 b=(1,b-192)by unfold r6;rw[if_pos h2])
  rw[HL.out]at HR
  have HE:=b6 (show Az s a 1 1 1 (b-192)=R from HR.out)
  obtain⟨h5,h6⟩:=h2
  have h5I:(194:Int)<=(b:Int):=by omega
  have h6I:(b:Int)<=223:=by omega
  have hvb:b-192<32:=by omega
  clear HR HL
  go_wp2_with fail
  go_loopg [8,9] 1 (fun gk v8 v9 wq=>∃k v:Nat,k+gk=1+1/\1<=k/\v8=.int .i64 (v:Nat)/\v9=.int .i64 (k:Nat)/\((k=1->v<32)/\(k=2->v<2048)/\(k=3->v<131072))/\Az s a 1 gk k v=R/\w=wq)
  case atStart=>exact⟨1,b-192,by omega,Nat.le_refl _,by congr 1;omega,rfl,⟨fun _=>hvb,by omega,by omega⟩,HE.out,rfl⟩
  case round=>
   obtain⟨k,v,hk,hk1,rfl,rfl,hvk,hdk,rfl⟩:=hrel
   have HK:=b6 hdk
   clear hdk HE
   by_cases hle:k<=1
   ·obtain⟨gk,rfl⟩:∃f,gk=f+1:=⟨gk-1,by omega⟩
    have HS:=b6 HK.out
    unfold Az at HS
    have hleI:(k:Int)<=1:=by omega
    clear HK
    by_cases hend:s.size<=a+k
    ·have HE:=b6 (show(-1,k)=R by rw[<-HS.out,if_pos hend])
     have hendI:(s.size:Int)<=(a:Int)+(k:Int):=by omega
     go_wp2
     go_ret2
     exact⟨by rw[<-HE.out];rfl,rfl⟩
    rw[if_neg hend]at HS
    have hendI:(a:Int)+(k:Int)<(s.size:Int):=by omega
    have HB:=b6 (S2 s (a+k) (by omega))
    have hyl:=y6 s (a+k)
    have HGK:=b6 hk
    go_upto_region 19 with fail
    go_cut [10] (fun v wd=>v=.int .i64 (l5 s (a+k):Nat)/\w=wd)
    case first=>
     go_wp2
     go_meet
     case rel=>exact⟨by rw[HB.out,IntWalk.wrap64_in _ (by omega)],rfl⟩
    obtain⟨rfl,rfl⟩:=hcut
    clear HB hend hendI
    generalize l5 s (a+k)=y at*
    by_cases hy1:y<128
    ·have HE:=b6 (show(-1,k)=R by rw[<-HS.out,if_pos (.inl hy1)])
     have hyI:(y:Int)<128:=by omega
     go_wp2
     go_ret2
     exact⟨by rw[<-HE.out];rfl,rfl⟩
    by_cases hy2:191<y
    ·have HE:=b6 (show(-1,k)=R by rw[<-HS.out,if_pos (.inr hy2)])
     have hyI:¬((y:Int)<128):=by omega
     have hyJ:191<(y:Int):=by omega
     go_wp2
     go_ret2
     exact⟨by rw[<-HE.out];rfl,rfl⟩
    rw[if_neg (by omega)]at HS
    have hyI:¬((y:Int)<128):=by omega
    have hyJ:¬(191<(y:Int)):=by omega
    obtain⟨u,hu⟩:∃u,u=64*v+y-128:=⟨_,rfl⟩
    rw[<-hu]at HS
    have hub:(k=1->u<2048)/\(k=2->u<131072)/\u<8388608:=by omega
    go_upto_region 22 with fail
    go_cut [8] (fun v wd=>v=.int .i64 (u:Nat)/\w=wd)
    case first=>
     go_wp2
     go_meet
     case rel=>exact⟨by congr 1;omega,rfl⟩
    obtain⟨rfl,rfl⟩:=hcut
    clear hu hyI hyJ hyl hy1 hy2 hvk
    by_cases hk2:k=1
    ·subst hk2
     have hu2:u<2048:=hub.1 rfl
     clear hub
     obtain rfl:gk=0:=by have:=HGK.out;omega
     go_wp2_with fail
     go_loopg [11,12,13] 0 (fun g2 v11 v12 v13 wq=>∃i:Nat,i+g2=1/\1<=i/\v13=.int .i64 (i:Nat)/\((i=1/\v11=.int .i64 (u:Nat)/\v12=.int .i64 (u:Nat))∨(i=2/\v11=.int .i64 ((64*u:Nat):Int)/\v12=.int .i64 ((64*u+63:Nat):Int))∨(i=3/\v11=.int .i64 ((4096*u:Nat):Int)/\v12=.int .i64 ((4096*u+4095:Nat):Int)))/\w=wq)
     case atStart=>exact⟨1,by omega,Nat.le_refl _,rfl,.inl ⟨rfl,rfl,rfl⟩,rfl⟩
     case round=>
      obtain⟨i,hig,hi1,rfl,hcs,rfl⟩:=hrel
      rcases hcs with⟨rfl,rfl,rfl⟩|⟨rfl,rfl,rfl⟩|⟨rfl,rfl,rfl⟩
      ·have HN:=b6 (show Az s a 1 0 2 u=R by rw[<-HS.out,if_neg (fun q=>by simp[J2]at q)])
       have e1:¬(55296<=(u:Int)):=by omega
       go_wp2
       go_roundg 0
       case measure=>omega
       case rel=>exact⟨2,u,by omega,by omega,rfl,rfl,⟨by omega,by omega,by omega⟩,HN.out,rfl⟩
      ·exact absurd hig (by omega)
      ·exact absurd hig (by omega)
    ·rw[if_neg (fun q=>hk2 q.1)]at HS
     have hkd:decide ((k:Int)=1)=false:=decide_eq_false (by omega)
     have hkd2:((k:Int)==1)=false:=by rw[beq_eq_false_iff_ne];omega
     go_wp2
     go_roundg gk
     case measure=>omega
     case rel=>exact⟨k+1,u,by have:=HGK.out;omega,by omega,rfl,by go_num,⟨by omega,by omega,by omega⟩,HS.out,rfl⟩
   ·obtain rfl:gk=0:=by omega
    have HE:=b6 (show((v:Int),1+1)=R from HK.out)
    have hleI:¬((k:Int)<=1):=by omega
    go_wp2
    go_ret2
    exact⟨by rw[<-HE.out];rfl,rfl⟩
 by_cases h3:224<=b/\b<=239
 ·have HL:=b6 (show r6 b=(2,b-224)by unfold r6;rw[if_neg h2,if_pos h3])
  rw[HL.out]at HR
  have HE:=b6 (show Az s a 2 2 1 (b-224)=R from HR.out)
  obtain⟨h5,h6⟩:=h3
  have h5I:(224:Int)<=(b:Int):=by omega
  have h6I:(b:Int)<=239:=by omega
  have hvb:b-224<32:=by omega
  clear HR HL
  go_wp2_with fail
  go_loopg [8,9] 2 (fun gk v8 v9 wq=>∃k v:Nat,k+gk=2+1/\1<=k/\v8=.int .i64 (v:Nat)/\v9=.int .i64 (k:Nat)/\((k=1->v<32)/\(k=2->v<2048)/\(k=3->v<131072))/\Az s a 2 gk k v=R/\w=wq)
  case atStart=>exact⟨1,b-224,by omega,Nat.le_refl _,by congr 1;omega,rfl,⟨fun _=>hvb,by omega,by omega⟩,HE.out,rfl⟩
  case round=>
   obtain⟨k,v,hk,hk1,rfl,rfl,hvk,hdk,rfl⟩:=hrel
   have HK:=b6 hdk
   clear hdk HE
   by_cases hle:k<=2
   ·obtain⟨gk,rfl⟩:∃f,gk=f+1:=⟨gk-1,by omega⟩
    have HS:=b6 HK.out
    unfold Az at HS
    have hleI:(k:Int)<=2:=by omega
    clear HK
    by_cases hend:s.size<=a+k
    ·have HE:=b6 (show(-1,k)=R by rw[<-HS.out,if_pos hend])
     have hendI:(s.size:Int)<=(a:Int)+(k:Int):=by omega
     go_wp2
     go_ret2
     exact⟨by rw[<-HE.out];rfl,rfl⟩
    rw[if_neg hend]at HS
    have hendI:(a:Int)+(k:Int)<(s.size:Int):=by omega
    have HB:=b6 (S2 s (a+k) (by omega))
    have hyl:=y6 s (a+k)
    have HGK:=b6 hk
    go_upto_region 19 with fail
    go_cut [10] (fun v wd=>v=.int .i64 (l5 s (a+k):Nat)/\w=wd)
    case first=>
     go_wp2
     go_meet
     case rel=>exact⟨by rw[HB.out,IntWalk.wrap64_in _ (by omega)],rfl⟩
    obtain⟨rfl,rfl⟩:=hcut
    clear HB hend hendI
    generalize l5 s (a+k)=y at*
    by_cases hy1:y<128
    ·have HE:=b6 (show(-1,k)=R by rw[<-HS.out,if_pos (.inl hy1)])
     have hyI:(y:Int)<128:=by omega
     go_wp2
     go_ret2
     exact⟨by rw[<-HE.out];rfl,rfl⟩
    by_cases hy2:191<y
    ·have HE:=b6 (show(-1,k)=R by rw[<-HS.out,if_pos (.inr hy2)])
     have hyI:¬((y:Int)<128):=by omega
     have hyJ:191<(y:Int):=by omega
     go_wp2
     go_ret2
     exact⟨by rw[<-HE.out];rfl,rfl⟩
    rw[if_neg (by omega)]at HS
    have hyI:¬((y:Int)<128):=by omega
    have hyJ:¬(191<(y:Int)):=by omega
    obtain⟨u,hu⟩:∃u,u=64*v+y-128:=⟨_,rfl⟩
    rw[<-hu]at HS
    have hub:(k=1->u<2048)/\(k=2->u<131072)/\u<8388608:=by omega
    go_upto_region 22 with fail
    go_cut [8] (fun v wd=>v=.int .i64 (u:Nat)/\w=wd)
    case first=>
     go_wp2
     go_meet
     case rel=>exact⟨by congr 1;omega,rfl⟩
    obtain⟨rfl,rfl⟩:=hcut
    clear hu hyI hyJ hyl hy1 hy2 hvk
    by_cases hk2:k=1
    ·subst hk2
     have hu2:u<2048:=hub.1 rfl
     clear hub
     obtain rfl:gk=1:=by have:=HGK.out;omega
     go_wp2_with fail
     go_loopg [11,12,13] 1 (fun g2 v11 v12 v13 wq=>∃i:Nat,i+g2=2/\1<=i/\v13=.int .i64 (i:Nat)/\((i=1/\v11=.int .i64 (u:Nat)/\v12=.int .i64 (u:Nat))∨(i=2/\v11=.int .i64 ((64*u:Nat):Int)/\v12=.int .i64 ((64*u+63:Nat):Int))∨(i=3/\v11=.int .i64 ((4096*u:Nat):Int)/\v12=.int .i64 ((4096*u+4095:Nat):Int)))/\w=wq)
     case atStart=>exact⟨1,by omega,Nat.le_refl _,rfl,.inl ⟨rfl,rfl,rfl⟩,rfl⟩
     case round=>
      obtain⟨i,hig,hi1,rfl,hcs,rfl⟩:=hrel
      rcases hcs with⟨rfl,rfl,rfl⟩|⟨rfl,rfl,rfl⟩|⟨rfl,rfl,rfl⟩
      ·go_wp2
       go_roundg (gk-1)
       case measure=>omega
       case rel=>exact⟨2,by omega,by omega,rfl,.inr (.inl ⟨rfl,by first|rfl|(congr 1;omega),by first|rfl|(congr 1;omega)⟩),rfl⟩
      ·by_cases e1:64*u+63<2048
       ·have HN:=b6 (show(-1,1)=R by rw[<-HS.out,if_pos ⟨by first|trivial|rfl,by simp[J2];omega⟩])
        have f1:64*(u:Int)+63<2048:=by omega
        go_wp2
        go_ret2
        exact⟨by rw[<-HN.out];rfl,rfl⟩
       ·have f1:¬(64*(u:Int)+63<2048):=by omega
        by_cases e2:55296<=64*u
        ·have f2:55296<=64*(u:Int):=by omega
         by_cases e3:64*u+63<=57343
         ·have HN:=b6 (show(-1,1)=R by rw[<-HS.out,if_pos ⟨by first|trivial|rfl,by simp[J2];omega⟩])
          have f3:64*(u:Int)+63<=57343:=by omega
          go_wp2
          go_ret2
          exact⟨by rw[<-HN.out];rfl,rfl⟩
         ·have HN:=b6 (show Az s a 2 1 2 u=R by rw[<-HS.out,if_neg (fun q=>by simp[J2]at q;omega)])
          have f3:¬(64*(u:Int)+63<=57343):=by omega
          go_wp2
          go_roundg 1
          case measure=>omega
          case rel=>exact⟨2,u,by omega,by omega,rfl,rfl,⟨by omega,by omega,by omega⟩,HN.out,rfl⟩
        ·have HN:=b6 (show Az s a 2 1 2 u=R by rw[<-HS.out,if_neg (fun q=>by simp[J2]at q;omega)])
         have f2:¬(55296<=64*(u:Int)):=by omega
         go_wp2
         go_roundg 1
         case measure=>omega
         case rel=>exact⟨2,u,by omega,by omega,rfl,rfl,⟨by omega,by omega,by omega⟩,HN.out,rfl⟩
      ·exact absurd hig (by omega)
    ·rw[if_neg (fun q=>hk2 q.1)]at HS
     have hkd:decide ((k:Int)=1)=false:=decide_eq_false (by omega)
     have hkd2:((k:Int)==1)=false:=by rw[beq_eq_false_iff_ne];omega
     go_wp2
     go_roundg gk
     case measure=>omega
     case rel=>exact⟨k+1,u,by have:=HGK.out;omega,by omega,rfl,by go_num,⟨by omega,by omega,by omega⟩,HS.out,rfl⟩
   ·obtain rfl:gk=0:=by omega
    have HE:=b6 (show((v:Int),2+1)=R from HK.out)
    have hleI:¬((k:Int)<=2):=by omega
    go_wp2
    go_ret2
    exact⟨by rw[<-HE.out];rfl,rfl⟩
 by_cases h4:240<=b/\b<=244
 ·have HL:=b6 (show r6 b=(3,b-240)by unfold r6;rw[if_neg h2,if_neg h3,if_pos h4])
  rw[HL.out]at HR
  have HE:=b6 (show Az s a 3 3 1 (b-240)=R from HR.out)
  obtain⟨h5,h6⟩:=h4
  have h5I:(240:Int)<=(b:Int):=by omega
  have h6I:(b:Int)<=244:=by omega
  have hvb:b-240<32:=by omega
  clear HR HL
  go_wp2_with fail
  go_loopg [8,9] 3 (fun gk v8 v9 wq=>∃k v:Nat,k+gk=3+1/\1<=k/\v8=.int .i64 (v:Nat)/\v9=.int .i64 (k:Nat)/\((k=1->v<32)/\(k=2->v<2048)/\(k=3->v<131072))/\Az s a 3 gk k v=R/\w=wq)
  case atStart=>exact⟨1,b-240,by omega,Nat.le_refl _,by congr 1;omega,rfl,⟨fun _=>hvb,by omega,by omega⟩,HE.out,rfl⟩
  case round=>
   obtain⟨k,v,hk,hk1,rfl,rfl,hvk,hdk,rfl⟩:=hrel
   have HK:=b6 hdk
   clear hdk HE
   by_cases hle:k<=3
   ·obtain⟨gk,rfl⟩:∃f,gk=f+1:=⟨gk-1,by omega⟩
    have HS:=b6 HK.out
    unfold Az at HS
    have hleI:(k:Int)<=3:=by omega
    clear HK
    by_cases hend:s.size<=a+k
    ·have HE:=b6 (show(-1,k)=R by rw[<-HS.out,if_pos hend])
     have hendI:(s.size:Int)<=(a:Int)+(k:Int):=by omega
     go_wp2
     go_ret2
     exact⟨by rw[<-HE.out];rfl,rfl⟩
    rw[if_neg hend]at HS
    have hendI:(a:Int)+(k:Int)<(s.size:Int):=by omega
    have HB:=b6 (S2 s (a+k) (by omega))
    have hyl:=y6 s (a+k)
    have HGK:=b6 hk
    go_upto_region 19 with fail
    go_cut [10] (fun v wd=>v=.int .i64 (l5 s (a+k):Nat)/\w=wd)
    case first=>
     go_wp2
     go_meet
     case rel=>exact⟨by rw[HB.out,IntWalk.wrap64_in _ (by omega)],rfl⟩
    obtain⟨rfl,rfl⟩:=hcut
    clear HB hend hendI
    generalize l5 s (a+k)=y at*
    by_cases hy1:y<128
    ·have HE:=b6 (show(-1,k)=R by rw[<-HS.out,if_pos (.inl hy1)])
     have hyI:(y:Int)<128:=by omega
     go_wp2
     go_ret2
     exact⟨by rw[<-HE.out];rfl,rfl⟩
    by_cases hy2:191<y
    ·have HE:=b6 (show(-1,k)=R by rw[<-HS.out,if_pos (.inr hy2)])
     have hyI:¬((y:Int)<128):=by omega
     have hyJ:191<(y:Int):=by omega
     go_wp2
     go_ret2
     exact⟨by rw[<-HE.out];rfl,rfl⟩
    rw[if_neg (by omega)]at HS
    have hyI:¬((y:Int)<128):=by omega
    have hyJ:¬(191<(y:Int)):=by omega
    obtain⟨u,hu⟩:∃u,u=64*v+y-128:=⟨_,rfl⟩
    rw[<-hu]at HS
    have hub:(k=1->u<2048)/\(k=2->u<131072)/\u<8388608:=by omega
    go_upto_region 22 with fail
    go_cut [8] (fun v wd=>v=.int .i64 (u:Nat)/\w=wd)
    case first=>
     go_wp2
     go_meet
     case rel=>exact⟨by congr 1;omega,rfl⟩
    obtain⟨rfl,rfl⟩:=hcut
    clear hu hyI hyJ hyl hy1 hy2 hvk
    by_cases hk2:k=1
    ·subst hk2
     have hu2:u<2048:=hub.1 rfl
     clear hub
     obtain rfl:gk=2:=by have:=HGK.out;omega
     go_wp2_with fail
     go_loopg [11,12,13] 2 (fun g2 v11 v12 v13 wq=>∃i:Nat,i+g2=3/\1<=i/\v13=.int .i64 (i:Nat)/\((i=1/\v11=.int .i64 (u:Nat)/\v12=.int .i64 (u:Nat))∨(i=2/\v11=.int .i64 ((64*u:Nat):Int)/\v12=.int .i64 ((64*u+63:Nat):Int))∨(i=3/\v11=.int .i64 ((4096*u:Nat):Int)/\v12=.int .i64 ((4096*u+4095:Nat):Int)))/\w=wq)
     case atStart=>exact⟨1,by omega,Nat.le_refl _,rfl,.inl ⟨rfl,rfl,rfl⟩,rfl⟩
     case round=>
      obtain⟨i,hig,hi1,rfl,hcs,rfl⟩:=hrel
      rcases hcs with⟨rfl,rfl,rfl⟩|⟨rfl,rfl,rfl⟩|⟨rfl,rfl,rfl⟩
      ·go_wp2
       go_roundg (gk-1)
       case measure=>omega
       case rel=>exact⟨2,by omega,by omega,rfl,.inr (.inl ⟨rfl,by first|rfl|(congr 1;omega),by first|rfl|(congr 1;omega)⟩),rfl⟩
      ·go_wp2
       go_roundg (gk-1)
       case measure=>omega
       case rel=>exact⟨3,by omega,by omega,rfl,.inr (.inr ⟨rfl,by first|rfl|(congr 1;omega),by first|rfl|(congr 1;omega)⟩),rfl⟩
      ·by_cases e1:4096*u+4095<65536
       ·have HN:=b6 (show(-1,1)=R by rw[<-HS.out,if_pos ⟨by first|trivial|rfl,by simp[J2];omega⟩])
        have f1:4096*(u:Int)+4095<65536:=by omega
        go_wp2
        go_ret2
        exact⟨by rw[<-HN.out];rfl,rfl⟩
       ·have f1:¬(4096*(u:Int)+4095<65536):=by omega
        by_cases e2:1114111<4096*u
        ·have HN:=b6 (show(-1,1)=R by rw[<-HS.out,if_pos ⟨by first|trivial|rfl,by simp[J2];omega⟩])
         have f2:1114111<4096*(u:Int):=by omega
         go_wp2
         go_ret2
         exact⟨by rw[<-HN.out];rfl,rfl⟩
        ·have HN:=b6 (show Az s a 3 2 2 u=R by rw[<-HS.out,if_neg (fun q=>by simp[J2]at q;omega)])
         have f2:¬(1114111<4096*(u:Int)):=by omega
         have f3:55296<=4096*(u:Int):=by omega
         have f4:¬(4096*(u:Int)+4095<=57343):=by omega
         go_wp2
         go_roundg 2
         case measure=>omega
         case rel=>exact⟨2,u,by omega,by omega,rfl,rfl,⟨by omega,by omega,by omega⟩,HN.out,rfl⟩
    ·rw[if_neg (fun q=>hk2 q.1)]at HS
     have hkd:decide ((k:Int)=1)=false:=decide_eq_false (by omega)
     have hkd2:((k:Int)==1)=false:=by rw[beq_eq_false_iff_ne];omega
     go_wp2
     go_roundg gk
     case measure=>omega
     case rel=>exact⟨k+1,u,by have:=HGK.out;omega,by omega,rfl,by go_num,⟨by omega,by omega,by omega⟩,HS.out,rfl⟩
   ·obtain rfl:gk=0:=by omega
    have HE:=b6 (show((v:Int),3+1)=R from HK.out)
    have hleI:¬((k:Int)<=3):=by omega
    go_wp2
    go_ret2
    exact⟨by rw[<-HE.out];rfl,rfl⟩
 have HE:=b6 (show(-1,1)=R by rw[<-HR.out,show r6 b=(0,0)by unfold r6;rw[if_neg h2,if_neg h3,if_neg h4]];rfl)
 rcases(show b<194∨244<b by omega)with h5|h5
 all_goals
  go_wp2
  go_ret2
  exact⟨by rw[<-HE.out];rfl,rfl⟩
end Go.Proofs.YtdhhcefmmojcmaaGreatDoor
