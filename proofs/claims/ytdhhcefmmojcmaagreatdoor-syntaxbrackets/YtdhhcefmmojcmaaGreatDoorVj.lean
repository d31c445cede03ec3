/- Texts of this proof, one behind the other. -/
import Derived.Test.YtdhhcefmmojcmaaGreatDoorM42
import Derived.Deep.RegionWith
set_option maxRecDepth 100000
set_option maxHeartbeats 0
set_option linter.unusedVariables false
namespace Go.Proofs.YtdhhcefmmojcmaaGreatDoor
open Go.RowKit Go.Lib
theorem MQ {w:World}{a:Option Addr}{n c:Nat}{qs:List Nat}{p:Nat}(h:IZ w (.slice a n c) (BV (qs++ [p]))):∃g,a=some ⟨g,0,none⟩/\w.cell? ⟨g,qs.length,none⟩=some (.int .i64 (p:Nat))/\w.frozen? ⟨g,qs.length,none⟩=false:=by
 rcases h.2 with⟨_,h0⟩|⟨g,cap,cur,hv,hg,hh,hrest⟩
 ·rw[L5,List.length_append,List.length_singleton]at h0
  omega
 ·have ha:a=some ⟨g,0,none⟩:=by cases hv;rfl
  refine⟨g,ha,?_,by simp[World.frozen?,hh]⟩
  have:=h.cells (g:=g) (by rw[ha];rfl) qs.length (.int .i64 (p:Nat)) (by simp[BV])
  rwa [Ai]at this
theorem FB (l:List Nd)(x:Nd):G8 l (some x)=l++ [x]:=rfl
def WS (b:Nat)(X:Px)(op:Nat)(sub:Option A8)(w:World)(vN vn:Value)(k:Nat)(ds:List Dc)(Z:PR (List Nd×St))(gk:Nat)(v3 v4:Value)(wr:World):Prop:=
 ∃(st:St) (l:List Nd) (o:Option Nd) (ps:List Nat) (es:List Dc) (vN' vn':Value) (n:Nat),v4=.bool o.isSome/\X.R.length+2<=st.k+gk/\Hid (X.R.length+1<=st.k+n)/\Hid (Ii X.R b8 sub n st l o=Z)/\Hid (st.k<=X.R.length/\k<=st.k)/\Hid (st.ns.length<=st.k+1)/\
  Hid (QS wr b X st.k st.f op vN' vn' 0 0 (ds++es) st.ns)/\Hid (KL w.heap.size wr v3 ps (G8 l o) (ds++es))/\Hid (GT b w wr vN vn vN' vn')/\Hid (es.length+2*k<=2*st.k)/\Hid ((G8 l o).length<=st.k)
def WR (b:Nat)(X:Px)(op:Nat)(w:World)(vN vn:Value)(k:Nat)(ds:List Dc)(PO:PR (Nd×St))(v3 v4:Value)(wr:World):Prop:=
 ∃(c j:Nat) (f':Fl) (vN' vn':Value) (ds':List Dc) (ns':List ByteArray) (is:List Int) (m:Bool),v4=.bool m/\Hid (20<=c)/\Hid (PO=.error (c,j))/\Hid (QS wr b X X.R.length f' op vN' vn' (c:Nat) (g7 X.P j) ds' ns')/\Hid (IZ wr v3 is)/\Hid (GT b w wr vN vn vN' vn')/\Hid (ds'.length+2*k+2<=ds.length+2*X.R.length+4*(33-op))
def SA (R:List Int)(op:Nat)(Z:PR (List Nd×St)):PR (Nd×St):=Bb R op (match Z with
 | .error e=>.error e
 | .ok (l,s1)=>.ok (Z0 8 l,s1))
theorem Nm {R:List Int}{tab:List (ByteArray×List R2)}{sub:Option A8}{n:Nat}{st:St}{l:List Nd}{o:Option Nd}{Z:PR (List Nd×St)}(h:Ii R tab sub n st l o=Z)(hn:R.length+1<=st.k+n)(hk:st.k<=R.length)(he:Y3 (g7 R st.k)=true):Z=.ok (G8 l o,st):=by
 obtain⟨n,rfl⟩:∃m,n=m+1:=⟨n-1,by omega⟩
 rw[Ii,if_pos he]at h
 exact h.symm
theorem VH {R:List Int}{tab:List (ByteArray×List R2)}{sub:Option A8}{n:Nat}{st:St}{l:List Nd}{o:Option Nd}{Z:PR (List Nd×St)}(h:Ii R tab sub n st l o=Z)(hn:R.length+1<=st.k+n)(hk:st.k<=R.length)(he:Y3 (g7 R st.k)=false)(hb:o8 R st.k=none):
 ∃m,n=m+1/\Z=(match F9 R tab sub st with
  | .error e=>.error e
  | .ok (p,s1)=>Ii R tab sub m s1 (G8 l o) p):=by
 obtain⟨n,rfl⟩:∃m,n=m+1:=⟨n-1,by omega⟩
 rw[Ii,if_neg (by rw[he];decide),hb]at h
 exact⟨n,rfl,h.symm⟩
def Xc (R:List Int)(tab:List (ByteArray×List R2))(sub:Option A8)(m:Nat)(st:St)(l:List Nd)(a z:Int)(k1:Nat):Option Nd->PR (List Nd×St)
 |none=>.error (23,st.k)
 |some x=>if a>64∨z>64∨(0<=z/\z<a)then .error (23,st.k)
  else if g7 R k1=63 then Ii R tab sub m {st with k:=k1+1} (l++ [.rep a z (!st.f.u) x]) none
  else Ii R tab sub m {st with k:=k1} (l++ [.rep a z st.f.u x]) none
theorem JV (R:List Int)(tab:List (ByteArray×List R2))(sub:Option A8)(m:Nat)(st:St)(l:List Nd)(a z:Int)(k1:Nat)(x:Nd):Xc R tab sub m st l a z k1 (some x)=if a>64∨z>64∨(0<=z/\z<a)then .error (23,st.k)
 else if g7 R k1=63 then Ii R tab sub m {st with k:=k1+1} (l++ [.rep a z (!st.f.u) x]) none
 else Ii R tab sub m {st with k:=k1} (l++ [.rep a z st.f.u x]) none:=rfl
theorem Uj {R:List Int}{tab:List (ByteArray×List R2)}{sub:Option A8}{n:Nat}{st:St}{l:List Nd}{o:Option Nd}{Z:PR (List Nd×St)}{a z:Int}{k1:Nat}(h:Ii R tab sub n st l o=Z)(hn:R.length+1<=st.k+n)(hk:st.k<=R.length)(he:Y3 (g7 R st.k)=false)(hb:o8 R st.k=some (a,z,k1)):
 ∃m,n=m+1/\Z=Xc R tab sub m st l a z k1 o:=by
 obtain⟨n,rfl⟩:∃m,n=m+1:=⟨n-1,by omega⟩
 rw[Ii,if_neg (by rw[he];decide),hb]at h
 refine⟨n,rfl,?_⟩
 rw[<-h]
 cases o with
 |none=>rfl
 |some x=>rfl
def Wc (b:Nat)(X:Px)(k:Nat)(f:Fl)(op:Nat)(vn':Value)(w:World)(vN vn:Value)(D:List Dc)(ns:List ByteArray)(v3:Value)(g3:Nat)(ps:List Nat)(l:List Nd)(y:Nd)(q:Nat)(wd:World):Prop:=
 ∃(vN2:Value) (c2:Dc),QS wd b X k f op vN2 vn' 0 0 (D++ [c2]) ns/\GT b w wd vN vn vN2 vn'/\DW wd (fun r=>w.heap.size<=r/\r<wd.heap.size/\r≠g3) (D++ [c2]) q y/\KL w.heap.size wd v3 ps l (D++ [c2])
theorem Uf {w wE:World}{b:Nat}{X:Px}{k:Nat}{f:Fl}{op:Nat}{vN vn vN' vn':Value}{D:List Dc}{ns:List ByteArray}{g3 n3 c3:Nat}{qs:List Nat}{p:Nat}{l:List Nd}{x:Nd}(HQ:QS wE b X k f op vN' vn' 0 0 D ns)(hD:D.length<=4194304)(HG:GT b w wE vN vn vN' vn')(HK:KL w.heap.size wE (.slice (some ⟨g3,0,none⟩) n3 c3) (qs++ [p]) (l++ [x]) D)(a z:Int)(u:Bool)(q:Nat)(hq:q=D.length)(wq:World)(g2:Nat)(tq:b7 (fun _=>False) wE wq)(hb2:wq.heap[g2]? =some (.cells #[.int .i64 (p:Int)] 3 (0,0)))(hg2:wE.heap.size<=g2):
 Calls Tryz.prog 77 #[.pointer (some ⟨b,0,none⟩),.agg #[.int .i64 10,.int .i64 a,.int .i64 z,.int .i64 0,.slice none 0 0,.bool false,.bool u,.string ⟨#[]⟩,.slice (some ⟨g2,0,none⟩) 1 1]] wq fun e w'=>e=.returned (.int .i64 (q:Nat))/\Wc b X k f op vn' w vN vn D ns (.slice (some ⟨g3,0,none⟩) n3 c3) g3 (qs++ [p]) (l++ [x]) (.rep a z u x) q w':=by
 subst hq
 have hg3:g3<wE.heap.size:=ET HK.z rfl
 have hlo:w.heap.size<=wE.heap.size:=HG.t.size
 have hHQ:=HQ.new tq
 refine(hHQ.put hD ⟨10,a,z,0,none,0,0,false,u,⟨#[]⟩,some ⟨g2,0,none⟩,1,1⟩).mono ?_
 rintro e w' ⟨h1,vN2,h2,h3⟩
 have hL:qs.length=l.length:=by have:=HK.len;simp at this;exact this
 have hx:=HK.tr qs.length p x (by rw[List.getElem?_append_right (Nat.le_refl _),Nat.sub_self];rfl) (by rw[hL,List.getElem?_append_right (Nat.le_refl _),Nat.sub_self];rfl)
 have hI:IZ wq (.slice (some ⟨g2,0,none⟩) 1 1) [(p:Int)]:=⟨rfl,.inr ⟨g2,1,#[.int .i64 (p:Int)],rfl,Nat.zero_le _,hb2,Nat.le_refl _,by unfold maxLen;omega,rfl,rfl⟩⟩
 have hgq:g2<wq.heap.size:=lt_of_block hb2
 have hs1:=tq.size
 have hs2:=h3.t.size
 refine⟨h1,vN2,_,h2,(HG.still tq).trans h3,?_,(HK.still tq).kept h3.t (fun g s=>hHQ.nd s) _⟩
 refine DW.mk D.length ⟨10,a,z,0,none,0,0,false,u,⟨#[]⟩,some ⟨g2,0,none⟩,1,1⟩ [] [p] [x] (IX _ _) (I5 w') (fun g e=>by cases e) (g9 hI h3.t (fun g e s=>by obtain⟨cs,fr,hh⟩:=j5 hI g e;exact(hHQ.nd s _ _ _ hh).2 rfl)) (fun g e=>?_) rfl (fun i q2 x2 e1 e2=>?_)
 ·cases e
  exact⟨by show w.heap.size<=g2;omega,by show g2<w'.heap.size;omega,by show g2≠g3;omega⟩
 ·match i,e1,e2 with
  |0,e1,e2=>
   cases e1
   cases e2
   refine(((hx.new tq).kept h3.t (fun g _ s=>hHQ.nd s)).more (fun g e=>?_) _)
   exact⟨e.1,by have:=e.2.1;omega,fun h=>e.2.2 (by rw[h];rfl)⟩
theorem Qu (b:Nat)(X:Px)(k:Nat)(f:Fl)(op:Nat)(vN vn:Value)(ds:List Dc)(ns:List ByteArray)(sub:Option A8)(w:World)(h:QS w b X k f op vN vn 0 0 ds ns)(hX:X.Good)(hk:k<=X.R.length)(hds:ds.length<=2*k)(hN:ns.length<=k+1)(hop:op<=32)(hS:Nz b X op sub)(hF:∀a,sub=some a->Ah X.R a)(hG:∀a,sub=some a->Kq X.R a)(hE:∀a,sub=some a->Ku X.R a):
 Calls Tryz.prog 51 #[.pointer (some ⟨b,0,none⟩)] w fun e w'=>DP b X k vN vn op (fun _=>False) 1 1 w ds (Bb X.R op (G9 X.R b8 sub ⟨k,f,ns⟩)) e w':=by
 obtain⟨i3,hi3,hz0,hz1,hz2⟩:=info_parts QM
 obtain⟨Z,hZ⟩:∃Z,Z=I1 X.R b8 sub (X.R.length+1) ⟨k,f,ns⟩ []:=⟨_,rfl⟩
 obtain⟨PO,hPO⟩:∃PO,PO=SA X.R op Z:=⟨_,rfl⟩
 have hcat:Bb X.R op (G9 X.R b8 sub ⟨k,f,ns⟩)=PO:=by rw[hPO,hZ];rfl
 rw[hcat]
 have HPO:=b6 hPO
 have HZ:=b6 (show Ii X.R b8 sub (X.R.length+1) ⟨k,f,ns⟩ [] none=Z from by
  rw[hZ]
  exact Ey hF (X.R.length+1) (X.R.length+1) ⟨k,f,ns⟩ [] none hk (by show _<=k+_;omega) (by show _<=k+_;omega))
 have HX:=b6 hX
 have HR:=b6 hX.lenR
 have HLP:=b6 hX.lenP
 have HK:=b6 hk
 have HDS:=b6 hds
 have HOP:=b6 hop
 have HSU:=b6 hS
 have HFF:=b6 hF
 have HGG:=b6 hG
 have HEE:=b6 hE
 have HBW:=b6 h.s.lt
 have HQ0:=b6 (show QS w b X k f op vN vn 0 0 (ds++ []) ns by rw[List.append_nil];exact h)
 have HNN:=b6 hN
 have HKD:=b6 hk
 clear h hX hk hds hN hop hS hF hG hE hZ hPO hcat
 go_enter Tryz.func51,Tryz.ntmps51
 go_wp2_with fail
 go_loopg [3,4] (X.R.length+2) (fun gk v3 v4 wq=>WS b X op sub w vN vn k ds Z gk v3 v4 wq∨WR b X op w vN vn k ds PO v3 v4 wq)
 case atStart=>exact .inl ⟨⟨k,f,ns⟩,[],none,[],[],vN,vn,X.R.length+1,rfl,by show _<=k+_;omega,b6 (by show _<=k+_;omega),HZ,b6 ⟨HK.out,Nat.le_refl _⟩,HNN,HQ0,b6 (KL.nil _ _ _),b6 (GT.refl _ _ _ _),b6 (by show 0+2*k<=2*k;omega),b6 (Nat.zero_le _)⟩
 case round=>
  clear HQ0 HNN HZ HK
  rcases hrel with hrel|hrel
  ·obtain⟨⟨kk,f,ns⟩,l,o,ps,es,vN',vn',n,rfl,hgk,HN1,HRW,HKK,HNS,HQ,HKL,HG,HES,HLL⟩:=hrel
   simp only at hgk HN1 HRW HKK HNS HQ HES HLL
   have HBL:=b6 (show(G8 l o).length<=2097152 from by have:=HLL.out;have:=HKK.out;have:=HR.out;omega)
   have c11:wr.cell? ⟨b,11,none⟩=some (.int .i64 0):=HQ.out.s.c 11 _ rfl
   have c2:wr.cell? ⟨b,2,none⟩=some (.int .i64 (kk:Nat)):=HQ.out.s.c 2 _ rfl
   obtain⟨y,hy⟩:∃y,y=g7 X.R kk:=⟨_,rfl⟩
   have HY:=b6 hy
   have KP:=b6 (j6 b X kk f op vN' vn' 0 0 0 wr HQ.out.s (by have:=HKK.out;have:=HR.out;omega) (by omega))
   rw[Nat.add_zero,<-hy]at KP
   clear hy
   go_wp2_with fail
   refine KP.out.mono ?_
   rintro e wp ⟨rfl,n1,hwp⟩
   have TN:=(tZ wr).drewN n1
   rw[<-hwp]at TN
   replace HQ:=b6 (HQ.out.new TN)
   replace HKL:=b6 (HKL.out.still TN)
   replace HG:=b6 (HG.out.still TN)
   clear TN hwp KP c11 c2
   by_cases hend:y= -1∨y=124
   ·have HZZ:=b6 (Nm HRW.out HN1.out HKK.out.1 (by rw[<-HY.out];unfold Y3;rcases hend with e|e<;>rw[e]<;>rfl))
    have HPP:=b6 (show PO=.ok (Z0 8 (G8 l o),⟨kk,f,ns⟩)by
     rw[HPO.out,HZZ.out]
     unfold SA
     rw[Ax,if_neg (fun e=>by have h1:=HY.out.trans e.2;omega)])
    clear HZZ HY
    rcases hend with rfl|rfl
    ·have KJ:=b6 (Y7 HQ.out (by rw[List.length_append];have:=HES.out;have:=HDS.out;have:=HKK.out;have:=HR.out;omega) 8 u3 _ HKL.out.z)
     go_wp2_with fail
     refine KJ.out.mono ?_
     rintro e wj ⟨r,vNj,esj,rfl,hqj,hgj,hlj,_,htr⟩
     obtain⟨p,rfl,hdw⟩:=htr (fun g=>False∨(w.heap.size<=g/\g<wp.heap.size)) ps (G8 l o) rfl HKL.out.len (fun g e=>.inr ⟨HKL.out.own g e,ET HKL.out.z e⟩) (fun i q x e1 e2=>(HKL.out.tr i q x e1 e2).wide (fun g e=>.inr ⟨e.1,e.2.1⟩))
     have HQJ:=b6 (show QS wj b X kk f op vNj vn' 0 0 (ds++(es++esj)) ns from by rw[<-List.append_assoc];exact hqj)
     have HDJ:=b6 (show DW wj (fun g=>False∨(w.heap.size<=g/\g<wj.heap.size)) (ds++(es++esj)) p (Z0 8 (G8 l o))from by rw[<-List.append_assoc];exact hdw.wide (fun g e=>by rcases e with e|e;exact .inl e;exact .inr ⟨e.1,Nat.lt_of_lt_of_le e.2 hgj.t.size⟩))
     have HGJ:=b6 (HG.out.trans hgj)
     have HLJ:=b6 hlj
     clear hqj hgj hlj htr hdw KJ
     go_wp2
     go_ret
     rw[HPP.out]
     exact⟨p,vNj,vn',es++esj,rfl,HQJ.out,HGJ.out,HDJ.out,by show(es++esj).length+2*k<=2*kk+1;rw[List.length_append];have:=HES.out;have:=HLJ.out;omega⟩
    ·have KJ:=b6 (Y7 HQ.out (by rw[List.length_append];have:=HES.out;have:=HDS.out;have:=HKK.out;have:=HR.out;omega) 8 u3 _ HKL.out.z)
     go_wp2_with fail
     refine KJ.out.mono ?_
     rintro e wj ⟨r,vNj,esj,rfl,hqj,hgj,hlj,_,htr⟩
     obtain⟨p,rfl,hdw⟩:=htr (fun g=>False∨(w.heap.size<=g/\g<wp.heap.size)) ps (G8 l o) rfl HKL.out.len (fun g e=>.inr ⟨HKL.out.own g e,ET HKL.out.z e⟩) (fun i q x e1 e2=>(HKL.out.tr i q x e1 e2).wide (fun g e=>.inr ⟨e.1,e.2.1⟩))
     have HQJ:=b6 (show QS wj b X kk f op vNj vn' 0 0 (ds++(es++esj)) ns from by rw[<-List.append_assoc];exact hqj)
     have HDJ:=b6 (show DW wj (fun g=>False∨(w.heap.size<=g/\g<wj.heap.size)) (ds++(es++esj)) p (Z0 8 (G8 l o))from by rw[<-List.append_assoc];exact hdw.wide (fun g e=>by rcases e with e|e;exact .inl e;exact .inr ⟨e.1,Nat.lt_of_lt_of_le e.2 hgj.t.size⟩))
     have HGJ:=b6 (HG.out.trans hgj)
     have HLJ:=b6 hlj
     clear hqj hgj hlj htr hdw KJ
     go_wp2
     go_ret
     rw[HPP.out]
     exact⟨p,vNj,vn',es++esj,rfl,HQJ.out,HGJ.out,HDJ.out,by show(es++esj).length+2*k<=2*kk+1;rw[List.length_append];have:=HES.out;have:=HLJ.out;omega⟩
   ·have y1:(y== -1)=false:=beq_eq_false_iff_ne.2 (fun e=>hend (.inl e))
    have y2:(y==124)=false:=beq_eq_false_iff_ne.2 (fun e=>hend (.inr e))
    by_cases h41:y=41
    ·have HZZ:=b6 (Nm HRW.out HN1.out HKK.out.1 (by rw[<-HY.out,h41];rfl))
     have HYY:=b6 (show g7 X.R kk=41 from HY.out.symm.trans h41)
     clear HY hend
     subst h41
     have c7:wp.cell? ⟨b,7,none⟩=some (.int .i64 (op:Nat)):=HQ.out.s.c 7 _ rfl
     by_cases hop0:op=0
     ·have HPP:=b6 (show PO=.error (25,kk)by
       rw[HPO.out,HZZ.out]
       unfold SA
       rw[Ax,if_pos ⟨hop0,HYY.out⟩])
      subst hop0
      have c2:wp.cell? ⟨b,2,none⟩=some (.int .i64 (kk:Nat)):=HQ.out.s.c 2 _ rfl
      have KF:=b6 (HQ.out.failC 25 kk (by have:=HKK.out;have:=HLP.out;omega))
      have HKL2:=HKL
      go_wp2_with fail
      refine KF.out.mono ?_
      rintro e wf ⟨rfl,hqf,hgf⟩
      have HQE:=b6 hqf
      have HGE:=b6 (HG.out.trans hgf)
      have HZE:=b6 ((HKL.out.kept hgf.t (fun g s=>HQ.out.nd s) []).z)
      have HBE:=b6 (show(ds++es).length+2*k+2<=ds.length+2*X.R.length+4*(33-0)by rw[List.length_append];have:=HES.out;have:=HKK.out;omega)
      clear hqf hgf KF c2 c7 HKL HKL2 HG HQ
      have KJ:=b6 (Y7 HQE.out (by have:=HBE.out;have:=HDS.out;have:=HKD.out;have:=HR.out;omega) 8 u3 _ HZE.out)
      go_wp2_with fail
      refine KJ.out.mono ?_
      rintro e wj ⟨r,vNj,esj,rfl,hqj,hgj,hlj,_,_⟩
      have HQJ:=b6 hqj
      have HGJ:=b6 (HGE.out.trans hgj)
      have HLJ:=b6 hlj
      clear hqj hgj hlj KJ
      go_wp2
      go_ret
      rw[HPP.out]
      exact⟨r,_,vNj,_,_,_,rfl,HQJ.out,HGJ.out,by rw[List.length_append];have:=HBE.out;have:=HLJ.out;omega⟩
     ·have HPP:=b6 (show PO=.ok (Z0 8 (G8 l o),⟨kk,f,ns⟩)by
       rw[HPO.out,HZZ.out]
       unfold SA
       rw[Ax,if_neg (fun e=>hop0 e.1)])
      have hopb:((op:Int)==0)=false:=beq_eq_false_iff_ne.2 (by omega)
      clear HZZ hop0
      have KJ:=b6 (Y7 HQ.out (by rw[List.length_append];have:=HES.out;have:=HDS.out;have:=HKK.out;have:=HR.out;omega) 8 u3 _ HKL.out.z)
      go_wp2_with fail
      refine KJ.out.mono ?_
      rintro e wj ⟨r,vNj,esj,rfl,hqj,hgj,hlj,_,htr⟩
      obtain⟨p,rfl,hdw⟩:=htr (fun g=>False∨(w.heap.size<=g/\g<wp.heap.size)) ps (G8 l o) rfl HKL.out.len (fun g e=>.inr ⟨HKL.out.own g e,ET HKL.out.z e⟩) (fun i q x e1 e2=>(HKL.out.tr i q x e1 e2).wide (fun g e=>.inr ⟨e.1,e.2.1⟩))
      have HQJ:=b6 (show QS wj b X kk f op vNj vn' 0 0 (ds++(es++esj)) ns from by rw[<-List.append_assoc];exact hqj)
      have HDJ:=b6 (show DW wj (fun g=>False∨(w.heap.size<=g/\g<wj.heap.size)) (ds++(es++esj)) p (Z0 8 (G8 l o))from by rw[<-List.append_assoc];exact hdw.wide (fun g e=>by rcases e with e|e;exact .inl e;exact .inr ⟨e.1,Nat.lt_of_lt_of_le e.2 hgj.t.size⟩))
      have HGJ:=b6 (HG.out.trans hgj)
      have HLJ:=b6 hlj
      clear hqj hgj hlj htr hdw KJ
      go_wp2
      go_ret
      rw[HPP.out]
      exact⟨p,vNj,vn',es++esj,rfl,HQJ.out,HGJ.out,HDJ.out,by show(es++esj).length+2*k<=2*kk+1;rw[List.length_append];have:=HES.out;have:=HLJ.out;omega⟩
    ·have y3:(y==41)=false:=beq_eq_false_iff_ne.2 h41
     have HEN:=b6 (show Y3 (g7 X.R kk)=false from by rw[<-HY.out];unfold Y3;simp;omega)
     have HKL0:=b6 (show kk<X.R.length from I6 (by rw[<-HY.out];exact fun e=>hend (.inl e)))
     clear HY hend h41
     have KT:=b6 (Pv b X kk f op vN' vn' 0 0 wp HQ.out.s HKK.out.1 HR.out)
     have HBF:=b6 (fun a z k1 (e:o8 X.R kk=some (a,z,k1))=>BR e)
     cases hb:o8 X.R kk with
     |none=>
      obtain⟨m,hm,hzz⟩:=VH HRW.out HN1.out HKK.out.1 HEN.out hb
      have HMM:=b6 hm
      have HZZ:=b6 hzz
      rw[hb]at KT
      unfold VO VN at KT
      simp only at KT
      clear hm hzz HRW HBF hb
      go_wp2_with fail
      refine KT.out.mono ?_
      rintro e wt ⟨rfl,dt,tt⟩
      replace HKL:=b6 (show KL w.heap.size wt u3 ps (G8 l o) (ds++es)from by have:=HKL.out.kept tt (fun g s=>HQ.out.nd (.inl s)) [];rw[List.append_nil]at this;exact this)
      replace HQ:=b6 (HQ.out.mv dt tt)
      replace HG:=b6 (HG.out.own tt)
      clear dt tt KT y1 y2 y3
      have KA:=b6 (Ll b X kk f op vN' vn' (ds++es) ns sub wt HQ.out HX.out HKL0.out (by rw[List.length_append];have:=HES.out;have:=HDS.out;omega) HNS.out HOP.out HSU.out)
      have HAF:=b6 (fun p s1 (e:F9 X.R b8 sub ⟨kk,f,ns⟩=.ok (p,s1))=>And.intro (Y1 HFF.out (show(⟨kk,f,ns⟩:St).k<_ from HKL0.out) e) (CE HFF.out HGG.out (show(⟨kk,f,ns⟩:St).k<_ from HKL0.out) e))
      have HAE:=b6 (fun c j (e:F9 X.R b8 sub ⟨kk,f,ns⟩=.error (c,j))=>(Mx b8 HEE.out ⟨kk,f,ns⟩ HKL0.out c j e).1)
      generalize F9 X.R b8 sub ⟨kk,f,ns⟩=A at*
      match A with
      | .ok (none,⟨k2,f2,ns2⟩)=>
        unfold Bl at KA
        simp only at KA HZZ
        obtain⟨hf1,hf2⟩:=HAF.out none _ rfl
        simp only at hf1 hf2
        have HF1:=b6 hf1
        have HF2:=b6 hf2
        clear hf1 hf2 HAF HAE
        go_wp2_with fail
        refine KA.out.mono ?_
        rintro e wa ⟨rfl,vNa,vna,hqa,hga⟩
        have HQA:=b6 hqa
        have HGA:=b6 (HG.out.trans hga)
        have HKA:=b6 (show KL w.heap.size wa u3 ps (G8 (G8 l o) none) (ds++es)from by have:=HKL.out.kept hga.t (fun g s=>HQ.out.nd s) [];rw[List.append_nil]at this;exact this)
        clear hqa hga KA
        go_wp2
        go_roundg (gk-1)
        case measure=>have:=HKL0.out;omega
        case rel=>exact .inl ⟨⟨k2,f2,ns2⟩,G8 l o,none,ps,es,vNa,vna,m,rfl,by show _<=k2+_;have:=HF1.out;omega,b6 (by show _<=k2+m;have:=HF1.out;have:=HN1.out;have:=HMM.out;omega),b6 HZZ.out.symm,b6 ⟨HF1.out.2,by show k<=k2;have:=HF1.out;have:=HKK.out;omega⟩,b6 (by show ns2.length<=k2+1;have:=HF2.out;have:=HNS.out;omega),HQA,HKA,HGA,b6 (by show _<=2*k2;have:=HF1.out;have:=HES.out;omega),b6 (by show(G8 l o).length<=k2;have:=HF1.out;have:=HLL.out;omega)⟩
      | .ok (some x,⟨k2,f2,ns2⟩)=>
        unfold Bl DP at KA
        simp only at KA HZZ
        obtain⟨hf1,hf2⟩:=HAF.out (some x) _ rfl
        simp only at hf1 hf2
        have HF1:=b6 hf1
        have HF2:=b6 hf2
        clear hf1 hf2 HAF HAE
        go_wp2_with fail
        refine KA.out.mono ?_
        rintro e wa ⟨p,vNa,vna,esa,rfl,hqa,hga,hda,hba⟩
        have HQA:=b6 hqa
        have HGA:=b6 (HG.out.trans hga)
        have HKA:=b6 (HKL.out.kept hga.t (fun g s=>HQ.out.nd s) esa)
        have HDA:=b6 hda
        have HBA:=b6 (show esa.length+2*kk<=2*k2+0 from hba)
        have HSW:=b6 (show w.heap.size<=wt.heap.size/\wt.heap.size<=wa.heap.size from⟨HG.out.t.size,hga.t.size⟩)
        have HVL:=b6 (fun g (e:u3.ownBlock=some g)=>show g<wt.heap.size from ET HKL.out.z e)
        clear hqa hga hda hba KA HKL HG HQ
        have hp0:(p:Int)≥0:=by omega
        obtain⟨a3,c3,hv3⟩:=e9 HKA.out.z
        obtain⟨N,hNl⟩:∃N,N=ps.length:=⟨_,rfl⟩
        have hN0:(BV ps).length=N:=by rw[L5,hNl]
        rw[hN0]at hv3
        have HNL:=b6 hNl
        have HO:=b6 (show wa.ownsRow 0 3 1 (.slice a3 N c3) N ((BV ps).map fun i=>Value.int .i64 i)from by have:=HKA.out.z;unfold IZ at this;rw[hv3,hN0]at this;exact this)
        have HV3:=b6 hv3
        have hNb:N<=4194304:=by
         rcases HO.out.2 with⟨_,h0⟩|⟨g,cap,cur,hv,hg,hh,h1,h2,_⟩
         ·omega
         ·have h3:=HKA.out.len
          have h4:=HBL.out
          omega
        subst hv3
        clear hNl hN0
        go_wp2_with (at_builtin;refine wpList_append_own_at _ rfl _ _ 56 rfl 0 3 i3 (.int .i64 0) 1 8 Tryz.underlying56 hi3 hz0 hz1 hz2 rfl (by decide) _ _ _ rfl (HO.out.alloc _) ⟨wa.heap.size,0,none⟩ 1 1 [.int .i64 (p:Int)] rfl rfl (z7 wa [.int .i64 (p:Int)] 3) (by intro u hu;simp at hu;subst hu;rfl) (by unfold maxLen;omega) (by omega) (Nat.zero_le _) ?_)
        intro v' w4 hown hgrow _ hat
        have TG:=b7.grown (S:=fun g=>(Value.slice a3 N c3).ownBlock=some g) ((b7.refl _ wa).alloc (.cells #[.int .i64 (p:Int)] 3)) hgrow (fun k e _=>e)
        have HOW:=fun g (e:(Value.slice a3 N c3).ownBlock=some g)=>HKA.out.own g e
        have HQ4:=b6 (HQA.out.side HKA.out.z (fun g e=>by have:=HOW g e;have:=HBW.out;omega) TG)
        have HG4:=b6 (HGA.out.side TG HOW)
        have HK4:=b6 (show KL w.heap.size w4 v' (ps++ [p]) (G8 (G8 l o) (some x)) (ds++(es++esa))from by
         rw[<-List.append_assoc]
         refine HKA.out.push HDA.out (fun g e=>?_) (Nat.le_trans HSW.out.1 HSW.out.2) (Ho (by rw[L5,<-HNL.out];exact hown)) hgrow hat
         rcases e with e|e
         ·exact e.elim
         ·exact⟨Nat.le_trans HSW.out.1 e.1,e.2,fun e2=>by have:=HVL.out g e2;omega⟩)
        have HQ5:=b6 (show QS w4 b X k2 f2 op vNa vna 0 0 (ds++(es++esa)) ns2 from by rw[<-List.append_assoc];exact HQ4.out)
        clear hown hgrow hat TG HOW HQ4 HO HKA HQA HGA
        go_wp2
        go_roundg (gk-1)
        case measure=>have:=HKL0.out;omega
        case rel=>exact .inl ⟨⟨k2,f2,ns2⟩,G8 l o,some x,ps++ [p],es++esa,vNa,vna,m,rfl,by show _<=k2+_;have:=HF1.out;omega,b6 (by show _<=k2+m;have:=HF1.out;have:=HN1.out;have:=HMM.out;omega),b6 HZZ.out.symm,b6 ⟨HF1.out.2,by show k<=k2;have:=HF1.out;have:=HKK.out;omega⟩,b6 (by show ns2.length<=k2+1;have:=HF2.out;have:=HNS.out;omega),HQ5,HK4,HG4,b6 (by show(es++esa).length+2*k<=2*k2;rw[List.length_append];have:=HBA.out;have:=HES.out;omega),b6 (by show(G8 l o++ [x]).length<=k2;rw[List.length_append];have:=HF1.out;have:=HLL.out;simp only[List.length_singleton];omega)⟩
      | .error (c,j)=>
        unfold Bl DP at KA
        simp only at KA HZZ
        have HC20:=b6 (HAE.out c j rfl)
        have HPP:=b6 (show PO=.error (c,j)by rw[HPO.out,HZZ.out];rfl)
        clear HAF HAE HZZ
        go_wp2_with fail
        refine KA.out.mono ?_
        rintro e wa ⟨r,f',vNa,vna,dsa,nsa,rfl,hqa,hga,hba⟩
        have HQA:=b6 hqa
        have HGA:=b6 (HG.out.trans hga)
        have HKA:=b6 (HKL.out.kept hga.t (fun g s=>HQ.out.nd s) [])
        have HBA:=b6 (show dsa.length+2*k+2<=ds.length+2*X.R.length+4*(33-op)by rw[List.length_append]at hba;have:=HES.out;omega)
        clear hqa hga hba KA HKL HG HQ
        by_cases hr:r≥0
        ·obtain⟨a3,c3,hv3⟩:=e9 HKA.out.z
         obtain⟨N,hNl⟩:∃N,N=ps.length:=⟨_,rfl⟩
         have hN0:(BV ps).length=N:=by rw[L5,hNl]
         rw[hN0]at hv3
         have HNL:=b6 hNl
         have HO:=b6 (show wa.ownsRow 0 3 1 (.slice a3 N c3) N ((BV ps).map fun i=>Value.int .i64 i)from by have:=HKA.out.z;unfold IZ at this;rw[hv3,hN0]at this;exact this)
         have hNb:N<=4194304:=by
          have h3:=HKA.out.len
          have h4:=HBL.out
          omega
         subst hv3
         clear hNl hN0
         go_wp2_with (at_builtin;refine wpList_append_own_at _ rfl _ _ 56 rfl 0 3 i3 (.int .i64 0) 1 8 Tryz.underlying56 hi3 hz0 hz1 hz2 rfl (by decide) _ _ _ rfl (HO.out.alloc _) ⟨wa.heap.size,0,none⟩ 1 1 [.int .i64 r] rfl rfl (z7 wa [.int .i64 r] 3) (by intro u hu;simp at hu;subst hu;rfl) (by unfold maxLen;omega) (by omega) (Nat.zero_le _) ?_)
         intro v' w4 hown hgrow _ hat
         have TG:=b7.grown (S:=fun g=>(Value.slice a3 N c3).ownBlock=some g) ((b7.refl _ wa).alloc (.cells #[.int .i64 r] 3)) hgrow (fun k e _=>e)
         have HOW:=fun g (e:(Value.slice a3 N c3).ownBlock=some g)=>HKA.out.own g e
         have HQ4:=b6 (HQA.out.side HKA.out.z (fun g e=>by have:=HOW g e;have:=HBW.out;omega) TG)
         have HG4:=b6 (HGA.out.side TG HOW)
         have HI4:=b6 (show IZ w4 v' (BV ps++ [r])from Ho (by rw[L5,<-HNL.out];exact hown))
         clear hown hgrow hat TG HOW HO HKA HQA HGA
         go_wp2
         go_roundg (gk-1)
         case measure=>have:=HKL0.out;omega
         case rel=>exact .inr ⟨c,j,f',vNa,vna,dsa,nsa,_,_,rfl,HC20,HPP,HQ4,HI4,HG4,HBA⟩
        ·go_wp2
         go_roundg (gk-1)
         case measure=>have:=HKL0.out;omega
         case rel=>exact .inr ⟨c,j,f',vNa,vna,dsa,nsa,_,_,rfl,HC20,HPP,HQA,b6 HKA.out.z,HGA,HBA⟩
     |some q=>
      obtain⟨a,z,k1⟩:=q
      obtain⟨m,hm,hzz⟩:=Uj HRW.out HN1.out HKK.out.1 HEN.out hb
      have HMM:=b6 hm
      have HZZ:=b6 hzz
      have HBD:=b6 (HBF.out a z k1 hb)
      rw[hb]at KT
      unfold VO VN at KT
      simp only at KT
      clear hm hzz HRW HBF hb
      go_wp2_with fail
      refine KT.out.mono ?_
      rintro e wt ⟨rfl,dt,tt⟩
      replace HKL:=b6 (show KL w.heap.size wt u3 ps (G8 l o) (ds++es)from by have:=HKL.out.kept tt (fun g s=>HQ.out.nd (.inl s)) [];rw[List.append_nil]at this;exact this)
      replace HQ:=b6 (HQ.out.mv dt tt)
      replace HG:=b6 (HG.out.own tt)
      clear dt tt KT y1 y2 y3
      by_cases hbad:o=none∨a>64∨z>64∨(0<=z/\z<a)
      ·have HPP:=b6 (show PO=.error (23,kk)by
        rw[HPO.out,HZZ.out]
        cases o with
        |none=>rfl
        |some x=>
         rw[JV,if_pos (by rcases hbad with e|e;cases e;exact e)]
         rfl)
       clear HZZ
       have KF:=b6 (HQ.out.failC 23 kk (by have:=HKK.out;have:=HLP.out;omega))
       go_upto_region 16 with fail
       go_cut [80] (fun v wd=>v=.bool true/\wd=wt)
       case first=>
        cases o with
        |none=>
         go_wp2
         go_meet
         case rel=>exact⟨rfl,rfl⟩
        |some x=>
         have hbd:a>64∨z>64∨(0<=z/\z<a):=by rcases hbad with e|e;cases e;exact e
         clear hbad
         by_cases g1:a>64
         ·go_wp2
          go_meet
          case rel=>exact⟨rfl,rfl⟩
         ·by_cases g2:z>64
          ·go_wp2
           go_meet
           case rel=>exact⟨rfl,rfl⟩
          ·have g3:z≥0:=by omega
           have g4:z<a:=by omega
           go_wp2
           go_meet
           case rel=>exact⟨rfl,rfl⟩
       obtain⟨rfl,rfl⟩:=hcut
       clear hbad
       go_wp2_with fail
       refine KF.out.mono ?_
       rintro e wf ⟨rfl,hqf,hgf⟩
       have HQE:=b6 hqf
       have HGE:=b6 (HG.out.trans hgf)
       have HZE:=b6 ((HKL.out.kept hgf.t (fun g s=>HQ.out.nd s) []).z)
       have HBE:=b6 (show(ds++es).length+2*k+2<=ds.length+2*X.R.length+4*(33-op)by rw[List.length_append];have:=HES.out;have:=HKK.out;have:=HOP.out;omega)
       clear hqf hgf KF HKL HG HQ
       have KJ:=b6 (Y7 HQE.out (by have:=HBE.out;have:=HDS.out;have:=HKD.out;have:=HR.out;omega) 8 u3 _ HZE.out)
       go_wp2_with fail
       refine KJ.out.mono ?_
       rintro e wj ⟨r,vNj,esj,rfl,hqj,hgj,hlj,_,_⟩
       have HQJ:=b6 hqj
       have HGJ:=b6 (HGE.out.trans hgj)
       have HLJ:=b6 hlj
       clear hqj hgj hlj KJ
       go_wp2
       go_ret
       rw[HPP.out]
       exact⟨r,_,vNj,_,_,_,rfl,HQJ.out,HGJ.out,by rw[List.length_append];have:=HBE.out;have:=HLJ.out;omega⟩
      ·obtain⟨x,rfl⟩:∃x,o=some x:=by
        cases o with
        |none=>exact absurd (.inl rfl) hbad
        |some x=>exact⟨x,rfl⟩
       have HNB:=b6 (show ¬(a>64∨z>64∨(0<=z/\z<a))from fun e=>hbad (.inr e))
       clear hbad
       rw[JV,if_neg HNB.out]at HZZ
       go_upto_region 16 with fail
       go_cut [80] (fun v wd=>v=.bool false/\wd=wt)
       case first=>
        have hnb:=HNB.out
        have g1:¬a>64:=by omega
        have g2:¬z>64:=by omega
        by_cases g3:z≥0
        ·have g4:¬z<a:=by omega
         clear hnb
         go_wp2
         go_meet
         case rel=>exact⟨rfl,rfl⟩
        ·clear hnb
         go_wp2
         go_meet
         case rel=>exact⟨rfl,rfl⟩
       obtain⟨rfl,rfl⟩:=hcut
       obtain⟨E,hE⟩:∃E,E=decide (g7 X.R k1=63):=⟨_,rfl⟩
       obtain⟨k2,hk2⟩:∃k2,k2=if E then k1+1 else k1:=⟨_,rfl⟩
       have KE:=b6 (HQ.out.eatC ⟨#[63]⟩ (by have:=HBD.out;have:=HR.out;omega) (by show 1<=1024;decide) E k2 (by rw[U1,hE];rfl) hk2)
       obtain⟨u,hu⟩:∃u,u=(E !=f.u):=⟨_,rfl⟩
       have HZ2:=b6 (show Ii X.R b8 sub m ⟨k2,f,ns⟩ (l++ [.rep a z u x]) none=Z from by
        rw[HZZ.out]
        by_cases h63:g7 X.R k1=63
        ·rw[if_pos h63]
         obtain rfl:E=true:=by rw[hE];exact decide_eq_true h63
         rw[hk2,hu]
         simp
        ·rw[if_neg h63]
         obtain rfl:E=false:=by rw[hE];exact decide_eq_false h63
         rw[hk2,hu]
         simp)
       have HK2:=b6 (show kk<k2/\k2<=X.R.length from by
        have hbd:=HBD.out
        by_cases h63:g7 X.R k1=63
        ·obtain rfl:E=true:=by rw[hE];exact decide_eq_true h63
         have h1:=j9 h63 (by decide)
         have h2:k2=k1+1:=hk2
         omega
        ·obtain rfl:E=false:=by rw[hE];exact decide_eq_false h63
         have h2:k2=k1:=hk2
         omega)
       have HU:=b6 hu
       clear hE hk2 hu HZZ HBD
       go_wp2_with fail
       refine KE.out.mono ?_
       rintro e wE ⟨rfl,hqe,hge⟩
       have HQE:=b6 hqe
       have HGE:=b6 (HG.out.trans hge)
       have HKE:=b6 (show KL w.heap.size wE u3 ps (G8 l (some x)) (ds++es)from by have:=HKL.out.kept hge.t (fun g s=>HQ.out.nd s) [];rw[List.append_nil]at this;exact this)
       clear hqe hge KE HKL HG HQ
       rw[FB]at HKE
       obtain⟨qs,p,hps⟩:∃qs p,ps=qs++ [p]:=by
        have h1:=HKE.out.len
        rw[List.length_append,List.length_singleton]at h1
        exact⟨ps.dropLast,ps.getLast (fun e=>by rw[e]at h1;simp at h1),(List.dropLast_concat_getLast _).symm⟩
       subst hps
       obtain⟨N,hNl⟩:∃N,N=qs.length:=⟨_,rfl⟩
       obtain⟨a3,c3,hv3⟩:=e9 HKE.out.z
       obtain⟨M,hM⟩:∃M,M=N+1:=⟨_,rfl⟩
       have hN0:(BV (qs++ [p])).length=M:=by rw[L5,hM,hNl,List.length_append];rfl
       rw[hN0]at hv3
       subst hv3
       obtain⟨g3,ha3,hgc,hg3⟩:=MQ HKE.out.z
       subst ha3
       rw[<-hNl]at hgc hg3
       have HNL:=b6 hNl
       have hNb:M<=4194304:=by
        have h3:=HKE.out.len
        rw[List.length_append,<-hNl]at h3
        have h4:=HBL.out
        simp only[List.length_append,List.length_singleton]at h3
        rw[FB,List.length_append,List.length_singleton]at h4
        omega
       have hwN:IntKind.i64.wrap ((M:Int)-1)=(N:Int):=by rw[IntKind.wrap_i64];omega
       have hNlt:(N:Int)<(M:Int):=by omega
       clear hNl hN0 hM
       obtain⟨fi,fm,fs,fu⟩:=f
       obtain rfl:u=(E !=fu):=HU.out
       have c6:wE.cell? ⟨b,6,none⟩=some (.bool fu):=HQE.out.s.c 6 _ rfl
       go_upto_region 20 with fail
       obtain⟨q,hq⟩:∃q,q=(ds++es).length:=⟨_,rfl⟩
       have HQL:=b6 hq
       have HREP:=b6 (fun wq g2 tq hb2 hg2=>Uf HQE.out (by rw[List.length_append];have:=HES.out;have:=HDS.out;have:=HKK.out;have:=HR.out;omega) HGE.out HKE.out a z (E !=fu) q hq wq g2 tq hb2 hg2)
       clear hq
       have c6a:(wE.alloc (.cells #[.int .i64 (p:Int)] 3)).cell? ⟨b,6,none⟩=some (.bool fu):=(((tZ wE).alloc (.cells #[.int .i64 (p:Int)] 3)).cell (p:=⟨b,6,none⟩) HQE.out.s.lt id).trans c6
       go_cut [12] (fun v wd=>v=.int .i64 (q:Nat)/\Hid (Wc b X k2 ⟨fi,fm,fs,fu⟩ op vn' w vN vn (ds++es) ns (.slice (some ⟨g3,0,none⟩) M c3) g3 (qs++ [p]) (l++ [x]) (.rep a z (E !=fu) x) q wd))
       case first=>
        go_region_with (go_at_call 77;refine(HREP.out _ _ (((tZ wE).alloc (.cells #[.int .i64 (p:Int)] 3)).drew) (e8 wE _ 3) (Nat.le_refl _)).mono ?_;rintro e w6 ⟨rfl,hrp⟩;have HRP:=b6 hrp;clear hrp)
        all_goals
         go_wp2_with fail
         go_meet
         case rel=>exact⟨rfl,HRP⟩
       obtain⟨rfl,HRP⟩:=hcut
       generalize wc=w6 at*
       obtain⟨vN2,c2,hq6,hg6,hd6,hk6⟩:=HRP.out
       obtain⟨g4,hg4,hc4,hf4⟩:=MQ hk6.z
       cases hg4
       rw[<-HNL.out]at hc4 hf4
       have TS:=d9 w6 g3 N (.int .i64 (q:Nat))
       have HK7:=b6 (show KL w.heap.size (w6.setCell ⟨g3,N,none⟩ (.int .i64 (q:Nat))) (.slice (some ⟨g3,0,none⟩) M c3) (qs++ [q]) (l++ [.rep a z (E !=fu) x]) (ds++(es++ [c2]))from by
        rw[<-List.append_assoc,HNL.out]
        exact hk6.last hd6)
       have HOW:=fun g (e:(Value.slice (some ⟨g3,0,none⟩) M c3).ownBlock=some g)=>HKE.out.own g e
       have TV:b7 (fun g=>(Value.slice (some ⟨g3,0,none⟩) M c3).ownBlock=some g) w6 (w6.setCell ⟨g3,N,none⟩ (.int .i64 (q:Nat))):=TS.mono (fun g _ e=>by rw[e];rfl)
       have HQ7:=b6 (show QS (w6.setCell ⟨g3,N,none⟩ (.int .i64 (q:Nat))) b X k2 ⟨fi,fm,fs,fu⟩ op vN2 vn' 0 0 (ds++(es++ [c2])) ns from by
        rw[<-List.append_assoc]
        exact hq6.side hk6.z (fun g e=>by have:=HOW g e;have:=HBW.out;omega) TV)
       have HG7:=b6 (hg6.side TV HOW)
       clear TS HOW TV hq6 hg6 hd6 hk6 HRP HREP HQE HGE HKE hgc hg3 c6 c6a
       go_wp2
       go_roundg (gk-1)
       case measure=>have:=HKL0.out;omega
       case rel=>exact .inl ⟨⟨k2,⟨fi,fm,fs,fu⟩,ns⟩,(l++ [Nd.rep a z (E !=fu) x]:List Nd),none,qs++ [q],es++ [c2],vN2,vn',m,rfl,by show _<=k2+_;have:=HK2.out;omega,b6 (by show _<=k2+m;have:=HK2.out;have:=HN1.out;have:=HMM.out;omega),HZ2,b6 ⟨HK2.out.2,by show k<=k2;have:=HK2.out;have:=HKK.out;omega⟩,b6 (by show ns.length<=k2+1;have:=HK2.out;have:=HNS.out;omega),HQ7,HK7,HG7,b6 (by show(es++ [c2]).length+2*k<=2*k2;rw[List.length_append,List.length_singleton];have:=HK2.out;have:=HES.out;omega),b6 (by show(l++ [_]).length<=k2;have h1:=HLL.out;rw[FB]at h1;rw[List.length_append,List.length_singleton]at h1⊢;have:=HK2.out;omega)⟩
  ·obtain⟨c,j,f',vN',vn',ds',ns',is,mm,rfl,HC20,HPP,HQE,HZE,HGE,HBE⟩:=hrel
   have c11:wr.cell? ⟨b,11,none⟩=some (.int .i64 (c:Nat)):=HQE.out.s.c 11 _ rfl
   have hcz:((c:Int)==0)=false:=beq_eq_false_iff_ne.2 (by have:=HC20.out;omega)
   have KJ:=b6 (Y7 HQE.out (by have:=HBE.out;have:=HDS.out;have:=HKD.out;have:=HR.out;omega) 8 u3 _ HZE.out)
   go_wp2_with fail
   refine KJ.out.mono ?_
   rintro e wj ⟨r,vNj,esj,rfl,hqj,hgj,hlj,_,_⟩
   have HQJ:=b6 hqj
   have HGJ:=b6 (HGE.out.trans hgj)
   have HLJ:=b6 hlj
   clear hqj hgj hlj KJ
   go_wp2
   go_ret
   rw[HPP.out]
   exact⟨r,_,vNj,_,_,_,rfl,HQJ.out,HGJ.out,by rw[List.length_append];have:=HBE.out;have:=HLJ.out;omega⟩
end Go.Proofs.YtdhhcefmmojcmaaGreatDoor
