/- Texts of this proof, one behind the other. -/
import Derived.Test.YtdhhcefmmojcmaaGreatDoorVl
import Derived.Test.YtdhhcefmmojcmaaGreatDoorM30
import Derived.StillTailTactics
set_option maxRecDepth 100000
set_option maxHeartbeats 0
set_option linter.unusedVariables false
namespace Go.Proofs.YtdhhcefmmojcmaaGreatDoor
open Go.RowKit Go.Lib
theorem RR.rg {w:World}{a:Option Addr}{n c:Nat}{s:List R2}(h:RR w (.slice a n c) s):Rg w a s/\n=s.length:=by
 rcases h.2 with⟨hv,k⟩|⟨g,cap,cur,hv,hg,hh,rest⟩
 ·have hs:s=[]:=List.eq_nil_of_length_eq_zero k
  refine⟨.inl hs,?_⟩
  cases hv
  rw[k]
 ·have ha:a=some ⟨g,0,none⟩:=by cases hv;rfl
  refine⟨.inr ⟨g,0,ha,lt_of_block hh,fun i hi=>⟨?_,?_⟩⟩,by cases hv;rfl⟩
  ·have:=h.cells (g:=g) (by rw[ha];rfl) _ _ (M5 s i hi)
   rw[W5]at this
   rw[Nat.zero_add,Nat.mul_comm]
   exact this
  ·have:=h.cells (g:=g) (by rw[ha];rfl) _ _ (I3 s i hi)
   rw[W5]at this
   rw[Nat.zero_add,Nat.mul_comm]
   exact this
theorem WF {w:World}{a:Option Addr}{n c:Nat}{s:List R2}(h:SR w (.slice a n c) s):Rg w a s/\n=s.length:=by
 rcases h.2 with⟨hv,k⟩|⟨g,cap,cur,hv,hg,hh,rest⟩
 ·have hs:s=[]:=List.eq_nil_of_length_eq_zero k
  refine⟨.inl hs,?_⟩
  cases hv
  rw[k]
 ·have ha:a=some ⟨g,0,none⟩:=by cases hv;rfl
  refine⟨.inr ⟨g,0,ha,lt_of_block hh,fun i hi=>⟨?_,?_⟩⟩,by cases hv;rfl⟩
  ·have:=h.cells (g:=g) (by rw[ha];rfl) _ _ (M5 s i hi)
   rw[W5]at this
   rw[Nat.zero_add,Nat.mul_comm]
   exact this
  ·have:=h.cells (g:=g) (by rw[ha];rfl) _ _ (I3 s i hi)
   rw[W5]at this
   rw[Nat.zero_add,Nat.mul_comm]
   exact this
theorem DW.inv {w:World}{B:Nat->Prop}{ds:List Dc}{p:Nat}{k mi ma ca:Int}{fo la:Bool}{set:List R2}{nm:ByteArray}{kids:List Nd}(h:DW w B ds p (.mk k mi ma ca fo la set nm kids)):
 ∃(c:Dc) (ps:List Nat),ds[p]? =some c/\(c.kind=k/\c.min=mi/\c.max=ma/\c.cap=ca/\c.fold=fo/\c.lazy=la/\c.name=nm)/\RR w (.slice c.sa c.sn c.sc) set/\IZ w (.slice c.ka c.kn c.kc) (BV ps)/\ps.length=kids.length/\∀(i q:Nat) (x:Nd),ps[i]? =some q->kids[i]? =some x->DW w B ds q x:=by
 cases h with
 |mk p c set ps kids hp hs bs hk bk hl ht=>exact⟨c,ps,hp,⟨rfl,rfl,rfl,rfl,rfl,rfl,rfl⟩,hs,hk,hl,ht⟩
theorem Te (cs:List Dc):∀i (hi:i<cs.length) j (u:Value),cs[i].list[j]? =some u->(cs.flatMap Dc.list)[i*9+j]? =some u:=by
 induction cs with
 |nil=>intro i hi;exact absurd hi (Nat.not_lt_zero _)
 |cons c cs ih=>
  intro i hi j u hu
  rw[List.flatMap_cons]
  have hj:j<9:=by
   have:=(List.getElem?_eq_some_iff.1 hu).1
   simpa [Dc.list]using this
  match i,hi,hu with
  |0,_,hu=>
   rw[List.getElem?_append_left (by simp[Dc.list];omega),Nat.zero_mul,Nat.zero_add]
   exact hu
  |i+1,hi,hu=>
   rw[List.getElem?_append_right (by simp[Dc.list];omega)]
   have e:(i+1)*9+j-c.list.length=i*9+j:=by simp[Dc.list];omega
   rw[e]
   exact ih i (by simpa using hi) j u hu
theorem NL.at {w:World}{a:Option Addr}{n c:Nat}{ds:List Dc}(h:NL w (.slice a n c) ds){p:Nat}{d:Dc}(hp:ds[p]? =some d):∃g,a=some ⟨g,0,none⟩/\g<w.heap.size/\n=ds.length/\∀j u,d.list[j]? =some u->w.cell? ⟨g,p*9+j,none⟩=some u:=by
 obtain⟨hlt,hd⟩:=List.getElem?_eq_some_iff.1 hp
 rcases h.2 with⟨_,k⟩|⟨g,cap,cur,hv,hg,hh,rest⟩
 ·omega
 ·have ha:a=some ⟨g,0,none⟩:=by cases hv;rfl
  refine⟨g,ha,lt_of_block hh,by cases hv;rfl,fun j u hu=>?_⟩
  have:=h.cells (g:=g) (by rw[ha];rfl) (p*9+j) u (Te ds p hlt j u (by rw[hd];exact hu))
  rwa [W5]at this
theorem Wz {w:World}{a:Option Addr}{n c:Nat}{ps:List Nat}(h:IZ w (.slice a n c) (BV ps)){i q:Nat}(hi:ps[i]? =some q):∃g,a=some ⟨g,0,none⟩/\g<w.heap.size/\w.cell? ⟨g,i,none⟩=some (.int .i64 (q:Nat)):=by
 rcases h.2 with⟨_,k⟩|⟨g,cap,cur,hv,hg,hh,rest⟩
 ·have:=(List.getElem?_eq_some_iff.1 hi).1
  rw[L5]at k
  omega
 ·have ha:a=some ⟨g,0,none⟩:=by cases hv;rfl
  refine⟨g,ha,lt_of_block hh,?_⟩
  have:=h.cells (g:=g) (by rw[ha];rfl) i (.int .i64 (q:Nat)) (by rw[List.getElem?_map];unfold BV;rw[List.getElem?_map,hi];rfl)
  rwa [Ai]at this
theorem Ng {w:World}{e:TypeId}{sz m c:Nat}{a:Option Addr}{n:Nat}{xs:List Value}(h:w.ownsRow 0 e sz (.slice a m c) n xs):m=0∨m<=maxLen:=by
 obtain⟨_,_,hv⟩:=e9 h
 cases hv
 rcases h.2 with⟨_,h0⟩|⟨_,cap,cur,_,_,_,h1,h2,_⟩
 ·exact .inl h0
 ·exact .inr (Nat.le_trans h1 h2)
theorem AX:∀(N:Nat) (x:Nd),SizeOf.sizeOf x<=N->∀(c:j4) (B B':Nat->Prop) (ds:List Dc) (p:Nat) (aN:Option Addr) (nN cN:Nat) (r:Int) (an:Option Addr) (nn cn:Nat) (e1 e2:Int) (w:World),TN w B c x->DW w B' ds p x->NL w (.slice aN nN cN) ds->
 Calls Tryz.prog 14 #[.agg c.arr,.agg #[.slice aN nN cN,.int .i64 r,.slice an nn cn,.int .i64 e1,.int .i64 e2],.int .i64 (p:Nat)] w fun e w'=>e=.returned (.bool true)/\b7 (fun _=>False) w w'
 |0,.mk _ _ _ _ _ _ _ _ _,h=>by simp at h
 |N+1,.mk k mi ma ca fo la set nm kids,hN=>by
  intro c B B' ds p aN nN cN r an nn cn er ea w ht hd hnl
  have IH:=b6 (fun y (hy:y ∈ kids)=>AX N y (by
   have h1:=List.sizeOf_lt_of_mem hy
   simp only[Nd.mk.sizeOf_spec]at hN
   omega))
  obtain⟨⟨e1,e2,e3,e4,e5,e6,e7⟩,hsr,_,_,cs,hcl,hlen,hkid⟩:=ht.inv
  obtain⟨⟨dk,di,dx,dp,da,dn,dcc,df,dl,dm,ga,gn,gc⟩,ps,hp,⟨f1,f2,f3,f4,f5,f6,f7⟩,hrr,hiz,hpl,hdk⟩:=hd.inv
  obtain⟨ck,sa,sn,sc,fo2,mi2,ma2,la2,ca2,nm2,ka,kn,kc⟩:=c
  simp only at e1 e2 e3 e4 e5 e6 e7 hcl hsr f1 f2 f3 f4 f5 f6 f7 hrr hiz
  subst e1 e2 e3 e4 e5 e6 e7 f1 f2 f3 f4 f5 f6 f7
  have hsr0:=hsr
  have hcl0:=hcl
  obtain⟨hRg1,hsn1⟩:=WF hsr
  obtain⟨hRg2,hsn2⟩:=hrr.rg
  obtain rfl:dn=sn:=by rw[hsn1,hsn2]
  obtain rfl:gn=kn:=by
   obtain⟨_,_,hv⟩:=e9 hcl
   cases hv
   obtain⟨_,_,hv2⟩:=e9 hiz
   cases hv2
   rw[L5,hpl,hlen]
  obtain⟨gN,haN,hgN,hnN,hat⟩:=hnl.at hp
  subst haN
  have hpl2:p<nN:=by rw[hnN];exact(List.getElem?_eq_some_iff.1 hp).1
  have hpI:(p:Int)<(nN:Int):=by omega
  unfold j4.arr
  obtain⟨b0,b1,T⟩:=Dq w #[.int .i64 dk,.slice sa dn sc,.bool df,.int .i64 di,.int .i64 dx,.bool dl,.int .i64 dp,.string dm,.slice ka gn kc] #[.slice (some ⟨gN,0,none⟩) nN cN,.int .i64 r,.slice an nn cn,.int .i64 er,.int .i64 ea] 28 41
  have BN:=b6 b0
  have BP:=b6 b1
  have kk:∀j u,(Dc.list ⟨dk,di,dx,dp,da,dn,dcc,df,dl,dm,ga,gn,gc⟩)[j]? =some u->((w.alloc (.cells #[.int .i64 dk,.slice sa dn sc,.bool df,.int .i64 di,.int .i64 dx,.bool dl,.int .i64 dp,.string dm,.slice ka gn kc] 28)).alloc (.cells #[.slice (some ⟨gN,0,none⟩) nN cN,.int .i64 r,.slice an nn cn,.int .i64 er,.int .i64 ea] 41)).cell? ⟨gN,p*9+j,none⟩=some u:=fun j u hj=>(T.cell (p:=⟨gN,p*9+j,none⟩) hgN id).trans (hat j u hj)
  have T1:=b6 T
  have HR1:=b6 (hRg1.new T)
  have HR2:=b6 (hRg2.new T)
  have HNL:=b6 (g9 hnl T iE)
  have HCL:=b6 (g9 hcl T iE)
  have HIZ:=b6 (g9 hiz T iE)
  have HTK:=b6 (fun i c' x' e1 e2=>(hkid i c' x' e1 e2).new T)
  have HDK:=b6 (fun i q x' e1 e2=>(hdk i q x' e1 e2).new T)
  have HSN:=b6 hsn1
  have HSB:=b6 (Ng hsr0)
  have HKB:=b6 (Ng hcl0)
  have HLEN:=b6 hlen
  have HPL:=b6 hpl
  have HWS:=b6 (show w.heap.size+1<((w.alloc (.cells #[.int .i64 dk,.slice sa dn sc,.bool df,.int .i64 di,.int .i64 dx,.bool dl,.int .i64 dp,.string dm,.slice ka gn kc] 28)).alloc (.cells #[.slice (some ⟨gN,0,none⟩) nN cN,.int .i64 r,.slice an nn cn,.int .i64 er,.int .i64 ea] 41)).heap.size from lt_of_block b1)
  clear hsr0 hcl0 hsr hrr hcl hiz hnl hkid hdk ht hd b0 b1 T hat hRg1 hRg2 hsn1 hsn2 hlen hpl hN hnN hpl2 hp hgN
  go_enter Tryz.func14,Tryz.ntmps14
  go_upto_region 1 with fail
  generalize (w.alloc (.cells #[.int .i64 dk,.slice sa dn sc,.bool df,.int .i64 di,.int .i64 dx,.bool dl,.int .i64 dp,.string dm,.slice ka gn kc] 28)).alloc (.cells #[.slice (some ⟨gN,0,none⟩) nN cN,.int .i64 r,.slice an nn cn,.int .i64 er,.int .i64 ea] 41)=w1 at*
  obtain⟨nb,hnb⟩:∃nb,nb=w.heap.size:=⟨_,rfl⟩
  obtain⟨pb,hpb⟩:∃pb,pb=w.heap.size+1:=⟨_,rfl⟩
  rw[<-hpb]at BP HWS⊢
  rw[<-hnb]at BN⊢
  clear hnb hpb
  have d0:w1.cell? ⟨gN,p*9,none⟩=some (.int .i64 dk):=kk 0 _ rfl
  have d1:w1.cell? ⟨gN,p*9+1,none⟩=some (.int .i64 di):=kk 1 _ rfl
  have d2:w1.cell? ⟨gN,p*9+2,none⟩=some (.int .i64 dx):=kk 2 _ rfl
  have d3:w1.cell? ⟨gN,p*9+3,none⟩=some (.int .i64 dp):=kk 3 _ rfl
  have d4:w1.cell? ⟨gN,p*9+4,none⟩=some (.slice da dn dcc):=kk 4 _ rfl
  have d5:w1.cell? ⟨gN,p*9+5,none⟩=some (.bool df):=kk 5 _ rfl
  have d6:w1.cell? ⟨gN,p*9+6,none⟩=some (.bool dl):=kk 6 _ rfl
  have d7:w1.cell? ⟨gN,p*9+7,none⟩=some (.string dm):=kk 7 _ rfl
  have d8:w1.cell? ⟨gN,p*9+8,none⟩=some (.slice ga gn gc):=kk 8 _ rfl
  clear kk
  have p0:w1.cell? ⟨pb,0,none⟩=some (.slice (some ⟨gN,0,none⟩) nN cN):=b9 BP.out 0 _ rfl
  go_upto_region 2 with fail
  have TA:=(tZ w1).alloc (.cells #[.int .i64 dk,.int .i64 di,.int .i64 dx,.int .i64 dp,.slice da dn dcc,.bool df,.bool dl,.string dm,.slice ga gn gc] 86)
  have BW:=b6 (e8 w1 #[.int .i64 dk,.int .i64 di,.int .i64 dx,.int .i64 dp,.slice da dn dcc,.bool df,.bool dl,.string dm,.slice ga gn gc] 86)
  have TT:=b6 TA
  generalize w1.alloc (.cells #[.int .i64 dk,.int .i64 di,.int .i64 dx,.int .i64 dp,.slice da dn dcc,.bool df,.bool dl,.string dm,.slice ga gn gc] 86)=w2 at*
  obtain⟨wb,hwb⟩:∃wb,wb=w1.heap.size:=⟨_,rfl⟩
  rw[<-hwb]at BW⊢
  clear hwb
  replace BN:=b6 ((TA.block nb (by have:=lt_of_block BN.out;exact this) id).trans BN.out)
  replace BP:=b6 ((TA.block pb (lt_of_block BP.out) id).trans BP.out)
  have T2:=b6 (T1.out.trans TA iE)
  clear TA T1 d0 d1 d2 d3 d4 d5 d6 d7 d8 p0
  have n0:w2.cell? ⟨nb,0,none⟩=some (.int .i64 dk):=b9 BN.out 0 _ rfl
  have n1:w2.cell? ⟨nb,1,none⟩=some (.slice sa dn sc):=b9 BN.out 1 _ rfl
  have n2:w2.cell? ⟨nb,2,none⟩=some (.bool df):=b9 BN.out 2 _ rfl
  have n3:w2.cell? ⟨nb,3,none⟩=some (.int .i64 di):=b9 BN.out 3 _ rfl
  have n4:w2.cell? ⟨nb,4,none⟩=some (.int .i64 dx):=b9 BN.out 4 _ rfl
  have n5:w2.cell? ⟨nb,5,none⟩=some (.bool dl):=b9 BN.out 5 _ rfl
  have n6:w2.cell? ⟨nb,6,none⟩=some (.int .i64 dp):=b9 BN.out 6 _ rfl
  have n7:w2.cell? ⟨nb,7,none⟩=some (.string dm):=b9 BN.out 7 _ rfl
  have n8:w2.cell? ⟨nb,8,none⟩=some (.slice ka gn kc):=b9 BN.out 8 _ rfl
  have m0:w2.cell? ⟨wb,0,none⟩=some (.int .i64 dk):=b9 BW.out 0 _ rfl
  have m1:w2.cell? ⟨wb,1,none⟩=some (.int .i64 di):=b9 BW.out 1 _ rfl
  have m2:w2.cell? ⟨wb,2,none⟩=some (.int .i64 dx):=b9 BW.out 2 _ rfl
  have m3:w2.cell? ⟨wb,3,none⟩=some (.int .i64 dp):=b9 BW.out 3 _ rfl
  have m4:w2.cell? ⟨wb,4,none⟩=some (.slice da dn dcc):=b9 BW.out 4 _ rfl
  have m5:w2.cell? ⟨wb,5,none⟩=some (.bool df):=b9 BW.out 5 _ rfl
  have m6:w2.cell? ⟨wb,6,none⟩=some (.bool dl):=b9 BW.out 6 _ rfl
  have m7:w2.cell? ⟨wb,7,none⟩=some (.string dm):=b9 BW.out 7 _ rfl
  have m8:w2.cell? ⟨wb,8,none⟩=some (.slice ga gn gc):=b9 BW.out 8 _ rfl
  dsimp only[List.append]
  go_upto_region 4 with fail
  clear n0 n1 n2 n3 n4 n5 n6 n7 n8 m0 m1 m2 m3 m4 m5 m6 m7 m8
  have hsb:(dn:Int)<=9223372036854775807:=by
   rcases HSB.out with h|h
   ·omega
   ·unfold maxLen at h;omega
  have hkb:(gn:Int)<=9223372036854775807:=by
   rcases HKB.out with h|h
   ·omega
   ·unfold maxLen at h;omega
  go_wp2_with fail
  go_loopg [8] dn (fun gk v8 wq=>∃i:Nat,i+gk=dn/\v8=.int .i64 (i:Nat)/\Hid (b7 (fun _=>False) w2 wq))
  case atStart=>exact⟨0,Nat.zero_add _,rfl,b6 (b7.refl _ _)⟩
  case round=>
   obtain⟨i,hgk,rfl,HT⟩:=hrel
   have n1:wr.cell? ⟨nb,1,none⟩=some (.slice sa dn sc):=b9 ((HT.out.block nb (lt_of_block BN.out) id).trans BN.out) 1 _ rfl
   have m4:wr.cell? ⟨wb,4,none⟩=some (.slice da dn dcc):=b9 ((HT.out.block wb (lt_of_block BW.out) id).trans BW.out) 4 _ rfl
   by_cases hlt:i<dn
   ·have hltI:(i:Int)<(dn:Int):=by omega
    have hwi:IntKind.i64.wrap ((i:Int)+1)=((i+1:Nat):Int):=by rw[IntKind.wrap_i64];omega
    have hil:i<set.length:=by have:=HSN.out;omega
    obtain⟨b1,o1,ha1,hb1,hc1⟩:∃b o,sa=some ⟨b,o,none⟩/\b<wr.heap.size/\∀i (h:i<set.length),wr.cell? ⟨b,o+i*2,none⟩=some (.int .i64 (set[i]).1)/\wr.cell? ⟨b,o+i*2+1,none⟩=some (.int .i64 (set[i]).2):=by
     rcases(HR1.out.new TT.out).new HT.out with h|h
     ·rw[h]at hil;simp at hil
     ·exact h
    obtain⟨b2,o2,ha2,hb2,hc2⟩:∃b o,da=some ⟨b,o,none⟩/\b<wr.heap.size/\∀i (h:i<set.length),wr.cell? ⟨b,o+i*2,none⟩=some (.int .i64 (set[i]).1)/\wr.cell? ⟨b,o+i*2+1,none⟩=some (.int .i64 (set[i]).2):=by
     rcases(HR2.out.new TT.out).new HT.out with h|h
     ·rw[h]at hil;simp at hil
     ·exact h
    subst ha1
    subst ha2
    obtain⟨d0,d1⟩:=hc1 i hil
    obtain⟨e0,e1⟩:=hc2 i hil
    obtain⟨s,hs⟩:∃s,s=set[i]:=⟨_,rfl⟩
    rw[<-hs]at d0 d1 e0 e1
    clear hc1 hc2 hs hil
    have HTD:=b6 (HT.out.drew)
    go_wp2_with fail
    go_region
    go_wp2
    go_roundg (gk-1)
    case measure=>omega
    case rel=>exact⟨i+1,by omega,by simp,HTD⟩
   ·have hltI:¬(i:Int)<(dn:Int):=by omega
    clear hlt hgk m4
    have HTL:=HT
    go_wp2_with fail
    go_loopg [9] gn (fun gk v9 wq=>∃i:Nat,i+gk=gn/\v9=.int .i64 (i:Nat)/\Hid (b7 (fun _=>False) w2 wq))
    case atStart=>exact⟨0,Nat.zero_add _,rfl,HTL⟩
    case round=>
     clear HT HTL n1 hltI
     obtain⟨i,hgk,rfl,HT⟩:=hrel
     have n8:wr.cell? ⟨nb,8,none⟩=some (.slice ka gn kc):=b9 ((HT.out.block nb (lt_of_block BN.out) id).trans BN.out) 8 _ rfl
     by_cases hlt:i<gn
     ·have hltI:(i:Int)<(gn:Int):=by omega
      have hwi:IntKind.i64.wrap ((i:Int)+1)=((i+1:Nat):Int):=by rw[IntKind.wrap_i64];omega
      have m8:wr.cell? ⟨wb,8,none⟩=some (.slice ga gn gc):=b9 ((HT.out.block wb (lt_of_block BW.out) id).trans BW.out) 8 _ rfl
      have q0:wr.cell? ⟨pb,0,none⟩=some (.slice (some ⟨gN,0,none⟩) nN cN):=b9 ((HT.out.block pb (lt_of_block BP.out) id).trans BP.out) 0 _ rfl
      have q1:wr.cell? ⟨pb,1,none⟩=some (.int .i64 r):=b9 ((HT.out.block pb (lt_of_block BP.out) id).trans BP.out) 1 _ rfl
      have q2:wr.cell? ⟨pb,2,none⟩=some (.slice an nn cn):=b9 ((HT.out.block pb (lt_of_block BP.out) id).trans BP.out) 2 _ rfl
      have q3:wr.cell? ⟨pb,3,none⟩=some (.int .i64 er):=b9 ((HT.out.block pb (lt_of_block BP.out) id).trans BP.out) 3 _ rfl
      have q4:wr.cell? ⟨pb,4,none⟩=some (.int .i64 ea):=b9 ((HT.out.block pb (lt_of_block BP.out) id).trans BP.out) 4 _ rfl
      have hcs:cs.length=gn:=by
       obtain⟨_,_,hv⟩:=e9 HCL.out
       cases hv
       rfl
      obtain⟨g,hka,hgl,hx9,hat⟩:=CL.at (show CL w1 (.slice ka gn kc) cs from HCL.out) (by omega)
      subst hka
      clear hx9
      have hil:i<cs.length:=by omega
      have hik:i<kids.length:=by have:=HLEN.out;omega
      have hip:i<ps.length:=by have:=HPL.out;omega
      obtain⟨⟨fk,fa,fn,fc,ff,fi,fx,fl,fp,fm,gga,ggn,ggc⟩,hci⟩:∃c,c=cs[i]:=⟨_,rfl⟩
      have TW:=b6 (TT.out.trans HT.out iE)
      have HX:=b6 (HTK.out i _ _ (by rw[List.getElem?_eq_getElem hil,<-hci]) (List.getElem?_eq_getElem hik))
      obtain⟨pq,hpq⟩:∃pq,pq=ps[i]:=⟨_,rfl⟩
      have hpi:ps[i]? =some pq:=by rw[hpq];exact List.getElem?_eq_getElem hip
      have HY:=b6 (HDK.out i pq _ hpi (List.getElem?_eq_getElem hik))
      obtain⟨g2,hga,hgl2,hat2⟩:=Wz HIZ.out hpi
      subst hga
      have k9:wr.cell? ⟨g2,i,none⟩=some (.int .i64 (pq:Nat)):=(TW.out.cell (p:=⟨g2,i,none⟩) hgl2 id).trans hat2
      have kk:∀j u,(j4.list ⟨fk,fa,fn,fc,ff,fi,fx,fl,fp,fm,gga,ggn,ggc⟩)[j]? =some u->wr.cell? ⟨g,i*9+j,none⟩=some u:=fun j u hj=>by
       exact(TW.out.cell (p:=⟨g,i*9+j,none⟩) hgl id).trans (hat i hil j u (by rw[<-hci];exact hj))
      have d0:wr.cell? ⟨g,i*9,none⟩=some (.int .i64 fk):=kk 0 _ rfl
      have d1:wr.cell? ⟨g,i*9+1,none⟩=some (.slice fa fn fc):=kk 1 _ rfl
      have d2:wr.cell? ⟨g,i*9+2,none⟩=some (.bool ff):=kk 2 _ rfl
      have d3:wr.cell? ⟨g,i*9+3,none⟩=some (.int .i64 fi):=kk 3 _ rfl
      have d4:wr.cell? ⟨g,i*9+4,none⟩=some (.int .i64 fx):=kk 4 _ rfl
      have d5:wr.cell? ⟨g,i*9+5,none⟩=some (.bool fl):=kk 5 _ rfl
      have d6:wr.cell? ⟨g,i*9+6,none⟩=some (.int .i64 fp):=kk 6 _ rfl
      have d7:wr.cell? ⟨g,i*9+7,none⟩=some (.string fm):=kk 7 _ rfl
      have d8:wr.cell? ⟨g,i*9+8,none⟩=some (.slice gga ggn ggc):=kk 8 _ rfl
      have KW:=b6 (fun w' (t:b7 (fun _=>False) wr w')=>IH.out _ (List.getElem_mem hik) _ _ _ ds pq (some ⟨gN,0,none⟩) nN cN r an nn cn er ea w' (HX.out.new (TW.out.trans t iE)) (HY.out.new (TW.out.trans t iE)) (g9 HNL.out (TW.out.trans t iE) iE))
      unfold j4.arr at KW
      clear kk hci hat hgl hil hcs hip hpi hpq hgl2 hat2 HX HY
      go_upto_region 12 with fail
      refine wp_region_still_tail 11 (by kernel_rfl) (by kernel_rfl) ?_
      replace n8:wr.drew.cell? ⟨nb,8,none⟩=some (.slice (some ⟨g,0,none⟩) gn kc):=n8
      replace m8:wr.drew.cell? ⟨wb,8,none⟩=some (.slice (some ⟨g2,0,none⟩) gn gc):=m8
      replace q0:wr.drew.cell? ⟨pb,0,none⟩=some (.slice (some ⟨gN,0,none⟩) nN cN):=q0
      replace q1:wr.drew.cell? ⟨pb,1,none⟩=some (.int .i64 r):=q1
      replace q2:wr.drew.cell? ⟨pb,2,none⟩=some (.slice an nn cn):=q2
      replace q3:wr.drew.cell? ⟨pb,3,none⟩=some (.int .i64 er):=q3
      replace q4:wr.drew.cell? ⟨pb,4,none⟩=some (.int .i64 ea):=q4
      replace k9:wr.drew.cell? ⟨g2,i,none⟩=some (.int .i64 (pq:Nat)):=k9
      replace d0:wr.drew.cell? ⟨g,i*9,none⟩=some (.int .i64 fk):=d0
      replace d1:wr.drew.cell? ⟨g,i*9+1,none⟩=some (.slice fa fn fc):=d1
      replace d2:wr.drew.cell? ⟨g,i*9+2,none⟩=some (.bool ff):=d2
      replace d3:wr.drew.cell? ⟨g,i*9+3,none⟩=some (.int .i64 fi):=d3
      replace d4:wr.drew.cell? ⟨g,i*9+4,none⟩=some (.int .i64 fx):=d4
      replace d5:wr.drew.cell? ⟨g,i*9+5,none⟩=some (.bool fl):=d5
      replace d6:wr.drew.cell? ⟨g,i*9+6,none⟩=some (.int .i64 fp):=d6
      replace d7:wr.drew.cell? ⟨g,i*9+7,none⟩=some (.string fm):=d7
      replace d8:wr.drew.cell? ⟨g,i*9+8,none⟩=some (.slice gga ggn ggc):=d8
      change wpStill _ _ wr.drew _ _ _
      have TD:=b6 ((tZ wr).drew)
      dsimp only[List.take_succ_cons,List.take_zero,List.drop_succ_cons,List.drop_zero]
      iterate 11 still_step
      refine wpStill_nil ?_
      have KW2:=b6 (KW.out wr.drew TD.out)
      clear KW
      go_wp2_with fail
      refine KW2.out.mono ?_
      rintro e w5 ⟨rfl,t5⟩
      have HT5:=b6 ((HT.out.trans TD.out iE).trans t5 iE)
      clear t5 KW2
      clear d0 d1 d2 d3 d4 d5 d6 d7 d8 k9 m8 q0 q1 q2 q3 q4 n8
      go_wp2
      go_roundg (gk-1)
      case measure=>omega
      case rel=>exact⟨i+1,by omega,by simp,HT5⟩
     ·have hltI:¬(i:Int)<(gn:Int):=by omega
      have HF:=b6 (T2.out.trans HT.out iE)
      go_wp2
      go_ret
      exact⟨rfl,HF.out⟩
end Go.Proofs.YtdhhcefmmojcmaaGreatDoor
