/- Texts of this proof, one behind the other. -/
import Derived.Test.YtdhhcefmmojcmaaGreatDoorSa
import Derived.Test.YtdhhcefmmojcmaaGreatDoorM1
set_option maxRecDepth 100000
set_option maxHeartbeats 0
set_option linter.unusedVariables false
namespace Go.Proofs.YtdhhcefmmojcmaaGreatDoor
open Go.RowKit Go.Lib
def Dr (x:R2):R2:=(max x.1 0,min x.2 1114111)
def DT (x:R2):Bool:=decide ((Dr x).1<=(Dr x).2)
def y5 (l:List R2):List R2:=(l.filter DT).map Dr
theorem Ms (l:List R2)(k:Nat)(h:k<l.length)(hk:(Dr l[k]).1<=(Dr l[k]).2):y5 (l.take (k+1))=y5 (l.take k)++ [Dr l[k]]:=by
 unfold y5
 rw[List.take_succ_eq_append_getElem h,List.filter_append,List.map_append]
 simp[DT,hk]
theorem PD (l:List R2)(k:Nat)(h:k<l.length)(hk:¬(Dr l[k]).1<=(Dr l[k]).2):y5 (l.take (k+1))=y5 (l.take k):=by
 unfold y5
 rw[List.take_succ_eq_append_getElem h,List.filter_append,List.map_append]
 simp[DT,hk]
theorem Mr (l:List R2)(k:Nat)(h:k<=l.length):(y5 (l.take k)).length<=k:=by
 unfold y5
 rw[List.length_map]
 have:=List.length_filter_le DT (l.take k)
 rw[List.length_take]at this
 omega
theorem DI (l:List R2):∀x ∈ y5 l,Ap x:=by
 intro x hx
 unfold y5 at hx
 simp only[List.mem_map,List.mem_filter,DT,decide_eq_true_eq]at hx
 obtain⟨y,⟨_,h⟩,rfl⟩:=hx
 unfold Dr at*
 unfold Ap
 dsimp only at*
 omega
theorem Vs (a:Option Addr)(cap:Nat)(l:List R2)(w:World)(hl:Rg w a l)(hb:l.length*16<=140737488351232):
 Calls Tryz.prog 22 #[.slice a l.length cap] w fun e w'=>∃v m,e=.returned v/\m.Perm (y5 l)/\m.Pairwise (fun a b=>a.1<=b.1)/\Ow w w' 25 v (y9 m):=by
 obtain⟨i0,hi33,hz0,hz1,hz2⟩:=info_parts AB
 have HL:=b6 hl
 clear hl
 go_enter Tryz.func22,Tryz.ntmps22
 go_wp2_with fail
 go_loopg [3,8] l.length (fun gk v i wr=>∃k:Nat,k+gk=l.length/\i=.int .i64 (k:Nat)/\Ow w wr 24 v (y5 (l.take k)))
 case atStart=>exact⟨0,by omega,rfl,⟨by simpa [y5,l4]using World.ownsRow_nil _ _ _ _,by intro g h;simp[Value.ownBlock]at h,b7.refl _ _⟩⟩
 case round=>
  obtain⟨k,hk,rfl,how⟩:=hrel
  have OW:=b6 how
  have HLR:=b6 (HL.out.new how.touch)
  have hlen:=Mr l k (by omega)
  obtain⟨av,cv,hav⟩:=e9 how.own
  subst hav
  clear how
  by_cases hlt:k<l.length
  ·obtain⟨b,o,ha,hbl,hcell⟩:∃b o,a=some ⟨b,o,none⟩/\b<wr.heap.size/\∀i (h:i<l.length),wr.cell? ⟨b,o+i*2,none⟩=some (.int .i64 (l[i]).1)/\wr.cell? ⟨b,o+i*2+1,none⟩=some (.int .i64 (l[i]).2):=by
    rcases HLR.out with h|h
    ·rw[h]at hlt;simp at hlt
    ·exact h
   subst ha
   obtain⟨d0,d1⟩:=hcell k hlt
   obtain⟨r,hr⟩:∃r,r=l[k]:=⟨_,rfl⟩
   rw[<-hr]at d0 d1
   have WY:=b6 (fun hk=>Ms l k hlt hk)
   have WN:=b6 (fun hk=>PD l k hlt hk)
   rw[<-hr]at WY WN
   obtain⟨x,y⟩:=r
   dsimp only at d0 d1
   clear hcell hr
   obtain⟨s,hs⟩:∃s,s=y5 (l.take k):=⟨_,rfl⟩
   rw[<-hs]at OW WY WN hlen⊢
   clear hs
   obtain⟨M,hM⟩:∃M,M=s.length:=⟨_,rfl⟩
   rw[<-hM]at OW⊢
   have HM:=b6 hM
   have hMk:M<=k:=by omega
   clear hM
   obtain⟨rb,hrb⟩:∃rb,rb=wr.heap.size:=⟨_,rfl⟩
   have OA:=b6 (OW.out.alloc (.cells #[.int .i64 x,.int .i64 y] 60))
   have RB:=b6 (show(wr.alloc (.cells #[.int .i64 x,.int .i64 y] 60)).heap[rb]? =some (.cells #[.int .i64 x,.int .i64 y] 60 (0,0))from by rw[hrb];exact Ae _ _ _)
   go_wp2_with fail
   rw[<-hrb]
   have hown:∀g,(Value.slice av M cv).ownBlock=some g->g≠rb:=fun g e=>by
    have:=(OW.out.own.lt g e).2
    omega
   have hwrb:w.heap.size<=rb:=by rw[hrb];exact OW.out.touch.size
   have HOWN:=b6 hown
   clear hrb hown OW
   generalize wr.alloc (.cells #[.int .i64 x,.int .i64 y] 60)=wA at*
   refine(EJ x y 0 1114111 wA).mono ?_
   rintro e w1 ⟨rfl,tc⟩
   have OB:=b6 (OA.out.still tc)
   have RC:=b6 (show w1.heap[rb]? =some (.cells #[.int .i64 x,.int .i64 y] 60 (0,0))from(tc.block rb (lt_of_block RB.out) id).trans RB.out)
   have q0:=F7 RC.out
   have q1:=E2 RC.out
   have qf0:=AL (i:=0) RC.out
   have qf1:=AL (i:=1) RC.out
   clear tc d0 d1
   obtain⟨cx,hcx⟩:∃cx,cx=max x 0:=⟨_,rfl⟩
   obtain⟨cy,hcy⟩:∃cy,cy=min y 1114111:=⟨_,rfl⟩
   rw[<-hcx,<-hcy]
   have HCX:=b6 hcx
   have HCY:=b6 hcy
   clear hcx hcy
   have RD:=b6 (Kl (x:=.int .i64 cy) (Kk (x:=.int .i64 cx) RC.out))
   have OC:=b6 (show Ow w ((w1.setCell ⟨rb,0,none⟩ (.int .i64 cx)).setCell ⟨rb,1,none⟩ (.int .i64 cy)) 24 (.slice av M cv) s from⟨ownsRow_setCell_other (ownsRow_setCell_other OB.out.own (fun e=>HOWN.out _ e rfl) _) (fun e=>HOWN.out _ e rfl) _,OB.out.new,(OB.out.touch.setCell (p:=⟨rb,0,none⟩) (fun h=>by simp at h;omega) _).setCell (p:=⟨rb,1,none⟩) (fun h=>by simp at h;omega) _⟩)
   by_cases hcc:cx<=cy
   ·go_upto_region 7 with fail
    generalize ((w1.setCell ⟨rb,0,none⟩ (.int .i64 cx)).setCell ⟨rb,1,none⟩ (.int .i64 cy))=wD at*
    have z0:=F7 RD.out
    have z1:=E2 RD.out
    clear q0 q1 qf0 qf1
    go_wp2_with (at_builtin;refine wpList_append_own_at _ rfl _ _ 24 rfl 0 60 i0 (.agg #[.int .i64 0,.int .i64 0]) 2 16 Tryz.underlying24 hi33 hz0 hz1 hz2 rfl (by decide) _ _ _ rfl (OC.out.own.alloc _) ⟨wD.heap.size,0,none⟩ 1 1 [.int .i64 cx,.int .i64 cy] rfl rfl (z7 wD [.int .i64 cx,.int .i64 cy] 60) (by intro u hu;simp at hu;rcases hu with rfl|rfl<;>rfl) (by unfold maxLen;omega) (by omega) (Nat.zero_le _) ?_)
    intro v' w4 hown hgrow _ hat
    have OE:=b6 (OC.out.more (x:=(cx,cy)) hown hgrow hat)
    have HCC:=b6 hcc
    clear hown hgrow hat
    go_wp2
    go_roundg (gk-1)
    case measure=>omega
    case rel=>
     refine⟨k+1,by omega,by go_num,?_⟩
     have:=WY.out (by unfold Dr;dsimp only;rw[<-HCX.out,<-HCY.out];exact HCC.out)
     rw[this]
     unfold Dr
     dsimp only
     rw[<-HCX.out,<-HCY.out]
     exact OE.out
   ·go_wp2
    go_roundg (gk-1)
    case measure=>omega
    case rel=>
     refine⟨k+1,by omega,by go_num,?_⟩
     have:=WN.out (by unfold Dr;dsimp only;rw[<-HCX.out,<-HCY.out];exact hcc)
     rw[this]
     exact OC.out
  ·obtain rfl:k=l.length:=by omega
   rw[List.take_length]at OW hlen⊢
   obtain⟨s,hs⟩:∃s,s=y5 l:=⟨_,rfl⟩
   have HWI:=b6 (DI l)
   rw[<-hs]at OW hlen HWI⊢
   have HSS:=b6 hs
   clear hs
   have K:=b6 (RU OW.out (by omega))
   go_wp2_with fail
   refine K.out.mono ?_
   rintro e w1 ⟨rfl,s',hp,hsd,⟨a1,c1,hv,hrg⟩,tc⟩
   have hl1:=hp.length_eq
   have KJ:=b6 (LL a1 c1 s' w1 hrg (fun x hx=>HWI.out x (hp.mem_iff.1 hx)) (by omega))
   have HP:=b6 hp
   have HSD:=b6 hsd
   have TC:=b6 tc
   simp only[Value.slice.injEq]at hv
   obtain⟨rfl,h2,rfl⟩:=hv
   rw[<-h2]at KJ
   clear hp hsd hrg tc K hl1 h2
   go_wp2_with fail
   refine KJ.out.mono ?_
   rintro e w2 ⟨v2,rfl,ow⟩
   have OW2:=b6 ow
   obtain⟨a2,c2,hav⟩:=e9 ow.own
   subst hav
   clear ow KJ
   go_wp2
   go_ret
   exact⟨_,s',rfl,HSS.out▸ HP.out,HSD.out,⟨OW2.out.own,fun g e=>Nat.le_trans TC.out.size (OW2.out.new g e),TC.out.trans OW2.out.touch iE⟩⟩
def In (x:Int)(l:List R2):Prop:=∃r ∈ l,r.1<=x/\x<=r.2
structure l9 (s:List R2):Prop where
 in_:∀r ∈ s,Ap r
 up:s.Pairwise (fun a b=>a.2+1<b.1)
theorem W9 (x:Int):¬In x []:=fun⟨_,h,_⟩=>by simp at h
theorem E3 {x:Int}{l m:List R2}:In x (l++m)↔In x l∨In x m:=by
 unfold In
 constructor
 ·rintro⟨r,hr,h⟩
  rcases List.mem_append.1 hr with k|k
  ·exact .inl ⟨r,k,h⟩
  ·exact .inr ⟨r,k,h⟩
 ·rintro(⟨r,hr,h⟩|⟨r,hr,h⟩)
  ·exact⟨r,List.mem_append.2 (.inl hr),h⟩
  ·exact⟨r,List.mem_append.2 (.inr hr),h⟩
theorem Z6 {x:Int}{r:R2}:In x [r]↔r.1<=x/\x<=r.2:=by
 unfold In
 simp
theorem u0 {x:Int}{r:R2}{l:List R2}:In x (r::l)↔(r.1<=x/\x<=r.2)∨In x l:=by
 have:= @E3 x [r] l
 rw[Z6]at this
 simpa using this
theorem MM {x:Int}{l m:List R2}(h:l.Perm m):In x l↔In x m:=by
 unfold In
 constructor
 ·rintro⟨r,hr,k⟩;exact⟨r,h.mem_iff.1 hr,k⟩
 ·rintro⟨r,hr,k⟩;exact⟨r,h.mem_iff.2 hr,k⟩
theorem LM {s:List R2}{r:R2}(hs:l9 s)(hr:Ap r)(hle:∀a ∈ s,a.1<=r.1):l9 (V7 s r)/\(∀x,In x (V7 s r)↔In x s∨(r.1<=x/\x<=r.2))/\(∀q:Int,r.1<=q->∀a ∈ V7 s r,a.1<=q):=by
 rcases List.eq_nil_or_concat s with h|⟨s0,t,h⟩
 ·subst h
  have e:V7 [] r=[r]:=rfl
  rw[e]
  refine⟨⟨by simpa using hr,List.pairwise_singleton _ _⟩,fun x=>?_,fun q hq a ha=>?_⟩
  ·rw[Z6]
   constructor
   ·exact .inr
   ·rintro(h|h)
    ·exact absurd h (W9 x)
    ·exact h
  ·simp only[List.mem_singleton]at ha
   rw[ha]
   exact hq
 ·rw[List.concat_eq_append]at h
  subst h
  obtain⟨t1,t2⟩:=t
  obtain⟨x1,x2⟩:=r
  have ht:=hs.in_ (t1,t2) (by simp)
  have hl:=hle (t1,t2) (by simp)
  have hup:=List.pairwise_append.1 hs.up
  unfold Ap at ht hr
  dsimp only at ht hr hl
  by_cases c:x1<=t2+1
  ·have e:=Co s0 t1 t2 x1 x2 c
   refine⟨⟨EU hs.in_ hr,?_⟩,fun x=>?_,fun q hq a ha=>?_⟩
   ·rw[e,List.pairwise_append]
    refine⟨hup.1,List.pairwise_singleton _ _,fun a ha b hb=>?_⟩
    simp only[List.mem_singleton]at hb
    have:=hup.2.2 a ha (t1,t2) (by simp)
    rw[hb]
    exact this
   ·rw[e,E3,E3,Z6,Z6]
    dsimp only
    constructor
    ·rintro(h|h)
     ·exact .inl (.inl h)
     ·rcases Int.lt_or_le t2 x with k|k
      ·exact .inr ⟨by omega,by omega⟩
      ·exact .inl (.inr ⟨h.1,k⟩)
    ·rintro((h|h)|h)
     ·exact .inl h
     ·exact .inr ⟨h.1,by omega⟩
     ·exact .inr ⟨by omega,by omega⟩
   ·rw[e]at ha
    dsimp only at hq
    rcases List.mem_append.1 ha with h|h
    ·have:=hle a (List.mem_append.2 (.inl h))
     dsimp only at this
     omega
    ·simp only[List.mem_singleton]at h
     rw[h]
     dsimp only
     omega
  ·have e:=EV s0 t1 t2 x1 x2 c
   refine⟨⟨EU hs.in_ hr,?_⟩,fun x=>?_,fun q hq a ha=>?_⟩
   ·rw[e,List.pairwise_append]
    refine⟨hs.up,List.pairwise_singleton _ _,fun a ha b hb=>?_⟩
    simp only[List.mem_singleton]at hb
    rw[hb]
    dsimp only
    rcases List.mem_append.1 ha with h|h
    ·have:=hup.2.2 a h (t1,t2) (by simp)
     dsimp only at this
     omega
    ·simp only[List.mem_singleton]at h
     rw[h]
     dsimp only
     omega
   ·rw[e,E3,Z6]
   ·rw[e]at ha
    dsimp only at hq
    rcases List.mem_append.1 ha with h|h
    ·have:=hle a h
     dsimp only at this
     omega
    ·simp only[List.mem_singleton]at h
     rw[h]
     exact hq
theorem Gq:∀(m s:List R2),l9 s->(∀r ∈ m,Ap r)->m.Pairwise (fun a b=>a.1<=b.1)->(∀a ∈ s,∀r ∈ m,a.1<=r.1)->l9 (m.foldl V7 s)/\∀x,In x (m.foldl V7 s)↔In x s∨In x m
 | [],s,h,_,_,_=>⟨h,fun x=>by simp[W9]⟩
 |r::m,s,h,hin,hup,hle=>by
  have hp:=List.pairwise_cons.1 hup
  obtain⟨g1,g2,g3⟩:=LM h (hin r (by simp)) (fun a ha=>hle a ha r (by simp))
  have ih:=Gq m (V7 s r) g1 (fun q hq=>hin q (by simp[hq])) hp.2 (fun a ha q hq=>g3 q.1 (hp.1 q hq) a ha)
  refine⟨ih.1,fun x=>?_⟩
  rw[List.foldl_cons,ih.2 x,g2 x,u0,or_assoc]
theorem DR {m:List R2}(hin:∀r ∈ m,Ap r)(hup:m.Pairwise (fun a b=>a.1<=b.1)):l9 (y9 m)/\∀x,In x (y9 m)↔In x m:=by
 have:=Gq m [] ⟨by simp,.nil⟩ hin hup (by simp)
 refine⟨this.1,fun x=>?_⟩
 rw[show y9 m=m.foldl V7 []from rfl,this.2 x]
 simp[W9]
theorem Gv (l:List R2)(x:Int):In x (y5 l)↔(0<=x/\x<=1114111)/\In x l:=by
 unfold In y5
 simp only[List.mem_map,List.mem_filter,DT,Dr]
 constructor
 ·rintro⟨r,⟨y,⟨hy,_⟩,rfl⟩,h1,h2⟩
  dsimp only at h1 h2
  exact⟨by omega,y,hy,by omega,by omega⟩
 ·rintro⟨h,y,hy,h1,h2⟩
  exact⟨_,⟨y,⟨hy,decide_eq_true (by omega)⟩,rfl⟩,by dsimp only;omega,by dsimp only;omega⟩
theorem BS:∀{s t:List R2},l9 s->l9 t->(∀x,In x s↔In x t)->s=t
 | [],[],_,_,_=>rfl
 | [],(c,d)::t,_,ht,h=>by
   have:=ht.in_ (c,d) (by simp)
   unfold Ap at this
   dsimp only at this
   exact absurd ((h c).2 (u0.2 (.inl ⟨Int.le_refl _,by dsimp only;omega⟩))) (W9 c)
 |(a,b)::s,[],hs,_,h=>by
  have:=hs.in_ (a,b) (by simp)
  unfold Ap at this
  dsimp only at this
  exact absurd ((h a).1 (u0.2 (.inl ⟨Int.le_refl _,by dsimp only;omega⟩))) (W9 a)
 |(a,b)::s,(c,d)::t,hs,ht,h=>by
  have ha:=hs.in_ (a,b) (by simp)
  have hc:=ht.in_ (c,d) (by simp)
  have ps:=List.pairwise_cons.1 hs.up
  have pt:=List.pairwise_cons.1 ht.up
  unfold Ap at ha hc
  dsimp only at ha hc ps pt
  have above_s:∀x,In x s->b+1<x:=fun x ⟨r,hr,h1,_⟩=>by have:=ps.1 r hr;omega
  have above_t:∀x,In x t->d+1<x:=fun x ⟨r,hr,h1,_⟩=>by have:=pt.1 r hr;omega
  have low_s:∀x,In x ((a,b)::s)->a<=x:=fun x hx=>by
   rcases u0.1 hx with h|h
   ·exact h.1
   ·have:=above_s x h;omega
  have low_t:∀x,In x ((c,d)::t)->c<=x:=fun x hx=>by
   rcases u0.1 hx with h|h
   ·exact h.1
   ·have:=above_t x h;omega
  have e1:a=c:=by
   have h1:=low_t a ((h a).1 (u0.2 (.inl ⟨Int.le_refl _,by dsimp only;omega⟩)))
   have h2:=low_s c ((h c).2 (u0.2 (.inl ⟨Int.le_refl _,by dsimp only;omega⟩)))
   omega
  subst e1
  have e2:b=d:=by
   rcases Int.lt_trichotomy b d with k|k|k
   ·have:=(h (b+1)).2 (u0.2 (.inl ⟨by dsimp only;omega,by dsimp only;omega⟩))
    rcases u0.1 this with q|q
    ·dsimp only at q;omega
    ·have:=above_s _ q;omega
   ·exact k
   ·have:=(h (d+1)).1 (u0.2 (.inl ⟨by dsimp only;omega,by dsimp only;omega⟩))
    rcases u0.1 this with q|q
    ·dsimp only at q;omega
    ·have:=above_t _ q;omega
  subst e2
  have:=BS (s:=s) (t:=t) ⟨fun r hr=>hs.in_ r (by simp[hr]),ps.2⟩ ⟨fun r hr=>ht.in_ r (by simp[hr]),pt.2⟩ (fun x=>by
   constructor
   ·intro hx
    have h1:=above_s x hx
    rcases u0.1 ((h x).1 (u0.2 (.inr hx)))with q|q
    ·dsimp only at q;omega
    ·exact q
   ·intro hx
    have h1:=above_t x hx
    rcases u0.1 ((h x).2 (u0.2 (.inr hx)))with q|q
    ·dsimp only at q;omega
    ·exact q)
  rw[this]
theorem Hv (a:Option Addr)(cap:Nat)(l:List R2)(w:World)(hl:Rg w a l)(hb:l.length*16<=140737488351232):
 Calls Tryz.prog 22 #[.slice a l.length cap] w fun e w'=>∃v s,e=.returned v/\l9 s/\(∀x,In x s↔(0<=x/\x<=1114111)/\In x l)/\Ow w w' 25 v s:=by
 refine(Vs a cap l w hl hb).mono ?_
 rintro e w' ⟨v,m,rfl,hp,hsd,ow⟩
 have hg:=DR (m:=m) (fun r hr=>DI l r (hp.mem_iff.1 hr)) hsd
 exact⟨v,y9 m,rfl,hg.1,fun x=>by rw[hg.2 x,MM hp,Gv],ow⟩
theorem CF:∀(s:List R2) (q:Int),(∀r ∈ s,Ap r)->s.Pairwise (fun a b=>a.2+1<b.1)->(∀r ∈ s,q<=r.1)->2*(s.length:Int)<=1114113-q∨s=[]
 | [],_,_,_,_=>.inr rfl
 |r::s,q,hin,hup,hq=>by
  have hp:=List.pairwise_cons.1 hup
  have hr:=hin r (by simp)
  have h1:=hq r (by simp)
  unfold Ap at hr
  rcases CF s (r.2+2) (fun a ha=>hin a (by simp[ha])) hp.2 (fun a ha=>by have:=hp.1 a ha;omega)with h|h
  ·left
   simp only[List.length_cons]
   omega
  ·left
   subst h
   simp
   omega
theorem W7 {s:List R2}(h:l9 s):s.length<=557057:=by
 rcases CF s 0 h.in_ h.up (fun r hr=>(h.in_ r hr).1)with k|k
 ·omega
 ·subst k
  simp
def R0 (p:List R2×Int)(r:R2):List R2×Int:=(if p.2<r.1 then p.1++ [(p.2,r.1-1)]else p.1,r.2+1)
def A2 (s:List R2):List R2×Int:=s.foldl R0 ([],0)
def Ht (s:List R2):List R2:=if(A2 s).2<=1114111 then(A2 s).1++ [((A2 s).2,1114111)]else(A2 s).1
theorem EH {o:List R2}{r:R2}(h:l9 o)(hr:Ap r)(hq:∀q ∈ o,q.2+1<r.1):l9 (o++ [r]):=by
 refine⟨fun q hq'=>?_,?_⟩
 ·rcases List.mem_append.1 hq' with k|k
  ·exact h.in_ q k
  ·simp only[List.mem_singleton]at k
   rw[k]
   exact hr
 ·rw[List.pairwise_append]
  refine⟨h.up,List.pairwise_singleton _ _,fun a ha b hb=>?_⟩
  simp only[List.mem_singleton]at hb
  rw[hb]
  exact hq a ha
theorem JF:∀(m o:List R2) (n:Int),l9 o->(∀q ∈ o,q.2+1<n)->0<=n->n<=1114112->(∀r ∈ m,Ap r)->m.Pairwise (fun a b=>a.2+1<b.1)->(∀r ∈ m,n<=r.1)->
 l9 (m.foldl R0 (o,n)).1/\(∀q ∈ (m.foldl R0 (o,n)).1,q.2+1<(m.foldl R0 (o,n)).2)/\n<=(m.foldl R0 (o,n)).2/\(m.foldl R0 (o,n)).2<=1114112/\(∀r ∈ m,r.2<(m.foldl R0 (o,n)).2)/\
  ∀x,In x (m.foldl R0 (o,n)).1↔In x o∨(n<=x/\x<(m.foldl R0 (o,n)).2/\¬In x m)
 | [],o,n,hc,hq,h0,h1,_,_,_=>⟨hc,hq,Int.le_refl _,h1,by simp,fun x=>by
    simp only[List.foldl_nil]
    constructor
    ·exact .inl
    ·rintro(h|h)
     ·exact h
     ·omega⟩
 |(a,b)::m,o,n,hc,hq,h0,h1,hin,hup,hle=>by
  have hp:=List.pairwise_cons.1 hup
  have hr:=hin (a,b) (by simp)
  have hn:=hle (a,b) (by simp)
  unfold Ap at hr
  dsimp only at hr hn hp
  have key:l9 (R0 (o,n) (a,b)).1/\(∀q ∈ (R0 (o,n) (a,b)).1,q.2+1<b+1)/\∀x,In x (R0 (o,n) (a,b)).1↔In x o∨(n<=x/\x<a):=by
   unfold R0
   dsimp only
   by_cases c:n<a
   ·rw[if_pos c]
    refine⟨EH hc (by unfold Ap;dsimp only;omega) hq,fun q hq'=>?_,fun x=>?_⟩
    ·rcases List.mem_append.1 hq' with k|k
     ·have:=hq q k
      omega
     ·simp only[List.mem_singleton]at k
      rw[k]
      dsimp only
      omega
    ·rw[E3,Z6]
     dsimp only
     constructor
     ·rintro(h|h)
      ·exact .inl h
      ·exact .inr (by omega)
     ·rintro(h|h)
      ·exact .inl h
      ·exact .inr (by omega)
   ·rw[if_neg c]
    refine⟨hc,fun q hq'=>by have:=hq q hq';omega,fun x=>?_⟩
    constructor
    ·exact .inl
    ·rintro(h|h)
     ·exact h
     ·omega
  obtain⟨k1,k2,k3⟩:=key
  have ih:=JF m (R0 (o,n) (a,b)).1 (b+1) k1 k2 (by omega) (by omega) (fun r hr'=>hin r (by simp[hr'])) hp.2 (fun r hr'=>by have:=hp.1 r hr';omega)
  have e:((a,b)::m).foldl R0 (o,n)=m.foldl R0 ((R0 (o,n) (a,b)).1,b+1):=rfl
  rw[e]
  obtain⟨i1,i2,i3,i4,i5,i6⟩:=ih
  refine⟨i1,i2,by omega,i4,fun r hr'=>?_,fun x=>?_⟩
  ·rcases List.mem_cons.1 hr' with k|k
   ·rw[k]
    dsimp only
    omega
   ·exact i5 r k
  ·rw[i6 x,k3 x,u0]
   dsimp only
   have above:In x m->b+1<x:=fun⟨r,hr',h1',_⟩=>by have:=hp.1 r hr';omega
   constructor
   ·rintro((h|h)|h)
    ·exact .inl h
    ·refine .inr ⟨h.1,by omega,?_⟩
     rintro(k|k)
     ·omega
     ·have:=above k;omega
    ·refine .inr ⟨by omega,h.2.1,?_⟩
     rintro(k|k)
     ·omega
     ·exact h.2.2 k
   ·rintro(h|h)
    ·exact .inl (.inl h)
    ·rcases Int.lt_or_le x a with k|k
     ·exact .inl (.inr ⟨h.1,k⟩)
     ·rcases Int.lt_or_le b x with q|q
      ·exact .inr ⟨by omega,h.2.1,fun hm=>h.2.2 (.inr hm)⟩
      ·exact absurd (.inl ⟨k,q⟩) h.2.2
theorem GD {s:List R2}(hs:l9 s):l9 (Ht s)/\∀x,In x (Ht s)↔(0<=x/\x<=1114111)/\¬In x s:=by
 obtain⟨h1,h2,h3,h4,h5,h6⟩:=JF s [] 0 ⟨by simp,.nil⟩ (by simp) (by omega) (by omega) hs.in_ hs.up (fun r hr=>(hs.in_ r hr).1)
 have up:∀x,In x s->x<(A2 s).2/\0<=x:=fun x ⟨r,hr,k1,k2⟩=>by
  have:=h5 r hr
  have:=(hs.in_ r hr).1
  unfold A2
  omega
 have h6':∀x,In x (A2 s).1↔(0<=x/\x<(A2 s).2/\¬In x s):=fun x=>by
  have:=h6 x
  simp only[W9,false_or]at this
  exact this
 have h4':(A2 s).2<=1114112:=h4
 have h3':0<=(A2 s).2:=h3
 unfold Ht
 by_cases c:(A2 s).2<=1114111
 ·rw[if_pos c]
  refine⟨EH h1 (by unfold Ap;dsimp only;omega) h2,fun x=>?_⟩
  rw[E3,Z6,h6' x]
  dsimp only
  constructor
  ·rintro(h|h)
   ·exact⟨by omega,h.2.2⟩
   ·exact⟨by omega,fun k=>by have:=up x k;omega⟩
  ·rintro⟨h,k⟩
   rcases Int.lt_or_le x (A2 s).2 with q|q
   ·exact .inl ⟨h.1,q,k⟩
   ·exact .inr (by omega)
 ·rw[if_neg c]
  refine⟨h1,fun x=>?_⟩
  rw[h6' x]
  constructor
  ·intro h
   exact⟨by omega,h.2.2⟩
  ·intro h
   exact⟨by omega,by omega,h.2⟩
def Z4:List R2->List R2->List R2
 | [],_=> []
 |_::_,[]=> []
 |a::s,b::t=>(if max a.1 b.1<=min a.2 b.2 then[(max a.1 b.1,min a.2 b.2)]else[])++(if a.2<b.2 then Z4 s (b::t)else Z4 (a::s) t)
termination_by s t => s.length + t.length
theorem l9.tail {a:R2}{s:List R2}(h:l9 (a::s)):l9 s:=⟨fun r hr=>h.in_ r (by simp[hr]),(List.pairwise_cons.1 h.up).2⟩
theorem l9.above {a:R2}{s:List R2}(h:l9 (a::s)){x:Int}(hx:In x s):a.2+1<x:=by
 obtain⟨r,hr,h1,_⟩:=hx
 have:=(List.pairwise_cons.1 h.up).1 r hr
 omega
theorem Dp:∀(s t:List R2),l9 s->l9 t->l9 (Z4 s t)/\∀x,In x (Z4 s t)↔In x s/\In x t
 | [],t,_,_=>by
   rw[Z4]
   exact⟨⟨by simp,.nil⟩,fun x=>⟨fun h=>absurd h (W9 x),fun h=>absurd h.1 (W9 x)⟩⟩
 |_::_,[],_,_=>by
  rw[Z4]
  exact⟨⟨by simp,.nil⟩,fun x=>⟨fun h=>absurd h (W9 x),fun h=>absurd h.2 (W9 x)⟩⟩
 |(a,b)::s,(c,d)::t,hs,ht=>by
  have hi:=hs.in_ (a,b) (by simp)
  have hj:=ht.in_ (c,d) (by simp)
  unfold Ap at hi hj
  dsimp only at hi hj
  have aS:∀x,In x s->b+1<x:=fun x h=>hs.above h
  have aT:∀x,In x t->d+1<x:=fun x h=>ht.above h
  rw[Z4]
  dsimp only
  obtain⟨R,hR,g1,g2⟩:∃R,R=(if b<d then Z4 s ((c,d)::t)else Z4 ((a,b)::s) t)/\l9 R/\∀x,In x R↔(In x ((a,b)::s)/\In x ((c,d)::t))/\min b d<x:=by
   by_cases k:b<d
   ·obtain⟨h1,h2⟩:=Dp s ((c,d)::t) hs.tail ht
    refine⟨_,rfl,by rw[if_pos k];exact h1,fun x=>?_⟩
    rw[if_pos k,h2 x,u0,u0]
    dsimp only
    constructor
    ·rintro⟨p,q⟩
     have:=aS x p
     exact⟨⟨.inr p,q⟩,by omega⟩
    ·rintro⟨⟨p,q⟩,r⟩
     rcases p with p|p
     ·omega
     ·exact⟨p,q⟩
   ·obtain⟨h1,h2⟩:=Dp ((a,b)::s) t hs ht.tail
    refine⟨_,rfl,by rw[if_neg k];exact h1,fun x=>?_⟩
    rw[if_neg k,h2 x,u0,u0]
    dsimp only
    constructor
    ·rintro⟨p,q⟩
     have:=aT x q
     exact⟨⟨p,.inr q⟩,by omega⟩
    ·rintro⟨⟨p,q⟩,r⟩
     rcases q with q|q
     ·omega
     ·exact⟨p,q⟩
  rw[<-hR]
  have low:∀x,In x R->min b d+1<x:=fun x h=>by
   obtain⟨⟨p,q⟩,r⟩:=(g2 x).1 h
   rcases u0.1 p with p|p<;>rcases u0.1 q with q|q
   ·dsimp only at p q;omega
   ·have:=aT x q;dsimp only at p;omega
   ·have:=aS x p;dsimp only at q;omega
   ·have:=aS x p;have:=aT x q;omega
  have iff:∀x,(In x ((a,b)::s)/\In x ((c,d)::t))↔(max a c<=x/\x<=min b d)∨In x R:=fun x=>by
   rw[g2 x]
   constructor
   ·rintro⟨p,q⟩
    rcases Int.lt_or_le (min b d) x with k|k
    ·exact .inr ⟨⟨p,q⟩,k⟩
    ·left
     rcases u0.1 p with p'|p'
     ·rcases u0.1 q with q'|q'
      ·dsimp only at p' q';omega
      ·have:=aT x q';dsimp only at p';omega
     ·have:=aS x p'
      rcases u0.1 q with q'|q'
      ·dsimp only at q';omega
      ·have:=aT x q';omega
   ·rintro(h|h)
    ·exact⟨u0.2 (.inl (by dsimp only;omega)),u0.2 (.inl (by dsimp only;omega))⟩
    ·exact h.1
  by_cases e:max a c<=min b d
  ·rw[if_pos e]
   refine⟨⟨fun r hr=>?_,?_⟩,fun x=>?_⟩
   ·rcases List.mem_append.1 hr with k|k
    ·simp only[List.mem_singleton]at k
     rw[k]
     unfold Ap
     dsimp only
     omega
    ·exact g1.in_ r k
   ·rw[List.singleton_append,List.pairwise_cons]
    refine⟨fun r hr=>?_,g1.up⟩
    have hri:=g1.in_ r hr
    unfold Ap at hri
    exact low r.1 ⟨r,hr,Int.le_refl _,hri.2.1⟩
   ·rw[E3,Z6,iff x]
  ·rw[if_neg e,List.nil_append]
   refine⟨g1,fun x=>?_⟩
   rw[iff x]
   constructor
   ·exact .inr
   ·rintro(h|h)
    ·omega
    ·exact h
termination_by s t => s.length + t.length
theorem We (b o j:Nat):(⟨b,o,none⟩:Addr).add j=⟨b,o+j,none⟩:=by
 unfold Addr.add
 split
 ·rename_i h;rw[h,Nat.add_zero]
 ·rfl
theorem BG {w:World}{b o:Nat}{l:List R2}(h:∀i (h:i<l.length),w.cell? ⟨b,o+i*2,none⟩=some (.int .i64 (l[i]).1)/\w.cell? ⟨b,o+i*2+1,none⟩=some (.int .i64 (l[i]).2)):
 ∀j u,(l4 l)[j]? =some u->w.cell? ((⟨b,o,none⟩:Addr).add j)=some u:=by
 intro j u hj
 have hlt:j<(l4 l).length:=by
  rcases Nat.lt_or_ge j (l4 l).length with k|k
  ·exact k
  ·rw[List.getElem?_eq_none k]at hj;cases hj
 rw[D9]at hlt
 rw[We]
 have hi:j / 2<l.length:=by omega
 rcases(show j%2=0∨j%2=1 by omega)with h0|h0
 ·have:=M5 l (j / 2) hi
  rw[show 2*(j / 2)=j by omega,hj]at this
  rw[this,show o+j=o+j / 2*2 by omega]
  exact(h _ hi).1
 ·have:=I3 l (j / 2) hi
  rw[show 2*(j / 2)+1=j by omega,hj]at this
  rw[this,show o+j=o+j / 2*2+1 by omega]
  exact(h _ hi).2
theorem Ej (w:World)(ty:TypeId)(v:Value)(n:Nat)(xs:List Value)(hown:w.ownsRow 0 60 2 v n xs)(a:Option Addr)(c:Nat):
 (Builtin.append_ #[25,25] ty #[v,.slice a 0 c]).run Tryz.prog w=.ok v w:=by
 obtain⟨i0,hin,hz0,hz1,hz2⟩:=info_parts AB
 have hld:∀ad,(loadCells ad 0).run Tryz.prog w=.ok #[] w:=fun ad=>rfl
 rcases hown.2 with⟨rfl,rfl⟩|⟨g,cap,cur,rfl,hbg,hg,hnc,hcm,hcs,htake⟩<;>cases a<;>
  simp[Builtin.append_,run_underlying Tryz.underlying25,sizeOf,typeInfo,Builtin.lenOf,Builtin.firstCells,storeCells, *]
theorem Ga (w:World)(ty:TypeId)(v:Value)(n:Nat)(xs:List Value)(hown:w.ownsRow 0 60 2 v n xs)(a:Option Addr)(c:Nat)(l:List R2)(hl:Rg w a l)(hb:(n+l.length)*16<=140737488355328):
 ∃v' w',(Builtin.append_ #[25,25] ty #[v,.slice a l.length c]).run Tryz.prog w=.ok v' w'/\w'.ownsRow 0 60 2 v' (n+l.length) (xs++l4 l)/\w.grownBy w' v.ownBlock/\(v'.ownBlock=v.ownBlock∨v'.ownBlock=some w.heap.size):=by
 obtain⟨i0,hin,hz0,hz1,hz2⟩:=info_parts AB
 rcases hl with rfl|⟨b,o,rfl,_,hc⟩
 ·refine⟨v,w,Ej w ty v n xs hown a c,?_,⟨rfl,rfl,rfl,Nat.le_refl _,fun _ _ _=>rfl⟩,.inl rfl⟩
  rw[show l4 []=[]from rfl,List.append_nil]
  exact hown
 ·obtain⟨v',w',h1,h2,h3,_,h4⟩:=run_append_own_at (P:=Tryz.prog) w 0 25 ty 60 i0 (.agg #[.int .i64 0,.int .i64 0]) 2 16 Tryz.underlying25 hin hz0 hz1 hz2 rfl (by decide) v n xs hown ⟨b,o,none⟩ l.length c (l4 l) (D9 l) (BG hc) (AE l) (by unfold maxLen;omega) hb (Nat.zero_le _)
  exact⟨v',w',h1,h2,h3,h4⟩
theorem AW (w:World){ops:Array Oper}{rest:List Oper}{o:Oper}{a:Act}{Q:Exit->Act->World->Prop}(hgd:o.guard=none)(s x:Operand)
 (ho:o.op=.call {callee:=.builtin .append,args:=#[s,x],argTypes:=#[25,25]})
 (v:Value) (n:Nat) (xs:List Value) (hs:a.eval s=v) (hown:w.ownsRow 0 60 2 v n xs) (ad:Option Addr) (c:Nat) (l:List R2) (hx:a.eval x=.slice ad l.length c) (hl:Rg w ad l) (hb:(n+l.length)*16<=140737488355328)
 (h:∀v' w',w'.ownsRow 0 60 2 v' (n+l.length) (xs++l4 l)->w.grownBy w' v.ownBlock->(v'.ownBlock=v.ownBlock∨v'.ownBlock=some w.heap.size)->wpList Tryz.prog ops Q rest (a.put o.dst v') w'):wpList Tryz.prog ops Q (o::rest) a w:=by
 refine wpList_plain hgd fun K hK=>?_
 obtain⟨v',w',hr,h2,h3,h4⟩:=Ga w o.type v n xs hown ad c l hl hb
 unfold Oper.wp execOp
 simp only[ho,resolve,invoke,builtin,Sem.run_bind,Sem.run_pure,Result.andThen_ok,List.map_toArray,List.map_cons,List.map_nil,hs,hx,hr]
 exact hK _ _ (h v' w' h2 h3 h4)
theorem Ih (w:World)(ty:TypeId)(n:Nat)(h0:0<n)(hb:n*16<=140737488355328):
 (Builtin.append_ #[25,3] ty #[.slice none 0 0,.int .i64 n]).run Tryz.prog w=
   .ok (.slice (some ⟨w.heap.size,0,none⟩) n (grownCap w n 0 60))
     (w.drew.alloc (.cells (Builtin.zeroCells #[.int .i64 0,.int .i64 0] n++Builtin.zeroCells #[.int .i64 0,.int .i64 0] (grownCap w n 0 60-n)) 60)):=by
 obtain⟨i0,hin,hz0,hz1,hz2⟩:=info_parts AB
 have h48:Builtin.nextslicecap n 0*16<=281474976710656:=growslice_fits (by omega) (by omega)
 have h48':¬(281474976710656<Builtin.nextslicecap n 0*16):=by omega
 have hwr:IntKind.i64.wrap (n:Int)=n:=by rw[IntKind.wrap_i64];omega
 have hn0:¬n=0:=by omega
 have hn1:¬((n:Int)<0):=by omega
 have hn2:¬(281474976710656<(n:Int)*16):=by omega
 have hn3:¬(9223372036854775807<(n:Int)):=by omega
 have hn4:¬(n*2=0):=by omega
 have hfo:(Builtin.firstCells 2 0 (.slice none 0 0)).run Tryz.prog w.drew=.ok #[] w.drew:=by simp[Builtin.firstCells]
 simp[Builtin.append_,run_underlying Tryz.underlying25,run_underlying Tryz.underlying3,sizeOf,typeInfo,zeroValue,hin,hz0,hz1,hz2,h48',Question.forced,hfo,newRow,grownCap,asInt,asIntOf,hwr,Value.cells,hn0,hn1,hn2,hn3]
 intro h
 exact absurd h hn4
theorem En (w:World){ops:Array Oper}{rest:List Oper}{o:Oper}{a:Act}{Q:Exit->Act->World->Prop}(hgd:o.guard=none)(s x:Operand)
 (ho:o.op=.call {callee:=.builtin .append,args:=#[s,x],argTypes:=#[25,3]}) (n:Nat) (hs:a.eval s=.slice none 0 0) (hx:a.eval x=.int .i64 n) (h0:0<n) (hb:n*16<=140737488355328)
 (h:∀cap w',n<=cap->w'.ownsRow 0 60 2 (.slice (some ⟨w.heap.size,0,none⟩) 0 cap) 0 []->b7 (fun _=>False) w w'->wpList Tryz.prog ops Q rest (a.put o.dst (.slice (some ⟨w.heap.size,0,none⟩) n cap)) w'):wpList Tryz.prog ops Q (o::rest) a w:=by
 refine wpList_plain hgd fun K hK=>?_
 have hr:=Ih w o.type n h0 hb
 have hge:=grownCap_ge w n 0 60
 unfold Oper.wp execOp
 simp only[ho,resolve,invoke,builtin,Sem.run_bind,Sem.run_pure,Result.andThen_ok,List.map_toArray,List.map_cons,List.map_nil,hs,hx,hr]
 refine hK _ _ (h (grownCap w n 0 60) _ hge ⟨rfl,.inr ⟨w.heap.size,_,_,rfl,Nat.zero_le _,heap_alloc_new w.drew _,Nat.zero_le _,grownCap_le_maxLen w n 0 60 (by unfold maxLen;omega),?_,rfl⟩⟩ ((b7.refl _ w).drew.alloc _))
 simp only[Array.size_append,size_zeroCells]
 have:(#[Value.int IntKind.i64 0,.int .i64 0]:Array Value).size=2:=rfl
 rw[this]
 omega
theorem QJ (n:Nat)(w:World)(hb:n*16<=140737488355328):
 Calls Tryz.prog 54 #[.slice none 0 0,.int .i64 n] w fun e w'=>∃a cap,e=.returned (.slice a 0 cap)/\w'.ownsRow 0 60 2 (.slice a 0 cap) 0 []/\(∀g,(Value.slice a 0 cap).ownBlock=some g->w.heap.size<=g)/\b7 (fun _=>False) w w':=by
 go_enter Tryz.func54,Tryz.ntmps54
 by_cases h0:n=0
 ·subst h0
  go_wp2
  go_ret
  exact⟨none,0,rfl,World.ownsRow_nil _ _ _ _,by intro g h;simp[Value.ownBlock]at h,b7.refl _ _⟩
 ·have h1:(0:Int)<(n:Int):=by omega
  go_wp2_with (at_builtin;refine En _ rfl _ _ rfl n rfl rfl (by omega) hb ?_)
  intro cap w1 hc hown tc
  have OW:=b6 hown
  have TC:=b6 tc
  clear hown tc
  have h2:(0:Int)<(cap:Int):=by omega
  go_wp2
  go_ret
  exact⟨_,_,rfl,OW.out,by intro g h;simp[Value.ownBlock]at h;omega,TC.out⟩
def WO (k n m:Nat):Nat:=if k=0 then 0 else if k=1 then n else n+m
def OT (k:Nat)(s t:List R2):List R2:=if k=0 then[]else if k=1 then s else s++t
theorem Lj (bb:Nat)(a1 a2:Option Addr)(c1 c2:Nat)(s t:List R2)(w:World)(hb0:bb<w.heap.size)(g0:w.cell? ⟨bb,0,none⟩=some (.slice a1 s.length c1))(g1:w.cell? ⟨bb,1,none⟩=some (.slice a2 t.length c2))
 (h1:Rg w a1 s) (h2:Rg w a2 t) (hb:(s.length+t.length)*16<=140737488355328):
 Calls Tryz.prog 32 #[.slice (some ⟨bb,0,none⟩) 2 2] w fun e w'=>∃v,e=.returned v/\w'.ownsRow 0 60 2 v (s++t).length (l4 (s++t))/\(∀g,v.ownBlock=some g->w.heap.size<=g)/\b7 (fun _=>False) w w':=by
 have H1:=b6 h1
 have H2:=b6 h2
 have G0:=b6 g0
 have G1:=b6 g1
 clear h1 h2
 go_enter Tryz.func32,Tryz.ntmps32
 go_wp2_with fail
 go_loopg [3,11] 2 (fun gk sz i wr=>∃k:Nat,k+gk=2/\i=.int .i64 (k:Nat)/\sz=.int .i64 (WO k s.length t.length:Nat)/\w=wr)
 case atStart=>exact⟨0,rfl,rfl,rfl,rfl⟩
 case round=>
  obtain⟨k,hk,rfl,rfl,rfl⟩:=hrel
  rcases(show k=0∨k=1∨k=2 by omega)with rfl|rfl|rfl
  ·simp only[show WO 0 s.length t.length=0 from rfl]
   go_wp2_with fail
   go_roundg (gk-1)
   case measure=>omega
   case rel=>exact⟨1,by omega,by go_num,by go_num,rfl⟩
  ·simp only[show WO 1 s.length t.length=s.length from rfl]
   go_wp2_with fail
   go_roundg (gk-1)
   case measure=>omega
   case rel=>exact⟨2,by omega,by go_num,by go_num,rfl⟩
  ·simp only[show WO 2 s.length t.length=s.length+t.length from rfl]
   have K:=b6 (QJ (s.length+t.length) w hb)
   clear g0 g1
   go_wp2_with fail
   refine K.out.mono ?_
   rintro e w1 ⟨av,cv,rfl,hown,hnew,tc⟩
   have OW:=b6 hown
   have NW:=b6 hnew
   have TC:=b6 tc
   clear hown hnew tc K
   go_wp2_with fail
   go_loopg [6,27] 2 (fun gk v i wr=>∃k:Nat,k+gk=2/\i=.int .i64 (k:Nat)/\wr.ownsRow 0 60 2 v (OT k s t).length (l4 (OT k s t))/\(∀g,v.ownBlock=some g->w.heap.size<=g)/\b7 (fun _=>False) w wr)
   case atStart=>exact⟨0,rfl,rfl,OW.out,NW.out,TC.out⟩
   case round=>
    obtain⟨k,hk,rfl,how,hnw,htc⟩:=hrel
    have OW2:=b6 how
    have NW2:=b6 hnw
    have TC2:=b6 htc
    have R1:=b6 (H1.out.new htc)
    have R2:=b6 (H2.out.new htc)
    have g0:wr.cell? ⟨bb,0,none⟩=some (.slice a1 s.length c1):=(htc.cell (p:=⟨bb,0,none⟩) hb0 id).trans G0.out
    have g1:wr.cell? ⟨bb,1,none⟩=some (.slice a2 t.length c2):=(htc.cell (p:=⟨bb,1,none⟩) hb0 id).trans G1.out
    obtain⟨a3,c3,hv⟩:=e9 how
    subst hv
    clear how hnw htc
    rcases(show k=0∨k=1∨k=2 by omega)with rfl|rfl|rfl
    ·simp only[show OT 0 s t=[]from rfl]at OW2 NW2⊢
     go_wp2_with (at_builtin;refine AW _ rfl _ _ rfl _ 0 [] rfl OW2.out a1 c1 s rfl R1.out (by omega) ?_)
     intro v' w4 hown hgrow hat
     have OW3:=b6 hown
     have HG:=b6 hgrow
     have HA:=b6 hat
     clear hown hgrow hat
     go_wp2
     go_roundg (gk-1)
     case measure=>omega
     case rel=>
      refine⟨1,by omega,by go_num,?_,?_,?_⟩
      ·exact OW3.out
      ·intro g hg
       rcases HA.out with e|e
       ·rw[e]at hg
        exact NW2.out g hg
       ·rw[e]at hg
        simp at hg
        have:=TC2.out.size
        omega
      ·exact TC2.out.grown HG.out (fun k e hk=>by have:=NW2.out k e;omega)
    ·simp only[show OT 1 s t=s from rfl]at OW2 NW2⊢
     go_wp2_with (at_builtin;refine AW _ rfl _ _ rfl _ _ _ rfl OW2.out a2 c2 t rfl R2.out (by omega) ?_)
     intro v' w4 hown hgrow hat
     have OW3:=b6 hown
     have HG:=b6 hgrow
     have HA:=b6 hat
     clear hown hgrow hat
     go_wp2
     go_roundg (gk-1)
     case measure=>omega
     case rel=>
      refine⟨2,by omega,by go_num,?_,?_,?_⟩
      ·have:=OW3.out
       rw[show OT 2 s t=s++t from rfl,List.length_append,y8]
       exact this
      ·intro g hg
       rcases HA.out with e|e
       ·rw[e]at hg
        exact NW2.out g hg
       ·rw[e]at hg
        simp at hg
        have:=TC2.out.size
        omega
      ·exact TC2.out.grown HG.out (fun k e hk=>by have:=NW2.out k e;omega)
    ·simp only[show OT 2 s t=s++t from rfl]at OW2 NW2⊢
     go_wp2
     go_ret
     exact⟨_,rfl,OW2.out,NW2.out,TC2.out⟩
structure E9 (W0 wr:World)(e:TypeId)(v:Value)(s:List R2):Prop where
 own:wr.ownsRow 0 e 2 v s.length (l4 s)
 new:∀g,v.ownBlock=some g->W0.heap.size<=g
 touch:b7 (fun _=>False) W0 wr
theorem E9.nil (w:World)(e:TypeId):E9 w w e (.slice none 0 0) []:=⟨by simpa [l4]using World.ownsRow_nil _ _ _ _,by intro g h;simp[Value.ownBlock]at h,b7.refl _ _⟩
theorem E9.rg {W0 wr:World}{e:TypeId}{v:Value}{s:List R2}(h:E9 W0 wr e v s):∃a c,v=.slice a s.length c/\Rg wr a s:=F5 h.own
theorem E9.still {W0 wr w':World}{e:TypeId}{v:Value}{s:List R2}(h:E9 W0 wr e v s)(tc:b7 (fun _=>False) wr w'):E9 W0 w' e v s:=by
 refine⟨⟨h.own.1,?_⟩,h.new,h.touch.trans tc iE⟩
 rcases h.own.2 with h0|⟨g,cap,cur,hv,hg,hh,rest⟩
 ·exact .inl h0
 ·exact .inr ⟨g,cap,cur,hv,hg,(tc.block g (lt_of_block hh) id).trans hh,rest⟩
theorem E9.more {W0 wr w1:World}{e:TypeId}{v v':Value}{s:List R2}{xs:List R2}{o:Obj}(h:E9 W0 wr e v s)(hown:w1.ownsRow 0 e 2 v' (s.length+xs.length) (l4 s++l4 xs))(hg:(wr.alloc o).grownBy w1 v.ownBlock)(hat:v'.ownBlock=v.ownBlock∨v'.ownBlock=some (wr.heap.size+1)):E9 W0 w1 e v' (s++xs):=by
 refine⟨?_,fun g hg'=>?_,(h.touch.alloc o).grown hg (fun k e hk=>by have:=h.new k e;omega)⟩
 ·rw[List.length_append,y8]
  exact hown
 ·rcases hat with e|e
  ·exact h.new g (by rw[<-e];exact hg')
  ·rw[e]at hg'
   simp at hg'
   have:=h.touch.size
   omega
end Go.Proofs.YtdhhcefmmojcmaaGreatDoor
