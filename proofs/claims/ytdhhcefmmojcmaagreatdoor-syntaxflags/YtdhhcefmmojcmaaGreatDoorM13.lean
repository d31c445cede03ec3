/- Texts of this proof, one behind the other. -/
import Derived.Test.YtdhhcefmmojcmaaGreatDoorM9
import Derived.Test.YtdhhcefmmojcmaaGreatDoorM4
set_option maxRecDepth 100000
set_option maxHeartbeats 0
set_option linter.unusedVariables false
namespace Go.Proofs.YtdhhcefmmojcmaaGreatDoor
open Go.RowKit Go.Lib
def M4 (last next:Int)(r:R2):Int:=
 let n1:=if last<r.1/\r.1<next then r.1 else next
 if last<=r.2/\r.2<n1-1 then r.2+1 else n1
def JD (last:Int)(l:List R2):Int:=l.foldl (M4 last) 1114112
def Eb (l:List R2)(a b:Int):Prop:=∀r ∈ l,∀x,a<=x->x<b->((r.1<=x/\x<=r.2)↔(r.1<=a/\a<=r.2))
theorem QE (last next:Int)(r:R2):M4 last next r<=next:=by
 unfold M4
 dsimp only
 split<;>split<;>omega
theorem QD (last next:Int)(r:R2)(h:last<next):last<M4 last next r:=by
 unfold M4
 dsimp only
 split<;>split<;>omega
theorem Lz (last next:Int)(r:R2):∀x,last<=x->x<M4 last next r->((r.1<=x/\x<=r.2)↔(r.1<=last/\last<=r.2)):=by
 intro x h1 h2
 unfold M4 at h2
 dsimp only at h2
 split at h2<;>split at h2<;>omega
theorem Dt:∀(l:List R2) (last next:Int),last<next->l.foldl (M4 last) next<=next/\last<l.foldl (M4 last) next/\Eb l last (l.foldl (M4 last) next)
 | [],last,next,h=>⟨Int.le_refl _,h,fun r hr=>by simp at hr⟩
 |r::l,last,next,h=>by
  obtain⟨h1,h2,h3⟩:=Dt l last (M4 last next r) (QD last next r h)
  have h4:=QE last next r
  rw[List.foldl_cons]
  refine⟨by omega,h2,fun q hq x hx1 hx2=>?_⟩
  rcases List.mem_cons.1 hq with rfl|hq
  ·exact Lz last next q x hx1 (by omega)
  ·exact h3 q hq x hx1 hx2
theorem LP (last:Int)(l:List R2)(h:last<1114112):JD last l<=1114112/\last<JD last l/\Eb l last (JD last l):=Dt l last 1114112 h
structure Ea (l:List R2)(e:List Int):Prop where
 zero:e[0]? =some 0
 up:∀(i:Nat) (a b:Int),e[i]? =some a->e[i+1]? =some b->a<b/\Eb l a b
theorem Ea.low {l:List R2}{e:List Int}(h:Ea l e):∀(i:Nat) (a:Int),e[i]? =some a->(i:Int)<=a
 |0,a,ha=>by rw[h.zero]at ha;simp at ha;omega
 |i+1,a,ha=>by
  have hlt:i+1<e.length:=by
   rcases Nat.lt_or_ge (i+1) e.length with k|k
   ·exact k
   ·rw[List.getElem?_eq_none k]at ha;cases ha
  have hb:e[i]? =some e[i]:=List.getElem?_eq_getElem (by omega)
  have h1:=h.low i _ hb
  have h2:=(h.up i _ _ hb ha).1
  omega
theorem Ea.one (l:List R2):Ea l [0]:=⟨rfl,fun i a b _ hb=>by simp at hb⟩
theorem Ea.more {l:List R2}{e:List Int}{last n:Int}(h:Ea l (e++ [last]))(hn:last<n)(hf:Eb l last n):Ea l (e++ [last]++ [n]):=by
 refine⟨?_,fun i a b ha hb=>?_⟩
 ·have:=h.zero
  rw[List.getElem?_append_left (by simp)]
  exact this
 ·have hlt:i+1<(e++ [last]++ [n]).length:=by
   rcases Nat.lt_or_ge (i+1) (e++ [last]++ [n]).length with k|k
   ·exact k
   ·rw[List.getElem?_eq_none k]at hb;cases hb
  simp only[List.length_append,List.length_cons,List.length_nil]at hlt
  rcases Nat.lt_or_ge (i+1) (e.length+1)with k|k
  ·rw[List.getElem?_append_left (by simp;omega)]at ha hb
   exact h.up i a b ha hb
  ·obtain rfl:i=e.length:=by omega
   rw[List.getElem?_append_left (by simp),List.getElem?_append_right (Nat.le_refl _)]at ha
   rw[List.getElem?_append_right (by simp)]at hb
   simp at ha hb
   subst ha
   subst hb
   exact⟨hn,hf⟩
def Kx (o:List R2)(a b:Int):List R2:=
 match o.getLast? with
 |some t=>if t.2=a-1 then o.dropLast++ [(t.1,b-1)]else o++ [(a,b-1)]
 |none=> [(a,b-1)]
theorem Ix (a b:Int):Kx [] a b=[(a,b-1)]:=rfl
theorem Dn (o:List R2)(t:R2)(a b:Int)(h:t.2=a-1):Kx (o++ [t]) a b=o++ [(t.1,b-1)]:=by
 unfold Kx
 rw[List.getLast?_concat]
 simp[h]
theorem Do (o:List R2)(t:R2)(a b:Int)(h:¬t.2=a-1):Kx (o++ [t]) a b=o++ [t]++ [(a,b-1)]:=by
 unfold Kx
 rw[List.getLast?_concat]
 simp[h]
structure FS (o:List R2)(a:Int)(p:Int->Prop):Prop where
 canon:l9 o
 low:∀r ∈ o,r.2<a
 in_:∀x,In x o↔(0<=x/\x<a)/\p x
theorem FS.start (p:Int->Prop):FS [] 0 p:=⟨⟨by simp,.nil⟩,by simp,fun x=>by
 constructor
 ·exact fun h=>absurd h (W9 x)
 ·rintro⟨⟨h1,h2⟩,_⟩
  omega⟩
theorem FS.skip {o:List R2}{a b:Int}{p:Int->Prop}(h:FS o a p)(hab:a<b)(hp:∀x,a<=x->x<b->¬p x):FS o b p:=
 ⟨h.canon,fun r hr=>by have:=h.low r hr;omega,fun x=>by
   rw[h.in_ x]
   constructor
   ·exact fun k=>⟨⟨k.1.1,by omega⟩,k.2⟩
   ·refine fun k=>⟨⟨k.1.1,?_⟩,k.2⟩
    rcases Int.lt_or_le x a with q|q
    ·exact q
    ·exact absurd k.2 (hp x q k.1.2)⟩
theorem FS.take {o:List R2}{a b:Int}{p:Int->Prop}(h:FS o a p)(ha:0<=a)(hab:a<b)(hb:b<=1114112)(hp:∀x,a<=x->x<b->p x):FS (Kx o a b) b p:=by
 have key:∀x,((0<=x/\x<a)/\p x)∨(a<=x/\x<=b-1)↔(0<=x/\x<b)/\p x:=by
  intro x
  constructor
  ·rintro(k|k)
   ·exact⟨⟨k.1.1,by omega⟩,k.2⟩
   ·exact⟨⟨by omega,by omega⟩,hp x k.1 (by omega)⟩
  ·rintro⟨⟨k1,k2⟩,k3⟩
   rcases Int.lt_or_le x a with q|q
   ·exact .inl ⟨⟨k1,q⟩,k3⟩
   ·exact .inr ⟨q,by omega⟩
 rcases List.eq_nil_or_concat o with e|⟨o0,t,e⟩
 ·subst e
  rw[Ix]
  refine⟨⟨?_,List.pairwise_singleton _ _⟩,?_,fun x=>?_⟩
  ·intro r hr
   simp at hr
   subst hr
   unfold Ap
   dsimp only
   omega
  ·intro r hr
   simp at hr
   subst hr
   dsimp only
   omega
  ·rw[Z6,<-key x,<-h.in_ x]
   dsimp only
   constructor
   ·exact .inr
   ·rintro(k|k)
    ·exact absurd k (W9 x)
    ·exact k
 ·rw[List.concat_eq_append]at e
  subst e
  obtain⟨t1,t2⟩:=t
  have ht:=h.canon.in_ (t1,t2) (by simp)
  have hl:=h.low (t1,t2) (by simp)
  have hup:=List.pairwise_append.1 h.canon.up
  unfold Ap at ht
  dsimp only at ht hl
  by_cases c:t2=a-1
  ·rw[Dn o0 (t1,t2) a b c]
   refine⟨⟨?_,?_⟩,?_,fun x=>?_⟩
   ·intro r hr
    rcases List.mem_append.1 hr with k|k
    ·exact h.canon.in_ r (by simp[k])
    ·simp at k
     subst k
     unfold Ap
     dsimp only
     omega
   ·rw[List.pairwise_append]
    refine⟨hup.1,List.pairwise_singleton _ _,fun r hr q hq=>?_⟩
    simp at hq
    subst hq
    exact hup.2.2 r hr (t1,t2) (by simp)
   ·intro r hr
    rcases List.mem_append.1 hr with k|k
    ·have:=h.low r (by simp[k]);omega
    ·simp at k
     subst k
     dsimp only
     omega
   ·rw[<-key x,<-h.in_ x,E3,E3,Z6,Z6]
    dsimp only
    constructor
    ·rintro(k|k)
     ·exact .inl (.inl k)
     ·rcases Int.lt_or_le x a with q|q
      ·exact .inl (.inr ⟨k.1,by omega⟩)
      ·exact .inr ⟨q,k.2⟩
    ·rintro((k|k)|k)
     ·exact .inl k
     ·exact .inr ⟨k.1,by omega⟩
     ·exact .inr ⟨by omega,k.2⟩
  ·rw[Do o0 (t1,t2) a b c]
   refine⟨⟨?_,?_⟩,?_,fun x=>?_⟩
   ·intro r hr
    rcases List.mem_append.1 hr with k|k
    ·exact h.canon.in_ r k
    ·simp at k
     subst k
     unfold Ap
     dsimp only
     omega
   ·rw[List.pairwise_append]
    refine⟨h.canon.up,List.pairwise_singleton _ _,fun r hr q hq=>?_⟩
    simp at hq
    subst hq
    dsimp only
    rcases List.mem_append.1 hr with k|k
    ·have:=hup.2.2 r k (t1,t2) (by simp)
     dsimp only at this
     omega
    ·simp at k
     subst k
     dsimp only
     omega
   ·intro r hr
    rcases List.mem_append.1 hr with k|k
    ·have:=h.low r k;omega
    ·simp at k
     subst k
     dsimp only
     omega
   ·rw[<-key x,<-h.in_ x,E3,Z6]
theorem Eb.in_ {l:List R2}{a b:Int}(h:Eb l a b){x:Int}(h1:a<=x)(h2:x<b):In x l↔In a l:=by
 unfold In
 constructor
 ·rintro⟨r,hr,k⟩;exact⟨r,hr,(h r hr x h1 h2).1 k⟩
 ·rintro⟨r,hr,k⟩;exact⟨r,hr,(h r hr x h1 h2).2 k⟩
theorem Eb.left {l m:List R2}{a b:Int}(h:Eb (l++m) a b):Eb l a b:=fun r hr=>h r (List.mem_append.2 (.inl hr))
theorem Eb.right {l m:List R2}{a b:Int}(h:Eb (l++m) a b):Eb m a b:=fun r hr=>h r (List.mem_append.2 (.inr hr))
theorem LH (l:List R2)(k:Nat)(h:k<l.length)(x:Int):s7 x (l.take (k+1))=(s7 x (l.take k)||(decide ((l[k]).1<=x)&&decide (x<=(l[k]).2))):=by
 unfold s7
 rw[List.take_succ_eq_append_getElem h,List.any_append]
 simp only[List.any_cons,List.any_nil,Bool.or_false]
theorem Jl (l:List R2)(k:Nat)(h:k<l.length)(x:Int)(h1:(l[k]).1<=x)(h2:x<=(l[k]).2):s7 x l=true:=u7.2 ⟨l[k],List.getElem_mem _,h1,h2⟩
theorem QL (a:Option Addr)(cap:Nat)(l:List R2)(x:Int)(w:World)(hl:Rg w a l)(hb:l.length<=140737488351232):
 Calls Tryz.prog 146 #[.slice a l.length cap,.int .i64 x] w fun e w'=>e=.returned (.bool (s7 x l))/\b7 (fun _=>False) w w':=by
 have HL:=b6 hl
 clear hl
 go_enter Tryz.func146,Tryz.ntmps146
 go_wp2_with fail
 go_loopg [5] l.length (fun gk i wr=>∃k:Nat,k+gk=l.length/\i=.int .i64 (k:Nat)/\s7 x (l.take k)=false/\w=wr)
 case atStart=>exact⟨0,by omega,rfl,rfl,rfl⟩
 case round=>
  obtain⟨k,hk,rfl,hno,rfl⟩:=hrel
  have HN:=b6 hno
  clear hno
  by_cases hlt:k<l.length
  ·obtain⟨b,o,ha,hbl,hcell⟩:∃b o,a=some ⟨b,o,none⟩/\b<w.heap.size/\∀i (h:i<l.length),w.cell? ⟨b,o+i*2,none⟩=some (.int .i64 (l[i]).1)/\w.cell? ⟨b,o+i*2+1,none⟩=some (.int .i64 (l[i]).2):=by
    rcases HL.out with h|h
    ·rw[h]at hlt;simp at hlt
    ·exact h
   subst ha
   obtain⟨d0,d1⟩:=hcell k hlt
   have HS:=b6 (LH l k hlt x)
   have HF:=b6 (Jl l k hlt x)
   rw[HN.out]at HS
   obtain⟨r,hr⟩:∃r,r=l[k]:=⟨_,rfl⟩
   rw[<-hr]at d0 d1 HS HF
   obtain⟨y,z⟩:=r
   dsimp only at d0 d1 HS HF
   have hkI:(k:Int)<(l.length:Int):=by omega
   clear hcell hr
   by_cases h1:y<=x
   ·by_cases h2:x<=z
    ·have HT:=b6 (HF.out h1 h2)
     go_wp2
     go_ret
     rw[HT.out]
     exact⟨rfl,b7.refl _ _⟩
    ·have HH:=b6 (show s7 x (l.take (k+1))=false by rw[HS.out];simp[h2])
     go_wp2
     go_roundg (gk-1)
     case measure=>omega
     case rel=>exact⟨k+1,by omega,by go_num,HH.out,rfl⟩
   ·have HH:=b6 (show s7 x (l.take (k+1))=false by rw[HS.out];simp[h1])
    go_wp2
    go_roundg (gk-1)
    case measure=>omega
    case rel=>exact⟨k+1,by omega,by go_num,HH.out,rfl⟩
  ·obtain rfl:k=l.length:=by omega
   rw[List.take_length]at HN
   go_wp2
   go_ret
   rw[HN.out]
   exact⟨rfl,b7.refl _ _⟩
def SY (e:List Int):List Value:=e.map (Value.int .i64)
structure Sk (W0 wr:World)(v:Value)(e:List Int):Prop where
 own:wr.ownsRow 0 3 1 v e.length (SY e)
 new:∀g,v.ownBlock=some g->W0.heap.size<=g
 touch:b7 (fun _=>False) W0 wr
theorem Uv:(Tryz.prog.info? 3).map (fun i=>(i.zero,i.size,i.bytes))=some (some (.int .i64 0),1,8):=by kernel_rfl
theorem Sk.more {W0 wr w1:World}{v v':Value}{e:List Int}{x:Int}{o:Obj}(h:Sk W0 wr v e)(hown:w1.ownsRow 0 3 1 v' (e.length+1) (SY e++ [.int .i64 x]))(hg:(wr.alloc o).grownBy w1 v.ownBlock)(hat:v'.ownBlock=v.ownBlock∨v'.ownBlock=some (wr.heap.size+1)):Sk W0 w1 v' (e++ [x]):=by
 refine⟨?_,fun g hg'=>?_,(h.touch.alloc o).grown hg (fun k e hk=>by have:=h.new k e;omega)⟩
 ·rw[List.length_append,SY,List.map_append]
  exact hown
 ·rcases hat with e|e
  ·exact h.new g (by rw[<-e];exact hg')
  ·rw[e]at hg'
   simp at hg'
   have:=h.touch.size
   omega
def Wb (w:World)(a:Option Addr)(e:List Int):Prop:=∃b,a=some ⟨b,0,none⟩/\b<w.heap.size/\∀i (h:i<e.length),w.cell? ⟨b,i,none⟩=some (.int .i64 e[i])
theorem Wb.new {w w':World}{a:Option Addr}{e:List Int}(h:Wb w a e)(t:b7 (fun _=>False) w w'):Wb w' a e:=by
 obtain⟨b,rfl,hb,hc⟩:=h
 refine⟨b,rfl,Nat.lt_of_lt_of_le hb t.size,fun i hi=>?_⟩
 rw[t.cell (p:=⟨b,i,none⟩) hb id]
 exact hc i hi
theorem Sk.ig {W0 wr:World}{v:Value}{e:List Int}(h:Sk W0 wr v e)(h0:e≠ []):∃a c,v=.slice a e.length c/\Wb wr a e:=by
 rcases h.own.2 with⟨rfl,k⟩|⟨g,cap,cur,rfl,hg,hh,rest⟩
 ·exact absurd (List.eq_nil_of_length_eq_zero k) h0
 ·refine⟨_,cap,rfl,g,rfl,lt_of_block hh,fun i hi=>?_⟩
  have:=h.own.cells (g:=g) rfl i (.int .i64 e[i]) (by simp[SY,hi])
  rwa [Ai]at this
theorem Sk.one (w:World)(x:Int):Sk w (w.alloc (.cells #[.int .i64 x] 3)) (.slice (some ⟨w.heap.size,0,none⟩) 1 1) [x]:=by
 refine⟨?_,fun g hg=>?_,(b7.refl _ w).alloc _⟩
 ·exact⟨rfl,.inr ⟨w.heap.size,1,#[.int .i64 x],rfl,Nat.zero_le _,heap_alloc_new w _,Nat.le_refl _,by unfold maxLen;omega,rfl,rfl⟩⟩
 ·simp[Value.ownBlock]at hg
  omega
theorem LA (l:List R2)(last:Int)(k:Nat)(h:k<l.length):(l.take (k+1)).foldl (M4 last) 1114112=M4 last ((l.take k).foldl (M4 last) 1114112) l[k]:=by
 rw[List.take_succ_eq_append_getElem h,List.foldl_append]
 rfl
theorem OR (l:List R2)(last:Int)(h:last<1114112)(k:Nat):last<(l.take k).foldl (M4 last) 1114112/\(l.take k).foldl (M4 last) 1114112<=1114112:=by
 have:=Dt (l.take k) last 1114112 h
 exact⟨this.2.1,this.1⟩
theorem Oa (a:Option Addr)(cap:Nat)(l:List R2)(w:World)(hl:Rg w a l)(hb:l.length<=140737488351232):
 Calls Tryz.prog 145 #[.slice a l.length cap] w fun e w'=>∃v es,e=.returned v/\es≠ []/\es.length<=1114112/\Ea l (es++ [1114112])/\Sk w w' v es:=by
 obtain⟨i0,hi3,hz0,hz1,hz2⟩:=info_parts Uv
 have HL:=b6 hl
 have O1:=b6 (Sk.one w 0)
 clear hl
 go_enter Tryz.func145,Tryz.ntmps145
 go_wp2_with fail
 go_loopg [3] 1114112 (fun gk v wr=>∃(p:List Int) (last:Int),(gk:Int)=1114112-last/\0<=last/\last<1114112/\p.length+1<=1114112/\Ea l (p++ [last])/\Sk w wr v (p++ [last]))
 case atStart=>exact⟨[],0,rfl,Int.le_refl _,by decide,by decide,Ea.one l,O1.out⟩
 case round=>
  obtain⟨p,last,hgk,h0,hlast,hpl,hed,how⟩:=hrel
  have HED:=b6 hed
  have OW:=b6 how
  have HLR:=b6 (HL.out.new how.touch)
  obtain⟨av,cv,hv,ig⟩:=how.ig (by simp)
  subst hv
  obtain⟨ab,rfl,hab,hig⟩:=ig
  have c0:=hig p.length (by simp)
  rw[show(p++ [last])[p.length]'(by simp)=last by simp]at c0
  have hpe:(p++ [last]).length=p.length+1:=by simp
  rw[hpe]at OW⊢
  obtain⟨G,hG⟩:∃G,G=gk:=⟨_,rfl⟩
  rw[<-hG]at hgk
  have HG:=b6 hG
  have HGK:=b6 hgk
  clear hed how hig hpe hG
  ·clear hgk
   go_wp2_with fail
   go_loopg [5,6] l.length (fun gk n i wq=>∃k:Nat,k+gk=l.length/\i=.int .i64 (k:Nat)/\n=.int .i64 ((l.take k).foldl (M4 last) 1114112)/\wr=wq)
   case atStart=>exact⟨0,by omega,rfl,rfl,rfl⟩
   case round=>
    obtain⟨k,hk,rfl,rfl,rfl⟩:=hrel
    have hnx:=OR l last hlast k
    by_cases hlt:k<l.length
    ·obtain⟨b,o,ha,hbl,hcell⟩:∃b o,a=some ⟨b,o,none⟩/\b<wr.heap.size/\∀i (h:i<l.length),wr.cell? ⟨b,o+i*2,none⟩=some (.int .i64 (l[i]).1)/\wr.cell? ⟨b,o+i*2+1,none⟩=some (.int .i64 (l[i]).2):=by
      rcases HLR.out with h|h
      ·rw[h]at hlt;simp at hlt
      ·exact h
     subst ha
     obtain⟨d0,d1⟩:=hcell k hlt
     have HS:=b6 (LA l last k hlt)
     obtain⟨r,hr⟩:∃r,r=l[k]:=⟨_,rfl⟩
     rw[<-hr]at d0 d1 HS
     obtain⟨y,z⟩:=r
     dsimp only at d0 d1
     obtain⟨nx,hn⟩:∃nx,nx=(l.take k).foldl (M4 last) 1114112:=⟨_,rfl⟩
     rw[<-hn]at HS hnx⊢
     have hkI:(k:Int)<(l.length:Int):=by omega
     obtain⟨n1,hn1⟩:∃n1,n1=if last<y/\y<nx then y else nx:=⟨_,rfl⟩
     have HN1:=b6 hn1
     have HE:=b6 (show M4 last nx (y,z)=if last<=z/\z<n1-1 then z+1 else n1 by unfold M4;dsimp only;rw[<-hn1])
     have hn1b:last<n1/\n1<=1114112:=by rw[hn1];split<;>omega
     clear hcell hr hn hn1
     have HZ:=b6 (show M4 last nx (y,z)=M4 last nx (y,z)from rfl)
     rw[HE.out]at HS
     clear HZ HE
     by_cases h1:last<y
     ·by_cases h2:y<nx
      ·obtain rfl:n1=y:=by rw[HN1.out,if_pos ⟨h1,h2⟩]
       clear HN1
       by_cases h3:last<=z
       ·by_cases h4:z<n1-1
        ·have HS2:=b6 (HS.out.trans (if_pos ⟨h3,h4⟩))
         go_wp2_with fail
         go_roundg (gk-1)
         case measure=>omega
         case rel=>exact⟨k+1,by omega,by go_num,by rw[HS2.out],rfl⟩
        ·have HS2:=b6 (HS.out.trans (if_neg (fun h=>h4 h.2)))
         go_wp2_with fail
         go_roundg (gk-1)
         case measure=>omega
         case rel=>exact⟨k+1,by omega,by go_num,by rw[HS2.out],rfl⟩
       ·have HS2:=b6 (HS.out.trans (if_neg (fun h=>h3 h.1)))
        go_wp2_with fail
        go_roundg (gk-1)
        case measure=>omega
        case rel=>exact⟨k+1,by omega,by go_num,by rw[HS2.out],rfl⟩
      ·obtain rfl:n1=nx:=by rw[HN1.out,if_neg (fun h=>h2 h.2)]
       clear HN1
       by_cases h3:last<=z
       ·by_cases h4:z<n1-1
        ·have HS2:=b6 (HS.out.trans (if_pos ⟨h3,h4⟩))
         go_wp2_with fail
         go_roundg (gk-1)
         case measure=>omega
         case rel=>exact⟨k+1,by omega,by go_num,by rw[HS2.out],rfl⟩
        ·have HS2:=b6 (HS.out.trans (if_neg (fun h=>h4 h.2)))
         go_wp2_with fail
         go_roundg (gk-1)
         case measure=>omega
         case rel=>exact⟨k+1,by omega,by go_num,by rw[HS2.out],rfl⟩
       ·have HS2:=b6 (HS.out.trans (if_neg (fun h=>h3 h.1)))
        go_wp2_with fail
        go_roundg (gk-1)
        case measure=>omega
        case rel=>exact⟨k+1,by omega,by go_num,by rw[HS2.out],rfl⟩
     ·obtain rfl:n1=nx:=by rw[HN1.out,if_neg (fun h=>h1 h.1)]
      clear HN1
      by_cases h3:last<=z
      ·by_cases h4:z<n1-1
       ·have HS2:=b6 (HS.out.trans (if_pos ⟨h3,h4⟩))
        go_wp2_with fail
        go_roundg (gk-1)
        case measure=>omega
        case rel=>exact⟨k+1,by omega,by go_num,by rw[HS2.out],rfl⟩
       ·have HS2:=b6 (HS.out.trans (if_neg (fun h=>h4 h.2)))
        go_wp2_with fail
        go_roundg (gk-1)
        case measure=>omega
        case rel=>exact⟨k+1,by omega,by go_num,by rw[HS2.out],rfl⟩
      ·have HS2:=b6 (HS.out.trans (if_neg (fun h=>h3 h.1)))
       go_wp2_with fail
       go_roundg (gk-1)
       case measure=>omega
       case rel=>exact⟨k+1,by omega,by go_num,by rw[HS2.out],rfl⟩
    ·obtain rfl:k=l.length:=by omega
     have HNG:=b6 (LP last l hlast)
     rw[List.take_length]at hnx⊢
     have HNE:=b6 (show(l.foldl (M4 last) 1114112)=JD last l from rfl)
     rw[HNE.out]at hnx⊢
     obtain⟨nx,hn⟩:∃nx,nx=JD last l:=⟨_,rfl⟩
     rw[<-hn]at HNG hnx⊢
     clear hn HNE
     by_cases hend:nx=1114112
     ·subst hend
      go_wp2_with fail
      go_ret
      exact⟨_,p++ [last],rfl,by simp,by simp;omega,HED.out.more HNG.out.2.1 HNG.out.2.2,by first|exact OW.out|(have:=OW.out;simpa using this)⟩
     ·have hne:(nx==1114112)=false:=by simp[hend]
      have hed2:decide (nx=1114112)=false:=decide_eq_false hend
      go_wp2_with (at_builtin;refine wpList_append_own_at _ rfl _ _ 56 rfl 0 3 i0 (.int .i64 0) 1 8 Tryz.underlying56 hi3 hz0 hz1 hz2 rfl (by decide) _ _ _ rfl (OW.out.own.alloc _) ⟨wr.heap.size,0,none⟩ 1 1 [.int .i64 nx] rfl rfl (z7 wr [.int .i64 nx] 3) (by intro u hu;simp at hu;subst hu;rfl) (by unfold maxLen;simp;omega) (by simp;omega) (Nat.zero_le _) ?_)
      intro v' w4 hown hgrow _ hat
      have OC:=b6 (OW.out.more (by rw[List.length_append];exact hown) hgrow hat)
      clear hown hgrow hat
      have HED2:=b6 (HED.out.more HNG.out.2.1 HNG.out.2.2)
      go_wp2
      go_roundg (1114112-nx).toNat
      case measure=>have h1:=HG.out;have h2:=HGK.out;omega
      case rel=>
       refine⟨p++ [last],nx,by omega,by omega,by omega,?_,HED2.out,OC.out⟩
       have h5:=HED2.out.low (p.length+1) nx (by simp)
       simp
       omega
end Go.Proofs.YtdhhcefmmojcmaaGreatDoor
