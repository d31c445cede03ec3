/- Texts of this proof, one behind the other. -/
import Derived.Test.YtdhhcefmmojcmaaGreatDoorVg
import Derived.Test.YtdhhcefmmojcmaaGreatDoorM15
set_option maxRecDepth 100000
set_option maxHeartbeats 0
set_option linter.unusedVariables false
namespace Go.Proofs.YtdhhcefmmojcmaaGreatDoor
open Go.RowKit Go.Lib
theorem IV (b:Nat)(X:Px)(k:Nat)(f:Fl)(vN vn:Value)(ds:List Dc)(ns:List ByteArray)(w:World)(h:QS w b X (k+1) f 32 vN vn 0 0 ds ns)(hX:X.Good)(hk:k<X.R.length):
 Calls Tryz.prog 98 #[.pointer (some ⟨b,0,none⟩),.int .i64 (k:Nat)] w fun e w'=>Bl b X k vN vn 32 w ds (p7 X.R none ⟨k,f,ns⟩) e w':=by
 have c7:w.cell? ⟨b,7,none⟩=some (.int .i64 32):=h.s.c 7 _ rfl
 have KF:=b6 (h.failC 21 k (by have:=hX.lenP;omega))
 have HK:=b6 hk
 clear h hX hk
 go_enter Tryz.func98,Tryz.ntmps98
 go_wp2_with fail
 refine KF.out.mono ?_
 rintro e w1 ⟨rfl,h1,g1⟩
 have H1:=b6 h1
 have G1:=b6 g1
 clear h1 g1 KF c7
 go_wp2
 go_ret
 exact⟨_,_,vN,vn,ds,ns,rfl,H1.out,G1.out,by have:=HK.out;omega⟩
theorem Lo (b:Nat)(X:Px)(k:Nat)(f:Fl)(op:Nat)(vN vn:Value)(ds:List Dc)(ns:List ByteArray)(sub:Option A8)(w:World)(h:QS w b X (k+1) f op vN vn 0 0 ds ns)(hX:X.Good)(hk:k<X.R.length)(hds:ds.length<=2*k)(hN:ns.length<=k+1)(hS:Nz b X op sub):
 Calls Tryz.prog 98 #[.pointer (some ⟨b,0,none⟩),.int .i64 (k:Nat)] w fun e w'=>Bl b X k vN vn op w ds (p7 X.R sub ⟨k,f,ns⟩) e w':=by
 cases sub with
 |none=>
  obtain rfl:op=32:=hS
  exact IV b X k f vN vn ds ns w h hX hk
 |some alt=>
  obtain⟨fi,fm,fs,fu⟩:=f
  exact IW b X k fi fm fs fu op vN vn ds ns alt w h hX hk hds hN hS
theorem Bl.into {b:Nat}{X:Px}{k:Nat}{vN vn:Value}{op:Nat}{w w0:World}{ds:List Dc}{r:PR (Option Nd×St)}{e:Ending}{w':World}(g:GT b w0 w vN vn vN vn)(h:Bl b X k vN vn op w ds r e w'):Bl b X k vN vn op w0 ds r e w':=by
 match r with
 | .ok (none,st)=>
   obtain⟨h1,vN',vn',h2,h3⟩:=h
   exact⟨h1,vN',vn',h2,g.trans h3⟩
 | .ok (some x,st)=>
   obtain⟨p,vN',vn',es,h1,h2,h3,h4,h5⟩:=h
   exact⟨p,vN',vn',es,h1,h2,g.trans h3,h4.wide (fun q e=>by rcases e with e|e;exact e.elim;exact .inr ⟨Nat.le_trans g.t.size e.1,e.2⟩),h5⟩
 | .error (c,j)=>
   obtain⟨r,f',vN',vn',ds',ns',h1,h2,h3,h4⟩:=h
   exact⟨r,f',vN',vn',ds',ns',h1,h2,g.trans h3,h4⟩
theorem IU (b:Nat)(X:Px)(k:Nat)(f:Fl)(op:Nat)(vN vn:Value)(ds:List Dc)(ns:List ByteArray)(sub:Option A8)(w:World)(h:QS w b X k f op vN vn 0 0 ds ns)(hX:X.Good)(hk:k<X.R.length)(hds:ds.length<=2*k)(hN:ns.length<=k+1)(hS:Nz b X op sub)(hc:g7 X.R k=40):
 Calls Tryz.prog 76 #[.pointer (some ⟨b,0,none⟩)] w fun e w'=>Bl b X k vN vn op w ds (p7 X.R sub ⟨k,f,ns⟩) e w':=by
 have hR:=hX.lenR
 have KP:=b6 (j6 b X k f op vN vn 0 0 0 w h.s (by omega) (by omega))
 rw[Nat.add_zero,hc]at KP
 have HQ:=b6 h
 have KB:=b6 (fun w' (g:QS w' b X (k+1) f op vN vn 0 0 ds ns)=>Lo b X k f op vN vn ds ns sub w' g hX hk hds hN hS)
 obtain⟨PO,hPO⟩:∃PO,PO=p7 X.R sub ⟨k,f,ns⟩:=⟨_,rfl⟩
 rw[<-hPO]at KB⊢
 obtain⟨k1,hk1⟩:∃k1,k1=k+1:=⟨_,rfl⟩
 have hwk:IntKind.i64.wrap ((k:Int)+1)=(k1:Int):=by rw[IntKind.wrap_i64];omega
 rw[<-hk1]at KB
 have d2:w.cell? ⟨b,2,none⟩=some (.int .i64 (k:Int)):=h.s.c 2 _ rfl
 clear h hc hk1 hds hX hN hS hPO
 go_enter Tryz.func76,Tryz.ntmps76
 go_wp2_with fail
 refine KP.out.mono ?_
 rintro e w1 ⟨rfl,nq,rfl⟩
 replace HQ:=b6 (HQ.out.new ((tZ w).drewN nq))
 have HG:=b6 ((GT.refl b w vN vn).still ((tZ w).drewN nq))
 clear KP d2
 generalize w.drewN nq=w1 at*
 have c2:w1.cell? ⟨b,2,none⟩=some (.int .i64 (k:Int)):=HQ.out.s.c 2 _ rfl
 have f2:=HQ.out.s.fr 2
 have HS:=b6 (HQ.out.setk k1)
 have HG2:=b6 (HG.out.own (d9 w1 b 2 (.int .i64 (k1:Int))))
 go_upto_region 4 with fail
 clear c2 f2 HQ HG
 generalize w1.setCell ⟨b,2,none⟩ (.int .i64 (k1:Int))=w2 at*
 have K:=b6 (KB.out w2 HS.out)
 clear KB
 go_wp2_with fail
 refine K.out.mono ?_
 intro e w3 hh
 have HH:=b6 (Bl.into HG2.out hh)
 have HE:=b6 (show ∃r:Int,e=.returned (.int .i64 r)from by
  match PO,hh with
  | .ok (none,st),hh=>exact⟨_,hh.1⟩
  | .ok (some x,st),hh=>
    obtain⟨p,_,_,_,h1,_⟩:=hh
    exact⟨_,h1⟩
  | .error (c,j),hh=>
    obtain⟨r,_,_,_,_,_,h1,_⟩:=hh
    exact⟨r,h1⟩)
 clear hh K
 obtain⟨r,rfl⟩:=HE.out
 go_wp2
 go_ret
 exact HH.out
theorem Ll (b:Nat)(X:Px)(k:Nat)(f:Fl)(op:Nat)(vN vn:Value)(ds:List Dc)(ns:List ByteArray)(sub:Option A8)(w:World)(h:QS w b X k f op vN vn 0 0 ds ns)(hX:X.Good)(hk:k<X.R.length)(hds:ds.length<=2*k)(hN:ns.length<=k+1)(hop:op<=32)(hS:Nz b X op sub):
 Calls Tryz.prog 76 #[.pointer (some ⟨b,0,none⟩)] w fun e w'=>Bl b X k vN vn op w ds (F9 X.R b8 sub ⟨k,f,ns⟩) e w':=by
 by_cases h40:g7 X.R k=40
 ·unfold F9 Bt
  simp only
  rw[if_pos h40]
  exact IU b X k f op vN vn ds ns sub w h hX hk hds hN hS h40
 ·exact Lm b X k f op vN vn ds ns sub w h hX hk (by have:=hX.lenR;omega) hop h40
theorem QM:(Tryz.prog.info? 3).map (fun i=>(i.zero,i.size,i.bytes))=some (some (.int .i64 0),1,8):=by kernel_rfl
structure KL (lo:Nat)(w:World)(v:Value)(ps:List Nat)(l:List Nd)(ds:List Dc):Prop where
 z:IZ w v (BV ps)
 own:∀g,v.ownBlock=some g->lo<=g
 len:ps.length=l.length
 tr:∀(i q:Nat) (x:Nd),ps[i]? =some q->l[i]? =some x->DW w (fun g=>lo<=g/\g<w.heap.size/\v.ownBlock≠some g) ds q x
theorem ET {w:World}{v:Value}{is:List Int}(h:IZ w v is){g:Nat}(e:v.ownBlock=some g):g<w.heap.size:=by
 obtain⟨cs,fr,hh⟩:=j5 h g e
 exact lt_of_block hh
theorem KL.nil (lo:Nat)(w:World)(ds:List Dc):KL lo w (.slice none 0 0) [] [] ds:=⟨LK w,fun g e=>by(cases e),rfl,fun i q x e=>by simp at e⟩
theorem KL.kept {lo:Nat}{w w':World}{v:Value}{ps:List Nat}{l:List Nd}{ds:List Dc}{S:Nat->Prop}(h:KL lo w v ps l ds)(t:b7 S w w')(hS:∀g,S g->ND w g)(es:List Dc):KL lo w' v ps l (ds++es):=
 ⟨g9 h.z t (fun g e s=>by obtain⟨cs,fr,hh⟩:=j5 h.z g e;exact(hS g s _ _ _ hh).2 rfl),h.own,h.len,fun i q x e1 e2=>((h.tr i q x e1 e2).kept t (fun g _ s=>hS g s)).more (fun g e=>⟨e.1,Nat.lt_of_lt_of_le e.2.1 t.size,e.2.2⟩) es⟩
theorem KL.still {lo:Nat}{w w':World}{v:Value}{ps:List Nat}{l:List Nd}{ds:List Dc}(h:KL lo w v ps l ds)(t:b7 (fun _=>False) w w'):KL lo w' v ps l ds:=by
 have:=h.kept t (fun _ e=>e.elim) []
 rw[List.append_nil]at this
 exact this
theorem Vz (ps:List Nat)(p:Nat):BV (ps++ [p])=BV ps++ [(p:Int)]:=by simp[BV]
theorem Ho {w:World}{v:Value}{is:List Int}{i:Int}(h:w.ownsRow 0 3 1 v (is.length+1) ((is.map fun i=>Value.int .i64 i)++ [.int .i64 i])):IZ w v (is++ [i]):=by
 unfold IZ
 rw[List.length_append,List.map_append]
 exact h
theorem KL.push {lo:Nat}{w w4:World}{v v':Value}{ps:List Nat}{l:List Nd}{ds:List Dc}{p:Nat}{x:Nd}{B:Nat->Prop}{o:Obj}(h:KL lo w v ps l ds)(hx:DW w B ds p x)(hB:∀g,B g->lo<=g/\g<w.heap.size/\v.ownBlock≠some g)(hlo:lo<=w.heap.size)
 (hown:IZ w4 v' (BV ps++ [(p:Int)])) (hg:(w.alloc o).grownBy w4 v.ownBlock) (hat:v'.ownBlock=v.ownBlock∨v'.ownBlock=some (w.heap.size+1)):KL lo w4 v' (ps++ [p]) (l++ [x]) ds:=by
 have TG:b7 (fun g=>v.ownBlock=some g) w w4:=b7.grown ((b7.refl _ w).alloc o) hg (fun k e _=>e)
 have hne:∀g,g<w.heap.size->v.ownBlock≠some g->v'.ownBlock≠some g:=fun g h1 h2 e=>by
  rcases hat with e2|e2
  ·exact h2 (by rw[<-e2];exact e)
  ·rw[e2]at e
   cases e
   omega
 refine⟨by rw[Vz];exact hown,fun g e=>?_,by rw[List.length_append,List.length_append,h.len];rfl,fun i q y e1 e2=>?_⟩
 ·rcases hat with e2|e2
  ·exact h.own g (by rw[<-e2];exact e)
  ·rw[e2]at e
   cases e
   omega
 ·rcases Nat.lt_trichotomy i ps.length with hi|hi|hi
  ·rw[List.getElem?_append_left hi]at e1
   rw[List.getElem?_append_left (by rw[<-h.len];exact hi)]at e2
   exact((h.tr i q y e1 e2).kept TG (fun g a b=>absurd b a.2.2)).wide (fun g a=>⟨a.1,Nat.lt_of_lt_of_le a.2.1 TG.size,hne g a.2.1 a.2.2⟩)
  ·subst hi
   rw[List.getElem?_append_right (Nat.le_refl _),Nat.sub_self]at e1
   rw[List.getElem?_append_right (by rw[h.len];exact Nat.le_refl _),h.len,Nat.sub_self]at e2
   cases e1
   cases e2
   exact(hx.kept TG (fun g a b=>absurd b (hB g a).2.2)).wide (fun g a=>⟨(hB g a).1,Nat.lt_of_lt_of_le (hB g a).2.1 TG.size,hne g (hB g a).2.1 (hB g a).2.2⟩)
  ·rw[List.getElem?_eq_none (by simp;omega)]at e1
   cases e1
theorem KL.last {lo:Nat}{w:World}{g n c:Nat}{ps:List Nat}{l:List Nd}{ds:List Dc}{p q:Nat}{x y:Nd}(h:KL lo w (.slice (some ⟨g,0,none⟩) n c) (ps++ [p]) (l++ [x]) ds)(hy:DW w (fun r=>lo<=r/\r<w.heap.size/\r≠g) ds q y):
 KL lo (w.setCell ⟨g,ps.length,none⟩ (.int .i64 (q:Nat))) (.slice (some ⟨g,0,none⟩) n c) (ps++ [q]) (l++ [y]) ds:=by
 have T:=d9 w g ps.length (.int .i64 (q:Nat))
 have hL:ps.length=l.length:=by have:=h.len;simp at this;exact this
 have hsz:(w.setCell ⟨g,ps.length,none⟩ (.int .i64 (q:Nat))).heap.size=w.heap.size:=by simp[World.setCell]
 obtain⟨_,_,hv⟩:=e9 h.z
 cases hv
 refine⟨?_,h.own,by rw[List.length_append,List.length_append,hL];rfl,fun i r z e1 e2=>?_⟩
 ·have:=Hx h.z ps.length (.int .i64 (q:Nat))
  have hh:((BV (ps++ [p])).map fun i=>Value.int .i64 i).set ps.length (.int .i64 (q:Nat))=(BV (ps++ [q])).map fun i=>Value.int .i64 i:=by
   simp[BV]
  have hl:(BV (ps++ [q])).length=(BV (ps++ [p])).length:=by rw[L5,L5,List.length_append,List.length_append];rfl
  rw[hh]at this
  unfold IZ
  rw[hl]
  exact this
 ·have hne:∀g2,(Value.slice (some ⟨g,0,none⟩) (BV (ps++ [p])).length c).ownBlock≠some g2->g2≠g:=fun g2 h1 e=>h1 (by rw[e];rfl)
  have hne2:∀g2,g2≠g->(Value.slice (some ⟨g,0,none⟩) (BV (ps++ [p])).length c).ownBlock≠some g2:=fun g2 h1 e=>h1 (by cases e;rfl)
  rcases Nat.lt_trichotomy i ps.length with hi|hi|hi
  ·rw[List.getElem?_append_left hi]at e1
   rw[List.getElem?_append_left (by omega)]at e2
   exact((h.tr i r z (by rw[List.getElem?_append_left hi];exact e1) (by rw[List.getElem?_append_left (by omega)];exact e2)).kept T (fun g2 a b=>absurd b (hne g2 a.2.2))).wide (fun g2 a=>⟨a.1,Nat.lt_of_lt_of_le a.2.1 T.size,a.2.2⟩)
  ·subst hi
   rw[List.getElem?_append_right (Nat.le_refl _),Nat.sub_self]at e1
   rw[List.getElem?_append_right (by omega),show ps.length-l.length=0 by omega]at e2
   cases e1
   cases e2
   exact(hy.kept T (fun g2 a b=>absurd b a.2.2)).wide (fun g2 a=>⟨a.1,Nat.lt_of_lt_of_le a.2.1 T.size,hne2 g2 a.2.2⟩)
  ·rw[List.getElem?_eq_none (by simp;omega)]at e1
   cases e1
section
variable {w w' : World} {b : Nat} {X : Px} {k : Nat} {f : Fl} {op : Nat} {vN vn : Value} {er ea : Int} {ds : List Dc} {ns : List ByteArray} {v : Value} {is : List Int}
theorem QS.side (h:QS w b X k f op vN vn er ea ds ns)(hv:IZ w v is)(hb:∀g,v.ownBlock=some g->b<g)(t:b7 (fun g=>v.ownBlock=some g) w w'):QS w' b X k f op vN vn er ea ds ns:=by
 refine⟨h.s.turn ((t.block b h.s.lt (fun e=>by have:=hb b e;omega)).trans h.s.cells) t (fun g e=>Nat.le_of_lt (hb g e)),g9 h.nl t (fun g e x=>?_),g9 h.sl t (fun g e x=>?_),h.nN,h.nn⟩
 ·obtain⟨cs,fr,hh⟩:=j5 h.nl g e
  obtain⟨cs2,fr2,hh2⟩:=j5 hv g x
  rw[hh2]at hh
  cases hh
 ·obtain⟨cs,fr,hh⟩:=j5 h.sl g e
  obtain⟨cs2,fr2,hh2⟩:=j5 hv g x
  rw[hh2]at hh
  cases hh
theorem GT.side {w1 w2:World}{vN1 vn1:Value}(h:GT b w w1 vN vn vN1 vn1)(t:b7 (fun g=>v.ownBlock=some g) w1 w2)(hv:∀g,v.ownBlock=some g->w.heap.size<=g):GT b w w2 vN vn vN1 vn1:=
 ⟨h.t.trans t (fun i hi e=>by have:=hv i e;omega),h.gN,h.gn⟩
end
def VO:Option (Int×Int×Nat)->Value
 |some (a,z,_)=>.tuple #[.int .i64 a,.int .i64 z,.bool true]
 |none=>.tuple #[.int .i64 0,.int .i64 0,.bool false]
def VN (k:Nat):Option (Int×Int×Nat)->Nat
 |some (_,_,k1)=>k1
 |none=>k
theorem ST {R:List Int}{n k:Nat}(h:p4 (g7 R k)=false):M3 R n k=[]:=by
 cases n with
 |zero=>rfl
 |succ n=>rw[M3,if_neg (by rw[h];decide)]
theorem Rk (R:List Int)(k:Nat)(l m:List Nat)(k1 k2:Nat)(hl:l=M3 R 4 k)(hk1:k1=k+l.length)(hm:m=M3 R 4 (k1+1))(hk2:k2=k1+1+m.length):
 S7 R k=if l=[]then none else if g7 R k1=44 then(if g7 R k2=125 then some (((L0 l:Nat):Int),OM m,k2+1)else none)else if g7 R k1=125 then some (((L0 l:Nat):Int),((L0 l:Nat):Int),k1+1)else none:=by
 unfold S7
 simp only
 rw[<-hl,<-hk1]
 by_cases h0:l=[]
 ·rw[if_pos h0,if_pos h0]
 rw[if_neg h0,if_neg h0]
 by_cases h1:g7 R k1=125
 ·rw[if_pos h1,if_neg (by rw[h1];decide),if_pos h1]
 rw[if_neg h1,if_neg h1,<-hm]
 by_cases h2:g7 R k1=44
 ·rw[if_pos h2,if_pos h2]
  by_cases h3:g7 R (k1+1)=125
  ·have hm0:m=[]:=by rw[hm];exact ST (by rw[h3];decide)
   subst hm0
   rw[if_pos h3,hk2]
   simp only[List.length_nil,Nat.add_zero]
   rw[if_pos h3]
   rfl
  ·rw[if_neg h3]
   by_cases h4:m=[]
   ·subst h4
    rw[if_pos rfl,hk2]
    simp only[List.length_nil,Nat.add_zero]
    rw[if_neg h3]
   ·rw[if_neg h4,<-hk2]
    unfold OM
    rw[if_neg h4]
 ·rw[if_neg h2,if_neg h2]
theorem Pv (b:Nat)(X:Px)(k:Nat)(f:Fl)(op:Nat)(vN vn:Value)(er ea:Int)(w:World)(h:DS w b X k f op vN vn er ea)(hk:k<=X.R.length)(hR:X.R.length<=1024):
 Calls Tryz.prog 75 #[.pointer (some ⟨b,0,none⟩)] w fun e w'=>e=.returned (VO (o8 X.R k))/\DS w' b X (VN k (o8 X.R k)) f op vN vn er ea/\b7 (fun g=>g=b) w w':=by
 have HD:=b6 h
 obtain⟨Z,hZ⟩:∃Z,Z=o8 X.R k:=⟨_,rfl⟩
 rw[<-hZ]
 have HZ:=b6 hZ
 have HK:=b6 hk
 have HT:=b6 (b7.refl (fun g=>g=b) w)
 clear h hZ hk
 by_cases c42:g7 X.R k=42
 ·have HB:=b6 (show o8 X.R k=some (0,-1,k+1)by unfold o8;rw[if_pos c42])
  have K1:=b6 (y7 42 HD.out (by have:=HK.out;omega) c42)
  clear c42
  go_enter Tryz.func75,Tryz.ntmps75
  go_wp2_with fail
  refine K1.out.mono ?_
  rintro e w1 ⟨rfl,h1,t1⟩
  have H1:=b6 h1
  have T1:=b6 t1
  clear h1 t1 K1 HD
  go_wp2
  refine bodyPost_ret (results_tmp3 rfl _ _ _) rfl ?_
  rw[HZ.out,HB.out]
  exact⟨rfl,H1.out,T1.out⟩
 have N1:=b6 (fun w' (g:DS w' b X k f op vN vn er ea)=>E6 42 g (by have:=HK.out;omega) c42)
 by_cases c43:g7 X.R k=43
 ·have HB:=b6 (show o8 X.R k=some (1,-1,k+1)by unfold o8;rw[if_neg c42,if_pos c43])
  have K2:=b6 (fun w' (g:DS w' b X k f op vN vn er ea)=>y7 43 g (by have:=HK.out;omega) c43)
  clear c42 c43
  go_enter Tryz.func75,Tryz.ntmps75
  go_wp2_with fail
  refine(N1.out _ HD.out).mono ?_
  rintro e w1 ⟨rfl,h1,t1⟩
  replace HD:=b6 h1
  replace HT:=b6 t1
  clear h1 t1 N1
  go_wp2_with fail
  refine(K2.out _ HD.out).mono ?_
  rintro e w2 ⟨rfl,h1,t1⟩
  have H1:=b6 h1
  have T1:=b6 (HT.out.trans t1 iE)
  clear h1 t1 K2 HD HT
  go_wp2
  refine bodyPost_ret (results_tmp3 rfl _ _ _) rfl ?_
  rw[HZ.out,HB.out]
  exact⟨rfl,H1.out,T1.out⟩
 have N2:=b6 (fun w' (g:DS w' b X k f op vN vn er ea)=>E6 43 g (by have:=HK.out;omega) c43)
 by_cases c63:g7 X.R k=63
 ·have HB:=b6 (show o8 X.R k=some (0,1,k+1)by unfold o8;rw[if_neg c42,if_neg c43,if_pos c63])
  have K3:=b6 (fun w' (g:DS w' b X k f op vN vn er ea)=>y7 63 g (by have:=HK.out;omega) c63)
  clear c42 c43 c63
  go_enter Tryz.func75,Tryz.ntmps75
  go_wp2_with fail
  refine(N1.out _ HD.out).mono ?_
  rintro e w1 ⟨rfl,h1,t1⟩
  replace HD:=b6 h1
  replace HT:=b6 t1
  clear h1 t1 N1
  go_wp2_with fail
  refine(N2.out _ HD.out).mono ?_
  rintro e w2 ⟨rfl,h1,t1⟩
  replace HD:=b6 h1
  replace HT:=b6 (HT.out.trans t1 iE)
  clear h1 t1 N2
  go_wp2_with fail
  refine(K3.out _ HD.out).mono ?_
  rintro e w3 ⟨rfl,h1,t1⟩
  have H1:=b6 h1
  have T1:=b6 (HT.out.trans t1 iE)
  clear h1 t1 K3 HD HT
  go_wp2
  refine bodyPost_ret (results_tmp3 rfl _ _ _) rfl ?_
  rw[HZ.out,HB.out]
  exact⟨rfl,H1.out,T1.out⟩
 have N3:=b6 (fun w' (g:DS w' b X k f op vN vn er ea)=>E6 63 g (by have:=HK.out;omega) c63)
 by_cases c123:g7 X.R k=123
 ·have K4:=b6 (fun w' (g:DS w' b X k f op vN vn er ea)=>y7 123 g (by have:=HK.out;omega) c123)
  have hk1:k+1<=X.R.length:=by have:=j9 c123 (by decide);omega
  have HB:=b6 (show o8 X.R k=S7 X.R (k+1)by unfold o8;rw[if_neg c42,if_neg c43,if_neg c63,if_pos c123])
  clear c42 c43 c63 c123
  obtain⟨l,hl⟩:∃l,l=M3 X.R 4 (k+1):=⟨_,rfl⟩
  obtain⟨k1,hkk1⟩:∃k1,k1=k+1+l.length:=⟨_,rfl⟩
  obtain⟨m,hm⟩:∃m,m=M3 X.R 4 (k1+1):=⟨_,rfl⟩
  obtain⟨k2,hkk2⟩:∃k2,k2=k1+1+m.length:=⟨_,rfl⟩
  have HNA:=b6 (Rk X.R (k+1) l m k1 k2 hl hkk1 hm hkk2)
  have KD1:=b6 (fun w' (g:DS w' b X (k+1) f op vN vn er ea)=>DM b X (k+1) f op vN vn er ea w' g hk1 hR)
  rw[<-hl,<-hkk1]at KD1
  have hk1R:k1<=X.R.length:=by have:=Eq X.R 4 (k+1) hk1;rw[<-hl]at this;omega
  have KD2:=b6 (fun w' (g:DS w' b X (k1+1) f op vN vn er ea) (e:k1+1<=X.R.length)=>DM b X (k1+1) f op vN vn er ea w' g e hR)
  rw[<-hm,<-hkk2]at KD2
  have HK2:=b6 (show k1+1<=X.R.length->k2<=X.R.length from fun e=>by have:=Eq X.R 4 (k1+1) e;rw[<-hm]at this;omega)
  have K1R:=b6 hk1R
  clear hl hkk1 hm hkk2 hk1 hk1R
  go_enter Tryz.func75,Tryz.ntmps75
  go_wp2_with fail
  refine(N1.out _ HD.out).mono ?_
  rintro e w1 ⟨rfl,h1,t1⟩
  replace HD:=b6 h1
  replace HT:=b6 t1
  clear h1 t1 N1
  go_wp2_with fail
  refine(N2.out _ HD.out).mono ?_
  rintro e w2 ⟨rfl,h1,t1⟩
  replace HD:=b6 h1
  replace HT:=b6 (HT.out.trans t1 iE)
  clear h1 t1 N2
  go_wp2_with fail
  refine(N3.out _ HD.out).mono ?_
  rintro e w3 ⟨rfl,h1,t1⟩
  replace HD:=b6 h1
  replace HT:=b6 (HT.out.trans t1 iE)
  clear h1 t1 N3
  have d2:w3.cell? ⟨b,2,none⟩=some (.int .i64 (k:Nat)):=HD.out.c 2 _ rfl
  go_wp2_with fail
  refine(K4.out _ HD.out).mono ?_
  rintro e w4 ⟨rfl,h1,t1⟩
  have H1:=b6 h1
  replace HT:=b6 (HT.out.trans t1 iE)
  clear h1 t1 K4 HD d2
  go_wp2_with fail
  refine(KD1.out _ H1.out).mono ?_
  rintro e w5 ⟨rfl,h1,t1⟩
  have H2:=b6 h1
  replace HT:=b6 (HT.out.trans t1 iE)
  clear h1 t1 KD1 H1
  by_cases h0:l=[]
  ·have hnv:OM l= -1:=by rw[h0];rfl
   rw[hnv]
   have HN:=b6 (show Z=none by rw[HZ.out,HB.out,HNA.out,if_pos h0])
   clear h0 hnv HNA KD2
   have f2:=H2.out.fr 2
   have HS:=b6 (H2.out.setk k)
   have TS:=b6 (b7.trans (S:=fun g=>g=b) HT.out (d9 w5 b 2 (.int .i64 (k:Nat))) iE)
   have c2:w5.cell? ⟨b,2,none⟩=some (.int .i64 (k1:Nat)):=H2.out.c 2 _ rfl
   go_wp2
   refine bodyPost_ret (results_tmp3 rfl _ _ _) rfl ?_
   rw[HN.out]
   exact⟨rfl,HS.out,TS.out⟩
  obtain⟨V,hV⟩:∃V:Nat,V=L0 l:=⟨_,rfl⟩
  have hnv:OM l=(V:Int):=by unfold OM;rw[if_neg h0,hV]
  rw[hnv]
  have hV0:(V:Int)≥0:=by omega
  have HNB:=b6 (show S7 X.R (k+1)=_ from by rw[HNA.out,if_neg h0,<-hV])
  clear h0 hnv HNA hV
  by_cases c44:g7 X.R k1=44
  ·have hk1R:k1+1<=X.R.length:=by have:=j9 c44 (by decide);omega
   have HNC:=b6 (show S7 X.R (k+1)=_ from by rw[HNB.out,if_pos c44])
   clear HNB
   go_wp2_with fail
   refine(y7 44 H2.out (by omega) c44).mono ?_
   rintro e w6 ⟨rfl,h1,t1⟩
   have H3:=b6 h1
   replace HT:=b6 (HT.out.trans t1 iE)
   clear h1 t1 H2 c44
   go_wp2_with fail
   refine(KD2.out _ H3.out hk1R).mono ?_
   rintro e w7 ⟨rfl,h1,t1⟩
   have H4:=b6 h1
   replace HT:=b6 (HT.out.trans t1 iE)
   have hk2R:=HK2.out hk1R
   clear h1 t1 H3 KD2 HK2
   by_cases c125:g7 X.R k2=125
   ·have HND:=b6 (show Z=_ from by rw[HZ.out,HB.out,HNC.out,if_pos c125])
    go_wp2_with fail
    refine(y7 125 H4.out (by omega) c125).mono ?_
    rintro e w8 ⟨rfl,h1,t1⟩
    have H5:=b6 h1
    replace HT:=b6 (HT.out.trans t1 iE)
    clear h1 t1 H4 c125
    go_wp2
    refine bodyPost_ret (results_tmp3 rfl _ _ _) rfl ?_
    rw[HND.out]
    exact⟨rfl,H5.out,HT.out⟩
   ·have HND:=b6 (show Z=none from by rw[HZ.out,HB.out,HNC.out,if_neg c125])
    go_wp2_with fail
    refine(E6 125 H4.out (by omega) c125).mono ?_
    rintro e w8 ⟨rfl,h1,t1⟩
    have H5:=b6 h1
    replace HT:=b6 (HT.out.trans t1 iE)
    clear h1 t1 H4 c125
    have f2:=H5.out.fr 2
    have HS:=b6 (H5.out.setk k)
    have TS:=b6 (b7.trans (S:=fun g=>g=b) HT.out (d9 w8 b 2 (.int .i64 (k:Nat))) iE)
    have c2:w8.cell? ⟨b,2,none⟩=some (.int .i64 (k2:Nat)):=H5.out.c 2 _ rfl
    go_wp2
    refine bodyPost_ret (results_tmp3 rfl _ _ _) rfl ?_
    rw[HND.out]
    exact⟨rfl,HS.out,TS.out⟩
  ·have HNC:=b6 (show S7 X.R (k+1)=_ from by rw[HNB.out,if_neg c44])
   have hk1R:=K1R.out
   clear HNB KD2 HK2
   go_wp2_with fail
   refine(E6 44 H2.out (by omega) c44).mono ?_
   rintro e w6 ⟨rfl,h1,t1⟩
   have H3:=b6 h1
   replace HT:=b6 (HT.out.trans t1 iE)
   clear h1 t1 H2 c44
   by_cases c125:g7 X.R k1=125
   ·have HND:=b6 (show Z=_ from by rw[HZ.out,HB.out,HNC.out,if_pos c125])
    go_wp2_with fail
    refine(y7 125 H3.out (by omega) c125).mono ?_
    rintro e w8 ⟨rfl,h1,t1⟩
    have H5:=b6 h1
    replace HT:=b6 (HT.out.trans t1 iE)
    clear h1 t1 H3 c125
    go_wp2
    refine bodyPost_ret (results_tmp3 rfl _ _ _) rfl ?_
    rw[HND.out]
    exact⟨rfl,H5.out,HT.out⟩
   ·have HND:=b6 (show Z=none from by rw[HZ.out,HB.out,HNC.out,if_neg c125])
    go_wp2_with fail
    refine(E6 125 H3.out (by omega) c125).mono ?_
    rintro e w8 ⟨rfl,h1,t1⟩
    have H5:=b6 h1
    replace HT:=b6 (HT.out.trans t1 iE)
    clear h1 t1 H3 c125
    have f2:=H5.out.fr 2
    have HS:=b6 (H5.out.setk k)
    have TS:=b6 (b7.trans (S:=fun g=>g=b) HT.out (d9 w8 b 2 (.int .i64 (k:Nat))) iE)
    have c2:w8.cell? ⟨b,2,none⟩=some (.int .i64 (k1:Nat)):=H5.out.c 2 _ rfl
    go_wp2
    refine bodyPost_ret (results_tmp3 rfl _ _ _) rfl ?_
    rw[HND.out]
    exact⟨rfl,HS.out,TS.out⟩
 ·have N4:=b6 (fun w' (g:DS w' b X k f op vN vn er ea)=>E6 123 g (by have:=HK.out;omega) c123)
  have HB:=b6 (show Z=none by rw[HZ.out];unfold o8;rw[if_neg c42,if_neg c43,if_neg c63,if_neg c123])
  clear c42 c43 c63 c123
  go_enter Tryz.func75,Tryz.ntmps75
  go_wp2_with fail
  refine(N1.out _ HD.out).mono ?_
  rintro e w1 ⟨rfl,h1,t1⟩
  replace HD:=b6 h1
  replace HT:=b6 t1
  clear h1 t1 N1
  go_wp2_with fail
  refine(N2.out _ HD.out).mono ?_
  rintro e w2 ⟨rfl,h1,t1⟩
  replace HD:=b6 h1
  replace HT:=b6 (HT.out.trans t1 iE)
  clear h1 t1 N2
  go_wp2_with fail
  refine(N3.out _ HD.out).mono ?_
  rintro e w3 ⟨rfl,h1,t1⟩
  replace HD:=b6 h1
  replace HT:=b6 (HT.out.trans t1 iE)
  clear h1 t1 N3
  have d2:w3.cell? ⟨b,2,none⟩=some (.int .i64 (k:Nat)):=HD.out.c 2 _ rfl
  go_wp2_with fail
  refine(N4.out _ HD.out).mono ?_
  rintro e w4 ⟨rfl,h1,t1⟩
  replace HD:=b6 h1
  replace HT:=b6 (HT.out.trans t1 iE)
  clear h1 t1 N4 d2
  have f2:=HD.out.fr 2
  have HS:=b6 (HD.out.setk k)
  have TS:=b6 (b7.trans (S:=fun g=>g=b) HT.out (d9 w4 b 2 (.int .i64 (k:Nat))) iE)
  have c2:w4.cell? ⟨b,2,none⟩=some (.int .i64 (k:Nat)):=HD.out.c 2 _ rfl
  go_wp2
  refine bodyPost_ret (results_tmp3 rfl _ _ _) rfl ?_
  rw[HB.out]
  exact⟨rfl,HS.out,TS.out⟩
end Go.Proofs.YtdhhcefmmojcmaaGreatDoor
