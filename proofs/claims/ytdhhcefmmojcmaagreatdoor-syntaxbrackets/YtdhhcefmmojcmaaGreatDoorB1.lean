/- Texts of this proof, one behind the other. -/
import Derived.Test.YtdhhcefmmojcmaaGreatDoorB0
import Derived.Test.YtdhhcefmmojcmaaGreatDoorVm
set_option maxRecDepth 100000
set_option maxHeartbeats 0
set_option linter.unusedVariables false
namespace Go.Proofs.YtdhhcefmmojcmaaGreatDoor
open Go.RowKit Go.Lib
theorem Hd (pre b suf:ByteArray)(j:Nat)(h:j<b.size):pre.size+j<(pre++b++suf).size/\l5 (pre++b++suf) (pre.size+j)=l5 b j:=by
 have hs:pre.size+j<(pre++b++suf).size:=by simp[ByteArray.size_append];omega
 refine⟨hs,?_⟩
 unfold l5
 rw[dif_pos hs,dif_pos h]
 congr 1
 rw[ByteArray.getElem_append_left (by simp[ByteArray.size_append];omega),ByteArray.getElem_append_right (by omega)]
 congr 1
 omega
def W2 (s:ByteArray):Nat->Nat->List Int->List Int->Prop
 |i,e,[],[]=>i=e
 |i,e,r::R,p::P=>p=(i:Int)/\i<s.size/\(r8 s 1 i).1=r/\r≠ -1/\W2 s (i+(r8 s 1 i).2) e R P
 |_,_,[],_::_=>False
 |_,_,_::_,[]=>False
theorem RS (s:ByteArray):∀(i:Nat) (R P:List Int),Ge s i R P->W2 s i s.size R P
 |i,[],[],h=>h
 |i,r::R,p::P,⟨h1,h2,h3,h4,h5⟩=>⟨h1,h2,h3,h4,RS s _ R P h5⟩
 |_,[],_::_,h=>h.elim
 |_,_::_,[],h=>h.elim
theorem Ik (s:ByteArray):∀(R P:List Int) (i e k:Nat) (rs ps:List Int) (bad:Nat),W2 s i e R P->s.size<=i+k->
 F8 s 1 true k i rs ps bad=F8 s 1 true (k-R.length) e (rs++R) (ps++P) bad/\s.size<=e+(k-R.length)
 | [],[],i,e,k,rs,ps,bad,h,hk=>by
   have h:i=e:=h
   subst h
   simp[hk]
 |r::R,p::P,i,e,k,rs,ps,bad,⟨h1,h2,h3,h4,h5⟩,hk=>by
  obtain⟨k,rfl⟩:∃j,k=j+1:=⟨k-1,by omega⟩
  have hz:=Af s 1 i
  rw[U0 h2,if_neg (by rw[h3];exact h4)]
  obtain⟨e1,e2⟩:=Ik s R P (i+(r8 s 1 i).2) e k (rs++ [(r8 s 1 i).1]) (ps++ [(i:Int)]) bad h5 (by omega)
  rw[e1,h3,h1,List.append_assoc,List.append_assoc,List.length_cons,Nat.add_sub_add_right]
  exact⟨rfl,e2⟩
 | [],_::_,_,_,_,_,_,_,h,_=>h.elim
 |_::_,[],_,_,_,_,_,_,h,_=>h.elim
theorem Da (s:ByteArray):∀(R P:List Int) (i j e:Nat) (R' P':List Int),W2 s i j R P->W2 s j e R' P'->W2 s i e (R++R') (P++P')
 | [],[],i,j,e,R',P',h,k=>by
   have h:i=j:=h
   subst h
   exact k
 |r::R,p::P,i,j,e,R',P',⟨h1,h2,h3,h4,h5⟩,k=>⟨h1,h2,h3,h4,Da s R P _ j e R' P' h5 k⟩
 | [],_::_,_,_,_,_,_,h,_=>h.elim
 |_::_,[],_,_,_,_,_,h,_=>h.elim
theorem Ez (s:ByteArray):∀(l:List Int) (i:Nat),l.all Aj=true->Lays s i l->W2 s i (i+l.length) l (Aq i l.length)
 | [],i,_,_=>rfl
 |c::l,i,ha,hl=>by
  rw[List.all_cons,Bool.and_eq_true]at ha
  have hc:=ha.1
  unfold Aj at hc
  rw[Bool.and_eq_true,decide_eq_true_eq,decide_eq_true_eq]at hc
  have ht:=FE ha.1 hl
  have hi:=(hl 0 (by simp)).1
  rw[show Aq i (c::l).length=(i:Int)::Aq (i+1) l.length from by simp[Aq,List.range'_succ]]
  refine⟨rfl,hi,by rw[ht],by omega,?_⟩
  rw[ht,List.length_cons,show i+(l.length+1)=i+1+l.length by omega]
  exact Ez s l (i+1) ha.2 (Lays.right (a:=[c]) hl)
theorem Dd {b s:ByteArray}{n:Nat}(hE:∀j,j<b.size->n+j<s.size/\l5 s (n+j)=l5 b j):∀(R P:List Int) (i e:Nat),W2 b i e R P->W2 s (n+i) (n+e) R (P.map fun p=>p+(n:Int))
 | [],[],i,e,h=>by
   have h:i=e:=h
   subst h
   exact rfl
 |r::R,p::P,i,e,⟨h1,h2,h3,h4,h5⟩=>by
  obtain⟨b1,b2,b3⟩:=BM 1 (.inl rfl) b i h2 (by rw[h3];exact h4)
  rw[h3]at b1 b2 b3
  have hs:r8 s 1 (n+i)=(r,(enc 1 r).length):=BO 1 (.inl rfl) s (n+i) r b1 (fun j hj=>by
   have:=b2 j hj
   have h2:=hE (i+j) this.1
   rw[Nat.add_assoc]
   exact⟨h2.1,by rw[h2.2];exact this.2⟩)
  refine⟨by rw[h1];show(i:Int)+(n:Int)=((n+i:Nat):Int);omega,(hE i h2).1,by rw[hs],h4,?_⟩
  rw[hs]
  rw[b3]at h5
  have:=Dd hE R P _ e h5
  rw[<-Nat.add_assoc]at this
  exact this
 | [],_::_,_,_,h=>h.elim
 |_::_,[],_,_,h=>h.elim
theorem Nl {s:ByteArray}{R P:List Int}(f:Fl)(hb:E5 s (mk 1)=false)(hs:s.size<=1024)(h:W2 s 0 s.size R P):
 I0 s f=match S9 R b8 f with
  | .ok r=>.ok r
  | .error (c,j)=>.error ((c:Nat),g7 (P++ [(s.size:Int)]) j):=by
 unfold I0
 have hg:(bg s 1).2=0:=by
  unfold bg
  rw[if_neg (by decide),hb]
  rfl
 rw[if_neg (by omega),hg,(Ik s R P 0 s.size s.size [] [] 0 h (by omega)).1,Ay (Nat.le_refl _)]
 simp only[List.nil_append]
 rcases S9 R b8 f with⟨c,j⟩|r
 ·rfl
 ·rfl
theorem Nb {s:ByteArray}{c:Int}{l:List Int}(hl:Lays s 0 (c::l))(hc:c<128):E5 s (mk 1)=false:=by
 cases hb:E5 s (mk 1)with
 |false=>rfl
 |true=>
  have h:=(AY s (mk 1)).1 hb
  have h0:=h 0 (by decide)
  have e0:(nums (mk 1))[0]=239:=by kernel_rfl
  rw[e0]at h0
  have h1:=hl 0 (by simp)
  simp only[List.getElem_cons_zero]at h1
  omega
theorem Qq (s:ByteArray):∀(k i:Nat) (rs ps:List Int) (bad j:Nat),(F8 s 1 true k i rs ps bad).1=some j->∃R P,W2 s i j R P/\j<s.size/\(r8 s 1 j).1= -1
 |0,i,rs,ps,bad,j,h=>by cases h
 |k+1,i,rs,ps,bad,j,h=>by
  rcases Nat.lt_or_ge i s.size with hlt|hge
  ·rw[U0 hlt]at h
   by_cases hb:(r8 s 1 i).1= -1
   ·rw[if_pos hb,if_pos rfl]at h
    injection h with h
    subst h
    exact⟨[],[],rfl,hlt,hb⟩
   ·rw[if_neg hb]at h
    obtain⟨R,P,h1,h2,h3⟩:=Qq s k _ _ _ _ j h
    exact⟨(r8 s 1 i).1::R,(i:Int)::P,⟨rfl,hlt,rfl,hb,h1⟩,h2,h3⟩
  ·rw[Ay hge]at h
   cases h
theorem PY {s:ByteArray}{R P:List Int}{i e k:Nat}(rs ps:List Int)(bad:Nat)(h:W2 s i e R P)(hk:s.size<=i+k)(he:e<s.size)(hb:(r8 s 1 e).1= -1):F8 s 1 true k i rs ps bad=(some e,[],[],0):=by
 obtain⟨h1,h2⟩:=Ik s R P i e k rs ps bad h hk
 rw[h1]
 obtain⟨m,hm⟩:∃m,k-R.length=m+1:=⟨k-R.length-1,by omega⟩
 rw[hm,U0 he,if_pos hb,if_pos rfl]
theorem Ue {s:ByteArray}{R P:List Int}{e:Nat}(f:Fl)(hg:E5 s (mk 1)=false)(hs:s.size<=1024)(h:W2 s 0 e R P)(he:e<s.size)(hb:(r8 s 1 e).1= -1):I0 s f=.error (17,(e:Int)):=by
 unfold I0
 have hz:(bg s 1).2=0:=by
  unfold bg
  rw[if_neg (by decide),hg]
  rfl
 rw[if_neg (by omega),hz,PY [] [] 0 h (by omega) he hb]
theorem FI (b:ByteArray)(hb:E5 b (mk 1)=false):(∃R P,W2 b 0 b.size R P/\F8 b 1 true b.size (bg b 1).2 [] [] 0=(none,R,P,0)/\∀c ∈ R,c≠ -1)∨(∃R P e,W2 b 0 e R P/\e<b.size/\(r8 b 1 e).1= -1/\F8 b 1 true b.size (bg b 1).2 [] [] 0=(some e,[],[],0)):=by
 have hz:(bg b 1).2=0:=by
  unfold bg
  rw[if_neg (by decide),hb]
  rfl
 rw[hz]
 cases hd:(F8 b 1 true b.size 0 [] [] 0).1 with
 |none=>
  left
  obtain⟨R,P,h1,h2,h3⟩:=Gn b b.size 0 [] [] 0 (by omega) (by omega) hd
  have hT:=RS b 0 R P h3
  refine⟨R,P,hT,?_,?_⟩
  ·rw[(Ik b R P 0 b.size b.size [] [] 0 hT (by omega)).1,Ay (Nat.le_refl _)]
   rfl
  ·have key:∀(R P:List Int) (i:Nat),W2 b i b.size R P->∀c ∈ R,c≠ -1:=by
    intro R
    induction R with
    |nil=>intro P i _ c hc;cases hc
    |cons r R ih=>
     intro P i h c hc
     match P,h with
     | [],h=>exact h.elim
     |p::P,⟨h1,h2,h3,h4,h5⟩=>
      rcases List.mem_cons.1 hc with rfl|hc
      ·exact h4
      ·exact ih P _ h5 c hc
   exact key R P 0 hT
 |some e=>
  right
  obtain⟨R,P,h1,h2,h3⟩:=Qq b b.size 0 [] [] 0 e hd
  exact⟨R,P,e,h1,h2,h3,PY [] [] 0 h1 (by omega) h2 h3⟩
theorem Sw {R:List Int}(hR:∀c ∈ R,c≠ -1){x:Nd}{ns:List ByteArray}(h:S9 R b8 x7=.ok (x,ns)):
 S9 ([40,63,58]++(R++ [41])) b8 x7=.ok (x,ns)∨∃j,S9 ([40,63,58]++(R++ [41])) b8 x7=.error (21,j):=by
 unfold S9 at h
 cases ha:B7 R b8 32 ⟨0,x7,[⟨#[]⟩]⟩with
 |error e=>rw[ha]at h;cases h
 |ok p=>
  obtain⟨y,s1⟩:=p
  rw[ha]at h
  simp only at h
  by_cases he:g7 R s1.k= -1
  ·rw[if_pos he]at h
   cases h
   have hk:s1.k=R.length:=by
    have h1:=B8 R b8 32 ⟨0,x7,[⟨#[]⟩]⟩ x s1 (by show 0<=_;omega) ha
    rcases Nat.lt_or_ge s1.k R.length with g|g
    ·rw[P8 g]at he
     exact absurd he (hR _ (List.getElem_mem g))
    ·omega
   have hc:=(SB R).altN_ b8 31 ⟨0,x7,[⟨#[]⟩]⟩ _ (by show 0<=_;omega) ha
   have hs:=(Np [40,63,58] (R++ [41])).altN_ (by simp) b8 31 ⟨0,x7,[⟨#[]⟩]⟩ (by show 0<=_;omega)
   have hsh:(⟨0,x7,[⟨#[]⟩]⟩:St).sh ([40,63,58]:List Int).length=⟨3,x7,[⟨#[]⟩]⟩:=rfl
   rw[hsh]at hs
   obtain⟨Q,hQ⟩:∃Q,Q=([40,63,58]:List Int)++(R++ [41]):=⟨_,rfl⟩
   rw[<-hQ]at hs⊢
   have q0:g7 Q 0=40:=by rw[hQ];rfl
   have q1:g7 Q 1=63:=by rw[hQ];rfl
   have q2:g7 Q 2=58:=by rw[hQ];rfl
   have ql:Q.length=R.length+4:=by rw[hQ];simp
   have qe:g7 Q (R.length+3)=41:=by
    rw[hQ]
    unfold g7
    rw[List.getElem?_append_right (by simp)]
    simp
   have hb0:o8 Q 0=none:=by
    unfold o8
    rw[q0,if_neg (by decide),if_neg (by decide),if_neg (by decide),if_neg (by decide)]
   have hpc:C7 Q b8 (some (B7 Q b8 31)) ⟨0,x7,[⟨#[]⟩]⟩=(match D8 Q (B7 Q b8 31) 0 ⟨3,x7,[⟨#[]⟩]⟩ x7 with
    | .error e=>.error e
    | .ok (x,s1)=>match Z7 Q x s1 with
      | .error e=>.error e
      | .ok (y,s2)=>.ok (some y,s2)):=by
    unfold C7
    rw[hb0]
    simp only
    unfold F9 Bt p7
    simp only[Nat.zero_add]
    rw[q0,if_pos rfl,if_pos q1,q2,if_neg (by decide),if_pos rfl]
    cases D8 Q (B7 Q b8 31) 0 ⟨3,x7,[⟨#[]⟩]⟩ x7 with
    |error e=>rfl
    |ok p=>rfl
   rcases hc with g|⟨j,g⟩
   ·left
    rw[g]at hs
    refine Nf (f':=x7) (by rw[q0];rfl) ?_
    rw[hpc]
    unfold D8
    simp only
    rw[hs]
    have e2:s1.k+3=R.length+3:=by rw[hk]
    simp only[FQ,St.sh,List.length_cons,List.length_nil,Nat.zero_add,Nat.reduceAdd]
    rw[e2,if_pos qe]
    simp only
    unfold Z7 C8
    have hbe:o8 Q (R.length+3+1)=none:=by
     have:g7 Q (R.length+3+1)= -1:=Bi (by omega)
     unfold o8
     rw[this,if_neg (by decide),if_neg (by decide),if_neg (by decide),if_neg (by decide)]
    simp only
    rw[hbe,ql]
   ·right
    rw[g]at hs
    refine⟨j+3,TM (by rw[q0];rfl) ?_⟩
    rw[hpc]
    unfold D8
    simp only
    rw[hs]
    rfl
  ·rw[if_neg he]at h
   cases h
theorem Jt (pre b:ByteArray)(l:List Int)(hl:l.length=pre.size)(h:∀j (hj:j<l.length),(l5 pre j:Int)=l[j]):Lays (pre++b) 0 l:=fun j hj=>by
 have:=Hd ⟨#[]⟩ pre b j (by omega)
 have e:(⟨#[]⟩:ByteArray)++pre++b=pre++b:=by
  apply ByteArray.ext
  simp[ByteArray.data_append]
 rw[e]at this
 have h1:=this.1
 rw[show(⟨#[]⟩:ByteArray).size=0 from rfl]at h1
 refine⟨h1,?_⟩
 have h2:=this.2
 rw[show(⟨#[]⟩:ByteArray).size+j=0+j from rfl]at h2
 rw[h2]
 exact h j hj
theorem QT (pre suf:ByteArray)(l:List Int)(hl:l.length=suf.size)(h:∀j (hj:j<l.length),(l5 suf j:Int)=l[j]):Lays (pre++suf) pre.size l:=fun j hj=>by
 have:=Hd pre suf ⟨#[]⟩ j (by omega)
 have e:pre++suf++(⟨#[]⟩:ByteArray)=pre++suf:=by
  apply ByteArray.ext
  simp[ByteArray.data_append]
 rw[e]at this
 exact⟨this.1,by rw[this.2];exact h j hj⟩
theorem Fj {s:ByteArray}{f:Fl}{R P:List Int}(hs:s.size<=1024)(h:F8 s 1 true s.size (bg s 1).2 [] [] 0=(none,R,P,0)):I0 s f=match S9 R b8 f with
 | .ok r=>.ok r
 | .error (c,j)=>.error ((c:Nat),g7 (P++ [(s.size:Int)]) j):=by
 unfold I0
 rw[if_neg (by omega),h]
 simp only
 rcases S9 R b8 f with⟨c,j⟩|r
 ·rfl
 ·rfl
theorem Sy {s:ByteArray}(h1:s.size<=1000)(hb:E5 s (mk 1)=false){x:Nd}{ns:List ByteArray}(h:I0 s x7=.ok (x,ns)):
 I0 ((⟨#[40,63,58]⟩:ByteArray)++s++⟨#[41]⟩) x7=.ok (x,ns)∨∃j,I0 ((⟨#[40,63,58]⟩:ByteArray)++s++⟨#[41]⟩) x7=.error (21,j):=by
 rcases FI s hb with⟨R,P,hT,hd,hR⟩|⟨R,P,e,hT,he,hbad,hd⟩
 ·rw[Fj (by omega) hd]at h
  have hp:S9 R b8 x7=.ok (x,ns):=by
   cases hq:S9 R b8 x7 with
   |error e=>rw[hq]at h;cases h
   |ok r=>rw[hq]at h;cases h;rfl
  obtain⟨S,hS⟩:∃S,S=(⟨#[40,63,58]⟩:ByteArray)++s++⟨#[41]⟩:=⟨_,rfl⟩
  have hsz:S.size=s.size+4:=by
   rw[hS,ByteArray.size_append,ByteArray.size_append]
   show 3+s.size+1=_
   omega
  have hA:(⟨#[40,63,58]⟩:ByteArray)++s++⟨#[41]⟩=⟨#[40,63,58]⟩++(s++⟨#[41]⟩):=by
   apply ByteArray.ext
   simp[ByteArray.data_append]
  have L1:Lays S 0 [40,63,58]:=by
   rw[hS,hA]
   exact Jt _ _ _ rfl (fun j hj=>by
    rcases(show j=0∨j=1∨j=2 by have:j<3:=hj;omega)with rfl|rfl|rfl<;>rfl)
  have L2:Lays S (3+s.size) [41]:=by
   have:=QT ((⟨#[40,63,58]⟩:ByteArray)++s) ⟨#[41]⟩ [41] rfl (fun j hj=>by
    obtain rfl:j=0:=by have:j<1:=hj;omega
    rfl)
   rw[ByteArray.size_append,<-hS]at this
   exact this
  have hM:=Dd (b:=s) (s:=S) (n:=3) (fun j hj=>by rw[hS];exact Hd ⟨#[40,63,58]⟩ s ⟨#[41]⟩ j hj) R P 0 s.size hT
  have hSeg:W2 S 0 S.size ([40,63,58]++(R++ [41])) (Aq 0 3++(P.map (fun p=>p+((3:Nat):Int))++Aq (3+s.size) 1)):=by
   refine Da S [40,63,58] (Aq 0 3) 0 3 S.size _ _ (Ez S [40,63,58] 0 (by decide) L1) ?_
   refine Da S R _ 3 (3+s.size) S.size _ _ hM ?_
   have:=Ez S [41] (3+s.size) (by decide) L2
   rw[hsz,show s.size+4=3+s.size+ [(41:Int)].length from by simp;omega]
   exact this
  rw[<-hS,Nl x7 (Nb L1 (by decide)) (by omega) hSeg]
  rcases Sw hR hp with g|⟨j,g⟩
  ·rw[g]
   exact .inl rfl
  ·rw[g]
   exact .inr ⟨_,rfl⟩
 ·exfalso
  unfold I0 at h
  rw[if_neg (by omega),hd]at h
  cases h
theorem GJ {w:World}{r:Except (Int×Int) (Nd×List ByteArray)}{e:Ending}{w':World}(h:Iw w r e w'):∃(c:j4) (a:Option Addr) (n m:Nat) (f0 f1:Int),e=.returned (.tuple #[.agg #[.int .i64 c.kind,.slice c.sa c.sn c.sc,.bool c.fold,.int .i64 c.min,.int .i64 c.max,.bool c.lazy,.int .i64 c.cap,.string c.name,.slice c.ka c.kn c.kc,.slice a n m],.agg #[.int .i64 f0,.int .i64 f1]])/\b7 (fun _=>False) w w'/\
 ((r=.error (f0,f1)/\n=0)∨∃x ns,r=.ok (x,ns)/\f0=0/\f1=0/\n=ns.length/\TN w' (fun g=>w.heap.size<=g/\g<w'.heap.size) c x):=by
 match r,h with
 | .error (c,i),h=>exact⟨j4.zero,none,0,0,c,i,h.1,h.2,.inl ⟨rfl,rfl⟩⟩
 | .ok (x,ns),⟨c,a,n,m,h1,h2,h3,h4,h5⟩=>
   refine⟨c,a,n,m,0,0,h1,h5,.inr ⟨x,ns,rfl,rfl,rfl,?_,h2⟩⟩
   obtain⟨_,_,hv⟩:=e9 h3
   cases hv
   rfl
theorem GH {w:World}{r:Except (Int×Int) (Nd×List ByteArray)}{e:Ending}{w':World}(h:EF w r e w'):∃(aN:Option Addr) (nN cN:Nat) (p:Int) (an:Option Addr) (nn cn:Nat) (c j:Int),e=.returned (.agg #[.slice aN nN cN,.int .i64 p,.slice an nn cn,.int .i64 c,.int .i64 j])/\b7 (fun _=>False) w w'/\
 ((r=.error (c,j)/\nn=0)∨∃x ns ds q,r=.ok (x,ns)/\c=0/\j=0/\p=((q:Nat):Int)/\nn=ns.length/\NL w' (.slice aN nN cN) ds/\DW w' (fun g=>w.heap.size<=g/\g<w'.heap.size) ds q x):=by
 match r,h with
 | .error (c,j),h=>exact⟨none,0,0,0,none,0,0,c,j,h.1,h.2,.inl ⟨rfl,rfl⟩⟩
 | .ok (x,ns),⟨aN,nN,cN,p,an,cn,ds,h1,h2,h3,h4,h5,h6,h7,h8⟩=>exact⟨aN,nN,cN,(p:Nat),an,ns.length,cn,0,0,h1,h8,.inr ⟨x,ns,ds,p,rfl,rfl,rfl,rfl,rfl,h2,h4⟩⟩
theorem Ew (s:ByteArray):E5 s (mk 1)=(decide (3<=s.size)&&((s.extract 0 3).toList==[239,187,191])):=by
 have e:(mk 1).toList=[239,187,191]:=by rw[Lib.toList_data];rfl
 unfold E5
 rw[e]
 rfl
theorem FV (s:ByteArray)(hz:s.size<=140737488351232)(w:World)(ht:J1 w)(hx:Sx w)(h7:7<=w.heap.size):
 Calls Tryz.prog 4 #[.string s] w fun e w'=>e=.returned (.bool true)/\b7 (fun _=>False) w w':=by
 have KS:=b6 (Bk w ht hx h7)
 obtain⟨S,hS⟩:∃S,S=(⟨#[40,63,58]⟩:ByteArray)++s++⟨#[41]⟩:=⟨_,rfl⟩
 have KP:=b6 (fun(wq:World) (t:b7 (fun _=>False) w wq)=>AO S x7 wq (ht.new t) (hx.new t) (Nat.le_trans h7 t.size))
 have KD:=b6 (fun(wq:World)=>Bd s x7 wq)
 have HB:=b6 (fun(h1:s.size<=1000) (hb:E5 s (mk 1)=false) x ns (h:I0 s x7=.ok (x,ns))=>show I0 S x7=.ok (x,ns)∨∃j,I0 S x7=.error (21,j)from by rw[hS];exact Sy h1 hb h)
 have HE:=b6 (fun c j (h:I0 s x7=.error (c,j))=>Hz h)
 have HL:=b6 (fun x ns (h:I0 s x7=.ok (x,ns))=>Nk h)
 clear ht hx h7
 unfold x7 at KP KD HB HE HL
 simp only at KP KD
 go_enter Tryz.func4,Tryz.ntmps4
 go_wp2_with fail
 refine KS.out.mono ?_
 rintro e w1 ⟨rfl,t1⟩
 have T1:=b6 t1
 clear t1 KS
 go_wp2_with fail
 refine(KD.out _).mono ?_
 intro e w2 hh
 obtain⟨aN,nN,cN,pr,ad,nd,cd,dc,dj,rfl,t2,hD⟩:=GH hh
 have T2:=b6 (T1.out.trans t2 iE)
 have HD2:=b6 hD
 clear hh t2 hD T1 KD
 go_upto_region 4 with fail
 have t3:=(tZ w2).alloc (.cells #[.slice aN nN cN,.int .i64 pr,.slice ad nd cd,.int .i64 dc,.int .i64 dj] 41)
 have D3:=b6 (e8 w2 #[.slice aN nN cN,.int .i64 pr,.slice ad nd cd,.int .i64 dc,.int .i64 dj] 41)
 have X3:=b6 t3
 generalize w2.alloc (.cells #[.slice aN nN cN,.int .i64 pr,.slice ad nd cd,.int .i64 dc,.int .i64 dj] 41)=w3 at*
 obtain⟨d,hde⟩:∃d,d=w2.heap.size:=⟨_,rfl⟩
 rw[<-hde]at D3⊢
 have T3:=b6 (T2.out.trans t3 iE)
 clear t3 T2 hde
 have hsz:S.size<=140737488351236:=by
  rw[hS,ByteArray.size_append,ByteArray.size_append]
  show 3+s.size+1<=_
  omega
 have HSS:=b6 hS
 have KP2:=b6 (show Calls Tryz.prog 12 #[.string ((⟨#[40,63,58]⟩:ByteArray)++s++⟨#[41]⟩),.agg #[.bool false,.bool false,.bool false,.bool false]] w3 _ from by rw[<-hS];exact KP.out w3 T3.out)
 clear KP hS
 go_wp2_with fail
 refine KP2.out.mono ?_
 intro e w4 hh
 obtain⟨⟨ck,sa,sn,sc,fo,mi,ma,la,ca,nm,ka,kn,kc⟩,an,n,m,f0,f1,rfl,t4,hP⟩:=GJ hh
 simp only
 have T4:=b6 (T3.out.trans t4 iE)
 have X4:=b6 (X3.out.trans t4 iE)
 have D4:=b6 ((t4.block d (lt_of_block D3.out) id).trans D3.out)
 have HP4:=b6 hP
 clear hh t4 hP T3 X3 D3 KP2
 go_upto_region 5 with fail
 have HK:=Jp w4 #[.int .i64 ck,.slice sa sn sc,.bool fo,.int .i64 mi,.int .i64 ma,.bool la,.int .i64 ca,.string nm,.slice ka kn kc,.slice an n m] #[.int .i64 f0,.int .i64 f1]
 generalize (w4.alloc (.cells #[.int .i64 ck,.slice sa sn sc,.bool fo,.int .i64 mi,.int .i64 ma,.bool la,.int .i64 ca,.string nm,.slice ka kn kc,.slice an n m] 31)).alloc (.cells #[.int .i64 f0,.int .i64 f1] 34)=w5 at*
 obtain⟨hp5,hq5,t5⟩:=HK
 obtain⟨p,hpe⟩:∃p,p=w4.heap.size:=⟨_,rfl⟩
 rw[<-hpe]at hp5 hq5⊢
 obtain⟨q,hqe⟩:∃q,q=p+1:=⟨_,rfl⟩
 rw[<-hqe]at hq5⊢
 have T5:=b6 (T4.out.trans t5 iE)
 have X5:=b6 (X4.out.trans t5 iE)
 have Y5:=b6 t5
 have D5:=b6 ((t5.block d (lt_of_block D4.out) id).trans D4.out)
 have P5:=b6 hp5
 have Q5:=b6 hq5
 clear hp5 hq5 hpe hqe t5 T4 X4 D4
 have d3:w5.cell? ⟨d,3,none⟩=some (.int .i64 dc):=b9 D5.out 3 _ rfl
 by_cases hc:dc=0
 ·subst hc
  by_cases hs1:s.size<=1000
  ·have hs1I:¬(s.size:Int)>1000:=by omega
   by_cases hmk:E5 s (mk 1)=true
   ·rw[Ew,Bool.and_eq_true,decide_eq_true_eq]at hmk
    have hs2I:(s.size:Int)>2:=by omega
    have hs3:3<=s.size:=hmk.1
    have hs3I:(3:Int)<=(s.size:Int):=by omega
    have hmk2:=hmk.2
    clear hmk
    go_wp2
    go_ret
    exact⟨rfl,T5.out⟩
   ·have hmf:E5 s (mk 1)=false:=by simpa using hmk
    have HMF:=b6 hmf
    obtain⟨x,ns,ds,q2,hr,_,hdj,hpr,hnd,hnl,hdw⟩:∃x ns ds q2,I0 s ⟨false,false,false,false⟩=.ok (x,ns)/\(0:Int)=0/\dj=0/\pr=((q2:Nat):Int)/\nd=ns.length/\NL w2 (.slice aN nN cN) ds/\DW w2 _ ds q2 x:=by
     rcases HD2.out with⟨hr,_⟩|hr
     ·exact absurd rfl (HE.out _ _ hr)
     ·exact hr
    have HLN:=b6 (HL.out x ns hr)
    have HBB:=b6 (HB.out hs1 hmf x ns hr)
    have HNL:=b6 (g9 hnl X5.out iE)
    have HDW:=b6 (hdw.new X5.out)
    have HND:=b6 hnd
    subst hpr
    subst hdj
    clear hr hnd hnl hdw HB HE HL hmf
    go_cut [36] (fun v wd=>v=.bool false/\wd=w5)
    case first=>
     rw[Ew]at hmk
     by_cases hs3:3<=s.size
     ·rw[decide_eq_true hs3,Bool.true_and]at hmk
      have hs2I:(s.size:Int)>2:=by omega
      have hs3I:(3:Int)<=(s.size:Int):=by omega
      have hmk2:((s.extract 0 3).toList==[239,187,191])=false:=by simpa using hmk
      clear hmk
      go_wp2
      go_meet
      case rel=>exact⟨rfl,rfl⟩
     ·have hs2I:¬(s.size:Int)>2:=by omega
      clear hmk
      go_wp2
      go_meet
      case rel=>exact⟨rfl,rfl⟩
    obtain⟨rfl,rfl⟩:=hcut
    clear hmk d3
    have q0:wc.cell? ⟨q,0,none⟩=some (.int .i64 f0):=b9 Q5.out 0 _ rfl
    have p9:wc.cell? ⟨p,9,none⟩=some (.slice an n m):=b9 P5.out 9 _ rfl
    rcases HP4.out with⟨hr,hn⟩|⟨x2,ns2,hr,hf0,hf1,hn,htn⟩
    ·obtain⟨rfl,_⟩:f0=21/\True:=by
      rcases HBB.out with g|⟨j,g⟩
      ·rw[g]at hr
       cases hr
      ·rw[g]at hr
       cases hr
       exact⟨rfl,trivial⟩
     subst hn
     go_wp2
     go_ret
     exact⟨rfl,T5.out⟩
    ·obtain⟨rfl,rfl⟩:x2=x/\ns2=ns:=by
      rcases HBB.out with g|⟨j,g⟩
      ·rw[g]at hr
       cases hr
       exact⟨rfl,rfl⟩
      ·rw[g]at hr
       cases hr
     subst hf0
     subst hf1
     obtain rfl:n=nd:=by rw[hn,HND.out]
     have q1:wc.cell? ⟨q,1,none⟩=some (.int .i64 0):=b9 Q5.out 1 _ rfl
     have c0:wc.cell? ⟨p,0,none⟩=some (.int .i64 ck):=b9 P5.out 0 _ rfl
     have c1:wc.cell? ⟨p,1,none⟩=some (.slice sa sn sc):=b9 P5.out 1 _ rfl
     have c2:wc.cell? ⟨p,2,none⟩=some (.bool fo):=b9 P5.out 2 _ rfl
     have c3:wc.cell? ⟨p,3,none⟩=some (.int .i64 mi):=b9 P5.out 3 _ rfl
     have c4:wc.cell? ⟨p,4,none⟩=some (.int .i64 ma):=b9 P5.out 4 _ rfl
     have c5:wc.cell? ⟨p,5,none⟩=some (.bool la):=b9 P5.out 5 _ rfl
     have c6:wc.cell? ⟨p,6,none⟩=some (.int .i64 ca):=b9 P5.out 6 _ rfl
     have c7:wc.cell? ⟨p,7,none⟩=some (.string nm):=b9 P5.out 7 _ rfl
     have c8:wc.cell? ⟨p,8,none⟩=some (.slice ka kn kc):=b9 P5.out 8 _ rfl
     have d0:wc.cell? ⟨d,0,none⟩=some (.slice aN nN cN):=b9 D5.out 0 _ rfl
     have d1:wc.cell? ⟨d,1,none⟩=some (.int .i64 (q2:Nat)):=b9 D5.out 1 _ rfl
     have d2:wc.cell? ⟨d,2,none⟩=some (.slice ad n cd):=b9 D5.out 2 _ rfl
     have d3:wc.cell? ⟨d,3,none⟩=some (.int .i64 0):=b9 D5.out 3 _ rfl
     have d4:wc.cell? ⟨d,4,none⟩=some (.int .i64 0):=b9 D5.out 4 _ rfl
     have KA:=b6 (AX _ x2 (Nat.le_refl _) _ _ _ ds q2 aN nN cN (q2:Nat) ad n cd 0 0 wc (htn.new Y5.out) HDW.out HNL.out)
     unfold j4.arr at KA
     have hnb:n<=4194304:=by rw[hn];have:=HLN.out;omega
     clear htn hn hr
     go_wp2_with fail
     refine KA.out.mono ?_
     rintro e w9 ⟨rfl,t9⟩
     have T9:=b6 (T5.out.trans t9 iE)
     clear t9 KA
     go_wp2
     go_ret
     exact⟨rfl,T9.out⟩
  ·have hs1I:(s.size:Int)>1000:=by omega
   go_wp2
   go_ret
   exact⟨rfl,T5.out⟩
 ·have hcn:(dc !=0)=true:=by simpa using hc
  go_wp2
  go_ret
  exact⟨rfl,T5.out⟩
end Go.Proofs.YtdhhcefmmojcmaaGreatDoor
