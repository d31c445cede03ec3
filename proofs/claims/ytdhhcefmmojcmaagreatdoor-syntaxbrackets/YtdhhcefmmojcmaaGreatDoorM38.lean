/- Texts of this proof, one behind the other. -/
import Derived.Test.YtdhhcefmmojcmaaGreatDoorM37
import Derived.Test.YtdhhcefmmojcmaaGreatDoorM6
set_option maxRecDepth 100000
set_option maxHeartbeats 0
set_option linter.unusedVariables false
namespace Go.Proofs.YtdhhcefmmojcmaaGreatDoor
open Go.RowKit Go.Lib
theorem VJ {R:List Int}{k:Nat}{f:Fl}{ns:List ByteArray}(n1:g7 R (k+1)≠65)(n2:g7 R (k+1)≠122)(n3:g7 R (k+1)≠98)(n4:g7 R (k+1)≠66):u4 R b8 ⟨k,f,ns⟩=WH ⟨k,f,ns⟩ (L3 R b8 k (k+1)):=by
 unfold u4 J7
 simp only
 rw[if_neg n1,if_neg n2,if_neg n3,if_neg n4]
 rfl
theorem Lm (b:Nat)(X:Px)(k:Nat)(f:Fl)(op:Nat)(vN vn:Value)(ds:List Dc)(ns:List ByteArray)(sub:Option A8)(w:World)(h:QS w b X k f op vN vn 0 0 ds ns)(hX:X.Good)(hk:k<X.R.length)(hds:ds.length<=4194304)(hop:op<=32)(h40:g7 X.R k≠40):
 Calls Tryz.prog 76 #[.pointer (some ⟨b,0,none⟩)] w fun e w'=>Bl b X k vN vn op w ds (F9 X.R b8 sub ⟨k,f,ns⟩) e w':=by
 have hR:=hX.lenR
 obtain⟨fi,fm,fs,fu⟩:=f
 obtain⟨y,hc⟩:∃y,g7 X.R k=y:=⟨_,rfl⟩
 unfold F9 Bt
 simp only
 rw[hc,if_neg (by rw[<-hc];exact h40)]
 by_cases c91:y=91
 ·rw[if_pos c91]
  exact IT b X k fi fm fs fu op vN vn ds ns w h hR hk hds (hc.trans c91) hX hop
 rw[if_neg c91]
 by_cases c92:y=92
 ·rw[if_pos c92]
  have hc2:=hc.trans c92
  by_cases n1:g7 X.R (k+1)=65
  ·have e:u4 X.R b8 ⟨k,⟨fi,fm,fs,fu⟩,ns⟩=.ok (some (.border 2),⟨k+2,⟨fi,fm,fs,fu⟩,ns⟩):=by
    unfold u4 J7
    simp only
    rw[if_pos n1]
   rw[e]
   exact Qm b X k fi fm fs fu op vN vn ds ns w h hR hk hds hc2 n1
  by_cases n2:g7 X.R (k+1)=122
  ·have e:u4 X.R b8 ⟨k,⟨fi,fm,fs,fu⟩,ns⟩=.ok (some (.border 3),⟨k+2,⟨fi,fm,fs,fu⟩,ns⟩):=by
    unfold u4 J7
    simp only
    rw[if_neg n1,if_pos n2]
   rw[e]
   exact Qp b X k fi fm fs fu op vN vn ds ns w h hR hk hds hc2 n2
  by_cases n3:g7 X.R (k+1)=98
  ·have e:u4 X.R b8 ⟨k,⟨fi,fm,fs,fu⟩,ns⟩=.ok (some (.border 6),⟨k+2,⟨fi,fm,fs,fu⟩,ns⟩):=by
    unfold u4 J7
    simp only
    rw[if_neg n1,if_neg n2,if_pos n3]
   rw[e]
   exact Qo b X k fi fm fs fu op vN vn ds ns w h hR hk hds hc2 n3
  by_cases n4:g7 X.R (k+1)=66
  ·have e:u4 X.R b8 ⟨k,⟨fi,fm,fs,fu⟩,ns⟩=.ok (some (.border 7),⟨k+2,⟨fi,fm,fs,fu⟩,ns⟩):=by
    unfold u4 J7
    simp only
    rw[if_neg n1,if_neg n2,if_neg n3,if_pos n4]
   rw[e]
   exact Qn b X k fi fm fs fu op vN vn ds ns w h hR hk hds hc2 n4
  rw[VJ n1 n2 n3 n4]
  exact NX b X k fi fm fs fu op vN vn ds ns w h hR hk hds hc2 hX hop n1 n2 n3 n4
 rw[if_neg c92]
 by_cases c46:y=46
 ·rw[if_pos c46]
  cases fs with
  |true=>exact NR b X k fi fm true fu op vN vn ds ns w h hR hk hds (hc.trans c46) rfl
  |false=>exact NU b X k fi fm false fu op vN vn ds ns w h hR hk hds (hc.trans c46) rfl
 rw[if_neg c46]
 by_cases c94:y=94
 ·rw[if_pos c94]
  cases fm with
  |true=>exact Qj b X k fi true fs fu op vN vn ds ns w h hR hk hds (hc.trans c94) rfl
  |false=>exact Qi b X k fi false fs fu op vN vn ds ns w h hR hk hds (hc.trans c94) rfl
 rw[if_neg c94]
 by_cases c36:y=36
 ·rw[if_pos c36]
  cases fm with
  |true=>exact Ql b X k fi true fs fu op vN vn ds ns w h hR hk hds (hc.trans c36) rfl
  |false=>exact Qk b X k fi false fs fu op vN vn ds ns w h hR hk hds (hc.trans c36) rfl
 rw[if_neg c36]
 exact Ln b X k fi fm fs fu op vN vn ds ns w h hR hk hds y hc (beq_eq_false_iff_ne.2 (fun e=>h40 (hc.trans e))) (beq_eq_false_iff_ne.2 c46) (beq_eq_false_iff_ne.2 c94) (beq_eq_false_iff_ne.2 c36) (beq_eq_false_iff_ne.2 c91) (beq_eq_false_iff_ne.2 c92)
def Fl.left (f:Fl):Nat:=(if f.i then 0 else 1)+(if f.m then 0 else 1)+(if f.s then 0 else 1)+(if f.u then 0 else 1)
theorem Bv {R:List Int}:∀(n m k:Nat) (f:Fl),f.left<n->f.left<m->C3 R n k f=C3 R m k f
 |0,m,k,f,h,_=>by omega
 |n+1,0,k,f,_,h=>by omega
 |n+1,m+1,k,f,h1,h2=>by
  obtain⟨fi,fm,fs,fu⟩:=f
  unfold C3
  simp only
  by_cases c1:g7 R k=105/\fi=false
  ·rw[if_pos c1,if_pos c1]
   obtain⟨_,rfl⟩:=c1
   exact Bv n m (k+1) _ (by simp[Fl.left]at h1⊢;omega) (by simp[Fl.left]at h2⊢;omega)
  rw[if_neg c1,if_neg c1]
  by_cases c2:g7 R k=109/\fm=false
  ·rw[if_pos c2,if_pos c2]
   obtain⟨_,rfl⟩:=c2
   exact Bv n m (k+1) _ (by simp[Fl.left]at h1⊢;omega) (by simp[Fl.left]at h2⊢;omega)
  rw[if_neg c2,if_neg c2]
  by_cases c3:g7 R k=115/\fs=false
  ·rw[if_pos c3,if_pos c3]
   obtain⟨_,rfl⟩:=c3
   exact Bv n m (k+1) _ (by simp[Fl.left]at h1⊢;omega) (by simp[Fl.left]at h2⊢;omega)
  rw[if_neg c3,if_neg c3]
  by_cases c4:g7 R k=85/\fu=false
  ·rw[if_pos c4,if_pos c4]
   obtain⟨_,rfl⟩:=c4
   exact Bv n m (k+1) _ (by simp[Fl.left]at h1⊢;omega) (by simp[Fl.left]at h2⊢;omega)
  rw[if_neg c4,if_neg c4]
theorem Ts (f:Fl):f.left<=4:=by
 unfold Fl.left
 repeat' split
 all_goals omega
def Fl.put (f:Fl)(c:Int):Option Fl:=
 if c=105/\f.i=false then Option.some {f with i:=true}
 else if c=109/\f.m=false then Option.some {f with m:=true}
 else if c=115/\f.s=false then Option.some {f with s:=true}
 else if c=85/\f.u=false then Option.some {f with u:=true}
 else Option.none
theorem Rz {f g:Fl}{c:Int}(h:f.put c=some g):g.left<f.left:=by
 obtain⟨fi,fm,fs,fu⟩:=f
 unfold Fl.put at h
 simp only at h
 repeat' split at h
 all_goals first
  |cases h;done
  |(rename_i c1;obtain⟨_,rfl⟩:=c1;cases h;simp[Fl.left];try omega)
theorem RE {f g:Fl}{c:Int}(h:f.put c=some g):g.some=true:=by
 unfold Fl.put at h
 repeat' split at h
 all_goals first
  |cases h;done
  |(cases h;simp[Fl.some])
theorem MU {R:List Int}{k:Nat}{f g:Fl}(h:f.put (g7 R k)=some g):C3 R 5 k f=C3 R 5 (k+1) g:=by
 have hl:=Rz h
 have h4:=Ts f
 rw[<-Bv 4 5 (k+1) g (by omega) (by omega)]
 unfold Fl.put at h
 rw[C3]
 repeat' split at h
 all_goals first
  |(rename_i c1;rw[if_pos c1];cases h;rfl)
  |(rename_i c0 c1;rw[if_neg c0,if_pos c1];cases h;rfl)
  |(rename_i c9 c0 c1;rw[if_neg c9,if_neg c0,if_pos c1];cases h;rfl)
  |(rename_i c8 c9 c0 c1;rw[if_neg c8,if_neg c9,if_neg c0,if_pos c1];cases h;rfl)
  |cases h
theorem CT {R:List Int}{k n:Nat}{f:Fl}(h:f.put (g7 R k)=none):C3 R n k f=(f,k):=by
 cases n with
 |zero=>rfl
 |succ n=>
  unfold Fl.put at h
  rw[C3]
  repeat' split at h
  all_goals first
   |cases h;done
   |(rename_i c8 c9 c0 c1;rw[if_neg c8,if_neg c9,if_neg c0,if_neg c1])
theorem OG {R:List Int}:∀(n k:Nat) (f:Fl),(C3 R n k f).1.some=false->C3 R n k f=(f,k)
 |0,k,f,_=>rfl
 |n+1,k,f,h=>by
  have mono:∀(n k:Nat) (f:Fl),f.some=true->(C3 R n k f).1.some=true:=by
   intro n
   induction n with
   |zero=>exact fun k f h=>h
   |succ n ih=>
    intro k f h
    rw[C3]
    repeat' split
    all_goals first|exact h|exact ih _ _ (by simp[Fl.some])
  cases hp:f.put (g7 R k)with
  |none=>exact CT hp
  |some g=>
   exfalso
   have:C3 R (n+1) k f=C3 R n (k+1) g:=by
    unfold Fl.put at hp
    rw[C3]
    repeat' split at hp
    all_goals first
     |(rename_i c1;rw[if_pos c1];cases hp;rfl)
     |(rename_i c0 c1;rw[if_neg c0,if_pos c1];cases hp;rfl)
     |(rename_i c9 c0 c1;rw[if_neg c9,if_neg c0,if_pos c1];cases hp;rfl)
     |(rename_i c8 c9 c0 c1;rw[if_neg c8,if_neg c9,if_neg c0,if_pos c1];cases hp;rfl)
     |cases hp
   rw[this,mono n (k+1) g (RE hp)]at h
   cases h
def AI (R:List Int)(F:Fl)(minus:Bool)(a b:Fl)(k:Nat):Option (Bool×Fl×Nat):=
 if g7 R k=58/\((a.some||b.some)=true∨minus=false)then some (true,F.turn a b,k+1)
 else if g7 R k=41/\(a.some||b.some)=true then some (false,F.turn a b,k+1)else none
def Ck (R:List Int)(F a b:Fl)(k:Nat):Option (Bool×Fl×Nat):=AI R F true a (C3 R 5 k b).1 (C3 R 5 k b).2
def AG (R:List Int)(F a:Fl)(k:Nat):Option (Bool×Fl×Nat):=
 if g7 R (C3 R 5 k a).2=45 then Ck R F (C3 R 5 k a).1 x7 ((C3 R 5 k a).2+1)else AI R F false (C3 R 5 k a).1 x7 (C3 R 5 k a).2
theorem CM {R:List Int}{F a g:Fl}{k:Nat}(h:a.put (g7 R k)=some g):AG R F a k=AG R F g (k+1):=by
 unfold AG
 rw[MU h]
theorem CN {R:List Int}{F a b g:Fl}{k:Nat}(h:b.put (g7 R k)=some g):Ck R F a b k=Ck R F a g (k+1):=by
 unfold Ck
 rw[MU h]
theorem Fk {f:Fl}{c:Int}(h1:c≠105)(h2:c≠109)(h3:c≠115)(h4:c≠85):f.put c=none:=by
 unfold Fl.put
 rw[if_neg (fun e=>h1 e.1),if_neg (fun e=>h2 e.1),if_neg (fun e=>h3 e.1),if_neg (fun e=>h4 e.1)]
theorem LG {R:List Int}{F a:Fl}{k:Nat}(h:g7 R k=45):AG R F a k=Ck R F a x7 (k+1):=by
 unfold AG
 rw[CT (Fk (by rw[h];decide) (by rw[h];decide) (by rw[h];decide) (by rw[h];decide))]
 simp only
 rw[if_pos h]
theorem AH {R:List Int}{F a:Fl}{k:Nat}(h:a.put (g7 R k)=none)(h45:g7 R k≠45):AG R F a k=AI R F false a x7 k:=by
 unfold AG
 rw[CT h]
 simp only
 rw[if_neg h45]
theorem AJ {R:List Int}{F a b:Fl}{k:Nat}(h:b.put (g7 R k)=none):Ck R F a b k=AI R F true a b k:=by
 unfold Ck
 rw[CT h]
theorem Py (F:Fl):F.turn x7 x7=F:=by
 obtain⟨a,b,c,d⟩:=F
 simp[Fl.turn,x7]
def QI (R:List Int)(alt:A8)(st:St):Option (Bool×Fl×Nat)->PR (Option Nd×St)
 |some (true,g,k1)=>(match D8 R alt st.k ⟨k1,st.f,st.ns⟩ g with
  | .error e=>.error e
  | .ok (x,s1)=>.ok (some x,s1))
 |some (false,g,k1)=>.ok (none,⟨k1,g,st.ns⟩)
 |none=>.error (20,st.k)
theorem LE (R:List Int)(alt:A8)(st:St)(h63:g7 R (st.k+1)=63)(h80:g7 R (st.k+2)≠80):p7 R (some alt) st=QI R alt st (AG R st.f x7 (st.k+2)):=by
 obtain⟨k,F,ns⟩:=st
 unfold p7
 simp only at h63 h80⊢
 rw[if_pos h63,if_neg h80]
 by_cases h58:g7 R (k+2)=58
 ·rw[if_pos h58,AH (Fk (by rw[h58];decide) (by rw[h58];decide) (by rw[h58];decide) (by rw[h58];decide)) (by rw[h58];decide)]
  unfold AI
  rw[if_pos ⟨h58,.inr rfl⟩,Py]
  rfl
 ·rw[if_neg h58]
  unfold x9 AG
  simp only
  obtain⟨a,ha⟩:∃a,a=C3 R 5 (k+2) x7:=⟨_,rfl⟩
  rw[<-ha]
  by_cases h45:g7 R a.2=45
  ·rw[if_pos h45,if_pos h45]
   unfold Ck AI
   obtain⟨b,hb⟩:∃b,b=C3 R 5 (a.2+1) x7:=⟨_,rfl⟩
   rw[<-hb]
   simp only
   by_cases hs:(a.1.some||b.1.some)=true
   ·by_cases e58:g7 R b.2=58
    ·rw[if_pos ⟨hs,e58⟩,if_pos ⟨e58,.inl hs⟩]
     rfl
    ·rw[if_neg (show ¬(_/\g7 R b.2=58)from fun e=>e58 e.2),if_neg (show ¬(g7 R b.2=58/\_)from fun e=>e58 e.1)]
     by_cases e41:g7 R b.2=41
     ·rw[if_pos ⟨hs,e41⟩,if_pos ⟨e41,hs⟩]
      rfl
     ·rw[if_neg (show ¬(_/\g7 R b.2=41)from fun e=>e41 e.2),if_neg (show ¬(g7 R b.2=41/\_)from fun e=>e41 e.1)]
      rfl
   ·rw[if_neg (show ¬((a.1.some||b.1.some)=true/\g7 R b.2=58)from fun e=>hs e.1),if_neg (show ¬((a.1.some||b.1.some)=true/\g7 R b.2=41)from fun e=>hs e.1),if_neg (show ¬(g7 R b.2=58/\((a.1.some||b.1.some)=true∨true=false))from fun e=>by rcases e.2 with e|e;exact hs e;cases e),if_neg (show ¬(g7 R b.2=41/\_)from fun e=>hs e.2)]
    rfl
  ·rw[if_neg h45,if_neg h45]
   unfold AI
   simp only
   have z:(a.1.some||x7.some)=a.1.some:=by simp[Fl.some,x7]
   rw[z]
   by_cases hs:a.1.some=true
   ·by_cases e58:g7 R a.2=58
    ·rw[if_pos ⟨hs,e58⟩,if_pos ⟨e58,.inl hs⟩]
     rfl
    ·rw[if_neg (show ¬(_/\g7 R a.2=58)from fun e=>e58 e.2),if_neg (show ¬(g7 R a.2=58/\_)from fun e=>e58 e.1)]
     by_cases e41:g7 R a.2=41
     ·rw[if_pos ⟨hs,e41⟩,if_pos ⟨e41,hs⟩]
      rfl
     ·rw[if_neg (show ¬(_/\g7 R a.2=41)from fun e=>e41 e.2),if_neg (show ¬(g7 R a.2=41/\_)from fun e=>e41 e.1)]
      rfl
   ·have hst:=OG (R:=R) 5 (k+2) x7 (by rw[<-ha];simpa using hs)
    rw[hst]at ha
    subst ha
    rw[if_neg (show ¬(x7.some=true/\g7 R (k+2)=58)from fun e=>hs e.1),if_neg (show ¬(x7.some=true/\g7 R (k+2)=41)from fun e=>hs e.1),if_neg (show ¬(g7 R (k+2)=58/\(x7.some=true∨True))from fun e=>h58 e.1),if_neg (show ¬(g7 R (k+2)=41/\x7.some=true)from fun e=>hs e.2)]
    rfl
theorem Qv {R:List Int}{k:Nat}(h:Y3 (g7 R k)=true):o8 R k=none:=by
 have h2:g7 R k= -1∨g7 R k=124∨g7 R k=41:=by
  unfold Y3 at h
  simp only[Bool.or_eq_true,decide_eq_true_eq]at h
  omega
 unfold o8
 rw[if_neg (by omega),if_neg (by omega),if_neg (by omega),if_neg (by omega)]
theorem Ne {R:List Int}{k:Nat}(h:Y3 (g7 R k)=false):k<R.length:=by
 refine I6 (fun e=>?_)
 rw[e]at h
 cases h
def G8 (l:List Nd):Option Nd->List Nd
 |none=>l
 |some x=>l++ [x]
def Ii (R:List Int)(tab:List (ByteArray×List R2))(sub:Option A8):Nat->St->List Nd->Option Nd->PR (List Nd×St)
 |0,st,l,o=>.ok (G8 l o,st)
 |n+1,st,l,o=>if Y3 (g7 R st.k)=true then .ok (G8 l o,st)else match o8 R st.k with
  |some (a,b,k1)=>(match o with
   |none=>.error (23,st.k)
   |some x=>if a>64∨b>64∨(0<=b/\b<a)then .error (23,st.k)
    else if g7 R k1=63 then Ii R tab sub n {st with k:=k1+1} (l++ [.rep a b (!st.f.u) x]) none
    else Ii R tab sub n {st with k:=k1} (l++ [.rep a b st.f.u x]) none)
  |none=>match F9 R tab sub st with
   | .error e=>.error e
   | .ok (p,s1)=>Ii R tab sub n s1 (G8 l o) p
def VW (R:List Int)(tab:List (ByteArray×List R2))(sub:Option A8)(m:Nat)(st:St)(l:List Nd):Option Nd->PR (List Nd×St)
 |none=>I1 R tab sub m st l
 |some x=>match Z7 R x st with
  | .error e=>.error e
  | .ok (y,s2)=>I1 R tab sub m s2 (l++ [y])
theorem Ey {R:List Int}{tab:List (ByteArray×List R2)}{sub:Option A8}(H:∀f,sub=some f->Ah R f):∀(n m:Nat) (st:St) (l:List Nd) (o:Option Nd),st.k<=R.length->R.length+1<=st.k+n->R.length+1<=st.k+m->Ii R tab sub n st l o=VW R tab sub m st l o
 |0,m,st,l,o,hk,hn,hm=>by omega
 |n+1,0,st,l,o,hk,hn,hm=>by omega
 |n+1,m+1,st,l,o,hk,hn,hm=>by
  rw[Ii]
  by_cases he:Y3 (g7 R st.k)=true
  ·rw[if_pos he]
   cases o with
   |none=>
    show _=I1 R tab sub (m+1) st l
    rw[I1,if_pos he]
    rfl
   |some x=>
    unfold VW Z7 C8
    rw[Qv he]
    simp only
    rw[I1,if_pos he]
    rfl
  ·rw[if_neg he]
   have he':Y3 (g7 R st.k)=false:=by simpa using he
   have hlt:=Ne he'
   cases hb:o8 R st.k with
   |some p=>
    obtain⟨a,b,k1⟩:=p
    have hf:=BR hb
    simp only
    cases o with
    |none=>
     show _=I1 R tab sub (m+1) st l
     rw[I1,if_neg he]
     unfold C7
     rw[hb]
    |some x=>
     unfold VW Z7 C8
     rw[hb]
     simp only
     by_cases hw:a>64∨b>64∨(0<=b/\b<a)
     ·rw[if_pos hw,if_pos hw]
     ·rw[if_neg hw,if_neg hw]
      by_cases h63:g7 R k1=63
      ·rw[if_pos h63,if_pos h63]
       have:=j9 h63 (by decide)
       exact Ey H n (m+1) _ _ none (by show k1+1<=_;omega) (by show _<=k1+1+n;omega) (by show _<=k1+1+(m+1);omega)
      ·rw[if_neg h63,if_neg h63]
       exact Ey H n (m+1) _ _ none (by show k1<=_;omega) (by show _<=k1+n;omega) (by show _<=k1+(m+1);omega)
   |none=>
    simp only
    have hT:VW R tab sub (m+1) st l o=I1 R tab sub (m+1) st (G8 l o):=by
     cases o with
     |none=>rfl
     |some x=>
      unfold VW Z7 C8
      rw[hb]
      rfl
    rw[hT,I1,if_neg he]
    unfold C7
    rw[hb]
    simp only
    cases ha:F9 R tab sub st with
    |error e=>rfl
    |ok p=>
     obtain⟨p,s1⟩:=p
     have hf:=Y1 H hlt ha
     simp only
     rw[Ey H n m s1 (G8 l o) p hf.2 (by omega) (by omega)]
     cases p with
     |none=>rfl
     |some x=>
      unfold VW
      simp only
      cases Z7 R x s1 with
      |error e=>rfl
      |ok q=>rfl
theorem Fo {R:List Int}{tab:List (ByteArray×List R2)}{sub:Option A8}(H:∀f,sub=some f->Ah R f):∀(f:Nat) (st:St) (l m:List Nd) (s1:St),st.k<=R.length->R.length+1<=st.k+f->I1 R tab sub f st l=.ok (m,s1)->Y3 (g7 R s1.k)=true
 |0,st,l,m,s1,hk,hf,h=>by omega
 |f+1,st,l,m,s1,hk,hf,h=>by
  rw[I1]at h
  by_cases he:Y3 (g7 R st.k)=true
  ·rw[if_pos he]at h
   cases h
   exact he
  ·rw[if_neg he]at h
   have hlt:=Ne (by simpa using he)
   cases hp:C7 R tab sub st with
   |error e=>rw[hp]at h;cases h
   |ok p=>
    obtain⟨p,s2⟩:=p
    have hw:=P7 H hlt hp
    rw[hp]at h
    cases p with
    |none=>exact Fo H f s2 _ _ _ hw.2 (by omega) h
    |some x=>exact Fo H f s2 _ _ _ hw.2 (by omega) h
theorem IL {R:List Int}{tab:List (ByteArray×List R2)}{sub:Option A8}(H:∀f,sub=some f->Ah R f){st s1:St}{x:Nd}(hk:st.k<=R.length)(h:G9 R tab sub st=.ok (x,s1)):Y3 (g7 R s1.k)=true:=by
 unfold G9 at h
 cases hr:I1 R tab sub (R.length+1) st []with
 |error e=>rw[hr]at h;cases h
 |ok p=>
  obtain⟨l,s2⟩:=p
  rw[hr]at h
  cases h
  exact Fo H _ st _ _ _ hk (by omega) hr
def Bb {α:Type}(R:List Int)(op:Nat):PR (α×St)->PR (α×St)
 | .error e=>.error e
 | .ok (x,st)=>if op=0/\g7 R st.k=41 then .error (25,st.k)else .ok (x,st)
theorem Ax {α:Type}(R:List Int)(op:Nat)(x:α)(st:St):Bb R op (.ok (x,st))=if op=0/\g7 R st.k=41 then .error (25,st.k)else .ok (x,st):=rfl
theorem UM {α:Type}{R:List Int}{op:Nat}(h:op≠0)(r:PR (α×St)):Bb R op r=r:=by
 cases r with
 |error e=>rfl
 |ok p=>
  obtain⟨x,st⟩:=p
  rw[Ax,if_neg (fun e=>h e.1)]
def Ss (R:List Int)(tab:List (ByteArray×List R2))(sub:Option A8)(op:Nat):Nat->St->List Nd->PR (Nd×St)
 |0,st,l=>.ok (Z0 9 l,st)
 |n+1,st,l=>match Bb R op (G9 R tab sub st)with
  | .error e=>.error e
  | .ok (x,s1)=>if g7 R s1.k=124 then Ss R tab sub op n {s1 with k:=s1.k+1} (l++ [x])else .ok (Z0 9 (l++ [x]),s1)
theorem Mu {R:List Int}{tab:List (ByteArray×List R2)}{sub:Option A8}(H:∀f,sub=some f->Ah R f)(op:Nat):∀(n m:Nat) (st:St) (l:List Nd),st.k<=R.length->R.length+1<=st.k+n->R.length+1<=st.k+m->
 Ss R tab sub op n st l=Bb R op (match G9 R tab sub st with
  | .error e=>.error e
  | .ok (x,s1)=>J4 R tab sub m s1 (l++ [x]))
 |0,m,st,l,hk,hn,hm=>by omega
 |n+1,0,st,l,hk,hn,hm=>by omega
 |n+1,m+1,st,l,hk,hn,hm=>by
  rw[Ss]
  cases hc:G9 R tab sub st with
  |error e=>rfl
  |ok p=>
   obtain⟨x,s1⟩:=p
   have hf:=I8 H st x s1 hk hc
   simp only
   rw[J4]
   by_cases h124:g7 R s1.k=124
   ·have hlt:=j9 h124 (by decide)
    rw[show Bb R op (.ok (x,s1))=.ok (x,s1)from by rw[Ax,if_neg (fun e=>by rw[h124]at e;exact absurd e.2 (by decide))]]
    simp only
    rw[if_pos h124,if_pos h124,Mu H op n m {s1 with k:=s1.k+1} (l++ [x]) (by show s1.k+1<=_;omega) (by show _<=s1.k+1+n;omega) (by show _<=s1.k+1+m;omega)]
    all_goals rfl
   ·rw[if_neg h124,Ax,Ax]
    by_cases hz:op=0/\g7 R s1.k=41
    ·rw[if_pos hz,if_pos hz]
    ·rw[if_neg hz,if_neg hz]
     simp only
     rw[if_neg h124]
theorem Su {R:List Int}{tab:List (ByteArray×List R2)}{sub:Option A8}(H:∀f,sub=some f->Ah R f)(op:Nat)(st:St)(hk:st.k<=R.length):Ss R tab sub op (R.length+1) st []=Bb R op (S1 R tab sub st):=by
 rw[Mu H op (R.length+1) (R.length+1) st [] hk (by omega) (by omega)]
 rfl
theorem Gf {R:List Int}{tab:List (ByteArray×List R2)}{sub:Option A8}(H:∀f,sub=some f->Ah R f):∀(f:Nat) (st:St) (l:List Nd) (x:Nd) (s1:St),st.k<=R.length->R.length+1<=st.k+f->Y3 (g7 R st.k)=true->J4 R tab sub f st l=.ok (x,s1)->g7 R s1.k= -1∨g7 R s1.k=41
 |0,st,l,x,s1,hk,hf,he,h=>by omega
 |f+1,st,l,x,s1,hk,hf,he,h=>by
  rw[J4]at h
  by_cases h124:g7 R st.k=124
  ·rw[if_pos h124]at h
   have hlt:=j9 h124 (by decide)
   cases hc:G9 R tab sub {st with k:=st.k+1} with
   |error e=>rw[hc]at h;cases h
   |ok p=>
    obtain⟨y,s2⟩:=p
    have hw:=I8 H _ y s2 (by show st.k+1<=_;omega) hc
    have h2:st.k+1<=s2.k:=hw.1
    rw[hc]at h
    exact Gf H f s2 _ _ _ hw.2 (by omega) (IL H (by show st.k+1<=_;omega) hc) h
  ·rw[if_neg h124]at h
   cases h
   unfold Y3 at he
   simp only[Bool.or_eq_true,decide_eq_true_eq]at he
   omega
theorem NA {R:List Int}{tab:List (ByteArray×List R2)}{sub:Option A8}(H:∀f,sub=some f->Ah R f){st s1:St}{x:Nd}(hk:st.k<=R.length)(h:S1 R tab sub st=.ok (x,s1)):g7 R s1.k= -1∨g7 R s1.k=41:=by
 unfold S1 at h
 cases hc:G9 R tab sub st with
 |error e=>rw[hc]at h;cases h
 |ok p=>
  obtain⟨y,s2⟩:=p
  have hw:=I8 H st y s2 hk hc
  rw[hc]at h
  exact Gf H _ s2 _ _ _ hw.2 (by omega) (IL H hk hc) h
def Ee (R:List Int)(tab:List (ByteArray×List R2))(f:Fl):PR (Nd×St):=Bb R 0 (B7 R tab 32 ⟨0,f,[⟨#[]⟩]⟩)
theorem Rs (R:List Int)(tab:List (ByteArray×List R2))(f:Fl):S9 R tab f=(match Ee R tab f with
 | .error e=>.error e
 | .ok (x,st)=>.ok (x,st.ns)):=by
 unfold S9 Ee
 cases h:B7 R tab 32 ⟨0,f,[⟨#[]⟩]⟩with
 |error e=>rfl
 |ok p=>
  obtain⟨x,s1⟩:=p
  have hs:g7 R s1.k= -1∨g7 R s1.k=41:=NA (sub:=some (B7 R tab 31)) (fun f e=>by cases e;exact B8 R tab 31) (by show 0<=_;omega) h
  simp only
  rw[Ax]
  rcases hs with e|e
  ·rw[if_pos e,if_neg (fun g=>by rw[e]at g;exact absurd g.2 (by decide))]
  ·rw[if_neg (by rw[e];decide),if_pos ⟨rfl,e⟩]
end Go.Proofs.YtdhhcefmmojcmaaGreatDoor
