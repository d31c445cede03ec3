/- Texts of this proof, one behind the other. -/
import Derived.Test.YtdhhcefmmojcmaaGreatDoorM10
import Derived.Test.YtdhhcefmmojcmaaGreatDoorM1
import Derived.Test.YtdhhcefmmojcmaaGreatDoorM30
set_option maxRecDepth 100000
set_option maxHeartbeats 0
set_option linter.unusedVariables false
namespace Go.Proofs.YtdhhcefmmojcmaaGreatDoor
open Go.ChangeShapes Go.WideShapes Go.ChangeAt Go.RowKit
open Go.Lib
theorem Nk {s:ByteArray}{f:Fl}{x:Nd}{ns:List ByteArray}(h:I0 s f=.ok (x,ns)):ns.length<=1025:=by
 unfold I0 at h
 split at h
 ·cases h
 ·rename_i hs
  split at h
  ·cases h
  ·rename_i R P bad hd
   have hb:=(Gg s 1 (by decide)).2.2
   obtain⟨R2,P2,e1,e2,e3⟩:=Gn s s.size (bg s 1).2 [] [] 0 hb (by omega) (by rw[hd])
   rw[hd,List.nil_append]at e1 e2
   simp only at e1 e2
   subst e1
   subst e2
   have hg:=(Db (by omega) hb e3 0 0 none none 0 0).lenR
   simp only at hg
   split at h
   ·rename_i r hp
    cases h
    unfold S9 at hp
    split at hp
    ·cases hp
    ·rename_i y s1 he
     split at hp
     ·cases hp
      have g1:=Cz R b8 32 _ _ _ (Nat.zero_le _) he
      have g2:=B8 R b8 32 _ _ _ (Nat.zero_le _) he
      simp only[List.length_singleton]at g1 g2
      omega
     ·cases hp
   ·cases h
end Go.Proofs.YtdhhcefmmojcmaaGreatDoor
namespace Go.Proofs.YtdhhcefmmojcmaaGreatDoor
open Go.RowKit Go.Lib
theorem Nf {R:List Int}{f f':Fl}{x:Nd}{ns:List ByteArray}(h0:Y3 (g7 R 0)=false)(hp:C7 R b8 (some (B7 R b8 31)) ⟨0,f,[⟨#[]⟩]⟩=.ok (some x,⟨R.length,f',ns⟩)):S9 R b8 f=.ok (x,ns):=by
 have hl:g7 R R.length= -1:=Bi (Nat.le_refl _)
 have hr:I1 R b8 (some (B7 R b8 31)) (R.length+1) ⟨0,f,[⟨#[]⟩]⟩ []=.ok ([x],⟨R.length,f',ns⟩):=by
  match hn:R.length with
  |0=>
   have:g7 R 0= -1:=Bi (by omega)
   rw[this]at h0
   cases h0
  |n+1=>
   rw[hn]at hl hp
   rw[I1,if_neg (by rw[h0];decide),hp]
   show I1 R b8 (some (B7 R b8 31)) (n+1) ⟨n+1,f',ns⟩ [x]=_
   rw[I1,if_pos (by simp only;rw[hl];rfl)]
 show(match S1 R b8 (some (B7 R b8 31)) ⟨0,f,[⟨#[]⟩]⟩with
  | .error e=>(.error e:PR (Nd×List ByteArray))
  | .ok (x,s1)=>if g7 R s1.k= -1 then .ok (x,s1.ns)else .error (25,s1.k))=_
 unfold S1 G9
 rw[hr]
 show(match J4 R b8 (some (B7 R b8 31)) (R.length+1) ⟨R.length,f',ns⟩ [x]with
  | .error e=>(.error e:PR (Nd×List ByteArray))
  | .ok (x,s1)=>if g7 R s1.k= -1 then .ok (x,s1.ns)else .error (25,s1.k))=_
 rw[J4,if_neg (by simp only;rw[hl];decide)]
 simp only[Z0]
 rw[if_pos hl]
theorem TM {R:List Int}{f:Fl}{e:Nat×Nat}(h0:Y3 (g7 R 0)=false)(hp:C7 R b8 (some (B7 R b8 31)) ⟨0,f,[⟨#[]⟩]⟩=.error e):S9 R b8 f=.error e:=by
 have hr:I1 R b8 (some (B7 R b8 31)) (R.length+1) ⟨0,f,[⟨#[]⟩]⟩ []=.error e:=by
  rw[I1,if_neg (by rw[h0];decide),hp]
 show(match S1 R b8 (some (B7 R b8 31)) ⟨0,f,[⟨#[]⟩]⟩with
  | .error e=>(.error e:PR (Nd×List ByteArray))
  | .ok (x,s1)=>if g7 R s1.k= -1 then .ok (x,s1.ns)else .error (25,s1.k))=_
 unfold S1 G9
 rw[hr]
def U6 (R R':List Int)(n:Nat):Prop:=∀k,g7 R' (k+n)=g7 R k
theorem Np (pre R:List Int):U6 R (pre++R) pre.length:=by
 intro k
 unfold g7
 rw[List.getElem?_append_right (by omega),Nat.add_sub_cancel]
section
variable {R R' : List Int} {n : Nat}
theorem U6.a1 (H:U6 R R' n)(k a:Nat):g7 R' (k+n+a)=g7 R (k+a):=by rw[Nat.add_right_comm];exact H _
theorem U6.a2 (H:U6 R R' n)(k a b:Nat):g7 R' (k+n+a+b)=g7 R (k+a+b):=by rw[Nat.add_right_comm k,Nat.add_right_comm];exact H _
theorem Dw {α:Sort _}{c:Prop}[Decidable c]{a a' b b':α}(h:c->a=a')(k:¬c->b=b'):(if c then a else b)=(if c then a' else b'):=by
 by_cases hc:c
 ·rw[if_pos hc,if_pos hc];exact h hc
 ·rw[if_neg hc,if_neg hc];exact k hc
def Ft {α:Type}(n:Nat):PR (α×Nat)->PR (α×Nat)
 | .error (c,j)=>.error (c,j+n)
 | .ok (x,k)=>.ok (x,k+n)
def UB {α β:Type}(n:Nat):PR (α×β×Nat)->PR (α×β×Nat)
 | .error (c,j)=>.error (c,j+n)
 | .ok (x,y,k)=>.ok (x,y,k+n)
def St.sh (n:Nat)(st:St):St:=⟨st.k+n,st.f,st.ns⟩
def FQ {α:Type}(n:Nat):PR (α×St)->PR (α×St)
 | .error (c,j)=>.error (c,j+n)
 | .ok (x,st)=>.ok (x,st.sh n)
theorem U6.digs_ (H:U6 R R' n):∀(f k:Nat),M3 R' f (k+n)=M3 R f k
 |0,k=>rfl
 |f+1,k=>by
  rw[M3,M3,H,Nat.add_right_comm,H.digs_ f (k+1)]
theorem U6.run (H:U6 R R' n)(p:Int->Bool):∀(f k:Nat),l6 R' p f (k+n)=l6 R p f k
 |0,k=>rfl
 |f+1,k=>by
  rw[l6,l6,H,Nat.add_right_comm,H.run p f (k+1)]
theorem U6.nums (H:U6 R R' n)(k:Nat):S7 R' (k+n)=(S7 R k).map fun(a,b,k1)=>(a,b,k1+n):=by
 unfold S7
 simp only[H.digs_,H.a1,H.a2,apply_ite (Option.map _),Option.map_some,Option.map_none]
 generalize M3 R 4 k=l
 rw[show k+n+l.length+1=(k+l.length+1)+n by omega,H.digs_,H.a1]
 generalize M3 R 4 (k+l.length+1)=m
 refine Dw (fun _=>rfl) (fun _=>Dw (fun _=>?_) (fun _=>Dw (fun _=>Dw (fun _=>?_) (fun _=>Dw (fun _=>rfl) (fun _=>Dw (fun _=>?_) (fun _=>rfl)))) (fun _=>rfl)))
 ·congr 3<;>omega
 ·congr 3<;>omega
 ·congr 3<;>omega
theorem U6.bound (H:U6 R R' n)(k:Nat):o8 R' (k+n)=(o8 R k).map fun(a,b,k1)=>(a,b,k1+n):=by
 unfold o8
 simp only[H k,apply_ite (Option.map _),Option.map_some,Option.map_none,<-H.nums]
 rw[Nat.add_right_comm]
def WW (n:Nat):PR (Option (Int×Int×Bool×Nat))->PR (Option (Int×Int×Bool×Nat))
 | .error (c,j)=>.error (c,j+n)
 | .ok none=>.ok none
 | .ok (some (a,b,z,k))=>.ok (some (a,b,z,k+n))
theorem U6.quant (H:U6 R R' n)(u:Bool)(k:Nat):C8 R' u (k+n)=WW n (C8 R u k):=by
 unfold C8
 rw[H.bound]
 cases o8 R k with
 |none=>rfl
 |some p=>
  obtain⟨a,b,k1⟩:=p
  simp only[Option.map_some,H k1,apply_ite (WW n)]
  simp only[WW]
  rw[Nat.add_right_comm]
theorem U6.code (H:U6 R R' n)(k0 k:Nat):J9 R' (k0+n) (k+n)=Ft n (J9 R k0 k):=by
 unfold J9
 simp only[H k]
 rw[show k+n+1=(k+1)+n by omega,H.run,H.run]
 simp only[H.a1,apply_ite (Ft n)]
 simp only[Ft]
 generalize l6 R p6 6 (k+1)=l
 refine Dw (fun _=>Dw (fun _=>?_) (fun _=>rfl)) (fun _=>Dw (fun _=>?_) (fun _=>rfl))
 ·congr 2
  omega
 ·congr 2
  omega
theorem Fr {p:Int->Bool}(hp:p (-1)=false):∀(f f' k:Nat),R.length<=k+f->R.length<=k+f'->l6 R p f k=l6 R p f' k
 |0,0,k,_,_=>rfl
 |0,f'+1,k,h,_=>by
  rw[l6,l6,Bi (by omega),hp]
  rfl
 |f+1,0,k,_,h=>by
  rw[l6,l6,Bi (by omega),hp]
  rfl
 |f+1,f'+1,k,h,h'=>by
  rw[l6,l6,Fr hp f f' (k+1) (by omega) (by omega)]
theorem U6.named (H:U6 R R' n)(hl:R'.length=R.length+n)(tab:List (ByteArray×List R2))(k0:Nat)(neg:Bool)(k:Nat):E7 R' tab (k0+n) neg (k+n)=Ft n (E7 R tab k0 neg k):=by
 unfold E7
 simp only[H k]
 rw[show k+n+1=(k+1)+n by omega,H.run,Fr (R:=R) (p:=u5) rfl R'.length R.length (k+1) (by omega) (by omega)]
 simp only[H.a1,apply_ite (Ft n)]
 generalize l6 R u5 R.length (k+1)=l
 refine Dw (fun _=>?_) (fun _=>rfl)
 cases s5 (i7 l) tab with
 |none=>rfl
 |some m=>
  simp only[apply_ite (Ft n)]
  simp only[Ft]
  refine Dw (fun _=>?_) (fun _=>rfl)
  congr 2
  omega
theorem U6.esc (H:U6 R R' n)(hl:R'.length=R.length+n)(tab:List (ByteArray×List R2))(k0 k:Nat):L3 R' tab (k0+n) (k+n)=UB n (L3 R tab k0 k):=by
 unfold L3
 rw[H k]
 unfold AA
 have e1:k+n+1=(k+1)+n:=by omega
 simp only[e1,H.named hl,H.code]
 rcases E7 R tab k0 (decide (g7 R k=80)) (k+1)with⟨c,j⟩|⟨l,k1⟩<;>rcases J9 R k0 (k+1)with⟨c2,j2⟩|⟨l2,k2⟩<;>simp only[apply_ite (UB n)]<;>simp only[UB,Ft]
theorem U6.memb (H:U6 R R' n)(hl:R'.length=R.length+n)(tab:List (ByteArray×List R2))(op k:Nat):G7 R' tab (op+n) (k+n)=UB n (G7 R tab op k):=by
 unfold G7
 simp only[H k]
 rw[show k+n+1=(k+1)+n by omega,H.esc hl]
 simp only[apply_ite (UB n)]
 simp only[UB]
theorem U6.item (H:U6 R R' n)(hl:R'.length=R.length+n)(tab:List (ByteArray×List R2))(op k:Nat):G6 R' tab (op+n) (k+n)=Ft n (G6 R tab op k):=by
 unfold G6
 rw[H.memb hl]
 cases G7 R tab op k with
 |error e=>rfl
 |ok p=>
  obtain⟨l,o,k1⟩:=p
  cases o with
  |none=>rfl
  |some a=>
   simp only[UB,H k1,H.a1 k1,apply_ite (Ft n)]
   rw[show k1+n+1=(k1+1)+n by omega,H.memb hl]
   refine Dw (fun _=>?_) (fun _=>rfl)
   cases G7 R tab op (k1+1)with
   |error e=>rfl
   |ok p=>
    obtain⟨l2,o2,k2⟩:=p
    cases o2 with
    |none=>rfl
    |some b=>
     simp only[UB,apply_ite (Ft n)]
     rfl
theorem U6.items (H:U6 R R' n)(hl:R'.length=R.length+n)(tab:List (ByteArray×List R2))(op:Nat):∀(f f' k:Nat) (l:List R2),k<=R.length->R.length+1<=k+f->R.length+1<=k+f'->F1 R' tab (op+n) f' (k+n) l=Ft n (F1 R tab op f k l)
 |0,_,k,l,hk,h,_=>by omega
 |_,0,k,l,hk,_,h=>by omega
 |f+1,f'+1,k,l,hk,h,h'=>by
  rw[F1,F1,H k,H.item hl]
  simp only[apply_ite (Ft n)]
  refine Dw (fun _=>?_) (fun _=>?_)
  ·simp only[Ft]
   congr 2
   omega
  ·cases hi:G6 R tab op k with
   |error e=>rfl
   |ok p=>
    obtain⟨m,k1⟩:=p
    have:=V6 hi
    exact H.items hl tab op f f' k1 (l++m) (by omega) (by omega) (by omega)
theorem U6.class2_ (H:U6 R R' n)(hl:R'.length=R.length+n)(tab:List (ByteArray×List R2))(op k:Nat):G2 R' tab (op+n) (k+n)=Ft n (G2 R tab op k):=by
 unfold G2
 rw[H.item hl]
 cases hi:G6 R tab op k with
 |error e=>rfl
 |ok p=>
  obtain⟨m,k1⟩:=p
  have:=V6 hi
  exact H.items hl tab op _ _ k1 m (by omega) (by omega) (by omega)
theorem Nv (neg:Bool)(r:PR (List R2×Nat)):Bn neg (Ft n r)=Ft n (Bn neg r):=by
 cases r with
 |error e=>rfl
 |ok p=>rfl
theorem U6.cls (H:U6 R R' n)(hl:R'.length=R.length+n)(tab:List (ByteArray×List R2))(op k:Nat):E0 R' tab (op+n) (k+n)=Ft n (E0 R tab op k):=by
 unfold E0
 rw[H k,show k+n+1=(k+1)+n by omega,H.class2_ hl,H.class2_ hl,Nv,Nv]
 simp only[apply_ite (Ft n)]
theorem U6.letters (H:U6 R R' n):∀(m k:Nat) (f:Fl),C3 R' m (k+n) f=((C3 R m k f).1,(C3 R m k f).2+n)
 |0,k,f=>rfl
 |m+1,k,f=>by
  rw[C3,C3,H k,show k+n+1=(k+1)+n by omega,H.letters m,H.letters m,H.letters m,H.letters m]
  simp only[apply_ite Prod.fst,apply_ite Prod.snd]
  split
  ·rfl
  split
  ·rfl
  split
  ·rfl
  split
  ·rfl
  ·rfl
theorem U6.flags (H:U6 R R' n)(f:Fl)(k:Nat):x9 R' f (k+n)=((x9 R f k).1,(x9 R f k).2.1,(x9 R f k).2.2+n):=by
 unfold x9
 simp only[H.letters,H (C3 R 5 k x7).2]
 rw[show(C3 R 5 k x7).2+n+1=((C3 R 5 k x7).2+1)+n by omega,H.letters]
 split
 ·rfl
 ·rfl
def WL (R:List Int)(n:Nat)(a a':A8):Prop:=∀st,st.k<=R.length->a' (st.sh n)=FQ n (a st)
theorem U6.withs (H:U6 R R' n){a a':A8}(HA:WL R n a a')(k0:Nat)(st:St)(hk:st.k<=R.length)(f:Fl):D8 R' a' (k0+n) (st.sh n) f=FQ n (D8 R a k0 st f):=by
 unfold D8
 rw[show({st.sh n with f:=f}:St)=St.sh n {st with f:=f} from rfl,HA {st with f:=f} hk]
 cases a {st with f:=f} with
 |error e=>rfl
 |ok p=>
  obtain⟨x,s1⟩:=p
  show(if g7 R' (s1.k+n)=41 then _ else _)=_
  simp only[H s1.k]
  split
  ·show Except.ok _=Except.ok _
   simp only[St.sh]
   congr 3
   omega
  ·rfl
theorem U6.group (H:U6 R R' n){a a':A8}(HA:WL R n a a')(k0:Nat)(st:St)(hk:st.k<=R.length)(name:ByteArray):G5 R' a' (k0+n) (st.sh n) name=FQ n (G5 R a k0 st name):=by
 unfold G5
 rw[show({st.sh n with ns:=(st.sh n).ns++ [name]}:St)=St.sh n {st with ns:=st.ns++ [name]} from rfl,show(st.sh n).f=st.f from rfl,H.withs HA k0 {st with ns:=st.ns++ [name]} hk]
 cases D8 R a k0 {st with ns:=st.ns++ [name]} st.f with
 |error e=>rfl
 |ok p=>rfl
theorem U6.name (H:U6 R R' n)(k0:Nat)(ns:List ByteArray)(k:Nat):W3 R' (k0+n) ns (k+n)=Ft n (W3 R k0 ns k):=by
 unfold W3
 simp only[H k]
 rw[show k+n+1=(k+1)+n by omega,H.run]
 have e2:g7 R' (k+1+n+(l6 R C2 32 (k+1)).length)=g7 R (k+1+(l6 R C2 32 (k+1)).length):=H.a1 _ _
 simp only[e2]
 split
 ·split
  ·simp only[Ft]
   congr 2
   omega
  ·rfl
 ·rfl
def UG (R:List Int)(n:Nat):Option A8->Option A8->Prop
 |none,none=>True
 |some a,some a'=>WL R n a a'
 |_,_=>False
theorem EC (r:PR (Nd×St)):(match FQ n r with
 | .error e=>(.error e:PR (Option Nd×St))
 | .ok (x,s1)=>.ok (some x,s1))=FQ n (match r with
 | .error e=>.error e
 | .ok (x,s1)=>.ok (some x,s1)):=by
 cases r with
 |error e=>rfl
 |ok p=>rfl
theorem U6.brack (H:U6 R R' n){u u':Option A8}(HU:UG R n u u')(st:St)(hk:st.k<R.length):p7 R' u' (st.sh n)=FQ n (p7 R u st):=by
 match u,u',HU with
 |none,none,_=>rfl
 |some a,some a',HA=>
  unfold p7
  simp only[St.sh,H.a1]
  simp only[show ∀a,st.k+n+a=(st.k+a)+n from fun a=>by omega,H.name,H.flags]
  split
  ·rename_i e1
   have g1:=j9 e1 (by decide)
   split
   ·cases hn:W3 R st.k st.ns (st.k+3)with
    |error e=>rfl
    |ok p=>
     obtain⟨name,k1⟩:=p
     have e:=H.group HA st.k {st with k:=k1} (Ak hn).2 name
     simp only[Ft,St.sh]at e⊢
     rw[e]
     exact EC _
   split
   ·rename_i _ e2
    have g2:=j9 e2 (by decide)
    have e:=H.withs HA st.k {st with k:=st.k+3} (by simp only;omega) st.f
    simp only[St.sh]at e
    rw[e]
    exact EC _
   ·simp only[H (x9 R st.f (st.k+2)).2.2]
    split
    ·rename_i e3
     have g3:=j9 e3.2 (by decide)
     have e:=H.withs HA st.k {st with k:=(x9 R st.f (st.k+2)).2.2+1} (by simp only;omega) (x9 R st.f (st.k+2)).1
     simp only[St.sh]at e
     rw[show(x9 R st.f (st.k+2)).2.2+n+1=((x9 R st.f (st.k+2)).2.2+1)+n by omega,e]
     exact EC _
    split
    ·simp only[FQ,St.sh]
     congr 3
     omega
    ·rfl
  ·have e:=H.group HA st.k {st with k:=st.k+1} (by simp only;omega) ⟨#[]⟩
   simp only[St.sh]at e
   rw[e]
   exact EC _
theorem UO (st:St)(r:PR (List R2×Nat)):FW (st.sh n) (Ft n r)=FQ n (FW st r):=by
 cases r with
 |error e=>rfl
 |ok p=>rfl
theorem U6.stroke (H:U6 R R' n)(hl:R'.length=R.length+n)(tab:List (ByteArray×List R2))(st:St):u4 R' tab (st.sh n)=FQ n (u4 R tab st):=by
 unfold u4
 simp only[St.sh,H.a1]
 unfold J7
 rw[show st.k+n+2=(st.k+2)+n by omega,show st.k+n+1=(st.k+1)+n by omega,H.esc hl]
 split
 ·rfl
 split
 ·rfl
 split
 ·rfl
 split
 ·rfl
 cases L3 R tab st.k (st.k+1)with
 |error e=>rfl
 |ok p=>rfl
theorem U6.atom (H:U6 R R' n)(hl:R'.length=R.length+n)(tab:List (ByteArray×List R2)){u u':Option A8}(HU:UG R n u u')(st:St)(hk:st.k<R.length):F9 R' tab u' (st.sh n)=FQ n (F9 R tab u st):=by
 unfold F9
 rw[show(st.sh n).k=st.k+n from rfl,H st.k]
 unfold Bt
 rw[show(st.sh n).k=st.k+n from rfl,show st.k+n+1=(st.k+1)+n by omega,H.cls hl,H.brack HU st hk,H.stroke hl,UO]
 split
 ·rfl
 split
 ·rfl
 split
 ·rfl
 split
 ·rfl
 split
 ·rfl
 split
 ·rfl
 ·rfl
theorem U6.rep (H:U6 R R' n)(x:Nd)(st:St):Z7 R' x (st.sh n)=FQ n (Z7 R x st):=by
 unfold Z7
 rw[show(st.sh n).k=st.k+n from rfl,show(st.sh n).f=st.f from rfl,H.quant]
 cases C8 R st.f.u st.k with
 |error e=>rfl
 |ok o=>
  cases o with
  |none=>rfl
  |some p=>rfl
theorem U6.piece (H:U6 R R' n)(hl:R'.length=R.length+n)(tab:List (ByteArray×List R2)){u u':Option A8}(HU:UG R n u u')(st:St)(hk:st.k<R.length):C7 R' tab u' (st.sh n)=FQ n (C7 R tab u st):=by
 unfold C7
 rw[show(st.sh n).k=st.k+n from rfl,H.bound,H.atom hl tab HU st hk]
 cases o8 R st.k with
 |some p=>rfl
 |none=>
  simp only[Option.map_none]
  cases F9 R tab u st with
  |error e=>rfl
  |ok p=>
   obtain⟨o,s1⟩:=p
   cases o with
   |none=>rfl
   |some x=>
    simp only[FQ,H.rep]
    cases Z7 R x s1 with
    |error e=>rfl
    |ok p=>rfl
theorem U6.row (H:U6 R R' n)(hl:R'.length=R.length+n)(tab:List (ByteArray×List R2)){u u':Option A8}(HU:UG R n u u')(HF:∀f,u=some f->Ah R f):∀(f f':Nat) (st:St) (l:List Nd),st.k<=R.length->R.length+1<=st.k+f->R.length+1<=st.k+f'->I1 R' tab u' f' (st.sh n) l=FQ n (I1 R tab u f st l)
 |0,_,st,l,hk,h,_=>by omega
 |_,0,st,l,hk,_,h=>by omega
 |f+1,f'+1,st,l,hk,h,h'=>by
  rw[I1,I1,show(st.sh n).k=st.k+n from rfl,H st.k]
  split
  ·rfl
  ·rename_i he
   have hlt:st.k<R.length:=I6 (fun e=>he (by rw[e];rfl))
   rw[H.piece hl tab HU st hlt]
   cases hp:C7 R tab u st with
   |error e=>rfl
   |ok p=>
    obtain⟨o,s1⟩:=p
    have:=P7 HF hlt hp
    cases o with
    |none=>exact H.row hl tab HU HF f f' s1 l (by omega) (by omega) (by omega)
    |some x=>exact H.row hl tab HU HF f f' s1 (l++ [x]) (by omega) (by omega) (by omega)
theorem U6.cat (H:U6 R R' n)(hl:R'.length=R.length+n)(tab:List (ByteArray×List R2)){u u':Option A8}(HU:UG R n u u')(HF:∀f,u=some f->Ah R f)(st:St)(hk:st.k<=R.length):G9 R' tab u' (st.sh n)=FQ n (G9 R tab u st):=by
 unfold G9
 rw[H.row hl tab HU HF (R.length+1) (R'.length+1) st [] hk (by omega) (by omega)]
 cases I1 R tab u (R.length+1) st []with
 |error e=>rfl
 |ok p=>rfl
theorem U6.alts (H:U6 R R' n)(hl:R'.length=R.length+n)(tab:List (ByteArray×List R2)){u u':Option A8}(HU:UG R n u u')(HF:∀f,u=some f->Ah R f):∀(f f':Nat) (st:St) (l:List Nd),st.k<=R.length->R.length+1<=st.k+f->R.length+1<=st.k+f'->J4 R' tab u' f' (st.sh n) l=FQ n (J4 R tab u f st l)
 |0,_,st,l,hk,h,_=>by omega
 |_,0,st,l,hk,_,h=>by omega
 |f+1,f'+1,st,l,hk,h,h'=>by
  rw[J4,J4,show(st.sh n).k=st.k+n from rfl,H st.k]
  split
  ·rename_i he
   have hlt:st.k<R.length:=j9 he (by decide)
   have e:=H.cat hl tab HU HF {st with k:=st.k+1} (by simp only;omega)
   rw[show({st.sh n with k:=st.k+n+1}:St)=St.sh n {st with k:=st.k+1} by simp only[St.sh];congr 1;omega,e]
   cases hp:G9 R tab u {st with k:=st.k+1} with
   |error e=>rfl
   |ok p=>
    obtain⟨x,s1⟩:=p
    have:=I8 HF _ _ _ (by simp only;omega) hp
    exact H.alts hl tab HU HF f f' s1 (l++ [x]) (by simp only at this;omega) (by simp only at this;omega) (by simp only at this;omega)
  ·rfl
theorem U6.altB_ (H:U6 R R' n)(hl:R'.length=R.length+n)(tab:List (ByteArray×List R2)){u u':Option A8}(HU:UG R n u u')(HF:∀f,u=some f->Ah R f)(st:St)(hk:st.k<=R.length):S1 R' tab u' (st.sh n)=FQ n (S1 R tab u st):=by
 unfold S1
 rw[H.cat hl tab HU HF st hk]
 cases hp:G9 R tab u st with
 |error e=>rfl
 |ok p=>
  obtain⟨x,s1⟩:=p
  have:=I8 HF _ _ _ hk hp
  exact H.alts hl tab HU HF _ _ s1 [x] (by omega) (by omega) (by omega)
theorem U6.altN_ (H:U6 R R' n)(hl:R'.length=R.length+n)(tab:List (ByteArray×List R2)):∀m,WL R n (B7 R tab m) (B7 R' tab m)
 |0=>fun st hk=>by
  rw[B7,B7]
  exact H.altB_ hl tab (u:=none) (u':=none) trivial (fun f e=>by cases e) st hk
 |m+1=>fun st hk=>by
  rw[B7,B7]
  exact H.altB_ hl tab (u:=some _) (u':=some _) (H.altN_ hl tab m) (fun f e=>by cases e;exact B8 R tab m) st hk
end
structure U4 (R R':List Int):Prop where
 same:∀k,g7 R k≠ -1->g7 R' k=g7 R k
 out:∀k,g7 R k= -1->g7 R' k= -1∨g7 R' k=41
 len:R.length<=R'.length
theorem SB (R:List Int):U4 R (R++ [41]):=by
 refine⟨fun k h=>?_,fun k h=>?_,by simp⟩
 ·have:=I6 h
  unfold g7
  rw[List.getElem?_append_left this]
 ·by_cases hk:k<R.length
  ·rw[P8 hk]at h
   left
   unfold g7
   rw[List.getElem?_append_left hk,List.getElem?_eq_getElem hk]
   exact h
  ·unfold g7
   rw[List.getElem?_append_right (by omega)]
   match k-R.length with
   |0=>right;rfl
   |j+1=>left;rfl
section
variable {R R' : List Int}
theorem U4.is (H:U4 R R')(k:Nat){c:Int}(h1:c≠ -1)(h2:c≠41):(g7 R' k=c)=(g7 R k=c):=by
 refine propext ⟨fun h=>?_,fun h=>?_⟩
 ·by_cases e:g7 R k= -1
  ·rcases H.out k e with g|g
   ·exact absurd (h.symm.trans g) h1
   ·exact absurd (h.symm.trans g) h2
  ·rw[<-H.same k e];exact h
 ·rw[H.same k (by rw[h];exact h1)];exact h
theorem U4.pr (H:U4 R R'){p:Int->Bool}(h1:p (-1)=false)(h2:p 41=false)(k:Nat):p (g7 R' k)=p (g7 R k):=by
 by_cases e:g7 R k= -1
 ·rw[e,h1]
  rcases H.out k e with g|g
  ·rw[g,h1]
  ·rw[g,h2]
 ·rw[H.same k e]
theorem U4.run (H:U4 R R'){p:Int->Bool}(h1:p (-1)=false)(h2:p 41=false):∀(f k:Nat),l6 R' p f k=l6 R p f k
 |0,k=>rfl
 |f+1,k=>by
  rw[l6,l6,H.pr h1 h2,H.run h1 h2 f (k+1)]
  split
  ·rename_i hp
   rw[H.same k (fun e=>by rw[e,h1]at hp;cases hp)]
  ·rfl
theorem U4.digs_ (H:U4 R R')(f k:Nat):M3 R' f k=M3 R f k:=by
 rw[V4,V4,H.run rfl rfl]
theorem U4.nums (H:U4 R R')(k:Nat):S7 R' k=S7 R k:=by
 unfold S7
 simp only[H.digs_,H.is _ (c:=125) (by decide) (by decide),H.is _ (c:=44) (by decide) (by decide)]
theorem U4.bound (H:U4 R R')(k:Nat):o8 R' k=o8 R k:=by
 unfold o8
 simp only[H.is _ (c:=42) (by decide) (by decide),H.is _ (c:=43) (by decide) (by decide),H.is _ (c:=63) (by decide) (by decide),H.is _ (c:=123) (by decide) (by decide),H.nums]
theorem U4.quant (H:U4 R R')(u:Bool)(k:Nat):C8 R' u k=C8 R u k:=by
 unfold C8
 simp only[H.bound,H.is _ (c:=63) (by decide) (by decide)]
theorem U4.code (H:U4 R R')(k0 k:Nat):J9 R' k0 k=J9 R k0 k:=by
 unfold J9
 simp only[H.is _ (c:=123) (by decide) (by decide),H.is _ (c:=125) (by decide) (by decide),H.run (p:=p6) rfl rfl]
theorem U4.named (H:U4 R R')(tab:List (ByteArray×List R2))(k0:Nat)(neg:Bool)(k:Nat):E7 R' tab k0 neg k=E7 R tab k0 neg k:=by
 unfold E7
 have e:=Fr (R:=R) (p:=u5) rfl R'.length R.length (k+1) (by have:=H.len;omega) (by omega)
 simp only[H.is _ (c:=123) (by decide) (by decide),H.is _ (c:=125) (by decide) (by decide),H.run (p:=u5) rfl rfl,e]
theorem U4.esc (H:U4 R R'){tab:List (ByteArray×List R2)}{k0 k:Nat}{r:List R2×Option Int×Nat}(h:L3 R tab k0 k=.ok r):L3 R' tab k0 k=.ok r:=by
 unfold L3 at h⊢
 by_cases e:g7 R k= -1
 ·rw[e]at h
  exact absurd h (by simp[AA])
 ·rw[H.same k e]
  unfold AA at h⊢
  rw[H.named,H.code]
  exact h
theorem U4.memb (H:U4 R R'){tab:List (ByteArray×List R2)}{op k:Nat}{r:List R2×Option Int×Nat}(h:G7 R tab op k=.ok r):G7 R' tab op k=.ok r:=by
 unfold G7 at h⊢
 split at h
 ·cases h
 ·rename_i e
  rw[H.same k e,if_neg e]
  split at h
  ·rename_i e2
   rw[if_pos e2]
   exact H.esc h
  ·rename_i e2
   rw[if_neg e2]
   exact h
theorem U4.item (H:U4 R R'){tab:List (ByteArray×List R2)}{op k:Nat}{r:List R2×Nat}(h:G6 R tab op k=.ok r):G6 R' tab op k=.ok r:=by
 unfold G6 at h⊢
 cases hm:G7 R tab op k with
 |error e=>rw[hm]at h;cases h
 |ok p=>
  obtain⟨l,o,k1⟩:=p
  rw[hm]at h
  rw[H.memb hm]
  cases o with
  |none=>exact h
  |some a=>
   simp only[H.is _ (c:=45) (by decide) (by decide),ne_eq,H.is _ (c:=93) (by decide) (by decide)]at h⊢
   split
   ·rename_i hc
    rw[if_pos hc]at h
    cases hm2:G7 R tab op (k1+1)with
    |error e=>rw[hm2]at h;cases h
    |ok p=>
     rw[hm2]at h
     rw[H.memb hm2]
     exact h
   ·rename_i hc
    rw[if_neg hc]at h
    exact h
theorem U4.items (H:U4 R R'){tab:List (ByteArray×List R2)}{op:Nat}:∀(f f' k:Nat) (l:List R2) (r:List R2×Nat),k<=R.length->R.length+1<=k+f->R.length+1<=k+f'->F1 R tab op f k l=.ok r->F1 R' tab op f' k l=.ok r
 |0,_,k,l,r,hk,h,_,_=>by omega
 |_,0,k,l,r,hk,_,h,_=>by omega
 |f+1,f'+1,k,l,r,hk,h,h',hr=>by
  rw[F1]at hr⊢
  simp only[H.is _ (c:=93) (by decide) (by decide)]
  split at hr
  ·rename_i e
   rw[if_pos e]
   exact hr
  ·rename_i e
   rw[if_neg e]
   cases hi:G6 R tab op k with
   |error e=>rw[hi]at hr;cases hr
   |ok p=>
    obtain⟨m,k1⟩:=p
    have:=V6 hi
    rw[hi]at hr
    rw[H.item hi]
    exact H.items f f' k1 _ r (by omega) (by omega) (by omega) hr
theorem U4.class2_ (H:U4 R R'){tab:List (ByteArray×List R2)}{op k:Nat}{r:List R2×Nat}(h:G2 R tab op k=.ok r):G2 R' tab op k=.ok r:=by
 unfold G2 at h⊢
 cases hi:G6 R tab op k with
 |error e=>rw[hi]at h;cases h
 |ok p=>
  obtain⟨m,k1⟩:=p
  have:=V6 hi
  have:=H.len
  rw[hi]at h
  rw[H.item hi]
  exact H.items _ _ k1 _ r (by omega) (by omega) (by omega) h
theorem U4.turn (H:U4 R R'){tab:List (ByteArray×List R2)}{op k:Nat}{neg:Bool}{r:List R2×Nat}(h:Bn neg (G2 R tab op k)=.ok r):Bn neg (G2 R' tab op k)=.ok r:=by
 cases hc:G2 R tab op k with
 |error e=>rw[hc]at h;cases h
 |ok p=>rw[H.class2_ hc];rw[hc]at h;exact h
theorem U4.cls (H:U4 R R'){tab:List (ByteArray×List R2)}{op k:Nat}{r:List R2×Nat}(h:E0 R tab op k=.ok r):E0 R' tab op k=.ok r:=by
 unfold E0 at h⊢
 simp only[H.is _ (c:=94) (by decide) (by decide)]
 split at h
 ·rename_i e
  rw[if_pos e]
  exact H.turn h
 ·rename_i e
  rw[if_neg e]
  exact H.turn h
theorem U4.letters (H:U4 R R'):∀(m k:Nat) (f:Fl),C3 R' m k f=C3 R m k f
 |0,k,f=>rfl
 |m+1,k,f=>by
  rw[C3,C3]
  simp only[H.is _ (c:=105) (by decide) (by decide),H.is _ (c:=109) (by decide) (by decide),H.is _ (c:=115) (by decide) (by decide),H.is _ (c:=85) (by decide) (by decide),H.letters m]
theorem U4.flags (H:U4 R R')(f:Fl)(k:Nat):x9 R' f k=x9 R f k:=by
 unfold x9
 simp only[H.letters,H.is _ (c:=45) (by decide) (by decide)]
def PF {α:Type}(r:α)(s:PR α):Prop:=s=.ok r∨∃j,s=.error (21,j)
def VV (R:List Int)(a a':A8):Prop:=∀st r,st.k<=R.length->a st=.ok r->PF r (a' st)
theorem U4.withs (H:U4 R R'){a a':A8}(HA:VV R a a'){k0:Nat}{st:St}{f:Fl}{r:Nd×St}(hk:st.k<=R.length)(h:D8 R a k0 st f=.ok r):PF r (D8 R' a' k0 st f):=by
 unfold D8 at h⊢
 split at h
 ·cases h
 ·rename_i x s1 e
  rcases HA {st with f:=f} _ hk e with g|⟨j,g⟩
  ·rw[g]
   split at h
   ·rename_i e2
    left
    simp only
    rw[H.same _ (by rw[e2];decide),if_pos e2]
    exact h
   ·cases h
  ·rw[g]
   exact .inr ⟨j,rfl⟩
theorem U4.group (H:U4 R R'){a a':A8}(HA:VV R a a'){k0:Nat}{st:St}{n:ByteArray}{r:Nd×St}(hk:st.k<=R.length)(h:G5 R a k0 st n=.ok r):PF r (G5 R' a' k0 st n):=by
 unfold G5 at h⊢
 split at h
 ·cases h
 ·rename_i x s1 e
  rcases H.withs (st:= {st with ns:=st.ns++ [n]}) HA hk e with g|⟨j,g⟩
  ·rw[g]
   exact .inl h
  ·rw[g]
   exact .inr ⟨j,rfl⟩
theorem U4.name (H:U4 R R')(k0:Nat)(ns:List ByteArray)(k:Nat):W3 R' k0 ns k=W3 R k0 ns k:=by
 unfold W3
 simp only[H.is _ (c:=60) (by decide) (by decide),H.is _ (c:=62) (by decide) (by decide),H.run (p:=C2) rfl rfl]
def UE (R:List Int):Option A8->Option A8->Prop
 |_,none=>True
 |some a,some a'=>VV R a a'
 |none,some _=>False
def UC (r:PR (Nd×St)):PR (Option Nd×St):=match r with
 | .error e=>.error e
 | .ok (x,s1)=>.ok (some x,s1)
theorem EB {s s':PR (Nd×St)}{r:Option Nd×St}(h:UC s=.ok r)(g:∀q,s=.ok q->PF q s'):PF r (UC s'):=by
 cases s with
 |error e=>cases h
 |ok q=>
  rcases g q rfl with e|⟨j,e⟩
  ·rw[e];exact .inl h
  ·rw[e];exact .inr ⟨j,rfl⟩
theorem U4.brack (H:U4 R R'){u u':Option A8}(HU:UE R u u'){st:St}{r:Option Nd×St}(hk:st.k<R.length)(h:p7 R u st=.ok r):PF r (p7 R' u' st):=by
 match u,u',HU with
 |_,none,_=>exact .inr ⟨_,rfl⟩
 |some a,some a',HA=>
  unfold p7 at h⊢
  simp only[H.is _ (c:=63) (by decide) (by decide),H.is _ (c:=80) (by decide) (by decide),H.is _ (c:=58) (by decide) (by decide),H.name,H.flags]at h⊢
  split at h
  ·rename_i e1
   have g1:=j9 e1 (by decide)
   rw[if_pos e1]
   split at h
   ·rename_i e2
    rw[if_pos e2]
    split at h
    ·cases h
    ·rename_i hn
     exact EB h (fun q e=>H.group HA (Ak hn).2 e)
   ·rename_i e2
    rw[if_neg e2]
    split at h
    ·rename_i e3
     have g3:=j9 e3 (by decide)
     rw[if_pos e3]
     exact EB h (fun q e=>H.withs HA (by simp only;omega) e)
    ·rename_i e3
     rw[if_neg e3]
     split at h
     ·rename_i e4
      have g4:=j9 e4.2 (by decide)
      rw[if_pos e4]
      exact EB h (fun q e=>H.withs HA (by simp only;omega) e)
     ·rename_i e4
      rw[if_neg e4]
      split at h
      ·rename_i e5
       rw[if_pos ⟨e5.1,by rw[H.same _ (by rw[e5.2];decide)];exact e5.2⟩]
       exact .inl h
      ·cases h
  ·rename_i e1
   rw[if_neg e1]
   exact EB h (fun q e=>H.group HA (by simp only;omega) e)
theorem U4.stroke (H:U4 R R'){tab:List (ByteArray×List R2)}{st:St}{r:Option Nd×St}(h:u4 R tab st=.ok r):u4 R' tab st=.ok r:=by
 unfold u4 at h⊢
 by_cases e:g7 R (st.k+1)= -1
 ·rw[e]at h
  unfold J7 L3 at h
  rw[e]at h
  exact absurd h (by simp[AA])
 ·rw[H.same _ e]
  unfold J7 at h⊢
  split at h
  ·rename_i e1;rw[if_pos e1];exact h
  rename_i e1;rw[if_neg e1]
  split at h
  ·rename_i e1;rw[if_pos e1];exact h
  rename_i e1;rw[if_neg e1]
  split at h
  ·rename_i e1;rw[if_pos e1];exact h
  rename_i e1;rw[if_neg e1]
  split at h
  ·rename_i e1;rw[if_pos e1];exact h
  rename_i e1;rw[if_neg e1]
  split at h
  ·cases h
  ·rename_i hm
   rw[H.esc hm]
   exact h
theorem U4.atom (H:U4 R R'){tab:List (ByteArray×List R2)}{u u':Option A8}(HU:UE R u u'){st:St}{r:Option Nd×St}(hk:st.k<R.length)(h:F9 R tab u st=.ok r)(hne:g7 R st.k≠ -1):PF r (F9 R' tab u' st):=by
 unfold F9 at h⊢
 rw[H.same _ hne]
 unfold Bt at h⊢
 split at h
 ·rename_i e1;rw[if_pos e1];exact H.brack HU hk h
 rename_i e1;rw[if_neg e1]
 split at h
 ·rename_i e1
  rw[if_pos e1]
  left
  unfold FW at h⊢
  split at h
  ·cases h
  ·rename_i hm
   rw[H.cls hm]
   exact h
 rename_i e1;rw[if_neg e1]
 split at h
 ·rename_i e1;rw[if_pos e1];exact .inl (H.stroke h)
 rename_i e1;rw[if_neg e1]
 exact .inl h
theorem U4.rep (H:U4 R R')(x:Nd)(st:St):Z7 R' x st=Z7 R x st:=by
 unfold Z7
 rw[H.quant]
theorem U4.piece (H:U4 R R'){tab:List (ByteArray×List R2)}{u u':Option A8}(HU:UE R u u'){st:St}{r:Option Nd×St}(hk:st.k<R.length)(hne:g7 R st.k≠ -1)(h:C7 R tab u st=.ok r):PF r (C7 R' tab u' st):=by
 unfold C7 at h⊢
 rw[H.bound]
 split at h
 ·cases h
 ·cases ha:F9 R tab u st with
  |error e=>rw[ha]at h;cases h
  |ok p=>
   rw[ha]at h
   rcases H.atom HU hk ha hne with g|⟨j,g⟩
   ·simp only[g,H.rep]
    exact .inl h
   ·simp only[g]
    exact .inr ⟨j,rfl⟩
theorem U4.row (H:U4 R R'){tab:List (ByteArray×List R2)}{u u':Option A8}(HU:UE R u u')(HF:∀f,u=some f->Ah R f):∀(f f':Nat) (st:St) (l:List Nd) (r:List Nd×St),st.k<=R.length->R.length+1<=st.k+f->R.length+1<=st.k+f'->I1 R tab u f st l=.ok r->PF r (I1 R' tab u' f' st l)
 |0,_,st,l,r,hk,h,_,_=>by omega
 |_,0,st,l,r,hk,_,h,_=>by omega
 |f+1,f'+1,st,l,r,hk,h,h',hr=>by
  rw[I1]at hr⊢
  have hE:Y3 (g7 R' st.k)=Y3 (g7 R st.k):=by
   by_cases e:g7 R st.k= -1
   ·rw[e]
    rcases H.out _ e with g|g<;>rw[g]<;>rfl
   ·rw[H.same _ e]
  rw[hE]
  split at hr
  ·rename_i e
   rw[if_pos e]
   exact .inl hr
  ·rename_i he
   rw[if_neg he]
   have hne:g7 R st.k≠ -1:=fun e=>he (by rw[e];rfl)
   have hlt:st.k<R.length:=I6 hne
   cases hp:C7 R tab u st with
   |error e=>rw[hp]at hr;cases hr
   |ok p=>
    obtain⟨o,s1⟩:=p
    rw[hp]at hr
    have:=P7 HF hlt hp
    rcases H.piece HU hlt hne hp with g|⟨j,g⟩
    ·rw[g]
     cases o with
     |none=>exact H.row HU HF f f' s1 l r (by omega) (by omega) (by omega) hr
     |some x=>exact H.row HU HF f f' s1 _ r (by omega) (by omega) (by omega) hr
    ·rw[g]
     exact .inr ⟨j,rfl⟩
theorem U4.cat (H:U4 R R'){tab:List (ByteArray×List R2)}{u u':Option A8}(HU:UE R u u')(HF:∀f,u=some f->Ah R f):VV R (G9 R tab u) (G9 R' tab u'):=by
 intro st r hk h
 unfold G9 at h⊢
 have:=H.len
 cases hr:I1 R tab u (R.length+1) st []with
 |error e=>rw[hr]at h;cases h
 |ok p=>
  rw[hr]at h
  rcases H.row HU HF (R.length+1) (R'.length+1) st [] p hk (by omega) (by omega) hr with g|⟨j,g⟩
  ·rw[g];exact .inl h
  ·rw[g];exact .inr ⟨j,rfl⟩
theorem U4.alts (H:U4 R R'){tab:List (ByteArray×List R2)}{u u':Option A8}(HU:UE R u u')(HF:∀f,u=some f->Ah R f):∀(f f':Nat) (st:St) (l:List Nd) (r:Nd×St),st.k<=R.length->R.length+1<=st.k+f->R.length+1<=st.k+f'->J4 R tab u f st l=.ok r->PF r (J4 R' tab u' f' st l)
 |0,_,st,l,r,hk,h,_,_=>by omega
 |_,0,st,l,r,hk,_,h,_=>by omega
 |f+1,f'+1,st,l,r,hk,h,h',hr=>by
  rw[J4]at hr⊢
  simp only[H.is _ (c:=124) (by decide) (by decide)]
  split at hr
  ·rename_i e
   have hlt:=j9 e (by decide)
   rw[if_pos e]
   cases hp:G9 R tab u {st with k:=st.k+1} with
   |error e=>rw[hp]at hr;cases hr
   |ok p=>
    obtain⟨x,s1⟩:=p
    rw[hp]at hr
    have:=I8 HF _ _ _ (by simp only;omega) hp
    simp only at this
    rcases H.cat HU HF _ _ (by simp only;omega) hp with g|⟨j,g⟩
    ·rw[g]
     exact H.alts HU HF f f' s1 _ r (by omega) (by omega) (by omega) hr
    ·rw[g]
     exact .inr ⟨j,rfl⟩
  ·rename_i e
   rw[if_neg e]
   exact .inl hr
theorem U4.altB_ (H:U4 R R'){tab:List (ByteArray×List R2)}{u u':Option A8}(HU:UE R u u')(HF:∀f,u=some f->Ah R f):VV R (S1 R tab u) (S1 R' tab u'):=by
 intro st r hk h
 unfold S1 at h⊢
 have:=H.len
 cases hp:G9 R tab u st with
 |error e=>rw[hp]at h;cases h
 |ok p=>
  obtain⟨x,s1⟩:=p
  rw[hp]at h
  have:=I8 HF _ _ _ hk hp
  rcases H.cat HU HF _ _ hk hp with g|⟨j,g⟩
  ·rw[g]
   exact H.alts HU HF _ _ s1 _ r (by omega) (by omega) (by omega) h
  ·rw[g]
   exact .inr ⟨j,rfl⟩
theorem U4.altN_ (H:U4 R R')(tab:List (ByteArray×List R2)):∀m,VV R (B7 R tab (m+1)) (B7 R' tab m)
 |0=>fun st r hk h=>by
  have h:S1 R tab (some (B7 R tab 0)) st=.ok r:=h
  show PF r (S1 R' tab none st)
  exact H.altB_ (u:=some _) (u':=none) trivial (fun f e=>by cases e;exact B8 R tab 0) st r hk h
 |m+1=>fun st r hk h=>by
  have h:S1 R tab (some (B7 R tab (m+1))) st=.ok r:=h
  show PF r (S1 R' tab (some (B7 R' tab m)) st)
  exact H.altB_ (u:=some _) (u':=some _) (H.altN_ tab m) (fun f e=>by cases e;exact B8 R tab (m+1)) st r hk h
end
end Go.Proofs.YtdhhcefmmojcmaaGreatDoor
