/- Texts of this proof, one behind the other. -/
import Derived.Test.YtdhhcefmmojcmaaGreatDoorM10
import Derived.Test.YtdhhcefmmojcmaaGreatDoorM1
import Derived.Test.YtdhhcefmmojcmaaGreatDoorM30
import Derived.Test.YtdhhcefmmojcmaaGreatDoorVm
set_option maxRecDepth 100000
set_option maxHeartbeats 0
set_option linter.unusedVariables false
namespace Go.Proofs.YtdhhcefmmojcmaaGreatDoor
open Go.ChangeShapes Go.WideShapes Go.ChangeAt Go.RowKit
open Go.Lib
theorem MR:laidOutB Tryz.prog=true:=by kernel_rfl
theorem GF {H:Type}{enc:TypeId×Value->H}{W:World}{base b0:Nat}{sp:Nat->Bool}{held:Bool}{r:Reach}{v:Value}{d:DataW H}{ps:List MemPlace}(hv:Value.okWide Tryz.prog W r b0 22 v)(hd:DataW.Trod enc Tryz.prog W base sp held 22 v d ps):∃b0 b1 b2 b3,v=.agg #[.bool b0,.bool b1,.bool b2,.bool b3]:=by
 have hc4:Tryz.prog.cellsOf 4=1:=by kernel_rfl
 have hc22:Tryz.prog.cellsOf 22=4:=by kernel_rfl
 simp only[Value.okWide,Tryz.underlying22]at hv
 obtain⟨xs,rfl,hn,_⟩:=hv
 rw[hc22]at hn
 obtain⟨fuel,hf0⟩:=hd
 obtain⟨l⟩:=xs
 match l,hn with
 | [a0,a1,a2,a3],_=>
   obtain⟨zs0,m0,_,hy0,_,hl0,he0⟩:=DataW.trod_array (P:=Tryz.prog) Tryz.underlying22 hf0
   rw[hc4]at he0
   match zs0,hl0,he0 with
   | [p0,p1,p2,p3],_,he0=>
     obtain⟨b0,e0,_⟩:=DataW.trod_bool (P:=Tryz.prog) Tryz.underlying4 (he0 0 (by decide))
     obtain rfl:a0=.bool b0:=by simpa [Value.cells]using e0
     obtain⟨b1,e1,_⟩:=DataW.trod_bool (P:=Tryz.prog) Tryz.underlying4 (he0 1 (by decide))
     obtain rfl:a1=.bool b1:=by simpa [Value.cells]using e1
     obtain⟨b2,e2,_⟩:=DataW.trod_bool (P:=Tryz.prog) Tryz.underlying4 (he0 2 (by decide))
     obtain rfl:a2=.bool b2:=by simpa [Value.cells]using e2
     obtain⟨b3,e3,_⟩:=DataW.trod_bool (P:=Tryz.prog) Tryz.underlying4 (he0 3 (by decide))
     obtain rfl:a3=.bool b3:=by simpa [Value.cells]using e3
     exact⟨b0,b1,b2,b3,rfl⟩
end Go.Proofs.YtdhhcefmmojcmaaGreatDoor
namespace Go.Proofs.YtdhhcefmmojcmaaGreatDoor
open Go.RowKit Go.Lib
def U6 (R R':List Int)(n:Nat):Prop:=∀k,g7 R' (k+n)=g7 R k
theorem Np (pre R:List Int):U6 R (pre++R) pre.length:=by
 intro k
 unfold g7
 rw[List.getElem?_append_right (by omega),Nat.add_sub_cancel]
section
variable {R R' : List Int} {n : Nat}
theorem U6.a1 (H:U6 R R' n)(k a:Nat):g7 R' (k+n+a)=g7 R (k+a):=by rw[Nat.add_right_comm];exact H _
theorem U6.a2 (H:U6 R R' n)(k a b:Nat):g7 R' (k+n+a+b)=g7 R (k+a+b):=by rw[Nat.add_right_comm k,Nat.add_right_comm];exact H _
theorem Dw {α:Sort _}{c:Prop}[Decidable c]{a a' b b':α}(h:c->a=a')(k:¬c->b=b'):(if c then a else b)=(if c then a' else b'):=by
 by_cases hc:c
 ·rw[if_pos hc,if_pos hc];exact h hc
 ·rw[if_neg hc,if_neg hc];exact k hc
def Ft {α:Type}(n:Nat):PR (α×Nat)->PR (α×Nat)
 | .error (c,j)=>.error (c,j+n)
 | .ok (x,k)=>.ok (x,k+n)
def UB {α β:Type}(n:Nat):PR (α×β×Nat)->PR (α×β×Nat)
 | .error (c,j)=>.error (c,j+n)
 | .ok (x,y,k)=>.ok (x,y,k+n)
def St.sh (n:Nat)(st:St):St:=⟨st.k+n,st.f,st.ns⟩
def FQ {α:Type}(n:Nat):PR (α×St)->PR (α×St)
 | .error (c,j)=>.error (c,j+n)
 | .ok (x,st)=>.ok (x,st.sh n)
theorem U6.digs_ (H:U6 R R' n):∀(f k:Nat),M3 R' f (k+n)=M3 R f k
 |0,k=>rfl
 |f+1,k=>by
  rw[M3,M3,H,Nat.add_right_comm,H.digs_ f (k+1)]
theorem U6.run (H:U6 R R' n)(p:Int->Bool):∀(f k:Nat),l6 R' p f (k+n)=l6 R p f k
 |0,k=>rfl
 |f+1,k=>by
  rw[l6,l6,H,Nat.add_right_comm,H.run p f (k+1)]
theorem U6.nums (H:U6 R R' n)(k:Nat):S7 R' (k+n)=(S7 R k).map fun(a,b,k1)=>(a,b,k1+n):=by
 unfold S7
 simp only[H.digs_,H.a1,H.a2,apply_ite (Option.map _),Option.map_some,Option.map_none]
 generalize M3 R 4 k=l
 rw[show k+n+l.length+1=(k+l.length+1)+n by omega,H.digs_,H.a1]
 generalize M3 R 4 (k+l.length+1)=m
 refine Dw (fun _=>rfl) (fun _=>Dw (fun _=>?_) (fun _=>Dw (fun _=>Dw (fun _=>?_) (fun _=>Dw (fun _=>rfl) (fun _=>Dw (fun _=>?_) (fun _=>rfl)))) (fun _=>rfl)))
 ·congr 3<;>omega
 ·congr 3<;>omega
 ·congr 3<;>omega
theorem U6.bound (H:U6 R R' n)(k:Nat):o8 R' (k+n)=(o8 R k).map fun(a,b,k1)=>(a,b,k1+n):=by
 unfold o8
 simp only[H k,apply_ite (Option.map _),Option.map_some,Option.map_none,<-H.nums]
 rw[Nat.add_right_comm]
def WW (n:Nat):PR (Option (Int×Int×Bool×Nat))->PR (Option (Int×Int×Bool×Nat))
 | .error (c,j)=>.error (c,j+n)
 | .ok none=>.ok none
 | .ok (some (a,b,z,k))=>.ok (some (a,b,z,k+n))
theorem U6.quant (H:U6 R R' n)(u:Bool)(k:Nat):C8 R' u (k+n)=WW n (C8 R u k):=by
 unfold C8
 rw[H.bound]
 cases o8 R k with
 |none=>rfl
 |some p=>
  obtain⟨a,b,k1⟩:=p
  simp only[Option.map_some,H k1,apply_ite (WW n)]
  simp only[WW]
  rw[Nat.add_right_comm]
theorem U6.code (H:U6 R R' n)(k0 k:Nat):J9 R' (k0+n) (k+n)=Ft n (J9 R k0 k):=by
 unfold J9
 simp only[H k]
 rw[show k+n+1=(k+1)+n by omega,H.run,H.run]
 simp only[H.a1,apply_ite (Ft n)]
 simp only[Ft]
 generalize l6 R p6 6 (k+1)=l
 refine Dw (fun _=>Dw (fun _=>?_) (fun _=>rfl)) (fun _=>Dw (fun _=>?_) (fun _=>rfl))
 ·congr 2
  omega
 ·congr 2
  omega
theorem Fr {p:Int->Bool}(hp:p (-1)=false):∀(f f' k:Nat),R.length<=k+f->R.length<=k+f'->l6 R p f k=l6 R p f' k
 |0,0,k,_,_=>rfl
 |0,f'+1,k,h,_=>by
  rw[l6,l6,Bi (by omega),hp]
  rfl
 |f+1,0,k,_,h=>by
  rw[l6,l6,Bi (by omega),hp]
  rfl
 |f+1,f'+1,k,h,h'=>by
  rw[l6,l6,Fr hp f f' (k+1) (by omega) (by omega)]
theorem U6.named (H:U6 R R' n)(hl:R'.length=R.length+n)(tab:List (ByteArray×List R2))(k0:Nat)(neg:Bool)(k:Nat):E7 R' tab (k0+n) neg (k+n)=Ft n (E7 R tab k0 neg k):=by
 unfold E7
 simp only[H k]
 rw[show k+n+1=(k+1)+n by omega,H.run,Fr (R:=R) (p:=u5) rfl R'.length R.length (k+1) (by omega) (by omega)]
 simp only[H.a1,apply_ite (Ft n)]
 generalize l6 R u5 R.length (k+1)=l
 refine Dw (fun _=>?_) (fun _=>rfl)
 cases s5 (i7 l) tab with
 |none=>rfl
 |some m=>
  simp only[apply_ite (Ft n)]
  simp only[Ft]
  refine Dw (fun _=>?_) (fun _=>rfl)
  congr 2
  omega
theorem U6.esc (H:U6 R R' n)(hl:R'.length=R.length+n)(tab:List (ByteArray×List R2))(k0 k:Nat):L3 R' tab (k0+n) (k+n)=UB n (L3 R tab k0 k):=by
 unfold L3
 rw[H k]
 unfold AA
 have e1:k+n+1=(k+1)+n:=by omega
 simp only[e1,H.named hl,H.code]
 rcases E7 R tab k0 (decide (g7 R k=80)) (k+1)with⟨c,j⟩|⟨l,k1⟩<;>rcases J9 R k0 (k+1)with⟨c2,j2⟩|⟨l2,k2⟩<;>simp only[apply_ite (UB n)]<;>simp only[UB,Ft]
theorem U6.memb (H:U6 R R' n)(hl:R'.length=R.length+n)(tab:List (ByteArray×List R2))(op k:Nat):G7 R' tab (op+n) (k+n)=UB n (G7 R tab op k):=by
 unfold G7
 simp only[H k]
 rw[show k+n+1=(k+1)+n by omega,H.esc hl]
 simp only[apply_ite (UB n)]
 simp only[UB]
theorem U6.item (H:U6 R R' n)(hl:R'.length=R.length+n)(tab:List (ByteArray×List R2))(op k:Nat):G6 R' tab (op+n) (k+n)=Ft n (G6 R tab op k):=by
 unfold G6
 rw[H.memb hl]
 cases G7 R tab op k with
 |error e=>rfl
 |ok p=>
  obtain⟨l,o,k1⟩:=p
  cases o with
  |none=>rfl
  |some a=>
   simp only[UB,H k1,H.a1 k1,apply_ite (Ft n)]
   rw[show k1+n+1=(k1+1)+n by omega,H.memb hl]
   refine Dw (fun _=>?_) (fun _=>rfl)
   cases G7 R tab op (k1+1)with
   |error e=>rfl
   |ok p=>
    obtain⟨l2,o2,k2⟩:=p
    cases o2 with
    |none=>rfl
    |some b=>
     simp only[UB,apply_ite (Ft n)]
     rfl
theorem U6.items (H:U6 R R' n)(hl:R'.length=R.length+n)(tab:List (ByteArray×List R2))(op:Nat):∀(f f' k:Nat) (l:List R2),k<=R.length->R.length+1<=k+f->R.length+1<=k+f'->F1 R' tab (op+n) f' (k+n) l=Ft n (F1 R tab op f k l)
 |0,_,k,l,hk,h,_=>by omega
 |_,0,k,l,hk,_,h=>by omega
 |f+1,f'+1,k,l,hk,h,h'=>by
  rw[F1,F1,H k,H.item hl]
  simp only[apply_ite (Ft n)]
  refine Dw (fun _=>?_) (fun _=>?_)
  ·simp only[Ft]
   congr 2
   omega
  ·cases hi:G6 R tab op k with
   |error e=>rfl
   |ok p=>
    obtain⟨m,k1⟩:=p
    have:=V6 hi
    exact H.items hl tab op f f' k1 (l++m) (by omega) (by omega) (by omega)
theorem U6.class2_ (H:U6 R R' n)(hl:R'.length=R.length+n)(tab:List (ByteArray×List R2))(op k:Nat):G2 R' tab (op+n) (k+n)=Ft n (G2 R tab op k):=by
 unfold G2
 rw[H.item hl]
 cases hi:G6 R tab op k with
 |error e=>rfl
 |ok p=>
  obtain⟨m,k1⟩:=p
  have:=V6 hi
  exact H.items hl tab op _ _ k1 m (by omega) (by omega) (by omega)
theorem Nv (neg:Bool)(r:PR (List R2×Nat)):Bn neg (Ft n r)=Ft n (Bn neg r):=by
 cases r with
 |error e=>rfl
 |ok p=>rfl
theorem U6.cls (H:U6 R R' n)(hl:R'.length=R.length+n)(tab:List (ByteArray×List R2))(op k:Nat):E0 R' tab (op+n) (k+n)=Ft n (E0 R tab op k):=by
 unfold E0
 rw[H k,show k+n+1=(k+1)+n by omega,H.class2_ hl,H.class2_ hl,Nv,Nv]
 simp only[apply_ite (Ft n)]
theorem U6.letters (H:U6 R R' n):∀(m k:Nat) (f:Fl),C3 R' m (k+n) f=((C3 R m k f).1,(C3 R m k f).2+n)
 |0,k,f=>rfl
 |m+1,k,f=>by
  rw[C3,C3,H k,show k+n+1=(k+1)+n by omega,H.letters m,H.letters m,H.letters m,H.letters m]
  simp only[apply_ite Prod.fst,apply_ite Prod.snd]
  split
  ·rfl
  split
  ·rfl
  split
  ·rfl
  split
  ·rfl
  ·rfl
theorem U6.flags (H:U6 R R' n)(f:Fl)(k:Nat):x9 R' f (k+n)=((x9 R f k).1,(x9 R f k).2.1,(x9 R f k).2.2+n):=by
 unfold x9
 simp only[H.letters,H (C3 R 5 k x7).2]
 rw[show(C3 R 5 k x7).2+n+1=((C3 R 5 k x7).2+1)+n by omega,H.letters]
 split
 ·rfl
 ·rfl
def WL (R:List Int)(n:Nat)(a a':A8):Prop:=∀st,st.k<=R.length->a' (st.sh n)=FQ n (a st)
theorem U6.withs (H:U6 R R' n){a a':A8}(HA:WL R n a a')(k0:Nat)(st:St)(hk:st.k<=R.length)(f:Fl):D8 R' a' (k0+n) (st.sh n) f=FQ n (D8 R a k0 st f):=by
 unfold D8
 rw[show({st.sh n with f:=f}:St)=St.sh n {st with f:=f} from rfl,HA {st with f:=f} hk]
 cases a {st with f:=f} with
 |error e=>rfl
 |ok p=>
  obtain⟨x,s1⟩:=p
  show(if g7 R' (s1.k+n)=41 then _ else _)=_
  simp only[H s1.k]
  split
  ·show Except.ok _=Except.ok _
   simp only[St.sh]
   congr 3
   omega
  ·rfl
theorem U6.group (H:U6 R R' n){a a':A8}(HA:WL R n a a')(k0:Nat)(st:St)(hk:st.k<=R.length)(name:ByteArray):G5 R' a' (k0+n) (st.sh n) name=FQ n (G5 R a k0 st name):=by
 unfold G5
 rw[show({st.sh n with ns:=(st.sh n).ns++ [name]}:St)=St.sh n {st with ns:=st.ns++ [name]} from rfl,show(st.sh n).f=st.f from rfl,H.withs HA k0 {st with ns:=st.ns++ [name]} hk]
 cases D8 R a k0 {st with ns:=st.ns++ [name]} st.f with
 |error e=>rfl
 |ok p=>rfl
theorem U6.name (H:U6 R R' n)(k0:Nat)(ns:List ByteArray)(k:Nat):W3 R' (k0+n) ns (k+n)=Ft n (W3 R k0 ns k):=by
 unfold W3
 simp only[H k]
 rw[show k+n+1=(k+1)+n by omega,H.run]
 have e2:g7 R' (k+1+n+(l6 R C2 32 (k+1)).length)=g7 R (k+1+(l6 R C2 32 (k+1)).length):=H.a1 _ _
 simp only[e2]
 split
 ·split
  ·simp only[Ft]
   congr 2
   omega
  ·rfl
 ·rfl
def UG (R:List Int)(n:Nat):Option A8->Option A8->Prop
 |none,none=>True
 |some a,some a'=>WL R n a a'
 |_,_=>False
theorem EC (r:PR (Nd×St)):(match FQ n r with
 | .error e=>(.error e:PR (Option Nd×St))
 | .ok (x,s1)=>.ok (some x,s1))=FQ n (match r with
 | .error e=>.error e
 | .ok (x,s1)=>.ok (some x,s1)):=by
 cases r with
 |error e=>rfl
 |ok p=>rfl
theorem U6.brack (H:U6 R R' n){u u':Option A8}(HU:UG R n u u')(st:St)(hk:st.k<R.length):p7 R' u' (st.sh n)=FQ n (p7 R u st):=by
 match u,u',HU with
 |none,none,_=>rfl
 |some a,some a',HA=>
  unfold p7
  simp only[St.sh,H.a1]
  simp only[show ∀a,st.k+n+a=(st.k+a)+n from fun a=>by omega,H.name,H.flags]
  split
  ·rename_i e1
   have g1:=j9 e1 (by decide)
   split
   ·cases hn:W3 R st.k st.ns (st.k+3)with
    |error e=>rfl
    |ok p=>
     obtain⟨name,k1⟩:=p
     have e:=H.group HA st.k {st with k:=k1} (Ak hn).2 name
     simp only[Ft,St.sh]at e⊢
     rw[e]
     exact EC _
   split
   ·rename_i _ e2
    have g2:=j9 e2 (by decide)
    have e:=H.withs HA st.k {st with k:=st.k+3} (by simp only;omega) st.f
    simp only[St.sh]at e
    rw[e]
    exact EC _
   ·simp only[H (x9 R st.f (st.k+2)).2.2]
    split
    ·rename_i e3
     have g3:=j9 e3.2 (by decide)
     have e:=H.withs HA st.k {st with k:=(x9 R st.f (st.k+2)).2.2+1} (by simp only;omega) (x9 R st.f (st.k+2)).1
     simp only[St.sh]at e
     rw[show(x9 R st.f (st.k+2)).2.2+n+1=((x9 R st.f (st.k+2)).2.2+1)+n by omega,e]
     exact EC _
    split
    ·simp only[FQ,St.sh]
     congr 3
     omega
    ·rfl
  ·have e:=H.group HA st.k {st with k:=st.k+1} (by simp only;omega) ⟨#[]⟩
   simp only[St.sh]at e
   rw[e]
   exact EC _
theorem UO (st:St)(r:PR (List R2×Nat)):FW (st.sh n) (Ft n r)=FQ n (FW st r):=by
 cases r with
 |error e=>rfl
 |ok p=>rfl
theorem U6.stroke (H:U6 R R' n)(hl:R'.length=R.length+n)(tab:List (ByteArray×List R2))(st:St):u4 R' tab (st.sh n)=FQ n (u4 R tab st):=by
 unfold u4
 simp only[St.sh,H.a1]
 unfold J7
 rw[show st.k+n+2=(st.k+2)+n by omega,show st.k+n+1=(st.k+1)+n by omega,H.esc hl]
 split
 ·rfl
 split
 ·rfl
 split
 ·rfl
 split
 ·rfl
 cases L3 R tab st.k (st.k+1)with
 |error e=>rfl
 |ok p=>rfl
theorem U6.atom (H:U6 R R' n)(hl:R'.length=R.length+n)(tab:List (ByteArray×List R2)){u u':Option A8}(HU:UG R n u u')(st:St)(hk:st.k<R.length):F9 R' tab u' (st.sh n)=FQ n (F9 R tab u st):=by
 unfold F9
 rw[show(st.sh n).k=st.k+n from rfl,H st.k]
 unfold Bt
 rw[show(st.sh n).k=st.k+n from rfl,show st.k+n+1=(st.k+1)+n by omega,H.cls hl,H.brack HU st hk,H.stroke hl,UO]
 split
 ·rfl
 split
 ·rfl
 split
 ·rfl
 split
 ·rfl
 split
 ·rfl
 split
 ·rfl
 ·rfl
theorem U6.rep (H:U6 R R' n)(x:Nd)(st:St):Z7 R' x (st.sh n)=FQ n (Z7 R x st):=by
 unfold Z7
 rw[show(st.sh n).k=st.k+n from rfl,show(st.sh n).f=st.f from rfl,H.quant]
 cases C8 R st.f.u st.k with
 |error e=>rfl
 |ok o=>
  cases o with
  |none=>rfl
  |some p=>rfl
theorem U6.piece (H:U6 R R' n)(hl:R'.length=R.length+n)(tab:List (ByteArray×List R2)){u u':Option A8}(HU:UG R n u u')(st:St)(hk:st.k<R.length):C7 R' tab u' (st.sh n)=FQ n (C7 R tab u st):=by
 unfold C7
 rw[show(st.sh n).k=st.k+n from rfl,H.bound,H.atom hl tab HU st hk]
 cases o8 R st.k with
 |some p=>rfl
 |none=>
  simp only[Option.map_none]
  cases F9 R tab u st with
  |error e=>rfl
  |ok p=>
   obtain⟨o,s1⟩:=p
   cases o with
   |none=>rfl
   |some x=>
    simp only[FQ,H.rep]
    cases Z7 R x s1 with
    |error e=>rfl
    |ok p=>rfl
theorem U6.row (H:U6 R R' n)(hl:R'.length=R.length+n)(tab:List (ByteArray×List R2)){u u':Option A8}(HU:UG R n u u')(HF:∀f,u=some f->Ah R f):∀(f f':Nat) (st:St) (l:List Nd),st.k<=R.length->R.length+1<=st.k+f->R.length+1<=st.k+f'->I1 R' tab u' f' (st.sh n) l=FQ n (I1 R tab u f st l)
 |0,_,st,l,hk,h,_=>by omega
 |_,0,st,l,hk,_,h=>by omega
 |f+1,f'+1,st,l,hk,h,h'=>by
  rw[I1,I1,show(st.sh n).k=st.k+n from rfl,H st.k]
  split
  ·rfl
  ·rename_i he
   have hlt:st.k<R.length:=I6 (fun e=>he (by rw[e];rfl))
   rw[H.piece hl tab HU st hlt]
   cases hp:C7 R tab u st with
   |error e=>rfl
   |ok p=>
    obtain⟨o,s1⟩:=p
    have:=P7 HF hlt hp
    cases o with
    |none=>exact H.row hl tab HU HF f f' s1 l (by omega) (by omega) (by omega)
    |some x=>exact H.row hl tab HU HF f f' s1 (l++ [x]) (by omega) (by omega) (by omega)
theorem U6.cat (H:U6 R R' n)(hl:R'.length=R.length+n)(tab:List (ByteArray×List R2)){u u':Option A8}(HU:UG R n u u')(HF:∀f,u=some f->Ah R f)(st:St)(hk:st.k<=R.length):G9 R' tab u' (st.sh n)=FQ n (G9 R tab u st):=by
 unfold G9
 rw[H.row hl tab HU HF (R.length+1) (R'.length+1) st [] hk (by omega) (by omega)]
 cases I1 R tab u (R.length+1) st []with
 |error e=>rfl
 |ok p=>rfl
theorem U6.alts (H:U6 R R' n)(hl:R'.length=R.length+n)(tab:List (ByteArray×List R2)){u u':Option A8}(HU:UG R n u u')(HF:∀f,u=some f->Ah R f):∀(f f':Nat) (st:St) (l:List Nd),st.k<=R.length->R.length+1<=st.k+f->R.length+1<=st.k+f'->J4 R' tab u' f' (st.sh n) l=FQ n (J4 R tab u f st l)
 |0,_,st,l,hk,h,_=>by omega
 |_,0,st,l,hk,_,h=>by omega
 |f+1,f'+1,st,l,hk,h,h'=>by
  rw[J4,J4,show(st.sh n).k=st.k+n from rfl,H st.k]
  split
  ·rename_i he
   have hlt:st.k<R.length:=j9 he (by decide)
   have e:=H.cat hl tab HU HF {st with k:=st.k+1} (by simp only;omega)
   rw[show({st.sh n with k:=st.k+n+1}:St)=St.sh n {st with k:=st.k+1} by simp only[St.sh];congr 1;omega,e]
   cases hp:G9 R tab u {st with k:=st.k+1} with
   |error e=>rfl
   |ok p=>
    obtain⟨x,s1⟩:=p
    have:=I8 HF _ _ _ (by simp only;omega) hp
    exact H.alts hl tab HU HF f f' s1 (l++ [x]) (by simp only at this;omega) (by simp only at this;omega) (by simp only at this;omega)
  ·rfl
theorem U6.altB_ (H:U6 R R' n)(hl:R'.length=R.length+n)(tab:List (ByteArray×List R2)){u u':Option A8}(HU:UG R n u u')(HF:∀f,u=some f->Ah R f)(st:St)(hk:st.k<=R.length):S1 R' tab u' (st.sh n)=FQ n (S1 R tab u st):=by
 unfold S1
 rw[H.cat hl tab HU HF st hk]
 cases hp:G9 R tab u st with
 |error e=>rfl
 |ok p=>
  obtain⟨x,s1⟩:=p
  have:=I8 HF _ _ _ hk hp
  exact H.alts hl tab HU HF _ _ s1 [x] (by omega) (by omega) (by omega)
theorem U6.altN_ (H:U6 R R' n)(hl:R'.length=R.length+n)(tab:List (ByteArray×List R2)):∀m,WL R n (B7 R tab m) (B7 R' tab m)
 |0=>fun st hk=>by
  rw[B7,B7]
  exact H.altB_ hl tab (u:=none) (u':=none) trivial (fun f e=>by cases e) st hk
 |m+1=>fun st hk=>by
  rw[B7,B7]
  exact H.altB_ hl tab (u:=some _) (u':=some _) (H.altN_ hl tab m) (fun f e=>by cases e;exact B8 R tab m) st hk
end
theorem Tc (pre b:ByteArray)(j:Nat):(pre++b).extract (pre.size+j) (pre++b).size=b.extract j b.size:=by
 apply ByteArray.ext
 rw[ByteArray.data_extract,ByteArray.data_extract,ByteArray.data_append,ByteArray.size_append]
 rw[Array.extract_append]
 have h1:pre.size=pre.data.size:=rfl
 rw[h1]
 simp
theorem Hd (pre b suf:ByteArray)(j:Nat)(h:j<b.size):pre.size+j<(pre++b++suf).size/\l5 (pre++b++suf) (pre.size+j)=l5 b j:=by
 have hs:pre.size+j<(pre++b++suf).size:=by simp[ByteArray.size_append];omega
 refine⟨hs,?_⟩
 unfold l5
 rw[dif_pos hs,dif_pos h]
 congr 1
 rw[ByteArray.getElem_append_left (by simp[ByteArray.size_append];omega),ByteArray.getElem_append_right (by omega)]
 congr 1
 omega
def W2 (s:ByteArray):Nat->Nat->List Int->List Int->Prop
 |i,e,[],[]=>i=e
 |i,e,r::R,p::P=>p=(i:Int)/\i<s.size/\(r8 s 1 i).1=r/\r≠ -1/\W2 s (i+(r8 s 1 i).2) e R P
 |_,_,[],_::_=>False
 |_,_,_::_,[]=>False
theorem RS (s:ByteArray):∀(i:Nat) (R P:List Int),Ge s i R P->W2 s i s.size R P
 |i,[],[],h=>h
 |i,r::R,p::P,⟨h1,h2,h3,h4,h5⟩=>⟨h1,h2,h3,h4,RS s _ R P h5⟩
 |_,[],_::_,h=>h.elim
 |_,_::_,[],h=>h.elim
theorem Ik (s:ByteArray):∀(R P:List Int) (i e k:Nat) (rs ps:List Int) (bad:Nat),W2 s i e R P->s.size<=i+k->
 F8 s 1 true k i rs ps bad=F8 s 1 true (k-R.length) e (rs++R) (ps++P) bad/\s.size<=e+(k-R.length)
 | [],[],i,e,k,rs,ps,bad,h,hk=>by
   have h:i=e:=h
   subst h
   simp[hk]
 |r::R,p::P,i,e,k,rs,ps,bad,⟨h1,h2,h3,h4,h5⟩,hk=>by
  obtain⟨k,rfl⟩:∃j,k=j+1:=⟨k-1,by omega⟩
  have hz:=Af s 1 i
  rw[U0 h2,if_neg (by rw[h3];exact h4)]
  obtain⟨e1,e2⟩:=Ik s R P (i+(r8 s 1 i).2) e k (rs++ [(r8 s 1 i).1]) (ps++ [(i:Int)]) bad h5 (by omega)
  rw[e1,h3,h1,List.append_assoc,List.append_assoc,List.length_cons,Nat.add_sub_add_right]
  exact⟨rfl,e2⟩
 | [],_::_,_,_,_,_,_,_,h,_=>h.elim
 |_::_,[],_,_,_,_,_,_,h,_=>h.elim
theorem Da (s:ByteArray):∀(R P:List Int) (i j e:Nat) (R' P':List Int),W2 s i j R P->W2 s j e R' P'->W2 s i e (R++R') (P++P')
 | [],[],i,j,e,R',P',h,k=>by
   have h:i=j:=h
   subst h
   exact k
 |r::R,p::P,i,j,e,R',P',⟨h1,h2,h3,h4,h5⟩,k=>⟨h1,h2,h3,h4,Da s R P _ j e R' P' h5 k⟩
 | [],_::_,_,_,_,_,_,h,_=>h.elim
 |_::_,[],_,_,_,_,_,h,_=>h.elim
theorem Ez (s:ByteArray):∀(l:List Int) (i:Nat),l.all Aj=true->Lays s i l->W2 s i (i+l.length) l (Aq i l.length)
 | [],i,_,_=>rfl
 |c::l,i,ha,hl=>by
  rw[List.all_cons,Bool.and_eq_true]at ha
  have hc:=ha.1
  unfold Aj at hc
  rw[Bool.and_eq_true,decide_eq_true_eq,decide_eq_true_eq]at hc
  have ht:=FE ha.1 hl
  have hi:=(hl 0 (by simp)).1
  rw[show Aq i (c::l).length=(i:Int)::Aq (i+1) l.length from by simp[Aq,List.range'_succ]]
  refine⟨rfl,hi,by rw[ht],by omega,?_⟩
  rw[ht,List.length_cons,show i+(l.length+1)=i+1+l.length by omega]
  exact Ez s l (i+1) ha.2 (Lays.right (a:=[c]) hl)
theorem Dd {b s:ByteArray}{n:Nat}(hE:∀j,j<b.size->n+j<s.size/\l5 s (n+j)=l5 b j):∀(R P:List Int) (i e:Nat),W2 b i e R P->W2 s (n+i) (n+e) R (P.map fun p=>p+(n:Int))
 | [],[],i,e,h=>by
   have h:i=e:=h
   subst h
   exact rfl
 |r::R,p::P,i,e,⟨h1,h2,h3,h4,h5⟩=>by
  obtain⟨b1,b2,b3⟩:=BM 1 (.inl rfl) b i h2 (by rw[h3];exact h4)
  rw[h3]at b1 b2 b3
  have hs:r8 s 1 (n+i)=(r,(enc 1 r).length):=BO 1 (.inl rfl) s (n+i) r b1 (fun j hj=>by
   have:=b2 j hj
   have h2:=hE (i+j) this.1
   rw[Nat.add_assoc]
   exact⟨h2.1,by rw[h2.2];exact this.2⟩)
  refine⟨by rw[h1];show(i:Int)+(n:Int)=((n+i:Nat):Int);omega,(hE i h2).1,by rw[hs],h4,?_⟩
  rw[hs]
  rw[b3]at h5
  have:=Dd hE R P _ e h5
  rw[<-Nat.add_assoc]at this
  exact this
 | [],_::_,_,_,h=>h.elim
 |_::_,[],_,_,h=>h.elim
theorem Nl {s:ByteArray}{R P:List Int}(f:Fl)(hb:E5 s (mk 1)=false)(hs:s.size<=1024)(h:W2 s 0 s.size R P):
 I0 s f=match S9 R b8 f with
  | .ok r=>.ok r
  | .error (c,j)=>.error ((c:Nat),g7 (P++ [(s.size:Int)]) j):=by
 unfold I0
 have hg:(bg s 1).2=0:=by
  unfold bg
  rw[if_neg (by decide),hb]
  rfl
 rw[if_neg (by omega),hg,(Ik s R P 0 s.size s.size [] [] 0 h (by omega)).1,Ay (Nat.le_refl _)]
 simp only[List.nil_append]
 rcases S9 R b8 f with⟨c,j⟩|r
 ·rfl
 ·rfl
theorem Nb {s:ByteArray}{c:Int}{l:List Int}(hl:Lays s 0 (c::l))(hc:c<128):E5 s (mk 1)=false:=by
 cases hb:E5 s (mk 1)with
 |false=>rfl
 |true=>
  have h:=(AY s (mk 1)).1 hb
  have h0:=h 0 (by decide)
  have e0:(nums (mk 1))[0]=239:=by kernel_rfl
  rw[e0]at h0
  have h1:=hl 0 (by simp)
  simp only[List.getElem_cons_zero]at h1
  omega
theorem Qq (s:ByteArray):∀(k i:Nat) (rs ps:List Int) (bad j:Nat),(F8 s 1 true k i rs ps bad).1=some j->∃R P,W2 s i j R P/\j<s.size/\(r8 s 1 j).1= -1
 |0,i,rs,ps,bad,j,h=>by cases h
 |k+1,i,rs,ps,bad,j,h=>by
  rcases Nat.lt_or_ge i s.size with hlt|hge
  ·rw[U0 hlt]at h
   by_cases hb:(r8 s 1 i).1= -1
   ·rw[if_pos hb,if_pos rfl]at h
    injection h with h
    subst h
    exact⟨[],[],rfl,hlt,hb⟩
   ·rw[if_neg hb]at h
    obtain⟨R,P,h1,h2,h3⟩:=Qq s k _ _ _ _ j h
    exact⟨(r8 s 1 i).1::R,(i:Int)::P,⟨rfl,hlt,rfl,hb,h1⟩,h2,h3⟩
  ·rw[Ay hge]at h
   cases h
theorem PY {s:ByteArray}{R P:List Int}{i e k:Nat}(rs ps:List Int)(bad:Nat)(h:W2 s i e R P)(hk:s.size<=i+k)(he:e<s.size)(hb:(r8 s 1 e).1= -1):F8 s 1 true k i rs ps bad=(some e,[],[],0):=by
 obtain⟨h1,h2⟩:=Ik s R P i e k rs ps bad h hk
 rw[h1]
 obtain⟨m,hm⟩:∃m,k-R.length=m+1:=⟨k-R.length-1,by omega⟩
 rw[hm,U0 he,if_pos hb,if_pos rfl]
theorem Ue {s:ByteArray}{R P:List Int}{e:Nat}(f:Fl)(hg:E5 s (mk 1)=false)(hs:s.size<=1024)(h:W2 s 0 e R P)(he:e<s.size)(hb:(r8 s 1 e).1= -1):I0 s f=.error (17,(e:Int)):=by
 unfold I0
 have hz:(bg s 1).2=0:=by
  unfold bg
  rw[if_neg (by decide),hg]
  rfl
 rw[if_neg (by omega),hz,PY [] [] 0 h (by omega) he hb]
theorem VP (pre b:ByteArray)(j:Nat):r8 (pre++b) 1 (pre.size+j)=r8 b 1 j:=by
 show DD ((pre++b).extract (pre.size+j) (pre++b).size)=DD (b.extract j b.size)
 rw[Tc]
theorem FI (b:ByteArray)(hb:E5 b (mk 1)=false):(∃R P,W2 b 0 b.size R P/\F8 b 1 true b.size (bg b 1).2 [] [] 0=(none,R,P,0)/\∀c ∈ R,c≠ -1)∨(∃R P e,W2 b 0 e R P/\e<b.size/\(r8 b 1 e).1= -1/\F8 b 1 true b.size (bg b 1).2 [] [] 0=(some e,[],[],0)):=by
 have hz:(bg b 1).2=0:=by
  unfold bg
  rw[if_neg (by decide),hb]
  rfl
 rw[hz]
 cases hd:(F8 b 1 true b.size 0 [] [] 0).1 with
 |none=>
  left
  obtain⟨R,P,h1,h2,h3⟩:=Gn b b.size 0 [] [] 0 (by omega) (by omega) hd
  have hT:=RS b 0 R P h3
  refine⟨R,P,hT,?_,?_⟩
  ·rw[(Ik b R P 0 b.size b.size [] [] 0 hT (by omega)).1,Ay (Nat.le_refl _)]
   rfl
  ·have key:∀(R P:List Int) (i:Nat),W2 b i b.size R P->∀c ∈ R,c≠ -1:=by
    intro R
    induction R with
    |nil=>intro P i _ c hc;cases hc
    |cons r R ih=>
     intro P i h c hc
     match P,h with
     | [],h=>exact h.elim
     |p::P,⟨h1,h2,h3,h4,h5⟩=>
      rcases List.mem_cons.1 hc with rfl|hc
      ·exact h4
      ·exact ih P _ h5 c hc
   exact key R P 0 hT
 |some e=>
  right
  obtain⟨R,P,h1,h2,h3⟩:=Qq b b.size 0 [] [] 0 e hd
  exact⟨R,P,e,h1,h2,h3,PY [] [] 0 h1 (by omega) h2 h3⟩
def Fl.letters (f:Fl):List Int:=(if f.i then[105]else[])++(if f.m then[109]else[])++(if f.s then[115]else[])++(if f.u then[85]else[])
theorem Ok (F:Fl)(hF:F.letters≠ [])(R:List Int)(u:Option A8)(hu:u≠none)(ns:List ByteArray):
 C7 ([40,63]++F.letters++ [41]++R) b8 u ⟨0,x7,ns⟩=.ok (none,⟨F.letters.length+3,F,ns⟩):=by
 obtain⟨a,b,c,d⟩:=F
 cases u with
 |none=>exact absurd rfl hu
 |some u=>
  cases a<;>cases b<;>cases c<;>cases d<;>first
   |exact absurd rfl hF
   |simp[C7,o8,F9,Bt,p7,x9,C3,g7,x7,Fl.letters,Fl.some,Fl.turn]
def Xg (n:Nat):PR (Nd×List ByteArray)->PR (Nd×List ByteArray)
 | .ok r=>.ok r
 | .error (c,j)=>.error (c,j+n)
theorem Tg (F:Fl)(hF:F.letters≠ [])(R:List Int):S9 ([40,63]++F.letters++ [41]++R) b8 x7=Xg (F.letters.length+3) (S9 R b8 F):=by
 obtain⟨n,hn⟩:∃n,n=F.letters.length+3:=⟨_,rfl⟩
 have hp:=fun u hu ns=>Ok F hF R u hu ns
 have H:=Np ([40,63]++F.letters++ [41]) R
 have hpl:([40,63]++F.letters++ [41]:List Int).length=n:=by rw[hn];simp
 rw[hpl]at H
 have q0:g7 ([40,63]++F.letters++ [41]++R) 0=40:=rfl
 have hl:([40,63]++F.letters++ [41]++R).length=R.length+n:=by rw[List.length_append,hpl];omega
 rw[<-hn]at hp⊢
 obtain⟨Q,hQ⟩:∃Q,Q=[40,63]++F.letters++ [41]++R:=⟨_,rfl⟩
 rw[<-hQ]at hp H q0 hl⊢
 have hcat:G9 Q b8 (some (B7 Q b8 31)) ⟨0,x7,[⟨#[]⟩]⟩=FQ n (G9 R b8 (some (B7 R b8 31)) ⟨0,F,[⟨#[]⟩]⟩):=by
  unfold G9
  have hrow:=H.row hl b8 (u:=some (B7 R b8 31)) (u':=some (B7 Q b8 31)) (H.altN_ hl b8 31) (fun f e=>by cases e;exact B8 R b8 31) (R.length+1) Q.length ⟨0,F,[⟨#[]⟩]⟩ [] (by show 0<=_;omega) (by show _<=0+_;omega) (by show _<=0+_;omega)
  rw[I1,if_neg (by rw[q0];decide),hp _ (by simp)]
  simp only
  have e:(⟨0,F,[⟨#[]⟩]⟩:St).sh n=⟨n,F,[⟨#[]⟩]⟩:=by unfold St.sh;simp
  rw[e]at hrow
  rw[hrow]
  cases I1 R b8 (some (B7 R b8 31)) (R.length+1) ⟨0,F,[⟨#[]⟩]⟩ []with
  |error e=>rfl
  |ok p=>rfl
 have halt:B7 Q b8 32 ⟨0,x7,[⟨#[]⟩]⟩=FQ n (B7 R b8 32 ⟨0,F,[⟨#[]⟩]⟩):=by
  show S1 Q b8 (some (B7 Q b8 31)) ⟨0,x7,[⟨#[]⟩]⟩=FQ n (S1 R b8 (some (B7 R b8 31)) ⟨0,F,[⟨#[]⟩]⟩)
  unfold S1
  rw[hcat]
  cases hc:G9 R b8 (some (B7 R b8 31)) ⟨0,F,[⟨#[]⟩]⟩with
  |error e=>rfl
  |ok p=>
   obtain⟨x,s1⟩:=p
   have hw:=I8 (fun f e=>by cases e;exact B8 R b8 31) _ _ _ (by show 0<=_;omega) hc
   exact H.alts hl b8 (u:=some (B7 R b8 31)) (u':=some (B7 Q b8 31)) (H.altN_ hl b8 31) (fun f e=>by cases e;exact B8 R b8 31) (R.length+1) (Q.length+1) s1 [x] hw.2 (by omega) (by omega)
 unfold S9
 rw[halt]
 cases B7 R b8 32 ⟨0,F,[⟨#[]⟩]⟩with
 |error e=>rfl
 |ok p=>
  obtain⟨x,s1⟩:=p
  simp only[FQ,St.sh]
  rw[H s1.k]
  by_cases g:g7 R s1.k= -1
  ·rw[if_pos g,if_pos g]
   rfl
  ·rw[if_neg g,if_neg g]
   rfl
theorem Jt (pre b:ByteArray)(l:List Int)(hl:l.length=pre.size)(h:∀j (hj:j<l.length),(l5 pre j:Int)=l[j]):Lays (pre++b) 0 l:=fun j hj=>by
 have:=Hd ⟨#[]⟩ pre b j (by omega)
 have e:(⟨#[]⟩:ByteArray)++pre++b=pre++b:=by
  apply ByteArray.ext
  simp[ByteArray.data_append]
 rw[e]at this
 have h1:=this.1
 rw[show(⟨#[]⟩:ByteArray).size=0 from rfl]at h1
 refine⟨h1,?_⟩
 have h2:=this.2
 rw[show(⟨#[]⟩:ByteArray).size+j=0+j from rfl]at h2
 rw[h2]
 exact h j hj
theorem Fj {s:ByteArray}{f:Fl}{R P:List Int}(hs:s.size<=1024)(h:F8 s 1 true s.size (bg s 1).2 [] [] 0=(none,R,P,0)):I0 s f=match S9 R b8 f with
 | .ok r=>.ok r
 | .error (c,j)=>.error ((c:Nat),g7 (P++ [(s.size:Int)]) j):=by
 unfold I0
 rw[if_neg (by omega),h]
 simp only
 rcases S9 R b8 f with⟨c,j⟩|r
 ·rfl
 ·rfl
theorem GJ {w:World}{r:Except (Int×Int) (Nd×List ByteArray)}{e:Ending}{w':World}(h:Iw w r e w'):∃(c:j4) (a:Option Addr) (n m:Nat) (f0 f1:Int),e=.returned (.tuple #[.agg #[.int .i64 c.kind,.slice c.sa c.sn c.sc,.bool c.fold,.int .i64 c.min,.int .i64 c.max,.bool c.lazy,.int .i64 c.cap,.string c.name,.slice c.ka c.kn c.kc,.slice a n m],.agg #[.int .i64 f0,.int .i64 f1]])/\b7 (fun _=>False) w w'/\
 ((r=.error (f0,f1)/\n=0)∨∃x ns,r=.ok (x,ns)/\f0=0/\f1=0/\n=ns.length/\TN w' (fun g=>w.heap.size<=g/\g<w'.heap.size) c x):=by
 match r,h with
 | .error (c,i),h=>exact⟨j4.zero,none,0,0,c,i,h.1,h.2,.inl ⟨rfl,rfl⟩⟩
 | .ok (x,ns),⟨c,a,n,m,h1,h2,h3,h4,h5⟩=>
   refine⟨c,a,n,m,0,0,h1,h5,.inr ⟨x,ns,rfl,rfl,rfl,?_,h2⟩⟩
   obtain⟨_,_,hv⟩:=e9 h3
   cases hv
   rfl
theorem GH {w:World}{r:Except (Int×Int) (Nd×List ByteArray)}{e:Ending}{w':World}(h:EF w r e w'):∃(aN:Option Addr) (nN cN:Nat) (p:Int) (an:Option Addr) (nn cn:Nat) (c j:Int),e=.returned (.agg #[.slice aN nN cN,.int .i64 p,.slice an nn cn,.int .i64 c,.int .i64 j])/\b7 (fun _=>False) w w'/\
 ((r=.error (c,j)/\nn=0)∨∃x ns ds q,r=.ok (x,ns)/\c=0/\j=0/\p=((q:Nat):Int)/\nn=ns.length/\NL w' (.slice aN nN cN) ds/\DW w' (fun g=>w.heap.size<=g/\g<w'.heap.size) ds q x):=by
 match r,h with
 | .error (c,j),h=>exact⟨none,0,0,0,none,0,0,c,j,h.1,h.2,.inl ⟨rfl,rfl⟩⟩
 | .ok (x,ns),⟨aN,nN,cN,p,an,cn,ds,h1,h2,h3,h4,h5,h6,h7,h8⟩=>exact⟨aN,nN,cN,(p:Nat),an,ns.length,cn,0,0,h1,h8,.inr ⟨x,ns,ds,p,rfl,rfl,rfl,rfl,rfl,h2,h4⟩⟩
theorem Ew (s:ByteArray):E5 s (mk 1)=(decide (3<=s.size)&&((s.extract 0 3).toList==[239,187,191])):=by
 have e:(mk 1).toList=[239,187,191]:=by rw[Lib.toList_data];rfl
 unfold E5
 rw[e]
 rfl
theorem JW (s:ByteArray):∀(R P:List Int) (i e:Nat),W2 s i e R P->R.length=P.length
 | [],[],_,_,_=>rfl
 |_::R,_::P,_,e,⟨_,_,_,_,h5⟩=>by
  have:=JW s R P _ e h5
  simp[this]
 | [],_::_,_,_,h=>h.elim
 |_::_,[],_,_,h=>h.elim
def Xd (n:Nat):Except (Int×Int) (Nd×List ByteArray)->Except (Int×Int) (Nd×List ByteArray)
 | .ok r=>.ok r
 | .error (c,j)=>.error (c,j+(n:Int))
theorem Vj (A P:List Int)(n:Nat)(hA:A.length=n)(z:Int)(j:Nat)(hj:j<=P.length):g7 (A++P.map (fun p=>p+(n:Int))++ [z+(n:Int)]) (j+n)=g7 (P++ [z]) j+(n:Int):=by
 unfold g7
 rw[List.append_assoc,List.getElem?_append_right (by omega),show j+n-A.length=j by omega]
 rcases Nat.lt_or_ge j P.length with g|g
 ·rw[List.getElem?_append_left (by rw[List.length_map];exact g),List.getElem?_append_left g,List.getElem?_map,List.getElem?_eq_getElem g]
  rfl
 ·obtain rfl:j=P.length:=by omega
  rw[List.getElem?_append_right (by rw[List.length_map];exact Nat.le_refl _),List.getElem?_append_right (Nat.le_refl _),List.length_map,Nat.sub_self]
  rfl
theorem Tt (F:Fl):([40,63]++F.letters++ [41]:List Int).all Aj=true:=by
 obtain⟨a,b,c,d⟩:=F
 cases a<;>cases b<;>cases c<;>cases d<;>rfl
theorem Th {s:ByteArray}(h1:s.size<=1000)(hb:E5 s (mk 1)=false)(F:Fl)(hF:F.letters≠ []):
 I0 (i7 ([40,63]++F.letters++ [41])++s) x7=Xd (F.letters.length+3) (I0 s F):=by
 obtain⟨l,hl⟩:∃l,l=([40,63]++F.letters++ [41]:List Int):=⟨_,rfl⟩
 obtain⟨n,hn⟩:∃n,n=F.letters.length+3:=⟨_,rfl⟩
 have hln:l.length=n:=by rw[hl,hn];simp
 have ha:l.all Aj=true:=by rw[hl];exact Tt F
 have hF4:F.letters.length<=4:=by
  obtain⟨a,b,c,d⟩:=F
  cases a<;>cases b<;>cases c<;>cases d<;>decide
 have hz:=(CC l ha).2
 have hby:=(CC l ha).1
 have hl0:∃t,l=40::t:=by rw[hl];exact⟨_,rfl⟩
 have hpat:=fun R=>Tg F hF R
 rw[<-hn,<-hl]
 simp only[<-hl,<-hn]at hpat
 obtain⟨S,hS⟩:∃S,S=i7 l++s:=⟨_,rfl⟩
 have hsz:S.size=s.size+n:=by rw[hS,ByteArray.size_append,hz,hln];omega
 have L1:Lays S 0 l:=by
  rw[hS]
  exact Jt _ _ _ hz.symm (fun j hj=>by have:=(hby j hj).2;rw[Nat.zero_add]at this;exact this)
 have hng:E5 S (mk 1)=false:=by
  obtain⟨t,ht⟩:=hl0
  rw[ht]at L1
  exact Nb L1 (by decide)
 have hE:∀j,j<s.size->n+j<S.size/\l5 S (n+j)=l5 s j:=fun j hj=>by
  have h:=Hd (i7 l) s ⟨#[]⟩ j hj
  have e:i7 l++s++(⟨#[]⟩:ByteArray)=S:=by
   rw[hS]
   apply ByteArray.ext
   simp[ByteArray.data_append]
  rw[e,hz,hln]at h
  exact h
 have hpre:=Ez S l 0 ha L1
 rw[Nat.zero_add,hln]at hpre
 rw[<-hS]
 rcases FI s hb with⟨R,P,hT,hd,hR⟩|⟨R,P,e,hT,he,hbad,hd⟩
 ·rw[Fj (by omega) hd]
  have hM:=Dd hE R P 0 s.size hT
  rw[Nat.add_zero]at hM
  have hSeg:=Da S l (Aq 0 n) 0 n (n+s.size) R _ hpre hM
  rw[Nl x7 hng (by omega) (by rw[hsz,Nat.add_comm s.size n];exact hSeg),hpat R]
  cases hp:S9 R b8 F with
  |ok r=>rfl
  |error q=>
   obtain⟨c,j⟩:=q
   have hj:=(LV b8 F c j hp).2
   have hlen:=JW s R P 0 s.size hT
   have hk:=Vj (Aq 0 n) P n (by simp[Aq]) (s.size:Int) j (by omega)
   show(Except.error ((c:Nat),g7 (Aq 0 n++P.map (fun p=>p+(n:Int))++ [(S.size:Int)]) (j+n)):Except (Int×Int) (Nd×List ByteArray))=.error ((c:Nat),g7 (P++ [(s.size:Int)]) j+(n:Int))
   rw[hsz,show((s.size+n:Nat):Int)=(s.size:Int)+(n:Int)by omega,hk]
 ·have h2:I0 s F=.error (17,(e:Int)):=by
   unfold I0
   rw[if_neg (by omega),hd]
  have hM:=Dd hE R P 0 e hT
  rw[Nat.add_zero]at hM
  have hSeg:=Da S l (Aq 0 n) 0 n (n+e) R _ hpre hM
  have htk:(r8 S 1 (n+e)).1= -1:=by
   have:=VP (i7 l) s e
   rw[hz,hln,<-hS]at this
   rw[this]
   exact hbad
  rw[h2,Ue x7 hng (by omega) hSeg (by omega) htk]
  show(Except.error (17,((n+e:Nat):Int)):Except (Int×Int) (Nd×List ByteArray))=.error (17,(e:Int)+(n:Int))
  rw[show((n+e:Nat):Int)=(e:Int)+(n:Int)by omega]
theorem VB {s:ByteArray}{f:Fl}{c j:Int}(hs:s.size<=1000)(hb:E5 s (mk 1)=false)(h:I0 s f=.error (c,j)):0<=j/\j<=1024:=by
 rcases FI s hb with⟨R,P,hT,hd,hR⟩|⟨R,P,e,hT,he,hbad,hd⟩
 ·have hgd:=(Gg s 1 (by decide)).2.2
  obtain⟨R2,P2,e1,e2,e3⟩:=Gn s s.size (bg s 1).2 [] [] 0 hgd (by omega) (by rw[hd])
  rw[hd,List.nil_append]at e1 e2
  simp only at e1 e2
  subst e1
  subst e2
  have hX:=Db (by omega) hgd e3 0 0 none none 0 0
  rw[Fj (by omega) hd]at h
  cases hp:S9 R b8 f with
  |ok r=>rw[hp]at h;cases h
  |error q=>
   obtain⟨c2,j2⟩:=q
   rw[hp]at h
   cases h
   have hj:=(LV b8 f c2 j2 hp).2
   have hl:(P++ [(s.size:Int)]).length=R.length+1:=hX.lenP
   have hlt:j2<(P++ [(s.size:Int)]).length:=by omega
   have:=hX.up j2 hlt
   rw[P8 hlt]
   have h5:(P++ [(s.size:Int)])[j2]<=(s.size:Int):=this.2
   exact⟨this.1,by omega⟩
 ·unfold I0 at h
  rw[if_neg (by omega),hd]at h
  cases h
  omega
end Go.Proofs.YtdhhcefmmojcmaaGreatDoor
