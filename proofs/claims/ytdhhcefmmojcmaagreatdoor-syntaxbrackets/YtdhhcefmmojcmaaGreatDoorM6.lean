/- Texts of this proof, one behind the other. -/
import Derived.Test.YtdhhcefmmojcmaaGreatDoorM4
import Derived.Test.YtdhhcefmmojcmaaGreatDoorM5
import Derived.Test.YtdhhcefmmojcmaaGreatDoorM0
set_option maxRecDepth 100000
set_option maxHeartbeats 0
set_option linter.unusedVariables false
namespace Go.Proofs.YtdhhcefmmojcmaaGreatDoor
open Go.RowKit Go.Lib
def Mh (l:List R2):List R2:=l.mergeSort fun a b=>decide (a.1<=b.1)
theorem FA (l:List R2):(Mh l).Perm l:=List.mergeSort_perm _ _
theorem VI (l:List R2):(Mh l).Pairwise (fun a b=>a.1<=b.1):=by
 have h:=List.pairwise_mergeSort (le:=fun a b:R2=>decide (a.1<=b.1)) (fun a b c h1 h2=>by simp only[decide_eq_true_eq]at*;omega) (fun a b=>by simp only[Bool.or_eq_true,decide_eq_true_eq];omega) l
 exact h.imp (fun h=>by simpa using h)
def s9 (l:List R2):List R2:=y9 (Mh (y5 l))
theorem r7 (l:List R2):l9 (s9 l)/\∀x,In x (s9 l)↔(0<=x/\x<=1114111)/\In x l:=by
 have h:=DR (m:=Mh (y5 l)) (fun r hr=>DI l r ((FA _).mem_iff.1 hr)) (VI _)
 exact⟨h.1,fun x=>by rw[show s9 l=y9 (Mh (y5 l))from rfl,h.2 x,MM (FA _),Gv]⟩
def DL (l m:List R2):Prop:=∀x,0<=x->x<=1114111->(In x l↔In x m)
theorem DL.refl (l:List R2):DL l l:=fun _ _ _=>Iff.rfl
theorem DL.symm {l m:List R2}(h:DL l m):DL m l:=fun x a b=>(h x a b).symm
theorem DL.trans {l m n:List R2}(h:DL l m)(k:DL m n):DL l n:=fun x a b=>(h x a b).trans (k x a b)
theorem DL.app {l m l' m':List R2}(h:DL l m)(k:DL l' m'):DL (l++l') (m++m'):=fun x a b=>by rw[E3,E3,h x a b,k x a b]
theorem Hh (l:List R2):DL (s9 l) l:=fun x a b=>by rw[(r7 l).2];exact⟨fun h=>h.2,fun h=>⟨⟨a,b⟩,h⟩⟩
theorem IP {l s:List R2}(hs:l9 s)(h:DL s l):s=s9 l:=by
 refine BS hs (r7 l).1 (fun x=>?_)
 rw[(r7 l).2]
 refine⟨fun hx=>?_,fun hx=>(h x hx.1.1 hx.1.2).2 hx.2⟩
 obtain⟨r,hr,h1,h2⟩:=hx
 have:=hs.in_ r hr
 unfold Ap at this
 exact⟨⟨by omega,by omega⟩,(h x (by omega) (by omega)).1 ⟨r,hr,h1,h2⟩⟩
theorem Wg {l m:List R2}(h:DL l m):s9 l=s9 m:=IP (r7 l).1 ((Hh l).trans h)
theorem CH {l s:List R2}(hs:l9 s)(h:∀x,In x s↔(0<=x/\x<=1114111)/\In x l):s=s9 l:=
 BS hs (r7 l).1 (fun x=>by rw[h,(r7 l).2])
def z6 (l:List R2):List R2:=Ht (s9 l)
theorem Dx (l:List R2):l9 (z6 l)/\∀x,In x (z6 l)↔(0<=x/\x<=1114111)/\¬In x l:=by
 have h:=GD (r7 l).1
 refine⟨h.1,fun x=>?_⟩
 rw[show z6 l=Ht (s9 l)from rfl,h.2 x,(r7 l).2]
 exact⟨fun g=>⟨g.1,fun e=>g.2 ⟨g.1,e⟩⟩,fun g=>⟨g.1,fun e=>g.2 e.2⟩⟩
theorem Fg {l s:List R2}(hs:l9 s)(h:∀x,In x s↔(0<=x/\x<=1114111)/\¬In x l):s=z6 l:=
 BS hs (Dx l).1 (fun x=>by rw[h,(Dx l).2])
theorem Rj {l m:List R2}(h:DL l m):z6 l=z6 m:=by
 unfold z6
 rw[Wg h]
theorem Vp (l:List R2):z6 (s9 l)=z6 l:=Rj (Hh l)
def g7 (R:List Int)(k:Nat):Int:=match R[k]? with
 |some c=>c
 |none=> -1
structure Fl where
 i:Bool
 m:Bool
 s:Bool
 u:Bool
inductive Nd where
 |mk (kind min max cap:Int) (fold lazy:Bool) (set:List R2) (name:ByteArray) (kids:List Nd):Nd
def Nd.empty:Nd:=.mk 0 0 0 0 false false [] ⟨#[]⟩ []
def Nd.border (k:Int):Nd:=.mk k 0 0 0 false false [] ⟨#[]⟩ []
def Nd.cls (f:Fl)(s:List R2):Nd:=.mk 1 0 0 0 f.i false s ⟨#[]⟩ []
def Nd.many (kind:Int)(kids:List Nd):Nd:=.mk kind 0 0 0 false false [] ⟨#[]⟩ kids
def Nd.rep (a b:Int)(lazy:Bool)(x:Nd):Nd:=.mk 10 a b 0 false lazy [] ⟨#[]⟩ [x]
def Nd.grp (cap:Nat)(name:ByteArray)(x:Nd):Nd:=.mk 11 0 0 (cap:Int) false false [] name [x]
abbrev PR (α:Type):=Except (Nat×Nat) α
def p4 (c:Int):Bool:=decide (48<=c)&&decide (c<=57)
def M3 (R:List Int):Nat->Nat->List Nat
 |0,_=> []
 |f+1,k=>if p4 (g7 R k)then(g7 R k-48).toNat::M3 R f (k+1)else[]
def L0 (l:List Nat):Nat:=l.foldl (fun a d=>10*a+d) 0
def S7 (R:List Int)(k:Nat):Option (Int×Int×Nat):=
 let l:=M3 R 4 k
 let k1:=k+l.length
 if l=[]then none
 else if g7 R k1=125 then some (L0 l,L0 l,k1+1)
 else if g7 R k1=44 then
  if g7 R (k1+1)=125 then some (L0 l,-1,k1+2)
  else
   let m:=M3 R 4 (k1+1)
   if m=[]then none
   else if g7 R (k1+1+m.length)=125 then some (L0 l,L0 m,k1+1+m.length+1)
   else none
 else none
def o8 (R:List Int)(k:Nat):Option (Int×Int×Nat):=
 if g7 R k=42 then some (0,-1,k+1)
 else if g7 R k=43 then some (1,-1,k+1)
 else if g7 R k=63 then some (0,1,k+1)
 else if g7 R k=123 then S7 R (k+1)
 else none
def C8 (R:List Int)(u:Bool)(k:Nat):PR (Option (Int×Int×Bool×Nat)):=match o8 R k with
 |none=>.ok none
 |some (a,b,k1)=>
  if a>64∨b>64∨(0<=b/\b<a)then .error (23,k)
  else if g7 R k1=63 then .ok (some (a,b,!u,k1+1))
  else .ok (some (a,b,u,k1))
def Y6 (c:Int):Bool:=(decide (65<=c)&&decide (c<=90))||(decide (97<=c)&&decide (c<=122))
def u5 (c:Int):Bool:=p4 c||Y6 c
def C2 (c:Int):Bool:=u5 c||decide (c=95)
def p6 (c:Int):Bool:=p4 c||(decide (65<=c)&&decide (c<=70))||(decide (97<=c)&&decide (c<=102))
def l6 (R:List Int)(p:Int->Bool):Nat->Nat->List Int
 |0,_=> []
 |f+1,k=>if p (g7 R k)then g7 R k::l6 R p f (k+1)else[]
def i7 (l:List Int):ByteArray:=⟨(l.map fun c=>UInt8.ofNat c.toNat).toArray⟩
def U7 (c:Int):Nat:=if c<=57 then(c-48).toNat else if c<=70 then(c-55).toNat else(c-87).toNat
def D7 (l:List Int):Nat:=l.foldl (fun a d=>16*a+U7 d) 0
def J9 (R:List Int)(k0 k:Nat):PR (Nat×Nat):=
 if g7 R k=123 then
  let l:=l6 R p6 6 (k+1)
  if l≠ []/\g7 R (k+1+l.length)=125/\D7 l<=1114111 then .ok (D7 l,k+1+l.length+1)else .error (20,k0)
 else
  let l:=l6 R p6 2 k
  if l.length=2 then .ok (D7 l,k+2)else .error (20,k0)
def s5 (s:ByteArray):List (ByteArray×List R2)->Option (List R2)
 | []=>none
 |(n,l)::t=>if s=n then some l else s5 s t
def E7 (R:List Int)(tab:List (ByteArray×List R2))(k0:Nat)(neg:Bool)(k:Nat):PR (List R2×Nat):=
 if g7 R k=123 then
  let l:=l6 R u5 R.length (k+1)
  match s5 (i7 l) tab with
  |some m=>if g7 R (k+1+l.length)=125 then .ok (if neg then z6 m else m,k+1+l.length+1)else .error (24,k0)
  |none=>.error (24,k0)
 else .error (24,k0)
def AA (R:List Int)(tab:List (ByteArray×List R2))(k0 k:Nat)(c:Int):PR (List R2×Option Int×Nat):=
 if c=100 then .ok (Z3,none,k+1)
 else if c=68 then .ok (z6 Z3,none,k+1)
 else if c=115 then .ok (Bm,none,k+1)
 else if c=83 then .ok (z6 Bm,none,k+1)
 else if c=119 then .ok (lW,none,k+1)
 else if c=87 then .ok (z6 lW,none,k+1)
 else if c=112∨c=80 then match E7 R tab k0 (decide (c=80)) (k+1)with
  | .error e=>.error e
  | .ok (l,k1)=>.ok (l,none,k1)
 else if c=120 then match J9 R k0 (k+1)with
  | .error e=>.error e
  | .ok (n,k1)=>.ok ([((n:Int),(n:Int))],some (n:Int),k1)
 else if c=110 then .ok ([(10,10)],some 10,k+1)
 else if c=116 then .ok ([(9,9)],some 9,k+1)
 else if c=114 then .ok ([(13,13)],some 13,k+1)
 else if c=102 then .ok ([(12,12)],some 12,k+1)
 else if c=118 then .ok ([(11,11)],some 11,k+1)
 else if c<33∨c>126∨u5 c=true then .error (20,k0)
 else .ok ([(c,c)],some c,k+1)
def L3 (R:List Int)(tab:List (ByteArray×List R2))(k0 k:Nat):PR (List R2×Option Int×Nat):=AA R tab k0 k (g7 R k)
def G7 (R:List Int)(tab:List (ByteArray×List R2))(op k:Nat):PR (List R2×Option Int×Nat):=
 if g7 R k= -1 then .error (24,op)
 else if g7 R k=92 then L3 R tab k (k+1)
 else .ok ([(g7 R k,g7 R k)],some (g7 R k),k+1)
def G6 (R:List Int)(tab:List (ByteArray×List R2))(op k:Nat):PR (List R2×Nat):=match G7 R tab op k with
 | .error e=>.error e
 | .ok (l,none,k1)=>.ok (l,k1)
 | .ok (l,some a,k1)=>
   if g7 R k1=45/\g7 R (k1+1)≠93 then match G7 R tab op (k1+1)with
    | .error e=>.error e
    | .ok (_,none,_)=>.error (22,k)
    | .ok (_,some b,k2)=>if b<a then .error (22,k)else .ok ([(a,b)],k2)
   else .ok (l,k1)
def F1 (R:List Int)(tab:List (ByteArray×List R2))(op:Nat):Nat->Nat->List R2->PR (List R2×Nat)
 |0,k,l=>.ok (l,k)
 |f+1,k,l=>if g7 R k=93 then .ok (l,k+1)else match G6 R tab op k with
  | .error e=>.error e
  | .ok (m,k1)=>F1 R tab op f k1 (l++m)
def G2 (R:List Int)(tab:List (ByteArray×List R2))(op k:Nat):PR (List R2×Nat):=match G6 R tab op k with
 | .error e=>.error e
 | .ok (m,k1)=>F1 R tab op (R.length+1) k1 m
def Bn (neg:Bool):PR (List R2×Nat)->PR (List R2×Nat)
 | .error e=>.error e
 | .ok (l,k2)=>.ok (if neg then z6 l else s9 l,k2)
def E0 (R:List Int)(tab:List (ByteArray×List R2))(op k:Nat):PR (List R2×Nat):=
 if g7 R k=94 then Bn true (G2 R tab op (k+1))else Bn false (G2 R tab op k)
structure St where
 k:Nat
 f:Fl
 ns:List ByteArray
abbrev A8:=St->PR (Nd×St)
def C3 (R:List Int):Nat->Nat->Fl->Fl×Nat
 |0,k,f=>(f,k)
 |n+1,k,f=>
  if g7 R k=105/\f.i=false then C3 R n (k+1) {f with i:=true}
  else if g7 R k=109/\f.m=false then C3 R n (k+1) {f with m:=true}
  else if g7 R k=115/\f.s=false then C3 R n (k+1) {f with s:=true}
  else if g7 R k=85/\f.u=false then C3 R n (k+1) {f with u:=true}
  else(f,k)
def x7:Fl:=⟨false,false,false,false⟩
def Fl.some (f:Fl):Bool:=f.i||f.m||f.s||f.u
def Fl.turn (f a b:Fl):Fl:=⟨(f.i||a.i)&& !b.i,(f.m||a.m)&& !b.m,(f.s||a.s)&& !b.s,(f.u||a.u)&& !b.u⟩
def x9 (R:List Int)(f:Fl)(k:Nat):Fl×Bool×Nat:=
 let a:=C3 R 5 k x7
 if g7 R a.2=45 then
  let b:=C3 R 5 (a.2+1) x7
  (f.turn a.1 b.1,a.1.some||b.1.some,b.2)
 else(f.turn a.1 x7,a.1.some,a.2)
def D8 (R:List Int)(alt:A8)(k0:Nat)(st:St)(f:Fl):PR (Nd×St):=match alt {st with f:=f} with
 | .error e=>.error e
 | .ok (x,s1)=>if g7 R s1.k=41 then .ok (x,⟨s1.k+1,st.f,s1.ns⟩)else .error (25,k0)
def G5 (R:List Int)(alt:A8)(k0:Nat)(st:St)(name:ByteArray):PR (Nd×St):=match D8 R alt k0 {st with ns:=st.ns++ [name]} st.f with
 | .error e=>.error e
 | .ok (x,s1)=>.ok (.grp st.ns.length name x,s1)
def S5 (s:ByteArray)(ns:List ByteArray):Bool:=ns.any fun x=>decide (x=s)
def W3 (R:List Int)(k0:Nat)(ns:List ByteArray)(k:Nat):PR (ByteArray×Nat):=
 if g7 R k=60 then
  let l:=l6 R C2 32 (k+1)
  if l≠ []/\g7 R (k+1+l.length)=62/\S5 (i7 l) ns=false then .ok (i7 l,k+1+l.length+1)else .error (25,k0)
 else .error (25,k0)
def p7 (R:List Int)(sub:Option A8)(st:St):PR (Option Nd×St):=match sub with
 |none=>.error (21,st.k)
 |some alt=>
  if g7 R (st.k+1)=63 then
   if g7 R (st.k+2)=80 then match W3 R st.k st.ns (st.k+3)with
    | .error e=>.error e
    | .ok (name,k1)=>match G5 R alt st.k {st with k:=k1} name with
      | .error e=>.error e
      | .ok (x,s1)=>.ok (some x,s1)
   else if g7 R (st.k+2)=58 then match D8 R alt st.k {st with k:=st.k+3} st.f with
    | .error e=>.error e
    | .ok (x,s1)=>.ok (some x,s1)
   else
    let g:=x9 R st.f (st.k+2)
    if g.2.1=true/\g7 R g.2.2=58 then match D8 R alt st.k {st with k:=g.2.2+1} g.1 with
     | .error e=>.error e
     | .ok (x,s1)=>.ok (some x,s1)
    else if g.2.1=true/\g7 R g.2.2=41 then .ok (none,⟨g.2.2+1,g.1,st.ns⟩)
    else .error (20,st.k)
  else match G5 R alt st.k {st with k:=st.k+1} ⟨#[]⟩with
   | .error e=>.error e
   | .ok (x,s1)=>.ok (some x,s1)
def EX:List R2:=[(0,9),(11,1114111)]
def FW (st:St):PR (List R2×Nat)->PR (Option Nd×St)
 | .error e=>.error e
 | .ok (l,k1)=>.ok (some (.cls st.f l),{st with k:=k1})
def J7 (R:List Int)(tab:List (ByteArray×List R2))(st:St)(c:Int):PR (Option Nd×St):=
 if c=65 then .ok (some (.border 2),{st with k:=st.k+2})
 else if c=122 then .ok (some (.border 3),{st with k:=st.k+2})
 else if c=98 then .ok (some (.border 6),{st with k:=st.k+2})
 else if c=66 then .ok (some (.border 7),{st with k:=st.k+2})
 else match L3 R tab st.k (st.k+1)with
  | .error e=>.error e
  | .ok (l,_,k1)=>.ok (some (.cls st.f (s9 l)),{st with k:=k1})
def u4 (R:List Int)(tab:List (ByteArray×List R2))(st:St):PR (Option Nd×St):=J7 R tab st (g7 R (st.k+1))
def Bt (R:List Int)(tab:List (ByteArray×List R2))(sub:Option A8)(st:St)(c:Int):PR (Option Nd×St):=
 if c=40 then p7 R sub st
 else if c=91 then FW st (E0 R tab st.k (st.k+1))
 else if c=92 then u4 R tab st
 else if c=46 then .ok (some (.cls st.f (if st.f.s then s9 Cp else s9 EX)),{st with k:=st.k+1})
 else if c=94 then .ok (some (.border (if st.f.m then 4 else 2)),{st with k:=st.k+1})
 else if c=36 then .ok (some (.border (if st.f.m then 5 else 3)),{st with k:=st.k+1})
 else .ok (some (.cls st.f (s9 [(c,c)])),{st with k:=st.k+1})
def F9 (R:List Int)(tab:List (ByteArray×List R2))(sub:Option A8)(st:St):PR (Option Nd×St):=Bt R tab sub st (g7 R st.k)
def Y3 (c:Int):Bool:=decide (c= -1)||decide (c=124)||decide (c=41)
def Z7 (R:List Int)(x:Nd)(st:St):PR (Nd×St):=match C8 R st.f.u st.k with
 | .error e=>.error e
 | .ok none=>.ok (x,st)
 | .ok (some (a,b,z,k1))=>.ok (.rep a b z x,{st with k:=k1})
def C7 (R:List Int)(tab:List (ByteArray×List R2))(sub:Option A8)(st:St):PR (Option Nd×St):=match o8 R st.k with
 |some _=>.error (23,st.k)
 |none=>match F9 R tab sub st with
  | .error e=>.error e
  | .ok (none,s1)=>.ok (none,s1)
  | .ok (some x,s1)=>match Z7 R x s1 with
    | .error e=>.error e
    | .ok (y,s2)=>.ok (some y,s2)
def I1 (R:List Int)(tab:List (ByteArray×List R2))(sub:Option A8):Nat->St->List Nd->PR (List Nd×St)
 |0,st,l=>.ok (l,st)
 |f+1,st,l=>if Y3 (g7 R st.k)then .ok (l,st)else match C7 R tab sub st with
  | .error e=>.error e
  | .ok (none,s1)=>I1 R tab sub f s1 l
  | .ok (some x,s1)=>I1 R tab sub f s1 (l++ [x])
def Z0 (kind:Int):List Nd->Nd
 | []=>.empty
 | [x]=>x
 |x::y::l=>.many kind (x::y::l)
def G9 (R:List Int)(tab:List (ByteArray×List R2))(sub:Option A8)(st:St):PR (Nd×St):=match I1 R tab sub (R.length+1) st []with
 | .error e=>.error e
 | .ok (l,s1)=>.ok (Z0 8 l,s1)
def J4 (R:List Int)(tab:List (ByteArray×List R2))(sub:Option A8):Nat->St->List Nd->PR (Nd×St)
 |0,st,l=>.ok (Z0 9 l,st)
 |f+1,st,l=>if g7 R st.k=124 then match G9 R tab sub {st with k:=st.k+1} with
   | .error e=>.error e
   | .ok (x,s1)=>J4 R tab sub f s1 (l++ [x])
  else .ok (Z0 9 l,st)
def S1 (R:List Int)(tab:List (ByteArray×List R2))(sub:Option A8)(st:St):PR (Nd×St):=match G9 R tab sub st with
 | .error e=>.error e
 | .ok (x,s1)=>J4 R tab sub (R.length+1) s1 [x]
def B7 (R:List Int)(tab:List (ByteArray×List R2)):Nat->A8
 |0=>S1 R tab none
 |n+1=>S1 R tab (some (B7 R tab n))
def S9 (R:List Int)(tab:List (ByteArray×List R2))(f:Fl):PR (Nd×List ByteArray):=match B7 R tab 32 ⟨0,f,[⟨#[]⟩]⟩with
 | .error e=>.error e
 | .ok (x,s1)=>if g7 R s1.k= -1 then .ok (x,s1.ns)else .error (25,s1.k)
theorem I6 {R:List Int}{k:Nat}(h:g7 R k≠ -1):k<R.length:=by
 rcases Nat.lt_or_ge k R.length with g|g
 ·exact g
 ·exact absurd (by unfold g7;rw[List.getElem?_eq_none g]) h
theorem j9 {R:List Int}{k:Nat}{c:Int}(h:g7 R k=c)(hc:c≠ -1):k<R.length:=I6 (by rw[h];exact hc)
theorem P8 {R:List Int}{k:Nat}(h:k<R.length):g7 R k=R[k]:=by
 unfold g7
 rw[List.getElem?_eq_getElem h]
theorem Bi {R:List Int}{k:Nat}(h:R.length<=k):g7 R k= -1:=by
 unfold g7
 rw[List.getElem?_eq_none h]
theorem Ex {R:List Int}{p:Int->Bool}(hp:p (-1)=false):∀(n k:Nat),(l6 R p n k).length<=n/\∀i,i<(l6 R p n k).length->g7 R (k+i)≠ -1
 |0,k=>⟨Nat.le_refl _,fun i h=>absurd h (by simp[l6])⟩
 |n+1,k=>by
  have ih:=Ex (R:=R) hp n (k+1)
  rw[l6]
  split
  ·rename_i h
   refine⟨by simp only[List.length_cons];omega,fun i hi=>?_⟩
   match i,hi with
   |0,_=>intro e;rw[Nat.add_zero]at e;rw[e,hp]at h;cases h
   |i+1,hi=>
    have:=ih.2 i (by simpa using hi)
    rwa [show k+1+i=k+(i+1)by omega]at this
  ·exact⟨Nat.zero_le _,fun i h=>absurd h (by simp)⟩
theorem Dz {R:List Int}{p:Int->Bool}(hp:p (-1)=false)(n k:Nat)(hk:k<=R.length):k+(l6 R p n k).length<=R.length:=by
 have h:=(Ex hp (R:=R) n k).2
 rcases Nat.eq_zero_or_pos (l6 R p n k).length with e|e
 ·omega
 ·have:=I6 (h ((l6 R p n k).length-1) (by omega))
  omega
theorem V4 (R:List Int):∀(n k:Nat),M3 R n k=(l6 R p4 n k).map fun c=>(c-48).toNat
 |0,k=>rfl
 |n+1,k=>by
  rw[M3,l6,V4 R n (k+1)]
  split<;>rfl
theorem Eq (R:List Int)(n k:Nat)(hk:k<=R.length):k+(M3 R n k).length<=R.length:=by
 rw[V4,List.length_map]
 exact Dz (by decide) n k hk
theorem Rl {R:List Int}{k:Nat}{a b:Int}{k1:Nat}(h:S7 R k=some (a,b,k1)):k<k1/\k1<=R.length:=by
 unfold S7 at h
 simp only at h
 split at h
 ·cases h
 split at h
 ·rename_i e
  have:=j9 e (by decide)
  cases h
  omega
 split at h
 ·split at h
  ·rename_i e
   have:=j9 e (by decide)
   cases h
   omega
  ·split at h
   ·cases h
   split at h
   ·rename_i e
    have:=j9 e (by decide)
    cases h
    omega
   ·cases h
 ·cases h
theorem BR {R:List Int}{k:Nat}{a b:Int}{k1:Nat}(h:o8 R k=some (a,b,k1)):k<k1/\k1<=R.length:=by
 unfold o8 at h
 split at h
 ·rename_i e;have:=j9 e (by decide);cases h;omega
 split at h
 ·rename_i e;have:=j9 e (by decide);cases h;omega
 split at h
 ·rename_i e;have:=j9 e (by decide);cases h;omega
 split at h
 ·have:=Rl h;omega
 ·cases h
theorem Pb {R:List Int}{u:Bool}{k:Nat}{a b:Int}{z:Bool}{k1:Nat}(h:C8 R u k=.ok (some (a,b,z,k1))):k<k1/\k1<=R.length:=by
 unfold C8 at h
 split at h
 ·cases h
 ·rename_i a b k2 hb
  have:=BR hb
  split at h
  ·cases h
  split at h
  ·rename_i e
   have:=j9 e (by decide)
   cases h
   omega
  ·cases h
   omega
theorem Qh {R:List Int}{k0 k n k1:Nat}(h:J9 R k0 k=.ok (n,k1)):k<k1/\k1<=R.length:=by
 unfold J9 at h
 simp only at h
 split at h
 ·split at h
  ·rename_i e
   have:=j9 e.2.1 (by decide)
   cases h
   omega
  ·cases h
 ·split at h
  ·rename_i e
   cases h
   have:=(Ex (R:=R) (p:=p6) (by decide) 2 k).2 1 (by omega)
   have:=I6 this
   omega
  ·cases h
theorem OL {R:List Int}{tab:List (ByteArray×List R2)}{k0:Nat}{neg:Bool}{k k1:Nat}{l:List R2}(h:E7 R tab k0 neg k=.ok (l,k1)):k<k1/\k1<=R.length:=by
 unfold E7 at h
 simp only at h
 split at h
 ·split at h
  ·split at h
   ·rename_i e
    have:=j9 e (by decide)
    cases h
    omega
   ·cases h
  ·cases h
 ·cases h
theorem j8 {α:Sort _}{p:Prop}[Decidable p]{a b x:α}(h:(if p then a else b)=x):(p/\a=x)∨(¬p/\b=x):=by
 by_cases e:p
 ·exact .inl ⟨e,by rwa [if_pos e]at h⟩
 ·exact .inr ⟨e,by rwa [if_neg e]at h⟩
theorem Es {R:List Int}{tab:List (ByteArray×List R2)}{k0 k k1:Nat}{l:List R2}{o:Option Int}(h:L3 R tab k0 k=.ok (l,o,k1)):k<k1/\k1<=R.length:=by
 unfold L3 AA at h
 have one:∀{c:Int},c≠ -1->g7 R k=c->k<k+1/\k+1<=R.length:=fun hc e=>⟨by omega,j9 e hc⟩
 rcases j8 h with⟨e,h⟩|⟨_,h⟩
 ·cases h;exact one (by decide) e
 rcases j8 h with⟨e,h⟩|⟨_,h⟩
 ·cases h;exact one (by decide) e
 rcases j8 h with⟨e,h⟩|⟨_,h⟩
 ·cases h;exact one (by decide) e
 rcases j8 h with⟨e,h⟩|⟨_,h⟩
 ·cases h;exact one (by decide) e
 rcases j8 h with⟨e,h⟩|⟨_,h⟩
 ·cases h;exact one (by decide) e
 rcases j8 h with⟨e,h⟩|⟨_,h⟩
 ·cases h;exact one (by decide) e
 rcases j8 h with⟨_,h⟩|⟨_,h⟩
 ·split at h
  ·cases h
  ·rename_i hn
   have:=OL hn
   cases h
   omega
 rcases j8 h with⟨_,h⟩|⟨_,h⟩
 ·split at h
  ·cases h
  ·rename_i hn
   have:=Qh hn
   cases h
   omega
 rcases j8 h with⟨e,h⟩|⟨_,h⟩
 ·cases h;exact one (by decide) e
 rcases j8 h with⟨e,h⟩|⟨_,h⟩
 ·cases h;exact one (by decide) e
 rcases j8 h with⟨e,h⟩|⟨_,h⟩
 ·cases h;exact one (by decide) e
 rcases j8 h with⟨e,h⟩|⟨_,h⟩
 ·cases h;exact one (by decide) e
 rcases j8 h with⟨e,h⟩|⟨_,h⟩
 ·cases h;exact one (by decide) e
 rcases j8 h with⟨_,h⟩|⟨e,h⟩
 ·cases h
 ·have:g7 R k≠ -1:=fun x=>e (.inl (by omega))
  have:=I6 this
  cases h
  omega
theorem Bw {R:List Int}{tab:List (ByteArray×List R2)}{op k k1:Nat}{l:List R2}{o:Option Int}(h:G7 R tab op k=.ok (l,o,k1)):k<k1/\k1<=R.length:=by
 unfold G7 at h
 split at h
 ·cases h
 rename_i e
 have:=I6 e
 split at h
 ·have:=Es h
  omega
 ·cases h
  omega
theorem V6 {R:List Int}{tab:List (ByteArray×List R2)}{op k k1:Nat}{l:List R2}(h:G6 R tab op k=.ok (l,k1)):k<k1/\k1<=R.length:=by
 unfold G6 at h
 split at h
 ·cases h
 ·rename_i hm
  have:=Bw hm
  cases h
  omega
 ·rename_i hm
  have:=Bw hm
  split at h
  ·split at h
   ·cases h
   ·cases h
   ·rename_i hm2
    have:=Bw hm2
    split at h
    ·cases h
    ·cases h
     omega
  ·cases h
   omega
theorem Gw {R:List Int}{tab:List (ByteArray×List R2)}{op:Nat}:∀(f k:Nat) (l m:List R2) (k1:Nat),k<=R.length->F1 R tab op f k l=.ok (m,k1)->k<=k1/\k1<=R.length
 |0,k,l,m,k1,hk,h=>by
  rw[F1]at h
  cases h
  omega
 |f+1,k,l,m,k1,hk,h=>by
  rw[F1]at h
  split at h
  ·rename_i e
   have:=j9 e (by decide)
   cases h
   omega
  ·split at h
   ·cases h
   ·rename_i hi
    have:=V6 hi
    have:=Gw f _ _ m k1 this.2 h
    omega
theorem EI {R:List Int}{tab:List (ByteArray×List R2)}{op k k1:Nat}{l:List R2}(h:G2 R tab op k=.ok (l,k1)):k<k1/\k1<=R.length:=by
 unfold G2 at h
 split at h
 ·cases h
 ·rename_i hi
  have:=V6 hi
  have:=Gw _ _ _ _ _ this.2 h
  omega
theorem Kj {neg:Bool}{r:PR (List R2×Nat)}{l:List R2}{k:Nat}(h:Bn neg r=.ok (l,k)):∃m,r=.ok (m,k):=by
 match r,h with
 | .ok (m,k2),h=>cases h;exact⟨m,rfl⟩
theorem Gj {R:List Int}{tab:List (ByteArray×List R2)}{op k k1:Nat}{l:List R2}(h:E0 R tab op k=.ok (l,k1)):k<k1/\k1<=R.length:=by
 unfold E0 at h
 split at h
 ·obtain⟨m,hm⟩:=Kj h
  have:=EI hm
  omega
 ·obtain⟨m,hm⟩:=Kj h
  exact EI hm
def Ah (R:List Int)(f:A8):Prop:=∀st x s1,st.k<=R.length->f st=.ok (x,s1)->st.k<=s1.k/\s1.k<=R.length
theorem Aa {R:List Int}:∀(n k:Nat) (f:Fl),k<=R.length->k<=(C3 R n k f).2/\(C3 R n k f).2<=R.length
 |0,k,f,hk=>⟨Nat.le_refl _,hk⟩
 |n+1,k,f,hk=>by
  rw[C3]
  split
  ·rename_i e;have:=j9 e.1 (by decide);have:=Aa (R:=R) n (k+1) {f with i:=true} (by omega);omega
  split
  ·rename_i e;have:=j9 e.1 (by decide);have:=Aa (R:=R) n (k+1) {f with m:=true} (by omega);omega
  split
  ·rename_i e;have:=j9 e.1 (by decide);have:=Aa (R:=R) n (k+1) {f with s:=true} (by omega);omega
  split
  ·rename_i e;have:=j9 e.1 (by decide);have:=Aa (R:=R) n (k+1) {f with u:=true} (by omega);omega
  ·exact⟨Nat.le_refl _,hk⟩
theorem Ds {R:List Int}(f:Fl)(k:Nat)(hk:k<=R.length):k<=(x9 R f k).2.2/\(x9 R f k).2.2<=R.length:=by
 have h:=Aa (R:=R) 5 k x7 hk
 unfold x9
 simp only
 split
 ·rename_i e
  have:=j9 e (by decide)
  have:=Aa (R:=R) 5 ((C3 R 5 k x7).2+1) x7 (by omega)
  simp only
  omega
 ·exact h
theorem FM {R:List Int}{alt:A8}(H:Ah R alt){k0:Nat}{st s1:St}{f:Fl}{x:Nd}(hk:st.k<=R.length)(h:D8 R alt k0 st f=.ok (x,s1)):st.k<s1.k/\s1.k<=R.length:=by
 unfold D8 at h
 split at h
 ·cases h
 ·rename_i y s2 hs
  have:=H {st with f:=f} y s2 hk hs
  split at h
  ·rename_i e
   have:=j9 e (by decide)
   cases h
   simp only at*
   omega
  ·cases h
theorem Gs {R:List Int}{alt:A8}(H:Ah R alt){k0:Nat}{st s1:St}{name:ByteArray}{x:Nd}(hk:st.k<=R.length)(h:G5 R alt k0 st name=.ok (x,s1)):st.k<s1.k/\s1.k<=R.length:=by
 unfold G5 at h
 split at h
 ·cases h
 ·rename_i y s2 hs
  have:=FM H (st:= {st with ns:=st.ns++ [name]}) hk hs
  cases h
  exact this
theorem Ak {R:List Int}{k0:Nat}{ns:List ByteArray}{k k1:Nat}{n:ByteArray}(h:W3 R k0 ns k=.ok (n,k1)):k<k1/\k1<=R.length:=by
 unfold W3 at h
 simp only at h
 split at h
 ·split at h
  ·rename_i e
   have:=j9 e.2.1 (by decide)
   cases h
   omega
  ·cases h
 ·cases h
theorem NG {R:List Int}{sub:Option A8}(H:∀f,sub=some f->Ah R f){st s1:St}{o:Option Nd}(hk:st.k<R.length)(h:p7 R sub st=.ok (o,s1)):st.k<s1.k/\s1.k<=R.length:=by
 unfold p7 at h
 split at h
 ·cases h
 rename_i alt
 have HA:=H alt rfl
 split at h
 ·rename_i e1
  have g1:=j9 e1 (by decide)
  split at h
  ·rename_i e2
   have g2:=j9 e2 (by decide)
   split at h
   ·cases h
   ·rename_i nm k1 hn
    have:=Ak hn
    split at h
    ·cases h
    ·rename_i hg
     have:=Gs HA (by simp only;omega) hg
     cases h
     simp only at*
     omega
  split at h
  ·rename_i e2
   have g2:=j9 e2 (by decide)
   split at h
   ·cases h
   ·rename_i hg
    have:=FM HA (by simp only;omega) hg
    cases h
    simp only at*
    omega
  ·simp only at h
   have gf:=Ds st.f (st.k+2) g1
   split at h
   ·rename_i e3
    have g3:=j9 e3.2 (by decide)
    split at h
    ·cases h
    ·rename_i hg
     have:=FM HA (by simp only;omega) hg
     cases h
     simp only at*
     omega
   split at h
   ·rename_i e3
    have g3:=j9 e3.2 (by decide)
    cases h
    simp only
    omega
   ·cases h
 ·split at h
  ·cases h
  ·rename_i hg
   have:=Gs HA (by simp only;omega) hg
   cases h
   simp only at*
   omega
theorem Mk {R:List Int}{tab:List (ByteArray×List R2)}{st s1:St}{o:Option Nd}(h:u4 R tab st=.ok (o,s1)):st.k<s1.k/\s1.k<=R.length:=by
 unfold u4 J7 at h
 split at h
 ·rename_i e;have:=j9 e (by decide);cases h;simp only;omega
 split at h
 ·rename_i e;have:=j9 e (by decide);cases h;simp only;omega
 split at h
 ·rename_i e;have:=j9 e (by decide);cases h;simp only;omega
 split at h
 ·rename_i e;have:=j9 e (by decide);cases h;simp only;omega
 split at h
 ·cases h
 ·rename_i he
  have:=Es he
  cases h
  simp only
  omega
theorem Y1 {R:List Int}{tab:List (ByteArray×List R2)}{sub:Option A8}(H:∀f,sub=some f->Ah R f){st s1:St}{o:Option Nd}(hk:st.k<R.length)(h:F9 R tab sub st=.ok (o,s1)):st.k<s1.k/\s1.k<=R.length:=by
 unfold F9 Bt at h
 split at h
 ·exact NG H hk h
 split at h
 ·unfold FW at h
  split at h
  ·cases h
  ·rename_i hc
   have:=Gj hc
   cases h
   simp only
   omega
 split at h
 ·exact Mk h
 split at h
 ·cases h;simp only;omega
 split at h
 ·cases h;simp only;omega
 split at h
 ·cases h;simp only;omega
 ·cases h;simp only;omega
theorem Ic {R:List Int}{x y:Nd}{st s1:St}(hk:st.k<=R.length)(h:Z7 R x st=.ok (y,s1)):st.k<=s1.k/\s1.k<=R.length:=by
 unfold Z7 at h
 split at h
 ·cases h
 ·cases h;omega
 ·rename_i hq
  have:=Pb hq
  cases h
  simp only
  omega
theorem P7 {R:List Int}{tab:List (ByteArray×List R2)}{sub:Option A8}(H:∀f,sub=some f->Ah R f){st s1:St}{o:Option Nd}(hk:st.k<R.length)(h:C7 R tab sub st=.ok (o,s1)):st.k<s1.k/\s1.k<=R.length:=by
 unfold C7 at h
 split at h
 ·cases h
 split at h
 ·cases h
 ·rename_i ha
  have:=Y1 H hk ha
  cases h
  exact this
 ·rename_i x s2 ha
  have:=Y1 H hk ha
  split at h
  ·cases h
  ·rename_i hr
   have:=Ic this.2 hr
   cases h
   omega
theorem Id {R:List Int}{tab:List (ByteArray×List R2)}{sub:Option A8}(H:∀f,sub=some f->Ah R f):∀(f:Nat) (st:St) (l m:List Nd) (s1:St),st.k<=R.length->I1 R tab sub f st l=.ok (m,s1)->st.k<=s1.k/\s1.k<=R.length
 |0,st,l,m,s1,hk,h=>by
  rw[I1]at h
  cases h
  omega
 |f+1,st,l,m,s1,hk,h=>by
  rw[I1]at h
  split at h
  ·cases h
   omega
  rename_i he
  have hlt:st.k<R.length:=I6 (fun e=>he (by rw[e];rfl))
  split at h
  ·cases h
  ·rename_i hp
   have:=P7 H hlt hp
   have:=Id H f _ l m s1 this.2 h
   omega
  ·rename_i x s2 hp
   have:=P7 H hlt hp
   have:=Id H f s2 _ m s1 this.2 h
   omega
theorem I8 {R:List Int}{tab:List (ByteArray×List R2)}{sub:Option A8}(H:∀f,sub=some f->Ah R f):Ah R (G9 R tab sub):=by
 intro st x s1 hk h
 unfold G9 at h
 split at h
 ·cases h
 ·rename_i hr
  have:=Id H _ _ _ _ _ hk hr
  cases h
  exact this
theorem IB {R:List Int}{tab:List (ByteArray×List R2)}{sub:Option A8}(H:∀f,sub=some f->Ah R f):∀(f:Nat) (st:St) (l:List Nd) (x:Nd) (s1:St),st.k<=R.length->J4 R tab sub f st l=.ok (x,s1)->st.k<=s1.k/\s1.k<=R.length
 |0,st,l,x,s1,hk,h=>by
  rw[J4]at h
  cases h
  omega
 |f+1,st,l,x,s1,hk,h=>by
  rw[J4]at h
  split at h
  ·rename_i e
   have:=j9 e (by decide)
   split at h
   ·cases h
   ·rename_i y s2 hc
    have:=I8 H {st with k:=st.k+1} y s2 (by simp only;omega) hc
    have:=IB H f s2 _ x s1 this.2 h
    simp only at*
    omega
  ·cases h
   omega
theorem Iy {R:List Int}{tab:List (ByteArray×List R2)}{sub:Option A8}(H:∀f,sub=some f->Ah R f):Ah R (S1 R tab sub):=by
 intro st x s1 hk h
 unfold S1 at h
 split at h
 ·cases h
 ·rename_i y s2 hc
  have:=I8 H st y s2 hk hc
  have:=IB H _ s2 _ x s1 this.2 h
  omega
theorem B8 (R:List Int)(tab:List (ByteArray×List R2)):∀n,Ah R (B7 R tab n)
 |0=>fun st x s1 hk h=>Iy (sub:=none) (fun f e=>by cases e) st x s1 hk (by rw[B7]at h;exact h)
 |n+1=>fun st x s1 hk h=>Iy (sub:=some (B7 R tab n)) (fun f e=>by cases e;exact B8 R tab n) st x s1 hk (by rw[B7]at h;exact h)
structure Px where
 R:List Int
 P:List Int
 s:ByteArray
 cd:Int
 bd:Int
 ar:Option Addr
 cr:Nat
 ap:Option Addr
 cp:Nat
def Px.cells (X:Px)(k:Nat)(f:Fl)(vn:Value)(op:Nat):Array Value:=
 #[.int .i64 X.cd,.slice X.ar X.R.length X.cr,.slice X.ap X.P.length X.cp,.int .i64 X.bd,.string X.s,.int .i64 (k:Nat),.bool f.i,.bool f.m,.bool f.s,.bool f.u,vn,.int .i64 (op:Nat)]
def SL (w:World)(v:Value)(ks:List ByteArray):Prop:=w.ownsRow 0 9 1 v ks.length (ks.map Value.string)
structure PS (w:World)(b:Nat)(X:Px)(k:Nat)(f:Fl)(vn:Value)(ns:List ByteArray)(op:Nat):Prop where
 cells:w.heap[b]? =some (.cells (X.cells k f vn op) 74 (0,0))
 runes:Io w X.ar X.R
 places:Io w X.ap X.P
 names:SL w vn ns
 oldR:∀g o,X.ar=some ⟨g,o,none⟩->g<b
 oldP:∀g o,X.ap=some ⟨g,o,none⟩->g<b
 env:Sx w
 low:7<=b
 lowN:∀g,vn.ownBlock=some g->7<=g
 apN:∀g o,X.ar=some ⟨g,o,none⟩∨X.ap=some ⟨g,o,none⟩->vn.ownBlock≠some g
structure Px.Good (X:Px):Prop where
 lenR:X.R.length<=1024
 lenP:X.P.length=X.R.length+1
 nonneg:∀c ∈ X.R,0<=c/\c<=1114111
 size:X.s.size<=1024
 up:∀i (h:i<X.P.length),0<=X.P[i]/\X.P[i]<=X.s.size
 ascii:∀i (h:i<X.R.length) (h1:i<X.P.length) (h2:i+1<X.P.length),X.R[i]<128->X.P[i+1]=X.P[i]+1/\X.s.data.toList[X.P[i].toNat]? =some (UInt8.ofNat X.R[i].toNat)
 mono:∀i (h1:i<X.P.length) (h2:i+1<X.P.length),X.P[i]<=X.P[i+1]
theorem CV {w:World}{base:Nat}{e:TypeId}{sz n:Nat}{v:Value}{xs:List Value}(h:w.ownsRow base e sz v n xs):∀g,v.ownBlock=some g->g<w.heap.size:=by
 intro g eg
 rcases h.2 with⟨hv,_⟩|⟨g2,_,_,hv,_,hh,_⟩
 ·rw[hv]at eg
  cases eg
 ·rw[hv]at eg
  cases eg
  exact lt_of_block hh
theorem j5 {w:World}{base:Nat}{e:TypeId}{sz n:Nat}{v:Value}{xs:List Value}(h:w.ownsRow base e sz v n xs):∀g,v.ownBlock=some g->∃cs fr,w.heap[g]? =some (.cells cs e fr):=by
 intro g eg
 rcases h.2 with⟨hv,_⟩|⟨g2,_,_,hv,_,hh,_⟩
 ·rw[hv]at eg
  cases eg
 ·rw[hv]at eg
  cases eg
  exact⟨_,_,hh⟩
theorem g9 {w w':World}{e:TypeId}{sz n:Nat}{v:Value}{xs:List Value}{S:Nat->Prop}(h:w.ownsRow 0 e sz v n xs)(tc:b7 S w w')(hn:∀g,v.ownBlock=some g->¬S g):w'.ownsRow 0 e sz v n xs:=by
 refine⟨h.1,?_⟩
 rcases h.2 with h0|⟨g,cap,cur,hv,hg,hh,rest⟩
 ·exact .inl h0
 ·exact .inr ⟨g,cap,cur,hv,hg,(tc.block g (lt_of_block hh) (hn g (by rw[hv];rfl))).trans hh,rest⟩
theorem Io.kept {w w':World}{S:Nat->Prop}{a:Option Addr}{l:List Int}(h:Io w a l)(t:b7 S w w')(hs:∀b o,a=some ⟨b,o,none⟩->¬S b)(hb:∀b o,l≠ []->a=some ⟨b,o,none⟩->b<w.heap.size):Io w' a l:=by
 rcases h with h|⟨b,o,rfl,hc⟩
 ·exact .inl h
 ·by_cases hl:l=[]
  ·exact .inl hl
  ·exact .inr ⟨b,o,rfl,fun i hi=>by rw[t.cell (p:=⟨b,o+i,none⟩) (hb b o hl rfl) (hs b o rfl)];exact hc i hi⟩
theorem AM {w:World}{l:List Int}{b o:Nat}(h:Io w (some ⟨b,o,none⟩) l)(hl:l≠ []):b<w.heap.size:=by
 rcases h with h|⟨b',o',e,hc⟩
 ·exact absurd h hl
 ·cases e
  have:=hc 0 (List.length_pos_iff.2 hl)
  unfold World.cell? at this
  rcases Nat.lt_or_ge b w.heap.size with g|g
  ·exact g
  ·rw[Array.getElem?_eq_none g]at this
   cases this
theorem Io.new {w w':World}{a:Option Addr}{l:List Int}(h:Io w a l)(t:b7 (fun _=>False) w w'):Io w' a l:=
 h.kept t (fun _ _ _ e=>e) (fun b o hl e=>AM (by rw[e]at h;exact h) hl)
theorem PS.c1 {w:World}{b:Nat}{X:Px}{k:Nat}{f:Fl}{vn:Value}{ns:List ByteArray}{op:Nat}(h:PS w b X k f vn ns op):w.cell? ⟨b,1,none⟩=some (.slice X.ar X.R.length X.cr):=by have:=h.cells;simp[World.cell?,this,Px.cells]
theorem PS.c2 {w:World}{b:Nat}{X:Px}{k:Nat}{f:Fl}{vn:Value}{ns:List ByteArray}{op:Nat}(h:PS w b X k f vn ns op):w.cell? ⟨b,2,none⟩=some (.slice X.ap X.P.length X.cp):=by have:=h.cells;simp[World.cell?,this,Px.cells]
theorem PS.c4 {w:World}{b:Nat}{X:Px}{k:Nat}{f:Fl}{vn:Value}{ns:List ByteArray}{op:Nat}(h:PS w b X k f vn ns op):w.cell? ⟨b,4,none⟩=some (.string X.s):=by have:=h.cells;simp[World.cell?,this,Px.cells]
theorem PS.c5 {w:World}{b:Nat}{X:Px}{k:Nat}{f:Fl}{vn:Value}{ns:List ByteArray}{op:Nat}(h:PS w b X k f vn ns op):w.cell? ⟨b,5,none⟩=some (.int .i64 (k:Nat)):=by have:=h.cells;simp[World.cell?,this,Px.cells]
theorem PS.c6 {w:World}{b:Nat}{X:Px}{k:Nat}{f:Fl}{vn:Value}{ns:List ByteArray}{op:Nat}(h:PS w b X k f vn ns op):w.cell? ⟨b,6,none⟩=some (.bool f.i):=by have:=h.cells;simp[World.cell?,this,Px.cells]
theorem PS.c7 {w:World}{b:Nat}{X:Px}{k:Nat}{f:Fl}{vn:Value}{ns:List ByteArray}{op:Nat}(h:PS w b X k f vn ns op):w.cell? ⟨b,7,none⟩=some (.bool f.m):=by have:=h.cells;simp[World.cell?,this,Px.cells]
theorem PS.c8 {w:World}{b:Nat}{X:Px}{k:Nat}{f:Fl}{vn:Value}{ns:List ByteArray}{op:Nat}(h:PS w b X k f vn ns op):w.cell? ⟨b,8,none⟩=some (.bool f.s):=by have:=h.cells;simp[World.cell?,this,Px.cells]
theorem PS.c9 {w:World}{b:Nat}{X:Px}{k:Nat}{f:Fl}{vn:Value}{ns:List ByteArray}{op:Nat}(h:PS w b X k f vn ns op):w.cell? ⟨b,9,none⟩=some (.bool f.u):=by have:=h.cells;simp[World.cell?,this,Px.cells]
theorem PS.c10 {w:World}{b:Nat}{X:Px}{k:Nat}{f:Fl}{vn:Value}{ns:List ByteArray}{op:Nat}(h:PS w b X k f vn ns op):w.cell? ⟨b,10,none⟩=some vn:=by have:=h.cells;simp[World.cell?,this,Px.cells]
theorem PS.c11 {w:World}{b:Nat}{X:Px}{k:Nat}{f:Fl}{vn:Value}{ns:List ByteArray}{op:Nat}(h:PS w b X k f vn ns op):w.cell? ⟨b,11,none⟩=some (.int .i64 (op:Nat)):=by have:=h.cells;simp[World.cell?,this,Px.cells]
theorem PS.fr {w:World}{b:Nat}{X:Px}{k:Nat}{f:Fl}{vn:Value}{ns:List ByteArray}{op:Nat}(h:PS w b X k f vn ns op)(i:Nat):w.frozen? ⟨b,i,none⟩=false:=by have:=h.cells;simp[World.frozen?,this]
theorem PS.lt {w:World}{b:Nat}{X:Px}{k:Nat}{f:Fl}{vn:Value}{ns:List ByteArray}{op:Nat}(h:PS w b X k f vn ns op):b<w.heap.size:=lt_of_block h.cells
theorem PS.new {w w':World}{b:Nat}{X:Px}{k:Nat}{f:Fl}{vn:Value}{ns:List ByteArray}{op:Nat}(h:PS w b X k f vn ns op)(t:b7 (fun _=>False) w w'):PS w' b X k f vn ns op:=
 ⟨(t.block b h.lt id).trans h.cells,h.runes.new t,h.places.new t,g9 h.names t iE,h.oldR,h.oldP,h.env.new t,h.low,h.lowN,h.apN⟩
theorem PS.apart {w:World}{b:Nat}{X:Px}{k:Nat}{f:Fl}{vn:Value}{ns:List ByteArray}{op:Nat}(h:PS w b X k f vn ns op):vn.ownBlock≠some b:=by
 intro e
 obtain⟨cs,fr,hh⟩:=j5 h.names b e
 rw[h.cells]at hh
 cases hh
theorem PS.turn {w w':World}{b:Nat}{X:Px}{k k':Nat}{f f':Fl}{vn:Value}{ns:List ByteArray}{op op':Nat}(h:PS w b X k f vn ns op)(hc:w'.heap[b]? =some (.cells (X.cells k' f' vn op') 74 (0,0)))(t:b7 (fun g=>g=b) w w'):PS w' b X k' f' vn ns op':=
 ⟨hc,h.runes.kept t (fun g o e x=>by have:=h.oldR g o e;omega) (fun g o hl e=>AM (by rw[<-e];exact h.runes) hl),h.places.kept t (fun g o e x=>by have:=h.oldP g o e;omega) (fun g o hl e=>AM (by rw[<-e];exact h.places) hl),g9 h.names t (fun g e x=>by subst x;exact h.apart e),h.oldR,h.oldP,h.env.kept t (fun g e=>by subst e;exact h.low),h.low,h.lowN,h.apN⟩
theorem d9 (w:World)(b i:Nat)(x:Value):b7 (fun g=>g=b) w (w.setCell ⟨b,i,none⟩ x):=b7.setCell (S:=fun g=>g=b) (b7.refl _ _) (p:=⟨b,i,none⟩) (fun _=>rfl) x
theorem PS.setk {w:World}{b:Nat}{X:Px}{k:Nat}{f:Fl}{vn:Value}{ns:List ByteArray}{op:Nat}(h:PS w b X k f vn ns op)(k':Nat):PS (w.setCell ⟨b,5,none⟩ (.int .i64 (k':Nat))) b X k' f vn ns op:=
 h.turn (i8 h.cells 5 _) (d9 _ _ _ _)
theorem PS.setop {w:World}{b:Nat}{X:Px}{k:Nat}{f:Fl}{vn:Value}{ns:List ByteArray}{op:Nat}(h:PS w b X k f vn ns op)(op':Nat):PS (w.setCell ⟨b,11,none⟩ (.int .i64 (op':Nat))) b X k f vn ns op':=
 h.turn (i8 h.cells 11 _) (d9 _ _ _ _)
end Go.Proofs.YtdhhcefmmojcmaaGreatDoor
