/- Texts of this proof, one behind the other. -/
import Derived.Test.YtdhhcefmmojcmaaGreatDoorM8
import Derived.Test.YtdhhcefmmojcmaaGreatDoorM7
import Derived.Test.YtdhhcefmmojcmaaGreatDoorM6
import Derived.Test.YtdhhcefmmojcmaaGreatDoorM4
import Derived.Test.YtdhhcefmmojcmaaGreatDoorM5
import Derived.Test.YtdhhcefmmojcmaaGreatDoorSa
import Derived.Shelf.Small.Bits
set_option maxRecDepth 100000
set_option maxHeartbeats 0
set_option linter.unusedVariables false
namespace Go.Proofs.YtdhhcefmmojcmaaGreatDoor
open Go.RowKit Go.Lib
def Lays (s:ByteArray)(i:Nat)(l:List Int):Prop:=∀j (h:j<l.length),i+j<s.size/\(l5 s (i+j):Int)=l[j]
theorem Lays.nil (s:ByteArray)(i:Nat):Lays s i []:=fun j h=>by simp at h
theorem Lays.left {s:ByteArray}{i:Nat}{a b:List Int}(h:Lays s i (a++b)):Lays s i a:=fun j hj=>by
 obtain⟨h1,h2⟩:=h j (by simp;omega)
 exact⟨h1,by rw[h2,List.getElem_append_left hj]⟩
theorem Lays.right {s:ByteArray}{i:Nat}{a b:List Int}(h:Lays s i (a++b)):Lays s (i+a.length) b:=fun j hj=>by
 obtain⟨h1,h2⟩:=h (a.length+j) (by simp;omega)
 refine⟨by omega,?_⟩
 rw[show i+a.length+j=i+(a.length+j)by omega,h2,List.getElem_append_right (by omega)]
 congr 1
 omega
def Ux (b:Nat):AC:=⟨if b=224 then 224 else if b<=236 then 225 else if b=237 then 237 else 238,if b=224 then 224 else if b<=236 then 236 else if b=237 then 237 else 239,2,if b=224 then 160 else 128,if b=237 then 159 else 191⟩
def Uy (b:Nat):AC:=⟨if b=240 then 240 else if b<=243 then 241 else 244,if b=240 then 240 else if b<=243 then 243 else 244,3,if b=240 then 144 else 128,if b=244 then 143 else 191⟩
def Jv (l:AC):List Nat:=[l.first,l.last,l.more,l.low,l.high]
def WA (b:Nat):Option AC:=if b<128 then some ⟨0,127,0,0,0⟩else if b<194 then none else if b<224 then some ⟨194,223,1,128,191⟩else if b<240 then some (Ux b)else if b<245 then some (Uy b)else none
theorem Oz {a b:Option AC}(h:a.map Jv=b.map Jv):a=b:=by
 rcases a with _|⟨a0,a1,a2,a3,a4⟩<;>rcases b with _|⟨b0,b1,b2,b3,b4⟩<;>simp[Jv]at h⊢
 exact h
theorem QU:∀b,b<256->(L4 b).map Jv=(WA b).map Jv:=by decide+kernel
theorem Oy (b:Nat)(h:b<256):L4 b=if b<128 then some ⟨0,127,0,0,0⟩else if b<194 then none else if b<224 then some ⟨194,223,1,128,191⟩else if b<240 then some (Ux b)else if b<245 then some (Uy b)else none:=Oz (QU b h)
theorem Mp (s:ByteArray):DD s=if l5 s 0<128 then((l5 s 0:Int),1)else if l5 s 0<194 then(-1,1)
 else if l5 s 0<224 then(if 1=s.size∨l5 s 1<128∨191<l5 s 1 then(-1,1)else(((64*(l5 s 0%64)+l5 s 1%64:Nat):Int),2))
 else if l5 s 0<240 then(if 1=s.size∨l5 s 1<(if l5 s 0=224 then 160 else 128)∨(if l5 s 0=237 then 159 else 191)<l5 s 1 then(-1,1)else if 2=s.size∨l5 s 2<128∨191<l5 s 2 then(-1,2)else(((64*(64*(l5 s 0%32)+l5 s 1%64)+l5 s 2%64:Nat):Int),3))
 else if l5 s 0<245 then(if 1=s.size∨l5 s 1<(if l5 s 0=240 then 144 else 128)∨(if l5 s 0=244 then 143 else 191)<l5 s 1 then(-1,1)else if 2=s.size∨l5 s 2<128∨191<l5 s 2 then(-1,2)else if 3=s.size∨l5 s 3<128∨191<l5 s 3 then(-1,3)else(((64*(64*(64*(l5 s 0%16)+l5 s 1%64)+l5 s 2%64)+l5 s 3%64:Nat):Int),4))
 else(-1,1):=by
 have hb:=y6 s 0
 unfold DD
 rw[Oy _ hb]
 generalize l5 s 0=b at*
 by_cases c1:b<128
 ·rw[if_pos c1,if_pos c1]
  show(((b%2^7:Nat):Int),1)=_
  rw[show b%2^7=b by omega]
 rw[if_neg c1,if_neg c1]
 by_cases c2:b<194
 ·rw[if_pos c2,if_pos c2]
 rw[if_neg c2,if_neg c2]
 by_cases c3:b<224
 ·rw[if_pos c3,if_pos c3]
  rfl
 rw[if_neg c3,if_neg c3]
 by_cases c4:b<240
 ·rw[if_pos c4,if_pos c4]
  rfl
 rw[if_neg c4,if_neg c4]
 by_cases c5:b<245
 ·rw[if_pos c5,if_pos c5]
  rfl
 rw[if_neg c5,if_neg c5]
theorem V9 {s:ByteArray}{i j:Nat}(h:i+j<s.size):l5 (s.extract i s.size) j=l5 s (i+j):=Ba s i j h
theorem BZ (s:ByteArray)(i:Nat):(s.extract i s.size).size=s.size-i:=DB s i
theorem Uq (s:ByteArray)(i:Nat)(x:Int)(hx:Uk x=true)(h:Lays s i (FO x)):DD (s.extract i s.size)=(x,(FO x).length):=by
 rw[U2]at hx
 rw[Mp,BZ]
 unfold FO at h⊢
 by_cases h1:x<128
 ·rw[if_pos h1]at h⊢
  obtain⟨p0,q0⟩:=h 0 (by simp)
  rw[V9 p0]
  simp at q0
  simp only[Nat.add_zero]
  rw[if_pos (by omega)]
  simp[q0]
 ·rw[if_neg h1]at h⊢
  by_cases h2:x<2048
  ·rw[if_pos h2]at h⊢
   obtain⟨p0,q0⟩:=h 0 (by simp)
   obtain⟨p1,q1⟩:=h 1 (by simp)
   rw[V9 p0,V9 p1]
   simp only[List.getElem_cons_zero,List.getElem_cons_succ]at q0 q1
   rw[if_neg (by omega),if_neg (by omega),if_pos (by omega),if_neg (by omega)]
   refine Prod.ext ?_ rfl
   dsimp only
   omega
  ·rw[if_neg h2]at h⊢
   by_cases h3:x<65536
   ·rw[if_pos h3]at h⊢
    obtain⟨p0,q0⟩:=h 0 (by simp)
    obtain⟨p1,q1⟩:=h 1 (by simp)
    obtain⟨p2,q2⟩:=h 2 (by simp)
    rw[V9 p0,V9 p1,V9 p2]
    simp only[List.getElem_cons_zero,List.getElem_cons_succ]at q0 q1 q2
    rw[if_neg (by omega),if_neg (by omega),if_neg (by omega),if_pos (by omega),if_neg (by split<;>split<;>omega),if_neg (by omega)]
    refine Prod.ext ?_ rfl
    dsimp only
    omega
   ·rw[if_neg h3]at h⊢
    obtain⟨p0,q0⟩:=h 0 (by simp)
    obtain⟨p1,q1⟩:=h 1 (by simp)
    obtain⟨p2,q2⟩:=h 2 (by simp)
    obtain⟨p3,q3⟩:=h 3 (by simp)
    rw[V9 p0,V9 p1,V9 p2,V9 p3]
    simp only[List.getElem_cons_zero,List.getElem_cons_succ]at q0 q1 q2 q3
    rw[if_neg (by omega),if_neg (by omega),if_neg (by omega),if_neg (by omega),if_pos (by omega),if_neg (by split<;>split<;>omega),if_neg (by omega),if_neg (by omega)]
    refine Prod.ext ?_ rfl
    dsimp only
    omega
theorem Up (s:ByteArray)(i:Nat)(hi:i<s.size)(hx:(DD (s.extract i s.size)).1≠ -1):Uk (DD (s.extract i s.size)).1=true/\Lays s i (FO (DD (s.extract i s.size)).1)/\(DD (s.extract i s.size)).2=(FO (DD (s.extract i s.size)).1).length:=by
 obtain⟨r,hr⟩:∃r,r=s.extract i s.size:=⟨_,rfl⟩
 have hsz:r.size=s.size-i:=by rw[hr];exact BZ s i
 have hby:∀j,i+j<s.size->l5 r j=l5 s (i+j):=fun j h=>by rw[hr];exact V9 h
 rw[<-hr]at hx⊢
 clear hr
 have b0:=y6 r 0
 have e0:=hby 0 (by omega)
 rw[Mp]at hx⊢
 by_cases c1:l5 r 0<128
 ·rw[if_pos c1]
  have hen:FO (l5 r 0:Int)=[(l5 r 0:Int)]:=by
   unfold FO
   rw[if_pos (by omega)]
  refine⟨(U2 _).2 (by dsimp only;omega),?_,?_⟩
  ·dsimp only
   rw[hen]
   intro j hj
   obtain rfl:j=0:=by simp at hj;exact hj
   exact⟨by omega,by rw[<-e0];rfl⟩
  ·dsimp only
   rw[hen]
   rfl
 rw[if_neg c1]at hx⊢
 by_cases c2:l5 r 0<194
 ·rw[if_pos c2]at hx
  exact absurd rfl hx
 rw[if_neg c2]at hx⊢
 by_cases c3:l5 r 0<224
 ·rw[if_pos c3]at hx⊢
  by_cases d1:1=r.size∨l5 r 1<128∨191<l5 r 1
  ·rw[if_pos d1]at hx
   exact absurd rfl hx
  rw[if_neg d1]
  have e1:=hby 1 (by omega)
  have hen:FO ((64*(l5 r 0%64)+l5 r 1%64:Nat):Int)=[(l5 r 0:Int),(l5 r 1:Int)]:=by
   unfold FO
   rw[if_neg (by omega),if_pos (by omega),show 192+((64*(l5 r 0%64)+l5 r 1%64:Nat):Int) / 64=(l5 r 0:Int)by omega,show 128+((64*(l5 r 0%64)+l5 r 1%64:Nat):Int)%64=(l5 r 1:Int)by omega]
  refine⟨(U2 _).2 (by dsimp only;omega),?_,?_⟩
  ·dsimp only
   rw[hen]
   intro j hj
   rcases(show j=0∨j=1 by simp at hj;omega)with rfl|rfl
   ·exact⟨by omega,by rw[<-e0];rfl⟩
   ·exact⟨by omega,by rw[<-e1];rfl⟩
  ·dsimp only
   rw[hen]
   rfl
 rw[if_neg c3]at hx⊢
 by_cases c4:l5 r 0<240
 ·rw[if_pos c4]at hx⊢
  by_cases d1:1=r.size∨l5 r 1<(if l5 r 0=224 then 160 else 128)∨(if l5 r 0=237 then 159 else 191)<l5 r 1
  ·rw[if_pos d1]at hx
   exact absurd rfl hx
  rw[if_neg d1]at hx⊢
  by_cases d2:2=r.size∨l5 r 2<128∨191<l5 r 2
  ·rw[if_pos d2]at hx
   exact absurd rfl hx
  rw[if_neg d2]
  have e1:=hby 1 (by omega)
  have e2:=hby 2 (by omega)
  obtain⟨x,hxx⟩:∃x:Int,x=((64*(64*(l5 r 0%32)+l5 r 1%64)+l5 r 2%64:Nat):Int):=⟨_,rfl⟩
  rw[<-hxx]
  have hlo:2048<=x/\x<65536/\(x<55296∨57344<=x):=by
   split at d1<;>split at d1<;>omega
  have hlow:128<=l5 r 1/\l5 r 1<=191:=by
   split at d1<;>split at d1<;>omega
  have hen:FO x=[(l5 r 0:Int),(l5 r 1:Int),(l5 r 2:Int)]:=by
   unfold FO
   rw[if_neg (by omega),if_neg (by omega),if_pos (by omega),show 224+x / 4096=(l5 r 0:Int)by omega,show 128+x / 64%64=(l5 r 1:Int)by omega,show 128+x%64=(l5 r 2:Int)by omega]
  refine⟨(U2 _).2 (by dsimp only;omega),?_,?_⟩
  ·dsimp only
   rw[hen]
   intro j hj
   rcases(show j=0∨j=1∨j=2 by simp at hj;omega)with rfl|rfl|rfl
   ·exact⟨by omega,by rw[<-e0];rfl⟩
   ·exact⟨by omega,by rw[<-e1];rfl⟩
   ·exact⟨by omega,by rw[<-e2];rfl⟩
  ·dsimp only
   rw[hen]
   rfl
 rw[if_neg c4]at hx⊢
 by_cases c5:l5 r 0<245
 ·rw[if_pos c5]at hx⊢
  by_cases d1:1=r.size∨l5 r 1<(if l5 r 0=240 then 144 else 128)∨(if l5 r 0=244 then 143 else 191)<l5 r 1
  ·rw[if_pos d1]at hx
   exact absurd rfl hx
  rw[if_neg d1]at hx⊢
  by_cases d2:2=r.size∨l5 r 2<128∨191<l5 r 2
  ·rw[if_pos d2]at hx
   exact absurd rfl hx
  rw[if_neg d2]at hx⊢
  by_cases d3:3=r.size∨l5 r 3<128∨191<l5 r 3
  ·rw[if_pos d3]at hx
   exact absurd rfl hx
  rw[if_neg d3]
  have e1:=hby 1 (by omega)
  have e2:=hby 2 (by omega)
  have e3:=hby 3 (by omega)
  obtain⟨x,hxx⟩:∃x:Int,x=((64*(64*(64*(l5 r 0%16)+l5 r 1%64)+l5 r 2%64)+l5 r 3%64:Nat):Int):=⟨_,rfl⟩
  rw[<-hxx]
  have hlo:65536<=x/\x<=1114111:=by
   split at d1<;>split at d1<;>omega
  have hlow:128<=l5 r 1/\l5 r 1<=191:=by
   split at d1<;>split at d1<;>omega
  have hen:FO x=[(l5 r 0:Int),(l5 r 1:Int),(l5 r 2:Int),(l5 r 3:Int)]:=by
   unfold FO
   rw[if_neg (by omega),if_neg (by omega),if_neg (by omega),show 240+x / 262144=(l5 r 0:Int)by omega,show 128+x / 4096%64=(l5 r 1:Int)by omega,show 128+x / 64%64=(l5 r 2:Int)by omega,show 128+x%64=(l5 r 3:Int)by omega]
  refine⟨(U2 _).2 (by dsimp only;omega),?_,?_⟩
  ·dsimp only
   rw[hen]
   intro j hj
   rcases(show j=0∨j=1∨j=2∨j=3 by simp at hj;omega)with rfl|rfl|rfl|rfl
   ·exact⟨by omega,by rw[<-e0];rfl⟩
   ·exact⟨by omega,by rw[<-e1];rfl⟩
   ·exact⟨by omega,by rw[<-e2];rfl⟩
   ·exact⟨by omega,by rw[<-e3];rfl⟩
  ·dsimp only
   rw[hen]
   rfl
 rw[if_neg c5]at hx
 exact absurd rfl hx
def C9 (f:Nat)(s:ByteArray):Nat->Int:=if f=50 then Z2 s else Z1 s
theorem FL (f:Nat)(s:ByteArray)(i:Nat)(r:Int)(h:Lays s i (Lw f r)):C9 f s i=r:=by
 unfold C9
 unfold Lw at h
 by_cases hf:f=50
 ·rw[if_pos hf]at h⊢
  obtain⟨p0,q0⟩:=h 0 (by simp)
  obtain⟨p1,q1⟩:=h 1 (by simp)
  simp only[List.getElem_cons_zero,List.getElem_cons_succ,Nat.add_zero]at q0 q1
  unfold Z2
  rw[if_neg (by omega)]
  omega
 ·rw[if_neg hf]at h⊢
  obtain⟨p0,q0⟩:=h 0 (by simp)
  obtain⟨p1,q1⟩:=h 1 (by simp)
  simp only[List.getElem_cons_zero,List.getElem_cons_succ,Nat.add_zero]at q0 q1
  unfold Z1
  rw[if_neg (by omega)]
  omega
theorem Di (f:Nat)(s:ByteArray)(i:Nat)(h:C9 f s i≠ -1):Lays s i (Lw f (C9 f s i))/\0<=C9 f s i/\C9 f s i<=65535:=by
 have b0:=y6 s i
 have b1:=y6 s (i+1)
 unfold C9 at h⊢
 unfold Lw
 by_cases hf:f=50
 ·simp only[if_pos hf]at h⊢
  unfold Z2 at h⊢
  by_cases hs:s.size<i+2
  ·rw[if_pos hs]at h
   exact absurd rfl h
  ·rw[if_neg hs]
   refine⟨fun j hj=>?_,by omega,by omega⟩
   rcases(show j=0∨j=1 by simp at hj;omega)with rfl|rfl
   ·exact⟨by omega,by simp only[List.getElem_cons_zero,Nat.add_zero];omega⟩
   ·exact⟨by omega,by simp only[List.getElem_cons_zero,List.getElem_cons_succ];omega⟩
 ·simp only[if_neg hf]at h⊢
  unfold Z1 at h⊢
  by_cases hs:s.size<i+2
  ·rw[if_pos hs]at h
   exact absurd rfl h
  ·rw[if_neg hs]
   refine⟨fun j hj=>?_,by omega,by omega⟩
   rcases(show j=0∨j=1 by simp at hj;omega)with rfl|rfl
   ·exact⟨by omega,by simp only[List.getElem_cons_zero,Nat.add_zero];omega⟩
   ·exact⟨by omega,by simp only[List.getElem_cons_zero,List.getElem_cons_succ];omega⟩
theorem X9 (f:Nat)(r:Int):(Lw f r).length=2:=by
 unfold Lw
 split<;>rfl
theorem Lays.app {s:ByteArray}{i:Nat}{a b:List Int}(h:Lays s i a)(h2:Lays s (i+a.length) b):Lays s i (a++b):=fun j hj=>by
 by_cases hl:j<a.length
 ·obtain⟨h1,h2⟩:=h j hl
  exact⟨h1,by rw[h2,List.getElem_append_left hl]⟩
 ·obtain⟨h1,h2⟩:=h2 (j-a.length) (by simp at hj;omega)
  rw[show i+a.length+(j-a.length)=i+j by omega]at h1 h2
  exact⟨h1,by rw[h2,List.getElem_append_right (by omega)]⟩
theorem Kh (f:Nat)(s:ByteArray)(i:Nat)(x:Int)(hx:Uk x=true)(h:Lays s i (Cb f x)):M9 (C9 f s) i=(x,(Cb f x).length):=by
 rw[U2]at hx
 unfold Cb at h⊢
 unfold M9
 by_cases h1:x<65536
 ·rw[if_pos h1]at h⊢
  rw[FL f s i x h,if_neg (by omega),if_pos (by omega),X9]
 ·rw[if_neg h1]at h⊢
  have r:=h.right
  rw[X9]at r
  rw[FL f s i _ h.left,FL f s (i+2) _ r,if_neg (by omega),if_neg (by omega),if_neg (by omega),List.length_append,X9,X9]
  refine Prod.ext ?_ rfl
  dsimp only
  omega
theorem Kg (f:Nat)(s:ByteArray)(i:Nat)(hx:(M9 (C9 f s) i).1≠ -1):Uk (M9 (C9 f s) i).1=true/\Lays s i (Cb f (M9 (C9 f s) i).1)/\(M9 (C9 f s) i).2=(Cb f (M9 (C9 f s) i).1).length:=by
 unfold M9 at hx⊢
 by_cases c0:C9 f s i= -1
 ·rw[if_pos c0]at hx
  exact absurd rfl hx
 rw[if_neg c0]at hx⊢
 obtain⟨u1,u2,u3⟩:=Di f s i c0
 by_cases c1:¬(55296<=C9 f s i/\C9 f s i<57344)
 ·rw[if_pos c1]
  have hen:Cb f (C9 f s i)=Lw f (C9 f s i):=by
   unfold Cb
   rw[if_pos (by omega)]
  refine⟨(U2 _).2 (by dsimp only;omega),?_,?_⟩
  ·dsimp only
   rw[hen]
   exact u1
  ·dsimp only
   rw[hen,X9]
 rw[if_neg c1]at hx⊢
 by_cases c2:56320<=C9 f s i∨C9 f s (i+2)<56320∨57344<=C9 f s (i+2)
 ·rw[if_pos c2]at hx
  exact absurd rfl hx
 rw[if_neg c2]
 obtain⟨v1,v2,v3⟩:=Di f s (i+2) (by omega)
 obtain⟨x,hxx⟩:∃x:Int,x=65536+(C9 f s i-55296)*1024+C9 f s (i+2)-56320:=⟨_,rfl⟩
 rw[<-hxx]
 have hen:Cb f x=Lw f (C9 f s i)++Lw f (C9 f s (i+2)):=by
  unfold Cb
  rw[if_neg (by omega),show 55296+(x-65536) / 1024=C9 f s i by omega,show 56320+(x-65536)%1024=C9 f s (i+2)by omega]
 refine⟨(U2 _).2 (by dsimp only;omega),?_,?_⟩
 ·dsimp only
  rw[hen]
  refine u1.app ?_
  rw[X9]
  exact v1
 ·dsimp only
  rw[hen,List.length_append,X9,X9]
theorem Sd (s:ByteArray)(i:Nat):r8 s 1 i=DD (s.extract i s.size):=by
 unfold r8
 rw[if_neg (by decide),if_neg (by decide),if_neg (by decide)]
theorem Se (s:ByteArray)(i:Nat):r8 s 2 i=M9 (C9 50 s) i:=by
 unfold r8 C9
 rw[if_pos rfl,if_pos rfl]
theorem Sf (s:ByteArray)(i:Nat):r8 s 3 i=M9 (C9 51 s) i:=by
 unfold r8 C9
 rw[if_neg (by decide),if_pos rfl,if_neg (by decide)]
theorem Ns (s:ByteArray)(i:Nat):r8 s 4 i=((l5 s i:Int),1):=by
 unfold r8
 rw[if_neg (by decide),if_neg (by decide),if_pos rfl]
theorem Lx (x:Int):enc 1 x=FO x:=by
 unfold enc
 rw[if_pos rfl]
theorem Vb (x:Int):enc 2 x=Cb 50 x:=by
 unfold enc
 rw[if_neg (by decide),if_pos rfl]
theorem Vc (x:Int):enc 3 x=Cb 51 x:=by
 unfold enc
 rw[if_neg (by decide),if_neg (by decide),if_pos rfl]
theorem Wi (x:Int):enc 4 x=[x]:=by
 unfold enc
 rw[if_neg (by decide),if_neg (by decide),if_neg (by decide)]
theorem Hw {c:Nat}{x:Int}(h:FP c x=true):Uk x=true:=by
 unfold FP at h
 rw[Bool.and_eq_true]at h
 exact h.1
theorem BO (c:Nat)(hc:c=1∨c=2∨c=3∨c=4)(s:ByteArray)(i:Nat)(x:Int)(hx:FP c x=true)(h:Lays s i (enc c x)):r8 s c i=(x,(enc c x).length):=by
 rcases hc with rfl|rfl|rfl|rfl
 ·rw[Sd,Lx]
  rw[Lx]at h
  exact Uq s i x (Hw hx) h
 ·rw[Se,Vb]
  rw[Vb]at h
  exact Kh 50 s i x (Hw hx) h
 ·rw[Sf,Vc]
  rw[Vc]at h
  exact Kh 51 s i x (Hw hx) h
 ·rw[Wi]at h⊢
  obtain⟨_,q0⟩:=h 0 (by simp)
  rw[Nat.add_zero,List.getElem_cons_zero]at q0
  rw[Ns,q0]
  rfl
theorem BM (c:Nat)(hc:c=1∨c=2∨c=3∨c=4)(s:ByteArray)(i:Nat)(hi:i<s.size)(hx:(r8 s c i).1≠ -1):FP c (r8 s c i).1=true/\Lays s i (enc c (r8 s c i).1)/\(r8 s c i).2=(enc c (r8 s c i).1).length:=by
 have ok:∀d,d≠4->∀x,Uk x=true->FP d x=true:=fun d hd x h=>by
  unfold FP
  rw[h,decide_eq_true hd]
  rfl
 rcases hc with rfl|rfl|rfl|rfl
 ·rw[Sd]at hx⊢
  rw[Lx]
  obtain⟨h1,h2,h3⟩:=Up s i hi hx
  exact⟨ok 1 (by decide) _ h1,h2,h3⟩
 ·rw[Se]at hx⊢
  rw[Vb]
  obtain⟨h1,h2,h3⟩:=Kg 50 s i hx
  exact⟨ok 2 (by decide) _ h1,h2,h3⟩
 ·rw[Sf]at hx⊢
  rw[Vc]
  obtain⟨h1,h2,h3⟩:=Kg 51 s i hx
  exact⟨ok 3 (by decide) _ h1,h2,h3⟩
 ·have hb:=y6 s i
  rw[Ns,Wi]
  refine⟨?_,?_,rfl⟩
  ·unfold FP
   rw[Bool.and_eq_true,U2]
   refine⟨by dsimp only;omega,?_⟩
   rw[decide_eq_true (show(l5 s i:Int)<=255 by omega)]
   rfl
  ·intro j hj
   obtain rfl:j=0:=by
    have:j<1:=hj
    omega
   exact⟨by omega,rfl⟩
theorem CK (s:ByteArray):s.toList=s.data.toList:=by
 have go:∀(n i:Nat) (r:List UInt8),s.size-i=n->ByteArray.toList.loop s i r=r.reverse++s.data.toList.drop i:=by
  intro n
  induction n with
  |zero=>
   intro i r h
   unfold ByteArray.toList.loop
   rw[if_neg (by omega),List.drop_eq_nil_of_le (by rw[Array.length_toList];show s.size<=i;omega),List.append_nil]
  |succ n ih=>
   intro i r h
   have hi:i<s.size:=by omega
   have hi':i<s.data.toList.length:=by rw[Array.length_toList];exact hi
   unfold ByteArray.toList.loop
   rw[if_pos hi,ih (i+1) _ (by omega),List.drop_eq_getElem_cons hi',List.reverse_cons,List.append_assoc]
   congr 1
   show s.get! i::_=_
   congr 1
   show s.data[i]! =_
   rw[getElem!_pos s.data i hi]
   rfl
 unfold ByteArray.toList
 rw[go _ 0 [] rfl]
 rfl
theorem AY (s p:ByteArray):E5 s p=true↔Lays s 0 (nums p):=by
 have hl:(nums p).length=p.size:=by unfold nums;rw[List.length_map,Array.length_toList];rfl
 have hx:∀j (h:j<(nums p).length),(nums p)[j]=(l5 p j:Int):=fun j h=>by
  have hj:j<p.size:=by omega
  unfold l5
  rw[dif_pos hj]
  have h':j<(p.data.toList.map fun b=>(b.toNat:Int)).length:=h
  show(p.data.toList.map fun b=>(b.toNat:Int))[j]'h'=_
  rw[List.getElem_map]
  rfl
 unfold E5
 rw[Bool.and_eq_true,decide_eq_true_eq,beq_iff_eq,CK,CK]
 constructor
 ·rintro⟨h1,h2⟩ j hj
  have hj2:j<p.size:=by omega
  have h3:(s.extract 0 p.size).data.toList[j]? =p.data.toList[j]? :=by rw[h2]
  have h4:j<(s.extract 0 p.size).size:=by rw[ByteArray.size_extract];omega
  refine⟨by omega,?_⟩
  rw[hx j hj,Nat.zero_add]
  have h5:j<s.size:=by omega
  unfold l5
  rw[dif_pos h5,dif_pos hj2]
  have h6:(s.extract 0 p.size)[j]=p[j]:=by
   rw[List.getElem?_eq_getElem (by rw[Array.length_toList];exact h4),List.getElem?_eq_getElem (by rw[Array.length_toList];exact hj2),Option.some_inj]at h3
   exact h3
  rw[<-h6,ByteArray.getElem_extract]
  simp
 ·intro h
  have h1:p.size<=s.size:=by
   by_cases h0:p.size=0
   ·omega
   ·have:=(h (p.size-1) (by omega)).1
    omega
  refine⟨h1,?_⟩
  have hsz:(s.extract 0 p.size).size=p.size:=by rw[ByteArray.size_extract];omega
  apply List.ext_getElem
  ·rw[Array.length_toList,Array.length_toList]
   exact hsz
  ·intro j h2 h3
   have hj:j<p.size:=by rw[Array.length_toList]at h3;exact h3
   have hq:=(h j (by omega)).2
   have h5:j<s.size:=by omega
   rw[hx j (by omega),Nat.zero_add]at hq
   unfold l5 at hq
   rw[dif_pos h5,dif_pos hj]at hq
   have h6:s[j]=p[j]:=UInt8.toNat_inj.1 (by omega)
   have h7:(s.extract 0 p.size)[j]'(by omega)=s[j]:=by rw[ByteArray.getElem_extract];simp
   show(s.extract 0 p.size)[j]'(by omega)=p[j]
   rw[h7,h6]
theorem Sb (r:ByteArray)(h:1<=r.size):(DD r).2<=r.size:=by
 rw[Mp]
 by_cases c1:l5 r 0<128
 ·rw[if_pos c1];exact h
 rw[if_neg c1]
 by_cases c2:l5 r 0<194
 ·rw[if_pos c2];exact h
 rw[if_neg c2]
 by_cases c3:l5 r 0<224
 ·rw[if_pos c3]
  split
  ·exact h
  ·dsimp only;omega
 rw[if_neg c3]
 by_cases c4:l5 r 0<240
 ·rw[if_pos c4]
  generalize (if l5 r 0=224 then 160 else 128)=lo
  generalize (if l5 r 0=237 then 159 else 191)=hi
  by_cases d1:1=r.size
  ·rw[if_pos (.inl d1)];exact h
  split
  ·exact h
  ·split
   ·dsimp only;omega
   ·dsimp only;omega
 rw[if_neg c4]
 by_cases c5:l5 r 0<245
 ·rw[if_pos c5]
  generalize (if l5 r 0=240 then 144 else 128)=lo
  generalize (if l5 r 0=244 then 143 else 191)=hi
  by_cases d1:1=r.size
  ·rw[if_pos (.inl d1)];exact h
  split
  ·exact h
  ·split
   ·dsimp only;omega
   ·split
    ·dsimp only;omega
    ·dsimp only;omega
 rw[if_neg c5]
 exact h
theorem GU (f:Nat)(s:ByteArray)(i:Nat)(h:i<s.size):i+(M9 (C9 f s) i).2<=s.size:=by
 unfold M9
 by_cases c0:C9 f s i= -1
 ·rw[if_pos c0];exact h
 have l1:=((Di f s i c0).1 1 (by rw[X9];omega)).1
 rw[if_neg c0]
 split
 ·dsimp only;omega
 ·split
  ·dsimp only;omega
  ·rename_i c2
   have l2:=((Di f s (i+2) (by omega)).1 1 (by rw[X9];omega)).1
   dsimp only;omega
theorem DG (c:Nat)(hc:c=1∨c=2∨c=3∨c=4)(s:ByteArray)(i:Nat)(h:i<s.size):i+(r8 s c i).2<=s.size:=by
 rcases hc with rfl|rfl|rfl|rfl
 ·rw[Sd]
  have:=Sb (s.extract i s.size) (by rw[BZ];omega)
  rw[BZ]at this
  omega
 ·rw[Se];exact GU 50 s i h
 ·rw[Sf];exact GU 51 s i h
 ·rw[Ns];exact h
def Ge (s:ByteArray):Nat->List Int->List Int->Prop
 |i,[],[]=>i=s.size
 |i,r::R,p::P=>p=(i:Int)/\i<s.size/\(r8 s 1 i).1=r/\r≠ -1/\Ge s (i+(r8 s 1 i).2) R P
 |_,[],_::_=>False
 |_,_::_,[]=>False
theorem Gn (s:ByteArray):∀(k i:Nat) (rs ps:List Int) (bad:Nat),i<=s.size->s.size<=i+k->(F8 s 1 true k i rs ps bad).1=none->
 ∃R P,(F8 s 1 true k i rs ps bad).2.1=rs++R/\(F8 s 1 true k i rs ps bad).2.2.1=ps++P/\Ge s i R P
 |k,i,rs,ps,bad,hi,hk,h=>by
  rcases Nat.lt_or_ge i s.size with hlt|hge
  ·obtain⟨k,rfl⟩:∃j,k=j+1:=⟨k-1,by omega⟩
   rw[U0 hlt]at h⊢
   by_cases hb:(r8 s 1 i).1= -1
   ·rw[if_pos hb,if_pos rfl]at h
    cases h
   ·rw[if_neg hb]at h⊢
    have hz:=Af s 1 i
    have hr:=DG 1 (.inl rfl) s i hlt
    obtain⟨R,P,h1,h2,h3⟩:=Gn s k _ _ _ _ hr (by omega) h
    exact⟨(r8 s 1 i).1::R,(i:Int)::P,by rw[h1];simp,by rw[h2];simp,rfl,hlt,rfl,hb,h3⟩
  ·obtain rfl:i=s.size:=by omega
   rw[Ay (Nat.le_refl _)]
   exact⟨[],[],by simp,by simp,rfl⟩
theorem Nn (s:ByteArray):∀(i:Nat) (R P:List Int),i<=s.size->Ge s i R P->R.length=P.length/\(P++ [(s.size:Int)])[0]? =some (i:Int)/\
 ∀j,j<R.length->∃a:Nat,(P++ [(s.size:Int)])[j]? =some (a:Int)/\a<s.size/\R[j]? =some (r8 s 1 a).1/\(r8 s 1 a).1≠ -1/\(P++ [(s.size:Int)])[j+1]? =some ((a+(r8 s 1 a).2:Nat):Int)
 |i,[],[],_,h=>by
  have h:i=s.size:=h
  subst h
  exact⟨rfl,rfl,fun j hj=>absurd hj (Nat.not_lt_zero _)⟩
 |i,r::R,p::P,_,⟨h1,h2,h3,h4,h5⟩=>by
  have hr:=DG 1 (.inl rfl) s i h2
  obtain⟨e1,e2,e3⟩:=Nn s _ R P hr h5
  refine⟨by simp[e1],by rw[h1];rfl,fun j hj=>?_⟩
  match j,hj with
  |0,_=>exact⟨i,by rw[h1];rfl,h2,by rw[h3];rfl,by rw[h3];exact h4,e2⟩
  |j+1,hj=>exact e3 j (by simpa using hj)
 |_,[],_::_,_,h=>False.elim h
 |_,_::_,[],_,h=>False.elim h
theorem Db {s:ByteArray}{i:Nat}{R P:List Int}(hs:s.size<=1024)(hi:i<=s.size)(h:Ge s i R P)(cd bd:Int)(ar ap:Option Addr)(cr cp:Nat):
 Px.Good ⟨R,P++ [(s.size:Int)],s,cd,bd,ar,cr,ap,cp⟩:=by
 obtain⟨hl,h0,hj⟩:=Nn s i R P hi h
 have hlen:∀(i:Nat) (R P:List Int),Ge s i R P->R.length+i<=s.size:=by
  intro i R
  induction R generalizing i with
  |nil=>intro P h;cases P with
   |nil=>have h:i=s.size:=h;simp;omega
   |cons=>exact False.elim h
  |cons r R ih=>intro P h;cases P with
   |nil=>exact False.elim h
   |cons p P=>
    obtain⟨_,_,_,_,h5⟩:=h
    have:=ih _ _ h5
    have:=Af s 1 i
    simp
    omega
 have hle:=hlen i R P h
 have hq:∀(j:Nat) (x:Int),(P++ [(s.size:Int)])[j]? =some x->0<=x/\x<=s.size:=by
  intro j x e
  rcases Nat.lt_trichotomy j R.length with g|g|g
  ·obtain⟨a,e1,e2,_⟩:=hj j g
   rw[e1]at e
   cases e
   omega
  ·rw[List.getElem?_append_right (by omega),g,hl,Nat.sub_self]at e
   cases e
   omega
  ·rw[List.getElem?_eq_none (by simp;omega)]at e
   cases e
 have hP:∀(j:Nat) (hh:j<(P++ [(s.size:Int)]).length),(P++ [(s.size:Int)])[j]? =some ((P++ [(s.size:Int)])[j]):=fun j hh=>List.getElem?_eq_getElem hh
 refine⟨by simp only;omega,by simp[hl],fun c hc=>?_,hs,fun j hj2=>hq j _ (hP j hj2),fun j g1 g2 g3 h128=>?_,fun j g1 g2=>?_⟩
 ·obtain⟨j,hj2,rfl⟩:=List.getElem_of_mem hc
  obtain⟨a,_,e2,e3,e4,_⟩:=hj j hj2
  rw[List.getElem?_eq_getElem hj2]at e3
  have ok:=(BM 1 (.inl rfl) s a e2 e4).1
  have:=Fi ok
  injection e3 with e3
  rw[e3]
  exact⟨this.1,this.2⟩
 ·simp only at g1 g2 g3 h128⊢
  obtain⟨a,e1,e2,e3,e4,e5⟩:=hj j g1
  have hb:=BM 1 (.inl rfl) s a e2 e4
  rw[List.getElem?_eq_getElem g1]at e3
  injection e3 with e3
  rw[hP j g2]at e1
  rw[hP (j+1) g3]at e5
  injection e1 with e1
  injection e5 with e5
  rw[e3]at h128⊢
  have hx:=(Fi hb.1).1
  have en:enc 1 (r8 s 1 a).1=[(r8 s 1 a).1]:=by
   rw[Lx]
   unfold FO
   rw[if_pos (by omega)]
  rw[en]at hb
  obtain⟨_,hL,hS⟩:=hb
  rw[e1,e5,hS]
  refine⟨by simp,?_⟩
  have:=hL 0 (by simp)
  simp only[Nat.add_zero,List.getElem_cons_zero]at this
  rw[Int.toNat_natCast,<-this.2]
  unfold l5 at*
  simp only[Int.toNat_natCast]
  have hsz:a<s.data.toList.length:=by simpa using e2
  rw[List.getElem?_eq_getElem hsz]
  rw[dif_pos e2,UInt8.ofNat_toNat]
  rfl
 ·simp only at g1 g2⊢
  have g:j<R.length:=by simp at g2;omega
  obtain⟨a,e1,_,_,_,e5⟩:=hj j g
  rw[hP j g1]at e1
  rw[hP (j+1) g2]at e5
  injection e1 with e1
  injection e5 with e5
  rw[e1,e5]
  omega
def s7 (x:Int)(s:List R2):Bool:=s.any fun r=>decide (r.1<=x)&&decide (x<=r.2)
theorem u7 {x:Int}{s:List R2}:s7 x s=true↔In x s:=by
 unfold s7 In
 simp[List.any_eq_true]
theorem Eu {x:Int}{s:List R2}{p:Bool}(h:In x s↔p=true):s7 x s=p:=by
 rw[Bool.eq_iff_iff,u7,h]
def cnt (N:Nat)(p:Nat->Bool):Nat:=(List.range N).countP p
def lP:List R2:=[(33,35),(37,42),(44,47),(58,59),(63,64),(91,93),(95,95),(123,123),(125,125),(161,161),(167,167),(171,171),(182,183),(187,187),(191,191),(8208,8231),(8255,8256),(12289,12291)]
theorem Pe (w:World):Calls Tryz.prog 59 #[] w fun e w'=>∃a c,e=.returned (.slice a lP.length c)/\Rg w' a lP/\b7 (fun _=>False) w w':=by
 go_enter Tryz.func59,Tryz.ntmps59
 go_wp2
 go_ret
 exact⟨_,_,rfl,u9 w lP 119,(b7.refl _ w).alloc _⟩
theorem Um (w:World):Calls Tryz.prog 39 #[.string ⟨#[80]⟩] w fun e w'=>∃a c,e=.returned (.slice a lP.length c)/\Rg w' a lP/\b7 (fun _=>False) w w':=by
 go_enter Tryz.func39,Tryz.ntmps39
 go_wp2_with fail
 refine(Pe w).mono ?_
 rintro e w1 ⟨a,c,rfl,r1,t1⟩
 have R1:=b6 r1
 have T1:=b6 t1
 clear r1 t1
 go_wp2
 go_ret
 exact⟨a,c,rfl,R1.out,T1.out⟩
theorem x6 (s:ByteArray)(l:List R2)(hs:∀w:World,Calls Tryz.prog 39 #[.string s] w fun e w'=>∃a c,e=.returned (.slice a l.length c)/\Rg w' a l/\b7 (fun _=>False) w w')(h0:0<l.length)(hb:l.length<=1000)(w:World):
 Calls Tryz.prog 152 #[.string s] w fun e w'=>∃v n,e=.returned (.tuple #[v,.bool true])/\l9 n/\(∀x,In x n↔(0<=x/\x<=1114111)/\In x l)/\E9 w w' 60 v n:=by
 have HS:=b6 hs
 clear hs
 go_enter Tryz.func152,Tryz.ntmps152
 go_wp2_with fail
 refine(HS.out w).mono ?_
 rintro e w1 ⟨a1,c1,rfl,r1,t1⟩
 have LS:=b6 (Hs (c:=c1) 96 r1)
 have T1:=b6 (t1.alloc (.cells #[.slice a1 l.length c1] 96))
 clear r1 t1
 have hI:(0:Int)<(l.length:Int):=by omega
 go_wp2_with fail
 generalize (w1.alloc (.cells #[.slice a1 l.length c1] 96))=w2 at*
 refine(AR w1.heap.size 1 [l] w2 LS.out (by simp) (by simp;omega)).mono ?_
 rintro e w3 ⟨v,n,rfl,hcn,hin,ow⟩
 have OW:=b6 ow
 have HCN:=b6 hcn
 have HIN:=b6 hin
 obtain⟨a,c,hv⟩:=e9 ow.own
 subst hv
 clear ow hcn hin LS
 go_wp2
 go_ret2
 first
 |exact⟨_,n,rfl,HCN.out,fun x=>by rw[HIN.out x];simp[List.flatten],⟨OW.out.own,fun g e=>Nat.le_trans T1.out.size (OW.out.new g e),T1.out.trans OW.out.touch iE⟩⟩
 |exact⟨_,rfl,n,HCN.out,fun x=>by rw[HIN.out x];simp[List.flatten],⟨OW.out.own,fun g e=>Nat.le_trans T1.out.size (OW.out.new g e),T1.out.trans OW.out.touch iE⟩⟩
def EW:List (List R2):=[Js,Jq,Jr,Z3,Sm,lP]
def cn (r:Int)(k:Nat):Nat:=(EW.take k).countP (fun l=>s7 r l)
end Go.Proofs.YtdhhcefmmojcmaaGreatDoor
namespace Go.Proofs.YtdhhcefmmojcmaaGreatDoor
open Go.Shelf Go.RowKit
def Ig (w:World)(a:Option Addr)(e:List Int):Prop:=∃b,a=some ⟨b,0,none⟩/\b<w.heap.size/\∀i (h:i<e.length),w.cell? ⟨b,i,none⟩=some (.int .i64 e[i])
theorem Ig.new {w w':World}{a:Option Addr}{e:List Int}(h:Ig w a e)(t:b7 (fun _=>False) w w'):Ig w' a e:=by
 obtain⟨b,rfl,hb,hc⟩:=h
 refine⟨b,rfl,Nat.lt_of_lt_of_le hb t.size,fun i hi=>?_⟩
 rw[t.cell (p:=⟨b,i,none⟩) hb id]
 exact hc i hi
end Go.Proofs.YtdhhcefmmojcmaaGreatDoor
namespace Go.Proofs.YtdhhcefmmojcmaaGreatDoor
open Go.RowKit Go.Lib
def ends (l:List R2):List Int:=l.flatMap fun r=> [r.1,r.2]
theorem Qx (l:List R2):(ends l).length=l.length*2:=by
 induction l with
 |nil=>rfl
 |cons x r ih=>simp only[ends,List.flatMap_cons,List.length_append,List.length_cons]at ih⊢;rw[ih];simp;omega
theorem Oi (l:List R2):l4 l=(ends l).map (Value.int .i64):=by
 induction l with
 |nil=>rfl
 |cons x r ih=>simp only[l4,ends,List.flatMap_cons,List.map_append]at ih⊢;rw[ih];rfl
theorem Qw (l:List R2)(i:Nat)(h:i<l.length):(ends l)[2*i]? =some (l[i]).1/\(ends l)[2*i+1]? =some (l[i]).2:=by
 have h0:=M5 l i h
 have h1:=I3 l i h
 rw[Oi,List.getElem?_map]at h0 h1
 obtain⟨a,ha,e⟩:=Option.map_eq_some_iff.1 h0
 obtain⟨b,hb,f⟩:=Option.map_eq_some_iff.1 h1
 injection e with _ e
 injection f with _ f
 rw[ha,hb,e,f]
 exact⟨rfl,rfl⟩
theorem E8 (w:World)(e:List Int)(t:TypeId):Ig (w.alloc (.cells (e.map (Value.int .i64)).toArray t)) (some ⟨w.heap.size,0,none⟩) e:=by
 refine⟨w.heap.size,rfl,by simp,fun i hi=>?_⟩
 have:=z7 w (e.map (Value.int .i64)) t i (.int .i64 e[i]) (by simp[hi])
 rwa [Ai]at this
theorem GP (w:World):Calls Tryz.prog 147 #[.string ⟨#[76,117]⟩] w fun e w'=>∃a c,e=.returned (.slice a (ends Js).length c)/\Ig w' a (ends Js)/\b7 (fun _=>False) w w':=by
 go_enter Tryz.func147,Tryz.ntmps147
 go_wp2
 go_ret
 exact⟨_,_,rfl,E8 w (ends Js) 3,(b7.refl _ w).alloc _⟩
theorem GN (w:World):Calls Tryz.prog 147 #[.string ⟨#[76,108]⟩] w fun e w'=>∃a c,e=.returned (.slice a (ends Jq).length c)/\Ig w' a (ends Jq)/\b7 (fun _=>False) w w':=by
 go_enter Tryz.func147,Tryz.ntmps147
 go_wp2
 go_ret
 exact⟨_,_,rfl,E8 w (ends Jq) 3,(b7.refl _ w).alloc _⟩
theorem GO (w:World):Calls Tryz.prog 147 #[.string ⟨#[76,111]⟩] w fun e w'=>∃a c,e=.returned (.slice a (ends Jr).length c)/\Ig w' a (ends Jr)/\b7 (fun _=>False) w w':=by
 go_enter Tryz.func147,Tryz.ntmps147
 go_wp2
 go_ret
 exact⟨_,_,rfl,E8 w (ends Jr) 3,(b7.refl _ w).alloc _⟩
theorem BY (w:World):Calls Tryz.prog 147 #[.string ⟨#[78,100]⟩] w fun e w'=>∃a c,e=.returned (.slice a (ends Z3).length c)/\Ig w' a (ends Z3)/\b7 (fun _=>False) w w':=by
 go_enter Tryz.func147,Tryz.ntmps147
 go_wp2
 go_ret
 exact⟨_,_,rfl,E8 w (ends Z3) 3,(b7.refl _ w).alloc _⟩
theorem GQ (w:World):Calls Tryz.prog 147 #[.string ⟨#[80,99]⟩] w fun e w'=>∃a c,e=.returned (.slice a (ends Kr).length c)/\Ig w' a (ends Kr)/\b7 (fun _=>False) w w':=by
 go_enter Tryz.func147,Tryz.ntmps147
 go_wp2
 go_ret
 exact⟨_,_,rfl,E8 w (ends Kr) 3,(b7.refl _ w).alloc _⟩
theorem Pc (w:World):Calls Tryz.prog 147 #[.string ⟨#[90,115]⟩] w fun e w'=>∃a c,e=.returned (.slice a (ends Sm).length c)/\Ig w' a (ends Sm)/\b7 (fun _=>False) w w':=by
 go_enter Tryz.func147,Tryz.ntmps147
 go_wp2
 go_ret
 exact⟨_,_,rfl,E8 w (ends Sm) 3,(b7.refl _ w).alloc _⟩
theorem RH (w:World):Calls Tryz.prog 147 #[.string ⟨#[80]⟩] w fun e w'=>∃a c,e=.returned (.slice a (ends lP).length c)/\Ig w' a (ends lP)/\b7 (fun _=>False) w w':=by
 go_enter Tryz.func147,Tryz.ntmps147
 go_wp2
 go_ret
 exact⟨_,_,rfl,E8 w (ends lP) 3,(b7.refl _ w).alloc _⟩
def Bg:List R2:=[(65,90),(97,122),(170,170),(186,186),(192,214),(216,246),(248,591),(8490,8491)]
theorem Ib (w:World):Calls Tryz.prog 147 #[.string ⟨#[76,97,116,105,110]⟩] w fun e w'=>∃a c,e=.returned (.slice a (ends Bg).length c)/\Ig w' a (ends Bg)/\b7 (fun _=>False) w w':=by
 go_enter Tryz.func147,Tryz.ntmps147
 go_wp2
 go_ret
 exact⟨_,_,rfl,E8 w (ends Bg) 3,(b7.refl _ w).alloc _⟩
def Bf:List R2:=[(913,929),(931,993)]
theorem Ia (w:World):Calls Tryz.prog 147 #[.string ⟨#[71,114,101,101,107]⟩] w fun e w'=>∃a c,e=.returned (.slice a (ends Bf).length c)/\Ig w' a (ends Bf)/\b7 (fun _=>False) w w':=by
 go_enter Tryz.func147,Tryz.ntmps147
 go_wp2
 go_ret
 exact⟨_,_,rfl,E8 w (ends Bf) 3,(b7.refl _ w).alloc _⟩
def N7:List R2:=[(1024,1156)]
theorem Ef (w:World):Calls Tryz.prog 147 #[.string ⟨#[67,121,114,105,108,108,105,99]⟩] w fun e w'=>∃a c,e=.returned (.slice a (ends N7).length c)/\Ig w' a (ends N7)/\b7 (fun _=>False) w w':=by
 go_enter Tryz.func147,Tryz.ntmps147
 go_wp2
 go_ret
 exact⟨_,_,rfl,E8 w (ends N7) 3,(b7.refl _ w).alloc _⟩
def Z9:List R2:=[(1488,1514)]
theorem FZ (w:World):Calls Tryz.prog 147 #[.string ⟨#[72,101,98,114,101,119]⟩] w fun e w'=>∃a c,e=.returned (.slice a (ends Z9).length c)/\Ig w' a (ends Z9)/\b7 (fun _=>False) w w':=by
 go_enter Tryz.func147,Tryz.ntmps147
 go_wp2
 go_ret
 exact⟨_,_,rfl,E8 w (ends Z9) 3,(b7.refl _ w).alloc _⟩
def N9:List R2:=[(12353,12438)]
theorem Eg (w:World):Calls Tryz.prog 147 #[.string ⟨#[72,105,114,97,103,97,110,97]⟩] w fun e w'=>∃a c,e=.returned (.slice a (ends N9).length c)/\Ig w' a (ends N9)/\b7 (fun _=>False) w w':=by
 go_enter Tryz.func147,Tryz.ntmps147
 go_wp2
 go_ret
 exact⟨_,_,rfl,E8 w (ends N9) 3,(b7.refl _ w).alloc _⟩
def O9:List R2:=[(12449,12538)]
theorem Eh (w:World):Calls Tryz.prog 147 #[.string ⟨#[75,97,116,97,107,97,110,97]⟩] w fun e w'=>∃a c,e=.returned (.slice a (ends O9).length c)/\Ig w' a (ends O9)/\b7 (fun _=>False) w w':=by
 go_enter Tryz.func147,Tryz.ntmps147
 go_wp2
 go_ret
 exact⟨_,_,rfl,E8 w (ends O9) 3,(b7.refl _ w).alloc _⟩
def Hq:List R2:=[(19968,40959)]
theorem LZ (w:World):Calls Tryz.prog 147 #[.string ⟨#[72,97,110]⟩] w fun e w'=>∃a c,e=.returned (.slice a (ends Hq).length c)/\Ig w' a (ends Hq)/\b7 (fun _=>False) w w':=by
 go_enter Tryz.func147,Tryz.ntmps147
 go_wp2
 go_ret
 exact⟨_,_,rfl,E8 w (ends Hq) 3,(b7.refl _ w).alloc _⟩
def V8:List R2:=[(66560,66639)]
theorem Fm (w:World):Calls Tryz.prog 147 #[.string ⟨#[68,101,115,101,114,101,116]⟩] w fun e w'=>∃a c,e=.returned (.slice a (ends V8).length c)/\Ig w' a (ends V8)/\b7 (fun _=>False) w w':=by
 go_enter Tryz.func147,Tryz.ntmps147
 go_wp2
 go_ret
 exact⟨_,_,rfl,E8 w (ends V8) 3,(b7.refl _ w).alloc _⟩
theorem CW (w:World):Calls Tryz.prog 147 #[.string ⟨#[115,112,97,99,101]⟩] w fun e w'=>∃a c,e=.returned (.slice a (ends Bm).length c)/\Ig w' a (ends Bm)/\b7 (fun _=>False) w w':=by
 go_enter Tryz.func147,Tryz.ntmps147
 go_wp2
 go_ret
 exact⟨_,_,rfl,E8 w (ends Bm) 3,(b7.refl _ w).alloc _⟩
end Go.Proofs.YtdhhcefmmojcmaaGreatDoor
