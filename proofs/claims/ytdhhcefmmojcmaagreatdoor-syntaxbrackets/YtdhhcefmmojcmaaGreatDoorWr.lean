/- Texts of this proof, one behind the other. -/
import Derived.Test.YtdhhcefmmojcmaaGreatDoorM34
set_option maxRecDepth 100000
set_option maxHeartbeats 0
set_option linter.unusedVariables false
namespace Go.Proofs.YtdhhcefmmojcmaaGreatDoor
open Go.RowKit Go.Lib
def Jm (R:List Int)(k0 n k:Nat)(l:List R2):PR (List R2×Nat):=if n=0 then G2 R b8 k0 k else F1 R b8 k0 (R.length+2-n) k l
def Kt (R:List Int)(k0 n k:Nat)(l:List R2):PR (List R2×Nat):=match G6 R b8 k0 k with
 | .error e=>.error e
 | .ok (m,k1)=>F1 R b8 k0 (R.length+1-n) k1 (l++m)
theorem QO {R:List Int}{k0 n k:Nat}{l:List R2}(hn:n≠0)(hf:n<=R.length+1)(h:g7 R k=93):Jm R k0 n k l=.ok (l,k+1):=by
 unfold Jm
 rw[if_neg hn]
 obtain⟨g,hg⟩:∃g,R.length+2-n=g+1:=⟨R.length+1-n,by omega⟩
 rw[hg,F1,if_pos h]
theorem Hm {R:List Int}{k0 n k:Nat}{l:List R2}(h0:n=0->l=[])(hf:n<=R.length+1)(h:¬(n≠0/\g7 R k=93)):Jm R k0 n k l=Kt R k0 n k l:=by
 unfold Jm Kt
 by_cases hn:n=0
 ·rw[if_pos hn,h0 hn,hn]
  rfl
 ·rw[if_neg hn]
  obtain⟨g,hg⟩:∃g,R.length+2-n=g+1:=⟨R.length+1-n,by omega⟩
  have hg2:R.length+1-n=g:=by omega
  rw[hg,hg2,F1,if_neg (fun e=>h ⟨hn,e⟩)]
  rfl
theorem Hn {R:List Int}{k0 n k:Nat}{l:List R2}:F1 R b8 k0 (R.length+1-n) k l=Jm R k0 (n+1) k l:=by
 unfold Jm
 rw[if_neg (by omega),show R.length+2-(n+1)=R.length+1-n by omega]
section
variable {R : List Int} {k0 n k k1 k2 : Nat} {l m m2 : List R2} {a z : Int} {e : Nat × Nat}
theorem Ro (h:g7 R k= -1):Kt R k0 n k l=.error (24,k0):=by
 unfold Kt G6 G7
 rw[if_pos h]
theorem Vq (h:g7 R k≠ -1)(hm:Ec R k=.error e):Kt R k0 n k l=.error e:=by
 unfold Kt G6
 rw[GB h,hm]
theorem Vr (h:g7 R k≠ -1)(hm:Ec R k=.ok (m,none,k1)):Kt R k0 n k l=Jm R k0 (n+1) k1 (l++m):=by
 unfold Kt G6
 rw[GB h,hm]
 exact Hn
theorem Oq (h:g7 R k≠ -1)(hm:Ec R k=.ok (m,some a,k1))(hd:¬(g7 R k1=45/\g7 R (k1+1)≠93)):G6 R b8 k0 k=.ok (m,k1):=by
 unfold G6
 rw[GB h,hm]
 simp only
 rw[if_neg hd]
theorem Hu (h:g7 R k≠ -1)(hm:Ec R k=.ok (m,some a,k1))(hd:¬(g7 R k1=45/\g7 R (k1+1)≠93)):Kt R k0 n k l=Jm R k0 (n+1) k1 (l++m):=by
 unfold Kt
 rw[Oq h hm hd]
 exact Hn
theorem TL (h:g7 R k≠ -1)(hm:Ec R k=.ok (m,some a,k1))(h1:g7 R k1=45)(h2:g7 R (k1+1)= -1)(hn:n<k1):Kt R k0 n k l=Jm R k0 (n+1) k1 (l++m):=by
 have hk1:=j9 h1 (by decide)
 have e1:Kt R k0 n k l=.error (24,k0):=by
  unfold Kt G6
  rw[GB h,hm]
  simp only
  rw[if_pos ⟨h1,by rw[h2];decide⟩]
  unfold G7
  rw[if_pos h2]
 rw[e1]
 have hne:g7 R k1≠ -1:=by rw[h1];decide
 have hm1:Ec R k1=.ok ([(45,45)],some 45,k1+1):=by
  unfold Ec
  rw[h1,if_neg (by decide)]
 rw[Hm (by omega) (by omega) (by rw[h1];exact fun e=>absurd e.2 (by decide)),Hu hne hm1 (by rw[h2];exact fun e=>absurd e.1 (by decide)),Hm (by omega) (by omega) (by rw[h2];exact fun e=>absurd e.2 (by decide)),Ro h2]
theorem WE (h:g7 R k≠ -1)(hm:Ec R k=.ok (m,some a,k1))(h1:g7 R k1=45)(h2:g7 R (k1+1)≠93)(h3:g7 R (k1+1)≠ -1):
 Kt R k0 n k l=match Ec R (k1+1)with
  | .error e=>.error e
  | .ok (_,none,_)=>.error (22,k)
  | .ok (_,some b,k2)=>if b<a then .error (22,k)else Jm R k0 (n+1) k2 (l++ [(a,b)]):=by
 unfold Kt G6
 rw[GB h,hm]
 simp only
 rw[if_pos ⟨h1,h2⟩,GB h3]
 cases Ec R (k1+1)with
 |error e=>rfl
 |ok p=>
  obtain⟨l2,o,k2⟩:=p
  cases o with
  |none=>rfl
  |some b=>
   simp only
   by_cases hb:b<a
   ·rw[if_pos hb,if_pos hb]
   ·rw[if_neg hb,if_neg hb]
    exact Hn
end
theorem Rc {R:List Int}{k k1:Nat}{l:List R2}{o:Option Int}(hk:k<R.length)(h:Ec R k=.ok (l,o,k1)):k<k1/\k1<=R.length:=by
 unfold Ec at h
 split at h
 ·have:=Es h
  omega
 ·cases h
  omega
theorem Tb {R:List Int}{k0 k:Nat}{l:List R2}{a:Int}{k1:Nat}(h:L3 R b8 k0 k=.ok (l,some a,k1)):0<=a:=by
 unfold L3 AA at h
 rcases j8 h with⟨_,h⟩|⟨_,h⟩
 ·cases h
 rcases j8 h with⟨_,h⟩|⟨_,h⟩
 ·cases h
 rcases j8 h with⟨_,h⟩|⟨_,h⟩
 ·cases h
 rcases j8 h with⟨_,h⟩|⟨_,h⟩
 ·cases h
 rcases j8 h with⟨_,h⟩|⟨_,h⟩
 ·cases h
 rcases j8 h with⟨_,h⟩|⟨_,h⟩
 ·cases h
 rcases j8 h with⟨_,h⟩|⟨_,h⟩
 ·split at h<;>cases h
 rcases j8 h with⟨_,h⟩|⟨_,h⟩
 ·split at h
  ·cases h
  ·cases h
   exact Int.natCast_nonneg _
 rcases j8 h with⟨_,h⟩|⟨_,h⟩
 ·cases h;decide
 rcases j8 h with⟨_,h⟩|⟨_,h⟩
 ·cases h;decide
 rcases j8 h with⟨_,h⟩|⟨_,h⟩
 ·cases h;decide
 rcases j8 h with⟨_,h⟩|⟨_,h⟩
 ·cases h;decide
 rcases j8 h with⟨_,h⟩|⟨_,h⟩
 ·cases h;decide
 rcases j8 h with⟨_,h⟩|⟨e,h⟩
 ·cases h
 ·cases h
  have:¬g7 R k<33:=fun x=>e (.inl x)
  omega
theorem Vo {X:Px}(hX:X.Good){k:Nat}(hk:k<X.R.length){l:List R2}{a:Int}{k1:Nat}(h:Ec X.R k=.ok (l,some a,k1)):0<=a:=by
 unfold Ec at h
 split at h
 ·exact Tb h
 ·cases h
  rw[P8 hk]
  exact(hX.nonneg _ (List.getElem_mem hk)).1
theorem Rd {R:List Int}{k0 k:Nat}{neg:Bool}{c j:Nat}(h:E7 R b8 k0 neg k=.error (c,j)):c≠0:=by
 unfold E7 at h
 split at h
 ·simp only at h
  split at h
  ·split at h
   ·cases h
   ·cases h
    decide
  ·cases h
   decide
 ·cases h
  decide
theorem NO {R:List Int}{k0 k:Nat}{c j:Nat}(h:J9 R k0 k=.error (c,j)):c≠0:=by
 unfold J9 at h
 split at h
 ·simp only at h
  split at h
  ·cases h
  ·cases h
   decide
 ·simp only at h
  split at h
  ·cases h
  ·cases h
   decide
theorem Qy {R:List Int}{k0 k:Nat}{c j:Nat}(h:L3 R b8 k0 k=.error (c,j)):c≠0:=by
 unfold L3 AA at h
 rcases j8 h with⟨_,h⟩|⟨_,h⟩
 ·cases h
 rcases j8 h with⟨_,h⟩|⟨_,h⟩
 ·cases h
 rcases j8 h with⟨_,h⟩|⟨_,h⟩
 ·cases h
 rcases j8 h with⟨_,h⟩|⟨_,h⟩
 ·cases h
 rcases j8 h with⟨_,h⟩|⟨_,h⟩
 ·cases h
 rcases j8 h with⟨_,h⟩|⟨_,h⟩
 ·cases h
 rcases j8 h with⟨_,h⟩|⟨_,h⟩
 ·split at h
  ·rename_i hn
   cases h
   exact Rd hn
  ·cases h
 rcases j8 h with⟨_,h⟩|⟨_,h⟩
 ·split at h
  ·rename_i hn
   cases h
   exact NO hn
  ·cases h
 rcases j8 h with⟨_,h⟩|⟨_,h⟩
 ·cases h
 rcases j8 h with⟨_,h⟩|⟨_,h⟩
 ·cases h
 rcases j8 h with⟨_,h⟩|⟨_,h⟩
 ·cases h
 rcases j8 h with⟨_,h⟩|⟨_,h⟩
 ·cases h
 rcases j8 h with⟨_,h⟩|⟨_,h⟩
 ·cases h
 rcases j8 h with⟨_,h⟩|⟨_,h⟩
 ·cases h
  decide
 ·cases h
theorem MV {R:List Int}{k:Nat}{c j:Nat}(h:Ec R k=.error (c,j)):c≠0:=by
 unfold Ec at h
 split at h
 ·exact Qy h
 ·cases h
def Sq (b:Nat)(X:Px)(f:Fl)(op:Nat)(vN vn:Value)(w:World)(neg:Bool):PR (List R2×Nat)->Ending->World->Prop
 | .ok (l,k1),e,w'=>∃v,e=.returned v/\RR w' v (if neg then z6 l else l)/\l.length<=131072/\(∀g,v.ownBlock=some g->w.heap.size<=g)/\DS w' b X k1 f op vN vn 0 0/\b7 (fun g=>g=b) w w'
 | .error (c,j),e,w'=>∃v l,e=.returned v/\RR w' v l/\l.length<=131073/\(∀g,v.ownBlock=some g->w.heap.size<=g)/\DS w' b X X.R.length f op vN vn (c:Nat) (g7 X.P j)/\b7 (fun g=>g=b) w w'
theorem Y0 {w w':World}{b:Nat}{X:Px}{k:Nat}{f:Fl}{op:Nat}{vN vn:Value}{er ea:Int}{v:Value}{l:List R2}(h:RR w v l)(hd:DS w b X k f op vN vn er ea)(t:b7 (fun g=>g=b) w w'):RR w' v l:=by
 refine g9 h t (fun g e s=>?_)
 obtain⟨cs,fr,hh⟩:=j5 h g e
 rw[s,hd.cells]at hh
 cases hh
theorem Ab {w wr w1:World}{b:Nat}{X:Px}{k:Nat}{f:Fl}{op:Nat}{vN vn:Value}{er ea:Int}{v v':Value}{l m:List R2}(t:b7 (fun g=>g=b) w wr)(hd:DS wr b X k f op vN vn er ea)(hb:b<w.heap.size)(hn:∀g,v.ownBlock=some g->w.heap.size<=g)
 (hown:w1.ownsRow 0 87 2 v' (l.length+m.length) (l4 l++l4 m)) (hg:wr.grownBy w1 v.ownBlock) (hat:v'.ownBlock=v.ownBlock∨v'.ownBlock=some wr.heap.size):
 RR w1 v' (l++m)/\(∀g,v'.ownBlock=some g->w.heap.size<=g)/\b7 (fun g=>g=b) w w1/\DS w1 b X k f op vN vn er ea:=by
 have tt:b7 (fun g=>v.ownBlock=some g) wr w1:=b7.grown (b7.refl _ wr) hg (fun k e _=>e)
 refine⟨?_,fun g e=>?_,t.trans tt (fun i hi e=>by have:=hn i e;omega),hd.turn ((tt.block b hd.lt (fun e=>by have:=hn b e;omega)).trans hd.cells) tt (fun g e=>by have:=hn g e;omega)⟩
 ·unfold RR
  rw[List.length_append,y8]
  exact hown
 ·rcases hat with e2|e2
  ·exact hn g (by rw[<-e2];exact e)
  ·rw[e2]at e
   cases e
   exact t.size
end Go.Proofs.YtdhhcefmmojcmaaGreatDoor
