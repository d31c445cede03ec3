/- Texts of this proof, one behind the other. -/
import Derived.Test.YtdhhcefmmojcmaaGreatDoorM2
set_option maxRecDepth 100000
set_option maxHeartbeats 0
set_option linter.unusedVariables false
namespace Go.Proofs.YtdhhcefmmojcmaaGreatDoor
open Go.Shelf Go.RowKit Go.Lib Go.Sort
theorem QN (f:Value)(w:World):Calls Tryz.prog 78 #[.slice none 0 0,.int .i64 0,.int .i64 0,f] w fun e w'=>e=.returned (.tuple #[])/\w'=w:=by
 go_enter Tryz.func78,Tryz.ntmps78
 go_wp2_with fail
 go_loopg [8] 1 (fun gk i wr=>gk=1/\i=.int .i64 1/\wr=w)
 case atStart=>exact⟨rfl,rfl,rfl⟩
 case round=>
  obtain⟨_,rfl,rfl⟩:=hrel
  go_wp2
  go_end0
  exact⟨rfl,rfl⟩
theorem Rt (n:Int)(f:Value)(w:World):Calls Tryz.prog 55 #[.slice none 0 0,.int .i64 0,.int .i64 0,.int .i64 n,f] w fun e w'=>e=.returned (.tuple #[])/\w'=w:=by
 have K:=b6 (fun wq=>QN f wq)
 go_enter Tryz.func55,Tryz.ntmps55
 go_wp2_with fail
 go_loopg [1,2] 1 (fun gk a b wr=>gk=1/\a=.int .i64 0/\b=.int .i64 0/\wr=w)
 case atStart=>exact⟨rfl,rfl,rfl,rfl⟩
 case round=>
  obtain⟨_,rfl,rfl,rfl⟩:=hrel
  go_wp2_with fail
  refine(K.out _).mono ?_
  rintro e w1 ⟨rfl,rfl⟩
  go_wp2
  exact bodyPost_ret (results_none (fn:=Tryz.f55) rfl _ Tryz.prog _) rfl ⟨rfl,rfl⟩
theorem Pg (w:World):Calls Tryz.prog 34 #[.slice none 0 0,.func (.func 35) #[] #[]] w fun e w'=>e=.returned (.tuple #[])/\w'=w:=by
 have hlen:=fun wq=>Any.bits_Len Tryz.bitsLen2 0 wq (by omega) (by omega)
 change ∀wq,Calls Tryz.prog 56 _ _ _ at hlen
 have K:=b6 (fun n wq=>Rt n (.func (.func 35) #[] #[]) wq)
 have HLN:=b6 hlen
 clear hlen
 go_enter Tryz.func34,Tryz.ntmps34
 go_wp2_with fail
 refine(HLN.out _).mono ?_
 rintro e w1 ⟨rfl,rfl⟩
 go_wp2_with fail
 refine(K.out _ _).mono ?_
 rintro e w2 ⟨rfl,rfl⟩
 go_wp2
 go_end0
 exact⟨rfl,rfl⟩
theorem FG (w:World)(blk off m:Nat)(d:Array R2)(os:Array Obj):b7 (fun k=>k=blk) w (sortWorldK Be 2 w blk off m d os):=by
 refine⟨rfl,rfl,rfl,?_,fun k hk hn=>?_⟩
 ·exact size_sortWorldK_c _ _ _ _ _ _ _ _
 ·show((w.heap.modify blk _)++os)[k]? =_
  rw[Array.getElem?_append_left (by simpa using hk),Array.getElem?_modify,if_neg (fun e=>hn e.symm)]
theorem QH (s:List R2)(j:Nat)(h:j<s.length*2):(l4 s)[j]? =some ((Be (s.toArray[j / 2]!))[j%2]!):=by
 have hi:j / 2<s.length:=by omega
 have e:s.toArray[j / 2]! =s[j / 2]:=by simp[hi]
 rw[e]
 rcases(show j%2=0∨j%2=1 by omega)with h0|h0
 ·have:=M5 s (j / 2) hi
  rw[show 2*(j / 2)=j by omega]at this
  rw[this,h0]
  rfl
 ·have:=I3 s (j / 2) hi
  rw[show 2*(j / 2)+1=j by omega]at this
  rw[this,h0]
  rfl
theorem Gu {w:World}{base e g n cap:Nat}{s:List R2}(h:w.ownsRow base e 2 (.slice (some ⟨g,0,none⟩) n cap) s.length (l4 s)):HoldsK Be 2 w g 0 s.toArray:=by
 intro j hj
 rw[size_flatK]at hj
 have hj':j<s.length*2:=by simpa using hj
 rw[get_flatK _ _ _ _ hj,Nat.zero_add]
 have hc:=h.cells (g:=g) rfl j _ (QH s j hj')
 rw[Ai]at hc
 refine⟨hc,?_⟩
 rcases h.2 with⟨hv,_⟩|⟨g',cap',cur,hv,_,hh,_⟩
 ·simp at hv
 ·simp at hv
  obtain⟨rfl,_⟩:=hv
  simp[World.frozen?,hh]
theorem RU {W0 wr:World}{v:Value}{s:List R2}(h:Ow W0 wr 24 v s)(hb:s.length*16<=140737488351232):
 Calls Tryz.prog 34 #[v,.func (.func 35) #[] #[]] wr fun e w'=>e=.returned (.tuple #[])/\∃s',s'.Perm s/\s'.Pairwise (fun a b=>a.1<=b.1)/\(∃a c,v=.slice a s'.length c/\Rg w' a s')/\b7 (fun _=>False) W0 w':=by
 rcases h.own.2 with⟨rfl,h0⟩|⟨g,cap,cur,rfl,hg,hh,rest⟩
 ·have hs:s=[]:=List.eq_nil_of_length_eq_zero h0
  subst hs
  refine(Pg wr).mono ?_
  rintro e w' ⟨rfl,rfl⟩
  exact⟨rfl,[],.nil,.nil,⟨none,0,rfl,.inl rfl⟩,h.touch⟩
 ·have hk:=RV g 0 cap s.toArray wr (Gu h.own) (lt_of_block hh) (by simp;omega)
  rw[show s.toArray.size=s.length by simp]at hk
  refine hk.mono ?_
  rintro e w' ⟨rfl,d',n,os,hp,hsd,rfl⟩
  have hsz:d'.size=s.length:=by rw[hp.1];simp
  refine⟨rfl,d'.toList,?_,?_,⟨some ⟨g,0,none⟩,cap,by simp[hsz],.inr ⟨g,0,rfl,?_,fun i hi=>?_⟩⟩,?_⟩
  ·have:=hp.2.2
   have h3:(List.take s.length d'.toList).Perm s:=by simpa using this
   rw[List.take_of_length_le (by simp;omega)]at h3
   exact h3
  ·rw[List.pairwise_iff_getElem]
   intro i j hi hj hij
   have:=hsd i j (Nat.zero_le _) hij (by simpa [hsz]using hj)
   rw[Tv]at this
   simp only[Array.length_toList]at hi hj
   rw[getElem!_pos d' i hi,getElem!_pos d' j hj]at this
   simp only[decide_eq_false_iff_not]at this
   simp only[Array.getElem_toList]
   omega
  ·exact Nat.lt_of_lt_of_le (lt_of_block hh) (FG wr g 0 n d' os).size
  ·simp only[Array.length_toList]at hi
   have hH:=holdsK_sortWorldK Be 2 wr g 0 n s.toArray d' os (lt_of_block hh) (Gu h.own) (by simp[hsz])
   have h1:=(hH.cell (i:=i) (c:=0) hi (by decide)).1
   have h2:=(hH.cell (i:=i) (c:=1) hi (by decide)).1
   rw[getElem!_pos d' i hi]at h1 h2
   exact⟨h1,h2⟩
  ·refine h.touch.trans (FG wr g 0 n d' os) (fun i hi e=>?_)
   have:=h.new g rfl
   omega
end Go.Proofs.YtdhhcefmmojcmaaGreatDoor
