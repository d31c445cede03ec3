/- Texts of this proof, one behind the other. -/
import Derived.Test.YtdhhcefmmojcmaaGreatDoorM44
import Derived.Test.YtdhhcefmmojcmaaGreatDoorM7
import Derived.Test.YtdhhcefmmojcmaaGreatDoorM8
set_option maxRecDepth 100000
set_option maxHeartbeats 0
set_option linter.unusedVariables false
namespace Go.Proofs.YtdhhcefmmojcmaaGreatDoor
open Go.RowKit Go.Lib
theorem Ja (s:ByteArray)(a:Nat)(w:World)(ha:a<s.size):Calls Tryz.prog 50 #[.string s,.int .i64 a,.int .i64 4] w fun e w'=>e=.returned (.tuple #[.int .i64 (l5 s a:Nat),.int .i64 1])/\b7 (fun _=>False) w w':=by
 have haI:(a:Int)<(s.size:Int):=by omega
 have HB:=b6 (S2 s a ha)
 have hbl:=y6 s a
 go_enter Tryz.func50,Tryz.ntmps50
 go_wp2
 go_ret2
 exact⟨by rw[HB.out,IntWalk.wrap64_in _ (by omega)];rfl,b7.refl _ _⟩
theorem Lt (s:ByteArray)(a:Nat)(w:World)(ha:a<s.size)(hs:s.size<=1099511627776):Calls Tryz.prog 50 #[.string s,.int .i64 a,.int .i64 1] w fun e w'=>e=.returned (.tuple #[.int .i64 (Sl s a).1,.int .i64 ((Sl s a).2:Nat)])/\b7 (fun _=>False) w w':=by
 have haI:(a:Int)<(s.size:Int):=by omega
 have K:=b6 (Jb s a w ha hs)
 generalize Sl s a=R at*
 go_enter Tryz.func50,Tryz.ntmps50
 go_wp2_with fail
 refine K.out.mono ?_
 rintro e w1 ⟨rfl,rfl⟩
 go_wp2
 go_ret2
 exact⟨rfl,b7.refl _ _⟩
theorem Lu (s:ByteArray)(a:Nat)(w:World)(ha:a<s.size)(hs:s.size<=1099511627776):Calls Tryz.prog 50 #[.string s,.int .i64 a,.int .i64 2] w fun e w'=>e=.returned (.tuple #[.int .i64 (M9 (Z2 s) a).1,.int .i64 ((M9 (Z2 s) a).2:Nat)])/\b7 (fun _=>False) w w':=by
 have haI:(a:Int)<(s.size:Int):=by omega
 obtain⟨R,hR⟩:∃R,M9 (Z2 s) a=R:=⟨_,rfl⟩
 have HR:=b6 hR
 unfold M9 at HR
 rw[hR]
 clear hR
 by_cases h1:s.size<=a+1
 ·have HE:=b6 (show(-1,1)=R by rw[<-HR.out,if_pos (by unfold Z2;rw[if_pos (by omega)])])
  have h1I:(s.size:Int)<=(a:Int)+1:=by omega
  go_enter Tryz.func50,Tryz.ntmps50
  go_wp2
  go_ret2
  exact⟨by rw[<-HE.out];rfl,b7.refl _ _⟩
 have h1I:¬((s.size:Int)<=(a:Int)+1):=by omega
 have K1:=b6 (DQ s a w (by omega) hs)
 have hu0:Z2 s a=(((l5 s a+256*l5 s (a+1)):Nat):Int):=by unfold Z2;rw[if_neg (by omega)]
 have hul:0<=(((l5 s a+256*l5 s (a+1)):Nat):Int)/\(((l5 s a+256*l5 s (a+1)):Nat):Int)<=65535:=by have:=y6 s a;have:=y6 s (a+1);omega
 obtain⟨u,hu⟩:∃u:Int,u=(((l5 s a+256*l5 s (a+1)):Nat):Int):=⟨_,rfl⟩
 rw[<-hu]at K1 hu0 hul
 rw[hu0,if_neg (by omega)]at HR
 clear hu hu0
 by_cases h2:55296<=u/\u<57344
 ·rw[if_neg (fun q=>q (by omega))]at HR
  obtain⟨h2a,h2b⟩:=h2
  have h2I:¬(u<55296):=by omega
  have h2J:¬(57343<u):=by omega
  have h2K:55296<=u:=by omega
  by_cases h3:u<56320
  ·have h3I:u<56320:=by omega
   by_cases h4:a+4<=s.size
   ·have h4I:4<=(s.size:Int)-(a:Int):=by omega
    have KV:=b6 (fun wq=>DQ s (a+2) wq (by omega) hs)
    have hv0:Z2 s (a+2)=(((l5 s (a+2)+256*l5 s (a+2+1)):Nat):Int):=by unfold Z2;rw[if_neg (by omega)]
    have hvl:0<=(((l5 s (a+2)+256*l5 s (a+2+1)):Nat):Int)/\(((l5 s (a+2)+256*l5 s (a+2+1)):Nat):Int)<=65535:=by have:=y6 s (a+2);have:=y6 s (a+2+1);omega
    obtain⟨v,hv⟩:∃v:Int,v=(((l5 s (a+2)+256*l5 s (a+2+1)):Nat):Int):=⟨_,rfl⟩
    rw[<-hv]at KV hv0 hvl
    rw[hv0]at HR
    rw[show((a+2:Nat):Int)=(a:Int)+2 by omega]at KV
    clear hv hv0
    by_cases h5:56320<=v/\v<=57343
    ·have HE:=b6 (show(65536+(u-55296)*1024+v-56320,4)=R by rw[<-HR.out,if_neg (by omega)])
     obtain⟨h5a,h5b⟩:=h5
     have h5I:56320<=v:=by omega
     have h5J:v<=57343:=by omega
     go_enter Tryz.func50,Tryz.ntmps50
     go_wp2_with fail
     refine K1.out.mono ?_
     rintro e w1 ⟨rfl,tc⟩
     have T:=b6 tc
     clear tc K1
     go_wp2_with fail
     refine(KV.out w1).mono ?_
     rintro e w2 ⟨rfl,tc⟩
     replace T:=b6 (T.out.trans tc iE)
     clear tc KV
     go_wp2
     go_ret2
     refine⟨?_,T.out⟩
     rw[<-HE.out]
     have e:65536+1024*(u-55296)+v-56320=65536+(u-55296)*1024+v-56320:=by omega
     exact congrArg (fun z=>Ending.returned (.tuple #[.int .i64 z,.int .i64 4])) e
    ·have HE:=b6 (show(-1,2)=R by rw[<-HR.out,if_pos (by omega)])
     rcases(show v<56320∨(56320<=v/\57343<v)by omega)with h6|⟨h6,h7⟩
     ·have h6I:¬(56320<=v):=by omega
      go_enter Tryz.func50,Tryz.ntmps50
      go_wp2_with fail
      refine K1.out.mono ?_
      rintro e w1 ⟨rfl,tc⟩
      have T:=b6 tc
      clear tc K1
      go_wp2_with fail
      refine(KV.out w1).mono ?_
      rintro e w2 ⟨rfl,tc⟩
      replace T:=b6 (T.out.trans tc iE)
      clear tc KV
      go_wp2
      go_ret2
      exact⟨by rw[<-HE.out];rfl,T.out⟩
     ·have h6I:56320<=v:=by omega
      have h7I:¬(v<=57343):=by omega
      go_enter Tryz.func50,Tryz.ntmps50
      go_wp2_with fail
      refine K1.out.mono ?_
      rintro e w1 ⟨rfl,tc⟩
      have T:=b6 tc
      clear tc K1
      go_wp2_with fail
      refine(KV.out w1).mono ?_
      rintro e w2 ⟨rfl,tc⟩
      replace T:=b6 (T.out.trans tc iE)
      clear tc KV
      go_wp2
      go_ret2
      exact⟨by rw[<-HE.out];rfl,T.out⟩
   ·have h4I:¬(4<=(s.size:Int)-(a:Int)):=by omega
    have HE:=b6 (show(-1,2)=R by rw[<-HR.out,if_pos (.inr (.inl (by unfold Z2;rw[if_pos (by omega)];decide)))])
    go_enter Tryz.func50,Tryz.ntmps50
    go_wp2_with fail
    refine K1.out.mono ?_
    rintro e w1 ⟨rfl,tc⟩
    have T:=b6 tc
    clear tc K1
    go_wp2
    go_ret2
    exact⟨by rw[<-HE.out];rfl,T.out⟩
  ·have h3I:¬(u<56320):=by omega
   have HE:=b6 (show(-1,2)=R by rw[<-HR.out,if_pos (.inl (by omega))])
   go_enter Tryz.func50,Tryz.ntmps50
   go_wp2_with fail
   refine K1.out.mono ?_
   rintro e w1 ⟨rfl,tc⟩
   have T:=b6 tc
   clear tc K1
   go_wp2
   go_ret2
   exact⟨by rw[<-HE.out];rfl,T.out⟩
 ·have HE:=b6 (show(u,2)=R by rw[<-HR.out,if_pos (by omega)])
  rcases(show u<55296∨(55296<=u/\57343<u)by omega)with h3|⟨h3,h4⟩
  ·have h3I:u<55296:=by omega
   go_enter Tryz.func50,Tryz.ntmps50
   go_wp2_with fail
   refine K1.out.mono ?_
   rintro e w1 ⟨rfl,tc⟩
   have T:=b6 tc
   clear tc K1
   go_wp2
   go_ret2
   exact⟨by rw[<-HE.out];rfl,T.out⟩
  ·have h3I:¬(u<55296):=by omega
   have h4I:57343<u:=by omega
   go_enter Tryz.func50,Tryz.ntmps50
   go_wp2_with fail
   refine K1.out.mono ?_
   rintro e w1 ⟨rfl,tc⟩
   have T:=b6 tc
   clear tc K1
   go_wp2
   go_ret2
   exact⟨by rw[<-HE.out];rfl,T.out⟩
theorem Hg (s:ByteArray)(a:Nat)(w:World)(ha:a<s.size)(hs:s.size<=1099511627776):Calls Tryz.prog 50 #[.string s,.int .i64 a,.int .i64 3] w fun e w'=>e=.returned (.tuple #[.int .i64 (M9 (Z1 s) a).1,.int .i64 ((M9 (Z1 s) a).2:Nat)])/\b7 (fun _=>False) w w':=by
 have haI:(a:Int)<(s.size:Int):=by omega
 obtain⟨R,hR⟩:∃R,M9 (Z1 s) a=R:=⟨_,rfl⟩
 have HR:=b6 hR
 unfold M9 at HR
 rw[hR]
 clear hR
 by_cases h1:s.size<=a+1
 ·have HE:=b6 (show(-1,1)=R by rw[<-HR.out,if_pos (by unfold Z1;rw[if_pos (by omega)])])
  have h1I:(s.size:Int)<=(a:Int)+1:=by omega
  go_enter Tryz.func50,Tryz.ntmps50
  go_wp2
  go_ret2
  exact⟨by rw[<-HE.out];rfl,b7.refl _ _⟩
 have h1I:¬((s.size:Int)<=(a:Int)+1):=by omega
 have K1:=b6 (Cf s a w (by omega) hs)
 have hu0:Z1 s a=(((l5 s (a+1)+256*l5 s a):Nat):Int):=by unfold Z1;rw[if_neg (by omega)]
 have hul:0<=(((l5 s (a+1)+256*l5 s a):Nat):Int)/\(((l5 s (a+1)+256*l5 s a):Nat):Int)<=65535:=by have:=y6 s a;have:=y6 s (a+1);omega
 obtain⟨u,hu⟩:∃u:Int,u=(((l5 s (a+1)+256*l5 s a):Nat):Int):=⟨_,rfl⟩
 rw[<-hu]at K1 hu0 hul
 rw[hu0,if_neg (by omega)]at HR
 clear hu hu0
 by_cases h2:55296<=u/\u<57344
 ·rw[if_neg (fun q=>q (by omega))]at HR
  obtain⟨h2a,h2b⟩:=h2
  have h2I:¬(u<55296):=by omega
  have h2J:¬(57343<u):=by omega
  have h2K:55296<=u:=by omega
  by_cases h3:u<56320
  ·have h3I:u<56320:=by omega
   by_cases h4:a+4<=s.size
   ·have h4I:4<=(s.size:Int)-(a:Int):=by omega
    have KV:=b6 (fun wq=>Cf s (a+2) wq (by omega) hs)
    have hv0:Z1 s (a+2)=(((l5 s (a+2+1)+256*l5 s (a+2)):Nat):Int):=by unfold Z1;rw[if_neg (by omega)]
    have hvl:0<=(((l5 s (a+2+1)+256*l5 s (a+2)):Nat):Int)/\(((l5 s (a+2+1)+256*l5 s (a+2)):Nat):Int)<=65535:=by have:=y6 s (a+2);have:=y6 s (a+2+1);omega
    obtain⟨v,hv⟩:∃v:Int,v=(((l5 s (a+2+1)+256*l5 s (a+2)):Nat):Int):=⟨_,rfl⟩
    rw[<-hv]at KV hv0 hvl
    rw[hv0]at HR
    rw[show((a+2:Nat):Int)=(a:Int)+2 by omega]at KV
    clear hv hv0
    by_cases h5:56320<=v/\v<=57343
    ·have HE:=b6 (show(65536+(u-55296)*1024+v-56320,4)=R by rw[<-HR.out,if_neg (by omega)])
     obtain⟨h5a,h5b⟩:=h5
     have h5I:56320<=v:=by omega
     have h5J:v<=57343:=by omega
     go_enter Tryz.func50,Tryz.ntmps50
     go_wp2_with fail
     refine K1.out.mono ?_
     rintro e w1 ⟨rfl,tc⟩
     have T:=b6 tc
     clear tc K1
     go_wp2_with fail
     refine(KV.out w1).mono ?_
     rintro e w2 ⟨rfl,tc⟩
     replace T:=b6 (T.out.trans tc iE)
     clear tc KV
     go_wp2
     go_ret2
     refine⟨?_,T.out⟩
     rw[<-HE.out]
     have e:65536+1024*(u-55296)+v-56320=65536+(u-55296)*1024+v-56320:=by omega
     exact congrArg (fun z=>Ending.returned (.tuple #[.int .i64 z,.int .i64 4])) e
    ·have HE:=b6 (show(-1,2)=R by rw[<-HR.out,if_pos (by omega)])
     rcases(show v<56320∨(56320<=v/\57343<v)by omega)with h6|⟨h6,h7⟩
     ·have h6I:¬(56320<=v):=by omega
      go_enter Tryz.func50,Tryz.ntmps50
      go_wp2_with fail
      refine K1.out.mono ?_
      rintro e w1 ⟨rfl,tc⟩
      have T:=b6 tc
      clear tc K1
      go_wp2_with fail
      refine(KV.out w1).mono ?_
      rintro e w2 ⟨rfl,tc⟩
      replace T:=b6 (T.out.trans tc iE)
      clear tc KV
      go_wp2
      go_ret2
      exact⟨by rw[<-HE.out];rfl,T.out⟩
     ·have h6I:56320<=v:=by omega
      have h7I:¬(v<=57343):=by omega
      go_enter Tryz.func50,Tryz.ntmps50
      go_wp2_with fail
      refine K1.out.mono ?_
      rintro e w1 ⟨rfl,tc⟩
      have T:=b6 tc
      clear tc K1
      go_wp2_with fail
      refine(KV.out w1).mono ?_
      rintro e w2 ⟨rfl,tc⟩
      replace T:=b6 (T.out.trans tc iE)
      clear tc KV
      go_wp2
      go_ret2
      exact⟨by rw[<-HE.out];rfl,T.out⟩
   ·have h4I:¬(4<=(s.size:Int)-(a:Int)):=by omega
    have HE:=b6 (show(-1,2)=R by rw[<-HR.out,if_pos (.inr (.inl (by unfold Z1;rw[if_pos (by omega)];decide)))])
    go_enter Tryz.func50,Tryz.ntmps50
    go_wp2_with fail
    refine K1.out.mono ?_
    rintro e w1 ⟨rfl,tc⟩
    have T:=b6 tc
    clear tc K1
    go_wp2
    go_ret2
    exact⟨by rw[<-HE.out];rfl,T.out⟩
  ·have h3I:¬(u<56320):=by omega
   have HE:=b6 (show(-1,2)=R by rw[<-HR.out,if_pos (.inl (by omega))])
   go_enter Tryz.func50,Tryz.ntmps50
   go_wp2_with fail
   refine K1.out.mono ?_
   rintro e w1 ⟨rfl,tc⟩
   have T:=b6 tc
   clear tc K1
   go_wp2
   go_ret2
   exact⟨by rw[<-HE.out];rfl,T.out⟩
 ·have HE:=b6 (show(u,2)=R by rw[<-HR.out,if_pos (by omega)])
  rcases(show u<55296∨(55296<=u/\57343<u)by omega)with h3|⟨h3,h4⟩
  ·have h3I:u<55296:=by omega
   go_enter Tryz.func50,Tryz.ntmps50
   go_wp2_with fail
   refine K1.out.mono ?_
   rintro e w1 ⟨rfl,tc⟩
   have T:=b6 tc
   clear tc K1
   go_wp2
   go_ret2
   exact⟨by rw[<-HE.out];rfl,T.out⟩
  ·have h3I:¬(u<55296):=by omega
   have h4I:57343<u:=by omega
   go_enter Tryz.func50,Tryz.ntmps50
   go_wp2_with fail
   refine K1.out.mono ?_
   rintro e w1 ⟨rfl,tc⟩
   have T:=b6 tc
   clear tc K1
   go_wp2
   go_ret2
   exact⟨by rw[<-HE.out];rfl,T.out⟩
theorem Lr (s:ByteArray)(a c:Nat)(w:World)(hc:1<=c/\c<=4)(ha:a<s.size)(hs:s.size<=1099511627776):Calls Tryz.prog 50 #[.string s,.int .i64 a,.int .i64 c] w fun e w'=>e=.returned (.tuple #[.int .i64 (r8 s c a).1,.int .i64 ((r8 s c a).2:Nat)])/\b7 (fun _=>False) w w':=by
 rcases(show c=1∨c=2∨c=3∨c=4 by omega)with rfl|rfl|rfl|rfl
 ·rw[show r8 s 1 a=Sl s a from(Wh s a ha).symm]
  exact Lt s a w ha hs
 ·exact Lu s a w ha hs
 ·exact Hg s a w ha hs
 ·exact Ja s a w ha
theorem EG (s p:ByteArray)(w:World):Calls Tryz.prog 48 #[.string s,.string p] w fun e w'=>e=.returned (.bool (E5 s p))/\w=w':=by
 by_cases h:p.size<=s.size
 ·have hI:(p.size:Int)<=(s.size:Int):=by omega
  have HB:=b6 (show E5 s p=((s.extract 0 p.size).toList==p.toList)by unfold E5;rw[decide_eq_true h];rfl)
  go_enter Tryz.func48,Tryz.ntmps48
  go_wp2
  go_ret
  exact⟨by rw[HB.out];rfl,rfl⟩
 ·have hI:¬((p.size:Int)<=(s.size:Int)):=by omega
  have HB:=b6 (show E5 s p=false by unfold E5;rw[decide_eq_false h];rfl)
  go_enter Tryz.func48,Tryz.ntmps48
  go_wp2
  go_ret
  exact⟨by rw[HB.out];rfl,rfl⟩
theorem EK (w:World)(l:List UInt8)(n:Nat)(hn:n=l.length)(cs:Array Value)(hcs:cs=(l.map fun b=>Value.int .u8 (b.toNat:Int)).toArray):(convert 49 9 (.slice (some ⟨w.heap.size,0,none⟩) n n)).run Tryz.prog (w.alloc (.cells cs 5))=.ok (.string ⟨l.toArray⟩) (w.alloc (.cells cs 5)):=by
 subst hn hcs
 refine run_convert_bytes_back (P:=Tryz.prog) _ 49 9 5 ⟨w.heap.size,0,none⟩ l.length l Tryz.underlying49 Tryz.underlying5 Tryz.underlying9 (fun j hj=>?_)
 rw[W5]
 unfold World.cell?
 rw[e8]
 simp[hj]
theorem Ra (w:World):Calls Tryz.prog 49 #[.int .i64 1] w fun e w'=>e=.returned (.string (mk 1))/\b7 (fun _=>False) w w':=by
 have hcv:=EK w [239,187,191] 3 rfl #[.int .u8 239,.int .u8 187,.int .u8 191] rfl
 go_enter Tryz.func49,Tryz.ntmps49
 go_wp2
 go_ret
 exact⟨rfl,(b7.refl _ w).alloc _⟩
theorem Rb (w:World):Calls Tryz.prog 49 #[.int .i64 2] w fun e w'=>e=.returned (.string (mk 2))/\b7 (fun _=>False) w w':=by
 have hcv:=EK w [255,254] 2 rfl #[.int .u8 255,.int .u8 254] rfl
 go_enter Tryz.func49,Tryz.ntmps49
 go_wp2
 go_ret
 exact⟨rfl,(b7.refl _ w).alloc _⟩
theorem LO (w:World):Calls Tryz.prog 49 #[.int .i64 3] w fun e w'=>e=.returned (.string (mk 3))/\b7 (fun _=>False) w w':=by
 have hcv:=EK w [254,255] 2 rfl #[.int .u8 254,.int .u8 255] rfl
 go_enter Tryz.func49,Tryz.ntmps49
 go_wp2
 go_ret
 exact⟨rfl,(b7.refl _ w).alloc _⟩
theorem OH (w:World):Calls Tryz.prog 49 #[.int .i64 4] w fun e w'=>e=.returned (.string (mk 4))/\b7 (fun _=>False) w w':=by
 go_enter Tryz.func49,Tryz.ntmps49
 go_wp2
 go_ret
 exact⟨rfl,b7.refl _ w⟩
theorem Fc (c:Nat)(hc:1<=c/\c<=4)(w:World):Calls Tryz.prog 49 #[.int .i64 c] w fun e w'=>e=.returned (.string (mk c))/\b7 (fun _=>False) w w':=by
 rcases(show c=1∨c=2∨c=3∨c=4 by omega)with rfl|rfl|rfl|rfl
 ·exact Ra w
 ·exact Rb w
 ·exact LO w
 ·exact OH w
theorem BE {P:Program}{fn:Func}{p q r:Tmp}{ty:TypeId}(h:fn.results=#[.cell p ty,.tmp q,.tmp r])(tmps:Array Value)(w:World)(g:Nat)(et:TypeId)(cs:Array Value)(fr:Nat×Nat)(d:TypeDesc)
 (hp:tmps.getD p undef=.pointer (some ⟨g,0,none⟩)) (hg:w.heap[g]? =some (.cells cs et fr))
 (hu:P.underlying ty=some d) (hd:(match d with| .struct _| .array _ _=>true|_=>false)=true) (hi:(P.info? ty).map (·.size)=some cs.size):
 (results fn tmps).run P w=.ok (.tuple #[.agg cs,tmps.getD q undef,tmps.getD r undef]) w:=by
 have hp':tmps[p]?.getD undef=.pointer (some ⟨g,0,none⟩):=by simpa using hp
 simp[results,h,hp',asAddr,run_loadVar_row w g et ty cs fr d hg hu hd hi]
theorem UK (s:ByteArray)(c:Nat):(bg s c).2=if E5 s (mk (bg s c).1)then(mk (bg s c).1).size else 0:=by
 unfold bg
 split
 ·unfold sn
  split
  ·simp
  ·rename_i h1
   unfold sn
   split
   ·simp
   ·unfold sn
    split
    ·simp
    ·unfold sn;simp[h1]
 ·split
  ·simp
  ·simp
theorem Ki (s:ByteArray)(m:Nat):∀(k i sc lo hi:Nat),(Al s m k i sc lo hi).1= -1∨0<=(Al s m k i sc lo hi).1
 |0,i,sc,lo,hi=>by
  unfold Al
  dsimp only
  omega
 |k+1,i,sc,lo,hi=>by
  unfold Al
  split
  ·exact .inl rfl
  ·exact Ki s m k (i+1) _ _ _
theorem Sg (s:ByteArray)(c i:Nat):(r8 s c i).1= -1∨0<=(r8 s c i).1:=by
 have h16:∀U:Nat->Int,(∀j,-1<=U j/\U j<=65535)->(M9 U i).1= -1∨0<=(M9 U i).1:=fun U hU=>by
  have:=hU i
  have:=hU (i+2)
  unfold M9
  split
  ·exact .inl rfl
  ·split
   ·dsimp only;omega
   ·split
    ·exact .inl rfl
    ·dsimp only;omega
 unfold r8
 split
 ·exact h16 _ (FK s)
 ·split
  ·exact h16 _ (FJ s)
  ·split
   ·exact .inr (by dsimp only;omega)
   ·unfold DD
    split
    ·exact .inl rfl
    ·exact Ki _ _ _ _ _ _ _
def Si:Array Value:=#[.int .i64 0,.int .i64 0,.slice none 0 0,.slice none 0 0]
structure Mt (w:World)(er i:Nat)(e:Ending)(w':World):Prop where
 ret:e=.returned (.tuple #[.agg Si,.int .i64 er,.int .i64 i])
 touch:b7 (fun _=>False) w w'
structure PJ (w:World)(c:Nat)(rs ps:List Int)(bad:Nat)(e:Ending)(w':World):Prop where
 ex:∃v1 v2,e=.returned (.tuple #[.agg #[.int .i64 c,.int .i64 bad,v1,v2],.int .i64 0,.int .i64 0])/\M1 w w' v1 rs/\M1 w w' v2 ps
def UF (w:World)(s:ByteArray)(c:Nat)(R:Option Nat×List Int×List Int×Nat)(e:Ending)(w':World):Prop:=
 (∃i,R.1=some i/\Mt w 17 i e w')∨(R.1=none/\PJ w c R.2.1 (R.2.2.1++ [(s.size:Int)]) R.2.2.2 e w')
theorem Cm {w0 w:World}{g:Nat}(h:b7 (fun _=>False) w0 w)(hg:w0.heap.size<=g)(b0 b1 b2 b3:Value):
 b7 (fun _=>False) w0 ((((w.setCell ⟨g,0,none⟩ b0).setCell ⟨g,1,none⟩ b1).setCell ⟨g,2,none⟩ b2).setCell ⟨g,3,none⟩ b3):=
 have n0:g<w0.heap.size->False:=fun k=>absurd k (Nat.not_lt.2 hg)
 (((h.setCell (p:=⟨g,0,none⟩) n0 b0).setCell (p:=⟨g,1,none⟩) n0 b1).setCell (p:=⟨g,2,none⟩) n0 b2).setCell (p:=⟨g,3,none⟩) n0 b3
theorem Cl {w:World}{g:Nat}{t:TypeId}{a0 a1 a2 a3:Value}(h:w.heap[g]? =some (.cells #[a0,a1,a2,a3] t (0,0))):(w.cell? ⟨g,0,none⟩=some a0/\w.cell? ⟨g,1,none⟩=some a1/\w.cell? ⟨g,2,none⟩=some a2/\w.cell? ⟨g,3,none⟩=some a3)/\∀i,w.frozen? ⟨g,i,none⟩=false:=by
 simp[World.cell?,World.frozen?,h]
theorem L2.out4 {w w5 wz:World}{x q:Nat}{cs:Array Value}{v1 v2:Value}{rs ps:List Int}(h:L2 w5 wz x 77 cs v1 v2 rs ps)(t:b7 (fun _=>False) w w5)(hx:w.heap.size<=x)(hq:w.heap.size<=q)(hq5:q<w5.heap.size)(b0 b1 b2 b3:Value):
 M1 w ((((wz.setCell ⟨q,0,none⟩ b0).setCell ⟨q,1,none⟩ b1).setCell ⟨q,2,none⟩ b2).setCell ⟨q,3,none⟩ b3) v1 rs/\
 M1 w ((((wz.setCell ⟨q,0,none⟩ b0).setCell ⟨q,1,none⟩ b1).setCell ⟨q,2,none⟩ b2).setCell ⟨q,3,none⟩ b3) v2 ps:=by
 have tz:b7 (fun _=>False) w wz:=t.trans h.touch (fun i hi e=>by omega)
 have tf:=Cm tz hq b0 b1 b2 b3
 have ot:∀k,k≠q->((((wz.setCell ⟨q,0,none⟩ b0).setCell ⟨q,1,none⟩ b1).setCell ⟨q,2,none⟩ b2).setCell ⟨q,3,none⟩ b3).heap[k]? =wz.heap[k]? :=fun k hk=>by
  rw[z8 _ hk,z8 _ hk,z8 _ hk,z8 _ hk]
 refine⟨⟨S8 h.o1 (fun g hg=>?_),fun g hg=>Nat.le_trans t.size (h.n1 g hg),tf⟩,⟨S8 h.o2 (fun g hg=>?_),fun g hg=>Nat.le_trans t.size (h.n2 g hg),tf⟩⟩
 ·have:=h.n1 g hg
  exact ot g (by omega)
 ·have:=h.n2 g hg
  exact ot g (by omega)
theorem DX (s:ByteArray)(c:Nat)(strict:Bool)(w:World)(hs:s.size<=1099511627776)(hc:c<=4):
 Calls Tryz.prog 28 #[.string s,.int .i64 c,.bool strict] w fun e w'=>UF w s (bg s c).1 (F8 s (bg s c).1 strict s.size (bg s c).2 [] [] 0) e w':=by
 obtain⟨i0,hi3,hz0,hz1,hz2⟩:=info_parts Hk
 have B:=b6 (e8 w #[.int .i64 0,.int .i64 0,.slice none 0 0,.slice none 0 0] 77)
 have T:=b6 ((tZ w).alloc (.cells #[.int .i64 0,.int .i64 0,.slice none 0 0,.slice none 0 0] 77))
 have hbg:=Gg s c hc
 go_enter Tryz.func28,Tryz.ntmps28
 go_upto_region 1 with fail
 generalize (w.alloc (.cells #[.int .i64 0,.int .i64 0,.slice none 0 0,.slice none 0 0] 77))=w1 at*
 obtain⟨q,hq⟩:∃q,q=w.heap.size:=⟨_,rfl⟩
 have HQ:=b6 (show w.heap.size<=q by omega)
 rw[<-hq]at B⊢
 clear hq
 have hcI:(c:Int)<=4:=by omega
 obtain⟨c',hc'⟩:∃c',c'=(bg s c).1:=⟨_,rfl⟩
 obtain⟨at0,hat0⟩:∃a,a=(bg s c).2:=⟨_,rfl⟩
 have HALT:=b6 (UK s c)
 rw[<-hc',<-hat0]at hbg HALT
 have HC:=b6 hc'
 have HAT:=b6 hat0
 clear hc' hat0
 go_upto_if 22 with fail
 go_cut [1] (fun v wd=>v=.int .i64 (c':Nat)/\b7 (fun _=>False) w1 wd)
 case first=>
  by_cases h0:c=0
  ·subst h0
   have HSN:=b6 (show(sn s 3 1).1=c' by rw[HC.out];rfl)
   go_wp2_with fail
   go_loopg [1,9] 3 (fun gk v1 v9 wq=>∃k:Nat,k+gk=4/\1<=k/\v1=.int .i64 1/\v9=.int .i64 (k:Nat)/\(sn s gk k).1=c'/\b7 (fun _=>False) w1 wq)
   case atStart=>exact⟨1,rfl,Nat.le_refl _,rfl,rfl,HSN.out,b7.refl _ _⟩
   case round=>
    obtain⟨k,hk,hk1,rfl,rfl,hsn,htc⟩:=hrel
    have HS:=b6 hsn
    have TC:=b6 htc
    clear hsn htc HSN
    by_cases hlt:k<4
    ·obtain⟨gk,rfl⟩:∃f,gk=f+1:=⟨gk-1,by omega⟩
     have HST:=b6 (show(if E5 s (mk k)then(k,(mk k).size)else sn s gk (k+1)).1=c' from HS.out)
     have hltI:(k:Int)<4:=by omega
     clear HS
     have KM:=b6 (Fc k ⟨hk1,by omega⟩ wr)
     go_wp2_with fail
     refine KM.out.mono ?_
     rintro e w3 ⟨rfl,tc⟩
     replace TC:=b6 (TC.out.trans tc iE)
     have KG:=b6 (EG s (mk k) w3)
     obtain⟨X,hX⟩:∃X,E5 s (mk k)=X:=⟨_,rfl⟩
     rw[hX]at KG HST
     clear tc KM hX
     cases X
     ·have HN:=b6 (show(sn s gk (k+1)).1=c' from HST.out)
      go_wp2_with fail
      refine KG.out.mono ?_
      rintro e w4 ⟨rfl,rfl⟩
      go_wp2
      go_roundg gk
      case measure=>omega
      case rel=>exact⟨k+1,by omega,by omega,rfl,by go_num,HN.out,TC.out⟩
     ·have HN:=b6 (show k=c' from HST.out)
      go_wp2_with fail
      refine KG.out.mono ?_
      rintro e w4 ⟨rfl,rfl⟩
      go_wp2
      go_meet
      case rel=>exact⟨by rw[HN.out],TC.out⟩
    ·obtain rfl:gk=0:=by omega
     have HN:=b6 (show 1=c' from HS.out)
     have hltI:¬((k:Int)<4):=by omega
     go_wp2
     go_meet
     case rel=>exact⟨by rw[<-HN.out];rfl,TC.out⟩
  ·have HN:=b6 (show c=c' by rw[HC.out];unfold bg;rw[if_neg h0];split<;>rfl)
   have hcd:decide ((c:Int)=0)=false:=decide_eq_false (by omega)
   have hcd2:((c:Int)==0)=false:=by rw[beq_eq_false_iff_ne];omega
   go_wp2
   go_meet
   case rel=>exact⟨by rw[HN.out],b7.refl _ _⟩
 obtain⟨rfl,tc⟩:=hcut
 replace T:=b6 (T.out.trans tc iE)
 replace B:=b6 ((tc.block q (lt_of_block B.out) id).trans B.out)
 clear tc
 have BX:=b6 (e8 wc #[.int .i64 c',.int .i64 0,.slice none 0 0,.slice none 0 0] 77)
 have TX:=b6 ((tZ wc).alloc (.cells #[.int .i64 c',.int .i64 0,.slice none 0 0,.slice none 0 0] 77))
 have HXS:=b6 (show wc.heap.size<(wc.alloc (.cells #[.int .i64 c',.int .i64 0,.slice none 0 0,.slice none 0 0] 77)).heap.size by simp)
 have HBX:=b6 (show q<wc.heap.size from lt_of_block B.out)
 go_upto_region 11 with fail
 generalize (wc.alloc (.cells #[.int .i64 c',.int .i64 0,.slice none 0 0,.slice none 0 0] 77))=w4 at*
 obtain⟨x,hx⟩:∃x,x=wc.heap.size:=⟨_,rfl⟩
 rw[<-hx]at BX HXS HBX⊢
 have HWX:=b6 (show w.heap.size<=x by have:=T.out.size;omega)
 clear hx
 have T4:=b6 (T.out.trans TX.out iE)
 have B4:=b6 ((TX.out.block q (lt_of_block B.out) id).trans B.out)
 clear T TX B
 have hcb:1<=c'/\c'<=4:=⟨hbg.1,hbg.2.1⟩
 have KM:=b6 (Fc c' hcb w4)
 go_upto_if 37 with fail
 refine KM.out.mono ?_
 rintro e w5 ⟨rfl,tc⟩
 have KG:=b6 (EG s (mk c') w5)
 obtain⟨X,hX⟩:∃X,E5 s (mk c')=X:=⟨_,rfl⟩
 rw[hX]at KG HALT
 have TC:=b6 tc
 clear KM hX tc
 go_upto_if 37 with fail
 refine KG.out.mono ?_
 rintro e w6 ⟨rfl,rfl⟩
 clear KG
 go_upto_if 37 with fail
 go_cut [11] (fun v wd=>v=.int .i64 (at0:Nat)/\b7 (fun _=>False) w4 wd)
 case first=>
  cases X
  ·have HA:=b6 (show at0=0 from HALT.out)
   go_wp2
   go_meet
   case rel=>exact⟨by rw[HA.out];rfl,TC.out⟩
  ·have HA:=b6 (show at0=(mk c').size from HALT.out)
   have KM2:=b6 (Fc c' hcb w5)
   go_wp2_with fail
   refine KM2.out.mono ?_
   rintro e w7 ⟨rfl,tc2⟩
   go_wp2
   go_meet
   case rel=>exact⟨by rw[HA.out],TC.out.trans tc2 iE⟩
 obtain⟨rfl,tc⟩:=hcut
 clear TC
 obtain⟨wb,hwb⟩:∃wb,wb=wc:=⟨_,rfl⟩
 subst hwb
 have T5:=b6 (T4.out.trans tc iE)
 have B5:=b6 ((tc.block q (lt_of_block B4.out) id).trans B4.out)
 have BX5:=b6 ((tc.block x (lt_of_block BX.out) id).trans BX.out)
 obtain⟨R,hR⟩:∃R,F8 s c' strict s.size at0 [] [] 0=R:=⟨_,rfl⟩
 have HR:=b6 hR
 have HRR:=b6 (show F8 s (bg s c).1 strict s.size (bg s c).2 [] [] 0=R by rw[<-HC.out,<-HAT.out];exact hR)
 clear tc T4 B4 BX hR HXS HALT
 go_wp2_with fail
 go_loopg [11] s.size (fun gk v wq=>∃(i:Nat) (rs ps:List Int) (bad:Nat) (v1 v2:Value),v=.int .i64 (i:Nat)/\i<=s.size+4/\s.size<=i+gk/\rs.length+gk=s.size/\ps.length=rs.length/\bad<=rs.length/\F8 s c' strict gk i rs ps bad=R/\L2 wb wq x 77 #[.int .i64 c',.int .i64 bad,v1,v2] v1 v2 rs ps)
 case atStart=>exact⟨at0,[],[],0,_,_,rfl,by omega,by omega,by simp,rfl,Nat.le_refl _,HR.out,L2.nil wb x 77 _ BX5.out⟩
 case round=>
  obtain⟨i,rs,ps,bad,v1,v2,rfl,hi4,hig,hrl,hpl,hbl,hdc,hl2⟩:=hrel
  have HD:=b6 hdc
  have L:=b6 hl2
  obtain⟨a1,k1,hv1⟩:=e9 hl2.o1
  obtain⟨a2,k2,hv2⟩:=e9 hl2.o2
  subst hv1
  subst hv2
  have HPL:=b6 hpl
  have hpb:ps.length<=s.size:=by omega
  clear hdc hl2 HR hpl
  by_cases hlt:i<s.size
  ·obtain⟨gk,rfl⟩:∃k,gk=k+1:=⟨gk-1,by omega⟩
   have HD2:=b6 (HD.out)
   rw[U0 hlt]at HD2
   have hsz:=Af s c' i
   have hyy:=Sg s c' i
   have KC:=b6 (Lr s i c' wr hcb hlt hs)
   obtain⟨y,hy⟩:∃y,y=(r8 s c' i).1:=⟨_,rfl⟩
   obtain⟨n,hn⟩:∃n,n=(r8 s c' i).2:=⟨_,rfl⟩
   rw[<-hy,<-hn]at HD2 KC
   rw[<-hn]at hsz
   rw[<-hy]at hyy
   have hltI:(i:Int)<(s.size:Int):=by omega
   clear HD hy hn
   go_wp2_with fail
   refine KC.out.mono ?_
   rintro e w6 ⟨rfl,tc⟩
   have L6:=b6 (L.out.still tc)
   clear tc KC L
   obtain⟨Z,hZ⟩:∃Z,Z=(decide (y<0)&&strict):=⟨_,rfl⟩
   have HZ:=b6 hZ
   clear hZ
   go_upto_region 16 with fail
   go_cut [56] (fun v wd=>v=.bool Z/\w6=wd)
   case first=>
    rcases hyy with hy|hy
    ·subst hy
     go_wp2
     go_meet
     case rel=>exact⟨by rw[HZ.out];rfl,rfl⟩
    ·have hyn:¬(y<0):=by omega
     go_wp2
     go_meet
     case rel=>exact⟨by rw[HZ.out,decide_eq_false (show ¬(y<0)by omega)];rfl,rfl⟩
   obtain⟨rfl,rfl⟩:=hcut
   go_upto_if 56 with fail
   go_cut [12] (fun v wd=>v=.int .i64 y/\(y= -1->strict=false)/\L2 wb wd x 77 #[.int .i64 c',.int .i64 bad,.slice a1 rs.length k1,.slice a2 ps.length k2] (.slice a1 rs.length k1) (.slice a2 ps.length k2) rs ps)
   case first=>
    cases Z
    ·go_wp2
     go_meet
     case rel=>exact⟨rfl,fun h=>by have:=HZ.out;subst h;simpa using this,L6.out⟩
    ·have hyz:y= -1:=by have:=HZ.out;simp at this;omega
     have hst:strict=true:=by have:=HZ.out;simp at this;exact this.2
     subst hst
     rw[if_pos hyz]at HD2
     have HRE:=b6 (show(some i,[],[],0)=R from HD2.out)
     have B6:=b6 ((L6.out.touch.block q (lt_of_block B5.out) (by have:=HBX.out;omega)).trans B5.out)
     have T6:=b6 (T5.out.trans L6.out.touch (fun k hk e=>by have:=HWX.out;omega))
     obtain⟨⟨z0,z1,z2,z3⟩,f0⟩:=Cl B6.out
     go_wp2
     refine bodyPost_ret (BE rfl _ _ q 77 _ (0,0) _ rfl (CO B6.out _ _ _ _) Tryz.underlying77 rfl (by kernel_rfl)) rfl ?_
     exact .inl ⟨i,by rw[HRR.out,<-HRE.out],rfl,Cm T6.out HQ.out _ _ _ _⟩
   obtain⟨rfl,hnb,hl6⟩:=hcut
   replace L6:=b6 hl6
   have HNB:=b6 hnb
   clear hl6 hnb
   go_upto_if 60 with fail
   go_cut [12] (fun v wd=>∃(y':Int) (bad':Nat),v=.int .i64 y'/\bad'<=rs.length+1/\F8 s c' strict gk (i+n) (rs++ [y']) (ps++ [(i:Int)]) bad'=R/\L2 wb wd x 77 #[.int .i64 c',.int .i64 bad',.slice a1 rs.length k1,.slice a2 ps.length k2] (.slice a1 rs.length k1) (.slice a2 ps.length k2) rs ps)
   case first=>
    rcases hyy with hy|hy
    ·subst hy
     have hst:=HNB.out rfl
     subst hst
     rw[if_pos rfl]at HD2
     have HD3:=b6 (show F8 s c' false gk (i+n) (rs++ [65533]) (ps++ [(i:Int)]) (bad+1)=R from HD2.out)
     obtain⟨⟨_,z1,_,_⟩,zf⟩:=L6.out.cells
     go_wp2
     go_meet
     case rel=>exact⟨65533,bad+1,rfl,by omega,HD3.out,L6.out.set (by decide) 1 _⟩
    ·rw[if_neg (show ¬y= -1 by omega)]at HD2
     have hyn:¬(y<0):=by omega
     go_wp2
     go_meet
     case rel=>exact⟨y,bad,rfl,by omega,HD2.out,L6.out⟩
   obtain⟨y',bad',rfl,hbad,hdc,hl2⟩:=hcut
   have HDC:=b6 hdc
   have L7:=b6 hl2
   obtain⟨⟨_,_,z2,_⟩,zf⟩:=hl2.cells
   clear hdc hl2 HD2 L6 HNB hyy
   go_wp2_with (at_builtin;(refine wpList_append_own_at _ rfl _ _ 56 rfl 0 3 i0 (.int .i64 0) 1 8 Tryz.underlying56 hi3 hz0 hz1 hz2 rfl (by decide) _ _ _ rfl (L7.out.o1.alloc _) ⟨wc.heap.size,0,none⟩ 1 1 [.int .i64 y'] rfl rfl (AP wc [.int .i64 y'] 3) (by intro u hu;simp at hu;subst hu;rfl) (by unfold maxLen;omega) (by omega) (Nat.zero_le _) ?_))
   intro v1' w8 hown hgrow _ hat
   have L8:=b6 (L7.out.app1 (by decide) hown hgrow hat)
   obtain⟨b1,j1,hv1⟩:=e9 hown
   subst hv1
   clear hown hgrow hat L7 z2 zf
   obtain⟨⟨_,_,z2,_⟩,zf⟩:=L8.out.cells
   have L9:=b6 (L8.out.set (by decide) 2 (.slice b1 (rs.length+1) j1))
   go_upto_region 22 with fail
   generalize w8.setCell ⟨x,2,none⟩ (.slice b1 (rs.length+1) j1)=w9 at*
   clear L8 z2 zf
   have L9':=b6 (show L2 wb w9 x 77 #[.int .i64 c',.int .i64 bad',.slice b1 (rs.length+1) j1,.slice a2 ps.length k2] (.slice b1 (rs.length+1) j1) (.slice a2 ps.length k2) (rs++ [y']) ps from L9.out)
   clear L9
   obtain⟨⟨_,_,_,z3⟩,zf⟩:=L9'.out.cells
   go_wp2_with (at_builtin;refine wpList_append_own_at _ rfl _ _ 56 rfl 0 3 i0 (.int .i64 0) 1 8 Tryz.underlying56 hi3 hz0 hz1 hz2 rfl (by decide) _ _ _ rfl (L9'.out.o2.alloc _) ⟨w9.heap.size,0,none⟩ 1 1 [.int .i64 i] rfl rfl (AP w9 [.int .i64 i] 3) (by intro u hu;simp at hu;subst hu;rfl) (by unfold maxLen;omega) (by omega) (Nat.zero_le _) ?_)
   intro v2' w10 hown hgrow _ hat
   have L10:=b6 (L9'.out.app2 (by decide) hown hgrow hat)
   obtain⟨b2,j2,hv2⟩:=e9 hown
   subst hv2
   clear hown hgrow hat L9' z3 zf
   obtain⟨⟨_,_,_,z3⟩,zf⟩:=L10.out.cells
   have L11:=b6 (L10.out.set (by decide) 3 (.slice b2 (ps.length+1) j2))
   go_upto_region 23 with fail
   generalize w10.setCell ⟨x,3,none⟩ (.slice b2 (ps.length+1) j2)=w11 at*
   clear L10 z3 zf
   have L12:=b6 (show L2 wb w11 x 77 #[.int .i64 c',.int .i64 bad',.slice b1 (rs.length+1) j1,.slice b2 (ps.length+1) j2] (.slice b1 (rs.length+1) j1) (.slice b2 (ps.length+1) j2) (rs++ [y']) (ps++ [(i:Int)])from L11.out)
   clear L11
   go_wp2
   go_roundg gk
   case measure=>omega
   case rel=>exact⟨i+n,rs++ [y'],ps++ [(i:Int)],bad',_,_,by go_num,by omega,by omega,by rw[List.length_append,List.length_singleton];omega,by rw[List.length_append,List.length_append,List.length_singleton,HPL.out];rfl,by rw[List.length_append,List.length_singleton];omega,HDC.out,L12.out⟩
  ·have HRE:=b6 (show(none,rs,ps,bad)=R by rw[<-HD.out,Ay (by omega)])
   have hltI:¬((i:Int)<(s.size:Int)):=by omega
   obtain⟨⟨_,_,_,z3⟩,zf⟩:=L.out.cells
   clear HD
   go_wp2_with (at_builtin;refine wpList_append_own_at _ rfl _ _ 56 rfl 0 3 i0 (.int .i64 0) 1 8 Tryz.underlying56 hi3 hz0 hz1 hz2 rfl (by decide) _ _ _ rfl (L.out.o2.alloc _) ⟨wr.heap.size,0,none⟩ 1 1 [.int .i64 (s.size:Nat)] rfl rfl (AP wr [.int .i64 (s.size:Nat)] 3) (by intro u hu;simp at hu;subst hu;rfl) (by unfold maxLen;omega) (by omega) (Nat.zero_le _) ?_)
   intro v2' w10 hown hgrow _ hat
   have L10:=b6 (L.out.app2 (by decide) hown hgrow hat)
   obtain⟨b2,j2,hv2⟩:=e9 hown
   subst hv2
   clear hown hgrow hat L z3 zf
   obtain⟨⟨_,_,_,z3⟩,zf⟩:=L10.out.cells
   have L11:=b6 (L10.out.set (by decide) 3 (.slice b2 (ps.length+1) j2))
   go_upto_region 25 with fail
   generalize w10.setCell ⟨x,3,none⟩ (.slice b2 (ps.length+1) j2)=w11 at*
   clear L10 z3 zf
   have L12:=b6 (show L2 wb w11 x 77 #[.int .i64 c',.int .i64 bad,.slice a1 rs.length k1,.slice b2 (ps.length+1) j2] (.slice a1 rs.length k1) (.slice b2 (ps.length+1) j2) rs (ps++ [(s.size:Int)])from L11.out)
   clear L11
   obtain⟨⟨y0K,y1K,y2,y3⟩,_⟩:=L12.out.cells
   have B6:=b6 ((L12.out.touch.block q (lt_of_block B5.out) (by have:=HBX.out;omega)).trans B5.out)
   obtain⟨⟨z0,z1,z2,z3⟩,f0⟩:=Cl B6.out
   have HQ5:=b6 (lt_of_block B5.out)
   go_wp2
   refine bodyPost_ret (BE rfl _ _ q 77 _ (0,0) _ rfl (CO B6.out _ _ _ _) Tryz.underlying77 rfl (by kernel_rfl)) rfl ?_
   have ho:=L12.out.out4 T5.out HWX.out HQ.out HQ5.out (.int .i64 c') (.int .i64 bad) (.slice a1 rs.length k1) (.slice b2 (ps.length+1) j2)
   refine .inr ⟨by rw[HRR.out,<-HRE.out],?_⟩
   rw[HRR.out,<-HRE.out,<-HC.out]
   exact⟨_,_,rfl,ho.1,ho.2⟩
end Go.Proofs.YtdhhcefmmojcmaaGreatDoor
