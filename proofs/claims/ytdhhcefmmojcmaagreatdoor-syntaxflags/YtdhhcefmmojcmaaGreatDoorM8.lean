/- Texts of this proof, one behind the other. -/
import Derived.Test.YtdhhcefmmojcmaaGreatDoorM7
import Derived.Deep.RegionLaw
import Derived.Laws.BytesArg
import Derived.Lib.AppendStr
import Derived.Deep.RegionWith
set_option maxRecDepth 100000
set_option maxHeartbeats 0
set_option linter.unusedVariables false
namespace Go.Proofs.YtdhhcefmmojcmaaGreatDoor
open Go.RowKit Go.Lib
theorem AP (w:World)(l:List Value)(t:TypeId):∀(j:Nat) (u:Value),l[j]? =some u->(w.alloc (.cells l.toArray t)).cell? ((⟨w.heap.size,0,none⟩:Addr).add j)=some u:=by
 intro j u hj
 have hb:(w.alloc (.cells l.toArray t)).heap[w.heap.size]? =some (.cells l.toArray t (0,0)):=by
  show(w.heap.push _)[_]? =_
  simp
 rw[W5]
 unfold World.cell?
 rw[hb]
 simpa using hj
theorem J1.kept {w w':World}{S:Nat->Prop}(h:J1 w)(t:b7 S w w')(h0:¬S 0)(h1:¬S 1):J1 w':=by
 obtain⟨⟨t0,k0⟩,⟨t1,k1⟩⟩:=h
 exact⟨⟨t0,(t.block 0 (lt_of_block k0) h0).trans k0⟩,⟨t1,(t.block 1 (lt_of_block k1) h1).trans k1⟩⟩
theorem J1.two {w:World}(h:J1 w):2<=w.heap.size:=by
 obtain⟨_,⟨t1,k1⟩⟩:=h
 have:=lt_of_block k1
 omega
theorem CO {w:World}{g:Nat}{t:TypeId}{a0 a1 a2 a3:Value}(h:w.heap[g]? =some (.cells #[a0,a1,a2,a3] t (0,0)))(b0 b1 b2 b3:Value):
 ((((w.setCell ⟨g,0,none⟩ b0).setCell ⟨g,1,none⟩ b1).setCell ⟨g,2,none⟩ b2).setCell ⟨g,3,none⟩ b3).heap[g]? =some (.cells #[b0,b1,b2,b3] t (0,0)):=
 i8 (i8 (i8 (i8 h 0 b0) 1 b1) 2 b2) 3 b3
theorem Nw {w:World}{g:Nat}{t:TypeId}{a0 a1:Value}(h:w.heap[g]? =some (.cells #[a0,a1] t (0,0)))(b0 b1:Value):
 ((w.setCell ⟨g,0,none⟩ b0).setCell ⟨g,1,none⟩ b1).heap[g]? =some (.cells #[b0,b1] t (0,0)):=
 i8 (i8 h 0 b0) 1 b1
theorem z8 {w:World}{g k i:Nat}(x:Value)(h:k≠g):(w.setCell ⟨g,i,none⟩ x).heap[k]? =w.heap[k]? :=Below.heap_setCell _ _ _ _ h
def Sj:Array Value:=#[.int .i64 0,.slice none 0 0,.slice none 0 0,.int .i64 0]
structure PG (w:World)(er i:Nat)(e:Ending)(w':World):Prop where
 ret:e=.returned (.tuple #[.agg Sj,.agg #[.int .i64 er,.int .i64 i]])
 touch:b7 (fun _=>False) w w'
structure Sn (w:World)(c:Nat)(rs ps:List Int)(bad:Nat)(e:Ending)(w':World):Prop where
 ex:∃v1 v2,e=.returned (.tuple #[.agg #[.int .i64 c,v1,v2,.int .i64 bad],.agg #[.int .i64 0,.int .i64 0]])/\M1 w w' v1 rs/\M1 w w' v2 ps
def VZ (w:World)(s:ByteArray)(c:Nat)(R:Option Nat×List Int×List Int×Nat)(e:Ending)(w':World):Prop:=
 (∃i,R.1=some i/\PG w 17 i e w')∨(R.1=none/\Sn w c R.2.1 (R.2.2.1++ [(s.size:Int)]) R.2.2.2 e w')
structure RB (wz:World)(q:Nat):Prop where
 a:wz.heap[q]? =some (.cells #[.int .i64 0,.slice none 0 0,.slice none 0 0,.int .i64 0] 67 (0,0))
 b:wz.heap[q+1]? =some (.cells #[.int .i64 0,.int .i64 0] 34 (0,0))
theorem RB.made (w:World):RB ((w.alloc (.cells #[.int .i64 0,.slice none 0 0,.slice none 0 0,.int .i64 0] 67)).alloc (.cells #[.int .i64 0,.int .i64 0] 34)) w.heap.size:=by
 refine⟨?_,?_⟩
 ·rw[Below.heap_alloc _ _ _ (by simp)]
  exact e8 _ _ _
 ·have:=e8 (w.alloc (.cells #[.int .i64 0,.slice none 0 0,.slice none 0 0,.int .i64 0] 67)) #[.int .i64 0,.int .i64 0] 34
  rwa [show(w.alloc (.cells #[.int .i64 0,.slice none 0 0,.slice none 0 0,.int .i64 0] 67)).heap.size=w.heap.size+1 by simp]at this
theorem RB.kept {w w':World}{q:Nat}{S:Nat->Prop}(h:RB w q)(t:b7 S w w')(h0:¬S q)(h1:¬S (q+1)):RB w' q:=⟨(t.block q (lt_of_block h.a) h0).trans h.a,(t.block (q+1) (lt_of_block h.b) h1).trans h.b⟩
theorem RB.cells {w:World}{q:Nat}(h:RB w q):(w.cell? ⟨q,0,none⟩=some (.int .i64 0)/\w.cell? ⟨q,1,none⟩=some (.slice none 0 0)/\w.cell? ⟨q,2,none⟩=some (.slice none 0 0)/\w.cell? ⟨q,3,none⟩=some (.int .i64 0))/\(w.cell? ⟨q+1,0,none⟩=some (.int .i64 0)/\w.cell? ⟨q+1,1,none⟩=some (.int .i64 0))/\(∀i,w.frozen? ⟨q,i,none⟩=false)/\(∀i,w.frozen? ⟨q+1,i,none⟩=false):=by
 simp[World.cell?,World.frozen?,h.a,h.b]
theorem RB.done {w:World}{q:Nat}(h:RB w q)(b0 b1 b2 b3 f0 f1:Value):
 ((((((w.setCell ⟨q,0,none⟩ b0).setCell ⟨q,1,none⟩ b1).setCell ⟨q,2,none⟩ b2).setCell ⟨q,3,none⟩ b3).setCell ⟨q+1,0,none⟩ f0).setCell ⟨q+1,1,none⟩ f1).heap[q]? =some (.cells #[b0,b1,b2,b3] 67 (0,0))/\
 ((((((w.setCell ⟨q,0,none⟩ b0).setCell ⟨q,1,none⟩ b1).setCell ⟨q,2,none⟩ b2).setCell ⟨q,3,none⟩ b3).setCell ⟨q+1,0,none⟩ f0).setCell ⟨q+1,1,none⟩ f1).heap[q+1]? =some (.cells #[f0,f1] 34 (0,0)):=by
 refine⟨?_,?_⟩
 ·rw[z8 _ (by omega),z8 _ (by omega)]
  exact CO h.a _ _ _ _
 ·refine Nw (a0:=.int .i64 0) (a1:=.int .i64 0) ?_ _ _
  rw[z8 _ (by omega),z8 _ (by omega),z8 _ (by omega),z8 _ (by omega)]
  exact h.b
theorem RB.touch {w0 w:World}{q:Nat}(h:b7 (fun _=>False) w0 w)(hq:w0.heap.size<=q)(b0 b1 b2 b3 f0 f1:Value):
 b7 (fun _=>False) w0 ((((((w.setCell ⟨q,0,none⟩ b0).setCell ⟨q,1,none⟩ b1).setCell ⟨q,2,none⟩ b2).setCell ⟨q,3,none⟩ b3).setCell ⟨q+1,0,none⟩ f0).setCell ⟨q+1,1,none⟩ f1):=
 have n0:q<w0.heap.size->False:=fun k=>absurd k (Nat.not_lt.2 hq)
 have n1:q+1<w0.heap.size->False:=fun k=>absurd k (by omega)
 (((((h.setCell (p:=⟨q,0,none⟩) n0 b0).setCell (p:=⟨q,1,none⟩) n0 b1).setCell (p:=⟨q,2,none⟩) n0 b2).setCell (p:=⟨q,3,none⟩) n0 b3).setCell (p:=⟨q+1,0,none⟩) n1 f0).setCell (p:=⟨q+1,1,none⟩) n1 f1
theorem L2.nil (w:World)(q:Nat)(ty:TypeId)(cs:Array Value)(h:w.heap[q]? =some (.cells cs ty (0,0))):L2 w w q ty cs (.slice none 0 0) (.slice none 0 0) [] []:=
 ⟨by simpa [J3]using World.ownsRow_nil _ _ _ _,by simpa [J3]using World.ownsRow_nil _ _ _ _,by intro g h;simp[Value.ownBlock]at h,by intro g h;simp[Value.ownBlock]at h,by intro g h;simp[Value.ownBlock]at h,h,b7.refl _ _⟩
theorem Gg (s:ByteArray)(c:Nat)(hc:c<=4):1<=(bg s c).1/\(bg s c).1<=4/\(bg s c).2<=s.size:=by
 have beg:∀p:ByteArray,E5 s p=true->p.size<=s.size:=fun p h=>by
  unfold E5 at h
  simp only[Bool.and_eq_true,decide_eq_true_eq]at h
  exact h.1
 have key:∀(k c:Nat),1<=c->c+k<=4->1<=(sn s k c).1/\(sn s k c).1<=4/\(sn s k c).2<=s.size:=by
  intro k
  induction k with
  |zero=>intro c _ _;exact⟨Nat.le_refl _,(by show(1:Nat)<=4;decide),Nat.zero_le _⟩
  |succ k ih=>
   intro c h1 h2
   unfold sn
   split
   ·rename_i h
    exact⟨h1,by dsimp only;omega,beg _ h⟩
   ·exact ih (c+1) (by omega) (by omega)
 unfold bg
 split
 ·exact key 3 1 (Nat.le_refl _) (by omega)
 ·split
  ·rename_i h0 h
   exact⟨by dsimp only;omega,by dsimp only;omega,beg _ h⟩
  ·exact⟨by dsimp only;omega,by dsimp only;omega,Nat.zero_le _⟩
theorem L2.cells {W0 wr:World}{q:Nat}{ty:TypeId}{a0 a1 a2 a3 v1 v2:Value}{rs ps:List Int}(h:L2 W0 wr q ty #[a0,a1,a2,a3] v1 v2 rs ps):(wr.cell? ⟨q,0,none⟩=some a0/\wr.cell? ⟨q,1,none⟩=some a1/\wr.cell? ⟨q,2,none⟩=some a2/\wr.cell? ⟨q,3,none⟩=some a3)/\∀i,wr.frozen? ⟨q,i,none⟩=false:=by
 simp[World.cell?,World.frozen?,h.blk]
theorem Fs {w:World}{q k:Nat}(h0:k≠q)(h1:k≠q+1)(b0 b1 b2 b3 f0 f1:Value):((((((w.setCell ⟨q,0,none⟩ b0).setCell ⟨q,1,none⟩ b1).setCell ⟨q,2,none⟩ b2).setCell ⟨q,3,none⟩ b3).setCell ⟨q+1,0,none⟩ f0).setCell ⟨q+1,1,none⟩ f1).heap[k]? =w.heap[k]? :=by
 rw[z8 _ h1,z8 _ h1,z8 _ h0,z8 _ h0,z8 _ h0,z8 _ h0]
theorem L2.out {w w5 wz:World}{x q:Nat}{cs:Array Value}{v1 v2:Value}{rs ps:List Int}(h:L2 w5 wz x 67 cs v1 v2 rs ps)(t:b7 (fun _=>False) w w5)(hx:w.heap.size<=x)(hq:w.heap.size<=q)(hq5:q+1<w5.heap.size)(b0 b1 b2 b3 f0 f1:Value):
 M1 w ((((((wz.setCell ⟨q,0,none⟩ b0).setCell ⟨q,1,none⟩ b1).setCell ⟨q,2,none⟩ b2).setCell ⟨q,3,none⟩ b3).setCell ⟨q+1,0,none⟩ f0).setCell ⟨q+1,1,none⟩ f1) v1 rs/\
 M1 w ((((((wz.setCell ⟨q,0,none⟩ b0).setCell ⟨q,1,none⟩ b1).setCell ⟨q,2,none⟩ b2).setCell ⟨q,3,none⟩ b3).setCell ⟨q+1,0,none⟩ f0).setCell ⟨q+1,1,none⟩ f1) v2 ps:=by
 have tz:b7 (fun _=>False) w wz:=t.trans h.touch (fun i hi e=>by omega)
 have tf:=RB.touch tz hq b0 b1 b2 b3 f0 f1
 refine⟨⟨S8 h.o1 (fun g hg=>?_),fun g hg=>Nat.le_trans t.size (h.n1 g hg),tf⟩,⟨S8 h.o2 (fun g hg=>?_),fun g hg=>Nat.le_trans t.size (h.n2 g hg),tf⟩⟩
 ·have:=h.n1 g hg
  exact Fs (by omega) (by omega) _ _ _ _ _ _
 ·have:=h.n2 g hg
  exact Fs (by omega) (by omega) _ _ _ _ _ _
theorem EL (s:ByteArray)(c:Nat)(strict:Bool)(w:World)(ht:J1 w)(hs:s.size<=1099511627776)(hc:c<=4):
 Calls Tryz.prog 26 #[.string s,.int .i64 c,.bool strict] w fun e w'=>VZ w s (bg s c).1 (F8 s (bg s c).1 strict s.size (bg s c).2 [] [] 0) e w':=by
 obtain⟨i0,hi3,hz0,hz1,hz2⟩:=info_parts Hk
 have B:=b6 (RB.made w)
 have T:=b6 (((tZ w).alloc (.cells #[.int .i64 0,.slice none 0 0,.slice none 0 0,.int .i64 0] 67)).alloc (.cells #[.int .i64 0,.int .i64 0] 34))
 have hbg:=Gg s c hc
 have HT:=b6 ht
 clear ht
 go_enter Tryz.func26,Tryz.ntmps26
 go_upto_region 1 with fail
 generalize ((w.alloc (.cells #[.int .i64 0,.slice none 0 0,.slice none 0 0,.int .i64 0] 67)).alloc (.cells #[.int .i64 0,.int .i64 0] 34))=w1 at*
 obtain⟨q,hq⟩:∃q,q=w.heap.size:=⟨_,rfl⟩
 have HQ:=b6 (show w.heap.size<=q by omega)
 rw[<-hq]at B⊢
 clear hq
 have KB:=b6 (FT s c hc w1 (HT.out.new T.out))
 have hcI:(c:Int)<=4:=by omega
 go_wp2_with fail
 refine KB.out.mono ?_
 rintro e w2 ⟨rfl,tc⟩
 obtain⟨c',hc'⟩:∃c',c'=(bg s c).1:=⟨_,rfl⟩
 obtain⟨at0,hat0⟩:∃a,a=(bg s c).2:=⟨_,rfl⟩
 rw[<-hc',<-hat0]at hbg⊢
 have HC:=b6 hc'
 have HAT:=b6 hat0
 replace T:=b6 (T.out.trans tc iE)
 replace B:=b6 (B.out.kept tc id id)
 clear tc KB hc' hat0
 have BX:=b6 (e8 w2 #[.int .i64 c',.slice none 0 0,.slice none 0 0,.int .i64 0] 67)
 have TX:=b6 ((tZ w2).alloc (.cells #[.int .i64 c',.slice none 0 0,.slice none 0 0,.int .i64 0] 67))
 have HXS:=b6 (show w2.heap.size<(w2.alloc (.cells #[.int .i64 c',.slice none 0 0,.slice none 0 0,.int .i64 0] 67)).heap.size by simp)
 have HBX:=b6 (show q+1<w2.heap.size from lt_of_block B.out.b)
 go_upto_region 5 with fail
 generalize (w2.alloc (.cells #[.int .i64 c',.slice none 0 0,.slice none 0 0,.int .i64 0] 67))=w4 at*
 obtain⟨x,hx⟩:∃x,x=w2.heap.size:=⟨_,rfl⟩
 rw[<-hx]at BX HXS HBX⊢
 have HWX:=b6 (show w.heap.size<=x by have:=T.out.size;omega)
 clear hx
 have T4:=b6 (T.out.trans TX.out iE)
 have B4:=b6 (B.out.kept TX.out id id)
 have KT:=b6 (Mo s c' w4 (by omega) ⟨hbg.1,hbg.2.1⟩)
 clear T TX B
 go_wp2_with fail
 refine KT.out.mono ?_
 rintro e w5 ⟨fid,b,hfid,rfl,htk,tc⟩
 have T5:=b6 (T4.out.trans tc iE)
 have B5:=b6 (B4.out.kept tc id id)
 have BX5:=b6 ((tc.block x (lt_of_block BX.out) id).trans BX.out)
 have TK:=b6 (htk x HXS.out)
 obtain⟨R,hR⟩:∃R,F8 s c' strict s.size at0 [] [] 0=R:=⟨_,rfl⟩
 have HR:=b6 hR
 have HRR:=b6 (show F8 s (bg s c).1 strict s.size (bg s c).2 [] [] 0=R by rw[<-HC.out,<-HAT.out];exact hR)
 clear tc htk KT T4 B4 BX hR
 have HW2:=b6 HT.out.two
 have HT5:=b6 (HT.out.new T5.out)
 rcases hfid with rfl|rfl|rfl
 all_goals
  go_wp2_with fail
  go_loopg [8] s.size (fun gk v wq=>∃(i:Nat) (rs ps:List Int) (bad:Nat) (v1 v2:Value),v=.int .i64 (i:Nat)/\i<=s.size+4/\s.size<=i+gk/\rs.length+gk=s.size/\ps.length=rs.length/\bad<=rs.length/\F8 s c' strict gk i rs ps bad=R/\L2 w5 wq x 67 #[.int .i64 c',v1,v2,.int .i64 bad] v1 v2 rs ps)
  case atStart=>exact⟨at0,[],[],0,_,_,rfl,by omega,by omega,by simp,rfl,Nat.le_refl _,HR.out,L2.nil w5 x 67 _ BX5.out⟩
  case round=>
   obtain⟨i,rs,ps,bad,v1,v2,rfl,hi4,hig,hrl,hpl,hbl,hdc,hl2⟩:=hrel
   have HD:=b6 hdc
   have L:=b6 hl2
   obtain⟨a1,k1,hv1⟩:=e9 hl2.o1
   obtain⟨a2,k2,hv2⟩:=e9 hl2.o2
   subst hv1
   subst hv2
   have HPL:=b6 hpl
   have hpb:ps.length<=s.size:=by omega
   clear hdc hl2 HR hpl
   by_cases hlt:i<s.size
   ·obtain⟨gk,rfl⟩:∃k,gk=k+1:=⟨gk-1,by omega⟩
    have HD2:=b6 (HD.out)
    rw[U0 hlt]at HD2
    have hsz:=Af s c' i
    have KC:=b6 (TK.out wr L.out.touch (HT5.out.kept L.out.touch (by have:=HW2.out;have:=HWX.out;omega) (by have:=HW2.out;have:=HWX.out;omega)) i hlt)
    obtain⟨y,hy⟩:∃y,y=(r8 s c' i).1:=⟨_,rfl⟩
    obtain⟨n,hn⟩:∃n,n=(r8 s c' i).2:=⟨_,rfl⟩
    rw[<-hy,<-hn]at HD2 KC
    rw[<-hn]at hsz
    have hltI:(i:Int)<(s.size:Int):=by omega
    clear HD hy hn
    go_wp2_with fail
    refine KC.out.mono ?_
    rintro e w6 ⟨rfl,tc⟩
    have L6:=b6 (L.out.still tc)
    clear tc KC L
    go_upto_if 43 with fail
    go_cut [11] (fun v wd=>∃(y':Int) (bad':Nat),v=.int .i64 y'/\bad'<=rs.length+1/\F8 s c' strict gk (i+n) (rs++ [y']) (ps++ [(i:Int)]) bad'=R/\L2 w5 wd x 67 #[.int .i64 c',.slice a1 rs.length k1,.slice a2 ps.length k2,.int .i64 bad'] (.slice a1 rs.length k1) (.slice a2 ps.length k2) rs ps)
    case first=>
     by_cases hy:y= -1
     ·subst hy
      rw[if_pos rfl]at HD2
      cases strict
      ·have HD3:=b6 (show F8 s c' false gk (i+n) (rs++ [65533]) (ps++ [(i:Int)]) (bad+1)=R from HD2.out)
       obtain⟨⟨_,_,_,z3⟩,zf⟩:=L6.out.cells
       go_wp2
       go_meet
       case rel=>exact⟨65533,bad+1,rfl,by omega,HD3.out,L6.out.set (by decide) 3 _⟩
      ·have HRE:=b6 (show(some i,[],[],0)=R from HD2.out)
       have B6:=b6 (B5.out.kept L6.out.touch (by have:=HBX.out;omega) (by have:=HBX.out;omega))
       have T6:=b6 (T5.out.trans L6.out.touch (fun k hk e=>by have:=HWX.out;omega))
       obtain⟨⟨z0,z1,z2,z3⟩,⟨d0,d1⟩,f0,f1⟩:=B6.out.cells
       go_wp2
       refine bodyPost_ret (I4 rfl _ _ q (q+1) 67 34 _ _ (0,0) (0,0) _ _ rfl (B6.out.done _ _ _ _ _ _).1 Tryz.underlying67 rfl (by kernel_rfl) rfl (B6.out.done _ _ _ _ _ _).2 Tryz.underlying34 rfl (by kernel_rfl)) rfl ?_
       exact .inl ⟨i,by rw[HRR.out,<-HRE.out],rfl,RB.touch T6.out HQ.out _ _ _ _ _ _⟩
     ·rw[if_neg hy]at HD2
      have hyd:decide (y= -1)=false:=decide_eq_false hy
      have hyd2:(y== -1)=false:=by simpa using hy
      go_wp2
      go_meet
      case rel=>exact⟨y,bad,rfl,by omega,HD2.out,L6.out⟩
    obtain⟨y',bad',rfl,hbad,hdc,hl2⟩:=hcut
    have HDC:=b6 hdc
    have L7:=b6 hl2
    obtain⟨⟨_,z1,_,_⟩,zf⟩:=hl2.cells
    clear hdc hl2 HD2 L6
    go_wp2_with (at_builtin;(refine wpList_append_own_at _ rfl _ _ 56 rfl 0 3 i0 (.int .i64 0) 1 8 Tryz.underlying56 hi3 hz0 hz1 hz2 rfl (by decide) _ _ _ rfl (L7.out.o1.alloc _) ⟨wc.heap.size,0,none⟩ 1 1 [.int .i64 y'] rfl rfl (AP wc [.int .i64 y'] 3) (by intro u hu;simp at hu;subst hu;rfl) (by unfold maxLen;omega) (by omega) (Nat.zero_le _) ?_))
    intro v1' w8 hown hgrow _ hat
    have L8:=b6 (L7.out.app1 (by decide) hown hgrow hat)
    obtain⟨b1,j1,hv1⟩:=e9 hown
    subst hv1
    clear hown hgrow hat L7 z1 zf
    obtain⟨⟨_,z1,_,_⟩,zf⟩:=L8.out.cells
    have L9:=b6 (L8.out.set (by decide) 1 (.slice b1 (rs.length+1) j1))
    go_upto_region 14 with fail
    generalize w8.setCell ⟨x,1,none⟩ (.slice b1 (rs.length+1) j1)=w9 at*
    clear L8 z1 zf
    have L9':=b6 (show L2 w5 w9 x 67 #[.int .i64 c',.slice b1 (rs.length+1) j1,.slice a2 ps.length k2,.int .i64 bad'] (.slice b1 (rs.length+1) j1) (.slice a2 ps.length k2) (rs++ [y']) ps from L9.out)
    clear L9
    obtain⟨⟨_,_,z2,_⟩,zf⟩:=L9'.out.cells
    go_wp2_with (at_builtin;refine wpList_append_own_at _ rfl _ _ 56 rfl 0 3 i0 (.int .i64 0) 1 8 Tryz.underlying56 hi3 hz0 hz1 hz2 rfl (by decide) _ _ _ rfl (L9'.out.o2.alloc _) ⟨w9.heap.size,0,none⟩ 1 1 [.int .i64 i] rfl rfl (AP w9 [.int .i64 i] 3) (by intro u hu;simp at hu;subst hu;rfl) (by unfold maxLen;omega) (by omega) (Nat.zero_le _) ?_)
    intro v2' w10 hown hgrow _ hat
    have L10:=b6 (L9'.out.app2 (by decide) hown hgrow hat)
    obtain⟨b2,j2,hv2⟩:=e9 hown
    subst hv2
    clear hown hgrow hat L9' z2 zf
    obtain⟨⟨_,_,z2,_⟩,zf⟩:=L10.out.cells
    have L11:=b6 (L10.out.set (by decide) 2 (.slice b2 (ps.length+1) j2))
    go_upto_region 15 with fail
    generalize w10.setCell ⟨x,2,none⟩ (.slice b2 (ps.length+1) j2)=w11 at*
    clear L10 z2 zf
    have L12:=b6 (show L2 w5 w11 x 67 #[.int .i64 c',.slice b1 (rs.length+1) j1,.slice b2 (ps.length+1) j2,.int .i64 bad'] (.slice b1 (rs.length+1) j1) (.slice b2 (ps.length+1) j2) (rs++ [y']) (ps++ [(i:Int)])from L11.out)
    clear L11
    go_wp2
    go_roundg gk
    case measure=>omega
    case rel=>exact⟨i+n,rs++ [y'],ps++ [(i:Int)],bad',_,_,by go_num,by omega,by omega,by rw[List.length_append,List.length_singleton];omega,by rw[List.length_append,List.length_append,List.length_singleton,HPL.out];rfl,by rw[List.length_append,List.length_singleton];omega,HDC.out,L12.out⟩
   ·have HRE:=b6 (show(none,rs,ps,bad)=R by rw[<-HD.out,Ay (by omega)])
    have hltI:¬((i:Int)<(s.size:Int)):=by omega
    obtain⟨⟨_,_,z2,_⟩,zf⟩:=L.out.cells
    clear HD
    go_wp2_with (at_builtin;refine wpList_append_own_at _ rfl _ _ 56 rfl 0 3 i0 (.int .i64 0) 1 8 Tryz.underlying56 hi3 hz0 hz1 hz2 rfl (by decide) _ _ _ rfl (L.out.o2.alloc _) ⟨wr.heap.size,0,none⟩ 1 1 [.int .i64 (s.size:Nat)] rfl rfl (AP wr [.int .i64 (s.size:Nat)] 3) (by intro u hu;simp at hu;subst hu;rfl) (by unfold maxLen;omega) (by omega) (Nat.zero_le _) ?_)
    intro v2' w10 hown hgrow _ hat
    have L10:=b6 (L.out.app2 (by decide) hown hgrow hat)
    obtain⟨b2,j2,hv2⟩:=e9 hown
    subst hv2
    clear hown hgrow hat L z2 zf
    obtain⟨⟨_,_,z2,_⟩,zf⟩:=L10.out.cells
    have L11:=b6 (L10.out.set (by decide) 2 (.slice b2 (ps.length+1) j2))
    go_upto_region 17 with fail
    generalize w10.setCell ⟨x,2,none⟩ (.slice b2 (ps.length+1) j2)=w11 at*
    clear L10 z2 zf
    have L12:=b6 (show L2 w5 w11 x 67 #[.int .i64 c',.slice a1 rs.length k1,.slice b2 (ps.length+1) j2,.int .i64 bad] (.slice a1 rs.length k1) (.slice b2 (ps.length+1) j2) rs (ps++ [(s.size:Int)])from L11.out)
    clear L11
    obtain⟨⟨y0K,y1K,y2,y3⟩,_⟩:=L12.out.cells
    have B6:=b6 (B5.out.kept L12.out.touch (by have:=HBX.out;omega) (by have:=HBX.out;omega))
    obtain⟨⟨z0,z1,z2,z3⟩,⟨d0,d1⟩,f0,f1⟩:=B6.out.cells
    have HQ5:=b6 (lt_of_block B5.out.b)
    go_wp2
    refine bodyPost_ret (I4 rfl _ _ q (q+1) 67 34 _ _ (0,0) (0,0) _ _ rfl (B6.out.done _ _ _ _ _ _).1 Tryz.underlying67 rfl (by kernel_rfl) rfl (B6.out.done _ _ _ _ _ _).2 Tryz.underlying34 rfl (by kernel_rfl)) rfl ?_
    have ho:=L12.out.out T5.out HWX.out HQ.out HQ5.out (.int .i64 c') (.slice a1 rs.length k1) (.slice b2 (ps.length+1) j2) (.int .i64 bad) (.int .i64 0) (.int .i64 0)
    refine .inr ⟨by rw[HRR.out,<-HRE.out],?_⟩
    rw[HRR.out,<-HRE.out,<-HC.out]
    exact⟨_,_,rfl,ho.1,ho.2⟩
def FX (o:List Int):List Value:=o.map (.int .u8)
structure Ob (P:Nat->Prop)(W0 wr:World)(q:Nat)(v:Value)(o:List Int):Prop where
 own:wr.ownsRow 0 5 1 v o.length (FX o)
 new:∀g,v.ownBlock=some g->P g∨W0.heap.size<=g
 blk:wr.heap[q]? =some (.cells #[v] 49 (0,0))
 touch:b7 P W0 wr
 at_:P q
theorem Ob.cell {P:Nat->Prop}{W0 wr:World}{q:Nat}{v:Value}{o:List Int}(h:Ob P W0 wr q v o):wr.cell? ⟨q,0,none⟩=some v/\∀i,wr.frozen? ⟨q,i,none⟩=false:=by
 simp[World.cell?,World.frozen?,h.blk]
def nums (s:ByteArray):List Int:=s.data.toList.map fun b=>(b.toNat:Int)
end Go.Proofs.YtdhhcefmmojcmaaGreatDoor
namespace Go.Proofs.YtdhhcefmmojcmaaGreatDoor
open Go.RowKit
attribute [local go_sem] W1
def Lw (f:Nat)(r:Int):List Int:=if f=50 then[r%256,r / 256]else[r / 256,r%256]
def Cb (f:Nat)(r:Int):List Int:=if r<65536 then Lw f r else Lw f (55296+(r-65536) / 1024)++Lw f (56320+(r-65536)%1024)
end Go.Proofs.YtdhhcefmmojcmaaGreatDoor
namespace Go.Proofs.YtdhhcefmmojcmaaGreatDoor
open Go.RowKit
attribute [local go_sem] W1
def FO (r:Int):List Int:=if r<128 then[r]else if r<2048 then[192+r / 64,128+r%64]else if r<65536 then[224+r / 4096,128+r / 64%64,128+r%64]else[240+r / 262144,128+r / 4096%64,128+r / 64%64,128+r%64]
end Go.Proofs.YtdhhcefmmojcmaaGreatDoor
namespace Go.Proofs.YtdhhcefmmojcmaaGreatDoor
open Go.RowKit Go.Lib
def Uk (r:Int):Bool:=decide (0<=r)&&(decide (r<=1114111)&& !(decide (55296<=r)&&decide (r<57344)))
theorem U2 (r:Int):Uk r=true↔0<=r/\r<=1114111/\(r<55296∨57344<=r):=by
 unfold Uk
 simp only[Bool.and_eq_true,decide_eq_true_eq,Bool.not_eq_true',Bool.and_eq_false_iff,decide_eq_false_iff_not]
 omega
def enc (c:Nat)(r:Int):List Int:=if c=1 then FO r else if c=2 then Cb 50 r else if c=3 then Cb 51 r else[r]
def FP (c:Nat)(r:Int):Bool:=Uk r&&(decide (c≠4)||decide (r<=255))
def VT (c:Nat):Int:=if c=4 then 255 else 1114111
theorem Fi {c:Nat}{r:Int}(h:FP c r=true):0<=r/\r<=VT c:=by
 unfold FP at h
 rw[Bool.and_eq_true,U2]at h
 unfold VT
 split
 ·rename_i e
  subst e
  simp at h
  omega
 ·omega
def J2 (m v:Nat):Bool:=
 if m=1 then false
 else if m=2 then decide (64*v+63<2048)||(decide (55296<=64*v)&&decide (64*v+63<=57343))
 else decide (4096*v+4095<65536)||decide (1114111<4096*v)
def Az (s:ByteArray)(a m:Nat):Nat->Nat->Nat->Int×Nat
 |0,_,v=>((v:Int),m+1)
 |f+1,k,v=>if s.size<=a+k then(-1,k)else if l5 s (a+k)<128∨191<l5 s (a+k)then(-1,k)else if k=1/\J2 m (64*v+l5 s (a+k)-128)=true then(-1,1)else Az s a m f (k+1) (64*v+l5 s (a+k)-128)
def r6 (b:Nat):Nat×Nat:=if 194<=b/\b<=223 then(1,b-192)else if 224<=b/\b<=239 then(2,b-224)else if 240<=b/\b<=244 then(3,b-240)else(0,0)
def Sl (s:ByteArray)(a:Nat):Int×Nat:=if l5 s a<128 then((l5 s a:Int),1)else if(r6 (l5 s a)).1=0 then(-1,1)else Az s a (r6 (l5 s a)).1 (r6 (l5 s a)).1 1 (r6 (l5 s a)).2
theorem Ba (s:ByteArray)(a i:Nat)(h:a+i<s.size):l5 (s.extract a s.size) i=l5 s (a+i):=by
 unfold l5
 have h1:i<(s.extract a s.size).size:=by rw[ByteArray.size_extract];omega
 rw[dif_pos h1,dif_pos h,ByteArray.getElem_extract]
theorem DB (s:ByteArray)(a:Nat):(s.extract a s.size).size=s.size-a:=by rw[ByteArray.size_extract];omega
theorem Jj (s:ByteArray)(a m:Nat)(ha:a<s.size):∀(f k v:Nat),2<=k->a+k<=s.size->Az s a m f k v=Al (s.extract a s.size) m f k v 128 191
 |0,k,v,_,_=>by
  unfold Az Al
  rw[Nat.add_comm]
 |f+1,k,v,hk,hak=>by
  unfold Az Al
  rw[DB]
  by_cases h:s.size<=a+k
  ·rw[if_pos h,if_pos (.inl (by omega))]
  ·rw[if_neg h,Ba s a k (by omega)]
   by_cases h2:l5 s (a+k)<128∨191<l5 s (a+k)
   ·rw[if_pos h2,if_pos (.inr h2)]
   ·rw[if_neg h2,if_neg (by omega),if_neg (by omega)]
    have e:64*v+l5 s (a+k)-128=64*v+l5 s (a+k)%64:=by
     have:=y6 s (a+k)
     omega
    rw[e]
    exact Jj s a m ha f (k+1) _ (by omega) (by omega)
theorem Ij (s:ByteArray)(a m v lo hi:Nat)(hm:1<=m)(ha:a<s.size)(h:∀y,128<=y->y<=191->(J2 m (64*v+y-128)=true↔(y<lo∨hi<y)))(hlo:128<=lo)(hhi:hi<=191):
 Az s a m m 1 v=Al (s.extract a s.size) m m 1 v lo hi:=by
 obtain⟨f,rfl⟩:∃f,m=f+1:=⟨m-1,by omega⟩
 unfold Az Al
 rw[DB]
 by_cases h1:s.size<=a+1
 ·rw[if_pos h1,if_pos (.inl (by omega))]
 ·rw[if_neg h1,Ba s a 1 (by omega)]
  have hy:=y6 s (a+1)
  by_cases h2:l5 s (a+1)<128∨191<l5 s (a+1)
  ·rw[if_pos h2,if_pos (by omega)]
  ·rw[if_neg h2]
   have hb:=h (l5 s (a+1)) (by omega) (by omega)
   by_cases h3:l5 s (a+1)<lo∨hi<l5 s (a+1)
   ·rw[if_pos ⟨rfl,hb.2 h3⟩,if_pos (.inr h3)]
   ·rw[if_neg (fun q=>h3 (hb.1 q.2)),if_neg (by omega)]
    have e:64*v+l5 s (a+1)-128=64*v+l5 s (a+1)%64:=by omega
    rw[e]
    exact Jj s a (f+1) ha f 2 _ (Nat.le_refl _) (by omega)
theorem QV {b:Nat}(h:b<128):L4 b=some ⟨0,127,0,0,0⟩:=by
 unfold L4 J6
 rw[List.find?_cons_of_pos]
 unfold I9
 simp
 omega
theorem QF (b:Nat)(pre post:List AC)(l:AC)(hp:∀x ∈ pre,I9 b x=false)(h:I9 b l=true):(pre++l::post).find? (I9 b)=some l:=by
 rw[List.find?_append,List.find?_eq_none.2 (fun x hx=>by rw[hp x hx];simp),List.find?_cons_of_pos h]
 rfl
theorem Na (b:Nat)(l:AC)(h:b<l.first∨l.last<b):I9 b l=false:=by
 unfold I9
 simp
 omega
theorem Tp (b:Nat)(l:AC)(h:l.first<=b/\b<=l.last):I9 b l=true:=by
 unfold I9
 simp
 omega
theorem Wh (s:ByteArray)(a:Nat)(ha:a<s.size):Sl s a=DD (s.extract a s.size):=by
 have h0:l5 (s.extract a s.size) 0=l5 s a:=by rw[Ba s a 0 (by omega),Nat.add_zero]
 unfold Sl DD
 rw[h0]
 have hb:=y6 s a
 generalize l5 s a=b at*
 by_cases h1:b<128
 ·rw[if_pos h1,QV h1]
  show _=Al _ 0 0 1 (b%2^7) 0 0
  unfold Al
  rw[Nat.mod_eq_of_lt (by omega)]
 rw[if_neg h1]
 have row:∀(pre post:List AC) (l:AC),J6=pre++l::post->(∀x ∈ pre,b<x.first∨x.last<b)->l.first<=b/\b<=l.last->L4 b=some l:=fun pre post l e hp hl=>by
  unfold L4
  rw[e]
  exact QF b pre post l (fun x hx=>Na b x (hp x hx)) (Tp b l hl)
 have fin:∀(pre post:List AC) (l:AC),J6=pre++l::post->(∀x ∈ pre,b<x.first∨x.last<b)->l.first<=b/\b<=l.last->1<=l.more->128<=l.low->l.high<=191->(r6 b).1=l.more->(r6 b).2=b%2^(7-l.more)->(∀y,128<=y->y<=191->(J2 l.more (64*(r6 b).2+y-128)=true↔(y<l.low∨l.high<y)))->
  (if(r6 b).1=0 then((-1:Int),1)else Az s a (r6 b).1 (r6 b).1 1 (r6 b).2)=(match L4 b with|none=>(-1,1)|some l=>Al (s.extract a s.size) l.more l.more 1 (b%2^(7-l.more)) l.low l.high):=fun pre post l e hp hl h1 h2 h3 h4 h5 h6=>by
  rw[row pre post l e hp hl,h4,if_neg (by omega)]
  show _=Al (s.extract a s.size) l.more l.more 1 (b%2^(7-l.more)) l.low l.high
  rw[<-h5]
  exact Ij s a l.more (r6 b).2 l.low l.high h1 ha h6 h2 h3
 by_cases c1:194<=b/\b<=223
 ·have hd:r6 b=(1,b-192):=by unfold r6;rw[if_pos (by omega)]
  refine fin [⟨0,127,0,0,0⟩] [⟨224,224,2,160,191⟩,⟨225,236,2,128,191⟩,⟨237,237,2,128,159⟩,⟨238,239,2,128,191⟩,⟨240,240,3,144,191⟩,⟨241,243,3,128,191⟩,⟨244,244,3,128,143⟩] ⟨194,223,1,128,191⟩ rfl (by simp;omega) c1 (by decide) (by decide) (by decide) (by rw[hd]) (by rw[hd];show b-192=b%64;omega) (fun y hy1 hy2=>?_)
  rw[hd]
  show J2 1 (64*(b-192)+y-128)=true↔(y<128∨191<y)
  simp[J2]
  omega
 by_cases c2:224<=b/\b<=224
 ·have hd:r6 b=(2,b-224):=by unfold r6;rw[if_neg (by omega),if_pos (by omega)]
  refine fin [⟨0,127,0,0,0⟩,⟨194,223,1,128,191⟩] [⟨225,236,2,128,191⟩,⟨237,237,2,128,159⟩,⟨238,239,2,128,191⟩,⟨240,240,3,144,191⟩,⟨241,243,3,128,191⟩,⟨244,244,3,128,143⟩] ⟨224,224,2,160,191⟩ rfl (by simp;omega) c2 (by decide) (by decide) (by decide) (by rw[hd]) (by rw[hd];show b-224=b%32;omega) (fun y hy1 hy2=>?_)
  rw[hd]
  show J2 2 (64*(b-224)+y-128)=true↔(y<160∨191<y)
  simp[J2]
  omega
 by_cases c3:225<=b/\b<=236
 ·have hd:r6 b=(2,b-224):=by unfold r6;rw[if_neg (by omega),if_pos (by omega)]
  refine fin [⟨0,127,0,0,0⟩,⟨194,223,1,128,191⟩,⟨224,224,2,160,191⟩] [⟨237,237,2,128,159⟩,⟨238,239,2,128,191⟩,⟨240,240,3,144,191⟩,⟨241,243,3,128,191⟩,⟨244,244,3,128,143⟩] ⟨225,236,2,128,191⟩ rfl (by simp;omega) c3 (by decide) (by decide) (by decide) (by rw[hd]) (by rw[hd];show b-224=b%32;omega) (fun y hy1 hy2=>?_)
  rw[hd]
  show J2 2 (64*(b-224)+y-128)=true↔(y<128∨191<y)
  simp[J2]
  omega
 by_cases c4:237<=b/\b<=237
 ·have hd:r6 b=(2,b-224):=by unfold r6;rw[if_neg (by omega),if_pos (by omega)]
  refine fin [⟨0,127,0,0,0⟩,⟨194,223,1,128,191⟩,⟨224,224,2,160,191⟩,⟨225,236,2,128,191⟩] [⟨238,239,2,128,191⟩,⟨240,240,3,144,191⟩,⟨241,243,3,128,191⟩,⟨244,244,3,128,143⟩] ⟨237,237,2,128,159⟩ rfl (by simp;omega) c4 (by decide) (by decide) (by decide) (by rw[hd]) (by rw[hd];show b-224=b%32;omega) (fun y hy1 hy2=>?_)
  rw[hd]
  show J2 2 (64*(b-224)+y-128)=true↔(y<128∨159<y)
  simp[J2]
  omega
 by_cases c5:238<=b/\b<=239
 ·have hd:r6 b=(2,b-224):=by unfold r6;rw[if_neg (by omega),if_pos (by omega)]
  refine fin [⟨0,127,0,0,0⟩,⟨194,223,1,128,191⟩,⟨224,224,2,160,191⟩,⟨225,236,2,128,191⟩,⟨237,237,2,128,159⟩] [⟨240,240,3,144,191⟩,⟨241,243,3,128,191⟩,⟨244,244,3,128,143⟩] ⟨238,239,2,128,191⟩ rfl (by simp;omega) c5 (by decide) (by decide) (by decide) (by rw[hd]) (by rw[hd];show b-224=b%32;omega) (fun y hy1 hy2=>?_)
  rw[hd]
  show J2 2 (64*(b-224)+y-128)=true↔(y<128∨191<y)
  simp[J2]
  omega
 by_cases c6:240<=b/\b<=240
 ·have hd:r6 b=(3,b-240):=by unfold r6;rw[if_neg (by omega),if_neg (by omega),if_pos (by omega)]
  refine fin [⟨0,127,0,0,0⟩,⟨194,223,1,128,191⟩,⟨224,224,2,160,191⟩,⟨225,236,2,128,191⟩,⟨237,237,2,128,159⟩,⟨238,239,2,128,191⟩] [⟨241,243,3,128,191⟩,⟨244,244,3,128,143⟩] ⟨240,240,3,144,191⟩ rfl (by simp;omega) c6 (by decide) (by decide) (by decide) (by rw[hd]) (by rw[hd];show b-240=b%16;omega) (fun y hy1 hy2=>?_)
  rw[hd]
  show J2 3 (64*(b-240)+y-128)=true↔(y<144∨191<y)
  simp[J2]
  omega
 by_cases c7:241<=b/\b<=243
 ·have hd:r6 b=(3,b-240):=by unfold r6;rw[if_neg (by omega),if_neg (by omega),if_pos (by omega)]
  refine fin [⟨0,127,0,0,0⟩,⟨194,223,1,128,191⟩,⟨224,224,2,160,191⟩,⟨225,236,2,128,191⟩,⟨237,237,2,128,159⟩,⟨238,239,2,128,191⟩,⟨240,240,3,144,191⟩] [⟨244,244,3,128,143⟩] ⟨241,243,3,128,191⟩ rfl (by simp;omega) c7 (by decide) (by decide) (by decide) (by rw[hd]) (by rw[hd];show b-240=b%16;omega) (fun y hy1 hy2=>?_)
  rw[hd]
  show J2 3 (64*(b-240)+y-128)=true↔(y<128∨191<y)
  simp[J2]
  omega
 by_cases c8:244<=b/\b<=244
 ·have hd:r6 b=(3,b-240):=by unfold r6;rw[if_neg (by omega),if_neg (by omega),if_pos (by omega)]
  refine fin [⟨0,127,0,0,0⟩,⟨194,223,1,128,191⟩,⟨224,224,2,160,191⟩,⟨225,236,2,128,191⟩,⟨237,237,2,128,159⟩,⟨238,239,2,128,191⟩,⟨240,240,3,144,191⟩,⟨241,243,3,128,191⟩] [] ⟨244,244,3,128,143⟩ rfl (by simp;omega) c8 (by decide) (by decide) (by decide) (by rw[hd]) (by rw[hd];show b-240=b%16;omega) (fun y hy1 hy2=>?_)
  rw[hd]
  show J2 3 (64*(b-240)+y-128)=true↔(y<128∨143<y)
  simp[J2]
  omega
 have hn:L4 b=none:=by
  unfold L4
  rw[List.find?_eq_none]
  intro x hx
  simp only[J6,List.mem_cons,List.not_mem_nil,or_false]at hx
  rw[Na b x (by rcases hx with rfl|rfl|rfl|rfl|rfl|rfl|rfl|rfl|rfl<;>dsimp only<;>omega)]
  simp
 rw[hn,show r6 b=(0,0)by unfold r6;rw[if_neg (by omega),if_neg (by omega),if_neg (by omega)]]
 rfl
end Go.Proofs.YtdhhcefmmojcmaaGreatDoor
