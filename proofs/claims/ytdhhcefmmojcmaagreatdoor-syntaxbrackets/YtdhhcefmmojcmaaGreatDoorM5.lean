/- Texts of this proof, one behind the other. -/
import Derived.Test.YtdhhcefmmojcmaaGreatDoorM4
import Derived.Deep.RegionLaw
set_option maxRecDepth 100000
set_option maxHeartbeats 0
set_option linter.unusedVariables false
namespace Go.Proofs.YtdhhcefmmojcmaaGreatDoor
open Go.RowKit Go.Lib
theorem LI:(Tryz.prog.info? 119).map (fun i=>(i.zero,i.size,i.bytes))=some (some (.agg #[.int .i64 0,.int .i64 0]),2,16):=by kernel_rfl
theorem Dy (w:World)(ty:TypeId)(v:Value)(n:Nat)(xs:List Value)(hown:w.ownsRow 0 119 2 v n xs)(a:Option Addr)(c:Nat):
 (Builtin.append_ #[96,96] ty #[v,.slice a 0 c]).run Tryz.prog w=.ok v w:=by
 obtain⟨i0,hin,hz0,hz1,hz2⟩:=info_parts LI
 have hld:∀ad,(loadCells ad 0).run Tryz.prog w=.ok #[] w:=fun ad=>rfl
 rcases hown.2 with⟨rfl,rfl⟩|⟨g,cap,cur,rfl,hbg,hg,hnc,hcm,hcs,htake⟩<;>cases a<;>
  simp[Builtin.append_,run_underlying Tryz.underlying96,sizeOf,typeInfo,Builtin.lenOf,Builtin.firstCells,storeCells, *]
theorem Fp (w:World)(ty:TypeId)(v:Value)(n:Nat)(xs:List Value)(hown:w.ownsRow 0 119 2 v n xs)(a:Option Addr)(c:Nat)(l:List R2)(hl:Rg w a l)(hb:(n+l.length)*16<=140737488355328):
 ∃v' w',(Builtin.append_ #[96,96] ty #[v,.slice a l.length c]).run Tryz.prog w=.ok v' w'/\w'.ownsRow 0 119 2 v' (n+l.length) (xs++l4 l)/\w.grownBy w' v.ownBlock/\(v'.ownBlock=v.ownBlock∨v'.ownBlock=some w.heap.size):=by
 obtain⟨i0,hin,hz0,hz1,hz2⟩:=info_parts LI
 rcases hl with rfl|⟨b,o,rfl,_,hc⟩
 ·refine⟨v,w,Dy w ty v n xs hown a c,?_,⟨rfl,rfl,rfl,Nat.le_refl _,fun _ _ _=>rfl⟩,.inl rfl⟩
  rw[show l4 []=[]from rfl,List.append_nil]
  exact hown
 ·obtain⟨v',w',h1,h2,h3,_,h4⟩:=run_append_own_at (P:=Tryz.prog) w 0 96 ty 119 i0 (.agg #[.int .i64 0,.int .i64 0]) 2 16 Tryz.underlying96 hin hz0 hz1 hz2 rfl (by decide) v n xs hown ⟨b,o,none⟩ l.length c (l4 l) (D9 l) (BG hc) (AE l) (by unfold maxLen;omega) hb (Nat.zero_le _)
  exact⟨v',w',h1,h2,h3,h4⟩
theorem Dk (w:World){ops:Array Oper}{rest:List Oper}{o:Oper}{a:Act}{Q:Exit->Act->World->Prop}(hgd:o.guard=none)(s x:Operand)
 (ho:o.op=.call {callee:=.builtin .append,args:=#[s,x],argTypes:=#[96,96]})
 (v:Value) (n:Nat) (xs:List Value) (hs:a.eval s=v) (hown:w.ownsRow 0 119 2 v n xs) (ad:Option Addr) (c:Nat) (l:List R2) (hx:a.eval x=.slice ad l.length c) (hl:Rg w ad l) (hb:(n+l.length)*16<=140737488355328)
 (h:∀v' w',w'.ownsRow 0 119 2 v' (n+l.length) (xs++l4 l)->w.grownBy w' v.ownBlock->(v'.ownBlock=v.ownBlock∨v'.ownBlock=some w.heap.size)->wpList Tryz.prog ops Q rest (a.put o.dst v') w'):wpList Tryz.prog ops Q (o::rest) a w:=by
 refine wpList_plain hgd fun K hK=>?_
 obtain⟨v',w',hr,h2,h3,h4⟩:=Fp w o.type v n xs hown ad c l hl hb
 unfold Oper.wp execOp
 simp only[ho,resolve,invoke,builtin,Sem.run_bind,Sem.run_pure,Result.andThen_ok,List.map_toArray,List.map_cons,List.map_nil,hs,hx,hr]
 exact hK _ _ (h v' w' h2 h3 h4)
theorem Gb (w:World)(ty:TypeId)(n:Nat)(h0:0<n)(hb:n*16<=140737488355328):
 (Builtin.append_ #[96,3] ty #[.slice none 0 0,.int .i64 n]).run Tryz.prog w=
   .ok (.slice (some ⟨w.heap.size,0,none⟩) n (grownCap w n 0 119))
     (w.drew.alloc (.cells (Builtin.zeroCells #[.int .i64 0,.int .i64 0] n++Builtin.zeroCells #[.int .i64 0,.int .i64 0] (grownCap w n 0 119-n)) 119)):=by
 obtain⟨i0,hin,hz0,hz1,hz2⟩:=info_parts LI
 have h48:Builtin.nextslicecap n 0*16<=281474976710656:=growslice_fits (by omega) (by omega)
 have h48':¬(281474976710656<Builtin.nextslicecap n 0*16):=by omega
 have hwr:IntKind.i64.wrap (n:Int)=n:=by rw[IntKind.wrap_i64];omega
 have hn0:¬n=0:=by omega
 have hn1:¬((n:Int)<0):=by omega
 have hn2:¬(281474976710656<(n:Int)*16):=by omega
 have hn3:¬(9223372036854775807<(n:Int)):=by omega
 have hn4:¬(n*2=0):=by omega
 have hfo:(Builtin.firstCells 2 0 (.slice none 0 0)).run Tryz.prog w.drew=.ok #[] w.drew:=by simp[Builtin.firstCells]
 simp[Builtin.append_,run_underlying Tryz.underlying96,run_underlying Tryz.underlying3,sizeOf,typeInfo,zeroValue,hin,hz0,hz1,hz2,h48',Question.forced,hfo,newRow,grownCap,asInt,asIntOf,hwr,Value.cells,hn0,hn1,hn2,hn3]
 intro h
 exact absurd h hn4
theorem DJ (w:World){ops:Array Oper}{rest:List Oper}{o:Oper}{a:Act}{Q:Exit->Act->World->Prop}(hgd:o.guard=none)(s x:Operand)
 (ho:o.op=.call {callee:=.builtin .append,args:=#[s,x],argTypes:=#[96,3]}) (n:Nat) (hs:a.eval s=.slice none 0 0) (hx:a.eval x=.int .i64 n) (h0:0<n) (hb:n*16<=140737488355328)
 (h:∀cap w',n<=cap->w'.ownsRow 0 119 2 (.slice (some ⟨w.heap.size,0,none⟩) 0 cap) 0 []->b7 (fun _=>False) w w'->wpList Tryz.prog ops Q rest (a.put o.dst (.slice (some ⟨w.heap.size,0,none⟩) n cap)) w'):wpList Tryz.prog ops Q (o::rest) a w:=by
 refine wpList_plain hgd fun K hK=>?_
 have hr:=Gb w o.type n h0 hb
 have hge:=grownCap_ge w n 0 119
 unfold Oper.wp execOp
 simp only[ho,resolve,invoke,builtin,Sem.run_bind,Sem.run_pure,Result.andThen_ok,List.map_toArray,List.map_cons,List.map_nil,hs,hx,hr]
 refine hK _ _ (h (grownCap w n 0 119) _ hge ⟨rfl,.inr ⟨w.heap.size,_,_,rfl,Nat.zero_le _,heap_alloc_new w.drew _,Nat.zero_le _,grownCap_le_maxLen w n 0 119 (by unfold maxLen;omega),?_,rfl⟩⟩ ((b7.refl _ w).drew.alloc _))
 simp only[Array.size_append,size_zeroCells]
 have:(#[Value.int IntKind.i64 0,.int .i64 0]:Array Value).size=2:=rfl
 rw[this]
 omega
theorem Ol (n:Nat)(w:World)(hb:n*16<=140737488355328):
 Calls Tryz.prog 88 #[.slice none 0 0,.int .i64 n] w fun e w'=>∃a cap,e=.returned (.slice a 0 cap)/\w'.ownsRow 0 119 2 (.slice a 0 cap) 0 []/\(∀g,(Value.slice a 0 cap).ownBlock=some g->w.heap.size<=g)/\b7 (fun _=>False) w w':=by
 go_enter Tryz.func88,Tryz.ntmps88
 by_cases h0:n=0
 ·subst h0
  go_wp2
  go_ret
  exact⟨none,0,rfl,World.ownsRow_nil _ _ _ _,by intro g h;simp[Value.ownBlock]at h,b7.refl _ _⟩
 ·have h1:(0:Int)<(n:Int):=by omega
  go_wp2_with (at_builtin;refine DJ _ rfl _ _ rfl n rfl rfl (by omega) hb ?_)
  intro cap w1 hc hown tc
  have OW:=b6 hown
  have TC:=b6 tc
  clear hown tc
  have h2:(0:Int)<(cap:Int):=by omega
  go_wp2
  go_ret
  exact⟨_,_,rfl,OW.out,by intro g h;simp[Value.ownBlock]at h;omega,TC.out⟩
structure Ls (w:World)(bb:Nat)(ls:List (List R2)):Prop where
 lt:bb<w.heap.size
 at_:∀i (h:i<ls.length),∃a c,w.cell? ⟨bb,i,none⟩=some (.slice a (ls[i]).length c)/\Rg w a ls[i]
theorem Ls.new {w w':World}{bb:Nat}{ls:List (List R2)}(h:Ls w bb ls)(t:b7 (fun _=>False) w w'):Ls w' bb ls:=by
 refine⟨Nat.lt_of_lt_of_le h.lt t.size,fun i hi=>?_⟩
 obtain⟨a,c,h1,h2⟩:=h.at_ i hi
 exact⟨a,c,(t.cell (p:=⟨bb,i,none⟩) h.lt id).trans h1,h2.new t⟩
theorem AF (ls:List (List R2))(k:Nat)(h:k<ls.length):(ls.take (k+1)).flatten=(ls.take k).flatten++ls[k]:=by
 rw[List.take_succ_eq_append_getElem h,List.flatten_append]
 simp
theorem Et (ls:List (List R2)):∀k,((ls.take k).flatten).length<=ls.flatten.length:=by
 intro k
 have:ls.flatten=(ls.take k).flatten++(ls.drop k).flatten:=by rw[<-List.flatten_append,List.take_append_drop]
 rw[this,List.length_append]
 omega
theorem IQ (bb cc:Nat)(ls:List (List R2))(w:World)(hls:Ls w bb ls)(hn:ls.length<=100)(hb:ls.flatten.length<=100000):
 Calls Tryz.prog 58 #[.slice (some ⟨bb,0,none⟩) ls.length cc] w fun e w'=>∃v,e=.returned v/\E9 w w' 119 v ls.flatten:=by
 have HLS:=b6 hls
 clear hls
 go_enter Tryz.func58,Tryz.ntmps58
 go_wp2_with fail
 go_loopg [3,11] ls.length (fun gk sz i wr=>∃k:Nat,k+gk=ls.length/\i=.int .i64 (k:Nat)/\sz=.int .i64 (((ls.take k).flatten).length:Nat)/\w=wr)
 case atStart=>exact⟨0,by omega,rfl,rfl,rfl⟩
 case round=>
  obtain⟨k,hk,rfl,rfl,rfl⟩:=hrel
  by_cases hlt:k<ls.length
  ·obtain⟨a,c,g0,hrg⟩:=HLS.out.at_ k hlt
   have h1:=Et ls (k+1)
   have HST:=b6 (show((ls.take (k+1)).flatten).length=((ls.take k).flatten).length+(ls[k]).length by rw[AF ls k hlt,List.length_append])
   rw[HST.out]at h1
   generalize ((ls.take k).flatten).length=A at*
   generalize (ls[k]).length=B at*
   have hkI:(k:Int)<(ls.length:Int):=by omega
   clear hrg
   go_wp2_with fail
   go_roundg (gk-1)
   case measure=>omega
   case rel=>exact⟨k+1,by omega,by go_num,by rw[HST.out];go_num,rfl⟩
  ·obtain rfl:k=ls.length:=by omega
   rw[List.take_length]
   obtain⟨N,hN⟩:∃N,N=ls.flatten.length:=⟨_,rfl⟩
   rw[<-hN]
   have K:=b6 (Ol N w (by omega))
   have HN:=b6 hN
   clear hN
   go_wp2_with fail
   refine K.out.mono ?_
   rintro e w1 ⟨av,cv,rfl,hown,hnew,tc⟩
   have OW:=b6 (show E9 w w1 119 (.slice av 0 cv) []from⟨hown,hnew,tc⟩)
   clear hown hnew tc K
   go_wp2_with fail
   go_loopg [6,27] ls.length (fun gk v i wr=>∃k:Nat,k+gk=ls.length/\i=.int .i64 (k:Nat)/\E9 w wr 119 v (ls.take k).flatten)
   case atStart=>exact⟨0,by omega,rfl,OW.out⟩
   case round=>
    obtain⟨k,hk,rfl,how⟩:=hrel
    have OW2:=b6 how
    obtain⟨a3,c3,hv⟩:=e9 how.own
    subst hv
    have h2:=Et ls k
    by_cases hlt:k<ls.length
    ·obtain⟨a,c,g0,hrg⟩:=(HLS.out.new how.touch).at_ k hlt
     have h1:=Et ls (k+1)
     have HST:=b6 (AF ls k hlt)
     have R1:=b6 hrg
     have hl2:((ls.take k).flatten).length+(ls[k]).length<=100000:=by
      rw[AF ls k hlt,List.length_append]at h1
      omega
     generalize (ls.take k).flatten=A at*
     generalize ls[k]=B at*
     have hkI:(k:Int)<(ls.length:Int):=by omega
     clear how hrg h1
     go_wp2_with (at_builtin;refine Dk _ rfl _ _ rfl _ _ _ rfl OW2.out.own a c B rfl R1.out (by omega) ?_)
     intro v' w4 hown hgrow hat
     have OC:=b6 (show E9 w w4 119 v' (A++B)from by
      refine⟨?_,fun g hg'=>?_,OW2.out.touch.grown hgrow (fun k e hk=>by have:=OW2.out.new k e;omega)⟩
      ·rw[List.length_append,y8]
       exact hown
      ·rcases hat with e|e
       ·rw[e]at hg'
        exact OW2.out.new g hg'
       ·rw[e]at hg'
        simp at hg'
        have:=OW2.out.touch.size
        omega)
     clear hown hgrow hat
     go_wp2
     go_roundg (gk-1)
     case measure=>omega
     case rel=>exact⟨k+1,by omega,by go_num,by rw[HST.out];exact OC.out⟩
    ·obtain rfl:k=ls.length:=by omega
     rw[List.take_length]at OW2⊢
     go_wp2
     go_ret
     exact⟨_,rfl,OW2.out⟩
theorem u9 (w:World)(l:List R2)(t:TypeId):Rg (w.alloc (.cells (l4 l).toArray t)) (some ⟨w.heap.size,0,none⟩) l:=by
 refine .inr ⟨w.heap.size,0,rfl,by simp,fun i hi=>?_⟩
 have h0:=z7 w (l4 l) t (2*i) _ (M5 l i hi)
 have h1:=z7 w (l4 l) t (2*i+1) _ (I3 l i hi)
 rw[Ai]at h0 h1
 rw[show 0+i*2=2*i by omega]
 exact⟨h0,h1⟩
def Js:List R2:=[(65,90),(192,214),(216,222),(913,929),(931,937),(1040,1071),(66560,66599)]
theorem Kd (w:World):Calls Tryz.prog 39 #[.string ⟨#[76,117]⟩] w fun e w'=>∃a c,e=.returned (.slice a Js.length c)/\Rg w' a Js/\b7 (fun _=>False) w w':=by
 go_enter Tryz.func39,Tryz.ntmps39
 go_wp2
 go_ret
 exact⟨_,_,rfl,u9 w Js 119,(b7.refl _ w).alloc _⟩
def Jq:List R2:=[(97,122),(181,181),(223,246),(248,255),(383,383),(945,969),(1072,1103),(66600,66639)]
theorem Kb (w:World):Calls Tryz.prog 39 #[.string ⟨#[76,108]⟩] w fun e w'=>∃a c,e=.returned (.slice a Jq.length c)/\Rg w' a Jq/\b7 (fun _=>False) w w':=by
 go_enter Tryz.func39,Tryz.ntmps39
 go_wp2
 go_ret
 exact⟨_,_,rfl,u9 w Jq 119,(b7.refl _ w).alloc _⟩
def Jr:List R2:=[(170,170),(186,186),(1488,1514),(12353,12438),(12449,12538),(19968,40959)]
theorem Kc (w:World):Calls Tryz.prog 39 #[.string ⟨#[76,111]⟩] w fun e w'=>∃a c,e=.returned (.slice a Jr.length c)/\Rg w' a Jr/\b7 (fun _=>False) w w':=by
 go_enter Tryz.func39,Tryz.ntmps39
 go_wp2
 go_ret
 exact⟨_,_,rfl,u9 w Jr 119,(b7.refl _ w).alloc _⟩
def Z3:List R2:=[(48,57),(1632,1641),(2406,2415),(65296,65305)]
theorem Fz (w:World):Calls Tryz.prog 39 #[.string ⟨#[78,100]⟩] w fun e w'=>∃a c,e=.returned (.slice a Z3.length c)/\Rg w' a Z3/\b7 (fun _=>False) w w':=by
 go_enter Tryz.func39,Tryz.ntmps39
 go_wp2
 go_ret
 exact⟨_,_,rfl,u9 w Z3 119,(b7.refl _ w).alloc _⟩
def Kr:List R2:=[(95,95),(8255,8256)]
theorem Ke (w:World):Calls Tryz.prog 39 #[.string ⟨#[80,99]⟩] w fun e w'=>∃a c,e=.returned (.slice a Kr.length c)/\Rg w' a Kr/\b7 (fun _=>False) w w':=by
 go_enter Tryz.func39,Tryz.ntmps39
 go_wp2
 go_ret
 exact⟨_,_,rfl,u9 w Kr 119,(b7.refl _ w).alloc _⟩
def Sm:List R2:=[(32,32),(160,160),(8192,8202),(12288,12288)]
theorem RX (w:World):Calls Tryz.prog 39 #[.string ⟨#[90,115]⟩] w fun e w'=>∃a c,e=.returned (.slice a Sm.length c)/\Rg w' a Sm/\b7 (fun _=>False) w w':=by
 go_enter Tryz.func39,Tryz.ntmps39
 go_wp2
 go_ret
 exact⟨_,_,rfl,u9 w Sm 119,(b7.refl _ w).alloc _⟩
def Cp:List R2:=[(0,1114111)]
theorem Ph (w:World):Calls Tryz.prog 39 #[.string ⟨#[65,110,121]⟩] w fun e w'=>∃a c,e=.returned (.slice a Cp.length c)/\Rg w' a Cp/\b7 (fun _=>False) w w':=by
 go_enter Tryz.func39,Tryz.ntmps39
 go_wp2
 go_ret
 exact⟨_,_,rfl,u9 w Cp 119,(b7.refl _ w).alloc _⟩
def Bm:List R2:=[(9,13),(32,32),(133,133),(160,160),(8192,8202),(8232,8233),(12288,12288)]
theorem KX (w:World):Calls Tryz.prog 40 #[] w fun e w'=>∃a c,e=.returned (.slice a Bm.length c)/\Rg w' a Bm/\b7 (fun _=>False) w w':=by
 go_enter Tryz.func40,Tryz.ntmps40
 go_wp2
 go_ret
 exact⟨_,_,rfl,u9 w Bm 119,(b7.refl _ w).alloc _⟩
theorem AR (bb cc:Nat)(ls:List (List R2))(w:World)(hls:Ls w bb ls)(hn:ls.length<=100)(hb:ls.flatten.length<=100000):
 Calls Tryz.prog 38 #[.slice (some ⟨bb,0,none⟩) ls.length cc] w fun e w'=>∃v s,e=.returned v/\l9 s/\(∀x,In x s↔(0<=x/\x<=1114111)/\In x ls.flatten)/\E9 w w' 60 v s:=by
 obtain⟨i0,hi33,hz0,hz1,hz2⟩:=info_parts AB
 have HLS:=b6 hls
 clear hls
 go_enter Tryz.func38,Tryz.ntmps38
 go_wp2_with fail
 go_loopg [3,10] ls.length (fun gk v i wr=>∃k:Nat,k+gk=ls.length/\i=.int .i64 (k:Nat)/\E9 w wr 60 v (ls.take k).flatten)
 case atStart=>exact⟨0,by omega,rfl,E9.nil _ _⟩
 case round=>
  obtain⟨k,hk,rfl,how⟩:=hrel
  obtain⟨G,hG⟩:∃G,G=gk:=⟨_,rfl⟩
  have HG:=b6 hG
  clear hG
  have OW:=b6 how
  obtain⟨a3,c3,hv⟩:=e9 how.own
  subst hv
  by_cases hlt:k<ls.length
  ·obtain⟨a,c,g0,hrg⟩:=(HLS.out.new how.touch).at_ k hlt
   obtain⟨a',c',g0',hrg0⟩:=HLS.out.at_ k hlt
   have hsame:a'=a:=by
    have:=(how.touch.cell (p:=⟨bb,k,none⟩) HLS.out.lt id).trans g0'
    rw[g0]at this
    simp only[Option.some.injEq,Value.slice.injEq]at this
    exact this.1.symm
   subst hsame
   have h1:=Et ls (k+1)
   have HST:=b6 (AF ls k hlt)
   have RB:=b6 hrg0
   have hl2:((ls.take k).flatten).length+(ls[k]).length<=100000:=by
    rw[AF ls k hlt,List.length_append]at h1
    omega
   generalize (ls.take k).flatten=A at*
   generalize ls[k]=B at*
   have hkI:(k:Int)<(ls.length:Int):=by omega
   clear how hrg h1 hrg0 g0'
   go_wp2_with fail
   go_loopg [3,16] B.length (fun g2 v i wq=>∃j:Nat,j+g2=B.length/\i=.int .i64 (j:Nat)/\E9 w wq 60 v (A++B.take j))
   case atStart=>exact⟨0,by omega,rfl,by rw[List.take_zero,List.append_nil];exact OW.out⟩
   case round=>
    obtain⟨j,hj,rfl,how⟩:=hrel
    have OQ:=b6 how
    obtain⟨a4,c4,hv4⟩:=e9 how.own
    subst hv4
    have RQ:=b6 (RB.out.new how.touch)
    clear how
    by_cases hjl:j<B.length
    ·obtain⟨b,o,ha,hbl,hcell⟩:∃b o,a'=some ⟨b,o,none⟩/\b<wr.heap.size/\∀i (h:i<B.length),wr.cell? ⟨b,o+i*2,none⟩=some (.int .i64 (B[i]).1)/\wr.cell? ⟨b,o+i*2+1,none⟩=some (.int .i64 (B[i]).2):=by
      rcases RQ.out with h|h
      ·rw[h]at hjl;simp at hjl
      ·exact h
     subst ha
     obtain⟨d0,d1⟩:=hcell j hjl
     have HT:=b6 (show B.take (j+1)=B.take j++ [B[j]]from List.take_succ_eq_append_getElem hjl)
     have hAl:(A++B.take j).length<=100000:=by rw[List.length_append,List.length_take];omega
     obtain⟨r,hr⟩:∃r,r=B[j]:=⟨_,rfl⟩
     rw[<-hr]at d0 d1 HT
     obtain⟨x,y⟩:=r
     dsimp only at d0 d1
     obtain⟨S,hS⟩:∃S,S=A++B.take j:=⟨_,rfl⟩
     rw[<-hS]at OQ hAl⊢
     have HSS:=b6 hS
     have hjI:(j:Int)<(B.length:Int):=by omega
     have B2:=b6 (show(wr.alloc (.cells #[.int .i64 x,.int .i64 y] 119)).heap[wr.heap.size]? =some (.cells #[.int .i64 x,.int .i64 y] 119 (0,0))from Ae _ _ _)
     have TA:=b6 ((tZ wr).alloc (.cells #[.int .i64 x,.int .i64 y] 119))
     clear hcell hr hS
     go_upto_region 8 with fail
     generalize (wr.alloc (.cells #[.int .i64 x,.int .i64 y] 119))=wA at*
     have OA:=b6 (OQ.out.still TA.out)
     have c0:=F7 B2.out
     have c1:=E2 B2.out
     clear d0 d1 OQ
     go_wp2_with (at_builtin;refine wpList_append_own_at _ rfl _ _ 24 rfl 0 60 i0 (.agg #[.int .i64 0,.int .i64 0]) 2 16 Tryz.underlying24 hi33 hz0 hz1 hz2 rfl (by decide) _ _ _ rfl (OA.out.own.alloc _) ⟨wA.heap.size,0,none⟩ 1 1 [.int .i64 x,.int .i64 y] rfl rfl (z7 wA [.int .i64 x,.int .i64 y] 60) (by intro u hu;simp at hu;rcases hu with rfl|rfl<;>rfl) (by unfold maxLen;omega) (by omega) (Nat.zero_le _) ?_)
     intro v' w4 hown hgrow _ hat
     have OC:=b6 (OA.out.more (xs:=[(x,y)]) hown hgrow hat)
     clear hown hgrow hat
     go_wp2
     go_roundg (gk-1)
     case measure=>omega
     case rel=>exact⟨j+1,by omega,by go_num,by rw[HT.out,<-List.append_assoc,<-HSS.out];exact OC.out⟩
    ·obtain rfl:j=B.length:=by omega
     have OQ2:=b6 (show E9 w wr 60 (.slice a4 (A++B).length c4) (A++B)by have:=OQ.out;rw[List.take_length]at this;exact this)
     rw[List.take_length]
     go_wp2_with fail
     go_roundg (G-1)
     case measure=>have:=HG.out;omega
     case rel=>exact⟨k+1,by have:=HG.out;omega,by go_num,by rw[HST.out];exact OQ2.out⟩
  ·obtain rfl:k=ls.length:=by omega
   rw[List.take_length]at OW⊢
   obtain⟨L,hL⟩:∃L,L=ls.flatten:=⟨_,rfl⟩
   rw[<-hL]at OW hb⊢
   obtain⟨a5,c5,hv5,hrg⟩:=OW.out.rg
   simp only[Value.slice.injEq]at hv5
   obtain⟨rfl,_,rfl⟩:=hv5
   have K:=b6 (Hv a3 c3 L wr hrg (by omega))
   have HLF:=b6 hL
   clear hrg how hL
   go_wp2_with fail
   refine K.out.mono ?_
   rintro e w1 ⟨v,s,rfl,hcn,hin,ow⟩
   have O2:=b6 ow
   have HCN:=b6 hcn
   have HIN:=b6 hin
   obtain⟨a2,c2,hav⟩:=e9 ow.own
   subst hav
   clear ow hcn hin K
   go_wp2
   go_ret
   exact⟨_,s,rfl,HCN.out,by rw[<-HLF.out];exact HIN.out,⟨O2.out.own,fun g e=>Nat.le_trans OW.out.touch.size (O2.out.new g e),OW.out.touch.trans O2.out.touch iE⟩⟩
theorem U3 {P:Program}(w:World){ops:Array Oper}{o:Oper}{a:Act}{K:Act->World->Prop}{Q:Exit->Act->World->Prop}{E:Prop}(hgd:o.guard=none)(s x:Operand)(t:TypeId)
 (ho:o.op=.call {callee:=.builtin .append,args:=#[s,x],argTypes:=#[t,t]})
 (base:Nat) (e:TypeId) (i:TypeInfo) (z:Value) (size bytes:Nat) (ht:P.underlying t=some (.slice e)) (hi:P.info? e=some i) (hz:i.zero=some z)
 (hsize:i.size=size) (hby:i.bytes=bytes) (hzs:z.cells.size=size) (hsz:0<size)
 (v:Value) (n:Nat) (xs:List Value) (hs:a.eval s=v) (hown:w.ownsRow base e size v n xs)
 (ad:Addr) (m c:Nat) (news:List Value) (hx:a.eval x=.slice (some ad) m c) (hl:news.length=m*size) (hnews:∀j u,news[j]? =some u->w.cell? (ad.add j)=some u) (h1:∀u ∈ news,u.oneCell'=true)
 (h63:n+m<=maxLen) (hbytes:(n+m)*bytes<=140737488355328) (hbase:base<=w.heap.size) (H:Nat) (hH:w.heap.size=H)
 (h:∀v' w',w'.ownsRow base e size v' (n+m) (xs++news)->w.grownBy w' v.ownBlock->(v'.ownBlock=v.ownBlock∨v'.ownBlock=some H)->K (a.put o.dst v') w'):
 if Region.wanted o (yielded ops a.tmps)=true then Oper.wp P o a w K Q else E:=by
 have hw:Region.wanted o (yielded ops a.tmps)=true:=by simp[Region.wanted,hgd]
 rw[if_pos hw]
 obtain⟨v',w',hr,h2,h3,h4,h5⟩:=run_append_own_at (P:=P) w base t o.type e i z size bytes ht hi hz hsize hby hzs hsz v n xs hown ad m c news hl hnews h1 h63 hbytes hbase
 unfold Oper.wp execOp
 simp only[ho,resolve,invoke,builtin,Sem.run_bind,Sem.run_pure,Result.andThen_ok,List.map_toArray,List.map_cons,List.map_nil,hs,hx,hr]
 exact h v' w' h2 h3 (by rw[<-hH];exact h5)
theorem WB:∀x,In x [((1:Int),(9:Int))]↔(0<=x/\x<=1114111)/\In x [((5:Int),(9:Int)),(1,2),(3,4)]:=by
 intro x
 simp only[u0,W9,or_false]
 omega
theorem Bx (s:List R2)(k:Nat)(h:k<s.length):A2 (s.take (k+1))=R0 (A2 (s.take k)) s[k]:=by
 unfold A2
 rw[List.take_succ_eq_append_getElem h,List.foldl_append]
 rfl
theorem Cq (s:List R2):∀k,k<=s.length->(A2 (s.take k)).1.length<=k
 |0,_=>by simp[A2]
 |k+1,h=>by
  have:=Cq s k (by omega)
  rw[Bx s k (by omega)]
  unfold R0
  dsimp only
  split
  ·rw[List.length_append]
   simp
   omega
  ·omega
theorem JE {s:List R2}(hs:∀r ∈ s,Ap r):∀k,k<=s.length->0<=(A2 (s.take k)).2/\(A2 (s.take k)).2<=1114112
 |0,_=>by simp[A2]
 |k+1,h=>by
  rw[Bx s k (by omega)]
  have:=hs s[k] (List.getElem_mem _)
  unfold Ap at this
  unfold R0
  dsimp only
  omega
theorem TI (a:Option Addr)(cap:Nat)(s:List R2)(w:World)(hl:Rg w a s)(hs:∀r ∈ s,Ap r)(hb:s.length<=1048576):
 Calls Tryz.prog 24 #[.slice a s.length cap] w fun e w'=>∃v,e=.returned v/\E9 w w' 60 v (Ht s):=by
 obtain⟨i0,hi33,hz0,hz1,hz2⟩:=info_parts AB
 have HL:=b6 hl
 have HIN:=b6 hs
 clear hl hs
 go_enter Tryz.func24,Tryz.ntmps24
 go_wp2_with fail
 go_loopg [3,4,9] s.length (fun gk v n i wr=>∃k:Nat,k+gk=s.length/\i=.int .i64 (k:Nat)/\n=.int .i64 (A2 (s.take k)).2/\E9 w wr 60 v (A2 (s.take k)).1)
 case atStart=>exact⟨0,by omega,rfl,rfl,E9.nil _ _⟩
 case round=>
  obtain⟨k,hk,rfl,rfl,how⟩:=hrel
  have OW:=b6 how
  have HLR:=b6 (HL.out.new how.touch)
  have hlen:=Cq s k (by omega)
  have hnx:=JE HIN.out k (by omega)
  obtain⟨av,cv,hav⟩:=e9 how.own
  subst hav
  clear how
  by_cases hlt:k<s.length
  ·obtain⟨b,o,ha,hbl,hcell⟩:∃b o,a=some ⟨b,o,none⟩/\b<wr.heap.size/\∀i (h:i<s.length),wr.cell? ⟨b,o+i*2,none⟩=some (.int .i64 (s[i]).1)/\wr.cell? ⟨b,o+i*2+1,none⟩=some (.int .i64 (s[i]).2):=by
    rcases HLR.out with h|h
    ·rw[h]at hlt;simp at hlt
    ·exact h
   subst ha
   obtain⟨d0,d1⟩:=hcell k hlt
   have hri:=HIN.out s[k] (List.getElem_mem hlt)
   have NS:=b6 (Bx s k hlt)
   obtain⟨r,hr⟩:∃r,r=s[k]:=⟨_,rfl⟩
   rw[<-hr]at d0 d1 hri NS
   obtain⟨x,y⟩:=r
   unfold Ap at hri
   dsimp only at d0 d1 hri
   clear hcell hr
   obtain⟨q,hq⟩:∃q,q=A2 (s.take k):=⟨_,rfl⟩
   rw[<-hq]at OW NS hlen hnx⊢
   obtain⟨ot,n⟩:=q
   dsimp only at OW NS hlen hnx⊢
   clear hq
   obtain⟨M,hM⟩:∃M,M=ot.length:=⟨_,rfl⟩
   rw[<-hM]at OW⊢
   have HM:=b6 hM
   clear hM
   go_upto_region 6 with fail
   obtain⟨rb,hrb⟩:∃rb,rb=wr.heap.size:=⟨_,rfl⟩
   have OA:=b6 (OW.out.still ((b7.refl _ wr).alloc (.cells #[.int .i64 x,.int .i64 y] 60)))
   have RB:=b6 (show(wr.alloc (.cells #[.int .i64 x,.int .i64 y] 60)).heap[rb]? =some (.cells #[.int .i64 x,.int .i64 y] 60 (0,0))from by rw[hrb];exact Ae _ _ _)
   have HOWN:=b6 (show ∀g,(Value.slice av M cv).ownBlock=some g->g≠rb from fun g e=>by
    have:=(OW.out.own.lt g e).2
    omega)
   rw[<-hrb]
   clear hrb OW
   generalize wr.alloc (.cells #[.int .i64 x,.int .i64 y] 60)=wA at*
   have p0:=F7 RB.out
   have p1:=E2 RB.out
   clear d0 d1
   by_cases hc:n<x
   ·go_wp2_with (at_builtin;refine wpList_append_own_at _ rfl _ _ 25 rfl 0 60 i0 (.agg #[.int .i64 0,.int .i64 0]) 2 16 Tryz.underlying25 hi33 hz0 hz1 hz2 rfl (by decide) _ _ _ rfl (OA.out.own.alloc _) ⟨wA.heap.size,0,none⟩ 1 1 [.int .i64 n,.int .i64 (x-1)] rfl rfl (z7 wA [.int .i64 n,.int .i64 (x-1)] 60) (by intro u hu;simp at hu;rcases hu with rfl|rfl<;>rfl) (by unfold maxLen;omega) (by omega) (Nat.zero_le _) ?_)
    intro v' w4 hown hgrow _ hat
    have OC:=b6 (OA.out.more (xs:=[(n,x-1)]) hown hgrow hat)
    have hrbl:=lt_of_block RB.out
    have RC:=b6 (show w4.heap[rb]? =some (.cells #[.int .i64 x,.int .i64 y] 60 (0,0))from by
     rw[hgrow.block rb (by simp;omega) (fun e=>?_),Below.heap_alloc _ _ _ hrbl]
     ·exact RB.out
     ·exact HOWN.out _ e.symm rfl)
    have q1:=E2 RC.out
    clear hown hgrow hat p0 p1
    go_wp2
    go_roundg (gk-1)
    case measure=>omega
    case rel=>
     refine⟨k+1,by omega,by go_num,?_,?_⟩
     ·rw[NS.out]
      rfl
     ·rw[NS.out]
      unfold R0
      dsimp only
      rw[if_pos (by omega)]
      exact OC.out
   ·go_wp2
    go_roundg (gk-1)
    case measure=>omega
    case rel=>
     refine⟨k+1,by omega,by go_num,?_,?_⟩
     ·rw[NS.out]
      rfl
     ·rw[NS.out]
      unfold R0
      dsimp only
      rw[if_neg (by omega)]
      exact OA.out
  ·obtain rfl:k=s.length:=by omega
   rw[List.take_length]at OW hlen hnx⊢
   have NL:=b6 (show Ht s=if(A2 s).2<=1114111 then(A2 s).1++ [((A2 s).2,1114111)]else(A2 s).1 from rfl)
   obtain⟨q,hq⟩:∃q,q=A2 s:=⟨_,rfl⟩
   rw[<-hq]at OW NL hlen hnx⊢
   obtain⟨ot,n⟩:=q
   dsimp only at OW NL hlen hnx⊢
   clear hq
   obtain⟨M,hM⟩:∃M,M=ot.length:=⟨_,rfl⟩
   rw[<-hM]at OW⊢
   have HM:=b6 hM
   clear hM
   by_cases hc:n<=1114111
   ·go_wp2_with (at_builtin;refine wpList_append_own_at _ rfl _ _ 25 rfl 0 60 i0 (.agg #[.int .i64 0,.int .i64 0]) 2 16 Tryz.underlying25 hi33 hz0 hz1 hz2 rfl (by decide) _ _ _ rfl (OW.out.own.alloc _) ⟨wr.heap.size,0,none⟩ 1 1 [.int .i64 n,.int .i64 1114111] rfl rfl (z7 wr [.int .i64 n,.int .i64 1114111] 60) (by intro u hu;simp at hu;rcases hu with rfl|rfl<;>rfl) (by unfold maxLen;omega) (by omega) (Nat.zero_le _) ?_)
    intro v' w4 hown hgrow _ hat
    have OC:=b6 (OW.out.more (xs:=[(n,1114111)]) hown hgrow hat)
    have HC:=b6 hc
    clear hown hgrow hat hc
    obtain⟨a5,c5,hv5⟩:=e9 OC.out.own
    subst hv5
    go_wp2
    go_ret
    refine⟨_,rfl,?_⟩
    rw[NL.out,if_pos HC.out]
    exact OC.out
   ·have HC:=b6 hc
    clear hc
    have hc2:(1114111:Int)<n:=by have:=HC.out;omega
    go_wp2
    go_ret
    refine⟨_,rfl,?_⟩
    rw[NL.out,if_neg (by have:=HC.out;omega)]
    exact OW.out
theorem BC (a:Option Addr)(cap:Nat)(s:List R2)(w:World)(hl:Rg w a s)(hs:l9 s):
 Calls Tryz.prog 24 #[.slice a s.length cap] w fun e w'=>∃v n,e=.returned v/\l9 n/\(∀x,In x n↔(0<=x/\x<=1114111)/\¬In x s)/\E9 w w' 60 v n:=by
 refine(TI a cap s w hl hs.in_ (by have:=W7 hs;omega)).mono ?_
 rintro e w' ⟨v,rfl,ow⟩
 have h:=GD hs
 exact⟨v,Ht s,rfl,h.1,h.2,ow⟩
theorem Hs {w:World}{a:Option Addr}{c:Nat}{l:List R2}(t:TypeId)(h:Rg w a l):Ls (w.alloc (.cells #[.slice a l.length c] t)) w.heap.size [l]:=by
 refine⟨by simp,fun i hi=>?_⟩
 obtain rfl:i=0:=by simpa using hi
 refine⟨a,c,?_,h.new ((b7.refl _ w).alloc _)⟩
 rw[World.cell?_alloc_at _ _ _ _ (by simp)]
 rfl
theorem Jx {w:World}{a1 a2 a3:Option Addr}{c1 c2 c3:Nat}{l m n:List R2}(t:TypeId)(h1:Rg w a1 l)(h2:Rg w a2 m)(h3:Rg w a3 n):Ls (w.alloc (.cells #[.slice a1 l.length c1,.slice a2 m.length c2,.slice a3 n.length c3] t)) w.heap.size [l,m,n]:=by
 refine⟨by simp,fun i hi=>?_⟩
 simp only[List.length_cons,List.length_nil]at hi
 have T:=(tZ w).alloc (.cells #[.slice a1 l.length c1,.slice a2 m.length c2,.slice a3 n.length c3] t)
 match i,hi with
 |0,_=>exact⟨a1,c1,by rw[World.cell?_alloc_at _ _ _ _ (by simp)];rfl,h1.new T⟩
 |1,_=>exact⟨a2,c2,by rw[World.cell?_alloc_at _ _ _ _ (by simp)];rfl,h2.new T⟩
 |2,_=>exact⟨a3,c3,by rw[World.cell?_alloc_at _ _ _ _ (by simp)];rfl,h3.new T⟩
def lL:List R2:=Js++Jq++Jr
theorem Nr (w:World):Calls Tryz.prog 39 #[.string ⟨#[76]⟩] w fun e w'=>∃a c,e=.returned (.slice a lL.length c)/\Rg w' a lL/\b7 (fun _=>False) w w':=by
 go_enter Tryz.func39,Tryz.ntmps39
 go_wp2_with fail
 refine(Kd w).mono ?_
 rintro e w1 ⟨a1,c1,rfl,r1,t1⟩
 have R1:=b6 r1
 have T1:=b6 t1
 clear r1 t1
 go_wp2_with fail
 refine(Kb w1).mono ?_
 rintro e w2 ⟨a2,c2,rfl,r2,t2⟩
 have R2:=b6 r2
 replace R1:=b6 (R1.out.new t2)
 replace T1:=b6 (T1.out.trans t2 iE)
 clear r2 t2
 go_wp2_with fail
 refine(Kc w2).mono ?_
 rintro e w3 ⟨a3,c3,rfl,r3,t3⟩
 replace R1:=b6 (R1.out.new t3)
 replace R2:=b6 (R2.out.new t3)
 replace T1:=b6 (T1.out.trans t3 iE)
 have LS:=b6 (Jx (c1:=c1) (c2:=c2) (c3:=c3) 96 R1.out R2.out r3)
 replace T1:=b6 (T1.out.alloc (.cells #[.slice a1 Js.length c1,.slice a2 Jq.length c2,.slice a3 Jr.length c3] 96))
 clear r3 t3 R1 R2
 go_wp2_with fail
 generalize (w3.alloc (.cells #[.slice a1 Js.length c1,.slice a2 Jq.length c2,.slice a3 Jr.length c3] 96))=w4 at*
 refine(IQ w3.heap.size 3 [Js,Jq,Jr] w4 LS.out (by decide) (by decide)).mono ?_
 rintro e w5 ⟨v,rfl,ow⟩
 obtain⟨a,c,hv,hrg⟩:=ow.rg
 subst hv
 replace T1:=b6 (T1.out.trans ow.touch iE)
 have RG:=b6 hrg
 clear ow hrg LS
 go_wp2
 go_ret
 exact⟨a,c,rfl,RG.out,T1.out⟩
def Gd (c:Nat)(l:List R2)(neg:Bool):Prop:=∀w:World,Calls Tryz.prog 23 #[.int .u8 c] w fun e w'=>∃v s,e=.returned (.tuple #[v,.bool true])/\l9 s/\(∀x,In x s↔(0<=x/\x<=1114111)/\(if neg then ¬In x l else In x l))/\E9 w w' 60 v s
theorem Ru:Gd 100 Z3 false:=by
 intro w
 go_enter Tryz.func23,Tryz.ntmps23
 go_wp2_with fail
 refine(Fz w).mono ?_
 rintro e w1 ⟨a1,c1,rfl,r1,t1⟩
 have LS:=b6 (Hs (c:=c1) 96 r1)
 have T1:=b6 (t1.alloc (.cells #[.slice a1 Z3.length c1] 96))
 clear r1 t1
 go_wp2_with fail
 generalize (w1.alloc (.cells #[.slice a1 Z3.length c1] 96))=w2 at*
 refine(AR w1.heap.size 1 [Z3] w2 LS.out (by decide) (by decide)).mono ?_
 rintro e w3 ⟨v,s,rfl,hcn,hin,ow⟩
 have OW:=b6 ow
 have HCN:=b6 hcn
 have HIN:=b6 hin
 obtain⟨a,c,hv⟩:=e9 ow.own
 subst hv
 clear ow hcn hin LS
 go_wp2
 go_ret2
 exact⟨_,rfl,s,HCN.out,fun x=>by rw[HIN.out x];simp[List.flatten],⟨OW.out.own,fun g e=>Nat.le_trans T1.out.size (OW.out.new g e),T1.out.trans OW.out.touch iE⟩⟩
theorem Rv:Gd 115 Bm false:=by
 intro w
 go_enter Tryz.func23,Tryz.ntmps23
 go_wp2_with fail
 refine(KX w).mono ?_
 rintro e w1 ⟨a1,c1,rfl,r1,t1⟩
 have LS:=b6 (Hs (c:=c1) 96 r1)
 have T1:=b6 (t1.alloc (.cells #[.slice a1 Bm.length c1] 96))
 clear r1 t1
 go_wp2_with fail
 generalize (w1.alloc (.cells #[.slice a1 Bm.length c1] 96))=w2 at*
 refine(AR w1.heap.size 1 [Bm] w2 LS.out (by decide) (by decide)).mono ?_
 rintro e w3 ⟨v,s,rfl,hcn,hin,ow⟩
 have OW:=b6 ow
 have HCN:=b6 hcn
 have HIN:=b6 hin
 obtain⟨a,c,hv⟩:=e9 ow.own
 subst hv
 clear ow hcn hin LS
 go_wp2
 go_ret2
 exact⟨_,rfl,s,HCN.out,fun x=>by rw[HIN.out x];simp[List.flatten],⟨OW.out.own,fun g e=>Nat.le_trans T1.out.size (OW.out.new g e),T1.out.trans OW.out.touch iE⟩⟩
def lW:List R2:=lL++Z3++Kr
theorem Rw:Gd 119 lW false:=by
 intro w
 go_enter Tryz.func23,Tryz.ntmps23
 go_wp2_with fail
 refine(Nr w).mono ?_
 rintro e w1 ⟨a1,c1,rfl,r1,t1⟩
 have R1:=b6 r1
 have T1:=b6 t1
 clear r1 t1
 go_wp2_with fail
 refine(Fz w1).mono ?_
 rintro e w2 ⟨a2,c2,rfl,r2,t2⟩
 have R2:=b6 r2
 replace R1:=b6 (R1.out.new t2)
 replace T1:=b6 (T1.out.trans t2 iE)
 clear r2 t2
 go_wp2_with fail
 refine(Ke w2).mono ?_
 rintro e w3 ⟨a3,c3,rfl,r3,t3⟩
 replace R1:=b6 (R1.out.new t3)
 replace R2:=b6 (R2.out.new t3)
 replace T1:=b6 (T1.out.trans t3 iE)
 have LS:=b6 (Jx (c1:=c1) (c2:=c2) (c3:=c3) 96 R1.out R2.out r3)
 replace T1:=b6 (T1.out.alloc (.cells #[.slice a1 lL.length c1,.slice a2 Z3.length c2,.slice a3 Kr.length c3] 96))
 clear r3 t3 R1 R2
 go_wp2_with fail
 generalize (w3.alloc (.cells #[.slice a1 lL.length c1,.slice a2 Z3.length c2,.slice a3 Kr.length c3] 96))=w4 at*
 refine(AR w3.heap.size 3 [lL,Z3,Kr] w4 LS.out (by decide) (by decide)).mono ?_
 rintro e w5 ⟨v,s,rfl,hcn,hin,ow⟩
 have OW:=b6 ow
 have HCN:=b6 hcn
 have HIN:=b6 hin
 obtain⟨a,c,hv⟩:=e9 ow.own
 subst hv
 clear ow hcn hin LS
 go_wp2
 go_ret2
 exact⟨_,rfl,s,HCN.out,fun x=>by rw[HIN.out x];simp[List.flatten,lW],⟨OW.out.own,fun g e=>Nat.le_trans T1.out.size (OW.out.new g e),T1.out.trans OW.out.touch iE⟩⟩
theorem Vw:Gd 68 Z3 true:=by
 intro w
 have K:=b6 (Ru w)
 go_enter Tryz.func23,Tryz.ntmps23
 go_wp2_with fail
 refine K.out.mono ?_
 rintro e w1 ⟨v,s,rfl,hcn,hin,ow⟩
 obtain⟨a,c,hv,hrg⟩:=ow.rg
 subst hv
 have T1:=b6 ow.touch
 have HIN:=b6 hin
 have KN:=b6 (BC a c s w1 hrg hcn)
 clear ow hcn hin hrg K
 go_wp2_with fail
 refine KN.out.mono ?_
 rintro e w2 ⟨v,n,rfl,hcn,hin,ow⟩
 have OW:=b6 ow
 have HCN:=b6 hcn
 have HI2:=b6 hin
 obtain⟨a',c',hv⟩:=e9 ow.own
 subst hv
 clear ow hcn hin KN
 go_wp2
 go_ret2
 refine⟨_,rfl,n,HCN.out,fun x=>?_,⟨OW.out.own,fun g e=>Nat.le_trans T1.out.size (OW.out.new g e),T1.out.trans OW.out.touch iE⟩⟩
 rw[HI2.out x,HIN.out x]
 simp only[Bool.false_eq_true,if_false]
 constructor
 ·exact fun h=>⟨h.1,fun k=>h.2 ⟨h.1,k⟩⟩
 ·exact fun h=>⟨h.1,fun k=>h.2 k.2⟩
theorem Vx:Gd 83 Bm true:=by
 intro w
 have K:=b6 (Rv w)
 go_enter Tryz.func23,Tryz.ntmps23
 go_wp2_with fail
 refine K.out.mono ?_
 rintro e w1 ⟨v,s,rfl,hcn,hin,ow⟩
 obtain⟨a,c,hv,hrg⟩:=ow.rg
 subst hv
 have T1:=b6 ow.touch
 have HIN:=b6 hin
 have KN:=b6 (BC a c s w1 hrg hcn)
 clear ow hcn hin hrg K
 go_wp2_with fail
 refine KN.out.mono ?_
 rintro e w2 ⟨v,n,rfl,hcn,hin,ow⟩
 have OW:=b6 ow
 have HCN:=b6 hcn
 have HI2:=b6 hin
 obtain⟨a',c',hv⟩:=e9 ow.own
 subst hv
 clear ow hcn hin KN
 go_wp2
 go_ret2
 refine⟨_,rfl,n,HCN.out,fun x=>?_,⟨OW.out.own,fun g e=>Nat.le_trans T1.out.size (OW.out.new g e),T1.out.trans OW.out.touch iE⟩⟩
 rw[HI2.out x,HIN.out x]
 simp only[Bool.false_eq_true,if_false]
 constructor
 ·exact fun h=>⟨h.1,fun k=>h.2 ⟨h.1,k⟩⟩
 ·exact fun h=>⟨h.1,fun k=>h.2 k.2⟩
theorem Vy:Gd 87 lW true:=by
 intro w
 have K:=b6 (Rw w)
 go_enter Tryz.func23,Tryz.ntmps23
 go_wp2_with fail
 refine K.out.mono ?_
 rintro e w1 ⟨v,s,rfl,hcn,hin,ow⟩
 obtain⟨a,c,hv,hrg⟩:=ow.rg
 subst hv
 have T1:=b6 ow.touch
 have HIN:=b6 hin
 have KN:=b6 (BC a c s w1 hrg hcn)
 clear ow hcn hin hrg K
 go_wp2_with fail
 refine KN.out.mono ?_
 rintro e w2 ⟨v,n,rfl,hcn,hin,ow⟩
 have OW:=b6 ow
 have HCN:=b6 hcn
 have HI2:=b6 hin
 obtain⟨a',c',hv⟩:=e9 ow.own
 subst hv
 clear ow hcn hin KN
 go_wp2
 go_ret2
 refine⟨_,rfl,n,HCN.out,fun x=>?_,⟨OW.out.own,fun g e=>Nat.le_trans T1.out.size (OW.out.new g e),T1.out.trans OW.out.touch iE⟩⟩
 rw[HI2.out x,HIN.out x]
 simp only[Bool.false_eq_true,if_false]
 constructor
 ·exact fun h=>⟨h.1,fun k=>h.2 ⟨h.1,k⟩⟩
 ·exact fun h=>⟨h.1,fun k=>h.2 k.2⟩
end Go.Proofs.YtdhhcefmmojcmaaGreatDoor
