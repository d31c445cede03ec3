/- Texts of this proof, one behind the other. -/
import Derived.Test.YtdhhcefmmojcmaaGreatDoorM13
import Derived.Test.YtdhhcefmmojcmaaGreatDoorM5
import Derived.Test.YtdhhcefmmojcmaaGreatDoorM12
import Derived.Test.YtdhhcefmmojcmaaGreatDoorM4
set_option maxRecDepth 100000
set_option maxHeartbeats 0
set_option linter.unusedVariables false
namespace Go.Proofs.YtdhhcefmmojcmaaGreatDoor
open Go.RowKit Go.Lib
theorem Dv:(Tryz.prog.info? 87).map (fun i=>(i.zero,i.size,i.bytes))=some (some (.agg #[.int .i64 0,.int .i64 0]),2,16):=by kernel_rfl
theorem CY (w:World)(ty:TypeId)(v:Value)(n:Nat)(xs:List Value)(hown:w.ownsRow 0 87 2 v n xs)(a:Option Addr)(c:Nat):
 (Builtin.append_ #[84,84] ty #[v,.slice a 0 c]).run Tryz.prog w=.ok v w:=by
 obtain⟨i0,hin,hz0,hz1,hz2⟩:=info_parts Dv
 have hld:∀ad,(loadCells ad 0).run Tryz.prog w=.ok #[] w:=fun ad=>rfl
 rcases hown.2 with⟨rfl,rfl⟩|⟨g,cap,cur,rfl,hbg,hg,hnc,hcm,hcs,htake⟩<;>cases a<;>
  simp[Builtin.append_,run_underlying Tryz.underlying84,sizeOf,typeInfo,Builtin.lenOf,Builtin.firstCells,storeCells, *]
theorem El (w:World)(ty:TypeId)(v:Value)(n:Nat)(xs:List Value)(hown:w.ownsRow 0 87 2 v n xs)(a:Option Addr)(c:Nat)(l:List R2)(hl:Rg w a l)(hb:(n+l.length)*16<=140737488355328):
 ∃v' w',(Builtin.append_ #[84,84] ty #[v,.slice a l.length c]).run Tryz.prog w=.ok v' w'/\w'.ownsRow 0 87 2 v' (n+l.length) (xs++l4 l)/\w.grownBy w' v.ownBlock/\(v'.ownBlock=v.ownBlock∨v'.ownBlock=some w.heap.size):=by
 obtain⟨i0,hin,hz0,hz1,hz2⟩:=info_parts Dv
 rcases hl with rfl|⟨b,o,rfl,_,hc⟩
 ·refine⟨v,w,CY w ty v n xs hown a c,?_,⟨rfl,rfl,rfl,Nat.le_refl _,fun _ _ _=>rfl⟩,.inl rfl⟩
  rw[show l4 []=[]from rfl,List.append_nil]
  exact hown
 ·obtain⟨v',w',h1,h2,h3,_,h4⟩:=run_append_own_at (P:=Tryz.prog) w 0 84 ty 87 i0 (.agg #[.int .i64 0,.int .i64 0]) 2 16 Tryz.underlying84 hin hz0 hz1 hz2 rfl (by decide) v n xs hown ⟨b,o,none⟩ l.length c (l4 l) (D9 l) (BG hc) (AE l) (by unfold maxLen;omega) hb (Nat.zero_le _)
  exact⟨v',w',h1,h2,h3,h4⟩
theorem Ao (w:World){ops:Array Oper}{rest:List Oper}{o:Oper}{a:Act}{Q:Exit->Act->World->Prop}(hgd:o.guard=none)(s x:Operand)
 (ho:o.op=.call {callee:=.builtin .append,args:=#[s,x],argTypes:=#[84,84]})
 (v:Value) (n:Nat) (xs:List Value) (hs:a.eval s=v) (hown:w.ownsRow 0 87 2 v n xs) (ad:Option Addr) (c:Nat) (l:List R2) (hx:a.eval x=.slice ad l.length c) (hl:Rg w ad l) (hb:(n+l.length)*16<=140737488355328)
 (h:∀v' w',w'.ownsRow 0 87 2 v' (n+l.length) (xs++l4 l)->w.grownBy w' v.ownBlock->(v'.ownBlock=v.ownBlock∨v'.ownBlock=some w.heap.size)->wpList Tryz.prog ops Q rest (a.put o.dst v') w'):wpList Tryz.prog ops Q (o::rest) a w:=by
 refine wpList_plain hgd fun K hK=>?_
 obtain⟨v',w',hr,h2,h3,h4⟩:=El w o.type v n xs hown ad c l hl hb
 unfold Oper.wp execOp
 simp only[ho,resolve,invoke,builtin,Sem.run_bind,Sem.run_pure,Result.andThen_ok,List.map_toArray,List.map_cons,List.map_nil,hs,hx,hr]
 exact hK _ _ (h v' w' h2 h3 h4)
theorem E9.on {W0 wr w1:World}{e:TypeId}{v v':Value}{s xs:List R2}(h:E9 W0 wr e v s)(hown:w1.ownsRow 0 e 2 v' (s.length+xs.length) (l4 s++l4 xs))(hg:wr.grownBy w1 v.ownBlock)(hat:v'.ownBlock=v.ownBlock∨v'.ownBlock=some wr.heap.size):E9 W0 w1 e v' (s++xs):=by
 refine⟨?_,fun g hg'=>?_,h.touch.grown hg (fun k e hk=>by have:=h.new k e;omega)⟩
 ·rw[List.length_append,y8]
  exact hown
 ·rcases hat with e|e
  ·exact h.new g (by rw[<-e];exact hg')
  ·rw[e]at hg'
   simp at hg'
   have:=h.touch.size
   omega
theorem E9.last {W0 wr:World}{e:TypeId}{v:Value}{s0:List R2}{t1 t2:Int}(h:E9 W0 wr e v (s0++ [(t1,t2)])):∃g cap,v=.slice (some ⟨g,0,none⟩) (s0.length+1) cap/\wr.cell? ⟨g,s0.length*2+1,none⟩=some (.int .i64 t2)/\wr.frozen? ⟨g,s0.length*2+1,none⟩=false/\g<wr.heap.size:=by
 have hl:(s0++ [(t1,t2)]).length=s0.length+1:=by simp
 rcases h.own.2 with⟨_,h0⟩|⟨g,cap,cur,hv,hg,hh,rest⟩
 ·omega
 ·refine⟨g,cap,by rw[hv,hl],?_,by simp[World.frozen?,hh],lt_of_block hh⟩
  have:=h.own.cells (g:=g) (by rw[hv];rfl) (s0.length*2+1) (.int .i64 t2) (by
   have:=I3 (s0++ [(t1,t2)]) s0.length (by simp)
   rw[show 2*s0.length+1=s0.length*2+1 by omega]at this
   simpa using this)
  rwa [Ai]at this
theorem E9.set {W0 wr:World}{e:TypeId}{g n cap:Nat}{s0:List R2}{t1 t2:Int}(h:E9 W0 wr e (.slice (some ⟨g,0,none⟩) n cap) (s0++ [(t1,t2)]))(hn:n=(s0++ [(t1,t2)]).length)(y:Int):E9 W0 (wr.setCell ⟨g,s0.length*2+1,none⟩ (.int .i64 y)) e (.slice (some ⟨g,0,none⟩) n cap) (s0++ [(t1,y)]):=by
 subst hn
 refine⟨?_,h.new,h.touch.setCell (p:=⟨g,_,none⟩) (fun hlt=>by have:=h.new g rfl;simp at hlt;omega) _⟩
 have:=Hx h.own (s0.length*2+1) (.int .i64 y)
 have e:(l4 (s0++ [(t1,t2)])).set (s0.length*2+1) (.int .i64 y)=l4 (s0++ [(t1,y)]):=by
  rw[y8,y8,List.set_append_right _ _ (by rw[D9];omega),D9]
  rw[show s0.length*2+1-s0.length*2=1 by omega]
  rfl
 rw[e]at this
 simpa using this
theorem Ea.top {l:List R2}{e:List Int}(h:Ea l e)(m:Nat)(n:Int)(hm:e[m]? =some n):∀d i a,i+d=m->e[i]? =some a->a<=n
 |0,i,a,hi,ha=>by
  obtain rfl:i=m:=by omega
  rw[hm]at ha
  simp at ha
  omega
 |d+1,i,a,hi,ha=>by
  have hlt:m<e.length:=by
   rcases Nat.lt_or_ge m e.length with k|k
   ·exact k
   ·rw[List.getElem?_eq_none k]at hm;cases hm
  have hb:e[i+1]? =some (e[i+1]'(by omega)):=List.getElem?_eq_getElem (by omega)
  have h1:=(h.up i _ _ ha hb).1
  have h2:=h.top m n hm d (i+1) _ (by omega) hb
  omega
def Kp (m0 m1 m2 m3 A B:Bool):Bool:=if A then(if B then m3 else m1)else(if B then m2 else m0)
def Ch (m0 m1 m2 m3:Bool)(a b:List R2)(x:Int):Prop:=Kp m0 m1 m2 m3 (s7 x a) (s7 x b)=true
theorem PK (o:List R2)(a b:Int):(Kx o a b).length<=o.length+1:=by
 rcases List.eq_nil_or_concat o with e|⟨o0,t,e⟩
 ·subst e;simp[Ix]
 ·rw[List.concat_eq_append]at e
  subst e
  by_cases c:t.2=a-1
  ·rw[Dn o0 t a b c];simp
  ·rw[Do o0 t a b c];simp
theorem CS {w:World}{b k:Nat}{E:List Int}{x:Int}(h:Wb w (some ⟨b,0,none⟩) E)(hx:E[k]? =some x):w.cell? ⟨b,k,none⟩=some (.int .i64 x):=by
 obtain⟨b2,hb,_,hc⟩:=h
 simp only[Option.some.injEq,Addr.mk.injEq,and_true]at hb
 subst hb
 have hlt:k<E.length:=by
  rcases Nat.lt_or_ge k E.length with q|q
  ·exact q
  ·rw[List.getElem?_eq_none q]at hx;cases hx
 rw[List.getElem?_eq_getElem hlt]at hx
 rw[hc k hlt,Option.some.inj hx]
theorem Gh (a1 a2:Option Addr)(c1 c2:Nat)(a b:List R2)(m0 m1 m2 m3:Bool)(w:World)(h1:Rg w a1 a)(h2:Rg w a2 b)(hb:a.length+b.length<=4194304):
 Calls Tryz.prog 134 #[.slice a1 a.length c1,.slice a2 b.length c2,.agg #[.bool m0,.bool m1,.bool m2,.bool m3]] w fun e w'=>∃v n,e=.returned v/\l9 n/\(∀x,In x n↔(0<=x/\x<=1114111)/\Ch m0 m1 m2 m3 a b x)/\E9 w w' 87 v n:=by
 obtain⟨j0,hi47,hy0,hy1,hy2⟩:=info_parts Dv
 obtain⟨i0,hi3,hz0,hz1,hz2⟩:=info_parts Uv
 have H1:=b6 h1
 have H2:=b6 h2
 clear h1 h2
 go_enter Tryz.func134,Tryz.ntmps134
 go_upto_region 2 with fail
 have TA:=b6 ((tZ w).alloc (.cells #[.bool m0,.bool m1,.bool m2,.bool m3] 22))
 have WC:=b6 (show(w.alloc (.cells #[.bool m0,.bool m1,.bool m2,.bool m3] 22)).heap[w.heap.size]? =some (.cells #[.bool m0,.bool m1,.bool m2,.bool m3] 22 (0,0))from by show(w.heap.push _)[_]? =_;simp)
 generalize hB:w.heap.size=wb
 rw[hB]at WC
 have HWB:=b6 hB
 clear hB
 generalize (w.alloc (.cells #[.bool m0,.bool m1,.bool m2,.bool m3] 22))=wA at*
 have RA:=b6 (H1.out.new TA.out)
 have RB:=b6 (H2.out.new TA.out)
 have O0:=b6 (E9.nil wA 87)
 go_wp2_with (at_builtin;refine Ao _ rfl _ _ rfl _ 0 [] rfl O0.out.own a1 c1 a rfl RA.out (by omega) ?_)
 intro v1 wB hown hgrow hat
 have OB:=b6 (show E9 wA wB 87 v1 a from O0.out.on (by show wB.ownsRow 0 87 2 v1 (0+a.length) _;rw[Nat.zero_add];exact hown) hgrow hat)
 obtain⟨av1,cv1,hv1⟩:=e9 OB.out.own
 subst hv1
 clear hown hgrow hat O0
 go_wp2_with (at_builtin;refine Ao _ rfl _ _ rfl _ _ _ rfl OB.out.own a2 c2 b rfl (RB.out.new OB.out.touch) (by omega) ?_)
 intro v2 wC hown hgrow hat
 have OC:=b6 (show E9 wA wC 87 v2 (a++b)from OB.out.on hown hgrow hat)
 clear hown hgrow hat OB
 have hul:(a++b).length=a.length+b.length:=List.length_append
 obtain⟨u,hu⟩:∃u,u=a++b:=⟨_,rfl⟩
 rw[<-hu]at OC hul
 have HU:=b6 hu
 clear hu
 obtain⟨au,cu,hv,hrg⟩:=OC.out.rg
 subst hv
 have TC:=b6 (TA.out.trans OC.out.touch iE)
 have TAC:=b6 OC.out.touch
 have K:=b6 (Oa au cu u wC hrg (by omega))
 clear hrg OC hul
 go_wp2_with fail
 refine K.out.mono ?_
 rintro e wD ⟨v,es,rfl,hne,hel,hed,owi⟩
 have OI:=b6 owi
 have HED:=b6 hed
 obtain⟨ae,ce,hve,ige⟩:=owi.ig hne
 subst hve
 obtain⟨abe,rfl,_,_⟩:=ige
 have HNE:=b6 hne
 clear owi hed K hne
 go_wp2_with (at_builtin;refine wpList_append_own_at _ rfl _ _ 56 rfl 0 3 i0 (.int .i64 0) 1 8 Tryz.underlying56 hi3 hz0 hz1 hz2 rfl (by decide) _ _ _ rfl (OI.out.own.alloc _) ⟨wD.heap.size,0,none⟩ 1 1 [.int .i64 1114112] rfl rfl (z7 wD [.int .i64 1114112] 3) (by intro u hu;simp at hu;subst hu;rfl) (by unfold maxLen;omega) (by omega) (Nat.zero_le _) ?_)
 intro v' wE hown hgrow _ hat
 have OJ:=b6 (OI.out.more hown hgrow hat)
 clear hown hgrow hat
 have hEl:(es++ [1114112]).length=es.length+1:=by simp
 obtain⟨E,hE⟩:∃E,E=es++ [1114112]:=⟨_,rfl⟩
 rw[<-hE]at OJ HED hEl
 have HLST:=b6 (show E[es.length]? =some 1114112 by rw[hE];simp)
 have hE0:E≠ []:=by rw[hE];simp
 obtain⟨aE,cE,hvE,igE⟩:=OJ.out.ig hE0
 subst hvE
 have IGE:=b6 igE
 have TE:=b6 (TC.out.trans OJ.out.touch iE)
 have TAE:=b6 (TAC.out.trans OJ.out.touch iE)
 have RAE:=b6 (RA.out.new TAE.out)
 have RBE:=b6 (RB.out.new TAE.out)
 have hElb:E.length<=1114113:=by omega
 have WCE:=b6 (show wE.heap[wb]? =some (.cells #[.bool m0,.bool m1,.bool m2,.bool m3] 22 (0,0))from(TAE.out.block wb (lt_of_block WC.out) id).trans WC.out)
 have HEL:=b6 hEl
 clear hE hE0 igE OJ OI RA RB WC HNE hEl
 go_wp2_with fail
 go_loopg [9,10] es.length (fun gk v i wr=>∃(k:Nat) (o:List R2) (x:Int),k+gk=es.length/\i=.int .i64 (k:Nat)/\E[k]? =some x/\o.length<=k/\FS o x (Ch m0 m1 m2 m3 a b)/\E9 wE wr 87 v o)
 case atStart=>exact⟨0,[],0,by omega,rfl,HED.out.zero,Nat.le_refl _,FS.start _,E9.nil _ _⟩
 case round=>
  obtain⟨k,o,x,hk,rfl,hx,hol,hup,how⟩:=hrel
  have HUP:=b6 hup
  have OW:=b6 how
  have HX:=b6 hx
  obtain⟨av,cv,hav⟩:=e9 how.own
  subst hav
  clear hup how hx
  by_cases hlt:k<es.length
  ·have hEl:=HEL.out
   obtain⟨Y,hY⟩:∃Y,E[k+1]? =some Y:=⟨E[k+1]'(by omega),List.getElem?_eq_getElem (by omega)⟩
   have HY:=b6 hY
   have hxy:=HED.out.up k x Y HX.out HY.out
   have HFL:=b6 hxy.2
   have hxy1:=hxy.1
   have hx0:=HED.out.low k x HX.out
   have hYt:Y<=1114112:=HED.out.top es.length 1114112 HLST.out (es.length-(k+1)) (k+1) Y (by omega) HY.out
   obtain⟨bE,rfl,hbE,hcE⟩:=IGE.out.new OW.out.touch
   have e0:=hcE k (by omega)
   have e1:=hcE (k+1) (by omega)
   rw[show E[k]'(by omega)=x by have:=HX.out;rw[List.getElem?_eq_getElem (by omega)]at this;exact Option.some.inj this]at e0
   rw[show E[k+1]'(by omega)=Y by have:=HY.out;rw[List.getElem?_eq_getElem (by omega)]at this;exact Option.some.inj this]at e1
   have KA:=b6 (fun(wq:World) (tq:b7 (fun _=>False) wE wq)=>QL a1 c1 a x wq (RAE.out.new tq) (by omega))
   have KB:=b6 (fun(wq:World) (tq:b7 (fun _=>False) wE wq)=>QL a2 c2 b x wq (RBE.out.new tq) (by omega))
   have HPA:=b6 (show ∀q,x<=q->q<Y->(Ch m0 m1 m2 m3 a b q↔Ch m0 m1 m2 m3 a b x)from fun q q1 q2=>by
    have f:=HFL.out
    rw[HU.out]at f
    have ea:s7 q a=s7 x a:=by rw[Bool.eq_iff_iff,u7,u7];exact f.left.in_ q1 q2
    have eb:s7 q b=s7 x b:=by rw[Bool.eq_iff_iff,u7,u7];exact f.right.in_ q1 q2
    unfold Ch
    rw[ea,eb])
   have HW:=b6 (show Ch m0 m1 m2 m3 a b x↔Kp m0 m1 m2 m3 (s7 x a) (s7 x b)=true from Iff.rfl)
   generalize s7 x a=A at KA HW
   generalize s7 x b=B at KB HW
   clear hY hxy hcE
   have WCR:=b6 (show wr.heap[wb]? =some (.cells #[.bool m0,.bool m1,.bool m2,.bool m3] 22 (0,0))from(OW.out.touch.block wb (lt_of_block WCE.out) id).trans WCE.out)
   have hkE:((k:Int)+1)<(E.length:Int):=by omega
   have hkE0:(k:Int)<(E.length:Int):=by omega
   clear hEl
   obtain⟨M,hM⟩:∃M,M=Kp m0 m1 m2 m3 A B:=⟨_,rfl⟩
   rw[<-hM]at HW
   go_upto_region 11 with fail
   go_cut [36] (fun v wd=>v=.bool A/\b7 (fun _=>False) wr wd)
   case first=>
    go_wp2_with fail
    refine(KA.out wr OW.out.touch).mono ?_
    rintro e w1 ⟨rfl,t1⟩
    have T1:=b6 t1
    clear t1
    go_wp2
    go_meet
    case rel=>exact⟨rfl,T1.out⟩
   obtain⟨rfl,t1⟩:=hcut
   have T1:=b6 t1
   clear t1
   obtain⟨ka,hka⟩:∃ka:Nat,ka=if A then 1 else 0:=⟨_,rfl⟩
   have hka1:ka<=1:=by rw[hka];split<;>omega
   have HKA:=b6 hka
   clear hka
   go_upto_if 36 with fail
   go_cut [11] (fun v wd=>v=.int .i64 (ka:Nat)/\wc=wd)
   case first=>
    cases A
    ·have hk0:ka=0:=HKA.out
     subst hk0
     go_wp2
     go_meet
     case rel=>exact⟨rfl,rfl⟩
    ·have hk0:ka=1:=HKA.out
     subst hk0
     go_wp2
     go_meet
     case rel=>exact⟨rfl,rfl⟩
   obtain⟨rfl,rfl⟩:=hcut
   clear e0 e1
   have e0:=CS (IGE.out.new (OW.out.touch.trans T1.out iE)) HX.out
   go_upto_region 13 with fail
   go_cut [44] (fun v wd=>v=.bool B/\b7 (fun _=>False) wc wd)
   case first=>
    go_wp2_with fail
    refine(KB.out wc (OW.out.touch.trans T1.out iE)).mono ?_
    rintro e w1 ⟨rfl,t1⟩
    have T2:=b6 t1
    clear t1
    go_wp2
    go_meet
    case rel=>exact⟨rfl,T2.out⟩
   obtain⟨rfl,t2⟩:=hcut
   have T2:=b6 (T1.out.trans t2 iE)
   clear t2 e0
   obtain⟨kk,hkk⟩:∃kk:Nat,kk=ka+(if B then 2 else 0):=⟨_,rfl⟩
   have HKK:=b6 hkk
   have hkk3:kk<4:=by rw[hkk];split<;>omega
   have HCM:=b6 (show #[Value.bool m0,.bool m1,.bool m2,.bool m3][kk]? =some (.bool M)by
    rw[hkk,HKA.out,hM]
    cases A<;>cases B<;>rfl)
   clear hkk
   go_upto_if 44 with fail
   go_cut [11] (fun v wd=>v=.int .i64 (kk:Nat)/\wc=wd)
   case first=>
    cases B
    ·have hk0:kk=ka:=HKK.out
     subst hk0
     go_wp2
     go_meet
     case rel=>exact⟨rfl,rfl⟩
    ·have hk0:kk=ka+2:=HKK.out
     subst hk0
     go_wp2
     go_meet
     case rel=>exact⟨by go_num,rfl⟩
   obtain⟨rfl,rfl⟩:=hcut
   clear hM
   have f0:wc.cell? ⟨wb,kk,none⟩=some (.bool M):=by
    have hbk:wc.heap[wb]? =_:=(T2.out.block wb (lt_of_block WCR.out) id).trans WCR.out
    unfold World.cell?
    rw[hbk]
    exact HCM.out
   have OX:=b6 (OW.out.still T2.out)
   have hkkI:(kk:Int)<4:=by omega
   have e0:=CS (IGE.out.new OX.out.touch) HX.out
   have e1:=CS (IGE.out.new OX.out.touch) HY.out
   clear OW T1 T2
   cases M
   ·go_wp2_with fail
    go_roundg (gk-1)
    case measure=>omega
    case rel=>exact⟨k+1,o,Y,by omega,by go_num,HY.out,by omega,HUP.out.skip hxy1 (fun q q1 q2 hq=>by have:=HW.out.1 ((HPA.out q q1 q2).1 hq);cases this),OX.out⟩
   ·have HTK:=b6 (HUP.out.take (by omega) hxy1 hYt (fun q q1 q2=>(HPA.out q q1 q2).2 (HW.out.2 rfl)))
    have hal:=PK o x Y
    rcases List.eq_nil_or_concat o with ho0|⟨o0,tt,ho0⟩
    ·subst ho0
     simp only[List.length_nil]
     go_upto_region 17 with fail
     go_cut [68] (fun v wd=>v=.bool false/\b7 (fun _=>False) wc wd)
     case first=>
      go_quiet (fail)
      go_wp2
      go_meet
      case rel=>exact⟨rfl,(b7.refl _ _).drewN _⟩
     obtain⟨rfl,tc⟩:=hcut
     have OY:=b6 (OX.out.still tc)
     clear tc e0 e1 f0
     have e0:=CS (IGE.out.new OY.out.touch) HX.out
     have e1:=CS (IGE.out.new OY.out.touch) HY.out
     go_wp2_with fail
     have hw1:IntKind.i64.wrap ((k:Int)+1)=(k:Int)+1:=by rw[IntKind.wrap_i64];omega
     have hw2:IntKind.i64.wrap (Y-1)=Y-1:=by rw[IntKind.wrap_i64];omega
     have hw3:((k:Int)+1).toNat=k+1:=by omega
     have hw4:0<=(k:Int)+1:=by omega
     go_region_law ((refine U3 _ (by rfl) _ _ _ (by rfl) 0 87 j0 _ 2 16 Tryz.underlying84 hi47 hy0 hy1 hy2 rfl (by decide) _ _ _ (by rfl) ((OY.out.own.alloc _).drew) ⟨wc.heap.size,0,none⟩ 1 1 [.int .i64 x,.int .i64 (Y-1)] (by rfl) (by rfl) (z7 wc [.int .i64 x,.int .i64 (Y-1)] 87) (by intro u hu;simp at hu;rcases hu with rfl|rfl<;>rfl) (by unfold maxLen;omega) (by omega) (Nat.zero_le _) (wc.heap.size+1) (by simp) ?_;intro v' w4 hown hgrow hat))
     all_goals
      have OC:=b6 (OY.out.more (xs:=[(x,Y-1)]) hown ⟨hgrow.os,hgrow.tape,hgrow.output,hgrow.size,hgrow.block⟩ hat)
      clear hown hgrow hat hw1 hw2 hw3 hw4
      go_wp2
      go_roundg (gk-1)
      case measure=>omega
      case rel=>exact⟨k+1,[(x,Y-1)],Y,by omega,by go_num,HY.out,by simp,HTK.out,OC.out⟩
    ·rw[List.concat_eq_append]at ho0
     obtain⟨t1,t2⟩:=tt
     subst ho0
     have ht:=HUP.out.canon.in_ (t1,t2) (by simp)
     have ht2:0<=t2/\t2<=1114111:=by unfold Ap at ht;dsimp only at ht;omega
     obtain⟨m,hm⟩:∃m,m=o0.length:=⟨_,rfl⟩
     have HMM:=b6 hm
     have hol2:(o0++ [(t1,t2)]).length=m+1:=by rw[hm];simp
     rw[hol2]at OX hol hal⊢
     obtain⟨g,cap2,hv,g0,gf,hgl⟩:=OX.out.last
     rw[<-hm]at g0 gf hv
     simp only[Value.slice.injEq]at hv
     obtain⟨rfl,_,rfl⟩:=hv
     clear ht hm hol2
     by_cases hj:t2=x-1
     ·have hjd:(t2==x-1)=true:=beq_iff_eq.2 hj
      have hjd2:decide (t2=x-1)=true:=decide_eq_true hj
      have HJ:=b6 hj
      clear hj
      go_upto_region 17 with fail
      go_cut [68] (fun v wd=>v=.bool true/\b7 (fun _=>False) wc wd)
      case first=>
       go_quiet (fail)
       go_wp2
       go_meet
       case rel=>exact⟨by first|rfl|rw[hjd]|rw[hjd2],(b7.refl _ _).drewN _⟩
      obtain⟨rfl,tc⟩:=hcut
      have OY:=b6 (OX.out.still tc)
      clear tc e0 e1 f0 g0 gf hgl hjd hjd2
      have e0:=CS (IGE.out.new OY.out.touch) HX.out
      have e1:=CS (IGE.out.new OY.out.touch) HY.out
      obtain⟨g',cap3,hv3,k0,kf,hgl2⟩:=OY.out.last
      rw[<-HMM.out]at k0 kf hv3
      simp only[Value.slice.injEq,Option.some.injEq,Addr.mk.injEq,true_and,and_true]at hv3
      obtain⟨rfl,rfl⟩:=hv3
      have OS:=b6 (OY.out.set (by simp[HMM.out]) (Y-1))
      rw[<-HMM.out]at OS
      have HAD:=b6 (Dn o0 (t1,t2) x Y HJ.out)
      go_wp2_with fail
      go_roundg (gk-1)
      case measure=>omega
      case rel=>exact⟨k+1,o0++ [(t1,Y-1)],Y,by omega,by go_num,HY.out,by simp;have:=HMM.out;omega,by rw[<-HAD.out];exact HTK.out,OS.out⟩
     ·have hjd:(t2==x-1)=false:=by simp[hj]
      have hjd2:decide (t2=x-1)=false:=decide_eq_false hj
      have HJ:=b6 hj
      clear hj
      go_upto_region 17 with fail
      go_cut [68] (fun v wd=>v=.bool false/\b7 (fun _=>False) wc wd)
      case first=>
       go_quiet (fail)
       go_wp2
       go_meet
       case rel=>exact⟨by first|rfl|rw[hjd]|rw[hjd2],(b7.refl _ _).drewN _⟩
      obtain⟨rfl,tc⟩:=hcut
      have OY:=b6 (OX.out.still tc)
      clear tc e0 e1 f0 g0 gf hgl hjd hjd2
      have e0:=CS (IGE.out.new OY.out.touch) HX.out
      have e1:=CS (IGE.out.new OY.out.touch) HY.out
      have HAD:=b6 (Do o0 (t1,t2) x Y HJ.out)
      have OYO:=b6 OY.out.own
      rw[show(o0++ [(t1,t2)]).length=m+1 by rw[HMM.out];simp]at OYO
      go_wp2_with fail
      have hw1:IntKind.i64.wrap ((k:Int)+1)=(k:Int)+1:=by rw[IntKind.wrap_i64];omega
      have hw2:IntKind.i64.wrap (Y-1)=Y-1:=by rw[IntKind.wrap_i64];omega
      have hw3:((k:Int)+1).toNat=k+1:=by omega
      have hw4:0<=(k:Int)+1:=by omega
      go_region_law ((refine U3 _ (by rfl) _ _ _ (by rfl) 0 87 j0 _ 2 16 Tryz.underlying84 hi47 hy0 hy1 hy2 rfl (by decide) _ _ _ (by rfl) ((OYO.out.alloc _).drew) ⟨wc.heap.size,0,none⟩ 1 1 [.int .i64 x,.int .i64 (Y-1)] (by rfl) (by rfl) (z7 wc [.int .i64 x,.int .i64 (Y-1)] 87) (by intro u hu;simp at hu;rcases hu with rfl|rfl<;>rfl) (by unfold maxLen;omega) (by omega) (Nat.zero_le _) (wc.heap.size+1) (by simp) ?_;intro v' w4 hown hgrow hat))
      all_goals
       have OC:=b6 (OY.out.more (xs:=[(x,Y-1)]) (by rw[List.length_append,<-HMM.out];exact hown) ⟨hgrow.os,hgrow.tape,hgrow.output,hgrow.size,hgrow.block⟩ hat)
       clear hown hgrow hat hw1 hw2 hw3 hw4
       go_wp2
       go_roundg (gk-1)
       case measure=>omega
       case rel=>exact⟨k+1,o0++ [(t1,t2)]++ [(x,Y-1)],Y,by omega,by go_num,HY.out,by simp;have:=HMM.out;omega,by rw[<-HAD.out];exact HTK.out,OC.out⟩
  ·obtain rfl:k=es.length:=by omega
   have hx:x=1114112:=by
    have h1:=HX.out
    rw[HLST.out]at h1
    simp at h1
    omega
   subst hx
   have hEE:E.length=es.length+1:=HEL.out
   go_wp2
   go_ret
   refine⟨_,o,rfl,HUP.out.canon,fun q=>?_,⟨OW.out.own,fun g e=>Nat.le_trans TE.out.size (OW.out.new g e),TE.out.trans OW.out.touch iE⟩⟩
   rw[HUP.out.in_ q]
   constructor
   ·exact fun h=>⟨by omega,h.2⟩
   ·exact fun h=>⟨by omega,h.2⟩
structure QS (w:World)(b:Nat)(X:Px)(k:Nat)(f:Fl)(op:Nat)(vN vn:Value)(er ea:Int)(ds:List Dc)(ns:List ByteArray):Prop where
 s:DS w b X k f op vN vn er ea
 nl:NL w vN ds
 sl:SL w vn ns
 nN:∀g,vN.ownBlock=some g->b<g
 nn:∀g,vn.ownBlock=some g->b<g
def ZT (b:Nat)(vN vn:Value)(g:Nat):Prop:=g=b∨vN.ownBlock=some g∨vn.ownBlock=some g
structure GT (b:Nat)(w w':World)(vN vn vN' vn':Value):Prop where
 t:b7 (ZT b vN vn) w w'
 gN:vN'.ownBlock=vN.ownBlock∨∃g,vN'.ownBlock=some g/\w.heap.size<=g
 gn:vn'.ownBlock=vn.ownBlock∨∃g,vn'.ownBlock=some g/\w.heap.size<=g
theorem GT.refl (b:Nat)(w:World)(vN vn:Value):GT b w w vN vn vN vn:=⟨b7.refl _ _,.inl rfl,.inl rfl⟩
theorem GT.trans {b:Nat}{w w1 w2:World}{vN vn vN1 vn1 vN2 vn2:Value}(h:GT b w w1 vN vn vN1 vn1)(k:GT b w1 w2 vN1 vn1 vN2 vn2):GT b w w2 vN vn vN2 vn2:=by
 refine⟨h.t.trans k.t (fun i hi e=>?_),?_,?_⟩
 ·rcases e with e|e|e
  ·exact .inl e
  ·rcases h.gN with g|⟨g,g1,g2⟩
   ·exact .inr (.inl (by rw[<-g];exact e))
   ·rw[g1]at e
    cases e
    omega
  ·rcases h.gn with g|⟨g,g1,g2⟩
   ·exact .inr (.inr (by rw[<-g];exact e))
   ·rw[g1]at e
    cases e
    omega
 ·rcases k.gN with g|⟨g,g1,g2⟩
  ·rw[g]
   exact h.gN
  ·exact .inr ⟨g,g1,Nat.le_trans h.t.size g2⟩
 ·rcases k.gn with g|⟨g,g1,g2⟩
  ·rw[g]
   exact h.gn
  ·exact .inr ⟨g,g1,Nat.le_trans h.t.size g2⟩
theorem GT.still {b:Nat}{w w1 w2:World}{vN vn vN1 vn1:Value}(h:GT b w w1 vN vn vN1 vn1)(t:b7 (fun _=>False) w1 w2):GT b w w2 vN vn vN1 vn1:=
 h.trans ⟨t.mono nE,.inl rfl,.inl rfl⟩
theorem GT.own {b:Nat}{w w1 w2:World}{vN vn vN1 vn1:Value}(h:GT b w w1 vN vn vN1 vn1)(t:b7 (fun g=>g=b) w1 w2):GT b w w2 vN vn vN1 vn1:=
 h.trans ⟨t.mono (fun _ _ e=>.inl e),.inl rfl,.inl rfl⟩
def ND (w:World)(g:Nat):Prop:=∀cs t fr,w.heap[g]? =some (.cells cs t fr)->t≠87/\t≠3
section
variable {w w' : World} {b : Nat} {X : Px} {k k' : Nat} {f f' : Fl} {op op' : Nat} {vN vn : Value} {er ea er' ea' : Int} {ds : List Dc} {ns : List ByteArray}
theorem QS.nd (h:QS w b X k f op vN vn er ea ds ns){g:Nat}(z:ZT b vN vn g):ND w g:=by
 intro cs t fr e
 rcases z with rfl|z|z
 ·rw[h.s.cells]at e
  cases e
  decide
 ·obtain⟨cs2,fr2,hh⟩:=j5 h.nl g z
  rw[hh]at e
  cases e
  decide
 ·obtain⟨cs2,fr2,hh⟩:=j5 h.sl g z
  rw[hh]at e
  cases e
  decide
theorem QS.mv (h:QS w b X k f op vN vn er ea ds ns)(hs:DS w' b X k' f' op' vN vn er' ea')(t:b7 (fun g=>g=b) w w'):QS w' b X k' f' op' vN vn er' ea' ds ns:=
 ⟨hs,g9 h.nl t (fun g e e2=>by have:=h.nN g e;omega),g9 h.sl t (fun g e e2=>by have:=h.nn g e;omega),h.nN,h.nn⟩
theorem QS.new (h:QS w b X k f op vN vn er ea ds ns)(t:b7 (fun _=>False) w w'):QS w' b X k f op vN vn er ea ds ns:=
 h.mv (h.s.new t) (t.mono nE)
end
def IZ (w:World)(v:Value)(is:List Int):Prop:=w.ownsRow 0 3 1 v is.length (is.map fun i=>.int .i64 i)
def BV (ps:List Nat):List Int:=ps.map fun p:Nat=>(p:Int)
theorem L5 (ps:List Nat):(BV ps).length=ps.length:=by simp[BV]
def RR (w:World)(v:Value)(s:List R2):Prop:=w.ownsRow 0 87 2 v s.length (l4 s)
theorem LK (w:World):IZ w (.slice none 0 0) []:=World.ownsRow_nil _ _ _ _
theorem I5 (w:World):RR w (.slice none 0 0) []:=World.ownsRow_nil _ _ _ _
inductive DW (w:World)(B:Nat->Prop)(ds:List Dc):Nat->Nd->Prop
 |mk (p:Nat) (c:Dc) (set:List R2) (ps:List Nat) (kids:List Nd) (hp:ds[p]? =some c) (hs:RR w (.slice c.sa c.sn c.sc) set) (bs:∀g,(Value.slice c.sa c.sn c.sc).ownBlock=some g->B g) (hk:IZ w (.slice c.ka c.kn c.kc) (BV ps)) (bk:∀g,(Value.slice c.ka c.kn c.kc).ownBlock=some g->B g)
  (hl:ps.length=kids.length) (ht:∀(i:Nat) (q:Nat) (x:Nd),ps[i]? =some q->kids[i]? =some x->DW w B ds q x):DW w B ds p (.mk c.kind c.min c.max c.cap c.fold c.lazy set c.name kids)
theorem DW.kept {w w':World}{B S:Nat->Prop}{ds:List Dc}{p:Nat}{x:Nd}(h:DW w B ds p x)(tc:b7 S w w')(hS:∀g,B g->S g->ND w g):DW w' B ds p x:=by
 induction h with
 |mk p c set ps kids hp hs bs hk bk hl ht ih=>
  refine .mk p c set ps kids hp (g9 hs tc (fun g e s=>?_)) bs (g9 hk tc (fun g e s=>?_)) bk hl ih
  ·obtain⟨cs,fr,hh⟩:=j5 hs g e
   exact(hS g (bs g e) s _ _ _ hh).1 rfl
  ·obtain⟨cs,fr,hh⟩:=j5 hk g e
   exact(hS g (bk g e) s _ _ _ hh).2 rfl
theorem DW.more {w:World}{B B':Nat->Prop}{ds:List Dc}{p:Nat}{x:Nd}(h:DW w B ds p x)(hS:∀g,B g->B' g)(es:List Dc):DW w B' (ds++es) p x:=by
 induction h with
 |mk p c set ps kids hp hs bs hk bk hl ht ih=>
  refine .mk p c set ps kids ?_ hs (fun g e=>hS g (bs g e)) hk (fun g e=>hS g (bk g e)) hl ih
  rw[List.getElem?_append_left (List.getElem?_eq_some_iff.1 hp).1]
  exact hp
theorem DW.wide {w:World}{B B':Nat->Prop}{ds:List Dc}{p:Nat}{x:Nd}(h:DW w B ds p x)(hS:∀g,B g->B' g):DW w B' ds p x:=by
 have:=h.more hS []
 rw[List.append_nil]at this
 exact this
theorem DW.new {w w':World}{B:Nat->Prop}{ds:List Dc}{p:Nat}{x:Nd}(h:DW w B ds p x)(tc:b7 (fun _=>False) w w'):DW w' B ds p x:=h.kept tc nE
theorem IX (ds:List Dc)(c:Dc):(ds++ [c])[ds.length]? =some c:=by
 rw[List.getElem?_append_right (Nat.le_refl _),Nat.sub_self]
 rfl
def DP (b:Nat)(X:Px)(k:Nat)(vN vn:Value)(op:Nat)(B:Nat->Prop)(u v:Nat)(w:World)(ds:List Dc):PR (Nd×St)->Ending->World->Prop
 | .ok (x,st),e,w'=>∃(p:Nat) (vN' vn':Value) (es:List Dc),e=.returned (.int .i64 (p:Nat))/\QS w' b X st.k st.f op vN' vn' 0 0 (ds++es) st.ns/\GT b w w' vN vn vN' vn'/\DW w' (fun g=>B g∨(w.heap.size<=g/\g<w'.heap.size)) (ds++es) p x/\es.length+2*k<=2*st.k+u
 | .error (c,j),e,w'=>∃(r:Int) (f':Fl) (vN' vn':Value) (ds':List Dc) (ns':List ByteArray),e=.returned (.int .i64 r)/\QS w' b X X.R.length f' op vN' vn' (c:Nat) (g7 X.P j) ds' ns'/\GT b w w' vN vn vN' vn'/\ds'.length+2*k+v<=ds.length+2*X.R.length+4*(33-op)
theorem Ma (a:Option Addr)(c:Nat)(l:List R2)(w:World)(h:Rg w a l)(hl:l.length<=4194304):
 Calls Tryz.prog 120 #[.slice a l.length c] w fun e w'=>∃v,e=.returned v/\E9 w w' 87 v (s9 l):=by
 have K:=b6 (Gh a none c 0 l [] false true false true w h (.inl rfl) (by simp;omega))
 obtain⟨n,hn⟩:∃n,n=l.length:=⟨_,rfl⟩
 rw[<-hn]at K⊢
 have HL:=b6 (show ∀m,(∀x,In x m↔(0<=x/\x<=1114111)/\Ch false true false true l [] x)->l9 m->m=s9 l from fun m hm hc=>CH hc (fun x=>by
  rw[hm x]
  simp only[Ch,Kp]
  by_cases g:In x l<;>simp[u7,g]))
 clear hn h hl
 go_enter Tryz.func120,Tryz.ntmps120
 go_wp2_with fail
 refine K.out.mono ?_
 rintro e w1 ⟨v,m,rfl,hc,hm,ho⟩
 have HO:=b6 ho
 have HM:=b6 (HL.out m hm hc)
 clear hc hm ho K HL
 go_wp2
 go_ret
 exact⟨v,rfl,by rw[<-HM.out];exact HO.out⟩
theorem Y9 (a:Option Addr)(c:Nat)(l:List R2)(w:World)(h:Rg w a l)(hl:l.length<=4194304):
 Calls Tryz.prog 122 #[.slice a l.length c] w fun e w'=>∃v,e=.returned v/\E9 w w' 87 v (z6 l):=by
 have K:=b6 (Gh a none c 0 l [] true false true false w h (.inl rfl) (by simp;omega))
 obtain⟨n,hn⟩:∃n,n=l.length:=⟨_,rfl⟩
 rw[<-hn]at K⊢
 have HL:=b6 (show ∀m,(∀x,In x m↔(0<=x/\x<=1114111)/\Ch true false true false l [] x)->l9 m->m=z6 l from fun m hm hc=>Fg hc (fun x=>by
  rw[hm x]
  simp only[Ch,Kp]
  by_cases g:In x l<;>simp[u7,g]))
 clear hn h hl
 go_enter Tryz.func122,Tryz.ntmps122
 go_wp2_with fail
 refine K.out.mono ?_
 rintro e w1 ⟨v,m,rfl,hc,hm,ho⟩
 have HO:=b6 ho
 have HM:=b6 (HL.out m hm hc)
 clear hc hm ho K HL
 go_wp2
 go_ret
 exact⟨v,rfl,by rw[<-HM.out];exact HO.out⟩
theorem RR.dr {w w':World}{v:Value}{s:List R2}{n:Nat}(h:RR w v s)(e:w'=w.drewN n):RR w' v s:=by
 rw[e]
 exact g9 h ((tZ w).drewN n) iE
section
variable {w w' : World} {b : Nat} {X : Px} {k : Nat} {f : Fl} {op : Nat} {vN vn : Value} {er ea : Int} {ds : List Dc} {ns : List ByteArray}
theorem QS.put (h:QS w b X k f op vN vn er ea ds ns)(hn:ds.length<=4194304)(c:Dc):
 Calls Tryz.prog 77 #[.pointer (some ⟨b,0,none⟩),.agg c.arr] w fun e w'=>e=.returned (.int .i64 (ds.length:Nat))/\∃vN',QS w' b X k f op vN' vn er ea (ds++ [c]) ns/\GT b w w' vN vn vN' vn:=by
 obtain⟨a,cp,rfl⟩:=e9 h.nl
 refine(Ri b X k f op a _ cp vn er ea ds c w h.s h.nl h.nN hn).mono ?_
 rintro e w' ⟨h1,a',c',h2,h3,h4,h5⟩
 refine⟨h1,_,⟨h2,h3,?_,?_,h.nn⟩,⟨h5.mono (fun _ _ e=>e.elim .inl (fun e=>.inr (.inl e))),h4,.inl rfl⟩⟩
 ·refine g9 h.sl h5 (fun g e s=>?_)
  obtain⟨cs,fr,hh⟩:=j5 h.sl g e
  rcases s with rfl|s
  ·rw[h.s.cells]at hh
   cases hh
  ·obtain⟨cs2,fr2,hh2⟩:=j5 h.nl g s
   rw[hh2]at hh
   cases hh
 ·intro g e
  rcases h4 with e2|⟨g2,e2,e3⟩
  ·exact h.nN g (by rw[<-e2];exact e)
  ·rw[e2]at e
   cases e
   exact Nat.lt_of_lt_of_le h.s.lt e3
end
theorem DW.leaf (w:World)(B:Nat->Prop)(ds:List Dc)(kind:Int):DW w B (ds++ [⟨kind,0,0,0,none,0,0,false,false,⟨#[]⟩,none,0,0⟩]) ds.length (.border kind):=
 DW.mk ds.length ⟨kind,0,0,0,none,0,0,false,false,⟨#[]⟩,none,0,0⟩ [] [] [] (IX _ _) (I5 w) (fun g e=>by cases e) (LK w) (fun g e=>by cases e) rfl (fun i q x e=>by cases e)
def Jo (kind:Int)(a:Option Addr)(n c:Nat):Dc:=⟨kind,0,0,0,none,0,0,false,false,⟨#[]⟩,a,n,c⟩
theorem QQ (b:Nat)(kind:Int)(g c:Nat)(i:Int)(w:World)(hc:w.cell? ⟨g,0,none⟩=some (.int .i64 i)):
 Calls Tryz.prog 53 #[.pointer (some ⟨b,0,none⟩),.int .i64 kind,.slice (some ⟨g,0,none⟩) 1 c] w fun e w'=>e=.returned (.int .i64 i)/\w'=w:=by
 go_enter Tryz.func53,Tryz.ntmps53
 go_wp2
 go_ret
 exact⟨rfl,rfl⟩
theorem Ov {w:World}{b:Nat}{X:Px}{k:Nat}{f:Fl}{op:Nat}{vN vn:Value}{er ea:Int}{ds:List Dc}{ns:List ByteArray}(h:QS w b X k f op vN vn er ea ds ns)(hn:ds.length<=4194304)(kind:Int)(a:Option Addr)(c:Nat):
 Calls Tryz.prog 53 #[.pointer (some ⟨b,0,none⟩),.int .i64 kind,.slice a 0 c] w fun e w'=>e=.returned (.int .i64 (ds.length:Nat))/\∃vN',QS w' b X k f op vN' vn er ea (ds++ [Dc.zero]) ns/\GT b w w' vN vn vN' vn:=by
 have K:=b6 (h.put hn Dc.zero)
 obtain⟨n,hn⟩:∃n,n=ds.length:=⟨_,rfl⟩
 rw[<-hn]at K⊢
 unfold Dc.zero Dc.arr at K
 unfold Dc.zero
 clear h hn
 go_enter Tryz.func53,Tryz.ntmps53
 go_wp2_with fail
 refine K.out.mono ?_
 rintro e w1 ⟨rfl,vN',h1,h2⟩
 have H1:=b6 h1
 have H2:=b6 h2
 clear h1 h2 K
 go_wp2
 go_ret
 exact⟨rfl,vN',H1.out,H2.out⟩
theorem Ou {w:World}{b:Nat}{X:Px}{k:Nat}{f:Fl}{op:Nat}{vN vn:Value}{er ea:Int}{ds:List Dc}{ns:List ByteArray}(h:QS w b X k f op vN vn er ea ds ns)(hn:ds.length<=4194304)(kind:Int)(a:Option Addr)(n c:Nat)(h2:2<=n):
 Calls Tryz.prog 53 #[.pointer (some ⟨b,0,none⟩),.int .i64 kind,.slice a n c] w fun e w'=>e=.returned (.int .i64 (ds.length:Nat))/\∃vN',QS w' b X k f op vN' vn er ea (ds++ [Jo kind a n c]) ns/\GT b w w' vN vn vN' vn:=by
 have K:=b6 (h.put hn (Jo kind a n c))
 have n0:((n:Int)==0)=false:=beq_eq_false_iff_ne.2 (by omega)
 have n1:((n:Int)==1)=false:=beq_eq_false_iff_ne.2 (by omega)
 obtain⟨m,hm⟩:∃m,m=ds.length:=⟨_,rfl⟩
 rw[<-hm]at K⊢
 unfold Jo Dc.arr at K
 unfold Jo
 clear h hn hm h2
 go_enter Tryz.func53,Tryz.ntmps53
 go_wp2_with fail
 refine K.out.mono ?_
 rintro e w1 ⟨rfl,vN',h1,h2⟩
 have H1:=b6 h1
 have H2:=b6 h2
 clear h1 h2 K
 go_wp2
 go_ret
 exact⟨rfl,vN',H1.out,H2.out⟩
theorem Y7 {w:World}{b:Nat}{X:Px}{k:Nat}{f:Fl}{op:Nat}{vN vn:Value}{er ea:Int}{ds:List Dc}{ns:List ByteArray}(h:QS w b X k f op vN vn er ea ds ns)(hn:ds.length<=4194304)(kind:Int)(v:Value)(is:List Int)(hv:IZ w v is):
 Calls Tryz.prog 53 #[.pointer (some ⟨b,0,none⟩),.int .i64 kind,v] w fun e w'=>∃(r:Int) (vN':Value) (es:List Dc),e=.returned (.int .i64 r)/\QS w' b X k f op vN' vn er ea (ds++es) ns/\GT b w w' vN vn vN' vn/\es.length<=1/\(is.length=1->es=[])/\
  ∀(B:Nat->Prop) (ps:List Nat) (kids:List Nd),is=BV ps->ps.length=kids.length->(∀g,v.ownBlock=some g->B g)->(∀(i:Nat) (q:Nat) (x:Nd),ps[i]? =some q->kids[i]? =some x->DW w B ds q x)->∃p:Nat,r=(p:Int)/\DW w' B (ds++es) p (Z0 kind kids):=by
 obtain⟨a,cp,rfl⟩:=e9 hv
 have hnd:∀g,ZT b vN vn g->ND w g:=fun g z=>h.nd z
 match is,hv with
 | [],hv=>
   refine(Ov h hn kind a cp).mono ?_
   rintro e w' ⟨rfl,vN',h1,h2⟩
   refine⟨_,vN',_,rfl,h1,h2,Nat.le_refl _,fun e=>(by cases e),fun B ps kids e1 e2 hb ht=>⟨_,rfl,?_⟩⟩
   have:ps=[]:=List.eq_nil_of_length_eq_zero (by rw[<-L5,<-e1];rfl)
   subst this
   have:kids=[]:=List.eq_nil_of_length_eq_zero e2.symm
   subst this
   exact DW.leaf _ _ _ _
 | [i],hv=>
   rcases hv.2 with⟨h0,_⟩|⟨g,cap2,cur,hv2,_,hh,hrest⟩
   ·cases h0
   ·cases hv2
    have hc:w.cell? ⟨g,0,none⟩=some (.int .i64 i):=by
     have:=hv.cells (g:=g) rfl 0 (.int .i64 i) rfl
     rwa [Ai]at this
    refine(QQ b kind g cp i w hc).mono ?_
    rintro e w' ⟨rfl,rfl⟩
    refine⟨i,vN,[],rfl,by rw[List.append_nil];exact h,GT.refl _ _ _ _,Nat.zero_le _,fun _=>rfl,fun B ps kids e1 e2 hb ht=>?_⟩
    match ps,kids,e2 with
    | [p],[x],_=>
      cases e1
      refine⟨p,rfl,?_⟩
      rw[List.append_nil]
      exact ht 0 p x rfl rfl
    | [],_,_=>cases e1
    |_::_::_,_,_=>cases e1
 |i::i2::l,hv=>
  refine(Ou h hn kind a _ cp (by simp)).mono ?_
  rintro e w' ⟨rfl,vN',h1,h2⟩
  refine⟨_,vN',_,rfl,h1,h2,Nat.le_refl _,fun e=>(by simp at e),fun B ps kids e1 e2 hb ht=>⟨_,rfl,?_⟩⟩
  match kids,e2 with
  |x::y::t,e2=>
   have hl:(i::i2::l).length=(BV ps).length:=by rw[e1]
   rw[hl]at hb⊢
   rw[e1]at hv
   refine DW.mk ds.length (Jo kind a (BV ps).length cp) [] ps (x::y::t) (IX _ _) (I5 w') (fun g e=>by cases e) ?_ hb e2 (fun j q x hq hx=>?_)
   ·refine g9 hv h2.t (fun g e s=>?_)
    obtain⟨cs,fr,hh⟩:=j5 hv g e
    exact(hnd g s _ _ _ hh).2 rfl
   ·exact((ht j q x hq hx).kept h2.t (fun g _ s=>hnd g s)).more (fun _ e=>e) _
  | [],e2=>
    have:=congrArg List.length e1
    rw[L5,e2]at this
    simp at this
  | [_],e2=>
    have:=congrArg List.length e1
    rw[L5,e2]at this
    simp at this
end Go.Proofs.YtdhhcefmmojcmaaGreatDoor
