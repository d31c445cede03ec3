/- Texts of this proof, one behind the other. -/
import Derived.Test.YtdhhcefmmojcmaaGreatDoorYr
import Derived.Test.YtdhhcefmmojcmaaGreatDoorM25
import Derived.Test.YtdhhcefmmojcmaaGreatDoorM10
set_option maxRecDepth 100000
set_option maxHeartbeats 0
set_option linter.unusedVariables false
namespace Go.Proofs.YtdhhcefmmojcmaaGreatDoor
open Go.RowKit Go.Lib
theorem QX (a1 a2:Option Addr)(c1 c2:Nat)(w:World)(h1:Rg w a1 (s9 [(0,1114111)]))(h2:Rg w a2 (s9 [(10,10)]))(k1:(s9 [(0,1114111)]).length<=c1):
 Calls Tryz.prog 115 #[.slice a1 (s9 [(0,1114111)]).length c1,.slice a2 (s9 [(10,10)]).length c2] w fun e w'=>∃v,e=.returned v/\E9 w w' 60 v (s9 EX):=
 (OF a1 a2 c1 c2 _ _ w h1 h2 k1 (r7 _).1 (r7 _).1).mono (fun e w' ⟨v,n,g1,g2,g3,g4⟩=>⟨v,g1,by
   have:n=s9 EX:=CH g2 (fun x=>by
    rw[g3,(r7 _).2,(r7 _).2]
    unfold In EX
    simp
    omega)
   rw[<-this]
   exact g4⟩)
theorem Rp {w:World}{e:TypeId}{sz n c:Nat}{a:Option Addr}{xs:List Value}(h:w.ownsRow 0 e sz (.slice a n c) n xs):n<=c:=by
 rcases h.2 with⟨h1,h2⟩|⟨g,cap,cur,hv,hg,hh,hn,_⟩
 ·cases h1
  omega
 ·cases hv
  exact hn
theorem JR (a:Act)(w:World)(o:Oper)(x y:Operand)(ho:o.op=.store 28 x y)(q:Nat)(cs old:Array Value)(e1:a.eval x=.pointer (some ⟨q,0,none⟩))(e2:a.eval y=.agg cs)(h:w.heap[q]? =some (.cells old 28 (0,0)))(hl:cs.size=9)(hz:old.size=9)(h1:cs.all (·.oneCell')=true):
 (execOp a.eval o).run Tryz.prog w=.ok .skip (w.setRow q cs):=by
 unfold execOp
 simp only[ho,e1,e2,Instr.storeAt,Instr.sureAddr,Sem.run_bind,Sem.run_pure,Result.andThen_ok,run_storeVar_row (P:=Tryz.prog) w q 28 28 old cs h (by rw[hl];exact l7) (by rw[hl,hz]) h1]
theorem Mi {P:Program}{ops:Array Oper}{o:Oper}{a:Act}{w:World}{K:Act->World->Prop}{Q:Exit->Act->World->Prop}{E:Prop}(hw:Region.wanted o (yielded ops a.tmps)=true)(f:FuncId)(opnds:Array Operand)(ats:Array TypeId)
 (ho:o.op=.call {callee:=.value (.func f),args:=opnds,argTypes:=ats}) (vs:Array Value) (hvl:opnds.toList.map a.eval=vs.toList) (hen:∀args w,(callFunc f args).run P w=.ok (.enter f args) w)
 (R:Value->World->Prop) (hc:Calls P f vs w (fun e w'=>∃v,e=.returned v/\R v w')) (h:∀v w',R v w'->K (a.put o.dst v) w'):
 if Region.wanted o (yielded ops a.tmps)=true then Oper.wp P o a w K Q else E:=by
 rw[if_pos hw]
 have hv:opnds.map a.eval=vs:=by
  apply Array.toList_inj.1
  rw[Array.toList_map]
  exact hvl
 subst hv
 unfold Oper.wp execOp
 have e1:a.eval (Operand.func f)=.func (.func f) #[] #[]:=rfl
 simp only[ho,resolve,invoke,Sem.run_bind,Sem.run_pure,Result.andThen_ok,hen,e1,Deferred.ofValue,Array.empty_append,Array.append_empty]
 rw[Oper.upon_enter]
 refine hc.mono ?_
 rintro e w' ⟨v,rfl,hr⟩
 exact h v w' hr
theorem AllReadyH.callD {P:Program}{ops:Array Oper}{Q:Exit->Act->World->Prop}{md:Region.Mode}{S:World->Prop}{fuel:Nat}{listed:Array Bool}{a:Act}{w:World}{i:Nat}{rs:List Nat}{o:Oper}(d:Option Tmp)(ho:ops[i]? =some o)(hw:Region.wanted o (yielded ops a.tmps)=true)(f:FuncId)(opnds:Array Operand)(ats:Array TypeId)
 (hop:o.op=.call {callee:=.value (.func f),args:=opnds,argTypes:=ats}) (vs:Array Value) (hvl:opnds.toList.map a.eval=vs.toList) (hen:∀args w,(callFunc f args).run P w=.ok (.enter f args) w)
 (R:Value->World->Prop) (hc:Calls P f vs w (fun e w'=>∃v,e=.returned v/\R v w')) (hd:o.dst=d) (h:∀v w',R v w'->S w'/\wpAnyH P md ops Q S fuel (listed.setIfInBounds i true) (a.put d v) w')
 (hs:AllReadyH P md ops Q S fuel listed a w rs):AllReadyH P md ops Q S fuel listed a w (i::rs):=
 AllReadyH.cons ho (fun _ hK=>Mi hw f opnds ats hop vs hvl hen R hc (fun v w' hr=>by rw[hd];exact hK.out _ _ (h v w' hr).1 (fun _=>(h v w' hr).2))) hs
theorem PU (b:Nat)(X:Px)(k:Nat)(f:Fl)(vn:Value)(ns:List ByteArray)(op:Nat)(w:World)(h:PS w b X k f vn ns op)(hX:X.Good)(hk:k<=X.R.length)(hc:g7 X.R k=46):
 Calls Tryz.prog 95 #[.pointer (some ⟨b,0,none⟩)] w fun e w'=>U5 b X vn op (fun _=>False) w (.ok (some (.cls f (if f.s then s9 Cp else s9 EX)),⟨k+1,f,ns⟩)) e w':=by
 have TA:=b6 (((tZ w).alloc (.cells j4.zero.arr 28)).mono (S':=fun g=>g=b) nE)
 have QB:=b6 (e8 w j4.zero.arr 28)
 have HP:=b6 (h.new ((tZ w).alloc (.cells j4.zero.arr 28)))
 have hlt:=h.lt
 have hk2:k<=1024:=by have:=hX.lenR;omega
 clear h
 obtain⟨L,hL⟩:∃L,L=(if f.s=true then s9 Cp else s9 EX):=⟨_,rfl⟩
 rw[<-hL]
 have HL:=b6 hL
 clear hL
 go_enter Tryz.func95,Tryz.ntmps95
 go_upto_region 1 with fail
 unfold j4.zero j4.arr at TA QB HP
 generalize w.alloc (.cells _ 28)=w1 at*
 obtain⟨q,hq⟩:∃q,q=w.heap.size:=⟨_,rfl⟩
 have HQ:=b6 (show w.heap.size<=q/\b<q by omega)
 rw[<-hq]at QB⊢
 clear hq hlt
 have c5:=HP.out.c5
 go_wp2_with fail
 refine(s8 HP.out (by omega) 46 hc (by decide)).mono ?_
 rintro e w2 ⟨rfl,hp,tt⟩
 replace QB:=b6 ((tt.block q (lt_of_block QB.out) (fun e=>by have:=HQ.out;omega)).trans QB.out)
 replace HP:=b6 hp
 replace TA:=b6 (TA.out.trans tt iE)
 clear hp tt c5
 have K1:=b6 (J5 0 1114111 w2)
 go_wp2_with fail
 refine K1.out.mono ?_
 rintro e w3 ⟨v,rfl,ow⟩
 obtain⟨a2,c2,hv,r2⟩:=ow.slice
 subst hv
 have O6:=b6 ow.own
 have N6:=b6 (fun g e=>Nat.le_trans TA.out.size (ow.new g e))
 have R6:=b6 r2
 replace QB:=b6 ((ow.touch.block q (lt_of_block QB.out) id).trans QB.out)
 replace HP:=b6 (HP.out.new ow.touch)
 replace TA:=b6 (TA.out.trans ow.touch nE)
 have C6:=b6 (show(s9 [(0,1114111)]).length<=c2 from Rp ow.own)
 clear ow K1 r2
 have c8:=HP.out.c8
 have SW:=b6 (show w3.drew.cell? ⟨b,8,none⟩=some (.bool f.s)from c8)
 have RW:=b6 (R6.out.new ((tZ w3).drew))
 have OW:=b6 (g9 O6.out ((tZ w3).drew) iE)
 clear c8
 go_upto_region 13 with fail
 have mixed:Tryz.prog.follows Departure.mixedOrders=true:=by kernel_rfl
 refine wp_region_held (S:=fun w'=>w'.cell? ⟨b,8,none⟩=some (.bool f.s)) mixed ?_
 change wpAnyH _ _ _ _ _ _ _ _ w3.drew
 refine j3 (i:=0) (v:=.pointer (some ⟨b,0,none⟩)) (some 43) rfl (by kernel_rfl) (by kernel_rfl) (by kernel_rfl) (fun _ _ _ h=>h) (.inl ⟨by kernel_rfl,fun w' hS=>?_⟩) SW.out (by kernel_rfl) ?_
 ·go_simp
 refine j3 (i:=1) (v:=.pointer (some ⟨b,0,none⟩)) (some 44) rfl (by kernel_rfl) (by kernel_rfl) (by kernel_rfl) (fun _ _ _ h=>h) (.inl ⟨by kernel_rfl,fun w' hS=>?_⟩) SW.out (by kernel_rfl) ?_
 ·go_simp
 refine j3 (i:=2) (v:=.pointer (some ⟨b,0,none⟩)) (some 45) rfl (by kernel_rfl) (by kernel_rfl) (by kernel_rfl) (fun _ _ _ h=>h) (.inl ⟨by kernel_rfl,fun w' hS=>?_⟩) SW.out (by kernel_rfl) ?_
 ·go_simp
 refine j3 (i:=3) (v:=.pointer (some ⟨b,6,none⟩)) (some 46) rfl (by kernel_rfl) (by kernel_rfl) (by kernel_rfl) (fun _ _ _ h=>h) (.inl ⟨by kernel_rfl,fun w' hS=>?_⟩) SW.out (by kernel_rfl) ?_
 ·go_simp
 refine j3 (i:=4) (v:=.pointer (some ⟨b,8,none⟩)) (some 47) rfl (by kernel_rfl) (by kernel_rfl) (by kernel_rfl) (fun _ _ _ h=>h) (.inl ⟨by kernel_rfl,fun w' hS=>?_⟩) SW.out (by kernel_rfl) ?_
 ·go_simp
 refine j3 (i:=5) (v:=.bool f.s) (some 48) rfl (by kernel_rfl) (by kernel_rfl) (by kernel_rfl) (fun _ _ _ h=>h) (.inl ⟨by kernel_rfl,fun w' hS=>?_⟩) SW.out (by kernel_rfl) ?_
 ·go_simp
 refine j3 (i:=6) (v:=.slice a2 (s9 [(0,1114111)]).length c2) (some 49) rfl (by kernel_rfl) (by kernel_rfl) (by kernel_rfl) (fun _ _ _ h=>h) (.inl ⟨by kernel_rfl,fun w' hS=>?_⟩) SW.out (by kernel_rfl) ?_
 ·go_simp
 refine j3 (i:=7) (v:=.slice a2 (s9 [(0,1114111)]).length c2) (some 50) rfl (by kernel_rfl) (by kernel_rfl) (by kernel_rfl) (fun _ _ _ h=>h) (.inl ⟨by kernel_rfl,fun w' hS=>?_⟩) SW.out (by kernel_rfl) ?_
 ·go_simp
 refine wpAnyH_ready (rs:=[8]) (by kernel_rfl) (by simp) ?_
 refine AllReadyH.callD (some 51) rfl (by kernel_rfl) 116 _ _ rfl #[.int .i64 10] (by kernel_rfl) (fun _ _=>by kernel_rfl) (fun v w'=>E9 w3.drew w' 60 v (s9 [(10,10)])) ((M8 10 w3.drew).mono (fun e w' ⟨v,h1,h2⟩=>⟨v,h1,h2⟩)) (by kernel_rfl) ?_ AllReadyH.nil
 intro v51 w4 ow4
 obtain⟨a4,c4,hv4,r4⟩:=ow4.slice
 subst hv4
 have SW4:=b6 (show w4.cell? ⟨b,8,none⟩=some (.bool f.s)from(ow4.touch.cell (p:=⟨b,8,none⟩) HP.out.lt id).trans SW.out)
 refine⟨SW4.out,?_⟩
 have RW4:=b6 (RW.out.new ow4.touch)
 have OW4:=b6 (g9 OW.out ow4.touch iE)
 have T4:=b6 (((tZ w3).drew).trans ow4.touch iE)
 have R4:=b6 r4
 clear r4 ow4 SW RW OW
 refine wpAnyH_ready (rs:=[9]) (by kernel_rfl) (by simp) ?_
 refine AllReadyH.callD (some 52) rfl (by kernel_rfl) 115 _ _ rfl #[.slice a2 (s9 [(0,1114111)]).length c2,.slice a4 (s9 [(10,10)]).length c4] (by kernel_rfl) (fun _ _=>by kernel_rfl) (fun v w'=>E9 w4 w' 60 v (s9 EX)) ((QX a2 a4 c2 c4 w4 RW4.out R4.out C6.out).mono (fun e w' ⟨v,h1,h2⟩=>⟨v,h1,h2⟩)) (by kernel_rfl) ?_ AllReadyH.nil
 intro v52 w5 ow5
 have SW5:=b6 (show w5.cell? ⟨b,8,none⟩=some (.bool f.s)from(ow5.touch.cell (p:=⟨b,8,none⟩) (Nat.lt_of_lt_of_le HP.out.lt T4.out.size) id).trans SW4.out)
 refine⟨SW5.out,?_⟩
 have OW5:=b6 (g9 OW4.out ow5.touch iE)
 have T5:=b6 (T4.out.trans ow5.touch iE)
 have OV:=b6 ow5.own
 have NV:=b6 (fun g e=>Nat.le_trans (Nat.le_trans TA.out.size T4.out.size) (ow5.new g e))
 clear ow5 OW4 RW4 R4 SW4 T4
 refine wpAnyH_ready (rs:=[10]) (by kernel_rfl) (by simp) ?_
 refine AllReadyH.callD (some 53) rfl (by kernel_rfl) 114 _ _ rfl #[.bool f.s,.slice a2 (s9 [(0,1114111)]).length c2,v52] (by kernel_rfl) (fun _ _=>by kernel_rfl) (fun v w'=>v=(if f.s=true then .slice a2 (s9 [(0,1114111)]).length c2 else v52)/\w'=w5) ((BD f.s _ v52 w5).mono (fun e w' h=>⟨_,h.1,rfl,h.2⟩)) (by kernel_rfl) ?_ AllReadyH.nil
 rintro v53 w6 ⟨hv53,rfl⟩
 refine⟨SW5.out,?_⟩
 have OP:=b6 (show w6.ownsRow 0 60 2 v53 L.length (l4 L)from by
  rw[hv53,HL.out]
  cases f.s
  ·exact OV.out
  ·exact OW5.out)
 have NP:=b6 (show ∀g,v53.ownBlock=some g->w.heap.size<=g from by
  rw[hv53]
  cases f.s
  ·exact NV.out
  ·exact N6.out)
 clear hv53 OV OW5 NV N6 HL C6
 obtain⟨a3,c3,hv3⟩:=e9 OP.out
 subst hv3
 have HP6:=b6 (HP.out.new T5.out)
 refine wpAnyH_ready (rs:=[11]) (by kernel_rfl) (by simp) ?_
 refine AllReadyH.callD (some 54) rfl (by kernel_rfl) 110 _ _ rfl #[.pointer (some ⟨b,0,none⟩),.slice a3 L.length c3] (by kernel_rfl) (fun _ _=>by kernel_rfl) (fun v w'=>v=.agg (Y2 f.i a3 L.length c3).arr/\b7 (fun _=>False) w6 w') ((Au b X (k+1) f vn ns op a3 L.length c3 w6 HP6.out).mono (fun e w' h=>⟨_,h.1,rfl,h.2⟩)) (by kernel_rfl) ?_ AllReadyH.nil
 rintro v54 w7 ⟨rfl,t7⟩
 have SW7:=b6 (show w7.cell? ⟨b,8,none⟩=some (.bool f.s)from(t7.cell (p:=⟨b,8,none⟩) HP6.out.lt id).trans SW5.out)
 refine⟨SW7.out,?_⟩
 have T7:=b6 (T5.out.trans t7 iE)
 have HP7:=b6 (HP6.out.new t7)
 have O7:=b6 (g9 OP.out t7 iE)
 have Q7:=b6 ((T7.out.block q (lt_of_block QB.out) id).trans QB.out)
 replace TA:=b6 (TA.out.trans T7.out nE)
 clear t7 OP HP6 T5 T7 HP QB SW5
 have TR:=g8 w7 q (Y2 f.i a3 L.length c3).arr
 have QR:=setRow_heap w7 q _ (Y2 f.i a3 L.length c3).arr 28 (0,0) Q7.out
 refine wpAnyH_ready (rs:=[12]) (by kernel_rfl) (by simp) ?_
 refine AllReadyH.skip rfl (by kernel_rfl) (w7.setRow q (Y2 f.i a3 L.length c3).arr) (JR _ _ _ (.tmp 2) (.tmp 54) (by kernel_rfl) q (Y2 f.i a3 L.length c3).arr _ (by kernel_rfl) (by kernel_rfl) Q7.out rfl rfl (j4.one _)) ?_ (by kernel_rfl) ?_ AllReadyH.nil
 ·exact(TR.cell (p:=⟨b,8,none⟩) HP7.out.lt (fun e=>by have:=HQ.out;simp only at e;omega)).trans SW7.out
 refine wpAnyH_ready (rs:=[13]) (by kernel_rfl) (by simp) ?_
 refine AllReadyH.runD (some 3) rfl (by kernel_rfl) (.bool true) (w7.setRow q (Y2 f.i a3 L.length c3).arr) (by go_simp) ((TR.cell (p:=⟨b,8,none⟩) HP7.out.lt (fun e=>by have:=HQ.out;simp only at e;omega)).trans SW7.out) (by kernel_rfl) ?_ AllReadyH.nil
 refine wpAnyH_done (by kernel_rfl) ?_ _
 simp only[Act.put,List.setIfInBounds_toArray,List.set_cons_succ,List.set_cons_zero]
 have O8:=g9 O7.out TR (fun g e s=>by
  subst s
  obtain⟨cs,fr,hh⟩:=j5 O7.out g e
  rw[Q7.out]at hh
  cases hh)
 have H8:=b6 (HP7.out.row (cs:=(Y2 f.i a3 L.length c3).arr) HQ.out.2 Q7.out)
 have T8:=b6 (TA.out.trans TR (fun i hi e=>by have:=HQ.out;omega))
 have X8:=b6 (Hf (f:=f) (B:=fun g=>w.heap.size<=g/\g<(w7.setRow q (Y2 f.i a3 L.length c3).arr).heap.size) O8 (fun g e=>⟨NP.out g e,by obtain⟨cs,fr,hh⟩:=j5 O8 g e;exact lt_of_block hh⟩))
 generalize w7.setRow q (Y2 f.i a3 L.length c3).arr=w8 at*
 clear O7 Q7 HP7 O8 NP
 go_wp2
 refine bodyPost_ret (l8 rfl _ _ q 28 _ (0,0) _ rfl QR Tryz.underlying28 rfl (by kernel_rfl)) rfl ?_
 exact⟨Y2 f.i a3 L.length c3,vn,rfl,X8.out.more (fun g e=>.inr e),H8.out,.inl rfl,T8.out.mono (fun _ _ e=>.inl e)⟩
structure FR (lo:Nat)(w:World)(v:Value)(cs:List j4)(l:List Nd):Prop where
 own:CL w v cs
 new:∀g,v.ownBlock=some g->lo<=g
 len:cs.length=l.length
 tn:∀(i:Nat) (c:j4) (x:Nd),cs[i]? =some c->l[i]? =some x->TN w (fun g=>(lo<=g/\g<w.heap.size)/\v.ownBlock≠some g) c x
theorem FR.nil (lo:Nat)(w:World):FR lo w (.slice none 0 0) [] []:=⟨He w,fun g e=>by(cases e),rfl,fun i c x e=>by simp at e⟩
theorem FR.kept {lo:Nat}{w w':World}{v:Value}{cs:List j4}{l:List Nd}{S:Nat->Prop}(h:FR lo w v cs l)(t:b7 S w w')(hS:∀g,S g->NT w g):FR lo w' v cs l:=
 ⟨g9 h.own t (fun g e s=>by obtain⟨cs,fr,hh⟩:=j5 h.own g e;exact(hS g s _ _ _ hh).2 rfl),h.new,h.len,
   fun i c x e1 e2=>((h.tn i c x e1 e2).kept t (fun g _ s=>hS g s)).more (fun g e=>⟨⟨e.1.1,Nat.lt_of_lt_of_le e.1.2 t.size⟩,e.2⟩)⟩
theorem FR.still {lo:Nat}{w w':World}{v:Value}{cs:List j4}{l:List Nd}(h:FR lo w v cs l)(t:b7 (fun _=>False) w w'):FR lo w' v cs l:=h.kept t (fun _ e=>e.elim)
theorem FR.lt {lo:Nat}{w:World}{v:Value}{cs:List j4}{l:List Nd}(h:FR lo w v cs l){g:Nat}(e:v.ownBlock=some g):g<w.heap.size:=by
 obtain⟨cs,fr,hh⟩:=j5 h.own g e
 exact lt_of_block hh
theorem FR.push {lo:Nat}{w w4:World}{v v':Value}{cs:List j4}{l:List Nd}{c:j4}{x:Nd}{B:Nat->Prop}{o:Obj}(h:FR lo w v cs l)(hx:TN w B c x)(hB:∀g,B g->(lo<=g/\g<w.heap.size)/\v.ownBlock≠some g)(hlo:lo<=w.heap.size)
 (hown:w4.ownsRow 0 28 9 v' (cs.length+1) (cs.flatMap j4.list++c.list)) (hg:(w.alloc o).grownBy w4 v.ownBlock) (hat:v'.ownBlock=v.ownBlock∨v'.ownBlock=some (w.heap.size+1)):FR lo w4 v' (cs++ [c]) (l++ [x])/\b7 (fun g=>v.ownBlock=some g) w w4:=by
 have TG:b7 (fun k=>v.ownBlock=some k) w w4:=b7.grown ((b7.refl _ w).alloc o) hg (fun k e _=>e)
 have hm:∀g,(lo<=g/\g<w.heap.size)/\v.ownBlock≠some g->(lo<=g/\g<w4.heap.size)/\v'.ownBlock≠some g:=fun g e=>⟨⟨e.1.1,Nat.lt_of_lt_of_le e.1.2 TG.size⟩,fun e2=>by
  rcases hat with e3|e3
  ·exact e.2 (by rw[<-e3];exact e2)
  ·rw[e3]at e2
   cases e2
   omega⟩
 refine⟨⟨?_,fun g e=>?_,by rw[List.length_append,List.length_append,h.len];rfl,fun i c' x' e1 e2=>?_⟩,TG⟩
 ·unfold CL
  rw[List.length_append,List.flatMap_append]
  simpa using hown
 ·rcases hat with e2|e2
  ·exact h.new g (by rw[<-e2];exact e)
  ·rw[e2]at e
   cases e
   omega
 ·rcases Nat.lt_or_ge i cs.length with hi|hi
  ·rw[List.getElem?_append_left hi]at e1
   rw[List.getElem?_append_left (by rw[<-h.len];exact hi)]at e2
   exact((h.tn i c' x' e1 e2).kept TG (fun g e s=>absurd s e.2)).more hm
  ·rw[List.getElem?_append_right hi]at e1
   rw[List.getElem?_append_right (by rw[<-h.len];exact hi),<-h.len]at e2
   generalize i-cs.length=j at*
   match j with
   |0=>
    cases e1
    cases e2
    exact(hx.kept TG (fun g e s=>absurd s (hB g e).2)).more (fun g e=>hm g (hB g e))
   |j+1=>cases e1
theorem FR.all {lo:Nat}{w:World}{v:Value}{cs:List j4}{l:List Nd}(h:FR lo w v cs l)(kind:Int):
 Calls Tryz.prog 70 #[.int .i64 kind,v] w fun e w'=>∃c,e=.returned (.agg c.arr)/\TN w' (fun g=>lo<=g/\g<w'.heap.size) c (Z0 kind l)/\b7 (fun _=>False) w w':=
 (Ir kind v cs l (fun g=>lo<=g/\g<w.heap.size) w h.own (fun g e=>⟨h.new g e,h.lt e⟩) h.len (fun i c x e1 e2=>(h.tn i c x e1 e2).more (fun _ e=>e.1))).mono (fun _ _ ⟨c,h1,h2,h3⟩=>⟨c,h1,h2.more (fun _ e=>⟨e.1,Nat.lt_of_lt_of_le e.2 h3.size⟩),h3⟩)
def Kv (b:Nat)(X:Px)(op:Nat):Option A8->Prop
 |none=>op=32
 |some alt=>op<=31/\Ah X.R alt/\Kq X.R alt/\Ny b X (op+1) alt
theorem Kv.fwd {b:Nat}{X:Px}{op:Nat}{sub:Option A8}(h:Kv b X op sub):∀f,sub=some f->Ah X.R f:=fun f e=>by subst e;exact h.2.1
theorem Kv.grw {b:Nat}{X:Px}{op:Nat}{sub:Option A8}(h:Kv b X op sub):∀f,sub=some f->Kq X.R f:=fun f e=>by subst e;exact h.2.2.1
theorem Wx (b:Nat)(X:Px)(op:Nat)(hX:X.Good):Wa b X op:=fun w k f vn ns h hk=>Oh b X k f vn ns op w h hX hk
theorem Nt {neg:Bool}{r:PR (List R2×Nat)}{l:List R2}{k:Nat}(h:Bn neg r=.ok (l,k)):s9 l=l:=by
 match r,h with
 | .ok (m,k2),h=>
   cases h
   cases neg
   ·exact Ut m
   ·exact Cj m
theorem Qd {R:List Int}{tab:List (ByteArray×List R2)}{op k k1:Nat}{l:List R2}(h:E0 R tab op k=.ok (l,k1)):s9 l=l:=by
 unfold E0 at h
 split at h
 ·exact Nt h
 ·exact Nt h
theorem PT (b:Nat)(X:Px)(k:Nat)(f:Fl)(vn:Value)(ns:List ByteArray)(op:Nat)(sub:Option A8)(w:World)(h:PS w b X k f vn ns op)(hX:X.Good)(hk:k<X.R.length)(hN:ns.length<=k+1)(hs:Kv b X op sub):
 Calls Tryz.prog 95 #[.pointer (some ⟨b,0,none⟩)] w fun e w'=>U5 b X vn op (fun _=>False) w (F9 X.R b8 sub ⟨k,f,ns⟩) e w':=by
 have hx:g7 X.R k≠ -1:=by
  rw[P8 hk]
  have:=(hX.nonneg _ (List.getElem_mem hk)).1
  omega
 have hk':k<=X.R.length:=by omega
 unfold F9 Bt
 simp only
 by_cases h40:g7 X.R k=40
 ·rw[if_pos h40]
  refine KU _ b X k f vn ns op w h hX hk' h40 (fun w' hp=>?_)
  match sub,hs with
  |none,hs=>
   obtain rfl:op=32:=hs
   exact Lb b X k f vn ns 32 w' hp hX hk
  |some alt,hs=>
   obtain⟨h1,h2,_,h3⟩:=hs
   exact NF b X k f vn ns op alt w' hp hX hk h1 hN h2 h3 (Jh b X op alt hX h1 h2 h3 (Wx b X op hX))
 rw[if_neg h40]
 by_cases h91:g7 X.R k=91
 ·rw[if_pos h91]
  have:=Kz b X k f vn ns op w h hX hk' h91
  cases hc:E0 X.R b8 k (k+1)with
  |error e=>rw[hc]at this;exact this
  |ok p=>
   obtain⟨l,k1⟩:=p
   rw[hc]at this
   have e:SC f ns (.ok (l,k1))=FW ⟨k,f,ns⟩ (.ok (l,k1)):=by
    unfold SC FW
    simp only
    rw[Qd hc]
   rw[<-e]
   exact this
 rw[if_neg h91]
 by_cases h92:g7 X.R k=92
 ·rw[if_pos h92]
  exact IF b X k f vn ns op w h hX hk' h92
 rw[if_neg h92]
 by_cases h46:g7 X.R k=46
 ·rw[if_pos h46]
  exact PU b X k f vn ns op w h hX hk' h46
 rw[if_neg h46]
 by_cases h94:g7 X.R k=94
 ·rw[if_pos h94]
  exact Ky b X k f vn ns op w h hX hk' h94
 rw[if_neg h94]
 by_cases h36:g7 X.R k=36
 ·rw[if_pos h36]
  exact IE b X k f vn ns op w h hX hk' h36
 rw[if_neg h36]
 exact PV b X k f vn ns op w h hX hk' _ rfl hx h40 h91 h92 h46 h94 h36
end Go.Proofs.YtdhhcefmmojcmaaGreatDoor
