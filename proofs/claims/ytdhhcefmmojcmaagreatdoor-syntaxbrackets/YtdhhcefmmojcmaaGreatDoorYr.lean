/- Texts of this proof, one behind the other. -/
import Derived.Test.YtdhhcefmmojcmaaGreatDoorM25
import Derived.Deep.RegionHeld3
set_option maxRecDepth 100000
set_option maxHeartbeats 0
set_option linter.unusedVariables false
namespace Go.Proofs.YtdhhcefmmojcmaaGreatDoor
open Go.RowKit Go.Lib
theorem j3 {P:Program}{ops:Array Oper}{Q:Exit->Act->World->Prop}{md:Region.Mode}{S:World->Prop}{i:Nat}{oi:Oper}{v:Value}{fuel:Nat}{listed:Array Bool}{a:Act}{w:World}(d:Option Tmp)(hi:ops[i]? =some oi)
 (hs:Region.noSelect ops=true) (hf:Region.free md ops listed i=true) (hr:(Region.ready md ops listed).contains i=true)
 (hQ:∀c a w,Q (.panic c) (a.put oi.dst v) w->Q (.panic c) a w) (hy:YieldsIf P ops S oi v a) (hS:S w) (hd:oi.dst=d)
 (h:wpAnyH P md ops Q S fuel (listed.setIfInBounds i true) (a.put d v) w):wpAnyH P md ops Q S (fuel+1) listed a w:=
 wpAnyH_take hi hs hf hr hQ hy hS (hd▸ h)
theorem AllReadyH.skip {P:Program}{ops:Array Oper}{Q:Exit->Act->World->Prop}{md:Region.Mode}{S:World->Prop}{fuel:Nat}{listed:Array Bool}{a:Act}{w:World}{i:Nat}{rs:List Nat}{o:Oper}(ho:ops[i]? =some o)(hw:Region.wanted o (yielded ops a.tmps)=true)(w':World)
 (hr:(execOp a.eval o).run P w=.ok .skip w') (hS:S w') (hd:o.dst=none) (h:wpAnyH P md ops Q S fuel (listed.setIfInBounds i true) a w')
 (hs:AllReadyH P md ops Q S fuel listed a w rs):AllReadyH P md ops Q S fuel listed a w (i::rs):=
 AllReadyH.cons ho (fun K hK=>by
  rw[if_pos hw]
  unfold Oper.wp
  rw[hr]
  refine hK.out _ _ hS (fun _=>?_)
  rw[hd]
  exact h) hs
theorem AllReadyH.runD {P:Program}{ops:Array Oper}{Q:Exit->Act->World->Prop}{md:Region.Mode}{S:World->Prop}{fuel:Nat}{listed:Array Bool}{a:Act}{w:World}{i:Nat}{rs:List Nat}{o:Oper}(d:Option Tmp)(ho:ops[i]? =some o)(hw:Region.wanted o (yielded ops a.tmps)=true)(v:Value)(w':World)
 (hr:(execOp a.eval o).run P w=.ok (.value v) w') (hS:S w') (hd:o.dst=d) (h:wpAnyH P md ops Q S fuel (listed.setIfInBounds i true) (a.put d v) w')
 (hs:AllReadyH P md ops Q S fuel listed a w rs):AllReadyH P md ops Q S fuel listed a w (i::rs):=
 AllReadyH.cons ho (fun K hK=>by
  rw[if_pos hw]
  unfold Oper.wp
  rw[hr]
  refine hK.out _ _ hS (fun _=>?_)
  rw[hd]
  exact h) hs
theorem JT (a:Act)(w:World)(o:Oper)(x y:Operand)(ho:o.op=.store 38 x y)(q:Nat)(cs old:Array Value)(e1:a.eval x=.pointer (some ⟨q,0,none⟩))(e2:a.eval y=.agg cs)(h:w.heap[q]? =some (.cells old 38 (0,0)))(hl:cs.size=4)(hz:old.size=4)(h1:cs.all (·.oneCell')=true):
 (execOp a.eval o).run Tryz.prog w=.ok .skip (w.setRow q cs):=by
 unfold execOp
 simp only[ho,e1,e2,Instr.storeAt,Instr.sureAddr,Sem.run_bind,Sem.run_pure,Result.andThen_ok,run_storeVar_row (P:=Tryz.prog) w q 38 38 old cs h (by rw[hl];exact F0) (by rw[hl,hz]) h1]
theorem Ji (ai am as_ au:Bool)(w:World):(Op.equalIn 10000 38 (.agg #[.bool ai,.bool am,.bool as_,.bool au]) (.agg #[.bool false,.bool false,.bool false,.bool false])).run Tryz.prog w=.ok (!(Fl.some ⟨ai,am,as_,au⟩)) w:=by
 cases ai<;>cases am<;>cases as_<;>cases au<;>kernel_rfl
theorem MT {R:List Int}(k:Nat)(h:k<=R.length):(C3 R 5 k x7).2<=R.length:=(Aa 5 k x7 h).2
def Xe (b:Nat)(X:Px)(f:Fl)(vn:Value)(ns:List ByteArray)(op:Nat)(w:World)(a:Fl)(A:Fl×Bool×Nat)(qr q4 q5:Nat)(u:Fl)(k:Nat)(wd:World):Prop:=
 A=(f.turn a u,a.some||u.some,k)/\PS wd b X k f vn ns op/\wd.heap[q4]? =some (.cells a.arr 38 (0,0))/\wd.heap[q5]? =some (.cells u.arr 38 (0,0))/\wd.heap[qr]? =some (.cells x7.arr 38 (0,0))/\b7 (fun g=>g=b) w wd
theorem Oh (b:Nat)(X:Px)(k:Nat)(f:Fl)(vn:Value)(ns:List ByteArray)(op:Nat)(w:World)(h:PS w b X k f vn ns op)(hX:X.Good)(hk:k<=X.R.length):
 Calls Tryz.prog 140 #[.pointer (some ⟨b,0,none⟩)] w fun e w'=>e=.returned (.tuple #[.agg (x9 X.R f k).1.arr,.bool (x9 X.R f k).2.1])/\PS w' b X (x9 X.R f k).2.2 f vn ns op/\b7 (fun g=>g=b) w w':=by
 obtain⟨A,hA⟩:∃A,A=x9 X.R f k:=⟨_,rfl⟩
 have HA:=b6 hA.symm
 rw[<-hA]
 unfold x9 at HA
 simp only at HA
 clear hA
 have HRl:=b6 hX.lenR
 have KL1:=b6 (fun w' hp=>DU b X k f vn ns op w' hp hX hk)
 have hl1:=MT k hk
 have KL2:=b6 (fun(k':Nat) (hk':k'<=X.R.length) w' hp=>DU b X k' f vn ns op w' hp hX hk')
 have HL2:=b6 (fun(k':Nat) (hk':k'<=X.R.length)=>MT k' hk')
 obtain⟨fi,fm,fs,fu⟩:=f
 have TA:=b6 ((tZ w).alloc (.cells #[.bool false,.bool false,.bool false,.bool false] 38))
 have Q1:=b6 (e8 w #[.bool false,.bool false,.bool false,.bool false] 38)
 have HP:=b6 (h.new TA.out)
 have hlt:=h.lt
 clear h hX hk
 obtain⟨⟨⟨ai,am,as_,au⟩,k1⟩,hr1⟩:∃r,r=C3 X.R 5 k x7:=⟨_,rfl⟩
 rw[<-hr1]at HA KL1 hl1
 simp only at HA KL1 hl1
 clear hr1
 have hk1:k1<=1024:=by have:=HRl.out;omega
 go_enter Tryz.func140,Tryz.ntmps140
 go_upto_region 1 with fail
 generalize w.alloc (.cells #[.bool false,.bool false,.bool false,.bool false] 38)=w1 at*
 obtain⟨qr,hqr⟩:∃q,q=w.heap.size:=⟨_,rfl⟩
 have HQ:=b6 (show w.heap.size<=qr/\b<qr from⟨by omega,by omega⟩)
 rw[<-hqr]at Q1⊢
 clear hqr hlt
 go_wp2_with fail
 refine(KL1.out _ HP.out).mono ?_
 rintro e w2 ⟨he,hp,tt⟩
 change e=.returned (.agg #[.bool ai,.bool am,.bool as_,.bool au])at he
 subst he
 have H2:=b6 hp
 have T2:=b6 ((TA.out.mono (S':=fun g=>g=b) nE).trans tt iE)
 have Q2:=b6 ((tt.block qr (lt_of_block Q1.out) (fun e=>by have:=HQ.out;omega)).trans Q1.out)
 clear hp tt KL1 HP Q1 TA
 go_upto_region 3 with(first|refine wpList_store_row rfl 38 _ _ rfl w2.heap.size _ rfl rfl 38 _ (e8 w2 _ 38) F0 (by rfl) (Fl.one ⟨ai,am,as_,au⟩) ?_|fail)
 have TA:=b6 (((tZ w2).alloc (.cells #[.bool false,.bool false,.bool false,.bool false] 38)).trans (g8 (w2.alloc (.cells #[.bool false,.bool false,.bool false,.bool false] 38)) w2.heap.size #[.bool ai,.bool am,.bool as_,.bool au]) (fun i hi e=>by omega))
 have RA:=b6 (setRow_heap (w2.alloc (.cells #[.bool false,.bool false,.bool false,.bool false] 38)) w2.heap.size _ #[.bool ai,.bool am,.bool as_,.bool au] 38 (0,0) (e8 w2 _ 38))
 have hsz:((w2.alloc (.cells #[.bool false,.bool false,.bool false,.bool false] 38)).setRow w2.heap.size #[.bool ai,.bool am,.bool as_,.bool au]).heap.size=w2.heap.size+1:=by simp
 have TB:=b6 ((tZ ((w2.alloc (.cells #[.bool false,.bool false,.bool false,.bool false] 38)).setRow w2.heap.size #[.bool ai,.bool am,.bool as_,.bool au])).alloc (.cells #[.bool false,.bool false,.bool false,.bool false] 38))
 have RB:=b6 (e8 ((w2.alloc (.cells #[.bool false,.bool false,.bool false,.bool false] 38)).setRow w2.heap.size #[.bool ai,.bool am,.bool as_,.bool au]) #[.bool false,.bool false,.bool false,.bool false] 38)
 rw[hsz]at RB
 have RA2:=b6 ((TB.out.block w2.heap.size (by rw[hsz];omega) id).trans RA.out)
 have TC:=b6 (TA.out.trans TB.out iE)
 obtain⟨q4,hq4⟩:∃q,q=w2.heap.size:=⟨_,rfl⟩
 obtain⟨q5,hq5⟩:∃q,q=w2.heap.size+1:=⟨_,rfl⟩
 have HQ4:=b6 (show qr<q4/\q4<q5 from⟨by rw[hq4];exact lt_of_block Q2.out,by omega⟩)
 have e1:q4+1=q5:=by omega
 rw[<-hq5]at RB
 rw[<-hq4]at RB RA2 TC⊢
 simp only[e1]
 have H3:=b6 (H2.out.new TC.out)
 have T3:=b6 (T2.out.trans TC.out nE)
 have Q3:=b6 ((TC.out.block qr (lt_of_block Q2.out) id).trans Q2.out)
 clear TA RA TB hsz hq4 hq5 e1 TC H2 T2 Q2
 generalize ((w2.alloc (.cells #[.bool false,.bool false,.bool false,.bool false] 38)).setRow q4 #[.bool ai,.bool am,.bool as_,.bool au]).alloc (.cells #[.bool false,.bool false,.bool false,.bool false] 38)=w3 at*
 have KT:=b6 (show Calls Tryz.prog 69 #[.pointer (some ⟨b,0,none⟩),.string ⟨#[45]⟩] w3 fun e w'=>e=.returned (.bool (decide (g7 X.R k1=45)))/\PS w' b X (if g7 X.R k1=45 then k1+1 else k1) ⟨fi,fm,fs,fu⟩ vn ns op/\b7 (fun g=>g=b) w3 w' from by
  by_cases h45:g7 X.R k1=45
  ·rw[if_pos h45,decide_eq_true h45]
   exact o7 45 H3.out (by omega) h45
  ·rw[if_neg h45,decide_eq_false h45]
   exact o6 45 H3.out (by omega) h45)
 obtain⟨B,hB⟩:∃B,B=decide (g7 X.R k1=45):=⟨_,rfl⟩
 rw[<-hB]at KT
 have HB:=b6 hB
 clear hB
 go_wp2_with fail
 refine KT.out.mono ?_
 rintro e w4 ⟨rfl,hp,tt⟩
 have H4:=b6 hp
 have T4:=b6 (T3.out.trans tt iE)
 have Q4:=b6 ((tt.block qr (lt_of_block Q3.out) (fun e=>by have:=HQ.out;omega)).trans Q3.out)
 have A4:=b6 ((tt.block q4 (lt_of_block RA2.out) (fun e=>by have:=HQ.out;have:=HQ4.out;omega)).trans RA2.out)
 have B4:=b6 ((tt.block q5 (lt_of_block RB.out) (fun e=>by have:=HQ.out;have:=HQ4.out;omega)).trans RB.out)
 clear hp tt KT H3 T3 Q3 RA2 RB
 go_upto_if 11 with fail
 go_cut [] (fun wd=>∃(u:Fl) (k9:Nat),Xe b X ⟨fi,fm,fs,fu⟩ vn ns op w ⟨ai,am,as_,au⟩ A qr q4 q5 u k9 wd)
 case first=>
  cases B with
  |false=>
   have h45:¬g7 X.R k1=45:=of_decide_eq_false HB.out.symm
   rw[if_neg h45]at HA H4
   go_wp2_with fail
   go_meet
   exact⟨x7,k1,by rw[<-HA.out];simp[x7,Fl.some,Fl.turn],H4.out,A4.out,B4.out,Q4.out,T4.out⟩
  |true=>
   have h45:g7 X.R k1=45:=of_decide_eq_true HB.out.symm
   rw[if_pos h45]at HA H4
   have hk2:k1+1<=X.R.length:=j9 h45 (by decide)
   obtain⟨⟨⟨ui,um,us,uu⟩,k2⟩,hr2⟩:∃r,r=C3 X.R 5 (k1+1) x7:=⟨_,rfl⟩
   have KL3:=b6 (KL2.out (k1+1) hk2 _ H4.out)
   rw[<-hr2]at HA KL3
   clear hr2 KL2 HL2
   go_wp2_with fail
   refine KL3.out.mono ?_
   rintro e w5 ⟨he,hp,tt⟩
   change e=.returned (.agg #[.bool ui,.bool um,.bool us,.bool uu])at he
   subst he
   have H5:=b6 hp
   have T5:=b6 (T4.out.trans tt iE)
   have Q5:=b6 ((tt.block qr (lt_of_block Q4.out) (fun e=>by have:=HQ.out;omega)).trans Q4.out)
   have A5:=b6 ((tt.block q4 (lt_of_block A4.out) (fun e=>by have:=HQ.out;have:=HQ4.out;omega)).trans A4.out)
   have B5:=b6 ((tt.block q5 (lt_of_block B4.out) (fun e=>by have:=HQ.out;have:=HQ4.out;omega)).trans B4.out)
   clear hp tt KL3 H4 T4 Q4 A4 B4
   go_wp2_with (first|refine wpList_store_row rfl 38 _ _ rfl q5 _ rfl rfl 38 _ B5.out F0 (by rfl) (Fl.one ⟨ui,um,us,uu⟩) ?_|fail)
   go_meet
   have TR:=g8 w5 q5 #[.bool ui,.bool um,.bool us,.bool uu]
   refine⟨⟨ui,um,us,uu⟩,k2,HA.out.symm,H5.out.row4 (by have:=HQ.out;have:=HQ4.out;omega) B5.out,(TR.block q4 (lt_of_block A5.out) (fun e=>by have:=HQ4.out;omega)).trans A5.out,setRow_heap w5 q5 _ _ 38 (0,0) B5.out,(TR.block qr (lt_of_block Q5.out) (fun e=>by have:=HQ4.out;omega)).trans Q5.out,T5.out.trans TR (fun i hi e=>by have:=HQ.out;have:=HQ4.out;omega)⟩
 case rest=>
  obtain⟨⟨ui,um,us,uu⟩,k9,hA9,hp,a4,b4,r4,t4⟩:=hcut
  have H9:=b6 hp
  have A9:=b6 a4
  have B9:=b6 b4
  have Q9:=b6 r4
  have T9:=b6 t4
  have HA9:=b6 hA9
  clear hp a4 b4 r4 t4 hA9 H4 T4 Q4 A4 B4 HA HB KL2 HL2 hl1
  generalize wc=w9 at*
  have z0:w9.cell? ⟨q4,0,none⟩=some (.bool ai):=by unfold World.cell?;rw[A9.out];rfl
  have z1:w9.cell? ⟨q4,1,none⟩=some (.bool am):=by unfold World.cell?;rw[A9.out];rfl
  have z2:w9.cell? ⟨q4,2,none⟩=some (.bool as_):=by unfold World.cell?;rw[A9.out];rfl
  have z3:w9.cell? ⟨q4,3,none⟩=some (.bool au):=by unfold World.cell?;rw[A9.out];rfl
  have y0:w9.cell? ⟨q5,0,none⟩=some (.bool ui):=by unfold World.cell?;rw[B9.out];rfl
  have y1:w9.cell? ⟨q5,1,none⟩=some (.bool um):=by unfold World.cell?;rw[B9.out];rfl
  have y2:w9.cell? ⟨q5,2,none⟩=some (.bool us):=by unfold World.cell?;rw[B9.out];rfl
  have y3:w9.cell? ⟨q5,3,none⟩=some (.bool uu):=by unfold World.cell?;rw[B9.out];rfl
  obtain⟨⟨c6,c7,c8,c9⟩,f6,f7,f8,f9⟩:=H9.out.c69
  dsimp only at c6 c7 c8 c9
  clear f6 f7 f8 f9
  have ea:=Ji ai am as_ au
  have eb:=Ji ui um us uu
  obtain⟨sa,hsa⟩:∃s,s=Fl.some ⟨ai,am,as_,au⟩:=⟨_,rfl⟩
  obtain⟨su,hsu⟩:∃s,s=Fl.some ⟨ui,um,us,uu⟩:=⟨_,rfl⟩
  rw[<-hsa]at ea HA9
  rw[<-hsu]at eb HA9
  clear hsa hsu
  have mixed:Tryz.prog.follows Departure.mixedOrders=true:=by kernel_rfl
  have SW:=b6 (show(w9.drew.cell? ⟨q4,0,none⟩=some (.bool ai)/\w9.drew.cell? ⟨q4,1,none⟩=some (.bool am)/\w9.drew.cell? ⟨q4,2,none⟩=some (.bool as_)/\w9.drew.cell? ⟨q4,3,none⟩=some (.bool au)/\w9.drew.cell? ⟨q5,0,none⟩=some (.bool ui)/\w9.drew.cell? ⟨q5,1,none⟩=some (.bool um)/\w9.drew.cell? ⟨q5,2,none⟩=some (.bool us)/\w9.drew.cell? ⟨q5,3,none⟩=some (.bool uu)/\w9.drew.cell? ⟨b,6,none⟩=some (.bool fi)/\w9.drew.cell? ⟨b,7,none⟩=some (.bool fm)/\w9.drew.cell? ⟨b,8,none⟩=some (.bool fs)/\w9.drew.cell? ⟨b,9,none⟩=some (.bool fu))from⟨z0,z1,z2,z3,y0,y1,y2,y3,c6,c7,c8,c9⟩)
  clear z0 z1 z2 z3 y0 y1 y2 y3 c6 c7 c8 c9
  go_upto_region 5 with fail
  dsimp only[List.append]
  refine wp_region_held (S:=fun w'=>w'.cell? ⟨q4,0,none⟩=some (.bool ai)/\w'.cell? ⟨q4,1,none⟩=some (.bool am)/\w'.cell? ⟨q4,2,none⟩=some (.bool as_)/\w'.cell? ⟨q4,3,none⟩=some (.bool au)/\w'.cell? ⟨q5,0,none⟩=some (.bool ui)/\w'.cell? ⟨q5,1,none⟩=some (.bool um)/\w'.cell? ⟨q5,2,none⟩=some (.bool us)/\w'.cell? ⟨q5,3,none⟩=some (.bool uu)/\w'.cell? ⟨b,6,none⟩=some (.bool fi)/\w'.cell? ⟨b,7,none⟩=some (.bool fm)/\w'.cell? ⟨b,8,none⟩=some (.bool fs)/\w'.cell? ⟨b,9,none⟩=some (.bool fu)) mixed ?_
  change wpAnyH _ _ _ _ _ _ _ _ w9.drew
  refine j3 (i:=0) (v:=.pointer (some ⟨b,0,none⟩)) (some 14) rfl (by kernel_rfl) (by kernel_rfl) (by kernel_rfl) (fun _ _ _ h=>h) ?_ SW.out (by kernel_rfl) ?_
  ·refine .inl ⟨by kernel_rfl,fun w' hS=>?_⟩
   obtain⟨z0,z1,z2,z3,y0,y1,y2,y3,c6,c7,c8,c9⟩:=hS
   go_simp
  refine j3 (i:=1) (v:=.pointer (some ⟨b,0,none⟩)) (some 15) rfl (by kernel_rfl) (by kernel_rfl) (by kernel_rfl) (fun _ _ _ h=>h) ?_ SW.out (by kernel_rfl) ?_
  ·refine .inl ⟨by kernel_rfl,fun w' hS=>?_⟩
   obtain⟨z0,z1,z2,z3,y0,y1,y2,y3,c6,c7,c8,c9⟩:=hS
   go_simp
  refine j3 (i:=2) (v:=.pointer (some ⟨b,6,none⟩)) (some 16) rfl (by kernel_rfl) (by kernel_rfl) (by kernel_rfl) (fun _ _ _ h=>h) ?_ SW.out (by kernel_rfl) ?_
  ·refine .inl ⟨by kernel_rfl,fun w' hS=>?_⟩
   obtain⟨z0,z1,z2,z3,y0,y1,y2,y3,c6,c7,c8,c9⟩:=hS
   go_simp
  refine j3 (i:=3) (v:=.pointer (some ⟨b,6,none⟩)) (some 17) rfl (by kernel_rfl) (by kernel_rfl) (by kernel_rfl) (fun _ _ _ h=>h) ?_ SW.out (by kernel_rfl) ?_
  ·refine .inl ⟨by kernel_rfl,fun w' hS=>?_⟩
   obtain⟨z0,z1,z2,z3,y0,y1,y2,y3,c6,c7,c8,c9⟩:=hS
   go_simp
  refine j3 (i:=4) (v:=.bool fi) (some 18) rfl (by kernel_rfl) (by kernel_rfl) (by kernel_rfl) (fun _ _ _ h=>h) ?_ SW.out (by kernel_rfl) ?_
  ·refine .inl ⟨by kernel_rfl,fun w' hS=>?_⟩
   obtain⟨z0,z1,z2,z3,y0,y1,y2,y3,c6,c7,c8,c9⟩:=hS
   go_simp
  refine j3 (i:=5) (v:=.bool fi) (some 19) rfl (by kernel_rfl) (by kernel_rfl) (by kernel_rfl) (fun _ _ _ h=>h) ?_ SW.out (by kernel_rfl) ?_
  ·refine .inl ⟨by kernel_rfl,fun w' hS=>?_⟩
   obtain⟨z0,z1,z2,z3,y0,y1,y2,y3,c6,c7,c8,c9⟩:=hS
   go_simp
  refine j3 (i:=6) (v:=(if fi then undef else .pointer (some ⟨q4,0,none⟩))) (some 20) rfl (by kernel_rfl) (by kernel_rfl) (by kernel_rfl) (fun _ _ _ h=>h) ?_ SW.out (by kernel_rfl) ?_
  ·cases fi
   ·refine .inl ⟨by kernel_rfl,fun w' hS=>?_⟩
    obtain⟨z0,z1,z2,z3,y0,y1,y2,y3,c6,c7,c8,c9⟩:=hS
    go_simp
   ·exact .inr ⟨by kernel_rfl,rfl⟩
  refine j3 (i:=7) (v:=(if fi then undef else .bool ai)) (some 21) rfl (by kernel_rfl) (by kernel_rfl) (by kernel_rfl) (fun _ _ _ h=>h) ?_ SW.out (by kernel_rfl) ?_
  ·cases fi
   ·refine .inl ⟨by kernel_rfl,fun w' hS=>?_⟩
    obtain⟨z0,z1,z2,z3,y0,y1,y2,y3,c6,c7,c8,c9⟩:=hS
    go_simp
   ·exact .inr ⟨by kernel_rfl,rfl⟩
  refine j3 (i:=8) (v:=.bool (fi||ai)) (some 22) rfl (by kernel_rfl) (by kernel_rfl) (by kernel_rfl) (fun _ _ _ h=>h) ?_ SW.out (by kernel_rfl) ?_
  ·refine .inl ⟨by cases fi<;>kernel_rfl,fun w' hS=>?_⟩
   clear hS
   cases fi<;>go_simp
  refine j3 (i:=9) (v:=.bool (fi||ai)) (some 23) rfl (by kernel_rfl) (by kernel_rfl) (by kernel_rfl) (fun _ _ _ h=>h) ?_ SW.out (by kernel_rfl) ?_
  ·refine .inl ⟨by kernel_rfl,fun w' hS=>?_⟩
   obtain⟨z0,z1,z2,z3,y0,y1,y2,y3,c6,c7,c8,c9⟩:=hS
   go_simp
  refine j3 (i:=10) (v:=(if(fi||ai)then .pointer (some ⟨q5,0,none⟩)else undef)) (some 24) rfl (by kernel_rfl) (by kernel_rfl) (by kernel_rfl) (fun _ _ _ h=>h) ?_ SW.out (by kernel_rfl) ?_
  ·generalize (fi||ai)=t at*
   cases t
   ·exact .inr ⟨by kernel_rfl,rfl⟩
   ·refine .inl ⟨by kernel_rfl,fun w' hS=>?_⟩
    obtain⟨z0,z1,z2,z3,y0,y1,y2,y3,c6,c7,c8,c9⟩:=hS
    go_simp
  refine j3 (i:=11) (v:=(if(fi||ai)then .bool ui else undef)) (some 25) rfl (by kernel_rfl) (by kernel_rfl) (by kernel_rfl) (fun _ _ _ h=>h) ?_ SW.out (by kernel_rfl) ?_
  ·generalize (fi||ai)=t at*
   cases t
   ·exact .inr ⟨by kernel_rfl,rfl⟩
   ·refine .inl ⟨by kernel_rfl,fun w' hS=>?_⟩
    obtain⟨z0,z1,z2,z3,y0,y1,y2,y3,c6,c7,c8,c9⟩:=hS
    go_simp
  refine j3 (i:=12) (v:=(if(fi||ai)then .bool (!ui)else undef)) (some 26) rfl (by kernel_rfl) (by kernel_rfl) (by kernel_rfl) (fun _ _ _ h=>h) ?_ SW.out (by kernel_rfl) ?_
  ·generalize (fi||ai)=t at*
   cases t
   ·exact .inr ⟨by kernel_rfl,rfl⟩
   ·refine .inl ⟨by kernel_rfl,fun w' hS=>?_⟩
    obtain⟨z0,z1,z2,z3,y0,y1,y2,y3,c6,c7,c8,c9⟩:=hS
    go_simp
  refine j3 (i:=13) (v:=.bool ((fi||ai)&& !ui)) (some 27) rfl (by kernel_rfl) (by kernel_rfl) (by kernel_rfl) (fun _ _ _ h=>h) ?_ SW.out (by kernel_rfl) ?_
  ·generalize (fi||ai)=t at*
   refine .inl ⟨by cases t<;>kernel_rfl,fun w' hS=>?_⟩
   clear hS
   cases t<;>go_simp
  refine j3 (i:=14) (v:=.pointer (some ⟨b,0,none⟩)) (some 28) rfl (by kernel_rfl) (by kernel_rfl) (by kernel_rfl) (fun _ _ _ h=>h) ?_ SW.out (by kernel_rfl) ?_
  ·refine .inl ⟨by kernel_rfl,fun w' hS=>?_⟩
   obtain⟨z0,z1,z2,z3,y0,y1,y2,y3,c6,c7,c8,c9⟩:=hS
   go_simp
  refine j3 (i:=15) (v:=.pointer (some ⟨b,0,none⟩)) (some 29) rfl (by kernel_rfl) (by kernel_rfl) (by kernel_rfl) (fun _ _ _ h=>h) ?_ SW.out (by kernel_rfl) ?_
  ·refine .inl ⟨by kernel_rfl,fun w' hS=>?_⟩
   obtain⟨z0,z1,z2,z3,y0,y1,y2,y3,c6,c7,c8,c9⟩:=hS
   go_simp
  refine j3 (i:=16) (v:=.pointer (some ⟨b,6,none⟩)) (some 30) rfl (by kernel_rfl) (by kernel_rfl) (by kernel_rfl) (fun _ _ _ h=>h) ?_ SW.out (by kernel_rfl) ?_
  ·refine .inl ⟨by kernel_rfl,fun w' hS=>?_⟩
   obtain⟨z0,z1,z2,z3,y0,y1,y2,y3,c6,c7,c8,c9⟩:=hS
   go_simp
  refine j3 (i:=17) (v:=.pointer (some ⟨b,7,none⟩)) (some 31) rfl (by kernel_rfl) (by kernel_rfl) (by kernel_rfl) (fun _ _ _ h=>h) ?_ SW.out (by kernel_rfl) ?_
  ·refine .inl ⟨by kernel_rfl,fun w' hS=>?_⟩
   obtain⟨z0,z1,z2,z3,y0,y1,y2,y3,c6,c7,c8,c9⟩:=hS
   go_simp
  refine j3 (i:=18) (v:=.bool fm) (some 32) rfl (by kernel_rfl) (by kernel_rfl) (by kernel_rfl) (fun _ _ _ h=>h) ?_ SW.out (by kernel_rfl) ?_
  ·refine .inl ⟨by kernel_rfl,fun w' hS=>?_⟩
   obtain⟨z0,z1,z2,z3,y0,y1,y2,y3,c6,c7,c8,c9⟩:=hS
   go_simp
  refine j3 (i:=19) (v:=.bool fm) (some 33) rfl (by kernel_rfl) (by kernel_rfl) (by kernel_rfl) (fun _ _ _ h=>h) ?_ SW.out (by kernel_rfl) ?_
  ·refine .inl ⟨by kernel_rfl,fun w' hS=>?_⟩
   obtain⟨z0,z1,z2,z3,y0,y1,y2,y3,c6,c7,c8,c9⟩:=hS
   go_simp
  refine j3 (i:=20) (v:=(if fm then undef else .pointer (some ⟨q4,1,none⟩))) (some 34) rfl (by kernel_rfl) (by kernel_rfl) (by kernel_rfl) (fun _ _ _ h=>h) ?_ SW.out (by kernel_rfl) ?_
  ·cases fm
   ·refine .inl ⟨by kernel_rfl,fun w' hS=>?_⟩
    obtain⟨z0,z1,z2,z3,y0,y1,y2,y3,c6,c7,c8,c9⟩:=hS
    go_simp
   ·exact .inr ⟨by kernel_rfl,rfl⟩
  refine j3 (i:=21) (v:=(if fm then undef else .bool am)) (some 35) rfl (by kernel_rfl) (by kernel_rfl) (by kernel_rfl) (fun _ _ _ h=>h) ?_ SW.out (by kernel_rfl) ?_
  ·cases fm
   ·refine .inl ⟨by kernel_rfl,fun w' hS=>?_⟩
    obtain⟨z0,z1,z2,z3,y0,y1,y2,y3,c6,c7,c8,c9⟩:=hS
    go_simp
   ·exact .inr ⟨by kernel_rfl,rfl⟩
  refine j3 (i:=22) (v:=.bool (fm||am)) (some 36) rfl (by kernel_rfl) (by kernel_rfl) (by kernel_rfl) (fun _ _ _ h=>h) ?_ SW.out (by kernel_rfl) ?_
  ·refine .inl ⟨by cases fm<;>kernel_rfl,fun w' hS=>?_⟩
   clear hS
   cases fm<;>go_simp
  refine j3 (i:=23) (v:=.bool (fm||am)) (some 37) rfl (by kernel_rfl) (by kernel_rfl) (by kernel_rfl) (fun _ _ _ h=>h) ?_ SW.out (by kernel_rfl) ?_
  ·refine .inl ⟨by kernel_rfl,fun w' hS=>?_⟩
   obtain⟨z0,z1,z2,z3,y0,y1,y2,y3,c6,c7,c8,c9⟩:=hS
   go_simp
  refine j3 (i:=24) (v:=(if(fm||am)then .pointer (some ⟨q5,1,none⟩)else undef)) (some 38) rfl (by kernel_rfl) (by kernel_rfl) (by kernel_rfl) (fun _ _ _ h=>h) ?_ SW.out (by kernel_rfl) ?_
  ·generalize (fm||am)=t at*
   cases t
   ·exact .inr ⟨by kernel_rfl,rfl⟩
   ·refine .inl ⟨by kernel_rfl,fun w' hS=>?_⟩
    obtain⟨z0,z1,z2,z3,y0,y1,y2,y3,c6,c7,c8,c9⟩:=hS
    go_simp
  refine j3 (i:=25) (v:=(if(fm||am)then .bool um else undef)) (some 39) rfl (by kernel_rfl) (by kernel_rfl) (by kernel_rfl) (fun _ _ _ h=>h) ?_ SW.out (by kernel_rfl) ?_
  ·generalize (fm||am)=t at*
   cases t
   ·exact .inr ⟨by kernel_rfl,rfl⟩
   ·refine .inl ⟨by kernel_rfl,fun w' hS=>?_⟩
    obtain⟨z0,z1,z2,z3,y0,y1,y2,y3,c6,c7,c8,c9⟩:=hS
    go_simp
  refine j3 (i:=26) (v:=(if(fm||am)then .bool (!um)else undef)) (some 40) rfl (by kernel_rfl) (by kernel_rfl) (by kernel_rfl) (fun _ _ _ h=>h) ?_ SW.out (by kernel_rfl) ?_
  ·generalize (fm||am)=t at*
   cases t
   ·exact .inr ⟨by kernel_rfl,rfl⟩
   ·refine .inl ⟨by kernel_rfl,fun w' hS=>?_⟩
    obtain⟨z0,z1,z2,z3,y0,y1,y2,y3,c6,c7,c8,c9⟩:=hS
    go_simp
  refine j3 (i:=27) (v:=.bool ((fm||am)&& !um)) (some 41) rfl (by kernel_rfl) (by kernel_rfl) (by kernel_rfl) (fun _ _ _ h=>h) ?_ SW.out (by kernel_rfl) ?_
  ·generalize (fm||am)=t at*
   refine .inl ⟨by cases t<;>kernel_rfl,fun w' hS=>?_⟩
   clear hS
   cases t<;>go_simp
  refine j3 (i:=28) (v:=.pointer (some ⟨b,0,none⟩)) (some 42) rfl (by kernel_rfl) (by kernel_rfl) (by kernel_rfl) (fun _ _ _ h=>h) ?_ SW.out (by kernel_rfl) ?_
  ·refine .inl ⟨by kernel_rfl,fun w' hS=>?_⟩
   obtain⟨z0,z1,z2,z3,y0,y1,y2,y3,c6,c7,c8,c9⟩:=hS
   go_simp
  refine j3 (i:=29) (v:=.pointer (some ⟨b,0,none⟩)) (some 43) rfl (by kernel_rfl) (by kernel_rfl) (by kernel_rfl) (fun _ _ _ h=>h) ?_ SW.out (by kernel_rfl) ?_
  ·refine .inl ⟨by kernel_rfl,fun w' hS=>?_⟩
   obtain⟨z0,z1,z2,z3,y0,y1,y2,y3,c6,c7,c8,c9⟩:=hS
   go_simp
  refine j3 (i:=30) (v:=.pointer (some ⟨b,6,none⟩)) (some 44) rfl (by kernel_rfl) (by kernel_rfl) (by kernel_rfl) (fun _ _ _ h=>h) ?_ SW.out (by kernel_rfl) ?_
  ·refine .inl ⟨by kernel_rfl,fun w' hS=>?_⟩
   obtain⟨z0,z1,z2,z3,y0,y1,y2,y3,c6,c7,c8,c9⟩:=hS
   go_simp
  refine j3 (i:=31) (v:=.pointer (some ⟨b,8,none⟩)) (some 45) rfl (by kernel_rfl) (by kernel_rfl) (by kernel_rfl) (fun _ _ _ h=>h) ?_ SW.out (by kernel_rfl) ?_
  ·refine .inl ⟨by kernel_rfl,fun w' hS=>?_⟩
   obtain⟨z0,z1,z2,z3,y0,y1,y2,y3,c6,c7,c8,c9⟩:=hS
   go_simp
  refine j3 (i:=32) (v:=.bool fs) (some 46) rfl (by kernel_rfl) (by kernel_rfl) (by kernel_rfl) (fun _ _ _ h=>h) ?_ SW.out (by kernel_rfl) ?_
  ·refine .inl ⟨by kernel_rfl,fun w' hS=>?_⟩
   obtain⟨z0,z1,z2,z3,y0,y1,y2,y3,c6,c7,c8,c9⟩:=hS
   go_simp
  refine j3 (i:=33) (v:=.bool fs) (some 47) rfl (by kernel_rfl) (by kernel_rfl) (by kernel_rfl) (fun _ _ _ h=>h) ?_ SW.out (by kernel_rfl) ?_
  ·refine .inl ⟨by kernel_rfl,fun w' hS=>?_⟩
   obtain⟨z0,z1,z2,z3,y0,y1,y2,y3,c6,c7,c8,c9⟩:=hS
   go_simp
  refine j3 (i:=34) (v:=(if fs then undef else .pointer (some ⟨q4,2,none⟩))) (some 48) rfl (by kernel_rfl) (by kernel_rfl) (by kernel_rfl) (fun _ _ _ h=>h) ?_ SW.out (by kernel_rfl) ?_
  ·cases fs
   ·refine .inl ⟨by kernel_rfl,fun w' hS=>?_⟩
    obtain⟨z0,z1,z2,z3,y0,y1,y2,y3,c6,c7,c8,c9⟩:=hS
    go_simp
   ·exact .inr ⟨by kernel_rfl,rfl⟩
  refine j3 (i:=35) (v:=(if fs then undef else .bool as_)) (some 49) rfl (by kernel_rfl) (by kernel_rfl) (by kernel_rfl) (fun _ _ _ h=>h) ?_ SW.out (by kernel_rfl) ?_
  ·cases fs
   ·refine .inl ⟨by kernel_rfl,fun w' hS=>?_⟩
    obtain⟨z0,z1,z2,z3,y0,y1,y2,y3,c6,c7,c8,c9⟩:=hS
    go_simp
   ·exact .inr ⟨by kernel_rfl,rfl⟩
  refine j3 (i:=36) (v:=.bool (fs||as_)) (some 50) rfl (by kernel_rfl) (by kernel_rfl) (by kernel_rfl) (fun _ _ _ h=>h) ?_ SW.out (by kernel_rfl) ?_
  ·refine .inl ⟨by cases fs<;>kernel_rfl,fun w' hS=>?_⟩
   clear hS
   cases fs<;>go_simp
  refine j3 (i:=37) (v:=.bool (fs||as_)) (some 51) rfl (by kernel_rfl) (by kernel_rfl) (by kernel_rfl) (fun _ _ _ h=>h) ?_ SW.out (by kernel_rfl) ?_
  ·refine .inl ⟨by kernel_rfl,fun w' hS=>?_⟩
   obtain⟨z0,z1,z2,z3,y0,y1,y2,y3,c6,c7,c8,c9⟩:=hS
   go_simp
  refine j3 (i:=38) (v:=(if(fs||as_)then .pointer (some ⟨q5,2,none⟩)else undef)) (some 52) rfl (by kernel_rfl) (by kernel_rfl) (by kernel_rfl) (fun _ _ _ h=>h) ?_ SW.out (by kernel_rfl) ?_
  ·generalize (fs||as_)=t at*
   cases t
   ·exact .inr ⟨by kernel_rfl,rfl⟩
   ·refine .inl ⟨by kernel_rfl,fun w' hS=>?_⟩
    obtain⟨z0,z1,z2,z3,y0,y1,y2,y3,c6,c7,c8,c9⟩:=hS
    go_simp
  refine j3 (i:=39) (v:=(if(fs||as_)then .bool us else undef)) (some 53) rfl (by kernel_rfl) (by kernel_rfl) (by kernel_rfl) (fun _ _ _ h=>h) ?_ SW.out (by kernel_rfl) ?_
  ·generalize (fs||as_)=t at*
   cases t
   ·exact .inr ⟨by kernel_rfl,rfl⟩
   ·refine .inl ⟨by kernel_rfl,fun w' hS=>?_⟩
    obtain⟨z0,z1,z2,z3,y0,y1,y2,y3,c6,c7,c8,c9⟩:=hS
    go_simp
  refine j3 (i:=40) (v:=(if(fs||as_)then .bool (!us)else undef)) (some 54) rfl (by kernel_rfl) (by kernel_rfl) (by kernel_rfl) (fun _ _ _ h=>h) ?_ SW.out (by kernel_rfl) ?_
  ·generalize (fs||as_)=t at*
   cases t
   ·exact .inr ⟨by kernel_rfl,rfl⟩
   ·refine .inl ⟨by kernel_rfl,fun w' hS=>?_⟩
    obtain⟨z0,z1,z2,z3,y0,y1,y2,y3,c6,c7,c8,c9⟩:=hS
    go_simp
  refine j3 (i:=41) (v:=.bool ((fs||as_)&& !us)) (some 55) rfl (by kernel_rfl) (by kernel_rfl) (by kernel_rfl) (fun _ _ _ h=>h) ?_ SW.out (by kernel_rfl) ?_
  ·generalize (fs||as_)=t at*
   refine .inl ⟨by cases t<;>kernel_rfl,fun w' hS=>?_⟩
   clear hS
   cases t<;>go_simp
  refine j3 (i:=42) (v:=.pointer (some ⟨b,0,none⟩)) (some 56) rfl (by kernel_rfl) (by kernel_rfl) (by kernel_rfl) (fun _ _ _ h=>h) ?_ SW.out (by kernel_rfl) ?_
  ·refine .inl ⟨by kernel_rfl,fun w' hS=>?_⟩
   obtain⟨z0,z1,z2,z3,y0,y1,y2,y3,c6,c7,c8,c9⟩:=hS
   go_simp
  refine j3 (i:=43) (v:=.pointer (some ⟨b,0,none⟩)) (some 57) rfl (by kernel_rfl) (by kernel_rfl) (by kernel_rfl) (fun _ _ _ h=>h) ?_ SW.out (by kernel_rfl) ?_
  ·refine .inl ⟨by kernel_rfl,fun w' hS=>?_⟩
   obtain⟨z0,z1,z2,z3,y0,y1,y2,y3,c6,c7,c8,c9⟩:=hS
   go_simp
  refine j3 (i:=44) (v:=.pointer (some ⟨b,6,none⟩)) (some 58) rfl (by kernel_rfl) (by kernel_rfl) (by kernel_rfl) (fun _ _ _ h=>h) ?_ SW.out (by kernel_rfl) ?_
  ·refine .inl ⟨by kernel_rfl,fun w' hS=>?_⟩
   obtain⟨z0,z1,z2,z3,y0,y1,y2,y3,c6,c7,c8,c9⟩:=hS
   go_simp
  refine j3 (i:=45) (v:=.pointer (some ⟨b,9,none⟩)) (some 59) rfl (by kernel_rfl) (by kernel_rfl) (by kernel_rfl) (fun _ _ _ h=>h) ?_ SW.out (by kernel_rfl) ?_
  ·refine .inl ⟨by kernel_rfl,fun w' hS=>?_⟩
   obtain⟨z0,z1,z2,z3,y0,y1,y2,y3,c6,c7,c8,c9⟩:=hS
   go_simp
  refine j3 (i:=46) (v:=.bool fu) (some 60) rfl (by kernel_rfl) (by kernel_rfl) (by kernel_rfl) (fun _ _ _ h=>h) ?_ SW.out (by kernel_rfl) ?_
  ·refine .inl ⟨by kernel_rfl,fun w' hS=>?_⟩
   obtain⟨z0,z1,z2,z3,y0,y1,y2,y3,c6,c7,c8,c9⟩:=hS
   go_simp
  refine j3 (i:=47) (v:=.bool fu) (some 61) rfl (by kernel_rfl) (by kernel_rfl) (by kernel_rfl) (fun _ _ _ h=>h) ?_ SW.out (by kernel_rfl) ?_
  ·refine .inl ⟨by kernel_rfl,fun w' hS=>?_⟩
   obtain⟨z0,z1,z2,z3,y0,y1,y2,y3,c6,c7,c8,c9⟩:=hS
   go_simp
  refine j3 (i:=48) (v:=(if fu then undef else .pointer (some ⟨q4,3,none⟩))) (some 62) rfl (by kernel_rfl) (by kernel_rfl) (by kernel_rfl) (fun _ _ _ h=>h) ?_ SW.out (by kernel_rfl) ?_
  ·cases fu
   ·refine .inl ⟨by kernel_rfl,fun w' hS=>?_⟩
    obtain⟨z0,z1,z2,z3,y0,y1,y2,y3,c6,c7,c8,c9⟩:=hS
    go_simp
   ·exact .inr ⟨by kernel_rfl,rfl⟩
  refine j3 (i:=49) (v:=(if fu then undef else .bool au)) (some 63) rfl (by kernel_rfl) (by kernel_rfl) (by kernel_rfl) (fun _ _ _ h=>h) ?_ SW.out (by kernel_rfl) ?_
  ·cases fu
   ·refine .inl ⟨by kernel_rfl,fun w' hS=>?_⟩
    obtain⟨z0,z1,z2,z3,y0,y1,y2,y3,c6,c7,c8,c9⟩:=hS
    go_simp
   ·exact .inr ⟨by kernel_rfl,rfl⟩
  refine j3 (i:=50) (v:=.bool (fu||au)) (some 64) rfl (by kernel_rfl) (by kernel_rfl) (by kernel_rfl) (fun _ _ _ h=>h) ?_ SW.out (by kernel_rfl) ?_
  ·refine .inl ⟨by cases fu<;>kernel_rfl,fun w' hS=>?_⟩
   clear hS
   cases fu<;>go_simp
  refine j3 (i:=51) (v:=.bool (fu||au)) (some 65) rfl (by kernel_rfl) (by kernel_rfl) (by kernel_rfl) (fun _ _ _ h=>h) ?_ SW.out (by kernel_rfl) ?_
  ·refine .inl ⟨by kernel_rfl,fun w' hS=>?_⟩
   obtain⟨z0,z1,z2,z3,y0,y1,y2,y3,c6,c7,c8,c9⟩:=hS
   go_simp
  refine j3 (i:=52) (v:=(if(fu||au)then .pointer (some ⟨q5,3,none⟩)else undef)) (some 66) rfl (by kernel_rfl) (by kernel_rfl) (by kernel_rfl) (fun _ _ _ h=>h) ?_ SW.out (by kernel_rfl) ?_
  ·generalize (fu||au)=t at*
   cases t
   ·exact .inr ⟨by kernel_rfl,rfl⟩
   ·refine .inl ⟨by kernel_rfl,fun w' hS=>?_⟩
    obtain⟨z0,z1,z2,z3,y0,y1,y2,y3,c6,c7,c8,c9⟩:=hS
    go_simp
  refine j3 (i:=53) (v:=(if(fu||au)then .bool uu else undef)) (some 67) rfl (by kernel_rfl) (by kernel_rfl) (by kernel_rfl) (fun _ _ _ h=>h) ?_ SW.out (by kernel_rfl) ?_
  ·generalize (fu||au)=t at*
   cases t
   ·exact .inr ⟨by kernel_rfl,rfl⟩
   ·refine .inl ⟨by kernel_rfl,fun w' hS=>?_⟩
    obtain⟨z0,z1,z2,z3,y0,y1,y2,y3,c6,c7,c8,c9⟩:=hS
    go_simp
  refine j3 (i:=54) (v:=(if(fu||au)then .bool (!uu)else undef)) (some 68) rfl (by kernel_rfl) (by kernel_rfl) (by kernel_rfl) (fun _ _ _ h=>h) ?_ SW.out (by kernel_rfl) ?_
  ·generalize (fu||au)=t at*
   cases t
   ·exact .inr ⟨by kernel_rfl,rfl⟩
   ·refine .inl ⟨by kernel_rfl,fun w' hS=>?_⟩
    obtain⟨z0,z1,z2,z3,y0,y1,y2,y3,c6,c7,c8,c9⟩:=hS
    go_simp
  refine j3 (i:=55) (v:=.bool ((fu||au)&& !uu)) (some 69) rfl (by kernel_rfl) (by kernel_rfl) (by kernel_rfl) (fun _ _ _ h=>h) ?_ SW.out (by kernel_rfl) ?_
  ·generalize (fu||au)=t at*
   refine .inl ⟨by cases t<;>kernel_rfl,fun w' hS=>?_⟩
   clear hS
   cases t<;>go_simp
  refine j3 (i:=56) (v:=.agg #[.bool ((fi||ai)&& !ui),.bool ((fm||am)&& !um),.bool ((fs||as_)&& !us),.bool ((fu||au)&& !uu)]) (some 70) rfl (by kernel_rfl) (by kernel_rfl) (by kernel_rfl) (fun _ _ _ h=>h) ?_ SW.out (by kernel_rfl) ?_
  ·refine .inl ⟨by kernel_rfl,fun w' hS=>?_⟩
   obtain⟨z0,z1,z2,z3,y0,y1,y2,y3,c6,c7,c8,c9⟩:=hS
   go_simp
  refine j3 (i:=57) (v:=.agg #[.bool ai,.bool am,.bool as_,.bool au]) (some 71) rfl (by kernel_rfl) (by kernel_rfl) (by kernel_rfl) (fun _ _ _ h=>h) ?_ SW.out (by kernel_rfl) ?_
  ·refine .inl ⟨by kernel_rfl,fun w' hS=>?_⟩
   obtain⟨z0,z1,z2,z3,y0,y1,y2,y3,c6,c7,c8,c9⟩:=hS
   go_simp
  refine j3 (i:=58) (v:=.agg #[.bool false,.bool false,.bool false,.bool false]) (some 72) rfl (by kernel_rfl) (by kernel_rfl) (by kernel_rfl) (fun _ _ _ h=>h) ?_ SW.out (by kernel_rfl) ?_
  ·refine .inl ⟨by kernel_rfl,fun w' hS=>?_⟩
   obtain⟨z0,z1,z2,z3,y0,y1,y2,y3,c6,c7,c8,c9⟩:=hS
   go_simp
  refine j3 (i:=59) (v:=.bool sa) (some 73) rfl (by kernel_rfl) (by kernel_rfl) (by kernel_rfl) (fun _ _ _ h=>h) ?_ SW.out (by kernel_rfl) ?_
  ·refine .inl ⟨by kernel_rfl,fun w' hS=>?_⟩
   clear hS
   go_simp
  refine j3 (i:=60) (v:=.bool sa) (some 74) rfl (by kernel_rfl) (by kernel_rfl) (by kernel_rfl) (fun _ _ _ h=>h) ?_ SW.out (by kernel_rfl) ?_
  ·refine .inl ⟨by kernel_rfl,fun w' hS=>?_⟩
   obtain⟨z0,z1,z2,z3,y0,y1,y2,y3,c6,c7,c8,c9⟩:=hS
   go_simp
  refine j3 (i:=61) (v:=(if sa then undef else .agg #[.bool ui,.bool um,.bool us,.bool uu])) (some 75) rfl (by kernel_rfl) (by kernel_rfl) (by kernel_rfl) (fun _ _ _ h=>h) ?_ SW.out (by kernel_rfl) ?_
  ·cases sa
   ·refine .inl ⟨by kernel_rfl,fun w' hS=>?_⟩
    obtain⟨z0,z1,z2,z3,y0,y1,y2,y3,c6,c7,c8,c9⟩:=hS
    go_simp
   ·exact .inr ⟨by kernel_rfl,rfl⟩
  refine j3 (i:=62) (v:=(if sa then undef else .agg #[.bool false,.bool false,.bool false,.bool false])) (some 76) rfl (by kernel_rfl) (by kernel_rfl) (by kernel_rfl) (fun _ _ _ h=>h) ?_ SW.out (by kernel_rfl) ?_
  ·cases sa
   ·refine .inl ⟨by kernel_rfl,fun w' hS=>?_⟩
    obtain⟨z0,z1,z2,z3,y0,y1,y2,y3,c6,c7,c8,c9⟩:=hS
    go_simp
   ·exact .inr ⟨by kernel_rfl,rfl⟩
  refine j3 (i:=63) (v:=(if sa then undef else .bool su)) (some 77) rfl (by kernel_rfl) (by kernel_rfl) (by kernel_rfl) (fun _ _ _ h=>h) ?_ SW.out (by kernel_rfl) ?_
  ·cases sa
   ·refine .inl ⟨by kernel_rfl,fun w' hS=>?_⟩
    obtain⟨z0,z1,z2,z3,y0,y1,y2,y3,c6,c7,c8,c9⟩:=hS
    go_simp
   ·exact .inr ⟨by kernel_rfl,rfl⟩
  refine j3 (i:=64) (v:=.bool (sa||su)) (some 78) rfl (by kernel_rfl) (by kernel_rfl) (by kernel_rfl) (fun _ _ _ h=>h) ?_ SW.out (by kernel_rfl) ?_
  ·refine .inl ⟨by cases sa<;>kernel_rfl,fun w' hS=>?_⟩
   clear hS
   cases sa<;>go_simp
  have QR:=setRow_heap w9.drew qr x7.arr (Fl.turn ⟨fi,fm,fs,fu⟩ ⟨ai,am,as_,au⟩ ⟨ui,um,us,uu⟩).arr 38 (0,0) Q9.out
  have TR:=g8 w9.drew qr (Fl.turn ⟨fi,fm,fs,fu⟩ ⟨ai,am,as_,au⟩ ⟨ui,um,us,uu⟩).arr
  have hnr:∀g,g=q4∨g=q5∨g=b->¬g=qr:=fun g e=>by have:=HQ.out;have:=HQ4.out;omega
  have hlt4:=lt_of_block A9.out
  have hlt5:=lt_of_block B9.out
  have hltb:=H9.out.lt
  have SR:=b6 (show((w9.drew.setRow qr (Fl.turn ⟨fi,fm,fs,fu⟩ ⟨ai,am,as_,au⟩ ⟨ui,um,us,uu⟩).arr).cell? ⟨q4,0,none⟩=some (.bool ai)/\(w9.drew.setRow qr (Fl.turn ⟨fi,fm,fs,fu⟩ ⟨ai,am,as_,au⟩ ⟨ui,um,us,uu⟩).arr).cell? ⟨q4,1,none⟩=some (.bool am)/\(w9.drew.setRow qr (Fl.turn ⟨fi,fm,fs,fu⟩ ⟨ai,am,as_,au⟩ ⟨ui,um,us,uu⟩).arr).cell? ⟨q4,2,none⟩=some (.bool as_)/\(w9.drew.setRow qr (Fl.turn ⟨fi,fm,fs,fu⟩ ⟨ai,am,as_,au⟩ ⟨ui,um,us,uu⟩).arr).cell? ⟨q4,3,none⟩=some (.bool au)/\(w9.drew.setRow qr (Fl.turn ⟨fi,fm,fs,fu⟩ ⟨ai,am,as_,au⟩ ⟨ui,um,us,uu⟩).arr).cell? ⟨q5,0,none⟩=some (.bool ui)/\(w9.drew.setRow qr (Fl.turn ⟨fi,fm,fs,fu⟩ ⟨ai,am,as_,au⟩ ⟨ui,um,us,uu⟩).arr).cell? ⟨q5,1,none⟩=some (.bool um)/\(w9.drew.setRow qr (Fl.turn ⟨fi,fm,fs,fu⟩ ⟨ai,am,as_,au⟩ ⟨ui,um,us,uu⟩).arr).cell? ⟨q5,2,none⟩=some (.bool us)/\(w9.drew.setRow qr (Fl.turn ⟨fi,fm,fs,fu⟩ ⟨ai,am,as_,au⟩ ⟨ui,um,us,uu⟩).arr).cell? ⟨q5,3,none⟩=some (.bool uu)/\(w9.drew.setRow qr (Fl.turn ⟨fi,fm,fs,fu⟩ ⟨ai,am,as_,au⟩ ⟨ui,um,us,uu⟩).arr).cell? ⟨b,6,none⟩=some (.bool fi)/\(w9.drew.setRow qr (Fl.turn ⟨fi,fm,fs,fu⟩ ⟨ai,am,as_,au⟩ ⟨ui,um,us,uu⟩).arr).cell? ⟨b,7,none⟩=some (.bool fm)/\(w9.drew.setRow qr (Fl.turn ⟨fi,fm,fs,fu⟩ ⟨ai,am,as_,au⟩ ⟨ui,um,us,uu⟩).arr).cell? ⟨b,8,none⟩=some (.bool fs)/\(w9.drew.setRow qr (Fl.turn ⟨fi,fm,fs,fu⟩ ⟨ai,am,as_,au⟩ ⟨ui,um,us,uu⟩).arr).cell? ⟨b,9,none⟩=some (.bool fu))from by
   obtain⟨z0,z1,z2,z3,y0,y1,y2,y3,c6,c7,c8,c9⟩:=SW.out
   exact⟨(TR.cell (p:=⟨q4,0,none⟩) hlt4 (hnr _ (.inl rfl))).trans z0,(TR.cell (p:=⟨q4,1,none⟩) hlt4 (hnr _ (.inl rfl))).trans z1,(TR.cell (p:=⟨q4,2,none⟩) hlt4 (hnr _ (.inl rfl))).trans z2,(TR.cell (p:=⟨q4,3,none⟩) hlt4 (hnr _ (.inl rfl))).trans z3,
    (TR.cell (p:=⟨q5,0,none⟩) hlt5 (hnr _ (.inr (.inl rfl)))).trans y0,(TR.cell (p:=⟨q5,1,none⟩) hlt5 (hnr _ (.inr (.inl rfl)))).trans y1,(TR.cell (p:=⟨q5,2,none⟩) hlt5 (hnr _ (.inr (.inl rfl)))).trans y2,(TR.cell (p:=⟨q5,3,none⟩) hlt5 (hnr _ (.inr (.inl rfl)))).trans y3,
    (TR.cell (p:=⟨b,6,none⟩) hltb (hnr _ (.inr (.inr rfl)))).trans c6,(TR.cell (p:=⟨b,7,none⟩) hltb (hnr _ (.inr (.inr rfl)))).trans c7,(TR.cell (p:=⟨b,8,none⟩) hltb (hnr _ (.inr (.inr rfl)))).trans c8,(TR.cell (p:=⟨b,9,none⟩) hltb (hnr _ (.inr (.inr rfl)))).trans c9⟩)
  have T10:=b6 (T9.out.trans (b7.trans ((b7.refl (fun g=>g=qr) w9).drew) TR iE) (fun i hi e=>by have:=HQ.out;omega))
  have H10:=b6 ((H9.out.new ((tZ w9).drew)).row4 (cs:=(Fl.turn ⟨fi,fm,fs,fu⟩ ⟨ai,am,as_,au⟩ ⟨ui,um,us,uu⟩).arr) HQ.out.2 Q9.out)
  have QR10:=b6 QR
  clear QR TR hnr hlt4 hlt5 hltb
  refine wpAnyH_ready (rs:=[65]) (by kernel_rfl) (by simp) ?_
  refine AllReadyH.skip rfl (by kernel_rfl) (w9.drew.setRow qr (Fl.turn ⟨fi,fm,fs,fu⟩ ⟨ai,am,as_,au⟩ ⟨ui,um,us,uu⟩).arr) (JT _ _ _ (.tmp 2) (.tmp 70) (by kernel_rfl) qr (Fl.turn ⟨fi,fm,fs,fu⟩ ⟨ai,am,as_,au⟩ ⟨ui,um,us,uu⟩).arr x7.arr (by kernel_rfl) (by kernel_rfl) Q9.out rfl rfl (Fl.one _)) SR.out (by kernel_rfl) ?_ AllReadyH.nil
  ·refine wpAnyH_ready (rs:=[66]) (by kernel_rfl) (by simp) ?_
   refine AllReadyH.runD (some 3) rfl (by kernel_rfl) (.bool (sa||su)) (w9.drew.setRow qr (Fl.turn ⟨fi,fm,fs,fu⟩ ⟨ai,am,as_,au⟩ ⟨ui,um,us,uu⟩).arr) (by go_simp) SR.out (by kernel_rfl) ?_ AllReadyH.nil
   refine wpAnyH_done (by kernel_rfl) ?_ _
   simp only[Act.put,List.setIfInBounds_toArray,List.set_cons_succ,List.set_cons_zero]
   generalize w9.drew.setRow qr (Fl.turn ⟨fi,fm,fs,fu⟩ ⟨ai,am,as_,au⟩ ⟨ui,um,us,uu⟩).arr=w10 at*
   generalize ((if fi then undef else .pointer (some ⟨q4,0,none⟩)):Value)=v20
   generalize ((if fi then undef else .bool ai):Value)=v21
   generalize ((if(fi||ai)then .pointer (some ⟨q5,0,none⟩)else undef):Value)=v24
   generalize ((if(fi||ai)then .bool ui else undef):Value)=v25
   generalize ((if(fi||ai)then .bool (!ui)else undef):Value)=v26
   generalize ((if fm then undef else .pointer (some ⟨q4,1,none⟩)):Value)=v34
   generalize ((if fm then undef else .bool am):Value)=v35
   generalize ((if(fm||am)then .pointer (some ⟨q5,1,none⟩)else undef):Value)=v38
   generalize ((if(fm||am)then .bool um else undef):Value)=v39
   generalize ((if(fm||am)then .bool (!um)else undef):Value)=v40
   generalize ((if fs then undef else .pointer (some ⟨q4,2,none⟩)):Value)=v48
   generalize ((if fs then undef else .bool as_):Value)=v49
   generalize ((if(fs||as_)then .pointer (some ⟨q5,2,none⟩)else undef):Value)=v52
   generalize ((if(fs||as_)then .bool us else undef):Value)=v53
   generalize ((if(fs||as_)then .bool (!us)else undef):Value)=v54
   generalize ((if fu then undef else .pointer (some ⟨q4,3,none⟩)):Value)=v62
   generalize ((if fu then undef else .bool au):Value)=v63
   generalize ((if(fu||au)then .pointer (some ⟨q5,3,none⟩)else undef):Value)=v66
   generalize ((if(fu||au)then .bool uu else undef):Value)=v67
   generalize ((if(fu||au)then .bool (!uu)else undef):Value)=v68
   generalize ((if sa then undef else .agg #[.bool ui,.bool um,.bool us,.bool uu]):Value)=v75
   generalize ((if sa then undef else .agg #[.bool false,.bool false,.bool false,.bool false]):Value)=v76
   generalize ((if sa then undef else .bool su):Value)=v77
   go_wp2
   refine bodyPost_ret (l8 rfl _ _ qr 38 _ (0,0) _ rfl QR10.out Tryz.underlying38 rfl (by kernel_rfl)) rfl ?_
   rw[HA9.out]
   exact⟨rfl,H10.out,T10.out⟩
end Go.Proofs.YtdhhcefmmojcmaaGreatDoor
