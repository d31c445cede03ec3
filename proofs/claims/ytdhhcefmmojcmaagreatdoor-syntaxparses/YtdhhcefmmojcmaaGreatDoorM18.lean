/- Texts of this proof, one behind the other. -/
import Derived.Test.YtdhhcefmmojcmaaGreatDoorM17
import Derived.Test.YtdhhcefmmojcmaaGreatDoorM4
import Derived.Test.YtdhhcefmmojcmaaGreatDoorM15
set_option maxRecDepth 100000
set_option maxHeartbeats 0
set_option linter.unusedVariables false
namespace Go.Proofs.YtdhhcefmmojcmaaGreatDoor
open Go.RowKit Go.Lib
theorem Gl {a:Int}(h0:0<=a)(h1:a<=1114111):s9 [(a,a)]=[(a,a)]:=
 (IP ⟨by simp[Ap];omega,List.pairwise_singleton _ _⟩ (DL.refl _)).symm
theorem SF {R:List Int}{k0 k n k1:Nat}(h:J9 R k0 k=.ok (n,k1)):n<=1114111:=by
 unfold J9 at h
 simp only at h
 split at h
 ·split at h
  ·rename_i e
   cases h
   exact e.2.2
  ·cases h
 ·split at h
  ·rename_i e
   have h1:=Dj (l6 R p6 2 k) (fun c hc=>Av 2 k c hc)
   rw[e]at h1
   cases h
   omega
  ·cases h
theorem Ta {R:List Int}{tab:List (ByteArray×List R2)}{k0 k k1:Nat}{l:List R2}{a:Int}(h:L3 R tab k0 k=.ok (l,some a,k1)):l=[(a,a)]/\0<=a/\a<=1114111:=by
 unfold L3 AA at h
 rcases j8 h with⟨e,h⟩|⟨_,h⟩
 ·cases h
 rcases j8 h with⟨e,h⟩|⟨_,h⟩
 ·cases h
 rcases j8 h with⟨e,h⟩|⟨_,h⟩
 ·cases h
 rcases j8 h with⟨e,h⟩|⟨_,h⟩
 ·cases h
 rcases j8 h with⟨e,h⟩|⟨_,h⟩
 ·cases h
 rcases j8 h with⟨e,h⟩|⟨_,h⟩
 ·cases h
 rcases j8 h with⟨_,h⟩|⟨_,h⟩
 ·split at h
  ·cases h
  ·cases h
 rcases j8 h with⟨_,h⟩|⟨_,h⟩
 ·split at h
  ·cases h
  ·rename_i hn
   have:=SF hn
   cases h
   exact⟨rfl,by omega,by omega⟩
 rcases j8 h with⟨e,h⟩|⟨_,h⟩
 ·cases h;exact⟨rfl,by decide,by decide⟩
 rcases j8 h with⟨e,h⟩|⟨_,h⟩
 ·cases h;exact⟨rfl,by decide,by decide⟩
 rcases j8 h with⟨e,h⟩|⟨_,h⟩
 ·cases h;exact⟨rfl,by decide,by decide⟩
 rcases j8 h with⟨e,h⟩|⟨_,h⟩
 ·cases h;exact⟨rfl,by decide,by decide⟩
 rcases j8 h with⟨e,h⟩|⟨_,h⟩
 ·cases h;exact⟨rfl,by decide,by decide⟩
 rcases j8 h with⟨_,h⟩|⟨e,h⟩
 ·cases h
 ·have h1:¬g7 R k<33:=fun x=>e (.inl x)
  have h2:¬g7 R k>126:=fun x=>e (.inr (.inl x))
  cases h
  exact⟨rfl,by omega,by omega⟩
theorem Jz {R:List Int}(hR:∀c ∈ R,0<=c/\c<=1114111){tab:List (ByteArray×List R2)}{op k k1:Nat}{l:List R2}{a:Int}(h:G7 R tab op k=.ok (l,some a,k1)):l=[(a,a)]/\0<=a/\a<=1114111:=by
 unfold G7 at h
 rcases j8 h with⟨_,h⟩|⟨e,h⟩
 ·cases h
 rcases j8 h with⟨_,h⟩|⟨_,h⟩
 ·exact Ta h
 ·have hk:=I6 e
  have:=hR (g7 R k) (by rw[P8 hk];exact List.getElem_mem hk)
  cases h
  exact⟨rfl,this⟩
theorem QP (b:Nat)(X:Px)(k0 k:Nat)(f:Fl)(vn:Value)(ns:List ByteArray)(op:Nat)(w:World)(h:PS w b X k f vn ns op)(hX:X.Good)(hk:k<=X.R.length)(hk0:k0<=X.R.length):
 Calls Tryz.prog 131 #[.pointer (some ⟨b,0,none⟩),.int .i64 (k0:Nat)] w fun e w'=>Dm b X f vn ns op w (G6 X.R b8 k0 k) e w':=by
 have HRl:=b6 hX.lenR
 obtain⟨A,hA⟩:∃A,A=G6 X.R b8 k0 k:=⟨_,rfl⟩
 have HA:=b6 hA.symm
 rw[<-hA]
 unfold G6 at HA
 clear hA
 have HK:=b6 h
 have TK:=b6 (b7.refl (fun g=>g=b) w)
 have KW:=b6 (fun k1 w' hp=>A1 b X k1 f vn ns op 22 k w' hp (by have:=hX.lenP;omega))
 have KM:=b6 (Fe b X k0 k f vn ns op w h hX hk hk0)
 have KM2:=b6 (fun(k':Nat) (hk':k'<=X.R.length) w' hp=>Fe b X k0 k' f vn ns op w' hp hX hk' hk0)
 have HM1:=b6 (fun l o k1 (e:G7 X.R b8 k0 k=.ok (l,o,k1))=>(Bw e).2)
 have HM2:=b6 (fun l a k1 (e:G7 X.R b8 k0 k=.ok (l,some a,k1))=>Jz hX.nonneg e)
 have HM3:=b6 (fun k' l a k1 (e:G7 X.R b8 k0 k'=.ok (l,some a,k1))=>And.intro (Jz hX.nonneg e) (Bw e).2)
 have c5:=HK.out.c5
 clear h hX hk hk0
 generalize G7 X.R b8 k0 k=M at*
 match M with
 | .error (ec,ej)=>
   clear KM2 HM1 HM2 HM3 KW
   unfold W4 u6 at KM
   go_enter Tryz.func131,Tryz.ntmps131
   go_wp2_with fail
   refine KM.out.mono ?_
   rintro e w2 ⟨rfl,tt⟩
   replace TK:=b6 (TK.out.trans tt iE)
   clear tt KM
   go_wp2
   refine⟨rfl,?_⟩
   rw[<-HA.out]
   exact⟨rfl,TK.out⟩
 | .ok (l,none,k1)=>
   clear KM2 HM1 HM2 HM3 KW
   unfold W4 at KM
   simp only[Option.isSome_none]at KM
   go_enter Tryz.func131,Tryz.ntmps131
   go_wp2_with fail
   refine KM.out.mono ?_
   rintro e w2 ⟨v,rfl,ho,hn,hp,tt⟩
   obtain⟨a2,c2,hv⟩:=e9 ho
   subst hv
   have O:=b6 ho
   have N:=b6 (fun g e=>Nat.le_trans TK.out.size (hn g e))
   replace HK:=b6 hp
   replace TK:=b6 (TK.out.trans tt iE)
   clear ho hn hp tt KM c5
   go_wp2
   go_ret
   rw[<-HA.out]
   exact⟨_,rfl,O.out,N.out,HK.out,TK.out⟩
 | .ok (l,some a,k1)=>
   obtain⟨hla,ha0,ha1⟩:=HM2.out l a k1 rfl
   have hk1:=HM1.out l (some a) k1 rfl
   have hk2:k1<=1024:=by have:=HRl.out;omega
   subst hla
   have HCN:=b6 (Gl ha0 ha1)
   unfold W4 at KM
   simp only[Option.isSome_some]at KM
   rw[HCN.out]at KM
   simp only at HA
   have HAB:=b6 (And.intro ha0 ha1)
   clear HM1 HM2 ha0 ha1
   by_cases h45:g7 X.R k1=45/\g7 X.R (k1+1)≠93
   ·rw[if_pos h45]at HA
    have hk3:k1+1<=X.R.length:=j9 h45.1 (by decide)
    have KT:=b6 (fun w' (hp:PS w' b X k1 f vn ns op)=>s8 hp (by omega) 45 h45.1 (by decide))
    have KL0:=b6 (fun w' (hp:PS w' b X k1 f vn ns op)=>Bj b X k1 f vn ns op w' hp (by omega))
    have KL1:=b6 (fun w' (hp:PS w' b X k1 f vn ns op)=>(CU b X k1 f vn ns op 1 w' hp (by omega) (by omega)).mono (fun e w'' h=>(show e=.returned (.int .i64 (g7 X.R (k1+1)))/\b7 (fun _=>False) w' w'' from⟨h.1,by obtain⟨m,rfl⟩:=h.2;exact(b7.refl _ _).drewN _⟩)))
    rw[h45.1]at KL0
    have hy:(g7 X.R (k1+1)==93)=false:=beq_eq_false_iff_ne.2 h45.2
    have KN:=b6 (KM2.out (k1+1) hk3)
    have HN:=b6 (HM3.out (k1+1))
    generalize g7 X.R (k1+1)=y at*
    clear h45 KM2 HM3 hk3
    generalize G7 X.R b8 k0 (k1+1)=M2 at*
    go_enter Tryz.func131,Tryz.ntmps131
    go_wp2_with fail
    refine KM.out.mono ?_
    rintro e w2 ⟨v,rfl,ho,hn,hp,tt⟩
    obtain⟨a2,c2,hv⟩:=e9 ho
    subst hv
    have O:=b6 ho
    replace HK:=b6 hp
    replace TK:=b6 (TK.out.trans tt iE)
    clear ho hn hp tt KM c5
    go_wp2_with fail
    refine(KL0.out _ HK.out).mono ?_
    rintro e w3 ⟨rfl,t3⟩
    replace HK:=b6 (HK.out.new t3)
    replace O:=b6 (g9 O.out t3 iE)
    replace TK:=b6 (TK.out.trans t3 nE)
    clear t3 KL0
    go_wp2_with fail
    refine(KL1.out _ HK.out).mono ?_
    rintro e w4 ⟨rfl,t4⟩
    replace HK:=b6 (HK.out.new t4)
    replace O:=b6 (g9 O.out t4 iE)
    replace TK:=b6 (TK.out.trans t4 nE)
    clear t4 KL1
    go_wp2_with fail
    refine(KT.out _ HK.out).mono ?_
    rintro e w5 ⟨rfl,hp,tt⟩
    replace O:=b6 (g9 O.out tt (fun g e s=>by subst s;obtain⟨cs,fr,hh⟩:=j5 O.out g e;rw[HK.out.cells]at hh;cases hh))
    replace HK:=b6 hp
    replace TK:=b6 (TK.out.trans tt iE)
    clear hp tt KT
    have KN2:=b6 (KN.out _ HK.out)
    match M2 with
    | .error (ec,ej)=>
      unfold W4 u6 at KN2
      go_wp2_with fail
      refine KN2.out.mono ?_
      rintro e w6 ⟨rfl,tt⟩
      replace TK:=b6 (TK.out.trans tt iE)
      clear tt KN2 KN KW
      go_wp2
      refine⟨rfl,?_⟩
      rw[<-HA.out]
      exact⟨rfl,TK.out⟩
    | .ok (l2,none,k3)=>
      unfold W4 at KN2
      simp only[Option.isSome_none]at KN2
      go_wp2_with fail
      refine KN2.out.mono ?_
      rintro e w6 ⟨v,rfl,ho,hn,hp,tt⟩
      obtain⟨a6,c6,hv⟩:=e9 ho
      subst hv
      replace HK:=b6 hp
      replace TK:=b6 (TK.out.trans tt iE)
      clear ho hn hp tt KN2 KN
      go_wp2_with fail
      go_quiet (fail)
      replace HK:=b6 (HK.out.new ((b7.refl _ w6).drewN nq))
      replace TK:=b6 (TK.out.drewN nq)
      go_wp2_with fail
      refine(KW.out _ _ HK.out).mono ?_
      rintro e w9 ⟨rfl,t9⟩
      replace TK:=b6 (TK.out.trans t9 nE)
      clear t9 KW
      go_wp2
      refine⟨rfl,?_⟩
      rw[<-HA.out]
      exact⟨rfl,TK.out⟩
    | .ok (l2,some z,k3)=>
      obtain⟨⟨hlz,hz0,hz1⟩,hk3⟩:=HN.out l2 z k3 rfl
      subst hlz
      have HCZ:=b6 (Gl hz0 hz1)
      unfold W4 at KN2
      simp only[Option.isSome_some]at KN2
      rw[HCZ.out]at KN2
      simp only at HA
      clear hz0 hz1 HN
      go_wp2_with fail
      refine KN2.out.mono ?_
      rintro e w6 ⟨v,rfl,ho,hn,hp,tt⟩
      obtain⟨a6,c6,hv⟩:=e9 ho
      subst hv
      replace O:=b6 (g9 O.out tt (fun g e s=>by subst s;obtain⟨cs,fr,hh⟩:=j5 O.out g e;rw[HK.out.cells]at hh;cases hh))
      replace HK:=b6 hp
      replace TK:=b6 (TK.out.trans tt iE)
      obtain⟨g1,e1⟩:∃g,a2=some ⟨g,0,none⟩:=by
       rcases O.out.2 with⟨_,h0⟩|⟨g,cap,cur,hv,_⟩
       ·cases h0
       ·cases hv;exact⟨g,rfl⟩
      obtain⟨g2,e2⟩:∃g,a6=some ⟨g,0,none⟩:=by
       rcases ho.2 with⟨_,h0⟩|⟨g,cap,cur,hv,_⟩
       ·cases h0
       ·cases hv;exact⟨g,rfl⟩
      subst e1 e2
      have d1:w6.cell? ⟨g1,0,none⟩=some (.int .i64 a):=by
       have:=O.out.cells (g:=g1) rfl 0 (.int .i64 a) rfl
       rwa [Ai]at this
      have d2:w6.cell? ⟨g2,0,none⟩=some (.int .i64 z):=by
       have:=ho.cells (g:=g2) rfl 0 (.int .i64 z) rfl
       rwa [Ai]at this
      clear ho hn hp tt KN2 KN O
      by_cases hlt:z<a
      ·rw[if_pos hlt]at HA
       go_wp2_with fail
       go_quiet (fail)
       replace HK:=b6 (HK.out.new ((b7.refl _ w6).drewN nq))
       replace TK:=b6 (TK.out.drewN nq)
       go_wp2_with fail
       refine(KW.out _ _ HK.out).mono ?_
       rintro e w9 ⟨rfl,t9⟩
       replace TK:=b6 (TK.out.trans t9 nE)
       clear t9 KW
       go_wp2
       refine⟨rfl,?_⟩
       rw[<-HA.out]
       exact⟨rfl,TK.out⟩
      ·rw[if_neg hlt]at HA
       clear KW
       go_wp2_with fail
       go_quiet (fail)
       have d3:(w6.drewN nq).cell? ⟨g1,0,none⟩=some (.int .i64 a):=d1
       have d4:(w6.drewN nq).cell? ⟨g2,0,none⟩=some (.int .i64 z):=d2
       replace HK:=b6 (HK.out.new ((b7.refl _ w6).drewN nq))
       replace TK:=b6 (TK.out.drewN nq)
       clear d1 d2
       generalize w6.drewN nq=w7 at*
       go_wp2_with fail
       have Mk0:True:=trivial
       go_region_held3 (fun w'=>w'.cell? ⟨g1,0,none⟩=some (.int .i64 a)/\w'.cell? ⟨g2,0,none⟩=some (.int .i64 z)) (first|exact⟨d3,d4⟩|exact⟨d5,d6⟩)
        (first
          |(clear Mk0;go_at_call 113;refine(J5 a z _).mono ?_;rintro e w8 ⟨v,rfl,ow⟩;obtain⟨a8,c8,hv,_⟩:=ow.slice;subst hv;have d5:=(ow.touch.cell (p:=⟨g1,0,none⟩) (Lib.lt_of_cell d3) id).trans d3;have d6:=(ow.touch.cell (p:=⟨g2,0,none⟩) (Lib.lt_of_cell d4) id).trans d4;have O8:=b6 ow.own;have N8:=b6 (fun g e=>Nat.le_trans TK.out.size (ow.new g e));replace HK:=b6 (HK.out.new ((b7.refl _ w7).drew.trans ow.touch iE));replace TK:=b6 (TK.out.trans ((tZ w7).drew.trans ow.touch iE) nE);clear ow))
       go_wp2
       go_ret
       rw[<-HA.out]
       exact⟨_,rfl,O8.out,N8.out,HK.out,TK.out⟩
   ·rw[if_neg h45]at HA
    clear KM2 HM3 KW
    have KL0:=b6 (fun w' (hp:PS w' b X k1 f vn ns op)=>Bj b X k1 f vn ns op w' hp (by omega))
    have KL1:=b6 (fun w' (hp:PS w' b X k1 f vn ns op)=>(CU b X k1 f vn ns op 1 w' hp (by omega) (by omega)).mono (fun e w'' h=>(show e=.returned (.int .i64 (g7 X.R (k1+1)))/\b7 (fun _=>False) w' w'' from⟨h.1,by obtain⟨m,rfl⟩:=h.2;exact(b7.refl _ _).drewN _⟩)))
    by_cases e45:g7 X.R k1=45
    ·have h93:g7 X.R (k1+1)=93:=Decidable.byContradiction fun hh=>h45 ⟨e45,hh⟩
     rw[e45]at KL0
     rw[h93]at KL1
     clear h45 e45 h93
     go_enter Tryz.func131,Tryz.ntmps131
     go_wp2_with fail
     refine KM.out.mono ?_
     rintro e w2 ⟨v,rfl,ho,hn,hp,tt⟩
     obtain⟨a2,c2,hv⟩:=e9 ho
     subst hv
     have N:=b6 (fun g e=>Nat.le_trans TK.out.size (hn g e))
     have O:=b6 ho
     replace HK:=b6 hp
     replace TK:=b6 (TK.out.trans tt iE)
     clear ho hn hp tt KM c5
     go_wp2_with fail
     refine(KL0.out _ HK.out).mono ?_
     rintro e w3 ⟨rfl,t3⟩
     replace HK:=b6 (HK.out.new t3)
     replace O:=b6 (g9 O.out t3 iE)
     replace TK:=b6 (TK.out.trans t3 nE)
     clear t3 KL0
     go_wp2_with fail
     refine(KL1.out _ HK.out).mono ?_
     rintro e w4 ⟨rfl,t4⟩
     replace HK:=b6 (HK.out.new t4)
     replace O:=b6 (g9 O.out t4 iE)
     replace TK:=b6 (TK.out.trans t4 nE)
     clear t4 KL1
     go_wp2
     go_ret
     rw[<-HA.out]
     refine⟨_,rfl,?_,N.out,HK.out,TK.out⟩
     rw[HCN.out]
     exact O.out
    ·have hy:(g7 X.R k1==45)=false:=beq_eq_false_iff_ne.2 e45
     have hy2:(g7 X.R k1 !=45)=true:=bne_iff_ne.2 e45
     clear KL1
     generalize g7 X.R k1=y at*
     clear h45 e45
     go_enter Tryz.func131,Tryz.ntmps131
     go_wp2_with fail
     refine KM.out.mono ?_
     rintro e w2 ⟨v,rfl,ho,hn,hp,tt⟩
     obtain⟨a2,c2,hv⟩:=e9 ho
     subst hv
     have N:=b6 (fun g e=>Nat.le_trans TK.out.size (hn g e))
     have O:=b6 ho
     replace HK:=b6 hp
     replace TK:=b6 (TK.out.trans tt iE)
     clear ho hn hp tt KM c5
     go_wp2_with fail
     refine(KL0.out _ HK.out).mono ?_
     rintro e w3 ⟨rfl,t3⟩
     replace HK:=b6 (HK.out.new t3)
     replace O:=b6 (g9 O.out t3 iE)
     replace TK:=b6 (TK.out.trans t3 nE)
     clear t3 KL0
     go_wp2
     go_ret
     rw[<-HA.out]
     refine⟨_,rfl,?_,N.out,HK.out,TK.out⟩
     rw[HCN.out]
     exact O.out
theorem GZ (w:World)(ty:TypeId)(p:Option Addr)(n c:Nat)(x:Value):(Builtin.append_ #[24,25] ty #[.slice p n c,x]).run Tryz.prog w=(Builtin.append_ #[24,24] ty #[.slice p n c,x]).run Tryz.prog w:=by
 simp only[Builtin.append_,List.getElem?_toArray,List.getElem?_cons_zero,List.getElem?_cons_succ,Sem.run_bind,run_underlying Tryz.underlying24,run_underlying Tryz.underlying25,Result.andThen_ok]
theorem CX (w:World)(ty:TypeId)(v:Value)(n:Nat)(xs:List Value)(hown:w.ownsRow 0 60 2 v n xs)(a:Option Addr)(c:Nat):
 (Builtin.append_ #[24,24] ty #[v,.slice a 0 c]).run Tryz.prog w=.ok v w:=by
 obtain⟨i0,hin,hz0,hz1,hz2⟩:=info_parts AB
 have hld:∀ad,(loadCells ad 0).run Tryz.prog w=.ok #[] w:=fun ad=>rfl
 rcases hown.2 with⟨rfl,rfl⟩|⟨g,cap,cur,rfl,hbg,hg,hnc,hcm,hcs,htake⟩<;>cases a<;>
  simp[Builtin.append_,run_underlying Tryz.underlying24,sizeOf,typeInfo,Builtin.lenOf,Builtin.firstCells,storeCells, *]
theorem Ek (w:World)(ty:TypeId)(v:Value)(n:Nat)(xs:List Value)(hown:w.ownsRow 0 60 2 v n xs)(a:Option Addr)(c:Nat)(l:List R2)(hl:Rg w a l)(hb:(n+l.length)*16<=140737488355328):
 ∃v' w',(Builtin.append_ #[24,24] ty #[v,.slice a l.length c]).run Tryz.prog w=.ok v' w'/\w'.ownsRow 0 60 2 v' (n+l.length) (xs++l4 l)/\w.grownBy w' v.ownBlock/\(v'.ownBlock=v.ownBlock∨v'.ownBlock=some w.heap.size):=by
 obtain⟨i0,hin,hz0,hz1,hz2⟩:=info_parts AB
 rcases hl with rfl|⟨b,o,rfl,_,hc⟩
 ·refine⟨v,w,CX w ty v n xs hown a c,?_,⟨rfl,rfl,rfl,Nat.le_refl _,fun _ _ _=>rfl⟩,.inl rfl⟩
  rw[show l4 []=[]from rfl,List.append_nil]
  exact hown
 ·obtain⟨v',w',h1,h2,h3,_,h4⟩:=run_append_own_at (P:=Tryz.prog) w 0 24 ty 60 i0 (.agg #[.int .i64 0,.int .i64 0]) 2 16 Tryz.underlying24 hin hz0 hz1 hz2 rfl (by decide) v n xs hown ⟨b,o,none⟩ l.length c (l4 l) (D9 l) (BG hc) (AE l) (by unfold maxLen;omega) hb (Nat.zero_le _)
  exact⟨v',w',h1,h2,h3,h4⟩
theorem Em (w:World)(ty:TypeId)(v:Value)(n:Nat)(xs:List Value)(hown:w.ownsRow 0 60 2 v n xs)(a:Option Addr)(c:Nat)(l:List R2)(hl:Rg w a l)(hb:(n+l.length)*16<=140737488355328):
 ∃v' w',(Builtin.append_ #[24,25] ty #[v,.slice a l.length c]).run Tryz.prog w=.ok v' w'/\w'.ownsRow 0 60 2 v' (n+l.length) (xs++l4 l)/\w.grownBy w' v.ownBlock/\(v'.ownBlock=v.ownBlock∨v'.ownBlock=some w.heap.size):=by
 obtain⟨p0,c0,hv⟩:=e9 hown
 subst hv
 rw[GZ]
 exact Ek w ty _ n xs hown a c l hl hb
theorem Cx (w:World){ops:Array Oper}{rest:List Oper}{o:Oper}{a:Act}{Q:Exit->Act->World->Prop}(hgd:o.guard=none)(s x:Operand)
 (ho:o.op=.call {callee:=.builtin .append,args:=#[s,x],argTypes:=#[24,25]})
 (v:Value) (n:Nat) (xs:List Value) (hs:a.eval s=v) (hown:w.ownsRow 0 60 2 v n xs) (ad:Option Addr) (c:Nat) (l:List R2) (hx:a.eval x=.slice ad l.length c) (hl:Rg w ad l) (hb:(n+l.length)*16<=140737488355328)
 (h:∀v' w',w'.ownsRow 0 60 2 v' (n+l.length) (xs++l4 l)->w.grownBy w' v.ownBlock->(v'.ownBlock=v.ownBlock∨v'.ownBlock=some w.heap.size)->wpList Tryz.prog ops Q rest (a.put o.dst v') w'):wpList Tryz.prog ops Q (o::rest) a w:=by
 refine wpList_plain hgd fun K hK=>?_
 obtain⟨v',w',hr,h2,h3,h4⟩:=Em w o.type v n xs hown ad c l hl hb
 unfold Oper.wp execOp
 simp only[ho,resolve,invoke,builtin,Sem.run_bind,Sem.run_pure,Result.andThen_ok,List.map_toArray,List.map_cons,List.map_nil,hs,hx,hr]
 exact hK _ _ (h v' w' h2 h3 h4)
theorem CZ (w:World)(ty:TypeId)(v:Value)(n:Nat)(xs:List Value)(hown:w.ownsRow 0 87 2 v n xs)(a:Option Addr)(c:Nat):
 (Builtin.append_ #[84,84] ty #[v,.slice a 0 c]).run Tryz.prog w=.ok v w:=by
 obtain⟨i0,hin,hz0,hz1,hz2⟩:=info_parts Dv
 have hld:∀ad,(loadCells ad 0).run Tryz.prog w=.ok #[] w:=fun ad=>rfl
 rcases hown.2 with⟨rfl,rfl⟩|⟨g,cap,cur,rfl,hbg,hg,hnc,hcm,hcs,htake⟩<;>cases a<;>
  simp[Builtin.append_,run_underlying Tryz.underlying84,sizeOf,typeInfo,Builtin.lenOf,Builtin.firstCells,storeCells, *]
theorem Ei (w:World)(ty:TypeId)(v:Value)(n:Nat)(xs:List Value)(hown:w.ownsRow 0 87 2 v n xs)(a:Option Addr)(c:Nat)(l:List R2)(hl:Rg w a l)(hb:(n+l.length)*16<=140737488355328):
 ∃v' w',(Builtin.append_ #[84,84] ty #[v,.slice a l.length c]).run Tryz.prog w=.ok v' w'/\w'.ownsRow 0 87 2 v' (n+l.length) (xs++l4 l)/\w.grownBy w' v.ownBlock/\(v'.ownBlock=v.ownBlock∨v'.ownBlock=some w.heap.size):=by
 obtain⟨i0,hin,hz0,hz1,hz2⟩:=info_parts Dv
 rcases hl with rfl|⟨b,o,rfl,_,hc⟩
 ·refine⟨v,w,CZ w ty v n xs hown a c,?_,⟨rfl,rfl,rfl,Nat.le_refl _,fun _ _ _=>rfl⟩,.inl rfl⟩
  rw[show l4 []=[]from rfl,List.append_nil]
  exact hown
 ·obtain⟨v',w',h1,h2,h3,_,h4⟩:=run_append_own_at (P:=Tryz.prog) w 0 84 ty 87 i0 (.agg #[.int .i64 0,.int .i64 0]) 2 16 Tryz.underlying84 hin hz0 hz1 hz2 rfl (by decide) v n xs hown ⟨b,o,none⟩ l.length c (l4 l) (D9 l) (BG hc) (AE l) (by unfold maxLen;omega) hb (Nat.zero_le _)
  exact⟨v',w',h1,h2,h3,h4⟩
theorem l3 (w:World){ops:Array Oper}{rest:List Oper}{o:Oper}{a:Act}{Q:Exit->Act->World->Prop}(hgd:o.guard=none)(s x:Operand)
 (ho:o.op=.call {callee:=.builtin .append,args:=#[s,x],argTypes:=#[84,84]})
 (v:Value) (n:Nat) (xs:List Value) (hs:a.eval s=v) (hown:w.ownsRow 0 87 2 v n xs) (ad:Option Addr) (c:Nat) (l:List R2) (hx:a.eval x=.slice ad l.length c) (hl:Rg w ad l) (hb:(n+l.length)*16<=140737488355328)
 (h:∀v' w',w'.ownsRow 0 87 2 v' (n+l.length) (xs++l4 l)->w.grownBy w' v.ownBlock->(v'.ownBlock=v.ownBlock∨v'.ownBlock=some w.heap.size)->wpList Tryz.prog ops Q rest (a.put o.dst v') w'):wpList Tryz.prog ops Q (o::rest) a w:=by
 refine wpList_plain hgd fun K hK=>?_
 obtain⟨v',w',hr,h2,h3,h4⟩:=Ei w o.type v n xs hown ad c l hl hb
 unfold Oper.wp execOp
 simp only[ho,resolve,invoke,builtin,Sem.run_bind,Sem.run_pure,Result.andThen_ok,List.map_toArray,List.map_cons,List.map_nil,hs,hx,hr]
 exact hK _ _ (h v' w' h2 h3 h4)
theorem RK (w:World):Calls Tryz.prog 135 #[.string ⟨#[76]⟩] w fun e w'=>∃v,e=.returned v/\E9 w w' 87 v lL:=by
 have K0:=b6 (y4 (l:=Js) (by decide) (by decide) GP)
 have K1:=b6 (y4 (l:=Jq) (by decide) (by decide) GN)
 have K2:=b6 (y4 (l:=Jr) (by decide) (by decide) GO)
 obtain⟨w0,hw0⟩:∃w0,w0=w:=⟨_,rfl⟩
 have O:=b6 (show E9 w w0 87 (.slice none 0 0) []by rw[hw0];exact E9.nil w 87)
 rw[<-hw0]
 have HW:=b6 hw0
 clear hw0
 go_enter Tryz.func135,Tryz.ntmps135
 go_wp2_with fail
 refine(K0.out w0).mono ?_
 rintro e w1 ⟨v,rfl,o1⟩
 obtain⟨a1,c1,hv,hr⟩:=o1.slice
 subst hv
 replace O:=b6 (O.out.still o1.touch)
 have HR:=b6 hr
 clear o1 hr K0
 go_wp2_with (at_builtin;refine l3 _ rfl _ _ rfl _ _ _ rfl O.out.own _ _ Js rfl HR.out (by decide) ?_)
 intro v' w2 hown hgrow hat
 obtain⟨a3,c3,hv3⟩:=e9 hown
 subst hv3
 replace O:=b6 (O.out.on (xs:=Js) hown ⟨hgrow.os,hgrow.tape,hgrow.output,hgrow.size,hgrow.block⟩ hat)
 clear hown hgrow hat HR
 go_wp2_with fail
 refine(K1.out w2).mono ?_
 rintro e w3 ⟨v,rfl,o1⟩
 obtain⟨a1,c1,hv,hr⟩:=o1.slice
 subst hv
 replace O:=b6 (O.out.still o1.touch)
 have HR:=b6 hr
 clear o1 hr K1
 go_wp2_with (at_builtin;refine l3 _ rfl _ _ rfl _ _ _ rfl O.out.own _ _ Jq rfl HR.out (by decide) ?_)
 intro v' w4 hown hgrow hat
 obtain⟨a3,c3,hv3⟩:=e9 hown
 subst hv3
 replace O:=b6 (O.out.on (xs:=Jq) hown ⟨hgrow.os,hgrow.tape,hgrow.output,hgrow.size,hgrow.block⟩ hat)
 clear hown hgrow hat HR
 go_wp2_with fail
 refine(K2.out w4).mono ?_
 rintro e w5 ⟨v,rfl,o1⟩
 obtain⟨a1,c1,hv,hr⟩:=o1.slice
 subst hv
 replace O:=b6 (O.out.still o1.touch)
 have HR:=b6 hr
 clear o1 hr K2
 go_wp2_with (at_builtin;refine l3 _ rfl _ _ rfl _ _ _ rfl O.out.own _ _ Jr rfl HR.out (by decide) ?_)
 intro v' w6 hown hgrow hat
 obtain⟨a3,c3,hv3⟩:=e9 hown
 subst hv3
 replace O:=b6 (O.out.on (xs:=Jr) hown ⟨hgrow.os,hgrow.tape,hgrow.output,hgrow.size,hgrow.block⟩ hat)
 clear hown hgrow hat HR
 go_wp2
 go_ret
 refine⟨_,rfl,?_⟩
 rw[HW.out]
 exact O.out
theorem VG (w:World):Calls Tryz.prog 135 #[.string ⟨#[119]⟩] w fun e w'=>∃v,e=.returned v/\E9 w w' 87 v lW:=by
 have K0:=b6 RK
 have K1:=b6 (y4 (l:=Z3) (by decide) (by decide) BY)
 have K2:=b6 (y4 (l:=Kr) (by decide) (by decide) GQ)
 obtain⟨w0,hw0⟩:∃w0,w0=w:=⟨_,rfl⟩
 have O:=b6 (show E9 w w0 87 (.slice none 0 0) []by rw[hw0];exact E9.nil w 87)
 rw[<-hw0]
 have HW:=b6 hw0
 clear hw0
 go_enter Tryz.func135,Tryz.ntmps135
 go_wp2_with fail
 refine(K0.out w0).mono ?_
 rintro e w1 ⟨v,rfl,o1⟩
 obtain⟨a1,c1,hv,hr⟩:=o1.slice
 subst hv
 replace O:=b6 (O.out.still o1.touch)
 have HR:=b6 hr
 clear o1 hr K0
 go_wp2_with (at_builtin;refine l3 _ rfl _ _ rfl _ _ _ rfl O.out.own _ _ lL rfl HR.out (by decide) ?_)
 intro v' w2 hown hgrow hat
 obtain⟨a3,c3,hv3⟩:=e9 hown
 subst hv3
 replace O:=b6 (O.out.on (xs:=lL) hown ⟨hgrow.os,hgrow.tape,hgrow.output,hgrow.size,hgrow.block⟩ hat)
 clear hown hgrow hat HR
 go_wp2_with fail
 refine(K1.out w2).mono ?_
 rintro e w3 ⟨v,rfl,o1⟩
 obtain⟨a1,c1,hv,hr⟩:=o1.slice
 subst hv
 replace O:=b6 (O.out.still o1.touch)
 have HR:=b6 hr
 clear o1 hr K1
 go_wp2_with (at_builtin;refine l3 _ rfl _ _ rfl _ _ _ rfl O.out.own _ _ Z3 rfl HR.out (by decide) ?_)
 intro v' w4 hown hgrow hat
 obtain⟨a3,c3,hv3⟩:=e9 hown
 subst hv3
 replace O:=b6 (O.out.on (xs:=Z3) hown ⟨hgrow.os,hgrow.tape,hgrow.output,hgrow.size,hgrow.block⟩ hat)
 clear hown hgrow hat HR
 go_wp2_with fail
 refine(K2.out w4).mono ?_
 rintro e w5 ⟨v,rfl,o1⟩
 obtain⟨a1,c1,hv,hr⟩:=o1.slice
 subst hv
 replace O:=b6 (O.out.still o1.touch)
 have HR:=b6 hr
 clear o1 hr K2
 go_wp2_with (at_builtin;refine l3 _ rfl _ _ rfl _ _ _ rfl O.out.own _ _ Kr rfl HR.out (by decide) ?_)
 intro v' w6 hown hgrow hat
 obtain⟨a3,c3,hv3⟩:=e9 hown
 subst hv3
 replace O:=b6 (O.out.on (xs:=Kr) hown ⟨hgrow.os,hgrow.tape,hgrow.output,hgrow.size,hgrow.block⟩ hat)
 clear hown hgrow hat HR
 go_wp2
 go_ret
 refine⟨_,rfl,?_⟩
 rw[HW.out]
 exact O.out
theorem VD (w:World):Calls Tryz.prog 135 #[.string ⟨#[78]⟩] w fun e w'=>∃v,e=.returned v/\E9 w w' 87 v Z3:=by
 have K0:=b6 (y4 (l:=Z3) (by decide) (by decide) BY)
 go_enter Tryz.func135,Tryz.ntmps135
 go_wp2_with fail
 refine(K0.out w).mono ?_
 rintro e w1 ⟨v,rfl,o1⟩
 have O:=b6 o1
 clear o1 K0
 go_wp2
 go_ret
 exact⟨_,rfl,O.out⟩
theorem VE (w:World):Calls Tryz.prog 135 #[.string ⟨#[100]⟩] w fun e w'=>∃v,e=.returned v/\E9 w w' 87 v Z3:=by
 have K0:=b6 (y4 (l:=Z3) (by decide) (by decide) BY)
 go_enter Tryz.func135,Tryz.ntmps135
 go_wp2_with fail
 refine(K0.out w).mono ?_
 rintro e w1 ⟨v,rfl,o1⟩
 have O:=b6 o1
 clear o1 K0
 go_wp2
 go_ret
 exact⟨_,rfl,O.out⟩
theorem VF (w:World):Calls Tryz.prog 135 #[.string ⟨#[115]⟩] w fun e w'=>∃v,e=.returned v/\E9 w w' 87 v Bm:=by
 have K0:=b6 (y4 (l:=Bm) (by decide) (by decide) CW)
 go_enter Tryz.func135,Tryz.ntmps135
 go_wp2_with fail
 refine(K0.out w).mono ?_
 rintro e w1 ⟨v,rfl,o1⟩
 have O:=b6 o1
 clear o1 K0
 go_wp2
 go_ret
 exact⟨_,rfl,O.out⟩
theorem RJ (w:World):Calls Tryz.prog 135 #[.string ⟨#[65,110,121]⟩] w fun e w'=>∃v,e=.returned v/\E9 w w' 87 v Cp:=by
 go_enter Tryz.func135,Tryz.ntmps135
 go_wp2
 go_ret
 exact⟨_,rfl,s6 w 87 0 1114111⟩
def Cr (s:ByteArray):List R2:=match s5 s b8 with
 |some l=>l
 |none=>if s.data.toList=[100]then Z3 else if s.data.toList=[119]then lW else if s.data.toList=[115]then Bm else if s.data.toList=[115,112,97,99,101]then Bm else[]
theorem Pd:b8.all (fun p=>decide (Cr p.1=p.2))=true:=by decide
theorem J8 {s:ByteArray}{l:List UInt8}(h:s.data.toList=l):s=⟨l.toArray⟩:=ByteArray.ext (Array.ext' h)
theorem K9 {s:ByteArray}{l:List UInt8}(h:¬s.data.toList=l):(s.toList==l)=false:=by
 rw[Lib.toList_data]
 exact beq_eq_false_iff_ne.2 h
theorem RL (s:ByteArray)(w:World):Calls Tryz.prog 135 #[.string s] w fun e w'=>∃v,e=.returned v/\E9 w w' 87 v (Cr s):=by
 rcases Ff s with⟨p,hp,rfl⟩|h
 ·rw[of_decide_eq_true (List.all_eq_true.1 Pd p hp)]
  simp only[b8,List.mem_cons,List.not_mem_nil,or_false]at hp
  rcases hp with rfl|rfl|rfl|rfl|rfl|rfl|rfl|rfl|rfl|rfl|rfl|rfl|rfl|rfl|rfl|rfl|rfl|rfl
  ·exact RJ w
  ·exact y4 (l:=N7) (by decide) (by decide) Ef w
  ·exact y4 (l:=V8) (by decide) (by decide) Fm w
  ·exact y4 (l:=Bf) (by decide) (by decide) Ia w
  ·exact y4 (l:=Hq) (by decide) (by decide) LZ w
  ·exact y4 (l:=Z9) (by decide) (by decide) FZ w
  ·exact y4 (l:=N9) (by decide) (by decide) Eg w
  ·exact y4 (l:=O9) (by decide) (by decide) Eh w
  ·exact RK w
  ·exact y4 (l:=Bg) (by decide) (by decide) Ib w
  ·exact y4 (l:=Jq) (by decide) (by decide) GN w
  ·exact y4 (l:=Jr) (by decide) (by decide) GO w
  ·exact y4 (l:=Js) (by decide) (by decide) GP w
  ·exact VD w
  ·exact y4 (l:=Z3) (by decide) (by decide) BY w
  ·exact y4 (l:=lP) (by decide) (by decide) RH w
  ·exact y4 (l:=Kr) (by decide) (by decide) GQ w
  ·exact y4 (l:=Sm) (by decide) (by decide) Pc w
 ·have h0:=DV h
  by_cases h1:s.data.toList=[100]
  ·have:=J8 h1
   subst this
   exact VE w
  by_cases h2:s.data.toList=[119]
  ·have:=J8 h2
   subst this
   exact VG w
  by_cases h3:s.data.toList=[115]
  ·have:=J8 h3
   subst this
   exact VF w
  by_cases h4:s.data.toList=[115,112,97,99,101]
  ·have:=J8 h4
   subst this
   exact y4 (l:=Bm) (by decide) (by decide) CW w
  unfold Cr
  rw[h0]
  simp only
  rw[if_neg h1,if_neg h2,if_neg h3,if_neg h4]
  exact GR s [] (by decide) h.n0 h.n8 h.n13 (K9 h1) (K9 h2) (K9 h3) (JM s h (K9 h4)) w
theorem F6 (s:ByteArray)(w:World):Calls Tryz.prog 123 #[.string s] w fun e w'=>∃v,e=.returned v/\E9 w w' 87 v (Cr s):=by
 have K:=b6 (RL s w)
 generalize Cr s=l at*
 go_enter Tryz.func123,Tryz.ntmps123
 go_wp2_with fail
 refine K.out.mono ?_
 rintro e w1 ⟨v,rfl,o1⟩
 have O:=b6 o1
 clear o1 K
 go_wp2
 go_ret
 exact⟨_,rfl,O.out⟩
def Du (c:Int):Int:=if p6 c then(U7 c:Nat)else-1
theorem IY (c:Int)(w:World):Calls Tryz.prog 124 #[.int .i64 c] w fun e w'=>e=.returned (.int .i64 (Du c))/\w'=w:=by
 obtain⟨Z,hZ⟩:∃Z,Z=Du c:=⟨_,rfl⟩
 rw[<-hZ]
 have HZ:=b6 hZ
 clear hZ
 by_cases a1:c≥48
 ·by_cases a2:c<=57
  ·have HV:=b6 (show Z=c-48 by rw[HZ.out];unfold Du p6 p4 U7;rw[if_pos a2];simp[a1,a2];omega)
   have hw:IntKind.i64.wrap (c-48)=c-48:=by rw[IntKind.wrap_i64];omega
   go_enter Tryz.func124,Tryz.ntmps124
   go_wp2
   go_ret
   rw[HV.out]
   exact⟨rfl,rfl⟩
  ·by_cases a3:c≥65
   ·by_cases a4:c<=70
    ·have HV:=b6 (show Z=c-55 by rw[HZ.out];unfold Du p6 p4 U7;rw[if_neg a2,if_pos a4];simp[a1,a2,a3,a4];omega)
     have hw:IntKind.i64.wrap (c-55)=c-55:=by rw[IntKind.wrap_i64];omega
     go_enter Tryz.func124,Tryz.ntmps124
     go_wp2
     go_ret
     rw[HV.out]
     exact⟨rfl,rfl⟩
    ·by_cases a5:c≥97
     ·by_cases a6:c<=102
      ·have HV:=b6 (show Z=c-87 by rw[HZ.out];unfold Du p6 p4 U7;rw[if_neg a2,if_neg a4];simp[a1,a2,a3,a4,a5,a6];omega)
       have hw:IntKind.i64.wrap (c-87)=c-87:=by rw[IntKind.wrap_i64];omega
       go_enter Tryz.func124,Tryz.ntmps124
       go_wp2
       go_ret
       rw[HV.out]
       exact⟨rfl,rfl⟩
      ·have HV:=b6 (show Z= -1 by rw[HZ.out];unfold Du p6 p4;simp[a2,a4,a6])
       go_enter Tryz.func124,Tryz.ntmps124
       go_wp2
       go_ret
       rw[HV.out]
       exact⟨rfl,rfl⟩
     ·have HV:=b6 (show Z= -1 by rw[HZ.out];unfold Du p6 p4;simp[a2,a4,a5])
      go_enter Tryz.func124,Tryz.ntmps124
      go_wp2
      go_ret
      rw[HV.out]
      exact⟨rfl,rfl⟩
   ·have a5:¬c≥97:=by omega
    have HV:=b6 (show Z= -1 by rw[HZ.out];unfold Du p6 p4;simp[a2,a3,a5])
    go_enter Tryz.func124,Tryz.ntmps124
    go_wp2
    go_ret
    rw[HV.out]
    exact⟨rfl,rfl⟩
 ·have a3:¬c≥65:=by omega
  have a5:¬c≥97:=by omega
  have HV:=b6 (show Z= -1 by rw[HZ.out];unfold Du p6 p4;simp[a1,a3,a5])
  go_enter Tryz.func124,Tryz.ntmps124
  go_wp2
  go_ret
  rw[HV.out]
  exact⟨rfl,rfl⟩
end Go.Proofs.YtdhhcefmmojcmaaGreatDoor
