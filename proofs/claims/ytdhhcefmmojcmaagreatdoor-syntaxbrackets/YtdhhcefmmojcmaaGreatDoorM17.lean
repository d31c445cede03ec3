/- Texts of this proof, one behind the other. -/
import Derived.Test.YtdhhcefmmojcmaaGreatDoorM15
import Derived.Test.YtdhhcefmmojcmaaGreatDoorM16
set_option maxRecDepth 100000
set_option maxHeartbeats 0
set_option linter.unusedVariables false
namespace Go.Proofs.YtdhhcefmmojcmaaGreatDoor
open Go.RowKit Go.Lib
def W4 (b:Nat)(X:Px)(f:Fl)(vn:Value)(ns:List ByteArray)(op:Nat)(w:World):PR (List R2×Option Int×Nat)->Ending->World->Prop
 | .error (c,j),e,w'=>e=u6 c (g7 X.P j)/\b7 (fun g=>g=b) w w'
 | .ok (l,o,k1),e,w'=>∃v,e=.returned (.tuple #[v,.bool o.isSome])/\w'.ownsRow 0 60 2 v (s9 l).length (l4 (s9 l))/\(∀g,v.ownBlock=some g->w.heap.size<=g)/\PS w' b X k1 f vn ns op/\b7 (fun g=>g=b) w w'
theorem Wn (b:Nat)(X:Px)(k0 k:Nat)(f:Fl)(vn:Value)(ns:List ByteArray)(op:Nat)(w:World)(h:PS w b X k f vn ns op)(hX:X.Good)(hk:k<=X.R.length)(_hk0:k0<=X.R.length)(hc:g7 X.R k=100):
 Calls Tryz.prog 132 #[.pointer (some ⟨b,0,none⟩),.int .i64 (k0:Nat)] w fun e w'=>W4 b X f vn ns op w (.ok (Z3,none,k+1)) e w':=by
 have hk2:k<=1024:=by have:=hX.lenR;omega
 have HK:=b6 h
 have TK:=b6 (b7.refl (fun g=>g=b) w)
 clear h hX hk
 go_enter Tryz.func132,Tryz.ntmps132
 go_wp2_with fail
 refine(s8 HK.out (by omega) 100 hc (by decide)).mono ?_
 rintro e w1 ⟨rfl,hp,tt⟩
 replace HK:=b6 hp
 replace TK:=b6 (TK.out.trans tt iE)
 clear hp tt hc
 go_wp2_with fail
 refine(Ru w1).mono ?_
 rintro e w2 ⟨v,s,rfl,cs,hs,ow⟩
 have hcn:s=s9 (Z3):=CH cs (by simpa using hs)
 obtain⟨a2,c2,hv,_⟩:=ow.slice
 subst hv
 have O:=b6 (show w2.ownsRow 0 60 2 (.slice a2 s.length c2) (s9 (Z3)).length (l4 (s9 (Z3)))from by rw[<-hcn];exact ow.own)
 have N:=b6 (fun g e=>Nat.le_trans TK.out.size (ow.new g e))
 replace HK:=b6 (HK.out.new ow.touch)
 replace TK:=b6 (TK.out.trans ow.touch nE)
 clear ow cs hs hcn
 go_wp2
 refine bodyPost_ret (results_tmp2 rfl _ _ _) rfl ?_
 exact⟨_,rfl,O.out,N.out,HK.out,TK.out⟩
theorem Wj (b:Nat)(X:Px)(k0 k:Nat)(f:Fl)(vn:Value)(ns:List ByteArray)(op:Nat)(w:World)(h:PS w b X k f vn ns op)(hX:X.Good)(hk:k<=X.R.length)(_hk0:k0<=X.R.length)(hc:g7 X.R k=68):
 Calls Tryz.prog 132 #[.pointer (some ⟨b,0,none⟩),.int .i64 (k0:Nat)] w fun e w'=>W4 b X f vn ns op w (.ok (z6 Z3,none,k+1)) e w':=by
 have hk2:k<=1024:=by have:=hX.lenR;omega
 have HK:=b6 h
 have TK:=b6 (b7.refl (fun g=>g=b) w)
 clear h hX hk
 go_enter Tryz.func132,Tryz.ntmps132
 go_wp2_with fail
 refine(s8 HK.out (by omega) 68 hc (by decide)).mono ?_
 rintro e w1 ⟨rfl,hp,tt⟩
 replace HK:=b6 hp
 replace TK:=b6 (TK.out.trans tt iE)
 clear hp tt hc
 go_wp2_with fail
 refine(Vw w1).mono ?_
 rintro e w2 ⟨v,s,rfl,cs,hs,ow⟩
 have hcn:s=s9 (z6 Z3):=by rw[Cj];exact Fg cs (by simpa using hs)
 obtain⟨a2,c2,hv,_⟩:=ow.slice
 subst hv
 have O:=b6 (show w2.ownsRow 0 60 2 (.slice a2 s.length c2) (s9 (z6 Z3)).length (l4 (s9 (z6 Z3)))from by rw[<-hcn];exact ow.own)
 have N:=b6 (fun g e=>Nat.le_trans TK.out.size (ow.new g e))
 replace HK:=b6 (HK.out.new ow.touch)
 replace TK:=b6 (TK.out.trans ow.touch nE)
 clear ow cs hs hcn
 go_wp2
 refine bodyPost_ret (results_tmp2 rfl _ _ _) rfl ?_
 exact⟨_,rfl,O.out,N.out,HK.out,TK.out⟩
theorem Ws (b:Nat)(X:Px)(k0 k:Nat)(f:Fl)(vn:Value)(ns:List ByteArray)(op:Nat)(w:World)(h:PS w b X k f vn ns op)(hX:X.Good)(hk:k<=X.R.length)(_hk0:k0<=X.R.length)(hc:g7 X.R k=115):
 Calls Tryz.prog 132 #[.pointer (some ⟨b,0,none⟩),.int .i64 (k0:Nat)] w fun e w'=>W4 b X f vn ns op w (.ok (Bm,none,k+1)) e w':=by
 have hk2:k<=1024:=by have:=hX.lenR;omega
 have HK:=b6 h
 have TK:=b6 (b7.refl (fun g=>g=b) w)
 clear h hX hk
 go_enter Tryz.func132,Tryz.ntmps132
 go_wp2_with fail
 refine(s8 HK.out (by omega) 115 hc (by decide)).mono ?_
 rintro e w1 ⟨rfl,hp,tt⟩
 replace HK:=b6 hp
 replace TK:=b6 (TK.out.trans tt iE)
 clear hp tt hc
 go_wp2_with fail
 refine(Rv w1).mono ?_
 rintro e w2 ⟨v,s,rfl,cs,hs,ow⟩
 have hcn:s=s9 (Bm):=CH cs (by simpa using hs)
 obtain⟨a2,c2,hv,_⟩:=ow.slice
 subst hv
 have O:=b6 (show w2.ownsRow 0 60 2 (.slice a2 s.length c2) (s9 (Bm)).length (l4 (s9 (Bm)))from by rw[<-hcn];exact ow.own)
 have N:=b6 (fun g e=>Nat.le_trans TK.out.size (ow.new g e))
 replace HK:=b6 (HK.out.new ow.touch)
 replace TK:=b6 (TK.out.trans ow.touch nE)
 clear ow cs hs hcn
 go_wp2
 refine bodyPost_ret (results_tmp2 rfl _ _ _) rfl ?_
 exact⟨_,rfl,O.out,N.out,HK.out,TK.out⟩
theorem Wl (b:Nat)(X:Px)(k0 k:Nat)(f:Fl)(vn:Value)(ns:List ByteArray)(op:Nat)(w:World)(h:PS w b X k f vn ns op)(hX:X.Good)(hk:k<=X.R.length)(_hk0:k0<=X.R.length)(hc:g7 X.R k=83):
 Calls Tryz.prog 132 #[.pointer (some ⟨b,0,none⟩),.int .i64 (k0:Nat)] w fun e w'=>W4 b X f vn ns op w (.ok (z6 Bm,none,k+1)) e w':=by
 have hk2:k<=1024:=by have:=hX.lenR;omega
 have HK:=b6 h
 have TK:=b6 (b7.refl (fun g=>g=b) w)
 clear h hX hk
 go_enter Tryz.func132,Tryz.ntmps132
 go_wp2_with fail
 refine(s8 HK.out (by omega) 83 hc (by decide)).mono ?_
 rintro e w1 ⟨rfl,hp,tt⟩
 replace HK:=b6 hp
 replace TK:=b6 (TK.out.trans tt iE)
 clear hp tt hc
 go_wp2_with fail
 refine(Vx w1).mono ?_
 rintro e w2 ⟨v,s,rfl,cs,hs,ow⟩
 have hcn:s=s9 (z6 Bm):=by rw[Cj];exact Fg cs (by simpa using hs)
 obtain⟨a2,c2,hv,_⟩:=ow.slice
 subst hv
 have O:=b6 (show w2.ownsRow 0 60 2 (.slice a2 s.length c2) (s9 (z6 Bm)).length (l4 (s9 (z6 Bm)))from by rw[<-hcn];exact ow.own)
 have N:=b6 (fun g e=>Nat.le_trans TK.out.size (ow.new g e))
 replace HK:=b6 (HK.out.new ow.touch)
 replace TK:=b6 (TK.out.trans ow.touch nE)
 clear ow cs hs hcn
 go_wp2
 refine bodyPost_ret (results_tmp2 rfl _ _ _) rfl ?_
 exact⟨_,rfl,O.out,N.out,HK.out,TK.out⟩
theorem Wv (b:Nat)(X:Px)(k0 k:Nat)(f:Fl)(vn:Value)(ns:List ByteArray)(op:Nat)(w:World)(h:PS w b X k f vn ns op)(hX:X.Good)(hk:k<=X.R.length)(_hk0:k0<=X.R.length)(hc:g7 X.R k=119):
 Calls Tryz.prog 132 #[.pointer (some ⟨b,0,none⟩),.int .i64 (k0:Nat)] w fun e w'=>W4 b X f vn ns op w (.ok (lW,none,k+1)) e w':=by
 have hk2:k<=1024:=by have:=hX.lenR;omega
 have HK:=b6 h
 have TK:=b6 (b7.refl (fun g=>g=b) w)
 clear h hX hk
 go_enter Tryz.func132,Tryz.ntmps132
 go_wp2_with fail
 refine(s8 HK.out (by omega) 119 hc (by decide)).mono ?_
 rintro e w1 ⟨rfl,hp,tt⟩
 replace HK:=b6 hp
 replace TK:=b6 (TK.out.trans tt iE)
 clear hp tt hc
 go_wp2_with fail
 refine(Rw w1).mono ?_
 rintro e w2 ⟨v,s,rfl,cs,hs,ow⟩
 have hcn:s=s9 (lW):=CH cs (by simpa using hs)
 obtain⟨a2,c2,hv,_⟩:=ow.slice
 subst hv
 have O:=b6 (show w2.ownsRow 0 60 2 (.slice a2 s.length c2) (s9 (lW)).length (l4 (s9 (lW)))from by rw[<-hcn];exact ow.own)
 have N:=b6 (fun g e=>Nat.le_trans TK.out.size (ow.new g e))
 replace HK:=b6 (HK.out.new ow.touch)
 replace TK:=b6 (TK.out.trans ow.touch nE)
 clear ow cs hs hcn
 go_wp2
 refine bodyPost_ret (results_tmp2 rfl _ _ _) rfl ?_
 exact⟨_,rfl,O.out,N.out,HK.out,TK.out⟩
theorem Wm (b:Nat)(X:Px)(k0 k:Nat)(f:Fl)(vn:Value)(ns:List ByteArray)(op:Nat)(w:World)(h:PS w b X k f vn ns op)(hX:X.Good)(hk:k<=X.R.length)(_hk0:k0<=X.R.length)(hc:g7 X.R k=87):
 Calls Tryz.prog 132 #[.pointer (some ⟨b,0,none⟩),.int .i64 (k0:Nat)] w fun e w'=>W4 b X f vn ns op w (.ok (z6 lW,none,k+1)) e w':=by
 have hk2:k<=1024:=by have:=hX.lenR;omega
 have HK:=b6 h
 have TK:=b6 (b7.refl (fun g=>g=b) w)
 clear h hX hk
 go_enter Tryz.func132,Tryz.ntmps132
 go_wp2_with fail
 refine(s8 HK.out (by omega) 87 hc (by decide)).mono ?_
 rintro e w1 ⟨rfl,hp,tt⟩
 replace HK:=b6 hp
 replace TK:=b6 (TK.out.trans tt iE)
 clear hp tt hc
 go_wp2_with fail
 refine(Vy w1).mono ?_
 rintro e w2 ⟨v,s,rfl,cs,hs,ow⟩
 have hcn:s=s9 (z6 lW):=by rw[Cj];exact Fg cs (by simpa using hs)
 obtain⟨a2,c2,hv,_⟩:=ow.slice
 subst hv
 have O:=b6 (show w2.ownsRow 0 60 2 (.slice a2 s.length c2) (s9 (z6 lW)).length (l4 (s9 (z6 lW)))from by rw[<-hcn];exact ow.own)
 have N:=b6 (fun g e=>Nat.le_trans TK.out.size (ow.new g e))
 replace HK:=b6 (HK.out.new ow.touch)
 replace TK:=b6 (TK.out.trans ow.touch nE)
 clear ow cs hs hcn
 go_wp2
 refine bodyPost_ret (results_tmp2 rfl _ _ _) rfl ?_
 exact⟨_,rfl,O.out,N.out,HK.out,TK.out⟩
theorem Wq (b:Nat)(X:Px)(k0 k:Nat)(f:Fl)(vn:Value)(ns:List ByteArray)(op:Nat)(w:World)(h:PS w b X k f vn ns op)(hX:X.Good)(hk:k<=X.R.length)(hk0:k0<=X.R.length)(hc:g7 X.R k=112):
 Calls Tryz.prog 132 #[.pointer (some ⟨b,0,none⟩),.int .i64 (k0:Nat)] w fun e w'=>W4 b X f vn ns op w (match E7 X.R b8 k0 false (k+1)with| .error e=>.error e| .ok (l,k1)=>.ok (l,none,k1)) e w':=by
 have hk2:k<=1024:=by have:=hX.lenR;omega
 have HK:=b6 h
 have TK:=b6 (b7.refl (fun g=>g=b) w)
 have KN:=b6 (fun w' hp=>GC b X k0 (k+1) false f vn ns op w' hp hX (j9 hc (by decide)) hk0)
 clear h hX hk hk0
 obtain⟨A,hA⟩:∃A,A=E7 X.R b8 k0 false (k+1):=⟨_,rfl⟩
 rw[<-hA]at KN⊢
 clear hA
 match A with
 | .error (ec,ej)=>
   go_enter Tryz.func132,Tryz.ntmps132
   go_wp2_with fail
   refine(s8 HK.out (by omega) 112 hc (by decide)).mono ?_
   rintro e w1 ⟨rfl,hp,tt⟩
   replace HK:=b6 hp
   replace TK:=b6 (TK.out.trans tt iE)
   clear hp tt hc
   have KE:=b6 (KN.out _ HK.out)
   unfold Dm u6 at KE
   go_wp2_with fail
   refine KE.out.mono ?_
   rintro e w2 ⟨rfl,tt⟩
   replace TK:=b6 (TK.out.trans tt iE)
   clear tt KN KE
   go_wp2
   refine⟨rfl,?_⟩
   exact⟨rfl,TK.out⟩
 | .ok (l,k1)=>
   go_enter Tryz.func132,Tryz.ntmps132
   go_wp2_with fail
   refine(s8 HK.out (by omega) 112 hc (by decide)).mono ?_
   rintro e w1 ⟨rfl,hp,tt⟩
   replace HK:=b6 hp
   replace TK:=b6 (TK.out.trans tt iE)
   clear hp tt hc
   have KE:=b6 (KN.out _ HK.out)
   unfold Dm at KE
   go_wp2_with fail
   refine KE.out.mono ?_
   rintro e w2 ⟨v,rfl,ho,hn,hp,tt⟩
   obtain⟨a2,c2,hv⟩:=e9 ho
   subst hv
   have O:=b6 ho
   have N:=b6 (fun g e=>Nat.le_trans TK.out.size (hn g e))
   replace HK:=b6 hp
   replace TK:=b6 (TK.out.trans tt iE)
   clear ho hn hp tt KN KE
   go_wp2
   refine bodyPost_ret (results_tmp2 rfl _ _ _) rfl ?_
   exact⟨_,rfl,O.out,N.out,HK.out,TK.out⟩
theorem Wk (b:Nat)(X:Px)(k0 k:Nat)(f:Fl)(vn:Value)(ns:List ByteArray)(op:Nat)(w:World)(h:PS w b X k f vn ns op)(hX:X.Good)(hk:k<=X.R.length)(hk0:k0<=X.R.length)(hc:g7 X.R k=80):
 Calls Tryz.prog 132 #[.pointer (some ⟨b,0,none⟩),.int .i64 (k0:Nat)] w fun e w'=>W4 b X f vn ns op w (match E7 X.R b8 k0 true (k+1)with| .error e=>.error e| .ok (l,k1)=>.ok (l,none,k1)) e w':=by
 have hk2:k<=1024:=by have:=hX.lenR;omega
 have HK:=b6 h
 have TK:=b6 (b7.refl (fun g=>g=b) w)
 have KN:=b6 (fun w' hp=>GC b X k0 (k+1) true f vn ns op w' hp hX (j9 hc (by decide)) hk0)
 clear h hX hk hk0
 obtain⟨A,hA⟩:∃A,A=E7 X.R b8 k0 true (k+1):=⟨_,rfl⟩
 rw[<-hA]at KN⊢
 clear hA
 match A with
 | .error (ec,ej)=>
   go_enter Tryz.func132,Tryz.ntmps132
   go_wp2_with fail
   refine(s8 HK.out (by omega) 80 hc (by decide)).mono ?_
   rintro e w1 ⟨rfl,hp,tt⟩
   replace HK:=b6 hp
   replace TK:=b6 (TK.out.trans tt iE)
   clear hp tt hc
   have KE:=b6 (KN.out _ HK.out)
   unfold Dm u6 at KE
   go_wp2_with fail
   refine KE.out.mono ?_
   rintro e w2 ⟨rfl,tt⟩
   replace TK:=b6 (TK.out.trans tt iE)
   clear tt KN KE
   go_wp2
   refine⟨rfl,?_⟩
   exact⟨rfl,TK.out⟩
 | .ok (l,k1)=>
   go_enter Tryz.func132,Tryz.ntmps132
   go_wp2_with fail
   refine(s8 HK.out (by omega) 80 hc (by decide)).mono ?_
   rintro e w1 ⟨rfl,hp,tt⟩
   replace HK:=b6 hp
   replace TK:=b6 (TK.out.trans tt iE)
   clear hp tt hc
   have KE:=b6 (KN.out _ HK.out)
   unfold Dm at KE
   go_wp2_with fail
   refine KE.out.mono ?_
   rintro e w2 ⟨v,rfl,ho,hn,hp,tt⟩
   obtain⟨a2,c2,hv⟩:=e9 ho
   subst hv
   have O:=b6 ho
   have N:=b6 (fun g e=>Nat.le_trans TK.out.size (hn g e))
   replace HK:=b6 hp
   replace TK:=b6 (TK.out.trans tt iE)
   clear ho hn hp tt KN KE
   go_wp2
   refine bodyPost_ret (results_tmp2 rfl _ _ _) rfl ?_
   exact⟨_,rfl,O.out,N.out,HK.out,TK.out⟩
theorem Ww (b:Nat)(X:Px)(k0 k:Nat)(f:Fl)(vn:Value)(ns:List ByteArray)(op:Nat)(w:World)(h:PS w b X k f vn ns op)(hX:X.Good)(hk:k<=X.R.length)(hk0:k0<=X.R.length)(hc:g7 X.R k=120):
 Calls Tryz.prog 132 #[.pointer (some ⟨b,0,none⟩),.int .i64 (k0:Nat)] w fun e w'=>W4 b X f vn ns op w (match J9 X.R k0 (k+1)with| .error e=>.error e| .ok (n,k1)=>.ok ([((n:Int),(n:Int))],some (n:Int),k1)) e w':=by
 have hk2:k<=1024:=by have:=hX.lenR;omega
 have HK:=b6 h
 have TK:=b6 (b7.refl (fun g=>g=b) w)
 have KN:=b6 (fun w' hp=>Qg b X k0 (k+1) f vn ns op w' hp hX (j9 hc (by decide)) hk0)
 clear h hX hk hk0
 obtain⟨A,hA⟩:∃A,A=J9 X.R k0 (k+1):=⟨_,rfl⟩
 rw[<-hA]at KN⊢
 clear hA
 match A with
 | .error (ec,ej)=>
   go_enter Tryz.func132,Tryz.ntmps132
   go_wp2_with fail
   refine(s8 HK.out (by omega) 120 hc (by decide)).mono ?_
   rintro e w1 ⟨rfl,hp,tt⟩
   replace HK:=b6 hp
   replace TK:=b6 (TK.out.trans tt iE)
   clear hp tt hc
   have KE:=b6 (KN.out _ HK.out)
   unfold UD u6 at KE
   go_wp2_with fail
   refine KE.out.mono ?_
   rintro e w2 ⟨rfl,tt⟩
   replace TK:=b6 (TK.out.trans tt iE)
   clear tt KN KE
   go_wp2
   refine⟨rfl,?_⟩
   exact⟨rfl,TK.out⟩
 | .ok (n,k1)=>
   go_enter Tryz.func132,Tryz.ntmps132
   go_wp2_with fail
   refine(s8 HK.out (by omega) 120 hc (by decide)).mono ?_
   rintro e w1 ⟨rfl,hp,tt⟩
   replace HK:=b6 hp
   replace TK:=b6 (TK.out.trans tt iE)
   clear hp tt hc
   have KE:=b6 (KN.out _ HK.out)
   unfold UD at KE
   go_wp2_with fail
   refine KE.out.mono ?_
   rintro e w2 ⟨rfl,hp,tt⟩
   replace HK:=b6 hp
   replace TK:=b6 (TK.out.trans tt iE)
   clear hp tt KN KE
   go_wp2_with fail
   refine(M8 (n:Int) w2).mono ?_
   rintro e w3 ⟨v,rfl,ow⟩
   obtain⟨a2,c2,hv,_⟩:=ow.slice
   subst hv
   have O:=b6 ow.own
   have N:=b6 (fun g e=>Nat.le_trans TK.out.size (ow.new g e))
   replace HK:=b6 (HK.out.new ow.touch)
   replace TK:=b6 (TK.out.trans ow.touch nE)
   clear ow
   go_wp2
   refine bodyPost_ret (results_tmp2 rfl _ _ _) rfl ?_
   exact⟨_,rfl,O.out,N.out,HK.out,TK.out⟩
theorem Wp (b:Nat)(X:Px)(k0 k:Nat)(f:Fl)(vn:Value)(ns:List ByteArray)(op:Nat)(w:World)(h:PS w b X k f vn ns op)(hX:X.Good)(hk:k<=X.R.length)(_hk0:k0<=X.R.length)(hc:g7 X.R k=110):
 Calls Tryz.prog 132 #[.pointer (some ⟨b,0,none⟩),.int .i64 (k0:Nat)] w fun e w'=>W4 b X f vn ns op w (.ok ([(10,10)],some 10,k+1)) e w':=by
 have hk2:k<=1024:=by have:=hX.lenR;omega
 have HK:=b6 h
 have TK:=b6 (b7.refl (fun g=>g=b) w)
 clear h hX hk
 go_enter Tryz.func132,Tryz.ntmps132
 go_wp2_with fail
 refine(s8 HK.out (by omega) 110 hc (by decide)).mono ?_
 rintro e w1 ⟨rfl,hp,tt⟩
 replace HK:=b6 hp
 replace TK:=b6 (TK.out.trans tt iE)
 clear hp tt hc
 go_wp2_with fail
 refine(M8 10 w1).mono ?_
 rintro e w2 ⟨v,rfl,ow⟩
 obtain⟨a2,c2,hv,_⟩:=ow.slice
 subst hv
 have O:=b6 ow.own
 have N:=b6 (fun g e=>Nat.le_trans TK.out.size (ow.new g e))
 replace HK:=b6 (HK.out.new ow.touch)
 replace TK:=b6 (TK.out.trans ow.touch nE)
 clear ow
 go_wp2
 refine bodyPost_ret (results_tmp2 rfl _ _ _) rfl ?_
 exact⟨_,rfl,O.out,N.out,HK.out,TK.out⟩
theorem Wt (b:Nat)(X:Px)(k0 k:Nat)(f:Fl)(vn:Value)(ns:List ByteArray)(op:Nat)(w:World)(h:PS w b X k f vn ns op)(hX:X.Good)(hk:k<=X.R.length)(_hk0:k0<=X.R.length)(hc:g7 X.R k=116):
 Calls Tryz.prog 132 #[.pointer (some ⟨b,0,none⟩),.int .i64 (k0:Nat)] w fun e w'=>W4 b X f vn ns op w (.ok ([(9,9)],some 9,k+1)) e w':=by
 have hk2:k<=1024:=by have:=hX.lenR;omega
 have HK:=b6 h
 have TK:=b6 (b7.refl (fun g=>g=b) w)
 clear h hX hk
 go_enter Tryz.func132,Tryz.ntmps132
 go_wp2_with fail
 refine(s8 HK.out (by omega) 116 hc (by decide)).mono ?_
 rintro e w1 ⟨rfl,hp,tt⟩
 replace HK:=b6 hp
 replace TK:=b6 (TK.out.trans tt iE)
 clear hp tt hc
 go_wp2_with fail
 refine(M8 9 w1).mono ?_
 rintro e w2 ⟨v,rfl,ow⟩
 obtain⟨a2,c2,hv,_⟩:=ow.slice
 subst hv
 have O:=b6 ow.own
 have N:=b6 (fun g e=>Nat.le_trans TK.out.size (ow.new g e))
 replace HK:=b6 (HK.out.new ow.touch)
 replace TK:=b6 (TK.out.trans ow.touch nE)
 clear ow
 go_wp2
 refine bodyPost_ret (results_tmp2 rfl _ _ _) rfl ?_
 exact⟨_,rfl,O.out,N.out,HK.out,TK.out⟩
theorem Wr (b:Nat)(X:Px)(k0 k:Nat)(f:Fl)(vn:Value)(ns:List ByteArray)(op:Nat)(w:World)(h:PS w b X k f vn ns op)(hX:X.Good)(hk:k<=X.R.length)(_hk0:k0<=X.R.length)(hc:g7 X.R k=114):
 Calls Tryz.prog 132 #[.pointer (some ⟨b,0,none⟩),.int .i64 (k0:Nat)] w fun e w'=>W4 b X f vn ns op w (.ok ([(13,13)],some 13,k+1)) e w':=by
 have hk2:k<=1024:=by have:=hX.lenR;omega
 have HK:=b6 h
 have TK:=b6 (b7.refl (fun g=>g=b) w)
 clear h hX hk
 go_enter Tryz.func132,Tryz.ntmps132
 go_wp2_with fail
 refine(s8 HK.out (by omega) 114 hc (by decide)).mono ?_
 rintro e w1 ⟨rfl,hp,tt⟩
 replace HK:=b6 hp
 replace TK:=b6 (TK.out.trans tt iE)
 clear hp tt hc
 go_wp2_with fail
 refine(M8 13 w1).mono ?_
 rintro e w2 ⟨v,rfl,ow⟩
 obtain⟨a2,c2,hv,_⟩:=ow.slice
 subst hv
 have O:=b6 ow.own
 have N:=b6 (fun g e=>Nat.le_trans TK.out.size (ow.new g e))
 replace HK:=b6 (HK.out.new ow.touch)
 replace TK:=b6 (TK.out.trans ow.touch nE)
 clear ow
 go_wp2
 refine bodyPost_ret (results_tmp2 rfl _ _ _) rfl ?_
 exact⟨_,rfl,O.out,N.out,HK.out,TK.out⟩
theorem Wo (b:Nat)(X:Px)(k0 k:Nat)(f:Fl)(vn:Value)(ns:List ByteArray)(op:Nat)(w:World)(h:PS w b X k f vn ns op)(hX:X.Good)(hk:k<=X.R.length)(_hk0:k0<=X.R.length)(hc:g7 X.R k=102):
 Calls Tryz.prog 132 #[.pointer (some ⟨b,0,none⟩),.int .i64 (k0:Nat)] w fun e w'=>W4 b X f vn ns op w (.ok ([(12,12)],some 12,k+1)) e w':=by
 have hk2:k<=1024:=by have:=hX.lenR;omega
 have HK:=b6 h
 have TK:=b6 (b7.refl (fun g=>g=b) w)
 clear h hX hk
 go_enter Tryz.func132,Tryz.ntmps132
 go_wp2_with fail
 refine(s8 HK.out (by omega) 102 hc (by decide)).mono ?_
 rintro e w1 ⟨rfl,hp,tt⟩
 replace HK:=b6 hp
 replace TK:=b6 (TK.out.trans tt iE)
 clear hp tt hc
 go_wp2_with fail
 refine(M8 12 w1).mono ?_
 rintro e w2 ⟨v,rfl,ow⟩
 obtain⟨a2,c2,hv,_⟩:=ow.slice
 subst hv
 have O:=b6 ow.own
 have N:=b6 (fun g e=>Nat.le_trans TK.out.size (ow.new g e))
 replace HK:=b6 (HK.out.new ow.touch)
 replace TK:=b6 (TK.out.trans ow.touch nE)
 clear ow
 go_wp2
 refine bodyPost_ret (results_tmp2 rfl _ _ _) rfl ?_
 exact⟨_,rfl,O.out,N.out,HK.out,TK.out⟩
theorem Wu (b:Nat)(X:Px)(k0 k:Nat)(f:Fl)(vn:Value)(ns:List ByteArray)(op:Nat)(w:World)(h:PS w b X k f vn ns op)(hX:X.Good)(hk:k<=X.R.length)(_hk0:k0<=X.R.length)(hc:g7 X.R k=118):
 Calls Tryz.prog 132 #[.pointer (some ⟨b,0,none⟩),.int .i64 (k0:Nat)] w fun e w'=>W4 b X f vn ns op w (.ok ([(11,11)],some 11,k+1)) e w':=by
 have hk2:k<=1024:=by have:=hX.lenR;omega
 have HK:=b6 h
 have TK:=b6 (b7.refl (fun g=>g=b) w)
 clear h hX hk
 go_enter Tryz.func132,Tryz.ntmps132
 go_wp2_with fail
 refine(s8 HK.out (by omega) 118 hc (by decide)).mono ?_
 rintro e w1 ⟨rfl,hp,tt⟩
 replace HK:=b6 hp
 replace TK:=b6 (TK.out.trans tt iE)
 clear hp tt hc
 go_wp2_with fail
 refine(M8 11 w1).mono ?_
 rintro e w2 ⟨v,rfl,ow⟩
 obtain⟨a2,c2,hv,_⟩:=ow.slice
 subst hv
 have O:=b6 ow.own
 have N:=b6 (fun g e=>Nat.le_trans TK.out.size (ow.new g e))
 replace HK:=b6 (HK.out.new ow.touch)
 replace TK:=b6 (TK.out.trans ow.touch nE)
 clear ow
 go_wp2
 refine bodyPost_ret (results_tmp2 rfl _ _ _) rfl ?_
 exact⟨_,rfl,O.out,N.out,HK.out,TK.out⟩
theorem Oc (b:Nat)(X:Px)(k0 k:Nat)(f:Fl)(vn:Value)(ns:List ByteArray)(op:Nat)(w:World)(h:PS w b X k f vn ns op)(hX:X.Good)(hk:k<=X.R.length)(hk0:k0<=X.R.length)(x:Int)(hx:g7 X.R k=x)(n100:x≠100)(n68:x≠68)(n115:x≠115)(n83:x≠83)(n119:x≠119)(n87:x≠87)(n112:x≠112)(n80:x≠80)(n120:x≠120)(n110:x≠110)(n116:x≠116)(n114:x≠114)(n102:x≠102)(n118:x≠118):
 Calls Tryz.prog 132 #[.pointer (some ⟨b,0,none⟩),.int .i64 (k0:Nat)] w fun e w'=>W4 b X f vn ns op w (if x<33∨x>126∨u5 x=true then .error (20,k0)else .ok ([(x,x)],some x,k+1)) e w':=by
 have hk2:k<=1024:=by have:=hX.lenR;omega
 have HK:=b6 h
 have TK:=b6 (b7.refl (fun g=>g=b) w)
 have KW:=b6 (fun k1 w' hp=>A1 b X k1 f vn ns op 20 k0 w' hp (by have:=hX.lenP;omega))
 have b100:(x==100)=false:=beq_eq_false_iff_ne.2 n100
 have b68:(x==68)=false:=beq_eq_false_iff_ne.2 n68
 have b115:(x==115)=false:=beq_eq_false_iff_ne.2 n115
 have b83:(x==83)=false:=beq_eq_false_iff_ne.2 n83
 have b119:(x==119)=false:=beq_eq_false_iff_ne.2 n119
 have b87:(x==87)=false:=beq_eq_false_iff_ne.2 n87
 have b112:(x==112)=false:=beq_eq_false_iff_ne.2 n112
 have b80:(x==80)=false:=beq_eq_false_iff_ne.2 n80
 have b120:(x==120)=false:=beq_eq_false_iff_ne.2 n120
 have b110:(x==110)=false:=beq_eq_false_iff_ne.2 n110
 have b116:(x==116)=false:=beq_eq_false_iff_ne.2 n116
 have b114:(x==114)=false:=beq_eq_false_iff_ne.2 n114
 have b102:(x==102)=false:=beq_eq_false_iff_ne.2 n102
 have b118:(x==118)=false:=beq_eq_false_iff_ne.2 n118
 clear n100 n68 n115 n83 n119 n87 n112 n80 n120 n110 n116 n114 n102 n118
 clear h hX hk hk0
 by_cases hm:x= -1
 ·subst hm
  rw[if_pos (.inl (by decide))]
  clear b100 b68 b115 b83 b119 b87 b112 b80 b120 b110 b116 b114 b102 b118
  go_enter Tryz.func132,Tryz.ntmps132
  go_wp2_with fail
  refine(Sa HK.out (by omega) hx).mono ?_
  rintro e w1 ⟨rfl,hp,tt⟩
  replace HK:=b6 hp
  replace TK:=b6 (TK.out.trans tt iE)
  clear hp tt hx
  go_wp2_with fail
  refine(KW.out _ _ HK.out).mono ?_
  rintro e w9 ⟨rfl,t9⟩
  replace TK:=b6 (TK.out.trans t9 nE)
  clear t9 KW
  go_wp2
  exact⟨rfl,rfl,TK.out⟩
 ·by_cases h1:x<33
  ·rw[if_pos (.inl h1)]
   go_enter Tryz.func132,Tryz.ntmps132
   go_wp2_with fail
   refine(s8 HK.out (by omega) x hx hm).mono ?_
   rintro e w1 ⟨rfl,hp,tt⟩
   replace HK:=b6 hp
   replace TK:=b6 (TK.out.trans tt iE)
   clear hp tt hx
   go_wp2_with fail
   refine(KW.out _ _ HK.out).mono ?_
   rintro e w9 ⟨rfl,t9⟩
   replace TK:=b6 (TK.out.trans t9 nE)
   clear t9 KW
   go_wp2
   exact⟨rfl,rfl,TK.out⟩
  ·by_cases h2:x>126
   ·rw[if_pos (.inr (.inl h2))]
    go_enter Tryz.func132,Tryz.ntmps132
    go_wp2_with fail
    refine(s8 HK.out (by omega) x hx hm).mono ?_
    rintro e w1 ⟨rfl,hp,tt⟩
    replace HK:=b6 hp
    replace TK:=b6 (TK.out.trans tt iE)
    clear hp tt hx
    go_wp2_with fail
    refine(KW.out _ _ HK.out).mono ?_
    rintro e w9 ⟨rfl,t9⟩
    replace TK:=b6 (TK.out.trans t9 nE)
    clear t9 KW
    go_wp2
    exact⟨rfl,rfl,TK.out⟩
   ·cases ha:u5 x with
    |true=>
     rw[if_pos (.inr (.inr rfl))]
     go_enter Tryz.func132,Tryz.ntmps132
     go_wp2_with fail
     refine(s8 HK.out (by omega) x hx hm).mono ?_
     rintro e w1 ⟨rfl,hp,tt⟩
     replace HK:=b6 hp
     replace TK:=b6 (TK.out.trans tt iE)
     clear hp tt hx
     go_wp2_with fail
     refine(X1 w1).mono ?_
     rintro e w2 ⟨v,rfl,ow⟩
     obtain⟨a2,c2,hv,r2⟩:=ow.slice
     subst hv
     have KH:=b6 (ER a2 c2 (s9 Hp) x w2 r2 (r7 _).1)
     rw[Hj]at KH
     replace HK:=b6 (HK.out.new ow.touch)
     replace TK:=b6 (TK.out.trans ow.touch nE)
     clear ow r2
     rw[ha]at KH
     go_wp2_with fail
     refine KH.out.mono ?_
     rintro e w3 ⟨rfl,t3⟩
     replace HK:=b6 (HK.out.new t3)
     replace TK:=b6 (TK.out.trans t3 nE)
     clear t3 KH
     go_wp2_with fail
     refine(KW.out _ _ HK.out).mono ?_
     rintro e w9 ⟨rfl,t9⟩
     replace TK:=b6 (TK.out.trans t9 nE)
     clear t9 KW
     go_wp2
     exact⟨rfl,rfl,TK.out⟩
    |false=>
     rw[if_neg (fun e=>by rcases e with e|e|e;exact h1 e;exact h2 e;cases e)]
     go_enter Tryz.func132,Tryz.ntmps132
     go_wp2_with fail
     refine(s8 HK.out (by omega) x hx hm).mono ?_
     rintro e w1 ⟨rfl,hp,tt⟩
     replace HK:=b6 hp
     replace TK:=b6 (TK.out.trans tt iE)
     clear hp tt hx
     go_wp2_with fail
     refine(X1 w1).mono ?_
     rintro e w2 ⟨v,rfl,ow⟩
     obtain⟨a2,c2,hv,r2⟩:=ow.slice
     subst hv
     have KH:=b6 (ER a2 c2 (s9 Hp) x w2 r2 (r7 _).1)
     rw[Hj]at KH
     replace HK:=b6 (HK.out.new ow.touch)
     replace TK:=b6 (TK.out.trans ow.touch nE)
     clear ow r2
     rw[ha]at KH
     go_wp2_with fail
     refine KH.out.mono ?_
     rintro e w3 ⟨rfl,t3⟩
     replace HK:=b6 (HK.out.new t3)
     replace TK:=b6 (TK.out.trans t3 nE)
     clear t3 KH
     clear KW
     go_wp2_with fail
     refine(M8 x w3).mono ?_
     rintro e w4 ⟨v,rfl,ow⟩
     obtain⟨a4,c4,hv,_⟩:=ow.slice
     subst hv
     have O:=b6 ow.own
     have N:=b6 (fun g e=>Nat.le_trans TK.out.size (ow.new g e))
     replace HK:=b6 (HK.out.new ow.touch)
     replace TK:=b6 (TK.out.trans ow.touch nE)
     clear ow
     go_wp2
     refine bodyPost_ret (results_tmp2 rfl _ _ _) rfl ?_
     exact⟨_,rfl,O.out,N.out,HK.out,TK.out⟩
theorem EO (b:Nat)(X:Px)(k0 k:Nat)(f:Fl)(vn:Value)(ns:List ByteArray)(op:Nat)(w:World)(h:PS w b X k f vn ns op)(hX:X.Good)(hk:k<=X.R.length)(hk0:k0<=X.R.length):
 Calls Tryz.prog 132 #[.pointer (some ⟨b,0,none⟩),.int .i64 (k0:Nat)] w fun e w'=>W4 b X f vn ns op w (L3 X.R b8 k0 k) e w':=by
 unfold L3 AA
 by_cases h100:g7 X.R k=100
 ·rw[if_pos h100]
  exact Wn b X k0 k f vn ns op w h hX hk hk0 h100
 rw[if_neg h100]
 by_cases h68:g7 X.R k=68
 ·rw[if_pos h68]
  exact Wj b X k0 k f vn ns op w h hX hk hk0 h68
 rw[if_neg h68]
 by_cases h115:g7 X.R k=115
 ·rw[if_pos h115]
  exact Ws b X k0 k f vn ns op w h hX hk hk0 h115
 rw[if_neg h115]
 by_cases h83:g7 X.R k=83
 ·rw[if_pos h83]
  exact Wl b X k0 k f vn ns op w h hX hk hk0 h83
 rw[if_neg h83]
 by_cases h119:g7 X.R k=119
 ·rw[if_pos h119]
  exact Wv b X k0 k f vn ns op w h hX hk hk0 h119
 rw[if_neg h119]
 by_cases h87:g7 X.R k=87
 ·rw[if_pos h87]
  exact Wm b X k0 k f vn ns op w h hX hk hk0 h87
 rw[if_neg h87]
 by_cases h112:g7 X.R k=112
 ·rw[if_pos (.inl h112),decide_eq_false (by rw[h112];decide)]
  exact Wq b X k0 k f vn ns op w h hX hk hk0 h112
 by_cases h80:g7 X.R k=80
 ·rw[if_pos (.inr h80),decide_eq_true h80]
  exact Wk b X k0 k f vn ns op w h hX hk hk0 h80
 rw[if_neg (fun e=>by rcases e with e|e;exact h112 e;exact h80 e)]
 by_cases h120:g7 X.R k=120
 ·rw[if_pos h120]
  exact Ww b X k0 k f vn ns op w h hX hk hk0 h120
 rw[if_neg h120]
 by_cases h110:g7 X.R k=110
 ·rw[if_pos h110]
  exact Wp b X k0 k f vn ns op w h hX hk hk0 h110
 rw[if_neg h110]
 by_cases h116:g7 X.R k=116
 ·rw[if_pos h116]
  exact Wt b X k0 k f vn ns op w h hX hk hk0 h116
 rw[if_neg h116]
 by_cases h114:g7 X.R k=114
 ·rw[if_pos h114]
  exact Wr b X k0 k f vn ns op w h hX hk hk0 h114
 rw[if_neg h114]
 by_cases h102:g7 X.R k=102
 ·rw[if_pos h102]
  exact Wo b X k0 k f vn ns op w h hX hk hk0 h102
 rw[if_neg h102]
 by_cases h118:g7 X.R k=118
 ·rw[if_pos h118]
  exact Wu b X k0 k f vn ns op w h hX hk hk0 h118
 rw[if_neg h118]
 exact Oc b X k0 k f vn ns op w h hX hk hk0 _ rfl h100 h68 h115 h83 h119 h87 h112 h80 h120 h110 h116 h114 h102 h118
theorem Fe (b:Nat)(X:Px)(k0 k:Nat)(f:Fl)(vn:Value)(ns:List ByteArray)(op:Nat)(w:World)(h:PS w b X k f vn ns op)(hX:X.Good)(hk:k<=X.R.length)(hk0:k0<=X.R.length):
 Calls Tryz.prog 141 #[.pointer (some ⟨b,0,none⟩),.int .i64 (k0:Nat)] w fun e w'=>W4 b X f vn ns op w (G7 X.R b8 k0 k) e w':=by
 have hk2:k<=1024:=by have:=hX.lenR;omega
 obtain⟨A,hA⟩:∃A,A=G7 X.R b8 k0 k:=⟨_,rfl⟩
 have HA:=b6 hA.symm
 rw[<-hA]
 unfold G7 at HA
 clear hA
 have HK:=b6 h
 have TK:=b6 (b7.refl (fun g=>g=b) w)
 have KW:=b6 (fun k1 w' hp=>A1 b X k1 f vn ns op 24 k0 w' hp (by have:=hX.lenP;omega))
 by_cases hm:g7 X.R k= -1
 ·rw[if_pos hm]at HA
  clear h hX hk hk0
  have c5:=HK.out.c5
  go_enter Tryz.func141,Tryz.ntmps141
  go_wp2_with fail
  refine(Sa HK.out (by omega) hm).mono ?_
  rintro e w1 ⟨rfl,hp,tt⟩
  replace HK:=b6 hp
  replace TK:=b6 (TK.out.trans tt iE)
  clear hp tt hm c5
  go_wp2_with fail
  refine(KW.out _ _ HK.out).mono ?_
  rintro e w9 ⟨rfl,t9⟩
  replace TK:=b6 (TK.out.trans t9 nE)
  clear t9 KW
  go_wp2
  refine⟨rfl,?_⟩
  rw[<-HA.out]
  exact⟨rfl,TK.out⟩
 rw[if_neg hm]at HA
 have hk3:k+1<=X.R.length:=I6 hm
 have KE:=b6 (fun w' hp=>EO b X k (k+1) f vn ns op w' hp hX hk3 hk)
 clear h hX hk hk0 KW hk3
 by_cases h92:g7 X.R k=92
 ·rw[if_pos h92]at HA
  rw[HA.out]at KE
  have c5:=HK.out.c5
  match A with
  | .error (ec,ej)=>
    go_enter Tryz.func141,Tryz.ntmps141
    go_wp2_with fail
    refine(s8 HK.out (by omega) 92 h92 (by decide)).mono ?_
    rintro e w1 ⟨rfl,hp,tt⟩
    replace HK:=b6 hp
    replace TK:=b6 (TK.out.trans tt iE)
    clear hp tt h92 hm c5
    have KF:=b6 (KE.out _ HK.out)
    unfold W4 u6 at KF
    go_wp2_with fail
    refine KF.out.mono ?_
    rintro e w2 ⟨rfl,tt⟩
    replace TK:=b6 (TK.out.trans tt iE)
    clear tt KE KF
    go_wp2
    exact⟨rfl,rfl,TK.out⟩
  | .ok (l,o,k1)=>
    go_enter Tryz.func141,Tryz.ntmps141
    go_wp2_with fail
    refine(s8 HK.out (by omega) 92 h92 (by decide)).mono ?_
    rintro e w1 ⟨rfl,hp,tt⟩
    replace HK:=b6 hp
    replace TK:=b6 (TK.out.trans tt iE)
    clear hp tt h92 hm c5
    have KF:=b6 (KE.out _ HK.out)
    unfold W4 at KF
    go_wp2_with fail
    refine KF.out.mono ?_
    rintro e w2 ⟨v,rfl,ho,hn,hp,tt⟩
    obtain⟨a2,c2,hv⟩:=e9 ho
    subst hv
    have O:=b6 ho
    have N:=b6 (fun g e=>Nat.le_trans TK.out.size (hn g e))
    replace HK:=b6 hp
    replace TK:=b6 (TK.out.trans tt iE)
    clear ho hn hp tt KE KF
    go_wp2
    refine bodyPost_ret (results_tmp2 rfl _ _ _) rfl ?_
    exact⟨_,rfl,O.out,N.out,HK.out,TK.out⟩
 rw[if_neg h92]at HA
 have KT:=b6 (s8 HK.out (by omega) _ rfl hm)
 generalize g7 X.R k=x at*
 have b1:(x== -1)=false:=beq_eq_false_iff_ne.2 hm
 have b2:(x==92)=false:=beq_eq_false_iff_ne.2 h92
 have c5:=HK.out.c5
 clear KE hm h92
 go_enter Tryz.func141,Tryz.ntmps141
 go_wp2_with fail
 refine KT.out.mono ?_
 rintro e w1 ⟨rfl,hp,tt⟩
 replace HK:=b6 hp
 replace TK:=b6 (TK.out.trans tt iE)
 clear hp tt KT c5
 go_wp2_with fail
 refine(M8 x w1).mono ?_
 rintro e w2 ⟨v,rfl,ow⟩
 obtain⟨a2,c2,hv,_⟩:=ow.slice
 subst hv
 have O:=b6 ow.own
 have N:=b6 (fun g e=>Nat.le_trans TK.out.size (ow.new g e))
 replace HK:=b6 (HK.out.new ow.touch)
 replace TK:=b6 (TK.out.trans ow.touch nE)
 clear ow
 go_wp2
 refine bodyPost_ret (results_tmp2 rfl _ _ _) rfl ?_
 rw[<-HA.out]
 exact⟨_,rfl,O.out,N.out,HK.out,TK.out⟩
end Go.Proofs.YtdhhcefmmojcmaaGreatDoor
