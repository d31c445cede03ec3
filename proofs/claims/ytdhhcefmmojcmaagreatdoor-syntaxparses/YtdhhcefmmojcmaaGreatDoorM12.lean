/- Texts of this proof, one behind the other. -/
import Derived.Test.YtdhhcefmmojcmaaGreatDoorM11
import Derived.OwnWalk
import Derived.Laws.Tables
import Derived.Test.YtdhhcefmmojcmaaGreatDoorM10
import Derived.Deep.QuietTactic
import Derived.BigQuiet
import Derived.Test.YtdhhcefmmojcmaaGreatDoorM5
import Derived.Test.YtdhhcefmmojcmaaGreatDoorM0
set_option maxRecDepth 100000
set_option maxHeartbeats 0
set_option linter.unusedVariables false
namespace Go.Proofs.YtdhhcefmmojcmaaGreatDoor
open Go.RowKit Go.Lib
theorem o7 {b:Nat}{X:Px}{k:Nat}{f:Fl}{vn:Value}{ns:List ByteArray}{op:Nat}(c:UInt8){w:World}(h:PS w b X k f vn ns op)(hk:k<=2000)(hc:g7 X.R k=(c.toNat:Int)):
 Calls Tryz.prog 69 #[.pointer (some ⟨b,0,none⟩),.string ⟨#[c]⟩] w fun e w'=>e=.returned (.bool true)/\PS w' b X (k+1) f vn ns op/\b7 (fun g=>g=b) w w':=by
 have h1:=Dh b X k f vn ns op ⟨#[c]⟩ w h hk (by show(1:Nat)<=8;omega)
 have e:Sh X.R k (⟨#[c]⟩:ByteArray).data.toList=true:=by show(decide (g7 X.R k=(c.toNat:Int))&&true)=true;rw[hc];simp
 rw[e,if_pos rfl]at h1
 exact h1
theorem o6 {b:Nat}{X:Px}{k:Nat}{f:Fl}{vn:Value}{ns:List ByteArray}{op:Nat}(c:UInt8){w:World}(h:PS w b X k f vn ns op)(hk:k<=2000)(hc:g7 X.R k≠(c.toNat:Int)):
 Calls Tryz.prog 69 #[.pointer (some ⟨b,0,none⟩),.string ⟨#[c]⟩] w fun e w'=>e=.returned (.bool false)/\PS w' b X k f vn ns op/\b7 (fun g=>g=b) w w':=by
 have h1:=Dh b X k f vn ns op ⟨#[c]⟩ w h hk (by show(1:Nat)<=8;omega)
 have e:Sh X.R k (⟨#[c]⟩:ByteArray).data.toList=false:=by show(decide (g7 X.R k=(c.toNat:Int))&&true)=false;rw[decide_eq_false hc];rfl
 rw[e,if_neg (by decide)]at h1
 exact h1
theorem ED {b:Nat}{X:Px}{k:Nat}{f:Fl}{vn:Value}{ns:List ByteArray}{op:Nat}(c d:UInt8){w:World}(h:PS w b X k f vn ns op)(hk:k<=2000)(hc:g7 X.R k=(c.toNat:Int))(hd:g7 X.R (k+1)=(d.toNat:Int)):
 Calls Tryz.prog 69 #[.pointer (some ⟨b,0,none⟩),.string ⟨#[c,d]⟩] w fun e w'=>e=.returned (.bool true)/\PS w' b X (k+2) f vn ns op/\b7 (fun g=>g=b) w w':=by
 have h1:=Dh b X k f vn ns op ⟨#[c,d]⟩ w h hk (by show(2:Nat)<=8;omega)
 have e:Sh X.R k (⟨#[c,d]⟩:ByteArray).data.toList=true:=by show(decide (g7 X.R k=(c.toNat:Int))&&(decide (g7 X.R (k+1)=(d.toNat:Int))&&true))=true;rw[hc,hd];simp
 rw[e,if_pos rfl]at h1
 exact h1
theorem Ac {b:Nat}{X:Px}{k:Nat}{f:Fl}{vn:Value}{ns:List ByteArray}{op:Nat}(c d:UInt8){w:World}(h:PS w b X k f vn ns op)(hk:k<=2000)(hc:¬(g7 X.R k=(c.toNat:Int)/\g7 X.R (k+1)=(d.toNat:Int))):
 Calls Tryz.prog 69 #[.pointer (some ⟨b,0,none⟩),.string ⟨#[c,d]⟩] w fun e w'=>e=.returned (.bool false)/\PS w' b X k f vn ns op/\b7 (fun g=>g=b) w w':=by
 have h1:=Dh b X k f vn ns op ⟨#[c,d]⟩ w h hk (by show(2:Nat)<=8;omega)
 have e:Sh X.R k (⟨#[c,d]⟩:ByteArray).data.toList=false:=by
  show(decide (g7 X.R k=(c.toNat:Int))&&(decide (g7 X.R (k+1)=(d.toNat:Int))&&true))=false
  by_cases h1:g7 X.R k=(c.toNat:Int)
  ·rw[decide_eq_false (fun h2=>hc ⟨h1,h2⟩)];simp
  ·rw[decide_eq_false h1];rfl
 rw[e,if_neg (by decide)]at h1
 exact h1
def VX (b:Nat)(X:Px)(f:Fl)(vn:Value)(ns:List ByteArray)(op:Nat)(w:World):Option (Int×Int×Nat)->Ending->World->Prop
 |some (x,y,k1),e,w'=>e=.returned (.tuple #[.int .i64 x,.int .i64 y,.bool true])/\PS w' b X k1 f vn ns op/\b7 (fun g=>g=b) w w'
 |none,e,w'=>∃(x y:Int) (k1:Nat),e=.returned (.tuple #[.int .i64 x,.int .i64 y,.bool false])/\PS w' b X k1 f vn ns op/\b7 (fun g=>g=b) w w'
theorem JG (b:Nat)(X:Px)(k:Nat)(f:Fl)(vn:Value)(ns:List ByteArray)(op:Nat)(w:World)(h:PS w b X k f vn ns op)(hX:X.Good)(hk:k<=X.R.length):
 Calls Tryz.prog 126 #[.pointer (some ⟨b,0,none⟩)] w fun e w'=>VX b X f vn ns op w (S7 X.R k) e w':=by
 have HX:=b6 hX
 have HRl:=b6 hX.lenR
 obtain⟨A,hA⟩:∃A,A=S7 X.R k:=⟨_,rfl⟩
 have HA:=b6 hA.symm
 rw[<-hA]
 clear hA
 unfold S7 at HA
 simp only at HA
 have HK:=b6 h
 have TK:=b6 (b7.refl (fun g=>g=b) w)
 obtain⟨l,hl⟩:∃l,l6 X.R p4 4 k=l:=⟨_,rfl⟩
 have hdl:(M3 X.R 4 k).length=l.length:=by rw[V4,hl,List.length_map]
 have hdn:M3 X.R 4 k=[]↔l=[]:=by rw[V4,hl,List.map_eq_nil_iff]
 have hle:=Eq X.R 4 k hk
 clear h
 by_cases h0:l=[]
 ·subst h0
  rw[if_pos (hdn.2 rfl)]at HA
  have K1:=b6 (GE b X k f vn ns op w HK.out hX hk hl)
  clear hdl hdn hle hl hk hX
  go_enter Tryz.func126,Tryz.ntmps126
  go_wp2_with fail
  refine K1.out.mono ?_
  rintro e w1 ⟨n,rfl,hp,tt⟩
  replace HK:=b6 hp
  replace TK:=b6 (TK.out.trans tt iE)
  clear hp tt K1
  go_wp2
  refine bodyPost_ret (results_tmp3 rfl _ _ _) rfl ?_
  rw[<-HA.out]
  exact⟨_,_,_,rfl,HK.out,TK.out⟩
 ·rw[if_neg (fun e=>h0 (hdn.1 e)),hdl]at HA
  rw[hdl]at hle
  have K1:=b6 (Fh b X k f vn ns op w HK.out hX hk l hl h0)
  generalize L0 (M3 X.R 4 k)=n1 at*
  obtain⟨k1,hk1⟩:∃k1,k1=k+l.length:=⟨_,rfl⟩
  rw[<-hk1]at HA K1 hle
  clear hdl hdn hl h0 hk hX hk1
  have hk2:k1<=1024:=by have:=HRl.out;omega
  have HLE:=b6 hle
  clear hle
  by_cases h1:g7 X.R k1=125
  ·rw[if_pos h1]at HA
   go_enter Tryz.func126,Tryz.ntmps126
   go_wp2_with fail
   refine(K1.out).mono ?_
   rintro e ws1 ⟨rfl,hp,tt⟩
   replace HK:=b6 hp
   replace TK:=b6 (TK.out.trans tt iE)
   clear hp tt
   clear K1
   go_wp2_with fail
   refine(o7 125 HK.out (by omega) h1).mono ?_
   rintro e ws2 ⟨rfl,hp,tt⟩
   replace HK:=b6 hp
   replace TK:=b6 (TK.out.trans tt iE)
   clear hp tt
   clear h1
   go_wp2
   refine bodyPost_ret (results_tmp3 rfl _ _ _) rfl ?_
   rw[<-HA.out]
   exact⟨rfl,HK.out,TK.out⟩
  rw[if_neg h1]at HA
  by_cases h2:g7 X.R k1=44
  ·rw[if_pos h2]at HA
   by_cases h3:g7 X.R (k1+1)=125
   ·rw[if_pos h3]at HA
    go_enter Tryz.func126,Tryz.ntmps126
    go_wp2_with fail
    refine(K1.out).mono ?_
    rintro e ws1 ⟨rfl,hp,tt⟩
    replace HK:=b6 hp
    replace TK:=b6 (TK.out.trans tt iE)
    clear hp tt
    clear K1
    go_wp2_with fail
    refine(o6 125 HK.out (by omega) h1).mono ?_
    rintro e ws2 ⟨rfl,hp,tt⟩
    replace HK:=b6 hp
    replace TK:=b6 (TK.out.trans tt iE)
    clear hp tt
    go_wp2_with fail
    refine(ED 44 125 HK.out (by omega) h2 h3).mono ?_
    rintro e ws3 ⟨rfl,hp,tt⟩
    replace HK:=b6 hp
    replace TK:=b6 (TK.out.trans tt iE)
    clear hp tt
    clear h1 h2 h3
    go_wp2
    refine bodyPost_ret (results_tmp3 rfl _ _ _) rfl ?_
    rw[<-HA.out]
    exact⟨rfl,HK.out,TK.out⟩
   ·rw[if_neg h3]at HA
    have hk3:k1+1<=X.R.length:=j9 h2 (by decide)
    have HN3:=b6 (show ¬(g7 X.R k1=((44:UInt8).toNat:Int)/\g7 X.R (k1+1)=((125:UInt8).toNat:Int))from fun e=>h3 e.2)
    obtain⟨m,hm⟩:∃m,l6 X.R p4 4 (k1+1)=m:=⟨_,rfl⟩
    have hdl:(M3 X.R 4 (k1+1)).length=m.length:=by rw[V4,hm,List.length_map]
    have hdn:M3 X.R 4 (k1+1)=[]↔m=[]:=by rw[V4,hm,List.map_eq_nil_iff]
    have hle:=Eq X.R 4 (k1+1) hk3
    by_cases h0:m=[]
    ·subst h0
     rw[if_pos (hdn.2 rfl)]at HA
     have K2:=b6 (fun w' hp=>GE b X (k1+1) f vn ns op w' hp HX.out hk3 hm)
     clear hdl hdn hle hm hk3 h3
     go_enter Tryz.func126,Tryz.ntmps126
     go_wp2_with fail
     refine(K1.out).mono ?_
     rintro e ws1 ⟨rfl,hp,tt⟩
     replace HK:=b6 hp
     replace TK:=b6 (TK.out.trans tt iE)
     clear hp tt
     clear K1
     go_wp2_with fail
     refine(o6 125 HK.out (by omega) h1).mono ?_
     rintro e ws2 ⟨rfl,hp,tt⟩
     replace HK:=b6 hp
     replace TK:=b6 (TK.out.trans tt iE)
     clear hp tt
     go_wp2_with fail
     refine(Ac 44 125 HK.out (by omega) HN3.out).mono ?_
     rintro e ws3 ⟨rfl,hp,tt⟩
     replace HK:=b6 hp
     replace TK:=b6 (TK.out.trans tt iE)
     clear hp tt
     go_wp2_with fail
     refine(o7 44 HK.out (by omega) h2).mono ?_
     rintro e ws4 ⟨rfl,hp,tt⟩
     replace HK:=b6 hp
     replace TK:=b6 (TK.out.trans tt iE)
     clear hp tt
     clear h1 h2 HN3
     go_wp2_with fail
     refine(K2.out _ HK.out).mono ?_
     rintro e w5 ⟨n,rfl,hp,tt⟩
     replace HK:=b6 hp
     replace TK:=b6 (TK.out.trans tt iE)
     clear hp tt K2
     go_wp2
     refine bodyPost_ret (results_tmp3 rfl _ _ _) rfl ?_
     rw[<-HA.out]
     exact⟨_,_,_,rfl,HK.out,TK.out⟩
    ·rw[if_neg (fun e=>h0 (hdn.1 e)),hdl]at HA
     rw[hdl]at hle
     have K2:=b6 (fun w' hp=>Fh b X (k1+1) f vn ns op w' hp HX.out hk3 m hm h0)
     generalize L0 (M3 X.R 4 (k1+1))=n2 at*
     obtain⟨k2,hk2'⟩:∃k2,k2=k1+1+m.length:=⟨_,rfl⟩
     rw[<-hk2']at HA K2 hle
     have hk4:k2<=1024:=by have:=HRl.out;omega
     clear hdl hdn hm h0 hk3 h3 hle hk2'
     by_cases h5:g7 X.R k2=125
     ·rw[if_pos h5]at HA
      go_enter Tryz.func126,Tryz.ntmps126
      go_wp2_with fail
      refine(K1.out).mono ?_
      rintro e ws1 ⟨rfl,hp,tt⟩
      replace HK:=b6 hp
      replace TK:=b6 (TK.out.trans tt iE)
      clear hp tt
      clear K1
      go_wp2_with fail
      refine(o6 125 HK.out (by omega) h1).mono ?_
      rintro e ws2 ⟨rfl,hp,tt⟩
      replace HK:=b6 hp
      replace TK:=b6 (TK.out.trans tt iE)
      clear hp tt
      go_wp2_with fail
      refine(Ac 44 125 HK.out (by omega) HN3.out).mono ?_
      rintro e ws3 ⟨rfl,hp,tt⟩
      replace HK:=b6 hp
      replace TK:=b6 (TK.out.trans tt iE)
      clear hp tt
      go_wp2_with fail
      refine(o7 44 HK.out (by omega) h2).mono ?_
      rintro e ws4 ⟨rfl,hp,tt⟩
      replace HK:=b6 hp
      replace TK:=b6 (TK.out.trans tt iE)
      clear hp tt
      clear h1 h2 HN3
      go_wp2_with fail
      refine(K2.out _ HK.out).mono ?_
      rintro e ws5 ⟨rfl,hp,tt⟩
      replace HK:=b6 hp
      replace TK:=b6 (TK.out.trans tt iE)
      clear hp tt
      clear K2
      go_wp2_with fail
      refine(o7 125 HK.out (by omega) h5).mono ?_
      rintro e ws6 ⟨rfl,hp,tt⟩
      replace HK:=b6 hp
      replace TK:=b6 (TK.out.trans tt iE)
      clear hp tt
      clear h5
      go_wp2
      refine bodyPost_ret (results_tmp3 rfl _ _ _) rfl ?_
      rw[<-HA.out]
      exact⟨rfl,HK.out,TK.out⟩
     ·rw[if_neg h5]at HA
      go_enter Tryz.func126,Tryz.ntmps126
      go_wp2_with fail
      refine(K1.out).mono ?_
      rintro e ws1 ⟨rfl,hp,tt⟩
      replace HK:=b6 hp
      replace TK:=b6 (TK.out.trans tt iE)
      clear hp tt
      clear K1
      go_wp2_with fail
      refine(o6 125 HK.out (by omega) h1).mono ?_
      rintro e ws2 ⟨rfl,hp,tt⟩
      replace HK:=b6 hp
      replace TK:=b6 (TK.out.trans tt iE)
      clear hp tt
      go_wp2_with fail
      refine(Ac 44 125 HK.out (by omega) HN3.out).mono ?_
      rintro e ws3 ⟨rfl,hp,tt⟩
      replace HK:=b6 hp
      replace TK:=b6 (TK.out.trans tt iE)
      clear hp tt
      go_wp2_with fail
      refine(o7 44 HK.out (by omega) h2).mono ?_
      rintro e ws4 ⟨rfl,hp,tt⟩
      replace HK:=b6 hp
      replace TK:=b6 (TK.out.trans tt iE)
      clear hp tt
      clear h1 h2 HN3
      go_wp2_with fail
      refine(K2.out _ HK.out).mono ?_
      rintro e ws5 ⟨rfl,hp,tt⟩
      replace HK:=b6 hp
      replace TK:=b6 (TK.out.trans tt iE)
      clear hp tt
      clear K2
      go_wp2_with fail
      refine(o6 125 HK.out (by omega) h5).mono ?_
      rintro e ws6 ⟨rfl,hp,tt⟩
      replace HK:=b6 hp
      replace TK:=b6 (TK.out.trans tt iE)
      clear hp tt
      clear h5
      go_wp2
      refine bodyPost_ret (results_tmp3 rfl _ _ _) rfl ?_
      rw[<-HA.out]
      exact⟨_,_,_,rfl,HK.out,TK.out⟩
  ·rw[if_neg h2]at HA
   have HN3:=b6 (show ¬(g7 X.R k1=((44:UInt8).toNat:Int)/\g7 X.R (k1+1)=((125:UInt8).toNat:Int))from fun e=>h2 e.1)
   go_enter Tryz.func126,Tryz.ntmps126
   go_wp2_with fail
   refine(K1.out).mono ?_
   rintro e ws1 ⟨rfl,hp,tt⟩
   replace HK:=b6 hp
   replace TK:=b6 (TK.out.trans tt iE)
   clear hp tt
   clear K1
   go_wp2_with fail
   refine(o6 125 HK.out (by omega) h1).mono ?_
   rintro e ws2 ⟨rfl,hp,tt⟩
   replace HK:=b6 hp
   replace TK:=b6 (TK.out.trans tt iE)
   clear hp tt
   go_wp2_with fail
   refine(Ac 44 125 HK.out (by omega) HN3.out).mono ?_
   rintro e ws3 ⟨rfl,hp,tt⟩
   replace HK:=b6 hp
   replace TK:=b6 (TK.out.trans tt iE)
   clear hp tt
   go_wp2_with fail
   refine(o6 44 HK.out (by omega) h2).mono ?_
   rintro e ws4 ⟨rfl,hp,tt⟩
   replace HK:=b6 hp
   replace TK:=b6 (TK.out.trans tt iE)
   clear hp tt
   clear h1 h2 HN3
   go_wp2
   refine bodyPost_ret (results_tmp3 rfl _ _ _) rfl ?_
   rw[<-HA.out]
   exact⟨_,_,_,rfl,HK.out,TK.out⟩
structure j4 where
 kind:Int
 sa:Option Addr
 sn:Nat
 sc:Nat
 fold:Bool
 min:Int
 max:Int
 lazy:Bool
 cap:Int
 name:ByteArray
 ka:Option Addr
 kn:Nat
 kc:Nat
def j4.arr (c:j4):Array Value:=#[.int .i64 c.kind,.slice c.sa c.sn c.sc,.bool c.fold,.int .i64 c.min,.int .i64 c.max,.bool c.lazy,.int .i64 c.cap,.string c.name,.slice c.ka c.kn c.kc]
def j4.list (c:j4):List Value:=[.int .i64 c.kind,.slice c.sa c.sn c.sc,.bool c.fold,.int .i64 c.min,.int .i64 c.max,.bool c.lazy,.int .i64 c.cap,.string c.name,.slice c.ka c.kn c.kc]
theorem j4.one (c:j4):c.arr.all (·.oneCell')=true:=by simp[j4.arr,Value.oneCell']
def j4.zero:j4:=⟨0,none,0,0,false,0,0,false,0,⟨#[]⟩,none,0,0⟩
def CL (w:World)(v:Value)(cs:List j4):Prop:=w.ownsRow 0 28 9 v cs.length (cs.flatMap j4.list)
def SR (w:World)(v:Value)(s:List R2):Prop:=w.ownsRow 0 60 2 v s.length (l4 s)
inductive TN (w:World)(B:Nat->Prop):j4->Nd->Prop
 |mk (c:j4) (set:List R2) (kids:List Nd) (cs:List j4) (hs:SR w (.slice c.sa c.sn c.sc) set) (bs:∀g,(Value.slice c.sa c.sn c.sc).ownBlock=some g->B g) (hk:CL w (.slice c.ka c.kn c.kc) cs) (bk:∀g,(Value.slice c.ka c.kn c.kc).ownBlock=some g->B g)
  (hl:cs.length=kids.length) (ht:∀(i:Nat) (c:j4) (x:Nd),cs[i]? =some c->kids[i]? =some x->TN w B c x):TN w B c (.mk c.kind c.min c.max c.cap c.fold c.lazy set c.name kids)
def NT (w:World)(g:Nat):Prop:=∀cs t fr,w.heap[g]? =some (.cells cs t fr)->t≠60/\t≠28
theorem TN.kept {w w':World}{B S:Nat->Prop}{c:j4}{x:Nd}(h:TN w B c x)(tc:b7 S w w')(hS:∀g,B g->S g->NT w g):TN w' B c x:=by
 induction h with
 |mk c set kids cs hs bs hk bk hl ht ih=>
  refine .mk c set kids cs (g9 hs tc (fun g e s=>?_)) bs (g9 hk tc (fun g e s=>?_)) bk hl ih
  ·obtain⟨cs,fr,hh⟩:=j5 hs g e
   exact(hS g (bs g e) s _ _ _ hh).1 rfl
  ·obtain⟨cs,fr,hh⟩:=j5 hk g e
   exact(hS g (bk g e) s _ _ _ hh).2 rfl
theorem TN.more {w:World}{B B':Nat->Prop}{c:j4}{x:Nd}(h:TN w B c x)(hS:∀g,B g->B' g):TN w B' c x:=by
 induction h with
 |mk c set kids cs hs bs hk bk hl ht ih=>exact .mk c set kids cs hs (fun g e=>hS g (bs g e)) hk (fun g e=>hS g (bk g e)) hl ih
theorem TN.new {w w':World}{B:Nat->Prop}{c:j4}{x:Nd}(h:TN w B c x)(tc:b7 (fun _=>False) w w'):TN w' B c x:=h.kept tc nE
theorem Iq (w:World):SR w (.slice none 0 0) []:=World.ownsRow_nil _ _ _ _
theorem He (w:World):CL w (.slice none 0 0) []:=World.ownsRow_nil _ _ _ _
theorem PS.far {w w':World}{b:Nat}{X:Px}{k:Nat}{f:Fl}{vn:Value}{ns:List ByteArray}{op:Nat}{S:Nat->Prop}(h:PS w b X k f vn ns op)(t:b7 S w w')(hS:∀g,S g->b<g/\∀cs fr,w.heap[g]? ≠some (.cells cs 9 fr)):PS w' b X k f vn ns op:=
 ⟨(t.block b h.lt (fun e=>by have:=(hS _ e).1;omega)).trans h.cells,h.runes.kept t (fun g o e x=>by have:=h.oldR g o e;have:=(hS _ x).1;omega) (fun g o hl e=>AM (by rw[<-e];exact h.runes) hl),
   h.places.kept t (fun g o e x=>by have:=h.oldP g o e;have:=(hS _ x).1;omega) (fun g o hl e=>AM (by rw[<-e];exact h.places) hl),
   g9 h.names t (fun g e x=>by obtain⟨cs,fr,hh⟩:=j5 h.names g e;exact(hS g x).2 _ _ hh),h.oldR,h.oldP,h.env.kept t (fun g e=>by have:=(hS g e).1;have:=h.low;omega),h.low,h.lowN,h.apN⟩
theorem PS.nt {w:World}{b:Nat}{X:Px}{k:Nat}{f:Fl}{vn:Value}{ns:List ByteArray}{op:Nat}(h:PS w b X k f vn ns op){g:Nat}(hg:g=b∨vn.ownBlock=some g):NT w g:=by
 intro cs t fr e
 rcases hg with rfl|hg
 ·rw[h.cells]at e
  cases e
  decide
 ·obtain⟨cs2,fr2,hh⟩:=j5 h.names g hg
  rw[hh]at e
  cases e
  decide
theorem g8 (w:World)(q:Nat)(cs:Array Value):b7 (fun g=>g=q) w (w.setRow q cs):=
 ⟨rfl,rfl,rfl,by simp,fun k _ hk=>setRow_other w q k cs hk⟩
theorem l7:(Tryz.prog.info? 28).map (·.size)=some 9:=by kernel_rfl
def Px.dcells (X:Px)(k:Nat)(f:Fl)(op:Nat)(vN vn:Value)(er ea:Int):Array Value:=
 #[.slice X.ar X.R.length X.cr,.slice X.ap X.P.length X.cp,.int .i64 (k:Nat),.bool f.i,.bool f.m,.bool f.s,.bool f.u,.int .i64 (op:Nat),vN,.int .i64 0,vn,.int .i64 er,.int .i64 ea]
structure DS (w:World)(b:Nat)(X:Px)(k:Nat)(f:Fl)(op:Nat)(vN vn:Value)(er ea:Int):Prop where
 cells:w.heap[b]? =some (.cells (X.dcells k f op vN vn er ea) 82 (0,0))
 runes:Io w X.ar X.R
 places:Io w X.ap X.P
 oldR:∀g o,X.ar=some ⟨g,o,none⟩->g<b
 oldP:∀g o,X.ap=some ⟨g,o,none⟩->g<b
section
variable {w : World} {b : Nat} {X : Px} {k : Nat} {f : Fl} {op : Nat} {vN vn : Value} {er ea : Int}
theorem DS.c (h:DS w b X k f op vN vn er ea)(i:Nat)(v:Value)(hv:(X.dcells k f op vN vn er ea)[i]? =some v):w.cell? ⟨b,i,none⟩=some v:=by simp[World.cell?,h.cells,hv]
theorem DS.fr (h:DS w b X k f op vN vn er ea)(i:Nat):w.frozen? ⟨b,i,none⟩=false:=by have:=h.cells;simp[World.frozen?,this]
theorem DS.lt (h:DS w b X k f op vN vn er ea):b<w.heap.size:=lt_of_block h.cells
theorem DS.new {w':World}(h:DS w b X k f op vN vn er ea)(t:b7 (fun _=>False) w w'):DS w' b X k f op vN vn er ea:=
 ⟨(t.block b h.lt id).trans h.cells,h.runes.new t,h.places.new t,h.oldR,h.oldP⟩
theorem DS.turn {w':World}{k':Nat}{f':Fl}{op':Nat}{vN' vn':Value}{er' ea':Int}{S:Nat->Prop}(h:DS w b X k f op vN vn er ea)(hc:w'.heap[b]? =some (.cells (X.dcells k' f' op' vN' vn' er' ea') 82 (0,0)))(t:b7 S w w')(hS:∀g,S g->b<=g):DS w' b X k' f' op' vN' vn' er' ea':=
 ⟨hc,h.runes.kept t (fun g o e x=>by have:=h.oldR g o e;have:=hS g x;omega) (fun g o hl e=>AM (by rw[<-e];exact h.runes) hl),h.places.kept t (fun g o e x=>by have:=h.oldP g o e;have:=hS g x;omega) (fun g o hl e=>AM (by rw[<-e];exact h.places) hl),h.oldR,h.oldP⟩
theorem DS.setk (h:DS w b X k f op vN vn er ea)(k':Nat):DS (w.setCell ⟨b,2,none⟩ (.int .i64 (k':Nat))) b X k' f op vN vn er ea:=
 h.turn (i8 h.cells 2 _) (d9 _ _ _ _) (fun g e=>by omega)
end
theorem Uw {w:World}{a:Option Addr}{l:List Int}(h:Io w a l){k:Nat}(hk:k<l.length):∃g o,a=some ⟨g,o,none⟩/\g<w.heap.size/\w.cell? ⟨g,o+k,none⟩=some (.int .i64 l[k]):=by
 have h':=h
 rcases h with h|⟨g,o,e,hc⟩
 ·rw[h]at hk;simp at hk
 ·exact⟨g,o,e,AM (by rw[e]at h';exact h') (fun e2=>by rw[e2]at hk;simp at hk),hc k hk⟩
theorem j7 (b:Nat)(X:Px)(k:Nat)(f:Fl)(op:Nat)(vN vn:Value)(c j:Nat)(w:World)(h:DS w b X k f op vN vn 0 0)(hj:j<X.P.length):
 Calls Tryz.prog 74 #[.pointer (some ⟨b,0,none⟩),.int .i64 (c:Nat),.int .i64 (j:Nat)] w fun e w'=>e=.returned (.tuple #[])/\DS w' b X X.R.length f op vN vn (c:Nat) (g7 X.P j)/\b7 (fun g=>g=b) w w':=by
 obtain⟨g,o,hap,hgl,hcell⟩:=Uw h.places hj
 have hne:g≠b:=by have:=h.oldP g o hap;omega
 obtain⟨y,hy⟩:∃y,y=g7 X.P j:=⟨_,rfl⟩
 rw[<-P8 hj,<-hy]at hcell
 rw[<-hy]
 have c1:w.cell? ⟨b,1,none⟩=some (.slice (some ⟨g,o,none⟩) X.P.length X.cp):=by rw[<-hap];exact h.c 1 _ rfl
 have c11:w.cell? ⟨b,11,none⟩=some (.int .i64 0):=h.c 11 _ rfl
 have c12:w.cell? ⟨b,12,none⟩=some (.int .i64 0):=h.c 12 _ rfl
 have f11:=h.fr 11
 have f12:=h.fr 12
 have f2:=h.fr 2
 have hjI:(j:Int)<(X.P.length:Int):=by omega
 have H1:=b6 (i8 (i8 h.cells 11 (.int .i64 (c:Nat))) 12 (.int .i64 y))
 have T1:=b6 (b7.trans (S:=fun g=>g=b) (d9 w b 11 (.int .i64 (c:Nat))) (d9 _ b 12 (.int .i64 y)) iE)
 have HD:=b6 h
 clear h hap hy hj
 go_enter Tryz.func74,Tryz.ntmps74
 go_upto_region 2 with fail
 generalize (w.setCell ⟨b,11,none⟩ (.int .i64 (c:Nat))).setCell ⟨b,12,none⟩ (.int .i64 y)=w1 at*
 have D1:=b6 (show DS w1 b X k f op vN vn (c:Nat) y from HD.out.turn H1.out T1.out (fun g e=>by omega))
 clear c1 c11 c12 f11 f12 f2 hcell hjI H1
 have d0:w1.cell? ⟨b,0,none⟩=some (.slice X.ar X.R.length X.cr):=D1.out.c 0 _ rfl
 have e2:=D1.out.fr 2
 have d2:w1.cell? ⟨b,2,none⟩=some (.int .i64 (k:Nat)):=D1.out.c 2 _ rfl
 have D2:=b6 (D1.out.setk X.R.length)
 have T2:=b6 (T1.out.trans (d9 w1 b 2 (.int .i64 (X.R.length:Nat))) iE)
 go_wp2
 go_end0
 exact⟨rfl,D2.out,T2.out⟩
theorem j6 (b:Nat)(X:Px)(k:Nat)(f:Fl)(op:Nat)(vN vn:Value)(er ea:Int)(d:Nat)(w:World)(h:DS w b X k f op vN vn er ea)(hk:k<=4096)(hd:d<=4096):
 Calls Tryz.prog 73 #[.pointer (some ⟨b,0,none⟩),.int .i64 (d:Nat)] w fun e w'=>e=.returned (.int .i64 (g7 X.R (k+d)))/\∃n,w'=w.drewN n:=by
 have c0:w.cell? ⟨b,0,none⟩=some (.slice X.ar X.R.length X.cr):=h.c 0 _ rfl
 have c2:w.cell? ⟨b,2,none⟩=some (.int .i64 (k:Nat)):=h.c 2 _ rfl
 have hwr:IntKind.i64.wrap ((k:Int)+(d:Int))=((k+d:Nat):Int):=by rw[IntKind.wrap_i64];omega
 by_cases hlt:k+d<X.R.length
 ·obtain⟨g,o,hap,hgl,hcell⟩:=Uw h.runes hlt
  obtain⟨y,hy⟩:∃y,y=g7 X.R (k+d):=⟨_,rfl⟩
  rw[<-P8 hlt,<-hy]at hcell
  rw[<-hy]
  rw[hap]at c0
  obtain⟨n,hn⟩:∃n,n=k+d:=⟨_,rfl⟩
  rw[<-hn]at hwr hlt hcell
  have hlI:(n:Int)<(X.R.length:Int):=by omega
  clear hap hy hn h hk hd
  go_enter Tryz.func73,Tryz.ntmps73
  go_wp2_with fail
  go_region
  go_wp2_with fail
  go_region
  go_wp2
  go_ret
  exact⟨rfl,2,rfl⟩
 ·obtain⟨n,hn⟩:∃n,n=k+d:=⟨_,rfl⟩
  rw[<-hn]at hwr hlt⊢
  rw[Bi (by omega)]
  have hlI:¬(n:Int)<(X.R.length:Int):=by omega
  clear hn h hk hd
  go_enter Tryz.func73,Tryz.ntmps73
  go_wp2_with fail
  go_region
  go_wp2
  go_ret
  exact⟨rfl,1,rfl⟩
theorem Vv (b:Nat)(X:Px)(k:Nat)(f:Fl)(op:Nat)(vN vn:Value)(er ea:Int)(d:Nat)(w:World)(h:DS w b X k f op vN vn er ea)(hk:k<=4096)(hd:d<=4096)(n:Nat):
 Calls Tryz.prog 73 #[.pointer (some ⟨b,0,none⟩),.int .i64 (d:Nat)] (w.drewN n) fun e w'=>e=.returned (.int .i64 (g7 X.R (k+d)))/\∃m,w'=w.drewN m:=by
 refine(j6 b X k f op vN vn er ea d (w.drewN n) (h.new ((b7.refl _ _).drewN n)) hk hd).mono ?_
 rintro e w' ⟨h1,m,rfl⟩
 exact⟨h1,n+m,by simp⟩
def EM (R:List Int)(k:Nat)(s:ByteArray):Bool:=(List.range s.size).all fun i=>g7 R (k+i)==(l5 s i:Int)
theorem EN {R:List Int}{k:Nat}{s:ByteArray}{i:Nat}(hi:i<s.size)(h:g7 R (k+i)≠(l5 s i:Int)):EM R k s=false:=by
 unfold EM
 refine List.all_eq_false.2 ⟨i,List.mem_range.2 hi,?_⟩
 simpa using h
theorem MD {R:List Int}{k:Nat}{s:ByteArray}(h:∀i,i<s.size->g7 R (k+i)=(l5 s i:Int)):EM R k s=true:=by
 unfold EM
 refine List.all_eq_true.2 (fun i hi=>?_)
 rw[h i (List.mem_range.1 hi)]
 simp
theorem BT (b:Nat)(X:Px)(k:Nat)(f:Fl)(op:Nat)(vN vn:Value)(er ea:Int)(s:ByteArray)(w:World)(h:DS w b X k f op vN vn er ea)(hk:k<=2048)(hs:s.size<=1024):
 Calls Tryz.prog 52 #[.pointer (some ⟨b,0,none⟩),.string s] w fun e w'=>e=.returned (.bool (EM X.R k s))/\DS w' b X (if EM X.R k s then k+s.size else k) f op vN vn er ea/\b7 (fun g=>g=b) w w':=by
 have HD:=b6 h
 obtain⟨Z,hZ⟩:∃Z,Z=EM X.R k s:=⟨_,rfl⟩
 obtain⟨kZ,hkZ⟩:∃kZ,kZ=if Z then k+s.size else k:=⟨_,rfl⟩
 rw[<-hZ,<-hkZ]
 have HZ0:=b6 hZ
 have HK:=b6 hkZ
 clear h hZ hkZ
 go_enter Tryz.func52,Tryz.ntmps52
 go_wp2_with fail
 go_loopg [5] s.size (fun gk v5 wq=>∃i:Nat,i+gk=s.size/\v5=.int .i64 (i:Nat)/\Hid (∀j,j<i->g7 X.R (k+j)=(l5 s j:Int))/\Hid (b7 (fun _=>False) w wq))
 case atStart=>exact⟨0,Nat.zero_add _,rfl,b6 (fun j hj=>absurd hj (Nat.not_lt_zero _)),b6 (b7.refl _ _)⟩
 case round=>
  obtain⟨i,hgk,rfl,HA,HT⟩:=hrel
  have HQ:=b6 (HD.out.new HT.out)
  by_cases hlt:i<s.size
  ·have hltI:(i:Int)<(s.size:Int):=by omega
   have KP:=b6 (Vv b X k f op vN vn er ea i wr HQ.out (by omega) (by omega))
   have hB:s[i].toNat=l5 s i:=by unfold l5;rw[dif_pos hlt]
   obtain⟨y,hy⟩:∃y,y=g7 X.R (k+i):=⟨_,rfl⟩
   rw[<-hy]at KP
   have HY:=b6 hy
   clear hy
   obtain⟨z,hz⟩:∃z:Nat,z=s[i].toNat:=⟨_,rfl⟩
   have HZ:=b6 (show z=l5 s i from by rw[hz];exact hB)
   have hzs:s[i].toNat=z:=hz.symm
   have hz255:z<=255:=by have:=s[i].toNat_lt;omega
   have hwz:IntKind.i64.wrap (z:Int)=(z:Int):=by rw[IntKind.wrap_i64];omega
   clear hB hz
   by_cases hE:y=(z:Int)
   ·have hne:(y !=(z:Int))=false:=by simp[hE]
    have HA2:=b6 (show ∀j,j<i+1->g7 X.R (k+j)=(l5 s j:Int)from fun j hj=>by
     rcases Nat.lt_or_ge j i with g|g
     ·exact HA.out j g
     ·obtain rfl:j=i:=by omega
      rw[<-HY.out,hE,HZ.out])
    clear hE
    go_wp2_with fail
    go_quiet ((go_at_call 73;exact KP.out _))
    have HT2:=b6 (HT.out.drewN nq)
    go_wp2
    go_roundg (gk-1)
    case measure=>omega
    case rel=>exact⟨i+1,by omega,by simp,HA2,HT2⟩
   ·have hne:(y !=(z:Int))=true:=by simpa using hE
    have HF:=b6 (EN (R:=X.R) (k:=k) (s:=s) hlt (by rw[<-HY.out,<-HZ.out];exact hE))
    clear hE
    go_wp2_with fail
    go_quiet ((go_at_call 73;exact KP.out _))
    have HT2:=b6 (HT.out.drewN nq)
    have HQ2:=b6 (HQ.out.new ((b7.refl _ _).drewN nq))
    go_wp2
    go_ret
    obtain rfl:Z=false:=HZ0.out.trans HF.out
    obtain rfl:kZ=k:=HK.out
    exact⟨rfl,HQ2.out,HT2.out.mono nE⟩
  ·obtain rfl:i=s.size:=by omega
   have E:=b6 (MD (R:=X.R) (k:=k) (s:=s) (fun j hj=>HA.out j hj))
   have d2:wr.cell? ⟨b,2,none⟩=some (.int .i64 (k:Nat)):=HQ.out.c 2 _ rfl
   have f2:=HQ.out.fr 2
   have hwk:IntKind.i64.wrap ((k:Int)+(s.size:Int))=((k+s.size:Nat):Int):=by rw[IntKind.wrap_i64];omega
   have HS:=b6 (HQ.out.setk (k+s.size))
   have TS:=b6 (b7.trans (S:=fun g=>g=b) (HT.out.mono nE) (d9 wr b 2 (.int .i64 ((k+s.size:Nat):Int))) iE)
   obtain⟨n,hn⟩:∃n,n=k+s.size:=⟨_,rfl⟩
   rw[<-hn]at hwk HS TS
   have HN:=b6 hn
   clear hn
   go_wp2
   go_ret
   obtain rfl:Z=true:=HZ0.out.trans E.out
   obtain rfl:kZ=n:=HK.out.trans HN.out.symm
   exact⟨rfl,HS.out,TS.out⟩
theorem DS.dr {w w':World}{b:Nat}{X:Px}{k:Nat}{f:Fl}{op:Nat}{vN vn:Value}{er ea:Int}{n:Nat}(h:DS w b X k f op vN vn er ea)(e:w'=w.drewN n):DS w' b X k f op vN vn er ea:=by
 rw[e]
 exact h.new ((tZ w).drewN n)
structure Dc where
 kind:Int
 min:Int
 max:Int
 cap:Int
 sa:Option Addr
 sn:Nat
 sc:Nat
 fold:Bool
 lazy:Bool
 name:ByteArray
 ka:Option Addr
 kn:Nat
 kc:Nat
def Dc.arr (c:Dc):Array Value:=#[.int .i64 c.kind,.int .i64 c.min,.int .i64 c.max,.int .i64 c.cap,.slice c.sa c.sn c.sc,.bool c.fold,.bool c.lazy,.string c.name,.slice c.ka c.kn c.kc]
def Dc.list (c:Dc):List Value:=[.int .i64 c.kind,.int .i64 c.min,.int .i64 c.max,.int .i64 c.cap,.slice c.sa c.sn c.sc,.bool c.fold,.bool c.lazy,.string c.name,.slice c.ka c.kn c.kc]
def Dc.zero:Dc:=⟨0,0,0,0,none,0,0,false,false,⟨#[]⟩,none,0,0⟩
theorem Dc.ones (c:Dc):∀u ∈ c.list,u.oneCell'=true:=by
 intro u hu
 simp only[Dc.list,List.mem_cons,List.not_mem_nil,or_false]at hu
 rcases hu with rfl|rfl|rfl|rfl|rfl|rfl|rfl|rfl|rfl<;>rfl
theorem To:(Tryz.prog.info? 86).map (fun i=>(i.zero,i.size,i.bytes))=some (some (.agg Dc.zero.arr),9,104):=by kernel_rfl
def NL (w:World)(v:Value)(ds:List Dc):Prop:=w.ownsRow 0 86 9 v ds.length (ds.flatMap Dc.list)
theorem DS.setN {w:World}{b:Nat}{X:Px}{k:Nat}{f:Fl}{op:Nat}{vN vn:Value}{er ea:Int}(h:DS w b X k f op vN vn er ea)(v:Value):DS (w.setCell ⟨b,8,none⟩ v) b X k f op v vn er ea:=
 h.turn (i8 h.cells 8 _) (d9 _ _ _ _) (fun g e=>by omega)
theorem Ri (b:Nat)(X:Px)(k:Nat)(f:Fl)(op:Nat)(aN:Option Addr)(nN cN:Nat)(vn:Value)(er ea:Int)(ds:List Dc)(c:Dc)(w:World)(h:DS w b X k f op (.slice aN nN cN) vn er ea)(hd:NL w (.slice aN nN cN) ds)(hb:∀g,(Value.slice aN nN cN).ownBlock=some g->b<g)(hn:ds.length<=4194304):
 Calls Tryz.prog 77 #[.pointer (some ⟨b,0,none⟩),.agg c.arr] w fun e w'=>e=.returned (.int .i64 (ds.length:Nat))/\∃a' c',DS w' b X k f op (.slice a' (ds.length+1) c') vn er ea/\NL w' (.slice a' (ds.length+1) c') (ds++ [c])/\((Value.slice a' (ds.length+1) c').ownBlock=(Value.slice aN nN cN).ownBlock∨∃g,(Value.slice a' (ds.length+1) c').ownBlock=some g/\w.heap.size<=g)/\b7 (fun g=>g=b∨(Value.slice aN nN cN).ownBlock=some g) w w':=by
 obtain⟨i9,hi9,hy0,hy1,hy2⟩:=info_parts To
 have HN:=b6 (show nN=ds.length from by
  obtain⟨_,_,hh⟩:=e9 hd
  cases hh
  rfl)
 have hnv:nN<=4194304:=by have:=HN.out;omega
 obtain⟨ck,mi,ma,ca,sa,sn,sc,fo,la,nm,ka,kn,kc⟩:=c
 have TA:=(tZ w).alloc (.cells #[.int .i64 ck,.int .i64 mi,.int .i64 ma,.int .i64 ca,.slice sa sn sc,.bool fo,.bool la,.string nm,.slice ka kn kc] 86)
 have H0:=b6 (h.new TA)
 have BX:=b6 (e8 w #[.int .i64 ck,.int .i64 mi,.int .i64 ma,.int .i64 ca,.slice sa sn sc,.bool fo,.bool la,.string nm,.slice ka kn kc] 86)
 have O0:=b6 (g9 hd TA iE)
 have T0:=b6 TA
 have HB:=b6 (show(Value.slice aN nN cN).ownBlock≠some b from fun e=>by have:=hb b e;omega)
 have HBG:=b6 hb
 have HBL:=b6 h.lt
 clear h hd hb TA
 dsimp only[Dc.arr]
 go_enter Tryz.func77,Tryz.ntmps77
 go_upto_region 1 with fail
 generalize w.alloc (.cells #[.int .i64 ck,.int .i64 mi,.int .i64 ma,.int .i64 ca,.slice sa sn sc,.bool fo,.bool la,.string nm,.slice ka kn kc] 86)=w1 at*
 generalize hq:w.heap.size=q at*
 have HQ:=b6 hq
 clear hq
 have hw1:∀i v,(#[.int .i64 ck,.int .i64 mi,.int .i64 ma,.int .i64 ca,.slice sa sn sc,.bool fo,.bool la,.string nm,.slice ka kn kc]:Array Value)[i]? =some v->w1.cell? ⟨q,i,none⟩=some v:=fun i v e=>by simp only[World.cell?,BX.out];exact e
 have k0:w1.cell? ⟨q,0,none⟩=some (.int .i64 ck):=hw1 0 _ rfl
 have k1:w1.cell? ⟨q,1,none⟩=some (.int .i64 mi):=hw1 1 _ rfl
 have k2:w1.cell? ⟨q,2,none⟩=some (.int .i64 ma):=hw1 2 _ rfl
 have k3:w1.cell? ⟨q,3,none⟩=some (.int .i64 ca):=hw1 3 _ rfl
 have k4:w1.cell? ⟨q,4,none⟩=some (.slice sa sn sc):=hw1 4 _ rfl
 have k5:w1.cell? ⟨q,5,none⟩=some (.bool fo):=hw1 5 _ rfl
 have k6:w1.cell? ⟨q,6,none⟩=some (.bool la):=hw1 6 _ rfl
 have k7:w1.cell? ⟨q,7,none⟩=some (.string nm):=hw1 7 _ rfl
 have k8:w1.cell? ⟨q,8,none⟩=some (.slice ka kn kc):=hw1 8 _ rfl
 clear hw1
 have cv2:w1.cell? ⟨b,8,none⟩=some (.slice aN nN cN):=H0.out.c 8 _ rfl
 have fv2:=H0.out.fr 8
 have kk:∀o,(w1.alloc o).cell? ⟨b,8,none⟩=some (.slice aN nN cN):=fun o=>(((tZ w1).alloc o).cell (p:=⟨b,8,none⟩) H0.out.lt id).trans cv2
 have OW:=b6 (show w1.drew.ownsRow 0 86 9 (.slice aN nN cN) nN (ds.flatMap Dc.list)from by have:=g9 O0.out ((tZ w1).drew) iE;rw[<-HN.out]at this;exact this)
 go_region_law (first
  |(refine U3 _ (by rfl) _ _ _ (by rfl) 0 86 i9 _ 9 104 Tryz.underlying39 hi9 hy0 hy1 hy2 rfl (by decide) _ _ _ (by rfl) (OW.out.alloc _) ⟨w1.heap.size,0,none⟩ 1 1 [.int .i64 ck,.int .i64 mi,.int .i64 ma,.int .i64 ca,.slice sa sn sc,.bool fo,.bool la,.string nm,.slice ka kn kc] (by rfl) (by rfl) (z7 w1.drew [.int .i64 ck,.int .i64 mi,.int .i64 ma,.int .i64 ca,.slice sa sn sc,.bool fo,.bool la,.string nm,.slice ka kn kc] 86) (Dc.ones ⟨ck,mi,ma,ca,sa,sn,sc,fo,la,nm,ka,kn,kc⟩) (by unfold maxLen;omega) (by omega) (Nat.zero_le _) (w1.heap.size+1) (by simp) ?_
    intro v' w3 hown hgrow hat
    obtain⟨a4,c4,hv4⟩:=e9 hown
    subst hv4
    have G3:=b6 (show b7 (fun g=>(Value.slice aN nN cN).ownBlock=some g) w1 w3 from b7.grown (((b7.refl _ w1).drew).alloc _) hgrow (fun k e _=>e))
    have H3:=b6 (show DS w3 b X k f op (.slice aN nN cN) vn er ea from H0.out.turn ((G3.out.block b H0.out.lt (fun e=>HB.out e)).trans H0.out.cells) G3.out (fun g e=>Nat.le_of_lt (HBG.out g e)))
    have cc3:w3.cell? ⟨b,8,none⟩=some (.slice aN nN cN):=H3.out.c 8 _ rfl
    have ff3:=H3.out.fr 8
    have OW3:=b6 hown
    have HAT:=b6 hat
    clear hown hgrow hat))
 all_goals
  have TS:=b7.setCell (S:=fun g=>g=b) (b7.refl _ w3) (p:=⟨b,8,none⟩) (fun _=>rfl) (.slice a4 (nN+1) c4)
  have H4:=b6 (H3.out.setN (.slice a4 (nN+1) c4))
  have T4:=b6 (b7.trans (S:=fun g=>g=b∨(Value.slice aN nN cN).ownBlock=some g) (b7.trans (S:=fun g=>g=b∨(Value.slice aN nN cN).ownBlock=some g) (T0.out.mono nE) G3.out (fun _ _ e=>.inr e)) TS (fun _ _ e=>.inl e))
  have NB:=b6 (show(Value.slice a4 (nN+1) c4).ownBlock≠some b from fun e=>by
   rcases HAT.out with e2|e2
   ·exact HB.out (by rw[<-e2];exact e)
   ·rw[e2]at e
    cases e
    have:=H0.out.lt
    omega)
  have O4:=b6 (g9 OW3.out TS (fun g e e2=>NB.out (by rw[e,e2])))
  have HS1:=b6 T0.out.size
  clear TS
  generalize w3.setCell ⟨b,8,none⟩ (.slice a4 (nN+1) c4)=w4 at*
  have e2:w4.cell? ⟨b,8,none⟩=some (.slice a4 (nN+1) c4):=H4.out.c 8 _ rfl
  go_wp2
  go_ret
  have hl:(ds++ [(⟨ck,mi,ma,ca,sa,sn,sc,fo,la,nm,ka,kn,kc⟩:Dc)]).length=ds.length+1:=by simp
  refine⟨by rw[HN.out];go_num,a4,c4,?_,?_,?_,?_⟩
  ·rw[<-HN.out]
   exact H4.out
  ·unfold NL
   rw[hl,List.flatMap_append,<-HN.out]
   exact O4.out
  ·rw[<-HN.out]
   rcases HAT.out with e|e
   ·exact .inl e
   ·exact .inr ⟨_,e,by have:=HQ.out;have:=HS1.out;show _<=w1.heap.size+1;omega⟩
  ·exact T4.out
end Go.Proofs.YtdhhcefmmojcmaaGreatDoor
