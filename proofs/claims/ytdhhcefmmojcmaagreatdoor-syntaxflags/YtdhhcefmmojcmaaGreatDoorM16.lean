/- Texts of this proof, one behind the other. -/
import Derived.Test.YtdhhcefmmojcmaaGreatDoorM11
import Derived.OwnWalk
import Derived.Laws.IdiomStrings
import Derived.Test.YtdhhcefmmojcmaaGreatDoorM0
import Derived.Test.YtdhhcefmmojcmaaGreatDoorM12
set_option maxRecDepth 100000
set_option maxHeartbeats 0
set_option linter.unusedVariables false
namespace Go.Proofs.YtdhhcefmmojcmaaGreatDoor
open Go.RowKit Go.Lib
theorem Lk (w:World)(s:ByteArray):∃cap w',(convert 9 49 (.string s)).run Tryz.prog w=.ok (.slice (some ⟨w.heap.size,0,none⟩) s.size cap) w'/\(∀i (h:i<s.size),w'.cell? ⟨w.heap.size,i,none⟩=some (.int .u8 ((s[i].toNat:Nat):Int)))/\b7 (fun _=>False) w w':=by
 have hr:=run_bytes_of_string (P:=Tryz.prog) w 9 49 5 s Tryz.underlying9 Tryz.underlying49 Tryz.underlying5
 refine⟨_,_,hr,fun i hi=>?_,((b7.refl _ _).drewN 1).alloc _⟩
 have hb:=heap_alloc_new w.drew (.cells (bytesRow s (grownCap w s.size 0 5)) 5 ((bytesRow s (grownCap w s.size 0 5)).size,(bytesRow s (grownCap w s.size 0 5)).size+1))
 unfold World.cell?
 rw[show w.heap.size=w.drew.heap.size from rfl,hb]
 have hi2:i<s.data.size:=hi
 simp only[Option.isSome_none,Bool.false_eq_true,if_false]
 unfold bytesRow
 rw[Array.getElem?_append_left (by rw[Array.size_map];exact hi2),Array.getElem?_map,Array.getElem?_eq_getElem hi2]
 rfl
theorem Gz (x:Nat)(y:Int)(h:bits .or .u8 (x:Int) 32=y)(w:World):Calls Tryz.prog 166 #[.int .u8 (x:Nat)] w fun e w'=>e=.returned (.int .u8 y)/\w'=w:=by
 go_enter Tryz.func166,Tryz.ntmps166
 go_wp2
 go_ret
 exact⟨by subst h;rfl,rfl⟩
theorem Vk:∀x:Nat,65<=x->x<=70->bits .or .u8 (x:Int) 32=((x+32:Nat):Int):=by
 intro x h1 h2
 rcases(show x=65∨x=66∨x=67∨x=68∨x=69∨x=70 by omega)with rfl|rfl|rfl|rfl|rfl|rfl<;>decide
theorem Tu:∀x:Nat,97<=x->x<=102->bits .or .u8 (x:Int) 32=(x:Int):=by
 intro x h1 h2
 rcases(show x=97∨x=98∨x=99∨x=100∨x=101∨x=102 by omega)with rfl|rfl|rfl|rfl|rfl|rfl<;>decide
theorem Mq (l:List Int)(c:Int):D7 (l++ [c])=16*D7 l+U7 c:=by simp[D7]
theorem Tm {c:Int}(h:p6 c=true):U7 c<16:=by
 simp only[p6,p4,Bool.or_eq_true,Bool.and_eq_true,decide_eq_true_eq]at h
 unfold U7
 split
 ·omega
 ·split<;>omega
theorem Ko:∀(l:List Int) (a:Nat),(∀c ∈ l,p6 c=true)->l.foldl (fun a d=>16*a+U7 d) a<(a+1)*16^l.length
 | [],a,_=>by simp
 |c::l,a,h=>by
  have ih:=Ko l (16*a+U7 c) (fun x hx=>h x (by simp[hx]))
  have hc:=Tm (h c (by simp))
  rw[List.foldl_cons,List.length_cons,Nat.pow_succ]
  have h2:(16*a+U7 c+1)*16^l.length<=((a+1)*16)*16^l.length:=Nat.mul_le_mul_right _ (by omega)
  rw[Nat.mul_assoc,Nat.mul_comm 16 (16^l.length)]at h2
  omega
theorem Dj (l:List Int)(h:∀c ∈ l,p6 c=true):D7 l<16^l.length:=by
 have:=Ko l 0 h
 unfold D7
 omega
theorem Cv (l:List Int)(i:Nat)(h:i<l.length):D7 (l.take (i+1))=16*D7 (l.take i)+U7 l[i]:=by
 rw[List.take_succ_eq_append_getElem h,Mq]
theorem OU (l:List Int)(hl:∀c ∈ l,p6 c=true)(h6:l.length<=6)(h0:l≠ [])(w:World):
 Calls Tryz.prog 162 #[.string (i7 l),.int .i64 16,.int .i64 32] w fun e w'=>e=.returned (.tuple #[.int .u64 ((D7 l:Nat):Int),.nilIface])/\b7 (fun _=>False) w w':=by
 have hsz:(i7 l).size=l.length:=by unfold i7;rw[<-AS];simp
 obtain⟨cap,wc,hc,hcell,ht⟩:=Lk w (i7 l)
 have hs1:(i7 l).toList.isEmpty=false:=by
  rw[Lib.toList_data]
  cases l with
  |nil=>exact absurd rfl h0
  |cons c l=>rfl
 have hs2:((i7 l).toList==([]:List UInt8))=false:=by
  rw[Lib.toList_data]
  cases l with
  |nil=>exact absurd rfl h0
  |cons c l=>rfl
 have HB:=b6 (fun(i:Nat) (hi:i<l.length)=>(show wc.cell? ⟨w.heap.size,i,none⟩=some (.int .u8 ((l[i].toNat:Nat):Int))from by
  rw[hcell i (by rw[hsz];exact hi)]
  have hh:=hl l[i] (List.getElem_mem hi)
  simp only[p6,p4,Bool.or_eq_true,Bool.and_eq_true,decide_eq_true_eq]at hh
  have e:(i7 l)[i]'(by rw[hsz];exact hi)=UInt8.ofNat l[i].toNat:=by
   show(i7 l).data[i]'(by show i<(i7 l).size;rw[hsz];exact hi)=_
   simp[i7]
  rw[e]
  have:(UInt8.ofNat l[i].toNat).toNat=l[i].toNat%256:=by simp
  rw[this,Nat.mod_eq_of_lt (by omega)]))
 have HT:=b6 ht
 have HL:=b6 hl
 rw[hsz]at hc
 obtain⟨S,hS⟩:∃S,S=i7 l:=⟨_,rfl⟩
 rw[<-hS]at hc hs1 hs2⊢
 clear hS hcell ht hl hsz h0
 obtain⟨n,hn⟩:∃n,n=l.length:=⟨_,rfl⟩
 have HN:=b6 hn
 rw[<-hn]at hc h6
 obtain⟨V,hV⟩:∃V,V=D7 l:=⟨_,rfl⟩
 have HV:=b6 hV
 rw[<-hV]
 clear hn hV
 go_enter Tryz.func162,Tryz.ntmps162
 go_wp2_with fail
 generalize eC:(1152921504606846976:Int)=C
 generalize eD:(4294967295:Int)=D
 have HC1:=b6 eC
 have HD1:=b6 eD
 clear eC eD
 go_loopg [12,13,101] n (fun gk z v u wq=>∃i N:Nat,i+gk=n/\z=.bool false/\v=.int .u64 (N:Nat)/\u=.int .i64 (i:Nat)/\Hid (N=D7 (l.take i))/\Hid (b7 (fun _=>False) wc wq))
 case atStart=>exact⟨0,0,by omega,rfl,rfl,rfl,b6 rfl,b6 (b7.refl _ _)⟩
 case round=>
  obtain⟨i,N,hi,rfl,rfl,rfl,HD,TK⟩:=hrel
  by_cases hlt:i<n
  ·have hlI:(i:Int)<(n:Int):=by omega
   have HI:=b6 (show i<l.length by rw[<-HN.out];exact hlt)
   obtain⟨c,hc⟩:∃c,c=l[i]'HI.out:=⟨_,rfl⟩
   have HC:=b6 hc
   have hh:=HL.out _ (List.getElem_mem HI.out)
   rw[<-hc]at hh
   have hN:N<=1048575:=by
    have h1:=Dj (l.take i) (fun c hc=>HL.out c (List.mem_of_mem_take hc))
    have h2:(l.take i).length<=5:=by rw[List.length_take];omega
    have h3:16^(l.take i).length<=16^5:=Nat.pow_le_pow_right (by decide) h2
    have:=HD.out
    omega
   have d0:=(TK.out.cell (p:=⟨w.heap.size,i,none⟩) (Lib.lt_of_cell (HB.out i HI.out)) id).trans (HB.out i HI.out)
   rw[<-hc]at d0
   clear hc
   obtain⟨x,hx⟩:∃x:Nat,x=c.toNat:=⟨_,rfl⟩
   rw[<-hx]at d0
   simp only[p6,p4,Bool.or_eq_true,Bool.and_eq_true,decide_eq_true_eq]at hh
   by_cases c1:x<=57
   ·have a1:48<=x:=by omega
    obtain⟨d,hd⟩:∃d,d=x-48:=⟨_,rfl⟩
    have HXD:=b6 (show U7 c=d from by unfold U7;rw[if_pos (by omega)];omega)
    have hd16:d<16:=by omega
    have b0:((x:Int)==95)=false:=beq_eq_false_iff_ne.2 (by omega)
    have e0:(x:Int)-48=(d:Int):=by omega
    have a1I:(48:Int)<=(x:Int):=by omega
    have a2I:(x:Int)<=57:=by omega
    clear hh hx hd c1 a1
    obtain⟨K,hK⟩:∃K,K=16*N:=⟨_,rfl⟩
    obtain⟨M,hM⟩:∃M,M=K+d:=⟨_,rfl⟩
    have HXD2:=b6 (show M=D7 (l.take (i+1))from by rw[Cv l i HI.out,<-HD.out,<-HC.out,HXD.out,hM,hK])
    have w1:(N:Int)*16=(K:Int):=by omega
    have w2:(K:Int)+(d:Int)=(M:Int):=by omega
    have w3:IntKind.u64.wrap (K:Int)=(K:Int):=by rw[IntKind.wrap_u64];omega
    have w4:IntKind.u64.wrap (d:Int)=(d:Int):=by rw[IntKind.wrap_u64];omega
    have w5:IntKind.u64.wrap (M:Int)=(M:Int):=by rw[IntKind.wrap_u64];omega
    have hdI:(d:Int)<16:=by omega
    have hNI:(N:Int)<C:=by rw[<-HC1.out];omega
    have hMI:¬(M:Int)<(K:Int):=by omega
    have hMJ:(M:Int)<=D:=by rw[<-HD1.out];omega
    clear hK hM
    go_wp2_with fail
    go_roundg (gk-1)
    case measure=>omega
    case rel=>exact⟨i+1,M,by omega,rfl,rfl,by go_num,HXD2,TK⟩
   ·have b0:((x:Int)==95)=false:=beq_eq_false_iff_ne.2 (by omega)
    have a2I:¬(x:Int)<=57:=by omega
    have a1I:(48:Int)<=(x:Int):=by omega
    obtain⟨d,hd⟩:∃d,d=U7 c:=⟨_,rfl⟩
    have HXD:=b6 hd.symm
    by_cases c2:x<=70
    ·obtain⟨y,hy⟩:∃y,y=x+32:=⟨_,rfl⟩
     have KL:=b6 (Gz x (y:Int) (by rw[hy];exact Vk x (by omega) (by omega)))
     have hdx:d=x-55:=by rw[hd];unfold U7;rw[if_neg (by omega),if_pos (by omega)];omega
     have hd16:d<16:=by omega
     have y1:(97:Int)<=(y:Int):=by omega
     have y2:(y:Int)<=122:=by omega
     have e0:(y:Int)-97+10=(d:Int):=by omega
     clear hh hx hd c1 c2 hy hdx
     obtain⟨K,hK⟩:∃K,K=16*N:=⟨_,rfl⟩
     obtain⟨M,hM⟩:∃M,M=K+d:=⟨_,rfl⟩
     have HXD2:=b6 (show M=D7 (l.take (i+1))from by rw[Cv l i HI.out,<-HD.out,<-HC.out,HXD.out,hM,hK])
     have w1:(N:Int)*16=(K:Int):=by omega
     have w2:(K:Int)+(d:Int)=(M:Int):=by omega
     have w3:IntKind.u64.wrap (K:Int)=(K:Int):=by rw[IntKind.wrap_u64];omega
     have w4:IntKind.u64.wrap (d:Int)=(d:Int):=by rw[IntKind.wrap_u64];omega
     have w5:IntKind.u64.wrap (M:Int)=(M:Int):=by rw[IntKind.wrap_u64];omega
     have hdI:(d:Int)<16:=by omega
     have hNI:(N:Int)<C:=by rw[<-HC1.out];omega
     have hMI:¬(M:Int)<(K:Int):=by omega
     have hMJ:(M:Int)<=D:=by rw[<-HD1.out];omega
     clear hK hM
     go_wp2_with fail
     refine(KL.out _).mono ?_
     rintro e w2 ⟨rfl,rfl⟩
     go_wp2_with fail
     refine(KL.out _).mono ?_
     rintro e w2 ⟨rfl,rfl⟩
     go_wp2_with fail
     refine(KL.out _).mono ?_
     rintro e w2 ⟨rfl,rfl⟩
     clear KL
     go_wp2_with fail
     go_roundg (gk-1)
     case measure=>omega
     case rel=>exact⟨i+1,M,by omega,rfl,rfl,by go_num,HXD2,TK⟩
    ·obtain⟨y,hy⟩:∃y,y=x:=⟨_,rfl⟩
     have KL:=b6 (Gz x (y:Int) (by rw[hy];exact Tu x (by omega) (by omega)))
     have hdx:d=x-87:=by rw[hd];unfold U7;rw[if_neg (by omega),if_neg (by omega)];omega
     have hd16:d<16:=by omega
     have y1:(97:Int)<=(y:Int):=by omega
     have y2:(y:Int)<=122:=by omega
     have e0:(y:Int)-97+10=(d:Int):=by omega
     clear hh hx hd c1 c2 hy hdx
     obtain⟨K,hK⟩:∃K,K=16*N:=⟨_,rfl⟩
     obtain⟨M,hM⟩:∃M,M=K+d:=⟨_,rfl⟩
     have HXD2:=b6 (show M=D7 (l.take (i+1))from by rw[Cv l i HI.out,<-HD.out,<-HC.out,HXD.out,hM,hK])
     have w1:(N:Int)*16=(K:Int):=by omega
     have w2:(K:Int)+(d:Int)=(M:Int):=by omega
     have w3:IntKind.u64.wrap (K:Int)=(K:Int):=by rw[IntKind.wrap_u64];omega
     have w4:IntKind.u64.wrap (d:Int)=(d:Int):=by rw[IntKind.wrap_u64];omega
     have w5:IntKind.u64.wrap (M:Int)=(M:Int):=by rw[IntKind.wrap_u64];omega
     have hdI:(d:Int)<16:=by omega
     have hNI:(N:Int)<C:=by rw[<-HC1.out];omega
     have hMI:¬(M:Int)<(K:Int):=by omega
     have hMJ:(M:Int)<=D:=by rw[<-HD1.out];omega
     clear hK hM
     go_wp2_with fail
     refine(KL.out _).mono ?_
     rintro e w2 ⟨rfl,rfl⟩
     go_wp2_with fail
     refine(KL.out _).mono ?_
     rintro e w2 ⟨rfl,rfl⟩
     go_wp2_with fail
     refine(KL.out _).mono ?_
     rintro e w2 ⟨rfl,rfl⟩
     clear KL
     go_wp2_with fail
     go_roundg (gk-1)
     case measure=>omega
     case rel=>exact⟨i+1,M,by omega,rfl,rfl,by go_num,HXD2,TK⟩
  ·have hlI:¬(i:Int)<(n:Int):=by omega
   have HE:=b6 (show N=V from by rw[HD.out,HV.out,List.take_of_length_le (by rw[<-HN.out];omega)])
   go_wp2
   refine bodyPost_ret (results_tmp2 rfl _ _ _) rfl ?_
   rw[<-HE.out]
   exact⟨rfl,HT.out.trans TK.out iE⟩
theorem Ud (l:List Int)(hl:∀c ∈ l,p6 c=true)(h6:l.length<=6)(h0:l≠ [])(w:World):
 Calls Tryz.prog 157 #[.string (i7 l),.int .i64 16,.int .i64 32] w fun e w'=>e=.returned (.tuple #[.int .i64 ((D7 l:Nat):Int),.nilIface])/\b7 (fun _=>False) w w':=by
 have hsz:(i7 l).size=l.length:=by unfold i7;rw[<-AS];simp
 have hpos:0<l.length:=List.length_pos_iff.2 h0
 have hs1:(i7 l).toList.isEmpty=false:=by
  rw[Lib.toList_data]
  cases l with
  |nil=>exact absurd rfl h0
  |cons c l=>rfl
 have hs2:((i7 l).toList==([]:List UInt8))=false:=by
  rw[Lib.toList_data]
  cases l with
  |nil=>exact absurd rfl h0
  |cons c l=>rfl
 have hh:=hl l[0] (List.getElem_mem hpos)
 simp only[p6,p4,Bool.or_eq_true,Bool.and_eq_true,decide_eq_true_eq]at hh
 obtain⟨x,hx⟩:∃x:Nat,x=l[0].toNat:=⟨_,rfl⟩
 have hix:∀w,(Instr.index 9 (.string (i7 l)) (.int .i64 0)).run Tryz.prog w=.ok (.int .u8 ((x:Nat):Int)) w:=fun w=>by
  have e:(i7 l)[0]'(by rw[hsz];exact hpos)=UInt8.ofNat l[0].toNat:=by
   show(i7 l).data[0]'(by show 0<(i7 l).size;rw[hsz];exact hpos)=_
   simp[i7]
  have hne:i7 l≠ByteArray.empty:=fun e=>by rw[e]at hsz;simp at hsz;omega
  have e2:(UInt8.ofNat l[0].toNat).toNat=l[0].toNat:=by
   have:(UInt8.ofNat l[0].toNat).toNat=l[0].toNat%256:=by simp
   rw[this,Nat.mod_eq_of_lt (by omega)]
  simp[go_sem,hne,e,e2,hx]
 have b1:((x:Int)==43)=false:=beq_eq_false_iff_ne.2 (by omega)
 have b2:((x:Int)==45)=false:=beq_eq_false_iff_ne.2 (by omega)
 have hv:=Dj l hl
 have hv2:16^l.length<=16^6:=Nat.pow_le_pow_right (by decide) h6
 have K:=b6 (OU l hl h6 h0 w)
 obtain⟨V,hV⟩:∃V,V=D7 l:=⟨_,rfl⟩
 rw[<-hV]at K hv⊢
 have hVb:V<=16777216:=by omega
 obtain⟨S,hS⟩:∃S,S=i7 l:=⟨_,rfl⟩
 rw[<-hS]at hix hs1 hs2 K⊢
 clear hS hV hv hv2 hh hx hsz hpos hl h0
 go_enter Tryz.func157,Tryz.ntmps157
 go_wp2_with fail
 refine K.out.mono ?_
 rintro e w1 ⟨rfl,t1⟩
 have T1:=b6 t1
 clear t1 K
 go_upto_region 17 with fail
 generalize eD:(2147483648:Int)=D
 have v1:(V:Int)<D:=by omega
 have v2:IntKind.i64.wrap (V:Int)=(V:Int):=by rw[IntKind.wrap_i64];omega
 clear eD
 go_wp2
 refine bodyPost_ret (results_tmp2 rfl _ _ _) rfl ?_
 exact⟨rfl,T1.out⟩
theorem Ni (l:List Int)(hl:∀c ∈ l,p6 c=true)(h6:l.length<=6)(h0:l≠ [])(w:World):
 Calls Tryz.prog 154 #[.string (i7 l),.int .i64 16,.int .i64 32] w fun e w'=>e=.returned (.tuple #[.int .i64 ((D7 l:Nat):Int),.nilIface])/\b7 (fun _=>False) w w':=by
 have K:=b6 (Ud l hl h6 h0 w)
 generalize i7 l=S at*
 generalize D7 l=V at*
 clear hl h0
 go_enter Tryz.func154,Tryz.ntmps154
 go_wp2_with fail
 refine K.out.mono ?_
 rintro e w1 ⟨rfl,t1⟩
 have T1:=b6 t1
 clear t1 K
 go_wp2
 refine bodyPost_ret (results_tmp2 rfl _ _ _) rfl ?_
 exact⟨rfl,T1.out⟩
theorem Ry (w:World):Calls Tryz.prog 157 #[.string ⟨#[]⟩,.int .i64 16,.int .i64 32] w fun e w'=>e=.returned (.tuple #[.int .i64 0,.iface 201 (.int .i64 2)])/\w'=w:=by
 go_enter Tryz.func157,Tryz.ntmps157
 go_wp2
 refine bodyPost_ret (results_tmp2 rfl _ _ _) rfl ?_
 exact⟨rfl,rfl⟩
theorem Gk (w:World):Calls Tryz.prog 163 #[.string ⟨#[]⟩] w fun e w'=>e=.returned (.string ⟨#[]⟩)/\w'=w:=by
 go_enter Tryz.func163,Tryz.ntmps163
 go_wp2
 go_ret
 exact⟨rfl,rfl⟩
theorem Ml (s:ByteArray)(w:World)(hx:Sx w):Calls Tryz.prog 158 #[.string s,.string ⟨#[]⟩] w fun e w'=>∃a,e=.returned (.pointer (some a))/\b7 (fun _=>False) w w':=by
 obtain⟨ev,hv,hev⟩:=hx.syn
 clear hx
 rcases hev with rfl|⟨te,pe,rfl⟩
 ·have hv2:w.drew.cell? ⟨2,0,none⟩=some .nilIface:=hv
  go_enter Tryz.func158,Tryz.ntmps158
  go_wp2_with fail
  go_region_with (go_at_call 163;refine(Gk _).mono ?_;rintro e w1 ⟨rfl,rfl⟩)
  all_goals (go_wp2_with fail)
  all_goals go_ret
  all_goals exact⟨_,rfl,((tZ w).drew).alloc _⟩
 ·have hv2:w.drew.cell? ⟨2,0,none⟩=some (.iface te pe):=hv
  go_enter Tryz.func158,Tryz.ntmps158
  go_wp2_with fail
  go_region_with (go_at_call 163;refine(Gk _).mono ?_;rintro e w1 ⟨rfl,rfl⟩)
  all_goals (go_wp2_with fail)
  all_goals go_ret
  all_goals exact⟨_,rfl,((tZ w).drew).alloc _⟩
theorem Ve (d:Nat)(a b:Int)(w:World):(Op.equalIn (d+2) 192 (.iface 201 (.int .i64 a)) (.iface 201 (.int .i64 b))).run Tryz.prog w=.ok (a==b) w:=by
 obtain⟨i,hi1,hi2⟩:∃i,Tryz.prog.info? 201=some i/\i.comparable=true:=by
  have h:(Tryz.prog.info? 201).map (·.comparable)=some true:=by kernel_rfl
  exact Option.map_eq_some_iff.1 h
 simp[Op.equalIn,run_underlying Tryz.underlying192,run_underlying Tryz.underlying201,typeInfo,hi1,hi2]
theorem Vd (a b:Int)(w:World):(binOp .eql 192 (.iface 201 (.int .i64 a)) (.iface 201 (.int .i64 b))).run Tryz.prog w=.ok (.bool (a==b)) w:=by
 simp only[binOp]
 simp[Op.equal,Op.maxDepth,Ve 9998 a b w]
theorem Pw (s:ByteArray)(w:World)(hx:Sx w):Calls Tryz.prog 156 #[.string s,.string ⟨#[]⟩,.int .i64 16,.int .i64 32,.iface 201 (.int .i64 2)] w fun e w'=>∃a,e=.returned (.iface 202 (.pointer (some a)))/\b7 (fun _=>False) w w':=by
 have K:=b6 (Ml s w hx)
 have he:=Vd 2 2 w
 clear hx
 go_enter Tryz.func156,Tryz.ntmps156
 go_wp2_with fail
 refine K.out.mono ?_
 rintro e w1 ⟨a,rfl,t1⟩
 have T1:=b6 t1
 clear t1 K
 go_wp2
 go_ret
 exact⟨_,rfl,T1.out⟩
theorem Hy (w:World)(hx:Sx w):Calls Tryz.prog 154 #[.string ⟨#[]⟩,.int .i64 16,.int .i64 32] w fun e w'=>∃a,e=.returned (.tuple #[.int .i64 0,.iface 202 (.pointer (some a))])/\b7 (fun _=>False) w w':=by
 have K:=b6 (Ry w)
 have K2:=b6 (fun s=>Pw s w hx)
 clear hx
 go_enter Tryz.func154,Tryz.ntmps154
 go_wp2_with fail
 refine K.out.mono ?_
 rintro e w1 ⟨rfl,rfl⟩
 go_wp2_with fail
 refine(K2.out _).mono ?_
 rintro e w2 ⟨a,rfl,t1⟩
 have T1:=b6 t1
 clear t1 K K2
 go_wp2
 refine bodyPost_ret (results_tmp2 rfl _ _ _) rfl ?_
 exact⟨_,rfl,T1.out⟩
def UD (b:Nat)(X:Px)(f:Fl)(vn:Value)(ns:List ByteArray)(op:Nat)(w:World):PR (Nat×Nat)->Ending->World->Prop
 | .error (c,j),e,w'=>e=u6 c (g7 X.P j)/\b7 (fun g=>g=b) w w'
 | .ok (n,k1),e,w'=>e=.returned (.int .i64 (n:Nat))/\PS w' b X k1 f vn ns op/\b7 (fun g=>g=b) w w'
theorem QZ (c:Int)(h:p6 c=true):c<128:=by
 simp only[p6,p4,Bool.or_eq_true,Bool.and_eq_true,decide_eq_true_eq]at h
 omega
theorem Qg (b:Nat)(X:Px)(k0 k:Nat)(f:Fl)(vn:Value)(ns:List ByteArray)(op:Nat)(w:World)(h:PS w b X k f vn ns op)(hX:X.Good)(hk:k<=X.R.length)(hk0:k0<=X.R.length):
 Calls Tryz.prog 143 #[.pointer (some ⟨b,0,none⟩),.int .i64 (k0:Nat)] w fun e w'=>UD b X f vn ns op w (J9 X.R k0 k) e w':=by
 have hmf:∀(fn:Fn) (first cap:Array Value) (w:World),(Instr.makeFunc fn first cap).run Tryz.prog w=.ok (.func fn first cap) w:=fun _ _ _ _=>rfl
 have HRl:=b6 hX.lenR
 have hk2:k<=1024:=by have:=HRl.out;omega
 obtain⟨A,hA⟩:∃A,A=J9 X.R k0 k:=⟨_,rfl⟩
 have HA:=b6 hA.symm
 rw[<-hA]
 unfold J9 at HA
 simp only at HA
 clear hA
 have HK:=b6 h
 have TK:=b6 (b7.refl (fun g=>g=b) w)
 have KW:=b6 (fun k1 w' hp=>A1 b X k1 f vn ns op 20 k0 w' hp (by have:=hX.lenP;omega))
 by_cases h123:g7 X.R k=123
 ·rw[if_pos h123]at HA
  have hk3:k+1<=X.R.length:=j9 h123 (by decide)
  obtain⟨l,hl⟩:∃l,l6 X.R p6 6 (k+1)=l:=⟨_,rfl⟩
  have K2:=b6 (fun a c w1 (hp:PS w1 b X (k+1) f vn ns op) ho=>AQ b X (k+1) f vn ns op a c 6 6 rfl (s9 Tq) p6 w1 hp hX hk3 (by omega) ho (r7 _).1 MJ rfl QZ l hl)
  have hle:=Dz (R:=X.R) (p:=p6) rfl 6 (k+1) hk3
  have hall:=fun c (hc:c ∈ l)=>Av (R:=X.R) (p:=p6) 6 (k+1) c (by rw[hl];exact hc)
  have h6:l.length<=6:=by rw[<-hl];exact If _ _
  rw[hl]at HA hle
  obtain⟨k1,hk1⟩:∃k1,k1=k+1+l.length:=⟨_,rfl⟩
  rw[<-hk1]at HA hle K2
  have hk4:k1<=1024:=by have:=HRl.out;omega
  clear h hX hk hk0 hk3 hl hle hk1
  by_cases h0:l=[]
  ·subst h0
   rw[if_neg (fun e=>e.1 rfl)]at HA
   clear hall h6
   by_cases h125:g7 X.R k1=125
   ·go_enter Tryz.func143,Tryz.ntmps143
    go_wp2_with fail
    refine(o7 123 HK.out (by omega) h123).mono ?_
    rintro e ws1 ⟨rfl,hp,tt⟩
    replace HK:=b6 hp
    replace TK:=b6 (TK.out.trans tt iE)
    clear hp tt
    clear h123
    go_wp2_with fail
    have Mk0:True:=trivial
    go_region_with (first
     |(clear Mk0;go_at_call 153;refine(M6 _).mono ?_;rintro e w1 ⟨v,rfl,o1⟩;obtain⟨a1,c1,hv,_⟩:=o1.slice;subst hv;have T1:=b6 ((tZ ws1).drew.trans o1.touch iE);have K3:=b6 (K2.out a1 c1 w1 (HK.out.new T1.out) o1.own);clear o1 K2;have Mk1:True:=trivial)
     |(clear Mk1;go_at_call 137;refine K3.out.mono ?_;rintro e w2 ⟨rfl,hp2,t2⟩;replace HK:=b6 hp2;replace TK:=b6 ((TK.out.trans T1.out nE).trans t2 iE);clear hp2 t2 K3 T1))
    go_wp2_with fail
    refine(o7 125 HK.out (by omega) h125).mono ?_
    rintro e ws5 ⟨rfl,hp,tt⟩
    replace HK:=b6 hp
    replace TK:=b6 (TK.out.trans tt iE)
    clear hp tt
    go_wp2_with fail
    refine(Hy _ HK.out.env).mono ?_
    rintro e w6 ⟨ad,rfl,t6⟩
    replace HK:=b6 (HK.out.new t6)
    replace TK:=b6 (TK.out.trans t6 nE)
    clear t6
    go_wp2_with fail
    refine(KW.out _ _ HK.out).mono ?_
    rintro e w9 ⟨rfl,t9⟩
    replace TK:=b6 (TK.out.trans t9 nE)
    clear t9 KW
    go_wp2
    refine⟨rfl,?_⟩
    rw[<-HA.out]
    exact⟨rfl,TK.out⟩
   ·go_enter Tryz.func143,Tryz.ntmps143
    go_wp2_with fail
    refine(o7 123 HK.out (by omega) h123).mono ?_
    rintro e ws1 ⟨rfl,hp,tt⟩
    replace HK:=b6 hp
    replace TK:=b6 (TK.out.trans tt iE)
    clear hp tt
    clear h123
    go_wp2_with fail
    have Mk0:True:=trivial
    go_region_with (first
     |(clear Mk0;go_at_call 153;refine(M6 _).mono ?_;rintro e w1 ⟨v,rfl,o1⟩;obtain⟨a1,c1,hv,_⟩:=o1.slice;subst hv;have T1:=b6 ((tZ ws1).drew.trans o1.touch iE);have K3:=b6 (K2.out a1 c1 w1 (HK.out.new T1.out) o1.own);clear o1 K2;have Mk1:True:=trivial)
     |(clear Mk1;go_at_call 137;refine K3.out.mono ?_;rintro e w2 ⟨rfl,hp2,t2⟩;replace HK:=b6 hp2;replace TK:=b6 ((TK.out.trans T1.out nE).trans t2 iE);clear hp2 t2 K3 T1))
    go_wp2_with fail
    refine(o6 125 HK.out (by omega) h125).mono ?_
    rintro e ws5 ⟨rfl,hp,tt⟩
    replace HK:=b6 hp
    replace TK:=b6 (TK.out.trans tt iE)
    clear hp tt
    go_wp2_with fail
    refine(Hy _ HK.out.env).mono ?_
    rintro e w6 ⟨ad,rfl,t6⟩
    replace HK:=b6 (HK.out.new t6)
    replace TK:=b6 (TK.out.trans t6 nE)
    clear t6
    go_wp2_with fail
    refine(KW.out _ _ HK.out).mono ?_
    rintro e w9 ⟨rfl,t9⟩
    replace TK:=b6 (TK.out.trans t9 nE)
    clear t9 KW
    go_wp2
    refine⟨rfl,?_⟩
    rw[<-HA.out]
    exact⟨rfl,TK.out⟩
  ·have KP:=b6 (fun w'=>Ni l hall h6 h0 w')
   generalize i7 l=S at*
   obtain⟨V,hV⟩:∃V,V=D7 l:=⟨_,rfl⟩
   rw[<-hV]at KP HA
   have HL0:=b6 h0
   clear hall h6 hV h0
   by_cases h125:g7 X.R k1=125
   ·by_cases hv:V<=1114111
    ·rw[if_pos ⟨HL0.out,h125,hv⟩]at HA
     have hvI:¬(V:Int)>1114111:=by omega
     clear KW
     go_enter Tryz.func143,Tryz.ntmps143
     go_wp2_with fail
     refine(o7 123 HK.out (by omega) h123).mono ?_
     rintro e ws1 ⟨rfl,hp,tt⟩
     replace HK:=b6 hp
     replace TK:=b6 (TK.out.trans tt iE)
     clear hp tt
     clear h123
     go_wp2_with fail
     have Mk0:True:=trivial
     go_region_with (first
      |(clear Mk0;go_at_call 153;refine(M6 _).mono ?_;rintro e w1 ⟨v,rfl,o1⟩;obtain⟨a1,c1,hv,_⟩:=o1.slice;subst hv;have T1:=b6 ((tZ ws1).drew.trans o1.touch iE);have K3:=b6 (K2.out a1 c1 w1 (HK.out.new T1.out) o1.own);clear o1 K2;have Mk1:True:=trivial)
      |(clear Mk1;go_at_call 137;refine K3.out.mono ?_;rintro e w2 ⟨rfl,hp2,t2⟩;replace HK:=b6 hp2;replace TK:=b6 ((TK.out.trans T1.out nE).trans t2 iE);clear hp2 t2 K3 T1))
     go_wp2_with fail
     refine(o7 125 HK.out (by omega) h125).mono ?_
     rintro e ws5 ⟨rfl,hp,tt⟩
     replace HK:=b6 hp
     replace TK:=b6 (TK.out.trans tt iE)
     clear hp tt
     go_wp2_with fail
     refine(KP.out _).mono ?_
     rintro e w6 ⟨rfl,t6⟩
     replace HK:=b6 (HK.out.new t6)
     replace TK:=b6 (TK.out.trans t6 nE)
     clear t6 KP
     go_wp2
     go_ret
     rw[<-HA.out]
     exact⟨rfl,HK.out,TK.out⟩
    ·rw[if_neg (fun e=>hv e.2.2)]at HA
     have hvI:(V:Int)>1114111:=by omega
     go_enter Tryz.func143,Tryz.ntmps143
     go_wp2_with fail
     refine(o7 123 HK.out (by omega) h123).mono ?_
     rintro e ws1 ⟨rfl,hp,tt⟩
     replace HK:=b6 hp
     replace TK:=b6 (TK.out.trans tt iE)
     clear hp tt
     clear h123
     go_wp2_with fail
     have Mk0:True:=trivial
     go_region_with (first
      |(clear Mk0;go_at_call 153;refine(M6 _).mono ?_;rintro e w1 ⟨v,rfl,o1⟩;obtain⟨a1,c1,hv,_⟩:=o1.slice;subst hv;have T1:=b6 ((tZ ws1).drew.trans o1.touch iE);have K3:=b6 (K2.out a1 c1 w1 (HK.out.new T1.out) o1.own);clear o1 K2;have Mk1:True:=trivial)
      |(clear Mk1;go_at_call 137;refine K3.out.mono ?_;rintro e w2 ⟨rfl,hp2,t2⟩;replace HK:=b6 hp2;replace TK:=b6 ((TK.out.trans T1.out nE).trans t2 iE);clear hp2 t2 K3 T1))
     go_wp2_with fail
     refine(o7 125 HK.out (by omega) h125).mono ?_
     rintro e ws5 ⟨rfl,hp,tt⟩
     replace HK:=b6 hp
     replace TK:=b6 (TK.out.trans tt iE)
     clear hp tt
     go_wp2_with fail
     refine(KP.out _).mono ?_
     rintro e w6 ⟨rfl,t6⟩
     replace HK:=b6 (HK.out.new t6)
     replace TK:=b6 (TK.out.trans t6 nE)
     clear t6 KP
     go_wp2_with fail
     refine(KW.out _ _ HK.out).mono ?_
     rintro e w9 ⟨rfl,t9⟩
     replace TK:=b6 (TK.out.trans t9 nE)
     clear t9 KW
     go_wp2
     refine⟨rfl,?_⟩
     rw[<-HA.out]
     exact⟨rfl,TK.out⟩
   ·rw[if_neg (fun e=>h125 e.2.1)]at HA
    go_enter Tryz.func143,Tryz.ntmps143
    go_wp2_with fail
    refine(o7 123 HK.out (by omega) h123).mono ?_
    rintro e ws1 ⟨rfl,hp,tt⟩
    replace HK:=b6 hp
    replace TK:=b6 (TK.out.trans tt iE)
    clear hp tt
    clear h123
    go_wp2_with fail
    have Mk0:True:=trivial
    go_region_with (first
     |(clear Mk0;go_at_call 153;refine(M6 _).mono ?_;rintro e w1 ⟨v,rfl,o1⟩;obtain⟨a1,c1,hv,_⟩:=o1.slice;subst hv;have T1:=b6 ((tZ ws1).drew.trans o1.touch iE);have K3:=b6 (K2.out a1 c1 w1 (HK.out.new T1.out) o1.own);clear o1 K2;have Mk1:True:=trivial)
     |(clear Mk1;go_at_call 137;refine K3.out.mono ?_;rintro e w2 ⟨rfl,hp2,t2⟩;replace HK:=b6 hp2;replace TK:=b6 ((TK.out.trans T1.out nE).trans t2 iE);clear hp2 t2 K3 T1))
    go_wp2_with fail
    refine(o6 125 HK.out (by omega) h125).mono ?_
    rintro e ws5 ⟨rfl,hp,tt⟩
    replace HK:=b6 hp
    replace TK:=b6 (TK.out.trans tt iE)
    clear hp tt
    go_wp2_with fail
    refine(KP.out _).mono ?_
    rintro e w6 ⟨rfl,t6⟩
    replace HK:=b6 (HK.out.new t6)
    replace TK:=b6 (TK.out.trans t6 nE)
    clear t6 KP
    go_wp2_with fail
    refine(KW.out _ _ HK.out).mono ?_
    rintro e w9 ⟨rfl,t9⟩
    replace TK:=b6 (TK.out.trans t9 nE)
    clear t9 KW
    go_wp2
    refine⟨rfl,?_⟩
    rw[<-HA.out]
    exact⟨rfl,TK.out⟩
 ·rw[if_neg h123]at HA
  obtain⟨l,hl⟩:∃l,l6 X.R p6 2 k=l:=⟨_,rfl⟩
  have K2:=b6 (fun a c w1 (hp:PS w1 b X k f vn ns op) ho=>AQ b X k f vn ns op a c 2 2 rfl (s9 Tq) p6 w1 hp hX hk (by omega) ho (r7 _).1 MJ rfl QZ l hl)
  have hall:=fun c (hc:c ∈ l)=>Av (R:=X.R) (p:=p6) 2 k c (by rw[hl];exact hc)
  have h6:l.length<=2:=by rw[<-hl];exact If _ _
  have hsz:(i7 l).size=l.length:=by unfold i7;rw[<-AS];simp
  rw[hl]at HA
  clear h hX hk hk0 hl
  by_cases h0:l=[]
  ·subst h0
   rw[if_neg (by decide)]at HA
   have z2:(((i7 []).size:Int)==2)=false:=by rw[hsz];rfl
   clear hall h6 hsz
   go_enter Tryz.func143,Tryz.ntmps143
   go_wp2_with fail
   refine(o6 123 HK.out (by omega) h123).mono ?_
   rintro e ws1 ⟨rfl,hp,tt⟩
   replace HK:=b6 hp
   replace TK:=b6 (TK.out.trans tt iE)
   clear hp tt
   clear h123
   go_wp2_with fail
   have Mk0:True:=trivial
   go_region_with (first
    |(clear Mk0;go_at_call 153;refine(M6 _).mono ?_;rintro e w1 ⟨v,rfl,o1⟩;obtain⟨a1,c1,hv,_⟩:=o1.slice;subst hv;have T1:=b6 ((tZ ws1).drew.trans o1.touch iE);have K3:=b6 (K2.out a1 c1 w1 (HK.out.new T1.out) o1.own);clear o1 K2;have Mk1:True:=trivial)
    |(clear Mk1;go_at_call 137;refine K3.out.mono ?_;rintro e w2 ⟨rfl,hp2,t2⟩;replace HK:=b6 hp2;replace TK:=b6 ((TK.out.trans T1.out nE).trans t2 iE);clear hp2 t2 K3 T1))
   change (((⟨#[]⟩:ByteArray).size:Int)==2)=false at z2
   go_wp2_with fail
   refine(Hy _ HK.out.env).mono ?_
   rintro e w6 ⟨ad,rfl,t6⟩
   replace HK:=b6 (HK.out.new t6)
   replace TK:=b6 (TK.out.trans t6 nE)
   clear t6
   go_wp2_with fail
   refine(KW.out _ _ HK.out).mono ?_
   rintro e w9 ⟨rfl,t9⟩
   replace TK:=b6 (TK.out.trans t9 nE)
   clear t9 KW
   go_wp2
   refine⟨rfl,?_⟩
   rw[<-HA.out]
   exact⟨rfl,TK.out⟩
  ·have KP:=b6 (fun w'=>Ni l hall (by omega) h0 w')
   have hv16:=Dj l hall
   have hv17:16^l.length<=16^2:=Nat.pow_le_pow_right (by decide) h6
   obtain⟨V,hV⟩:∃V,V=D7 l:=⟨_,rfl⟩
   rw[<-hV]at KP HA hv16
   have hvI:¬(V:Int)>1114111:=by omega
   by_cases h2:l.length=2
   ·rw[if_pos h2]at HA
    have z2:(((i7 l).size:Int)==2)=true:=by rw[hsz,h2];rfl
    rw[h2]at K2
    generalize i7 l=S at*
    clear hall h6 hV h0 hv16 hv17 hsz h2 KW
    go_enter Tryz.func143,Tryz.ntmps143
    go_wp2_with fail
    refine(o6 123 HK.out (by omega) h123).mono ?_
    rintro e ws1 ⟨rfl,hp,tt⟩
    replace HK:=b6 hp
    replace TK:=b6 (TK.out.trans tt iE)
    clear hp tt
    clear h123
    go_wp2_with fail
    have Mk0:True:=trivial
    go_region_with (first
     |(clear Mk0;go_at_call 153;refine(M6 _).mono ?_;rintro e w1 ⟨v,rfl,o1⟩;obtain⟨a1,c1,hv,_⟩:=o1.slice;subst hv;have T1:=b6 ((tZ ws1).drew.trans o1.touch iE);have K3:=b6 (K2.out a1 c1 w1 (HK.out.new T1.out) o1.own);clear o1 K2;have Mk1:True:=trivial)
     |(clear Mk1;go_at_call 137;refine K3.out.mono ?_;rintro e w2 ⟨rfl,hp2,t2⟩;replace HK:=b6 hp2;replace TK:=b6 ((TK.out.trans T1.out nE).trans t2 iE);clear hp2 t2 K3 T1))
    go_wp2_with fail
    refine(KP.out _).mono ?_
    rintro e w6 ⟨rfl,t6⟩
    replace HK:=b6 (HK.out.new t6)
    replace TK:=b6 (TK.out.trans t6 nE)
    clear t6 KP
    go_wp2
    go_ret
    rw[<-HA.out]
    exact⟨rfl,HK.out,TK.out⟩
   ·rw[if_neg h2]at HA
    have z2:(((i7 l).size:Int)==2)=false:=by rw[hsz];exact beq_eq_false_iff_ne.2 (by omega)
    generalize l.length=L at*
    generalize i7 l=S at*
    clear hall h6 hV h0 hv16 hv17 hsz h2
    go_enter Tryz.func143,Tryz.ntmps143
    go_wp2_with fail
    refine(o6 123 HK.out (by omega) h123).mono ?_
    rintro e ws1 ⟨rfl,hp,tt⟩
    replace HK:=b6 hp
    replace TK:=b6 (TK.out.trans tt iE)
    clear hp tt
    clear h123
    go_wp2_with fail
    have Mk0:True:=trivial
    go_region_with (first
     |(clear Mk0;go_at_call 153;refine(M6 _).mono ?_;rintro e w1 ⟨v,rfl,o1⟩;obtain⟨a1,c1,hv,_⟩:=o1.slice;subst hv;have T1:=b6 ((tZ ws1).drew.trans o1.touch iE);have K3:=b6 (K2.out a1 c1 w1 (HK.out.new T1.out) o1.own);clear o1 K2;have Mk1:True:=trivial)
     |(clear Mk1;go_at_call 137;refine K3.out.mono ?_;rintro e w2 ⟨rfl,hp2,t2⟩;replace HK:=b6 hp2;replace TK:=b6 ((TK.out.trans T1.out nE).trans t2 iE);clear hp2 t2 K3 T1))
    go_wp2_with fail
    refine(KP.out _).mono ?_
    rintro e w6 ⟨rfl,t6⟩
    replace HK:=b6 (HK.out.new t6)
    replace TK:=b6 (TK.out.trans t6 nE)
    clear t6 KP
    go_wp2_with fail
    refine(KW.out _ _ HK.out).mono ?_
    rintro e w9 ⟨rfl,t9⟩
    replace TK:=b6 (TK.out.trans t9 nE)
    clear t9 KW
    go_wp2
    refine⟨rfl,?_⟩
    rw[<-HA.out]
    exact⟨rfl,TK.out⟩
theorem s8 {b:Nat}{X:Px}{k:Nat}{f:Fl}{vn:Value}{ns:List ByteArray}{op:Nat}{w:World}(h:PS w b X k f vn ns op)(hk:k<=2000)(x:Int)(hx:g7 X.R k=x)(hn:x≠ -1):
 Calls Tryz.prog 108 #[.pointer (some ⟨b,0,none⟩)] w fun e w'=>e=.returned (.int .i64 x)/\PS w' b X (k+1) f vn ns op/\b7 (fun g=>g=b) w w':=by
 have h1:=FC b X k f vn ns op w h (by omega)
 rw[if_neg (by rw[hx];exact hn),hx]at h1
 exact h1
theorem Sa {b:Nat}{X:Px}{k:Nat}{f:Fl}{vn:Value}{ns:List ByteArray}{op:Nat}{w:World}(h:PS w b X k f vn ns op)(hk:k<=2000)(hx:g7 X.R k= -1):
 Calls Tryz.prog 108 #[.pointer (some ⟨b,0,none⟩)] w fun e w'=>e=.returned (.int .i64 (-1))/\PS w' b X k f vn ns op/\b7 (fun g=>g=b) w w':=by
 have h1:=FC b X k f vn ns op w h (by omega)
 rw[if_pos hx,hx]at h1
 exact h1
theorem VM {b:Nat}{X:Px}{k:Nat}{f:Fl}{vn:Value}{ns:List ByteArray}{op:Nat}{w:World}(h:PS w b X k f vn ns op)(hk:k<=2000):
 Calls Tryz.prog 108 #[.pointer (some ⟨b,0,none⟩)] w fun e w'=>e=.returned (.int .i64 (g7 X.R k))/\(∃k',PS w' b X k' f vn ns op)/\b7 (fun g=>g=b) w w':=
 (FC b X k f vn ns op w h (by omega)).mono (fun e w' h=>⟨h.1,⟨_,h.2.1⟩,h.2.2⟩)
theorem KY (b:Nat)(X:Px)(k:Nat)(f:Fl)(vn:Value)(ns:List ByteArray)(op:Nat)(w:World)(h:PS w b X k f vn ns op)(hX:X.Good)(hk:k<=X.R.length):
 Calls Tryz.prog 107 #[.pointer (some ⟨b,0,none⟩)] w fun e w'=>VX b X f vn ns op w (o8 X.R k) e w':=by
 have HX:=b6 hX
 have hk2:k<=1024:=by have:=hX.lenR;omega
 obtain⟨A,hA⟩:∃A,A=o8 X.R k:=⟨_,rfl⟩
 have HA:=b6 hA.symm
 rw[<-hA]
 clear hA hk
 unfold o8 at HA
 have HK:=b6 h
 have TK:=b6 (b7.refl (fun g=>g=b) w)
 clear h
 by_cases h42:g7 X.R k=42
 ·rw[if_pos h42]at HA
  go_enter Tryz.func107,Tryz.ntmps107
  go_wp2_with fail
  refine(s8 HK.out (by omega) 42 h42 (by decide)).mono ?_
  rintro e ws1 ⟨rfl,hp,tt⟩
  replace HK:=b6 hp
  replace TK:=b6 (TK.out.trans tt iE)
  clear hp tt
  clear h42
  go_wp2
  refine bodyPost_ret (results_tmp3 rfl _ _ _) rfl ?_
  rw[<-HA.out]
  exact⟨rfl,HK.out,TK.out⟩
 rw[if_neg h42]at HA
 by_cases h43:g7 X.R k=43
 ·rw[if_pos h43]at HA
  go_enter Tryz.func107,Tryz.ntmps107
  go_wp2_with fail
  refine(s8 HK.out (by omega) 43 h43 (by decide)).mono ?_
  rintro e ws1 ⟨rfl,hp,tt⟩
  replace HK:=b6 hp
  replace TK:=b6 (TK.out.trans tt iE)
  clear hp tt
  clear h43
  go_wp2
  refine bodyPost_ret (results_tmp3 rfl _ _ _) rfl ?_
  rw[<-HA.out]
  exact⟨rfl,HK.out,TK.out⟩
 rw[if_neg h43]at HA
 by_cases h63:g7 X.R k=63
 ·rw[if_pos h63]at HA
  go_enter Tryz.func107,Tryz.ntmps107
  go_wp2_with fail
  refine(s8 HK.out (by omega) 63 h63 (by decide)).mono ?_
  rintro e ws1 ⟨rfl,hp,tt⟩
  replace HK:=b6 hp
  replace TK:=b6 (TK.out.trans tt iE)
  clear hp tt
  clear h63
  go_wp2
  refine bodyPost_ret (results_tmp3 rfl _ _ _) rfl ?_
  rw[<-HA.out]
  exact⟨rfl,HK.out,TK.out⟩
 rw[if_neg h63]at HA
 by_cases h123:g7 X.R k=123
 ·rw[if_pos h123]at HA
  have hk3:k+1<=X.R.length:=j9 h123 (by decide)
  have KN:=b6 (fun w' hp=>JG b X (k+1) f vn ns op w' hp HX.out hk3)
  clear hk3
  generalize S7 X.R (k+1)=N at*
  go_enter Tryz.func107,Tryz.ntmps107
  go_wp2_with fail
  refine(s8 HK.out (by omega) 123 h123 (by decide)).mono ?_
  rintro e ws1 ⟨rfl,hp,tt⟩
  replace HK:=b6 hp
  replace TK:=b6 (TK.out.trans tt iE)
  clear hp tt
  clear h123 h42 h43 h63
  match N with
  |none=>
   go_wp2_with fail
   refine(KN.out _ HK.out).mono ?_
   rintro e w2 ⟨x,y,k1,rfl,hp,tt⟩
   have H2:=b6 hp
   have T2:=b6 (TK.out.trans tt iE)
   clear hp tt KN
   go_wp2
   refine bodyPost_ret (results_tmp3 rfl _ _ _) rfl ?_
   rw[<-HA.out]
   exact⟨_,_,_,rfl,H2.out,T2.out⟩
  |some (x,y,k1)=>
   go_wp2_with fail
   refine(KN.out _ HK.out).mono ?_
   rintro e w2 ⟨rfl,hp,tt⟩
   have H2:=b6 hp
   have T2:=b6 (TK.out.trans tt iE)
   clear hp tt KN
   go_wp2
   refine bodyPost_ret (results_tmp3 rfl _ _ _) rfl ?_
   rw[<-HA.out]
   exact⟨rfl,H2.out,T2.out⟩
 rw[if_neg h123]at HA
 have KZ:=b6 (VM HK.out (show k<=2000 by omega))
 generalize g7 X.R k=x at*
 have b1:(x==42)=false:=beq_eq_false_iff_ne.2 h42
 have b2:(x==43)=false:=beq_eq_false_iff_ne.2 h43
 have b3:(x==63)=false:=beq_eq_false_iff_ne.2 h63
 have b4:(x==123)=false:=beq_eq_false_iff_ne.2 h123
 go_enter Tryz.func107,Tryz.ntmps107
 go_wp2_with fail
 refine KZ.out.mono ?_
 rintro e w2 ⟨rfl,⟨k1,hp⟩,tt⟩
 have H2:=b6 hp
 have T2:=b6 (TK.out.trans tt iE)
 clear hp tt KZ
 go_wp2
 refine bodyPost_ret (results_tmp3 rfl _ _ _) rfl ?_
 rw[<-HA.out]
 exact⟨_,_,_,rfl,H2.out,T2.out⟩
def Y2 (f:Bool)(a:Option Addr)(n c:Nat):j4:=⟨1,a,n,c,f,0,0,false,0,⟨#[]⟩,none,0,0⟩
theorem Au (b:Nat)(X:Px)(k:Nat)(f:Fl)(vn:Value)(ns:List ByteArray)(op:Nat)(a:Option Addr)(n c:Nat)(w:World)(h:PS w b X k f vn ns op):
 Calls Tryz.prog 110 #[.pointer (some ⟨b,0,none⟩),.slice a n c] w fun e w'=>e=.returned (.agg (Y2 f.i a n c).arr)/\b7 (fun _=>False) w w':=by
 have TA:=b6 ((tZ w).alloc (.cells j4.zero.arr 28))
 have QB:=b6 (e8 w j4.zero.arr 28)
 have HP:=b6 (h.new TA.out)
 clear h
 obtain⟨fi,hfi⟩:∃fi,fi=f.i:=⟨_,rfl⟩
 rw[<-hfi]
 go_enter Tryz.func110,Tryz.ntmps110
 go_upto_region 1 with fail
 unfold j4.zero j4.arr at TA QB HP
 generalize w.alloc (.cells _ 28)=w1 at*
 have c6:=HP.out.c6
 rw[<-hfi]at c6
 obtain⟨q,hq⟩:∃q,q=w.heap.size:=⟨_,rfl⟩
 have HQ:=b6 (show w.heap.size<=q by omega)
 rw[<-hq]at QB⊢
 clear hq hfi
 go_wp2_with (first|refine wpList_store_row rfl 28 _ _ rfl q _ rfl rfl 28 _ QB.out l7 (by rfl) (j4.one (Y2 fi a n c)) ?_|fail)
 refine bodyPost_ret (o9 rfl _ _ q 28 _ (0,0) _ rfl (setRow_heap _ q _ _ 28 (0,0) QB.out) Tryz.underlying28 rfl (by kernel_rfl)) rfl ?_
 exact⟨rfl,TA.out.trans (g8 _ _ _) (fun i hi e=>by have:=HQ.out;omega)⟩
end Go.Proofs.YtdhhcefmmojcmaaGreatDoor
