/- Texts of this proof, one behind the other. -/
import Derived.Test.YtdhhcefmmojcmaaGreatDoorRows
import Derived.OpenShut
import Derived.ChangeArms
import Derived.Test.YtdhhcefmmojcmaaGreatDoorM0
import Derived.Test.YtdhhcefmmojcmaaGreatDoorCards
import Derived.Test.YtdhhcefmmojcmaaGreatDoorTie
import Derived.WalkKit
import Derived.ProofKit
import Derived.ShutString
import Derived.Below
import Derived.Carry
import Derived.ChangeSame
import Derived.ChangeOld
import Derived.Deep.Slices
import Derived.Lib.SmallJoins
import Derived.Deep.DeepHandedRow
import Derived.Deep.DeepWitnessRowRef
import Derived.Lib.LaidTab
import Derived.Stop.LaidErr
import Derived.FnData
import Derived.SevenTiedAt
import Derived.LaidLaws
import Derived.BigRegion
import Derived.Deep.RegionWith
set_option maxRecDepth 100000
set_option maxHeartbeats 0
set_option linter.unusedVariables false
namespace Go.Proofs.YtdhhcefmmojcmaaGreatDoor
open Go.RowKit Go.Lib
theorem g0:Tryz.prog.globalNamed "ferret/coding.marks" =some 0:=by kernel_rfl
theorem g1:Tryz.prog.globalNamed "ferret/coding.leads" =some 1:=by kernel_rfl
theorem y0:(Tryz.prog.globals[0]?).map (·.type)=some 122:=by kernel_rfl
theorem y1:(Tryz.prog.globals[1]?).map (·.type)=some 162:=by kernel_rfl
theorem Xh:Tryz.prog.cellsOf 3=1:=by kernel_rfl
theorem WM:Tryz.prog.cellsOf 5=1:=by kernel_rfl
theorem Xi:Tryz.prog.cellsOf 9=1:=by kernel_rfl
theorem WJ:Tryz.prog.cellsOf 147=5:=by kernel_rfl
theorem WZ:Tryz.prog.cellsOf 162=45:=by kernel_rfl
theorem WX:Tryz.prog.cellsOf 122=5:=by kernel_rfl
theorem CD {cs:List Value}{k:Nat}{v:Value}(h:(cs.drop k).take 1=[v]):cs[k]? =some v:=by
 have:=congrArg (·[0]?) h
 simpa [List.getElem?_take,List.getElem?_drop]using this
theorem Oe {cs:List Value}{x y z u v:Value}(hl:cs.length=5)(q0:cs[0]? =some x)(q1:cs[1]? =some y)(q2:cs[2]? =some z)(q3:cs[3]? =some u)(q4:cs[4]? =some v):cs=[x,y,z,u,v]:=by
 match cs,hl,q0,q1,q2,q3,q4 with
 | [a,b,c,d,e],_,q0,q1,q2,q3,q4=>
   simp at q0 q1 q2 q3 q4
   subst q0 q1 q2 q3 q4
   rfl
section
variable {H : Type} {enc : TypeId × Value → H} {w : World} {base : Nat} {sp : Nat → Bool} {held : Bool}
theorem WV {fuel:Nat}{cs:List Value}{x0 x1 x2 x3 x4:Int}{p:List MemPlace}(h:DataW.trod enc Tryz.prog w base sp held fuel 147 cs=some (.agg [.lit (.int .u8 x0),.lit (.int .u8 x1),.lit (.int .i64 x2),.lit (.int .u8 x3),.lit (.int .u8 x4)],p)):cs=[.int .u8 x0,.int .u8 x1,.int .i64 x2,.int .u8 x3,.int .u8 x4]:=by
 obtain⟨xs,n,rfl,hx,hl,hxl,hall⟩:=DataW.trod_struct Tryz.underlying147 h
 rw[WJ]at hl
 have hx3:xs.map (·.1)=[.lit (.int .u8 x0),.lit (.int .u8 x1),.lit (.int .i64 x2),.lit (.int .u8 x3),.lit (.int .u8 x4)]:=by
  have:=congrArg Prod.fst hx
  simpa using this.symm
 obtain⟨d0,d1,d2,d3,d4,rfl⟩:∃d0 d1 d2 d3 d4,xs=[d0,d1,d2,d3,d4]:=by
  match xs,hx3 with
  | [d0,d1,d2,d3,d4],_=>exact⟨d0,d1,d2,d3,d4,rfl⟩
 simp only[List.map_cons,List.map_nil,List.cons.injEq,and_true]at hx3
 obtain⟨e0,e1,e2,e3,e4⟩:=hx3
 have f0:=hall 0 _ rfl
 change DataW.trod _ _ _ _ _ _ _ 5 ((cs.drop 0).take (Tryz.prog.cellsOf 5))=some d0 at f0
 rw[WM]at f0
 have q0:cs[0]? =some (.int .u8 x0):=by
  obtain⟨z,hz,hx',_⟩:=DataW.trod_int Tryz.underlying5 f0
  rw[hx']at e0
  cases e0
  exact CD hz
 have f1:=hall 1 _ rfl
 change DataW.trod _ _ _ _ _ _ _ 5 ((cs.drop 1).take (Tryz.prog.cellsOf 5))=some d1 at f1
 rw[WM]at f1
 have q1:cs[1]? =some (.int .u8 x1):=by
  obtain⟨z,hz,hx',_⟩:=DataW.trod_int Tryz.underlying5 f1
  rw[hx']at e1
  cases e1
  exact CD hz
 have f2:=hall 2 _ rfl
 change DataW.trod _ _ _ _ _ _ _ 3 ((cs.drop 2).take (Tryz.prog.cellsOf 3))=some d2 at f2
 rw[Xh]at f2
 have q2:cs[2]? =some (.int .i64 x2):=by
  obtain⟨z,hz,hx',_⟩:=DataW.trod_int Tryz.underlying3 f2
  rw[hx']at e2
  cases e2
  exact CD hz
 have f3:=hall 3 _ rfl
 change DataW.trod _ _ _ _ _ _ _ 5 ((cs.drop 3).take (Tryz.prog.cellsOf 5))=some d3 at f3
 rw[WM]at f3
 have q3:cs[3]? =some (.int .u8 x3):=by
  obtain⟨z,hz,hx',_⟩:=DataW.trod_int Tryz.underlying5 f3
  rw[hx']at e3
  cases e3
  exact CD hz
 have f4:=hall 4 _ rfl
 change DataW.trod _ _ _ _ _ _ _ 5 ((cs.drop 4).take (Tryz.prog.cellsOf 5))=some d4 at f4
 rw[WM]at f4
 have q4:cs[4]? =some (.int .u8 x4):=by
  obtain⟨z,hz,hx',_⟩:=DataW.trod_int Tryz.underlying5 f4
  rw[hx']at e4
  cases e4
  exact CD hz
 exact Oe hl q0 q1 q2 q3 q4
theorem LW {cs:List Value}{m:Nat}:∀(rows:List (List Value)) (k:Nat),(∀i (h:i<rows.length),(cs.drop ((k+i)*m)).take m=rows[i])->(∀r ∈ rows,r.length=m)->(cs.drop (k*m)).take (rows.length*m)=rows.flatten
 | [],k,_,_=>by simp
 |r::rows,k,h,hl=>by
  have h0:=h 0 (by simp)
  have ih:=LW (cs:=cs) (m:=m) rows (k+1) (fun i hi=>by
   have:=h (i+1) (by simpa using hi)
   rw[show k+(i+1)=k+1+i by omega]at this
   simpa using this) (fun q hq=>hl q (by simp[hq]))
  simp only[Nat.add_zero,List.getElem_cons_zero]at h0
  rw[List.length_cons,Nat.add_mul,Nat.one_mul,Nat.add_comm,List.take_add,h0,List.drop_drop,List.flatten_cons]
  rw[show k*m+m=(k+1)*m by rw[Nat.add_mul,Nat.one_mul],ih]
theorem whole {cs:List Value}{m:Nat}{rows:List (List Value)}(h:∀i (h:i<rows.length),(cs.drop (i*m)).take m=rows[i])(hl:∀r ∈ rows,r.length=m)(hc:cs.length=rows.length*m):cs=rows.flatten:=by
 have:=LW rows 0 (fun i hi=>by rw[Nat.zero_add];exact h i hi) hl
 rw[Nat.zero_mul,List.drop_zero,List.take_of_length_le (by omega)]at this
 exact this
theorem Jw {fuel:Nat}{cs:List Value}{p:List MemPlace}(h:DataW.trod enc Tryz.prog w base sp held fuel 162 cs=some (Rows.laid_ferret_coding_leads,p)):cs=Bh.toList:=by
 obtain⟨xs,m,rfl,hx,hl,hxl,hall⟩:=DataW.trod_array Tryz.underlying162 h
 rw[WZ]at hl
 have hx3:xs.map (·.1)=[.agg [.lit (.int .u8 0),.lit (.int .u8 127),.lit (.int .i64 0),.lit (.int .u8 0),.lit (.int .u8 0)],.agg [.lit (.int .u8 194),.lit (.int .u8 223),.lit (.int .i64 1),.lit (.int .u8 128),.lit (.int .u8 191)],.agg [.lit (.int .u8 224),.lit (.int .u8 224),.lit (.int .i64 2),.lit (.int .u8 160),.lit (.int .u8 191)],.agg [.lit (.int .u8 225),.lit (.int .u8 236),.lit (.int .i64 2),.lit (.int .u8 128),.lit (.int .u8 191)],.agg [.lit (.int .u8 237),.lit (.int .u8 237),.lit (.int .i64 2),.lit (.int .u8 128),.lit (.int .u8 159)],.agg [.lit (.int .u8 238),.lit (.int .u8 239),.lit (.int .i64 2),.lit (.int .u8 128),.lit (.int .u8 191)],.agg [.lit (.int .u8 240),.lit (.int .u8 240),.lit (.int .i64 3),.lit (.int .u8 144),.lit (.int .u8 191)],.agg [.lit (.int .u8 241),.lit (.int .u8 243),.lit (.int .i64 3),.lit (.int .u8 128),.lit (.int .u8 191)],.agg [.lit (.int .u8 244),.lit (.int .u8 244),.lit (.int .i64 3),.lit (.int .u8 128),.lit (.int .u8 143)]]:=by
  have:=congrArg Prod.fst hx
  exact(DataW.agg.inj this).symm
 have row:∀i (hi:i<9) (x0 x1 x2 x3 x4:Int),(xs.map (·.1))[i]? =some (.agg [.lit (.int .u8 x0),.lit (.int .u8 x1),.lit (.int .i64 x2),.lit (.int .u8 x3),.lit (.int .u8 x4)])->(cs.drop (i*5)).take 5=[.int .u8 x0,.int .u8 x1,.int .i64 x2,.int .u8 x3,.int .u8 x4]:=by
  intro i hi x0 x1 x2 x3 x4 hd
  have h1:=hall i hi
  rw[WJ]at h1
  rw[List.getElem?_map]at hd
  obtain⟨⟨d,q⟩,hq,rfl⟩:=Option.map_eq_some_iff.1 hd
  rw[hq]at h1
  exact WV h1
 rw[hx3]at row
 have:=whole (cs:=cs) (m:=5) (rows:=[[.int .u8 0,.int .u8 127,.int .i64 0,.int .u8 0,.int .u8 0],[.int .u8 194,.int .u8 223,.int .i64 1,.int .u8 128,.int .u8 191],[.int .u8 224,.int .u8 224,.int .i64 2,.int .u8 160,.int .u8 191],[.int .u8 225,.int .u8 236,.int .i64 2,.int .u8 128,.int .u8 191],[.int .u8 237,.int .u8 237,.int .i64 2,.int .u8 128,.int .u8 159],[.int .u8 238,.int .u8 239,.int .i64 2,.int .u8 128,.int .u8 191],[.int .u8 240,.int .u8 240,.int .i64 3,.int .u8 144,.int .u8 191],[.int .u8 241,.int .u8 243,.int .i64 3,.int .u8 128,.int .u8 191],[.int .u8 244,.int .u8 244,.int .i64 3,.int .u8 128,.int .u8 143]]) (fun i hi=>by
  simp only[List.length_cons,List.length_nil]at hi
  match i,hi with
  |0,hi=>exact row 0 hi _ _ _ _ _ rfl
  |1,hi=>exact row 1 hi _ _ _ _ _ rfl
  |2,hi=>exact row 2 hi _ _ _ _ _ rfl
  |3,hi=>exact row 3 hi _ _ _ _ _ rfl
  |4,hi=>exact row 4 hi _ _ _ _ _ rfl
  |5,hi=>exact row 5 hi _ _ _ _ _ rfl
  |6,hi=>exact row 6 hi _ _ _ _ _ rfl
  |7,hi=>exact row 7 hi _ _ _ _ _ rfl
  |8,hi=>exact row 8 hi _ _ _ _ _ rfl) (by simp) (by simp[hl])
 exact this
theorem RY {fuel:Nat}{cs:List Value}{l:List UInt8}{p:List MemPlace}(h:DataW.trod enc Tryz.prog w base sp held fuel 9 cs=some (.lit (.string l),p)):cs=[.string ⟨l.toArray⟩]:=by
 obtain⟨s,rfl,hz,_⟩:=DataW.trod_string Tryz.underlying9 h
 cases s
 rename_i a
 simp only[Prod.mk.injEq,DataW.lit.injEq,Lit.string.injEq]at hz
 rw[hz.1]
theorem Jy {fuel:Nat}{cs:List Value}{p:List MemPlace}(h:DataW.trod enc Tryz.prog w base sp held fuel 122 cs=some (Rows.laid_ferret_coding_marks,p)):cs=Fd.toList:=by
 obtain⟨xs,m,rfl,hx,hl,hxl,hall⟩:=DataW.trod_array Tryz.underlying122 h
 rw[WX]at hl
 have hx3:xs.map (·.1)=[.lit (.string []),.lit (.string [239,187,191]),.lit (.string [255,254]),.lit (.string [254,255]),.lit (.string [])]:=by
  have:=congrArg Prod.fst hx
  exact(DataW.agg.inj this).symm
 have row:∀i (hi:i<5) (l:List UInt8),(xs.map (·.1))[i]? =some (.lit (.string l))->(cs.drop (i*1)).take 1=[.string ⟨l.toArray⟩]:=by
  intro i hi l hd
  have h1:=hall i hi
  rw[Xi]at h1
  rw[List.getElem?_map]at hd
  obtain⟨⟨d,q⟩,hq,rfl⟩:=Option.map_eq_some_iff.1 hd
  rw[hq]at h1
  exact RY h1
 rw[hx3]at row
 have:=whole (cs:=cs) (m:=1) (rows:=[[.string ⟨#[]⟩],[.string ⟨#[239,187,191]⟩],[.string ⟨#[255,254]⟩],[.string ⟨#[254,255]⟩],[.string ⟨#[]⟩]]) (fun i hi=>by
  simp only[List.length_cons,List.length_nil]at hi
  match i,hi with
  |0,hi=>exact row 0 hi _ rfl
  |1,hi=>exact row 1 hi _ rfl
  |2,hi=>exact row 2 hi _ rfl
  |3,hi=>exact row 3 hi _ rfl
  |4,hi=>exact row 4 hi _ rfl) (by simp) (by simp[hl])
 exact this
end
theorem Uo {W:World}(h:laidMet Tryz.prog [("ferret/coding.marks",Rows.laid_ferret_coding_marks),("ferret/coding.leads",Rows.laid_ferret_coding_leads)] W):J1 W:=by
 obtain⟨ps,⟨g,t,cs,fuel,p,q,hg,ht,hvar,hd,⟨g',t',cs',fuel',p',q',hg',ht',hvar',hd',_,rfl⟩,rfl⟩,_,hfree⟩:=h
 obtain rfl:=Option.some.inj (g0.symm.trans hg)
 obtain rfl:=Option.some.inj (y0.symm.trans ht)
 obtain rfl:=Option.some.inj (g1.symm.trans hg')
 obtain rfl:=Option.some.inj (y1.symm.trans ht')
 have e0:cs=Fd:=by
  have:=Jy hd
  cases cs
  simpa using congrArg List.toArray this
 have e1:cs'=Bh:=by
  have:=Jw hd'
  cases cs'
  simpa using congrArg List.toArray this
 subst e0
 subst e1
 unfold World.var? at hvar hvar'
 rw[g0]at hvar
 rw[g1]at hvar'
 simp only[Option.bind_some]at hvar hvar'
 obtain⟨⟨cc,tt,hh⟩,_⟩:=hfree 0 0 (by simp[MemPlace.row,Fd])
 obtain⟨⟨cc',tt',hh'⟩,_⟩:=hfree 1 0 (by simp[MemPlace.row,Bh])
 rw[hh]at hvar
 rw[hh']at hvar'
 simp only[Option.some.injEq]at hvar hvar'
 subst hvar
 subst hvar'
 exact⟨⟨tt,hh⟩,⟨tt',hh'⟩⟩
end Go.Proofs.YtdhhcefmmojcmaaGreatDoor
namespace Go.Proofs.YtdhhcefmmojcmaaGreatDoor
open Go.ChangeShapes Go.WideShapes Go.ChangeAt Go.RowKit
theorem own:ownKnob Tryz.prog.godebug=none:=by kernel_rfl
theorem Xb:Tryz.prog.globalNamed "strconv.ErrSyntax" =some 2:=by kernel_rfl
theorem Tk:(Tryz.prog.globals[2]?).map (·.type)=some 192:=by kernel_rfl
theorem Xa:Tryz.prog.globalNamed "strconv.ErrRange" =some 3:=by kernel_rfl
theorem Tj:(Tryz.prog.globals[3]?).map (·.type)=some 192:=by kernel_rfl
theorem Xf:Tryz.prog.globalNamed "math/bits.deBruijn64tab" =some 6:=by kernel_rfl
theorem IO:Tryz.prog.cellsOf 215=1:=by kernel_rfl
theorem Qc:Tryz.prog.cellsOf 9=1:=by kernel_rfl
theorem WG: "*" ++ "errors.errorString" = "*errors.errorString":=by decide
theorem RM (u:TypeId)(h:Tryz.prog.typeName? 3 u=some "*errors.errorString"):u=213:=
 typeName_ptr_named (nm:= "errors.errorString") (by rw[WG];kernel_rfl) (by kernel_rfl) (by decide) u (by rw[WG];exact h)
structure WK (W:World):Prop where
 tabs:J1 W
 sx:Sx W
 low:7<=W.heap.size
theorem Ly {W:World}(h:laidMet Tryz.prog Rows.syntaxEscapesRow.laid W):WK W:=by
 refine⟨Uo h.tail.tail.tail.tail.tail,⟨?_,?_⟩,?_⟩
 ·have h5:=h.tail.tail.tail.tail
  obtain⟨a,s,hv,-,-,-⟩:=laid_sentinel h5 Xb Tk Tryz.underlying192 RM Tryz.underlying213 Tryz.underlying215 rfl rfl Tryz.underlying9 IO Qc
  have h0:=World.var?_cell Xb hv 0
  exact⟨_,by simpa using h0,.inr ⟨_,_,rfl⟩⟩
 ·have h4:=h.tail.tail.tail
  obtain⟨a,s,hv,-,-,-⟩:=laid_sentinel h4 Xa Tj Tryz.underlying192 RM Tryz.underlying213 Tryz.underlying215 rfl rfl Tryz.underlying9 IO Qc
  have h0:=World.var?_cell Xa hv 0
  exact⟨_,by simpa using h0,.inr ⟨_,_,rfl⟩⟩
 ·have h2:=h.tail
  obtain⟨ps,⟨g,t,cs,fuel,p,q,hg,ht,hvar,_⟩,_⟩:=h2
  unfold World.var? at hvar
  rw[Xf]at hvar
  simp only[Option.bind_some]at hvar
  rcases Nat.lt_or_ge 6 W.heap.size with e|e
  ·exact e
  ·rw[Array.getElem?_eq_none e]at hvar
   cases hvar
def Me (cs:Array Value):Obj->Obj
 | .cells _ t frozen=>.cells cs t frozen
 |o=>o
def VA:Array Value:=#[.int .u64 1,.int .u64 10,.int .u64 100,.int .u64 1000,.int .u64 10000,.int .u64 100000,.int .u64 1000000,.int .u64 10000000,.int .u64 100000000,.int .u64 1000000000,.int .u64 10000000000,.int .u64 100000000000,.int .u64 1000000000000,.int .u64 10000000000000,.int .u64 100000000000000,.int .u64 1000000000000000,.int .u64 10000000000000000,.int .u64 100000000000000000,.int .u64 1000000000000000000,.int .u64 10000000000000000000]
def VK:Array Value:=#[.int .u8 0,.int .u8 1,.int .u8 28,.int .u8 2,.int .u8 29,.int .u8 14,.int .u8 24,.int .u8 3,.int .u8 30,.int .u8 22,.int .u8 20,.int .u8 15,.int .u8 25,.int .u8 17,.int .u8 4,.int .u8 8,.int .u8 31,.int .u8 27,.int .u8 13,.int .u8 23,.int .u8 21,.int .u8 19,.int .u8 16,.int .u8 7,.int .u8 26,.int .u8 12,.int .u8 18,.int .u8 6,.int .u8 11,.int .u8 5,.int .u8 10,.int .u8 9]
def VL:Array Value:=#[.int .u8 0,.int .u8 1,.int .u8 56,.int .u8 2,.int .u8 57,.int .u8 49,.int .u8 28,.int .u8 3,.int .u8 61,.int .u8 58,.int .u8 42,.int .u8 50,.int .u8 38,.int .u8 29,.int .u8 17,.int .u8 4,.int .u8 62,.int .u8 47,.int .u8 59,.int .u8 36,.int .u8 45,.int .u8 43,.int .u8 51,.int .u8 22,.int .u8 53,.int .u8 39,.int .u8 33,.int .u8 30,.int .u8 24,.int .u8 18,.int .u8 12,.int .u8 5,.int .u8 63,.int .u8 55,.int .u8 48,.int .u8 27,.int .u8 60,.int .u8 41,.int .u8 37,.int .u8 16,.int .u8 46,.int .u8 35,.int .u8 44,.int .u8 21,.int .u8 52,.int .u8 32,.int .u8 23,.int .u8 11,.int .u8 54,.int .u8 26,.int .u8 40,.int .u8 15,.int .u8 34,.int .u8 20,.int .u8 31,.int .u8 10,.int .u8 25,.int .u8 14,.int .u8 19,.int .u8 9,.int .u8 13,.int .u8 8,.int .u8 7,.int .u8 6]
noncomputable def low:Nat:=(World.holding Tryz.prog default ⟨#[],#[],[]⟩).heap.size
def Uu (b:Nat):Array Value:=#[.iface 213 (.pointer (some ⟨b,0,none⟩))]
noncomputable def P1 (os:Os):World:=
 let w0:=World.holding Tryz.prog os ⟨#[.cells #[.string ⟨#[105,110,118,97,108,105,100,32,115,121,110,116,97,120]⟩] 215,.cells #[.string ⟨#[118,97,108,117,101,32,111,117,116,32,111,102,32,114,97,110,103,101]⟩] 215],#[],[]⟩
 {w0 with heap:=((((((w0.heap.modify 2 (Me (Uu low))).modify 3 (Me (Uu (low+1)))).modify 4 (Me VA)).modify 5 (Me VK)).modify 6 (Me VL)).modify 0 (Me Fd)).modify 1 (Me Bh)}
end Go.Proofs.YtdhhcefmmojcmaaGreatDoor
namespace Go.Proofs.YtdhhcefmmojcmaaGreatDoor
open Go.RowKit Go.Lib
theorem AB:(Tryz.prog.info? 60).map (fun i=>(i.zero,i.size,i.bytes))=some (some (.agg #[.int .i64 0,.int .i64 0]),2,16):=by kernel_rfl
theorem Ug {a b c d:Int}(h:a=c)(k:b=d):Ending.returned (.agg #[.int .i64 a,.int .i64 b])=.returned (.agg #[.int .i64 c,.int .i64 d]):=by rw[h,k]
theorem Pu (w:World)(o1 o2 o3:Obj):(((w.alloc o1).alloc o2).alloc o3).heap[w.heap.size+1+1]? =some o3:=by
 show(((w.heap.push _).push _).push _)[_]? =_
 rw[Array.getElem?_push]
 simp
theorem Ae {w:World}(x y:Value)(t:TypeId):(w.alloc (.cells #[x,y] t)).heap[w.heap.size]? =some (.cells #[x,y] t (0,0)):=by
 show(w.heap.push _)[_]? =_
 simp
theorem EJ (a b c d:Int)(w:World):Calls Tryz.prog 33 #[.agg #[.int .i64 a,.int .i64 b],.agg #[.int .i64 c,.int .i64 d]] w fun e w'=>e=.returned (.agg #[.int .i64 (max a c),.int .i64 (min b d)])/\b7 (fun _=>False) w w':=by
 go_enter Tryz.func33,Tryz.ntmps33
 go_wp2
 all_goals
  refine bodyPost_ret (o9 rfl _ _ (w.heap.size+1+1) 60 _ (0,0) _ rfl (Pu w _ _ _) Tryz.underlying60 rfl (by kernel_rfl)) rfl ⟨?_,(((b7.refl _ w).alloc _).alloc _).alloc _⟩
  exact Ug (by omega) (by omega)
abbrev R2:=Int×Int
def Be (x:R2):List Value:=[.int .i64 x.1,.int .i64 x.2]
def l4 (l:List R2):List Value:=l.flatMap Be
theorem y8 (l m:List R2):l4 (l++m)=l4 l++l4 m:=by simp[l4]
theorem D9 (l:List R2):(l4 l).length=l.length*2:=by
 induction l with
 |nil=>rfl
 |cons x r ih=>simp only[l4,List.flatMap_cons,List.length_append,List.length_cons]at ih⊢;rw[ih];simp[Be];omega
theorem M5:∀(l:List R2) (i:Nat) (h:i<l.length),(l4 l)[2*i]? =some (.int .i64 (l[i]).1)
 |x::r,0,_=>rfl
 |x::r,i+1,h=>by
  have:=M5 r i (by simpa using h)
  show(Be x++l4 r)[2*(i+1)]? =_
  rw[List.getElem?_append_right (by simp[Be];omega)]
  simpa [Be,show 2*(i+1)-2=2*i by omega]using this
theorem I3:∀(l:List R2) (i:Nat) (h:i<l.length),(l4 l)[2*i+1]? =some (.int .i64 (l[i]).2)
 |x::r,0,_=>rfl
 |x::r,i+1,h=>by
  have:=I3 r i (by simpa using h)
  show(Be x++l4 r)[2*(i+1)+1]? =_
  rw[List.getElem?_append_right (by simp[Be];omega)]
  simpa [Be,show 2*(i+1)+1-2=2*i+1 by omega]using this
theorem AE (l:List R2):∀u ∈ l4 l,u.oneCell'=true:=by
 intro u hu
 simp only[l4,List.mem_flatMap,Be]at hu
 obtain⟨x,_,hx⟩:=hu
 simp at hx
 rcases hx with rfl|rfl<;>rfl
theorem Ai (g j:Nat):(⟨g,0,none⟩:Addr).add j=⟨g,j,none⟩:=by
 unfold Addr.add
 split
 ·rename_i h;rw[h]
 ·rw[Nat.zero_add]
def Rg (w:World)(a:Option Addr)(l:List R2):Prop:=
 l=[]∨∃b o,a=some ⟨b,o,none⟩/\b<w.heap.size/\∀i (h:i<l.length),w.cell? ⟨b,o+i*2,none⟩=some (.int .i64 (l[i]).1)/\w.cell? ⟨b,o+i*2+1,none⟩=some (.int .i64 (l[i]).2)
theorem Rg.kept {w w':World}{S:Nat->Prop}{a:Option Addr}{l:List R2}(h:Rg w a l)(t:b7 S w w')(hs:∀b o,a=some ⟨b,o,none⟩->b<w.heap.size->¬S b):Rg w' a l:=by
 rcases h with h|⟨b,o,rfl,hb,hc⟩
 ·exact .inl h
 ·refine .inr ⟨b,o,rfl,Nat.lt_of_lt_of_le hb t.size,fun i hi=>?_⟩
  rw[t.cell (p:=⟨b,o+i*2,none⟩) hb (hs b o rfl hb),t.cell (p:=⟨b,o+i*2+1,none⟩) hb (hs b o rfl hb)]
  exact hc i hi
theorem Rg.new {w w':World}{a:Option Addr}{l:List R2}(h:Rg w a l)(t:b7 (fun _=>False) w w'):Rg w' a l:=h.kept t (fun _ _ _ _ e=>e)
theorem F5 {w:World}{base e:Nat}{v:Value}{l:List R2}(h:w.ownsRow base e 2 v l.length (l4 l)):∃a c,v=.slice a l.length c/\Rg w a l:=by
 rcases h.2 with⟨rfl,h0⟩|⟨g,cap,cur,rfl,hg,hh,rest⟩
 ·exact⟨none,0,by rw[h0],.inl (List.eq_nil_of_length_eq_zero h0)⟩
 ·refine⟨_,cap,rfl,.inr ⟨g,0,rfl,lt_of_block hh,fun i hi=>?_⟩⟩
  have h1:=h.cells (g:=g) rfl (2*i) _ (M5 l i hi)
  have h2:=h.cells (g:=g) rfl (2*i+1) _ (I3 l i hi)
  rw[Ai]at h1 h2
  rw[show 0+i*2=2*i by omega]
  exact⟨h1,h2⟩
theorem Hx {w:World}{base g n cap sz:Nat}{e:TypeId}{xs:List Value}(h:w.ownsRow base e sz (.slice (some ⟨g,0,none⟩) n cap) n xs)(i:Nat)(x:Value):
 (w.setCell ⟨g,i,none⟩ x).ownsRow base e sz (.slice (some ⟨g,0,none⟩) n cap) n (xs.set i x):=by
 obtain⟨h1,h2⟩:=h
 rcases h2 with⟨h2,_⟩|⟨g',cap',cur,hv,hg,hh,hle,hm,hcs,htk⟩
 ·simp at h2
 ·simp at hv
  obtain⟨rfl,rfl⟩:=hv
  refine⟨by simpa using h1,.inr ⟨g,cap,cur.set! i x,rfl,hg,?_,hle,hm,by simpa using hcs,?_⟩⟩
  ·have hlt:=lt_of_block hh
   have h':w.heap[g]=.cells cur e (0,0):=by simpa [Array.getElem?_eq_getElem hlt]using hh
   show(w.heap.modify g _)[g]? =_
   rw[Array.getElem?_eq_getElem (by simpa using hlt),Array.getElem_modify_self,h']
   rfl
  ·rw[<-htk]
   simp[List.take_set]
def V7 (s:List R2)(r:R2):List R2:=
 match s.getLast? with
 |none=> [r]
 |some t=>if r.1<=t.2+1 then s.dropLast++ [(t.1,max t.2 r.2)]else s++ [r]
def y9 (l:List R2):List R2:=l.foldl V7 []
def Ap (x:R2):Prop:=0<=x.1/\x.1<=x.2/\x.2<=1114111
theorem Ox (s:List R2)(r:R2):(V7 s r).length<=s.length+1:=by
 unfold V7
 split
 ·simp
 ·split
  ·rw[List.length_append,List.length_dropLast];simp
  ·simp
theorem Z5 (l:List R2)(k:Nat)(h:k<l.length):y9 (l.take (k+1))=V7 (y9 (l.take k)) l[k]:=by
 unfold y9
 rw[List.take_succ_eq_append_getElem h,List.foldl_append]
 rfl
theorem Cn (l:List R2):∀k,k<=l.length->(y9 (l.take k)).length<=k
 |0,_=>by simp[y9]
 |k+1,h=>by
  rw[Z5 l k (by omega)]
  have:=Ox (y9 (l.take k)) (l[k]'(by omega))
  have:=Cn l k (by omega)
  omega
theorem EU {s:List R2}{r:R2}(hs:∀x ∈ s,Ap x)(hr:Ap r):∀x ∈ V7 s r,Ap x:=by
 intro x hx
 unfold V7 at hx
 split at hx
 ·simp only[List.mem_singleton]at hx
  rw[hx]
  exact hr
 ·rename_i t ht
  have hti:=hs t (List.mem_of_getLast? ht)
  split at hx
  ·rcases List.mem_append.1 hx with h|h
   ·exact hs x (List.dropLast_subset _ h)
   ·simp only[List.mem_singleton]at h
    rw[h]
    unfold Ap at*
    dsimp only
    omega
  ·rcases List.mem_append.1 hx with h|h
   ·exact hs x h
   ·simp only[List.mem_singleton]at h
    rw[h]
    exact hr
theorem Gx (l:List R2)(hl:∀x ∈ l,Ap x):∀k,k<=l.length->∀x ∈ y9 (l.take k),Ap x
 |0,_=>by simp[y9]
 |k+1,h=>by
  rw[Z5 l k (by omega)]
  exact EU (Gx l hl k (by omega)) (hl _ (List.getElem_mem _))
structure Ow (W0 wr:World)(ty:TypeId)(v:Value)(s:List R2):Prop where
 own:wr.ownsRow 0 60 2 v s.length (l4 s)
 new:∀g,v.ownBlock=some g->W0.heap.size<=g
 touch:b7 (fun _=>False) W0 wr
theorem Ow.more {W0 wr w1:World}{ty:TypeId}{v v':Value}{s:List R2}{x:R2}{o:Obj}(h:Ow W0 wr ty v s)(hown:w1.ownsRow 0 60 2 v' (s.length+1) (l4 s++Be x))(hg:(wr.alloc o).grownBy w1 v.ownBlock)(hat:v'.ownBlock=v.ownBlock∨v'.ownBlock=some (wr.heap.size+1)):Ow W0 w1 ty v' (s++ [x]):=by
 refine⟨?_,fun g hg'=>?_,(h.touch.alloc o).grown hg (fun k e hk=>by have:=h.new k e;omega)⟩
 ·rw[List.length_append,y8]
  simpa [l4]using hown
 ·rcases hat with e|e
  ·exact h.new g (by rw[<-e];exact hg')
  ·rw[e]at hg'
   simp at hg'
   have:=h.touch.size
   omega
theorem Ow.alloc {W0 wr:World}{ty:TypeId}{v:Value}{s:List R2}(h:Ow W0 wr ty v s)(o:Obj):Ow W0 (wr.alloc o) ty v s:=⟨h.own.alloc _,h.new,h.touch.alloc _⟩
theorem Ow.still {W0 wr w':World}{ty:TypeId}{v:Value}{s:List R2}(h:Ow W0 wr ty v s)(tc:b7 (fun _=>False) wr w'):Ow W0 w' ty v s:=by
 refine⟨⟨h.own.1,?_⟩,h.new,h.touch.trans tc iE⟩
 rcases h.own.2 with h0|⟨g,cap,cur,hv,hg,hh,rest⟩
 ·exact .inl h0
 ·exact .inr ⟨g,cap,cur,hv,hg,(tc.block g (lt_of_block hh) id).trans hh,rest⟩
theorem z7 (w:World)(l:List Value)(t:TypeId):∀(j:Nat) (u:Value),l[j]? =some u->(w.alloc (.cells l.toArray t)).cell? ((⟨w.heap.size,0,none⟩:Addr).add j)=some u:=by
 intro j u hj
 have hb:(w.alloc (.cells l.toArray t)).heap[w.heap.size]? =some (.cells l.toArray t (0,0)):=by
  show(w.heap.push _)[_]? =_
  simp
 rw[Ai]
 unfold World.cell?
 rw[hb]
 simpa using hj
theorem Ow.set {W0 wr:World}{ty:TypeId}{g n cap:Nat}{s0:List R2}{t1 t2:Int}(h:Ow W0 wr ty (.slice (some ⟨g,0,none⟩) n cap) (s0++ [(t1,t2)]))(hn:n=(s0++ [(t1,t2)]).length)(y:Int):Ow W0 (wr.setCell ⟨g,s0.length*2+1,none⟩ (.int .i64 y)) ty (.slice (some ⟨g,0,none⟩) n cap) (s0++ [(t1,y)]):=by
 subst hn
 refine⟨?_,h.new,h.touch.setCell (p:=⟨g,_,none⟩) (fun hlt=>by have:=h.new g rfl;simp at hlt;omega) _⟩
 have:=Hx h.own (s0.length*2+1) (.int .i64 y)
 have e:(l4 (s0++ [(t1,t2)])).set (s0.length*2+1) (.int .i64 y)=l4 (s0++ [(t1,y)]):=by
  rw[y8,y8,List.set_append_right _ _ (by rw[D9];omega),D9]
  rw[show s0.length*2+1-s0.length*2=1 by omega]
  rfl
 rw[e]at this
 simpa using this
theorem Ow.last {W0 wr:World}{ty:TypeId}{v:Value}{s0:List R2}{t1 t2:Int}(h:Ow W0 wr ty v (s0++ [(t1,t2)])):∃g cap,v=.slice (some ⟨g,0,none⟩) (s0.length+1) cap/\wr.cell? ⟨g,s0.length*2+1,none⟩=some (.int .i64 t2)/\wr.frozen? ⟨g,s0.length*2+1,none⟩=false/\g<wr.heap.size:=by
 have hl:(s0++ [(t1,t2)]).length=s0.length+1:=by simp
 rcases h.own.2 with⟨_,h0⟩|⟨g,cap,cur,hv,hg,hh,rest⟩
 ·omega
 ·refine⟨g,cap,by rw[hv,hl],?_,by simp[World.frozen?,hh],lt_of_block hh⟩
  have:=h.own.cells (g:=g) (by rw[hv];rfl) (s0.length*2+1) (.int .i64 t2) (by
   have:=I3 (s0++ [(t1,t2)]) s0.length (by simp)
   rw[show 2*s0.length+1=s0.length*2+1 by omega]at this
   simpa using this)
  rwa [Ai]at this
theorem Co (s0:List R2)(t1 t2 x y:Int)(h:x<=t2+1):V7 (s0++ [(t1,t2)]) (x,y)=s0++ [(t1,max t2 y)]:=by
 unfold V7
 simp[h]
theorem EV (s0:List R2)(t1 t2 x y:Int)(h:¬x<=t2+1):V7 (s0++ [(t1,t2)]) (x,y)=s0++ [(t1,t2)]++ [(x,y)]:=by
 unfold V7
 simp[h]
theorem LL (a:Option Addr)(cap:Nat)(l:List R2)(w:World)(hl:Rg w a l)(hin:∀x ∈ l,Ap x)(hb:l.length*16<=140737488351232):
 Calls Tryz.prog 37 #[.slice a l.length cap] w fun e w'=>∃v,e=.returned v/\Ow w w' 25 v (y9 l):=by
 obtain⟨i0,hi33,hz0,hz1,hz2⟩:=info_parts AB
 have HL:=b6 hl
 have HIN:=b6 hin
 clear hl hin
 go_enter Tryz.func37,Tryz.ntmps37
 go_wp2_with fail
 go_loopg [3,9] l.length (fun gk v i wr=>∃k:Nat,k+gk=l.length/\i=.int .i64 (k:Nat)/\Ow w wr 25 v (y9 (l.take k)))
 case atStart=>exact⟨0,by omega,rfl,⟨by simpa [y9,l4]using World.ownsRow_nil _ _ _ _,by intro g h;simp[Value.ownBlock]at h,b7.refl _ _⟩⟩
 case round=>
  obtain⟨k,hk,rfl,how⟩:=hrel
  have OW:=b6 how
  have HLR:=b6 (HL.out.new how.touch)
  have hlen:=Cn l k (by omega)
  have HJI:=b6 (Gx l HIN.out k (by omega))
  obtain⟨av,cv,hav⟩:=e9 how.own
  subst hav
  clear how
  by_cases hlt:k<l.length
  ·obtain⟨b,o,ha,hbl,hcell⟩:∃b o,a=some ⟨b,o,none⟩/\b<wr.heap.size/\∀i (h:i<l.length),wr.cell? ⟨b,o+i*2,none⟩=some (.int .i64 (l[i]).1)/\wr.cell? ⟨b,o+i*2+1,none⟩=some (.int .i64 (l[i]).2):=by
    rcases HLR.out with h|h
    ·rw[h]at hlt;simp at hlt
    ·exact h
   subst ha
   obtain⟨d0,d1⟩:=hcell k hlt
   obtain⟨r,hr⟩:∃r,r=l[k]:=⟨_,rfl⟩
   rw[<-hr]at d0 d1
   have HR:=b6 hr
   have hri:=HIN.out l[k] (List.getElem_mem hlt)
   rw[<-hr]at hri
   obtain⟨x,y⟩:=r
   dsimp only at d0 d1
   clear hcell hr
   obtain⟨M,hM⟩:∃M,M=(y9 (l.take k)).length:=⟨_,rfl⟩
   rw[<-hM]
   have HM:=b6 hM
   rw[<-hM]at hlen
   clear hM
   have JS:=b6 (show y9 (l.take (k+1))=V7 (y9 (l.take k)) (x,y)from by rw[Z5 l k hlt,<-HR.out])
   obtain⟨s,hs⟩:∃s,s=y9 (l.take k):=⟨_,rfl⟩
   rw[<-hs]at OW HM HJI JS
   clear hs
   rw[<-HM.out]at OW
   have hsl:s.length<=k:=by rw[<-HM.out];exact hlen
   rcases List.eq_nil_or_concat s with hs0|⟨s0,t,hs0⟩
   ·subst hs0
    have hM0:M=0:=HM.out
    subst hM0
    go_upto_region 6 with fail
    obtain⟨rb,hrb⟩:∃rb,rb=wr.heap.size:=⟨_,rfl⟩
    have OA:=b6 (OW.out.alloc (.cells #[.int .i64 x,.int .i64 y] 60))
    have RB:=b6 (show(wr.alloc (.cells #[.int .i64 x,.int .i64 y] 60)).heap[rb]? =some (.cells #[.int .i64 x,.int .i64 y] 60 (0,0))from by rw[hrb];exact Ae _ _ _)
    rw[<-hrb]
    clear hrb OW
    generalize wr.alloc (.cells #[.int .i64 x,.int .i64 y] 60)=wA at*
    have p0:=F7 RB.out
    have p1:=E2 RB.out
    go_cut [28] (fun v wd=>v=.bool false/\b7 (fun _=>False) wA wd)
    case first=>
     go_quiet (fail)
     go_wp2
     go_meet
     case rel=>exact⟨rfl,(b7.refl _ wA).drewN _⟩
    obtain⟨rfl,tc⟩:=hcut
    have OB:=b6 (OA.out.still tc)
    have hrbl:=lt_of_block RB.out
    have RC:=b6 (show wc.heap[rb]? =some (.cells #[.int .i64 x,.int .i64 y] 60 (0,0))from(tc.block rb hrbl id).trans RB.out)
    have q0:=F7 RC.out
    have q1:=E2 RC.out
    clear tc p0 p1
    go_wp2_with (at_builtin;refine wpList_append_own_at _ rfl _ _ 25 rfl 0 60 i0 (.agg #[.int .i64 0,.int .i64 0]) 2 16 Tryz.underlying25 hi33 hz0 hz1 hz2 rfl (by decide) _ _ _ rfl (OB.out.own.alloc _) ⟨wc.heap.size,0,none⟩ 1 1 [.int .i64 x,.int .i64 y] rfl rfl (z7 wc [.int .i64 x,.int .i64 y] 60) (by intro u hu;simp at hu;rcases hu with rfl|rfl<;>rfl) (by unfold maxLen;omega) (by omega) (Nat.zero_le _) ?_)
    intro v' w4 hown hgrow _ hat
    have OC:=b6 (OB.out.more (x:=(x,y)) hown hgrow hat)
    clear hown hgrow hat
    go_wp2
    go_roundg (gk-1)
    case measure=>omega
    case rel=>
     refine⟨k+1,by omega,by go_num,?_⟩
     rw[JS.out]
     exact OC.out
   ·obtain⟨t1,t2⟩:=t
    rw[List.concat_eq_append]at hs0
    subst hs0
    have ht:=HJI.out (t1,t2) (by simp)
    have ht2:0<=t2/\t2<=1114111:=by unfold Ap at ht;dsimp only at ht;omega
    have hMl:M=s0.length+1:=by rw[HM.out];simp
    obtain⟨m,hm⟩:∃m,m=s0.length:=⟨_,rfl⟩
    rw[<-hm]at hMl
    have HMM:=b6 hm
    subst hMl
    clear ht hm
    go_upto_region 6 with fail
    obtain⟨rb,hrb⟩:∃rb,rb=wr.heap.size:=⟨_,rfl⟩
    have OA:=b6 (OW.out.alloc (.cells #[.int .i64 x,.int .i64 y] 60))
    have RB:=b6 (show(wr.alloc (.cells #[.int .i64 x,.int .i64 y] 60)).heap[rb]? =some (.cells #[.int .i64 x,.int .i64 y] 60 (0,0))from by rw[hrb];exact Ae _ _ _)
    rw[<-hrb]
    clear hrb OW
    generalize wr.alloc (.cells #[.int .i64 x,.int .i64 y] 60)=wA at*
    have p0:=F7 RB.out
    have p1:=E2 RB.out
    obtain⟨g,cap2,hv,g0,gf,hgl⟩:=OA.out.last
    rw[<-HMM.out]at g0 gf hv
    simp only[Value.slice.injEq]at hv
    obtain⟨rfl,_,rfl⟩:=hv
    go_cut [28] (fun v wd=>v=.bool (decide (x<=t2+1))/\b7 (fun _=>False) wA wd)
    case first=>
     go_quiet (fail)
     go_wp2
     go_meet
     case rel=>exact⟨rfl,(b7.refl _ wA).drewN _⟩
    obtain⟨rfl,tc⟩:=hcut
    by_cases hj:x<=t2+1
    ·rw[decide_eq_true hj]
     have HJ:=b6 hj
     have OB:=b6 (OA.out.still tc)
     have hrbl:=lt_of_block RB.out
     have RC:=b6 (show wc.heap[rb]? =some (.cells #[.int .i64 x,.int .i64 y] 60 (0,0))from(tc.block rb hrbl id).trans RB.out)
     have q0:=F7 RC.out
     have q1:=E2 RC.out
     obtain⟨g',cap3,hv3,k0,kf,hgl2⟩:=OB.out.last
     rw[<-HMM.out]at k0 kf hv3
     simp only[Value.slice.injEq,Option.some.injEq,Addr.mk.injEq,true_and,and_true]at hv3
     obtain⟨rfl,rfl⟩:=hv3
     clear hj tc p0 p1 g0 gf
     by_cases hc:t2<y
     ·have OS:=b6 (OB.out.set (by simp[HMM.out]) y)
      rw[<-HMM.out]at OS
      have HC:=b6 (show max t2 y=y by omega)
      go_wp2_with fail
      go_region
      all_goals
       go_wp2
       go_roundg (gk-1)
       case measure=>omega
       case rel=>
        refine⟨k+1,by omega,by go_num,?_⟩
        rw[JS.out,Co _ _ _ _ _ (by have:=HJ.out;omega),HC.out]
        exact OS.out.still ((b7.refl _ _).drew)
     ·have OS:=b6 (OB.out.set (by simp[HMM.out]) t2)
      rw[<-HMM.out]at OS
      have HC:=b6 (show max t2 y=t2 by omega)
      go_wp2_with fail
      go_region
      all_goals
       go_wp2
       go_roundg (gk-1)
       case measure=>omega
       case rel=>
        refine⟨k+1,by omega,by go_num,?_⟩
        rw[JS.out,Co _ _ _ _ _ (by have:=HJ.out;omega),HC.out]
        exact OS.out.still ((b7.refl _ _).drew)
    ·rw[decide_eq_false hj]
     have HJ:=b6 hj
     clear hj
     have OB:=b6 (OA.out.still tc)
     have hrbl:=lt_of_block RB.out
     have RC:=b6 (show wc.heap[rb]? =some (.cells #[.int .i64 x,.int .i64 y] 60 (0,0))from(tc.block rb hrbl id).trans RB.out)
     have q0:=F7 RC.out
     have q1:=E2 RC.out
     clear tc p0 p1
     go_wp2_with (at_builtin;refine wpList_append_own_at _ rfl _ _ 25 rfl 0 60 i0 (.agg #[.int .i64 0,.int .i64 0]) 2 16 Tryz.underlying25 hi33 hz0 hz1 hz2 rfl (by decide) _ _ _ rfl (OB.out.own.alloc _) ⟨wc.heap.size,0,none⟩ 1 1 [.int .i64 x,.int .i64 y] rfl rfl (z7 wc [.int .i64 x,.int .i64 y] 60) (by intro u hu;simp at hu;rcases hu with rfl|rfl<;>rfl) (by unfold maxLen;omega) (by omega) (Nat.zero_le _) ?_)
     intro v' w4 hown hgrow _ hat
     have OC:=b6 (OB.out.more (x:=(x,y)) (by rw[List.length_append];exact hown) hgrow hat)
     clear hown hgrow hat
     go_wp2
     go_roundg (gk-1)
     case measure=>omega
     case rel=>
      refine⟨k+1,by omega,by go_num,?_⟩
      rw[JS.out,EV _ _ _ _ _ (by have:=HJ.out;omega)]
      exact OC.out
  ·obtain rfl:k=l.length:=by omega
   go_wp2
   go_ret
   refine⟨Value.slice av (y9 (l.take l.length)).length cv,rfl,?_⟩
   have:=OW.out
   rw[List.take_length]at this⊢
   exact this
end Go.Proofs.YtdhhcefmmojcmaaGreatDoor
