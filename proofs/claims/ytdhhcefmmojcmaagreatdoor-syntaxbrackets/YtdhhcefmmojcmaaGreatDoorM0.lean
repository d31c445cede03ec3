/- Texts of this proof, one behind the other. -/
import Derived.WalkKit
import Derived.OneCell
import Derived.Deep.QuietTactic
import Derived.Deep.LoopGhost
import Derived.Deep.DeepCutAuto
import Derived.BigQuiet
import Derived.Deep.AppendLies
import Derived.Maps.AppendAt
import Derived.WalkLawsBesides
import Derived.Test.YtdhhcefmmojcmaaGreatDoorChecked
import Derived.Shelf.Strconv.AtoiAll
import Derived.Ground.NamesProg
import Derived.Lib.SmallJoins
import Derived.Laws.Externs
import Derived.Lib.AtoiAllCases
import Derived.Laws.Rows
set_option maxRecDepth 100000
set_option maxHeartbeats 0
set_option linter.unusedVariables false
namespace Go.Proofs.YtdhhcefmmojcmaaGreatDoor
open Go.RowKit Go.Lib
theorem b6 {p:Prop}(h:p):Hid p:=h
structure b7 (S:Nat->Prop)(w w':World):Prop where
 os:w'.os=w.os
 tape:w'.tape=w.tape
 output:w'.output=w.output
 size:w.heap.size<=w'.heap.size
 block:∀k,k<w.heap.size->¬S k->w'.heap[k]? =w.heap[k]?
theorem b7.refl (S:Nat->Prop)(w:World):b7 S w w:=⟨rfl,rfl,rfl,Nat.le_refl _,fun _ _ _=>rfl⟩
theorem b7.trans {S S':Nat->Prop}{a b c:World}(h:b7 S a b)(k:b7 S' b c)(hs:∀i,i<a.heap.size->S' i->S i):b7 S a c:=
 ⟨k.os.trans h.os,k.tape.trans h.tape,k.output.trans h.output,Nat.le_trans h.size k.size,
   fun i hi hn=>(k.block i (Nat.lt_of_lt_of_le hi h.size) (fun e=>hn (hs i hi e))).trans (h.block i hi hn)⟩
theorem b7.mono {S S':Nat->Prop}{a b:World}(h:b7 S a b)(hs:∀i,i<a.heap.size->S i->S' i):b7 S' a b:=
 ⟨h.os,h.tape,h.output,h.size,fun i hi hn=>h.block i hi (fun e=>hn (hs i hi e))⟩
theorem b7.below {S:Nat->Prop}{a b:World}(h:b7 S a b)(B:Nat)(hB:B<=a.heap.size)(hs:∀i,S i->B<=i):Below B a b:=
 ⟨h.os,h.tape,h.output,h.size,fun i hi=>h.block i (by omega) (fun e=>by have:=hs i e;omega)⟩
theorem b7.drew {S:Nat->Prop}{a w:World}(h:b7 S a w):b7 S a w.drew:=⟨h.os,h.tape,h.output,h.size,h.block⟩
theorem b7.drewN {S:Nat->Prop}{a w:World}(h:b7 S a w)(n:Nat):b7 S a (w.drewN n):=⟨h.os,h.tape,h.output,h.size,h.block⟩
theorem b7.alloc {S:Nat->Prop}{a w:World}(h:b7 S a w)(o:Obj):b7 S a (w.alloc o):=
 h.trans (S':=fun _=>False) ⟨rfl,rfl,rfl,by simp,fun k hk _=>Below.heap_alloc _ _ _ hk⟩ (fun _ _ e=>e.elim)
theorem b7.setCell {S:Nat->Prop}{a w:World}(h:b7 S a w){p:Addr}(hp:p.block<a.heap.size->S p.block)(u:Value):b7 S a (w.setCell p u):=
 h.trans (S':=fun k=>k=p.block) ⟨rfl,rfl,rfl,by simp[World.setCell],fun k _ hk=>Below.heap_setCell _ _ _ _ hk⟩ (fun i hi e=>by subst e;exact hp hi)
theorem b7.grown {S:Nat->Prop}{a w w':World}{row:Option Nat}(h:b7 S a w)(hg:w.grownBy w' row)(hr:∀k,row=some k->k<a.heap.size->S k):b7 S a w':=
 h.trans (S':=fun k=>row=some k) ⟨hg.os,hg.tape,hg.output,hg.size,fun k hk hn=>hg.block k hk (fun e=>hn e.symm)⟩ (fun i hi e=>hr i e hi)
theorem b7.cell {S:Nat->Prop}{w w':World}(h:b7 S w w'){p:Addr}(hp:p.block<w.heap.size)(hn:¬S p.block):w'.cell? p=w.cell? p:=World.cell?_of_block (w:=w) (h.block p.block hp hn)
theorem FF {B:Nat}{w w':World}(h:Below B w w'):b7 (fun k=>B<=k) w w':=
 ⟨h.os,h.tape,h.output,h.size,fun k _ hn=>h.block k (by omega)⟩
theorem F7 {w:World}{b:Nat}{v u:Value}{t:TypeId}(h:w.heap[b]? =some (.cells #[v,u] t (0,0))):w.cell? ⟨b,0,none⟩=some v:=by simp[World.cell?,h]
theorem E2 {w:World}{b:Nat}{v u:Value}{t:TypeId}(h:w.heap[b]? =some (.cells #[v,u] t (0,0))):w.cell? ⟨b,1,none⟩=some u:=by simp[World.cell?,h]
theorem AL {w:World}{b i:Nat}{v u:Value}{t:TypeId}(h:w.heap[b]? =some (.cells #[v,u] t (0,0))):w.frozen? ⟨b,i,none⟩=false:=by simp[World.frozen?,h]
theorem Kk {w:World}{b:Nat}{v u x:Value}{t:TypeId}(h:w.heap[b]? =some (.cells #[v,u] t (0,0))):(w.setCell ⟨b,0,none⟩ x).heap[b]? =some (.cells #[x,u] t (0,0)):=by
 have hlt:=lt_of_block h
 have h':w.heap[b]=.cells #[v,u] t (0,0):=by simpa [Array.getElem?_eq_getElem hlt]using h
 show(w.heap.modify b _)[b]? =_
 rw[Array.getElem?_eq_getElem (by simpa using hlt),Array.getElem_modify_self,h']
 rfl
theorem Kl {w:World}{b:Nat}{v u x:Value}{t:TypeId}(h:w.heap[b]? =some (.cells #[v,u] t (0,0))):(w.setCell ⟨b,1,none⟩ x).heap[b]? =some (.cells #[v,x] t (0,0)):=by
 have hlt:=lt_of_block h
 have h':w.heap[b]=.cells #[v,u] t (0,0):=by simpa [Array.getElem?_eq_getElem hlt]using h
 show(w.heap.modify b _)[b]? =_
 rw[Array.getElem?_eq_getElem (by simpa using hlt),Array.getElem_modify_self,h']
 rfl
theorem i8 {w:World}{b:Nat}{cs:Array Value}{t:TypeId}(h:w.heap[b]? =some (.cells cs t (0,0)))(i:Nat)(x:Value):(w.setCell ⟨b,i,none⟩ x).heap[b]? =some (.cells (cs.set! i x) t (0,0)):=by
 have hlt:=lt_of_block h
 have h':w.heap[b]=.cells cs t (0,0):=by simpa [Array.getElem?_eq_getElem hlt]using h
 show(w.heap.modify b _)[b]? =_
 rw[Array.getElem?_eq_getElem (by simpa using hlt),Array.getElem_modify_self,h']
 rfl
theorem e9 {w:World}{base n:Nat}{e:TypeId}{sz:Nat}{v:Value}{xs:List Value}(h:w.ownsRow base e sz v n xs):∃a cap,v=.slice a n cap:=by
 rcases h.2 with⟨rfl,rfl⟩|⟨g,cap,cur,rfl,_⟩
 ·exact⟨none,0,rfl⟩
 ·exact⟨_,cap,rfl⟩
theorem o9 {P:Program}{fn:Func}{p:Tmp}{ty:TypeId}(h:fn.results=#[.cell p ty])(tmps:Array Value)(w:World)(g:Nat)(et:TypeId)(cs:Array Value)(fr:Nat×Nat)(d:TypeDesc)
 (hp:tmps.getD p undef=.pointer (some ⟨g,0,none⟩)) (hg:w.heap[g]? =some (.cells cs et fr))
 (hu:P.underlying ty=some d) (hd:(match d with| .struct _| .array _ _=>true|_=>false)=true) (hi:(P.info? ty).map (·.size)=some cs.size):
 (results fn tmps).run P w=.ok (.agg cs) w:=by
 have hp':tmps[p]?.getD undef=.pointer (some ⟨g,0,none⟩):=by simpa using hp
 simp[results,h,hp',asAddr,run_loadVar_row w g et ty cs fr d hg hu hd hi]
theorem tZ (w:World):b7 (fun _=>False) w w:=b7.refl _ _
theorem iE {α:Sort _}{p q:α->Prop}:∀i,p i->q i->q i:=fun _ _ e=>e
theorem nE {α:Sort _}{p q:α->Prop}:∀i,p i->False->q i:=fun _ _ e=>e.elim
theorem b7.dr {S:Nat->Prop}{w w1 w':World}{n:Nat}(h:b7 S w w1)(e:w'=w1.drewN n):b7 S w w':=by
 rw[e]
 exact h.drewN n
end Go.Proofs.YtdhhcefmmojcmaaGreatDoor
/-
  DERIVED: THE SHELF's CONTRACTS AT THIS DUMP, IN PLAIN WORDS (tools/lay-plain.mjs out of 'YtdhhcefmmojcmaaGreatDoorShAq.lean', which tools/lay-shelf.mjs wrote): THE SAME DECLARATIONS UNDER THE SAME NAMES: 'import', 'namespace', 'open', 'def', 'theorem' AND NOTHING ELSE: no command of the shelf's: FOR A HAND-IN. Each laying: the table of numbers ('.._ren') and one theorem, a field a fact of the dump's own or the kernel's comparison; each contract: ONE APPLICATION.
-/
namespace Go.Proofs
open Go.Shelf
def Tryz.laysC172_ren:Go.Shelf.Ren:=⟨fun|172=>148|244=>155|245=>156|247=>157|279=>158|280=>159|281=>160|282=>161|287=>162|316=>163|171=>165|205=>164|321=>166|322=>167|243=>168|246=>169|283=>170|284=>171|285=>172|286=>173|129=>87|317=>174|318=>175|319=>176|320=>177|337=>178|338=>179|n=>n,fun|9=>9|3=>3|75=>192|76=>193|4=>4|5=>5|167=>201|37=>49|0=>0|85=>198|2=>2|168=>202|53=>144|175=>205|46=>112|210=>209|127=>212|145=>215|143=>213|21=>21|171=>217|173=>219|212=>222|51=>142|20=>20|213=>223|232=>224|233=>225|80=>226|n=>n,fun|15=>2|16=>3|17=>4|18=>5|19=>6|n=>n⟩
theorem Tryz.laysC172:Go.Proofs.LaysC.n172 Tryz.prog Tryz.laysC172_ren:= {
 mixed:=by kernel_rfl
 f129:=Tryz.func87.trans (congrArg some (by kernel_rfl))
 f171:=Tryz.func165.trans (congrArg some (by kernel_rfl))
 f172:=Tryz.func148.trans (congrArg some (by kernel_rfl))
 f205:=Tryz.func164.trans (congrArg some (by kernel_rfl))
 f243:=Tryz.func168.trans (congrArg some (by kernel_rfl))
 f244:=Tryz.func155.trans (congrArg some (by kernel_rfl))
 f245:=Tryz.func156.trans (congrArg some (by kernel_rfl))
 f246:=Tryz.func169.trans (congrArg some (by kernel_rfl))
 f247:=Tryz.func157.trans (congrArg some (by kernel_rfl))
 f279:=Tryz.func158.trans (congrArg some (by kernel_rfl))
 f280:=Tryz.func159.trans (congrArg some (by kernel_rfl))
 f281:=Tryz.func160.trans (congrArg some (by kernel_rfl))
 f282:=Tryz.func161.trans (congrArg some (by kernel_rfl))
 f283:=Tryz.func170.trans (congrArg some (by kernel_rfl))
 f284:=Tryz.func171.trans (congrArg some (by kernel_rfl))
 f285:=Tryz.func172.trans (congrArg some (by kernel_rfl))
 f286:=Tryz.func173.trans (congrArg some (by kernel_rfl))
 f287:=Tryz.func162.trans (congrArg some (by kernel_rfl))
 f316:=Tryz.func163.trans (congrArg some (by kernel_rfl))
 f317:=Tryz.func174.trans (congrArg some (by kernel_rfl))
 f318:=Tryz.func175.trans (congrArg some (by kernel_rfl))
 f319:=Tryz.func176.trans (congrArg some (by kernel_rfl))
 f320:=Tryz.func177.trans (congrArg some (by kernel_rfl))
 f321:=Tryz.func166.trans (congrArg some (by kernel_rfl))
 f322:=Tryz.func167.trans (congrArg some (by kernel_rfl))
 f337:=Tryz.func178.trans (congrArg some (by kernel_rfl))
 f338:=Tryz.func179.trans (congrArg some (by kernel_rfl))
 t0:=Tryz.underlying0
 a0:=Tryz.isAgg0
 z0:=Tryz.sizeOf0
 v0:=Tryz.zeroValue0
 t2:=Tryz.underlying2
 a2:=Tryz.isAgg2
 z2:=Tryz.sizeOf2
 v2:=Tryz.zeroValue2
 t3:=Tryz.underlying3
 a3:=Tryz.isAgg3
 z3:=Tryz.sizeOf3
 v3:=Tryz.zeroValue3
 t4:=Tryz.underlying4
 a4:=Tryz.isAgg4
 z4:=Tryz.sizeOf4
 v4:=Tryz.zeroValue4
 t5:=Tryz.underlying5
 a5:=Tryz.isAgg5
 z5:=Tryz.sizeOf5
 v5:=Tryz.zeroValue5
 t9:=Tryz.underlying9
 a9:=Tryz.isAgg9
 z9:=Tryz.sizeOf9
 v9:=Tryz.zeroValue9
 t20:=Tryz.underlying20
 a20:=Tryz.isAgg20
 z20:=Tryz.sizeOf20
 v20:=Tryz.zeroValue20
 t21:=Tryz.underlying21
 a21:=Tryz.isAgg21
 z21:=Tryz.sizeOf21
 v21:=Tryz.zeroValue21
 t37:=Tryz.underlying49
 a37:=Tryz.isAgg49
 z37:=Tryz.sizeOf49
 v37:=Tryz.zeroValue49
 t46:=Tryz.underlying112
 a46:=Tryz.isAgg112
 z46:=Tryz.sizeOf112
 v46:=Tryz.zeroValue112
 t51:=Tryz.underlying142
 a51:=Tryz.isAgg142
 z51:=Tryz.sizeOf142
 v51:=Tryz.zeroValue142
 t53:=Tryz.underlying144
 a53:=Tryz.isAgg144
 z53:=Tryz.sizeOf144
 v53:=Tryz.zeroValue144
 t75:=Tryz.underlying192
 a75:=Tryz.isAgg192
 z75:=Tryz.sizeOf192
 v75:=Tryz.zeroValue192
 t76:=Tryz.underlying193
 a76:=Tryz.isAgg193
 z76:=Tryz.sizeOf193
 v76:=Tryz.zeroValue193
 t85:=Tryz.underlying198
 a85:=Tryz.isAgg198
 z85:=Tryz.sizeOf198
 v85:=Tryz.zeroValue198
 t127:=Tryz.underlying212
 a127:=Tryz.isAgg212
 z127:=Tryz.sizeOf212
 v127:=Tryz.zeroValue212
 t143:=Tryz.underlying213
 a143:=Tryz.isAgg213
 z143:=Tryz.sizeOf213
 v143:=Tryz.zeroValue213
 t145:=Tryz.underlying215
 a145:=Tryz.isAgg215
 z145:=Tryz.sizeOf215
 v145:=Tryz.zeroValue215
 t167:=Tryz.underlying201
 a167:=Tryz.isAgg201
 z167:=Tryz.sizeOf201
 v167:=Tryz.zeroValue201
 t168:=Tryz.underlying202
 a168:=Tryz.isAgg202
 z168:=Tryz.sizeOf202
 v168:=Tryz.zeroValue202
 t171:=Tryz.underlying217
 a171:=Tryz.isAgg217
 z171:=Tryz.sizeOf217
 v171:=Tryz.zeroValue217
 t173:=Tryz.underlying219
 a173:=Tryz.isAgg219
 z173:=Tryz.sizeOf219
 v173:=Tryz.zeroValue219
 t175:=Tryz.underlying205
 a175:=Tryz.isAgg205
 z175:=Tryz.sizeOf205
 v175:=Tryz.zeroValue205
 t210:=Tryz.underlying209
 a210:=Tryz.isAgg209
 z210:=Tryz.sizeOf209
 v210:=Tryz.zeroValue209
 t212:=Tryz.underlying222
 a212:=Tryz.isAgg222
 z212:=Tryz.sizeOf222
 v212:=Tryz.zeroValue222
 t213:=Tryz.underlying223
 a213:=Tryz.isAgg223
 z213:=Tryz.sizeOf223
 t232:=Tryz.underlying224
 a232:=Tryz.isAgg224
 z232:=Tryz.sizeOf224
 v232:=Tryz.zeroValue224
 t233:=Tryz.underlying225
 a233:=Tryz.isAgg225
 z233:=Tryz.sizeOf225
 v233:=Tryz.zeroValue225
 g15:=by kernel_rfl
 g16:=by kernel_rfl
 g17:=by kernel_rfl
 g18:=by kernel_rfl
 g19:=by kernel_rfl
 t80:=Tryz.underlying226
 a80:=Tryz.isAgg226
 z80:=Tryz.sizeOf226
 v80:=Tryz.zeroValue226
 i0:=by kernel_rfl
 i2:=by kernel_rfl
 i3:=by kernel_rfl
 i4:=by kernel_rfl
 i5:=by kernel_rfl
 i9:=by kernel_rfl
 i20:=by kernel_rfl
 i21:=by kernel_rfl
 i37:=by kernel_rfl
 i46:=by kernel_rfl
 i51:=by kernel_rfl
 i53:=by kernel_rfl
 i75:=by kernel_rfl
 i76:=by kernel_rfl
 i80:=by kernel_rfl
 i85:=by kernel_rfl
 i127:=by kernel_rfl
 i143:=by kernel_rfl
 i145:=by kernel_rfl
 i167:=by kernel_rfl
 i168:=by kernel_rfl
 i171:=by kernel_rfl
 i173:=by kernel_rfl
 i175:=by kernel_rfl
 i210:=by kernel_rfl
 i212:=by kernel_rfl
 i232:=by kernel_rfl
 i233:=by kernel_rfl
 m15:=by kernel_rfl
 m16:=by kernel_rfl
 m17:=by kernel_rfl
 m18:=by kernel_rfl
 m19:=by kernel_rfl
 c0:=by kernel_rfl
 c2:=by kernel_rfl
 c3:=by kernel_rfl
 c4:=by kernel_rfl
 c5:=by kernel_rfl
 c9:=by kernel_rfl
 c20:=by kernel_rfl
 c21:=by kernel_rfl
 c37:=by kernel_rfl
 c46:=by kernel_rfl
 c51:=by kernel_rfl
 c53:=by kernel_rfl
 c75:=by kernel_rfl
 c76:=by kernel_rfl
 c80:=by kernel_rfl
 c85:=by kernel_rfl
 c127:=by kernel_rfl
 c143:=by kernel_rfl
 c145:=by kernel_rfl
 c167:=by kernel_rfl
 c168:=by kernel_rfl
 c171:=by kernel_rfl
 c173:=by kernel_rfl
 c175:=by kernel_rfl
 c210:=by kernel_rfl
 c212:=by kernel_rfl
 c213:=by kernel_rfl
 c232:=by kernel_rfl
 c233:=by kernel_rfl}
end Go.Proofs
namespace Go.Proofs.YtdhhcefmmojcmaaGreatDoor
open Go.RowKit Go.Lib
abbrev Bs:=List UInt8
theorem Below.touch {w w':World}(h:Below w.heap.size w w'):b7 (fun _=>False) w w':=(FF h).mono (fun i hi e=>by omega)
structure Sx (w:World):Prop where
 syn:∃ev,w.cell? ⟨2,0,none⟩=some ev/\(ev=.nilIface∨∃te pe,ev=.iface te pe)
 ran:∃ev,w.cell? ⟨3,0,none⟩=some ev/\(ev=.nilIface∨∃te pe,ev=.iface te pe)
theorem Sx.kept {w w':World}{S:Nat->Prop}(h:Sx w)(t:b7 S w w')(hS:∀g,S g->7<=g):Sx w':=by
 refine⟨?_,?_⟩
 ·obtain⟨ev,h1,h2⟩:=h.syn
  exact⟨ev,by rw[t.cell (p:=⟨2,0,none⟩) (Lib.lt_of_cell h1) (fun e=>by have:=hS _ e;simp at this)];exact h1,h2⟩
 ·obtain⟨ev,h1,h2⟩:=h.ran
  exact⟨ev,by rw[t.cell (p:=⟨3,0,none⟩) (Lib.lt_of_cell h1) (fun e=>by have:=hS _ e;simp at this)];exact h1,h2⟩
theorem Sx.new {w w':World}(h:Sx w)(t:b7 (fun _=>False) w w'):Sx w':=h.kept t (fun _ e=>e.elim)
def WU (s:Bs)(v:Value):Prop:=match atoiAll s with
 | .ok n=>v=.tuple #[.int .i64 n,.nilIface]
 | .syntax=>∃n a,v=.tuple #[.int .i64 n,.iface 202 (.pointer a)]
 | .range=>∃n a,v=.tuple #[.int .i64 n,.iface 202 (.pointer a)]
theorem ID (s:ByteArray)(hs:s.size<=140737488355328)(w:World)(hx:Sx w):
 Calls Tryz.prog 148 #[.string s] w fun e w'=>∃v,e=.returned v/\WU s.data.toList v/\b7 (fun _=>False) w w':=by
 unfold WU
 cases h:atoiAll s.data.toList with
 |ok n=>
  refine(Any.strconv_Atoi_ok Tryz.laysC172 s (by omega) n h w).mono ?_
  rintro e w' ⟨rfl,hw⟩
  refine⟨_,rfl,rfl,?_⟩
  rcases hw with rfl|⟨t,rfl⟩
  ·exact b7.refl _ _
  ·exact Below.touch (Go.Joins.below_bytesWorld w.heap.size w _ t (Nat.le_refl _))
 | «syntax» =>
   obtain⟨ev,hv,hev⟩:=hx.syn
   refine(Any.strconv_Atoi_syntax Tryz.laysC172 s (by omega) h ev w hv hev).mono ?_
   rintro e w' ⟨N,rfl,_,_,b⟩
   exact⟨_,rfl,⟨_,_,rfl⟩,Below.touch b⟩
 |range=>
  obtain⟨ev,hv,hev⟩:=hx.ran
  refine(Any.strconv_Atoi_range Tryz.laysC172 s (by omega) h ev w hv hev).mono ?_
  rintro e w' ⟨N,rfl,_,_,b⟩
  exact⟨_,rfl,⟨_,_,rfl⟩,Below.touch b⟩
theorem W5 (g j:Nat):(⟨g,0,none⟩:Addr).add j=⟨g,j,none⟩:=by
 unfold Addr.add
 split
 ·rename_i h;rw[h]
 ·rw[Nat.zero_add]
def VU (w:World)(a:Option Addr)(e:List Int):Prop:=∃b,a=some ⟨b,0,none⟩/\b<w.heap.size/\∀i (h:i<e.length),w.cell? ⟨b,i,none⟩=some (.int .i64 e[i])
theorem VU.new {w w':World}{a:Option Addr}{e:List Int}(h:VU w a e)(t:b7 (fun _=>False) w w'):VU w' a e:=by
 obtain⟨b,rfl,hb,hc⟩:=h
 refine⟨b,rfl,Nat.lt_of_lt_of_le hb t.size,fun i hi=>?_⟩
 rw[t.cell (p:=⟨b,i,none⟩) hb id]
 exact hc i hi
def J3 (e:List Int):List Value:=e.map (Value.int .i64)
structure M1 (W0 wr:World)(v:Value)(e:List Int):Prop where
 own:wr.ownsRow 0 3 1 v e.length (J3 e)
 new:∀g,v.ownBlock=some g->W0.heap.size<=g
 touch:b7 (fun _=>False) W0 wr
theorem M1.still {W0 wr w':World}{v:Value}{e:List Int}(h:M1 W0 wr v e)(tc:b7 (fun _=>False) wr w'):M1 W0 w' v e:=by
 refine⟨⟨h.own.1,?_⟩,h.new,h.touch.trans tc iE⟩
 rcases h.own.2 with h0|⟨g,cap,cur,hv,hg,hh,rest⟩
 ·exact .inl h0
 ·exact .inr ⟨g,cap,cur,hv,hg,(tc.block g (lt_of_block hh) id).trans hh,rest⟩
theorem Hk:(Tryz.prog.info? 3).map (fun i=>(i.zero,i.size,i.bytes))=some (some (.int .i64 0),1,8):=by kernel_rfl
def Io (w:World)(a:Option Addr)(l:List Int):Prop:=l=[]∨∃b o,a=some ⟨b,o,none⟩/\∀i (h:i<l.length),w.cell? ⟨b,o+i,none⟩=some (.int .i64 l[i])
theorem M1.nil (w:World):M1 w w (.slice none 0 0) []:=⟨by simpa [J3]using World.ownsRow_nil _ _ _ _,by intro g h;simp[Value.ownBlock]at h,b7.refl _ _⟩
theorem M1.in {W0 wr:World}{a:Option Addr}{len cap:Nat}{e:List Int}(h:M1 W0 wr (.slice a len cap) e):((e=[]/\a=none/\cap=0)∨VU wr a e)/\e.length<=cap/\len=e.length:=by
 rcases h.own.2 with⟨hv,h0⟩|⟨g,cap',cur,hv,hg,hh,hle,rest⟩
 ·simp only[Value.slice.injEq]at hv
  obtain⟨rfl,rfl,rfl⟩:=hv
  exact⟨.inl ⟨List.eq_nil_of_length_eq_zero h0,rfl,rfl⟩,by omega,by omega⟩
 ·simp only[Value.slice.injEq]at hv
  obtain⟨rfl,rfl,rfl⟩:=hv
  refine⟨.inr ⟨g,rfl,lt_of_block hh,fun i hi=>?_⟩,by omega,rfl⟩
  have:=h.own.cells (g:=g) rfl i (.int .i64 e[i]) (by simp[J3,hi])
  rwa [W5]at this
def l5 (s:ByteArray)(i:Nat):Nat:=if h:i<s.size then s[i].toNat else 0
theorem S2 (s:ByteArray)(i:Nat)(h:i<s.size):s[i].toNat=l5 s i:=by
 unfold l5
 rw[dif_pos h]
theorem y6 (s:ByteArray)(i:Nat):l5 s i<256:=by
 unfold l5
 split
 ·exact UInt8.toNat_lt _
 ·omega
theorem Ca (n:Int)(h₀:0<=n)(h₁:n<2^62):IntKind.i64.wrap n=n:=by rw[IntKind.wrap_i64];omega
theorem ES (a b:Nat)(ha:a<2^62)(hb:b<2^62):bits .or .i64 (a:Int) (b:Int)=((a ||| b:Nat):Int):=
 (bits_nat .i64 62 (by decide) Ca a b ha hb).2
theorem Vt (a b k:Nat)(ha:a<2^k)(hb:2^k*b+a<2^62):bits .or .i64 (a:Int) ((2^k*b:Nat):Int)=((a+2^k*b:Nat):Int):=by
 rw[ES _ _ (by omega) (by omega),Nat.or_comm,<-Nat.two_pow_add_eq_or_of_lt ha,Nat.add_comm]
theorem TQ (a b k:Nat)(ha:a<2^k)(hb:2^k*b+a<2^62):bits .or .i64 ((2^k*b:Nat):Int) (a:Int)=((2^k*b+a:Nat):Int):=by
 rw[ES _ _ (by omega) (by omega),<-Nat.two_pow_add_eq_or_of_lt ha]
theorem GX (x y:Nat)(hx:x<256)(hy:y<256):bits .or .i64 (wrap64 (x:Int)) (wrap64 (wrap64 (y:Int)*256))=((x+256*y:Nat):Int):=by
 have e1:wrap64 (x:Int)=(x:Int):=IntWalk.wrap64_in _ (by omega)
 have e2:wrap64 (y:Int)=(y:Int):=IntWalk.wrap64_in _ (by omega)
 rw[e1,e2,show(y:Int)*256=((2^8*y:Nat):Int)by omega,IntWalk.wrap64_in _ (by omega),Vt x y 8 (by omega) (by omega)]
theorem Mm (b i:Nat)(s:ByteArray)(w:World)(hd:w.cell? ⟨b,0,none⟩=some (.string s))(hi:i<s.size):
 Calls Tryz.prog 65 (#[.int .i64 i]++#[.pointer (some ⟨b,0,none⟩)]) w fun e w'=>e=.returned (.tuple #[.int .i64 (l5 s i:Nat),.int .i64 1])/\b7 (fun _=>False) w w':=by
 have hiI:(i:Int)<(s.size:Int):=by omega
 have HB:=b6 (S2 s i hi)
 go_enter Tryz.func65,Tryz.ntmps65
 go_wp2
 go_ret2
 exact⟨by rw[HB.out,IntWalk.wrap64_in _ (by have:=y6 s i;omega)];rfl,b7.refl _ _⟩
theorem Iu (bd bl bh i:Nat)(s:ByteArray)(w:World)(hd:w.cell? ⟨bd,0,none⟩=some (.string s))(hl:w.cell? ⟨bl,0,none⟩=some (.int .i64 0))(hh:w.cell? ⟨bh,0,none⟩=some (.int .i64 1))(hs:s.size<=140737488351232)(hi2:i<=140737488351240):
 Calls Tryz.prog 90 (#[.int .i64 i]++#[.pointer (some ⟨bd,0,none⟩),.pointer (some ⟨bl,0,none⟩),.pointer (some ⟨bh,0,none⟩)]) w fun e w'=>e=.returned (.int .i64 (if s.size<i+2 then-1 else(l5 s i+256*l5 s (i+1):Nat)))/\b7 (fun _=>False) w w':=by
 by_cases h2:s.size<i+2
 ·have hq:(s.size:Int)<(i:Int)+2:=by omega
  rw[if_pos h2]
  go_enter Tryz.func90,Tryz.ntmps90
  go_wp2
  go_ret
  exact⟨rfl,b7.refl _ _⟩
 ·have hq:¬((s.size:Int)<(i:Int)+2):=by omega
  rw[if_neg h2]
  have q1:(i:Int)<(s.size:Int):=by omega
  obtain⟨j,hj⟩:∃j,j=i+1:=⟨_,rfl⟩
  have q2:(j:Int)<(s.size:Int):=by omega
  have q3:i<s.size:=by omega
  have q4:j<s.size:=by omega
  rw[<-hj]
  have z0:IntKind.i64.wrap (i:Int)=(i:Int):=by rw[IntKind.wrap_i64];omega
  have z1:IntKind.i64.wrap ((i:Int)+1)=(j:Int):=by rw[IntKind.wrap_i64];omega
  have HB1:=b6 (S2 s i q3)
  have HB2:=b6 (S2 s j q4)
  have HV:=b6 (GX (l5 s i) (l5 s j) (y6 s i) (y6 s j))
  clear hj h2
  go_enter Tryz.func90,Tryz.ntmps90
  go_wp2_with fail
  go_quiet (fail)
  go_wp2
  go_ret
  exact⟨by rw[HB1.out,HB2.out,HV.out];rfl,(b7.refl _ w).drewN _⟩
theorem PA (bd bl bh i:Nat)(s:ByteArray)(w:World)(hd:w.cell? ⟨bd,0,none⟩=some (.string s))(hl:w.cell? ⟨bl,0,none⟩=some (.int .i64 1))(hh:w.cell? ⟨bh,0,none⟩=some (.int .i64 0))(hs:s.size<=140737488351232)(hi2:i<=140737488351240):
 Calls Tryz.prog 90 (#[.int .i64 i]++#[.pointer (some ⟨bd,0,none⟩),.pointer (some ⟨bl,0,none⟩),.pointer (some ⟨bh,0,none⟩)]) w fun e w'=>e=.returned (.int .i64 (if s.size<i+2 then-1 else(l5 s (i+1)+256*l5 s i:Nat)))/\b7 (fun _=>False) w w':=by
 by_cases h2:s.size<i+2
 ·have hq:(s.size:Int)<(i:Int)+2:=by omega
  rw[if_pos h2]
  go_enter Tryz.func90,Tryz.ntmps90
  go_wp2
  go_ret
  exact⟨rfl,b7.refl _ _⟩
 ·have hq:¬((s.size:Int)<(i:Int)+2):=by omega
  rw[if_neg h2]
  have q1:(i:Int)<(s.size:Int):=by omega
  obtain⟨j,hj⟩:∃j,j=i+1:=⟨_,rfl⟩
  have q2:(j:Int)<(s.size:Int):=by omega
  have q3:i<s.size:=by omega
  have q4:j<s.size:=by omega
  rw[<-hj]
  have z0:IntKind.i64.wrap (i:Int)=(i:Int):=by rw[IntKind.wrap_i64];omega
  have z1:IntKind.i64.wrap ((i:Int)+1)=(j:Int):=by rw[IntKind.wrap_i64];omega
  have HB1:=b6 (S2 s i q3)
  have HB2:=b6 (S2 s j q4)
  have HV:=b6 (GX (l5 s j) (l5 s i) (y6 s j) (y6 s i))
  clear hj h2
  go_enter Tryz.func90,Tryz.ntmps90
  go_wp2_with fail
  go_quiet (fail)
  go_wp2
  go_ret
  exact⟨by rw[HB1.out,HB2.out,HV.out];rfl,(b7.refl _ w).drewN _⟩
structure AC where
 first:Nat
 last:Nat
 more:Nat
 low:Nat
 high:Nat
def J6:List AC:=[⟨0,127,0,0,0⟩,⟨194,223,1,128,191⟩,⟨224,224,2,160,191⟩,⟨225,236,2,128,191⟩,⟨237,237,2,128,159⟩,⟨238,239,2,128,191⟩,⟨240,240,3,144,191⟩,⟨241,243,3,128,191⟩,⟨244,244,3,128,143⟩]
def Gy (l:AC):Array Value:=#[.int .u8 l.first,.int .u8 l.last,.int .i64 l.more,.int .u8 l.low,.int .u8 l.high]
def Bh:Array Value:=#[.int .u8 0,.int .u8 127,.int .i64 0,.int .u8 0,.int .u8 0,.int .u8 194,.int .u8 223,.int .i64 1,.int .u8 128,.int .u8 191,.int .u8 224,.int .u8 224,.int .i64 2,.int .u8 160,.int .u8 191,.int .u8 225,.int .u8 236,.int .i64 2,.int .u8 128,.int .u8 191,.int .u8 237,.int .u8 237,.int .i64 2,.int .u8 128,.int .u8 159,.int .u8 238,.int .u8 239,.int .i64 2,.int .u8 128,.int .u8 191,.int .u8 240,.int .u8 240,.int .i64 3,.int .u8 144,.int .u8 191,.int .u8 241,.int .u8 243,.int .i64 3,.int .u8 128,.int .u8 191,.int .u8 244,.int .u8 244,.int .i64 3,.int .u8 128,.int .u8 143]
def Fd:Array Value:=#[.string ⟨#[]⟩,.string ⟨#[239,187,191]⟩,.string ⟨#[255,254]⟩,.string ⟨#[254,255]⟩,.string ⟨#[]⟩]
structure J1 (w:World):Prop where
 marks:∃t,w.heap[0]? =some (.cells Fd t (0,0))
 leads:∃t,w.heap[1]? =some (.cells Bh t (0,0))
theorem J1.new {w w':World}(h:J1 w)(t:b7 (fun _=>False) w w'):J1 w':=by
 obtain⟨⟨t0,h0⟩,⟨t1,h1⟩⟩:=h
 exact⟨⟨t0,(t.block 0 (lt_of_block h0) id).trans h0⟩,⟨t1,(t.block 1 (lt_of_block h1) id).trans h1⟩⟩
theorem Vg:(Tryz.prog.info? 147).map (fun i=>(i.zero,i.size,i.bytes))=some (some (.agg #[.int .u8 0,.int .u8 0,.int .i64 0,.int .u8 0,.int .u8 0]),5,24):=by kernel_rfl
theorem JQ (k:Nat)(l:AC)(w:World)(hk:k<9)(hx:J6[k]? =some l):(Instr.index 162 (.agg Bh) (.int .i64 (k:Int))).run Tryz.prog w=.ok (.agg (Gy l)) w:=by
 obtain⟨i0,h1,hz0,hz1,hz2⟩:=info_parts Vg
 rcases(show k=0∨k=1∨k=2∨k=3∨k=4∨k=5∨k=6∨k=7∨k=8 by omega)with rfl|rfl|rfl|rfl|rfl|rfl|rfl|rfl|rfl<;>
  (simp[J6]at hx
   subst hx
   simp[Instr.index,run_underlying Tryz.underlying162,asIntOf,go_sem,part,sizeOf,typeInfo,h1,hz1,Bh,Gy])
def I9 (b:Nat)(l:AC):Bool:=decide (l.first<=b)&&decide (b<=l.last)
def L4 (b:Nat):Option AC:=J6.find? (I9 b)
theorem LB {α:Type}(f:α->Bool)(l:List α)(k:Nat)(h:k<l.length)(h0:(l.take k).find? f=none):(l.take (k+1)).find? f=if f l[k]=true then some l[k]else none:=by
 rw[List.take_succ_eq_append_getElem h,List.find?_append,h0]
 simp[List.find?_cons]
 split<;>simp_all
theorem Jf {α:Type}(f:α->Bool)(l:List α)(k:Nat)(x:α)(h:(l.take k).find? f=some x):l.find? f=some x:=by
 rw[<-List.take_append_drop k l,List.find?_append,h]
 rfl
theorem Fa:∀l ∈ J6,l.first<256/\l.last<256/\l.more<=3/\l.low<256/\l.high<256:=by decide
theorem l8 {P:Program}{fn:Func}{p q:Tmp}{ty:TypeId}(h:fn.results=#[.cell p ty,.tmp q])(tmps:Array Value)(w:World)(g:Nat)(et:TypeId)(cs:Array Value)(fr:Nat×Nat)(d:TypeDesc)
 (hp:tmps.getD p undef=.pointer (some ⟨g,0,none⟩)) (hg:w.heap[g]? =some (.cells cs et fr))
 (hu:P.underlying ty=some d) (hd:(match d with| .struct _| .array _ _=>true|_=>false)=true) (hi:(P.info? ty).map (·.size)=some cs.size):
 (results fn tmps).run P w=.ok (.tuple #[.agg cs,tmps.getD q undef]) w:=by
 have hp':tmps[p]?.getD undef=.pointer (some ⟨g,0,none⟩):=by simpa using hp
 simp[results,h,hp',asAddr,run_loadVar_row w g et ty cs fr d hg hu hd hi]
theorem e8 (w:World)(cs:Array Value)(t:TypeId):(w.alloc (.cells cs t)).heap[w.heap.size]? =some (.cells cs t (0,0)):=by
 show(w.heap.push _)[_]? =_
 simp
def Ju (b:Nat):Value:=.tuple (match L4 b with|some l=>#[.agg (Gy l),.bool true]|none=>#[.agg #[.int .u8 0,.int .u8 0,.int .i64 0,.int .u8 0,.int .u8 0],.bool false])
theorem EZ {b:Nat}{l:AC}(h:L4 b=some l):Ju b=.tuple #[.agg (Gy l),.bool true]:=by unfold Ju;rw[h]
theorem EY {b:Nat}(h:L4 b=none):Ju b=.tuple #[.agg #[.int .u8 0,.int .u8 0,.int .i64 0,.int .u8 0,.int .u8 0],.bool false]:=by unfold Ju;rw[h]
theorem Jg {w:World}{g:Nat}{t:TypeId}{a0 a1 a2 a3 a4:Value}(h:w.heap[g]? =some (.cells #[a0,a1,a2,a3,a4] t (0,0)))(b0 b1 b2 b3 b4:Value):
 (((((w.setCell ⟨g,0,none⟩ b0).setCell ⟨g,1,none⟩ b1).setCell ⟨g,2,none⟩ b2).setCell ⟨g,3,none⟩ b3).setCell ⟨g,4,none⟩ b4).heap[g]? =some (.cells #[b0,b1,b2,b3,b4] t (0,0)):=
 i8 (i8 (i8 (i8 (i8 h 0 b0) 1 b1) 2 b2) 3 b3) 4 b4
theorem EP {w0 w:World}{g:Nat}(h:b7 (fun _=>False) w0 w)(hg:w0.heap.size<=g)(b0 b1 b2 b3 b4:Value):
 b7 (fun _=>False) w0 (((((w.setCell ⟨g,0,none⟩ b0).setCell ⟨g,1,none⟩ b1).setCell ⟨g,2,none⟩ b2).setCell ⟨g,3,none⟩ b3).setCell ⟨g,4,none⟩ b4):=
 ((((h.setCell (p:=⟨g,0,none⟩) (fun k=>absurd k (Nat.not_lt.2 hg)) b0).setCell (p:=⟨g,1,none⟩) (fun k=>absurd k (Nat.not_lt.2 hg)) b1).setCell (p:=⟨g,2,none⟩) (fun k=>absurd k (Nat.not_lt.2 hg)) b2).setCell (p:=⟨g,3,none⟩) (fun k=>absurd k (Nat.not_lt.2 hg)) b3).setCell (p:=⟨g,4,none⟩) (fun k=>absurd k (Nat.not_lt.2 hg)) b4
theorem LN (b:Nat)(w:World)(ht:J1 w):
 Calls Tryz.prog 92 #[.int .u8 b] w fun e w'=>e=.returned (Ju b)/\b7 (fun _=>False) w w':=by
 have HT:=b6 ht
 obtain⟨_,⟨t1,h1⟩⟩:=ht
 have B0:=b6 (e8 w #[.int .u8 0,.int .u8 0,.int .i64 0,.int .u8 0,.int .u8 0] 147)
 have TA:=b6 ((tZ w).alloc (.cells #[.int .u8 0,.int .u8 0,.int .i64 0,.int .u8 0,.int .u8 0] 147))
 have h1':(w.alloc (.cells #[.int .u8 0,.int .u8 0,.int .i64 0,.int .u8 0,.int .u8 0] 147)).heap[1]? =some (.cells Bh t1 (0,0)):=(TA.out.block 1 (lt_of_block h1) id).trans h1
 go_enter Tryz.func92,Tryz.ntmps92
 go_wp2_with (first|refine wpList_load_row rfl 162 _ rfl 1 rfl t1 Bh (0,0) _ h1' Tryz.underlying162 rfl (by kernel_rfl) ?_|fail)
 generalize (w.alloc (.cells #[.int .u8 0,.int .u8 0,.int .i64 0,.int .u8 0,.int .u8 0] 147))=w1 at*
 obtain⟨g,hg⟩:∃g,g=w.heap.size:=⟨_,rfl⟩
 rw[<-hg]at B0⊢
 have HGW:=b6 (show w.heap.size<=g by omega)
 clear hg h1 h1'
 go_loopg [7] 9 (fun gk i wq=>∃k:Nat,k+gk=9/\i=.int .i64 (k:Nat)/\(J6.take k).find? (I9 b)=none/\b7 (fun _=>False) w1 wq)
 case atStart=>exact⟨0,rfl,rfl,rfl,b7.refl _ _⟩
 case round=>
  obtain⟨k,hk,rfl,hno,htc⟩:=hrel
  have TC:=b6 htc
  have HNO:=b6 hno
  clear hno htc
  by_cases hlt:k<9
  ·obtain⟨l,hl⟩:∃l,J6[k]? =some l:=⟨J6[k]'(by simpa [J6]using hlt),List.getElem?_eq_getElem _⟩
   have hix:=JQ k l wr hlt hl
   have hgk:J6[k]'(by simpa [J6]using hlt)=l:=by
    rw[List.getElem?_eq_getElem (by simpa [J6]using hlt)]at hl
    exact Option.some.inj hl
   have HF:=b6 (LB (I9 b) J6 k (by simpa [J6]using hlt) HNO.out)
   rw[hgk]at HF
   have hsm:=Fa l (by rw[<-hgk];exact List.getElem_mem _)
   have hkI:(k:Int)<9:=by omega
   clear hl hgk
   obtain⟨x,y,m,lo,hi⟩:=l
   unfold Gy at hix
   dsimp only at hix hsm HF
   have B5:=b6 (e8 wr #[.int .u8 x,.int .u8 y,.int .i64 m,.int .u8 lo,.int .u8 hi] 147)
   have T5:=b6 (TC.out.alloc (.cells #[.int .u8 x,.int .u8 y,.int .i64 m,.int .u8 lo,.int .u8 hi] 147))
   go_upto_region 4 with fail
   generalize (wr.alloc (.cells #[.int .u8 x,.int .u8 y,.int .i64 m,.int .u8 lo,.int .u8 hi] 147))=wA at*
   have c0:wA.cell? ⟨wr.heap.size,0,none⟩=some (.int .u8 x):=by simp[World.cell?,B5.out]
   have c1:wA.cell? ⟨wr.heap.size,1,none⟩=some (.int .u8 y):=by simp[World.cell?,B5.out]
   have c2:wA.cell? ⟨wr.heap.size,2,none⟩=some (.int .i64 m):=by simp[World.cell?,B5.out]
   have c3:wA.cell? ⟨wr.heap.size,3,none⟩=some (.int .u8 lo):=by simp[World.cell?,B5.out]
   have c4:wA.cell? ⟨wr.heap.size,4,none⟩=some (.int .u8 hi):=by simp[World.cell?,B5.out]
   have G0:=b6 ((T5.out.block g (lt_of_block B0.out) id).trans B0.out)
   have f0:wA.frozen? ⟨g,0,none⟩=false:=by simp[World.frozen?,G0.out]
   have f1:wA.frozen? ⟨g,1,none⟩=false:=by simp[World.frozen?,G0.out]
   have f2:wA.frozen? ⟨g,2,none⟩=false:=by simp[World.frozen?,G0.out]
   have f3:wA.frozen? ⟨g,3,none⟩=false:=by simp[World.frozen?,G0.out]
   have f4:wA.frozen? ⟨g,4,none⟩=false:=by simp[World.frozen?,G0.out]
   have g0K:wA.cell? ⟨g,0,none⟩=some (.int .u8 0):=by simp[World.cell?,G0.out]
   have g1K:wA.cell? ⟨g,1,none⟩=some (.int .u8 0):=by simp[World.cell?,G0.out]
   have g2:wA.cell? ⟨g,2,none⟩=some (.int .i64 0):=by simp[World.cell?,G0.out]
   have g3:wA.cell? ⟨g,3,none⟩=some (.int .u8 0):=by simp[World.cell?,G0.out]
   have g4:wA.cell? ⟨g,4,none⟩=some (.int .u8 0):=by simp[World.cell?,G0.out]
   clear hix
   by_cases hx:x<=b
   ·have hxI:(x:Int)<=(b:Int):=by omega
    by_cases hy:b<=y
    ·have hyI:(b:Int)<=(y:Int):=by omega
     have HL:=b6 (show L4 b=some ⟨x,y,m,lo,hi⟩from Jf _ _ (k+1) _ (by rw[HF.out,if_pos (by simp[I9,hx,hy])]))
     have TE:=b6 (TA.out.trans T5.out iE)
     go_wp2
     refine bodyPost_ret (l8 rfl _ _ g 147 _ (0,0) _ rfl (Jg G0.out _ _ _ _ _) Tryz.underlying147 rfl (by kernel_rfl)) rfl ?_
     exact⟨by rw[EZ HL.out];rfl,EP TE.out HGW.out _ _ _ _ _⟩
    ·have HNX:=b6 (show(J6.take (k+1)).find? (I9 b)=none by rw[HF.out,if_neg (by simp[I9,hy])])
     have hyd:decide ((b:Int)<=(y:Int))=false:=decide_eq_false (by omega)
     go_wp2
     go_roundg (gk-1)
     case measure=>omega
     case rel=>exact⟨k+1,by omega,by go_num,HNX.out,T5.out⟩
   ·have HNX:=b6 (show(J6.take (k+1)).find? (I9 b)=none by rw[HF.out,if_neg (by simp[I9,hx])])
    have hxd:decide ((x:Int)<=(b:Int))=false:=decide_eq_false (by omega)
    go_wp2
    go_roundg (gk-1)
    case measure=>omega
    case rel=>exact⟨k+1,by omega,by go_num,HNX.out,T5.out⟩
  ·obtain rfl:k=9:=by omega
   have HL:=b6 (show L4 b=none from HNO.out)
   have G0:=b6 ((TC.out.block g (lt_of_block B0.out) id).trans B0.out)
   have f0:wr.frozen? ⟨g,0,none⟩=false:=by simp[World.frozen?,G0.out]
   have f1:wr.frozen? ⟨g,1,none⟩=false:=by simp[World.frozen?,G0.out]
   have f2:wr.frozen? ⟨g,2,none⟩=false:=by simp[World.frozen?,G0.out]
   have f3:wr.frozen? ⟨g,3,none⟩=false:=by simp[World.frozen?,G0.out]
   have f4:wr.frozen? ⟨g,4,none⟩=false:=by simp[World.frozen?,G0.out]
   have g0K:wr.cell? ⟨g,0,none⟩=some (.int .u8 0):=by simp[World.cell?,G0.out]
   have g1K:wr.cell? ⟨g,1,none⟩=some (.int .u8 0):=by simp[World.cell?,G0.out]
   have g2:wr.cell? ⟨g,2,none⟩=some (.int .i64 0):=by simp[World.cell?,G0.out]
   have g3:wr.cell? ⟨g,3,none⟩=some (.int .u8 0):=by simp[World.cell?,G0.out]
   have g4:wr.cell? ⟨g,4,none⟩=some (.int .u8 0):=by simp[World.cell?,G0.out]
   have TE:=b6 (TA.out.trans TC.out iE)
   go_wp2
   refine bodyPost_ret (l8 rfl _ _ g 147 _ (0,0) _ rfl (Jg G0.out _ _ _ _ _) Tryz.underlying147 rfl (by kernel_rfl)) rfl ?_
   exact⟨by rw[EY HL.out];rfl,EP TE.out HGW.out _ _ _ _ _⟩
end Go.Proofs.YtdhhcefmmojcmaaGreatDoor
