/- Texts of this proof, one behind the other: what each says stands ahead of it. -/
import Derived.Test.YtdhhcefmmojcmaaGreatDoorM40
import Derived.Test.YtdhhcefmmojcmaaGreatDoorM39
import Derived.Test.YtdhhcefmmojcmaaGreatDoorZb
/- A parser of patterns: what Parse tells of a text of ASCII; condition: it has at most 1024 bytes. -/
namespace Go.Proofs.YtdhhcefmmojcmaaGreatDoor
open Go.RowKit
open Go.Lib

def isAsc (c : Int) : Bool := decide (0 ≤ c) && decide (c < 128)
theorem tkAt_asc {s : ByteArray} {i : Nat} {c : Int} {l : List Int} (hc : isAsc c = true) (h : Lays s i (c :: l)) : tkAt s 1 i = (c, 1) := by
  unfold isAsc at hc
  rw [Bool.and_eq_true, decide_eq_true_eq, decide_eq_true_eq] at hc
  have e : en8 c = [c] := by
    unfold en8
    rw [if_pos (by omega)]
  have ok : okc 1 c = true := by
    unfold okc
    rw [Bool.and_eq_true]
    exact ⟨(scB_iff c).2 ⟨hc.1, by omega, by omega⟩, by simp⟩
  have := tkAt_fwd 1 (.inl rfl) s i c ok (by rw [enc1, e]; exact Lays.left (a := [c]) (b := l) h)
  rw [this, enc1, e]
  rfl
/-- The places of so many bytes from one on. -/
def plcs (i n : Nat) : List Int := (List.range' i n).map fun (j : Nat) => (j : Int)
theorem asc_dc (s : ByteArray) : ∀ (l : List Int) (k i : Nat) (rs ps : List Int) (bad : Nat), l.all isAsc = true → Lays s i l → s.size = i + l.length → l.length ≤ k →
    dcGo s 1 true k i rs ps bad = (none, rs ++ l, ps ++ plcs i l.length, bad)
  | [], k, i, rs, ps, bad, _, _, he, _ => by
    rw [dc_end (by simp at he; omega)]
    simp [plcs]
  | c :: l, k, i, rs, ps, bad, ha, hl, he, hk => by
    rw [List.all_cons, Bool.and_eq_true] at ha
    rw [List.length_cons] at he hk
    obtain ⟨k, rfl⟩ : ∃ j, k = j + 1 := ⟨k - 1, by omega⟩
    have hc := ha.1
    unfold isAsc at hc
    rw [Bool.and_eq_true, decide_eq_true_eq, decide_eq_true_eq] at hc
    rw [dc_step (by omega), tkAt_asc ha.1 hl, if_neg (by dsimp only; omega)]
    rw [asc_dc s l k (i + 1) (rs ++ [c]) (ps ++ [(i : Int)]) bad ha.2 (Lays.right (a := [c]) hl) (by omega) (by omega)]
    simp [plcs, List.range'_succ]
theorem plcs_at (i n j : Nat) (h : j < n) : (plcs i n)[j]? = some ((i + j : Nat) : Int) := by
  unfold plcs
  rw [List.getElem?_map, List.getElem?_range' h]
  simp
theorem asc_lk (n j : Nat) (h : j ≤ n) : lkR (plcs 0 n ++ [(n : Int)]) j = (j : Int) := by
  unfold lkR
  rcases Nat.lt_or_ge j n with g | g
  · rw [List.getElem?_append_left (by simp [plcs]; exact g), plcs_at 0 n j g]
    simp
  · obtain rfl : j = n := by omega
    rw [List.getElem?_append_right (by simp [plcs])]
    simp [plcs]
theorem asc_bg {s : ByteArray} {l : List Int} (ha : l.all isAsc = true) (hl : Lays s 0 l) (he : s.size = l.length) : bg s 1 = (1, 0) := by
  have : begB s (mk 1) = false := by
    cases hb : begB s (mk 1) with
    | false => rfl
    | true =>
      have h := (beg_iff s (mk 1)).1 hb
      have h0 := h 0 (by decide)
      have e0 : (nums (mk 1))[0] = 239 := by kernel_rfl
      rw [e0] at h0
      match l, ha, hl, he with
      | [], _, _, he =>
        have h1 := h0.1
        rw [List.length_nil] at he
        omega
      | c :: l, ha, hl, _ =>
        have h1 := hl 0 (by simp)
        rw [List.all_cons, Bool.and_eq_true] at ha
        have hc := ha.1
        unfold isAsc at hc
        rw [Bool.and_eq_true, decide_eq_true_eq, decide_eq_true_eq] at hc
        simp only [List.getElem_cons_zero] at h1
        omega
  unfold bg
  rw [if_neg (by decide), this]
  rfl
/-- What a text of ASCII tells: its bytes are its scalars. -/
theorem prs_asc {s : ByteArray} {l : List Int} (f : Fl) (ha : l.all isAsc = true) (hl : Lays s 0 l) (he : s.size = l.length) (hs : l.length ≤ 1024) :
    prsR s f = match patF l tableN f with
      | .ok r => .ok r
      | .error (c, j) => .error ((c : Nat), lkR (plcs 0 l.length ++ [(l.length : Int)]) j) := by
  unfold prsR
  rw [if_neg (by omega), asc_bg ha hl he, asc_dc s l s.size 0 [] [] 0 ha hl (by omega) (by omega)]
  simp only [List.nil_append, he]
  rcases patF l tableN f with ⟨c, j⟩ | r
  · rfl
  · rfl
/-- A list of ASCII as a text. -/
theorem asc_lays (l : List Int) (h : l.all isAsc = true) : Lays (bytesI l) 0 l ∧ (bytesI l).size = l.length := by
  refine ⟨fun j hj => ?_, by simp [bytesI, ByteArray.size]⟩
  have hsz : (bytesI l).size = l.length := by simp [bytesI, ByteArray.size]
  refine ⟨by omega, ?_⟩
  have hm := List.all_eq_true.1 h _ (List.getElem_mem hj)
  unfold isAsc at hm
  rw [Bool.and_eq_true, decide_eq_true_eq, decide_eq_true_eq] at hm
  unfold byN
  rw [dif_pos (by omega)]
  have : (bytesI l)[0 + j]'(by omega) = UInt8.ofNat l[j].toNat := by
    simp only [Nat.zero_add]
    show ((l.map fun c => UInt8.ofNat c.toNat).toArray)[j]'(by simpa using hj) = _
    simp
  rw [this, UInt8.toNat_ofNat']
  omega
end Go.Proofs.YtdhhcefmmojcmaaGreatDoor

/- A parser of patterns, plain: some patterns; no condition. -/
namespace Go.Proofs.YtdhhcefmmojcmaaGreatDoor
open Go.RowKit

def speakT : ByteArray := ⟨#[97, 40, 98, 124, 41, 42, 63]⟩
def speakX : Nd := .many 8 [.cls fl0 (cnR [(97, 97)]), .rep 0 (-1) true (.grp 1 ⟨#[]⟩ (.many 9 [.cls fl0 (cnR [(98, 98)]), .empty]))]
theorem speak_pat : patF [97, 40, 98, 124, 41, 42, 63] tableN fl0 = .ok (speakX, [⟨#[]⟩, ⟨#[]⟩]) := by kernel_rfl
theorem speak_prs : prsR speakT fl0 = .ok (speakX, [⟨#[]⟩, ⟨#[]⟩]) := by
  obtain ⟨h1, h2⟩ := asc_lays [97, 40, 98, 124, 41, 42, 63] (by decide)
  rw [show speakT = bytesI [97, 40, 98, 124, 41, 42, 63] from rfl, prs_asc fl0 (by decide) h1 h2 (by decide), speak_pat]
end Go.Proofs.YtdhhcefmmojcmaaGreatDoor

/- A parser of patterns: what a tree in memory holds; speaks; no condition. -/
namespace Go.Proofs.YtdhhcefmmojcmaaGreatDoor
open Go.RowKit
open Go.Lib

theorem TN.inv {w : World} {B : Nat → Prop} {c : Cel} {k mi ma ca : Int} {fo la : Bool} {set : List R2} {nm : ByteArray} {kids : List Nd} (h : TN w B c (.mk k mi ma ca fo la set nm kids)) :
    (c.kind = k ∧ c.min = mi ∧ c.max = ma ∧ c.cap = ca ∧ c.fold = fo ∧ c.lazy = la ∧ c.name = nm) ∧ SR w (.slice c.sa c.sn c.sc) set ∧ (∀ g, (Value.slice c.sa c.sn c.sc).ownBlock = some g → B g) ∧ (∀ g, (Value.slice c.ka c.kn c.kc).ownBlock = some g → B g) ∧
    ∃ cs, CL w (.slice c.ka c.kn c.kc) cs ∧ cs.length = kids.length ∧ ∀ (i : Nat) (c' : Cel) (x' : Nd), cs[i]? = some c' → kids[i]? = some x' → TN w B c' x' := by
  cases h with
  | mk c set kids cs hs bs hk bk hl ht => exact ⟨⟨rfl, rfl, rfl, rfl, rfl, rfl, rfl⟩, hs, bs, bk, cs, hk, hl, ht⟩
theorem flat_at (cs : List Cel) : ∀ i (hi : i < cs.length) j (u : Value), cs[i].list[j]? = some u → (cs.flatMap Cel.list)[i * 9 + j]? = some u := by
  induction cs with
  | nil => intro i hi; exact absurd hi (Nat.not_lt_zero _)
  | cons c cs ih =>
    intro i hi j u hu
    rw [List.flatMap_cons]
    have hj : j < 9 := by
      have := (List.getElem?_eq_some_iff.1 hu).1
      simpa [Cel.list] using this
    match i, hi, hu with
    | 0, _, hu =>
      rw [List.getElem?_append_left (by simp [Cel.list]; omega), Nat.zero_mul, Nat.zero_add]
      exact hu
    | i + 1, hi, hu =>
      rw [List.getElem?_append_right (by simp [Cel.list]; omega)]
      have e : (i + 1) * 9 + j - c.list.length = i * 9 + j := by simp [Cel.list]; omega
      rw [e]
      exact ih i (by simpa using hi) j u hu
/-- The cells of a list of nodes. -/
theorem CL.at {w : World} {a : Option Addr} {n c : Nat} {cs : List Cel} (h : CL w (.slice a n c) cs) (h0 : 0 < cs.length) : ∃ g, a = some ⟨g, 0, none⟩ ∧ g < w.heap.size ∧ n = cs.length ∧ ∀ i (hi : i < cs.length) j u, cs[i].list[j]? = some u → w.cell? ⟨g, i * 9 + j, none⟩ = some u := by
  rcases h.2 with ⟨_, k⟩ | ⟨g, cap, cur, hv, hg, hh, rest⟩
  · omega
  · have ha : a = some ⟨g, 0, none⟩ := by cases hv; rfl
    have hn : n = cs.length := by cases hv; rfl
    refine ⟨g, ha, lt_of_block hh, hn, fun i hi j u hu => ?_⟩
    have := h.cells (g := g) (by rw [ha]; rfl) (i * 9 + j) u (flat_at cs i hi j u hu)
    rwa [add_gK] at this
/-- Where a law keeps what Parse answers. -/
theorem kept2 (w : World) (P F : Array Value) : ((w.alloc (.cells P 31)).alloc (.cells F 34)).heap[w.heap.size]? = some (.cells P 31 (0, 0)) ∧ ((w.alloc (.cells P 31)).alloc (.cells F 34)).heap[w.heap.size + 1]? = some (.cells F 34 (0, 0)) ∧ Touch (fun _ => False) w ((w.alloc (.cells P 31)).alloc (.cells F 34)) := by
  have T3 := (Touch.refl (fun _ => False) (w.alloc (.cells P 31))).alloc (.cells F 34)
  have e : (w.alloc (.cells P 31)).heap.size = w.heap.size + 1 := by simp
  refine ⟨?_, ?_, ((Touch.refl (fun _ => False) w).alloc _).alloc _⟩
  · rw [T3.block _ (by omega) id]
    exact block_new w P 31
  · have := block_new (w.alloc (.cells P 31)) F 34
    rw [e] at this
    exact this
theorem cell_of {w : World} {g : Nat} {cs : Array Value} {t : TypeId} {fr : Nat × Nat} (h : w.heap[g]? = some (.cells cs t fr)) (i : Nat) (v : Value) (hv : cs[i]? = some v) : w.cell? ⟨g, i, none⟩ = some v := by
  simp [World.cell?, h, hv]
set_option maxRecDepth 100000 in
set_option maxHeartbeats 4000000 in
theorem speaks_yes (w : World) (ht : TabsK w) (hx : Sx w) (h7 : 7 ≤ w.heap.size) : Calls Tryz.prog 11 #[] w fun e w' => e = .returned (.bool true) ∧ Touch (fun _ => False) w w' := by
  have KP := hid (parse_any speakT fl0 w ht hx h7)
  rw [speak_prs] at KP
  unfold speakT fl0 PrsP speakX at KP
  simp only at KP
  clear ht hx h7
  go_enter Tryz.func11, Tryz.ntmps11
  go_wp2_with fail
  refine KP.out.mono ?_
  rintro e w1 ⟨c, an, nn, cn, rfl, ht1, hs1, hn1, t1⟩
  have e1 := ht1.inv.1.1
  obtain ⟨cs, hcl, hlen, hkid⟩ := ht1.inv.2.2.2.2
  obtain ⟨ck, sa, sn, sc, fo, mi, ma, la, ca, nm, ka, kn, kc⟩ := c
  simp only at e1 hcl hlen
  subst e1
  have hl2 : cs.length = 2 := hlen
  obtain ⟨g, rfl, hg, rfl, hat⟩ := hcl.at (by omega)
  have hk1 := hkid 1 _ _ (List.getElem?_eq_getElem (show 1 < cs.length by omega)) rfl
  have f1 := hk1.inv.1.1
  have f2 := hk1.inv.1.2.2.2.2.2.1
  have a0 := hat 1 (by omega) 0 _ rfl
  have a5 := hat 1 (by omega) 5 _ rfl
  rw [f1] at a0
  rw [f2] at a5
  obtain ⟨_, _, hv⟩ := own_shape hs1
  cases hv
  rw [hl2]
  have A0 := hid a0
  have A5 := hid a5
  have HG := hid hg
  have T1 := hid t1
  unfold Cel.arr
  clear hat hkid hcl hlen hl2 KP hs1 hk1 a0 a5 f1 f2 ht1 hn1 t1 hg
  go_upto_region 2 with fail
  have HK := kept2 w1 #[.int .i64 8, .slice sa sn sc, .bool fo, .int .i64 mi, .int .i64 ma, .bool la, .int .i64 ca, .string nm, .slice (some ⟨g, 0, none⟩) 2 kc, .slice an 2 cn] #[.int .i64 0, .int .i64 0]
  generalize (w1.alloc (.cells #[.int .i64 8, .slice sa sn sc, .bool fo, .int .i64 mi, .int .i64 ma, .bool la, .int .i64 ca, .string nm, .slice (some ⟨g, 0, none⟩) 2 kc, .slice an 2 cn] 31)).alloc (.cells #[.int .i64 0, .int .i64 0] 34) = w3 at *
  obtain ⟨hp, hq, t3⟩ := HK
  have b0 := (t3.cell (p := ⟨g, 9, none⟩) HG.out id).trans A0.out
  have b5 := (t3.cell (p := ⟨g, 14, none⟩) HG.out id).trans A5.out
  clear HG
  generalize w1.heap.size = p at *
  have c0 := cell_of hp 0 _ rfl
  have c8 := cell_of hp 8 _ rfl
  have c9 := cell_of hp 9 _ rfl
  have HQ := hid hq
  have T3 := hid (T1.out.trans t3 (fun _ _ e => e))
  clear hp hq t3
  go_wp2_with (first | refine wpList_load_row rfl 34 _ rfl (p + 1) rfl 34 _ (0, 0) _ HQ.out Tryz.underlying34 rfl info34 ?_ | fail)
  go_ret
  exact ⟨rfl, T3.out⟩
end Go.Proofs.YtdhhcefmmojcmaaGreatDoor
