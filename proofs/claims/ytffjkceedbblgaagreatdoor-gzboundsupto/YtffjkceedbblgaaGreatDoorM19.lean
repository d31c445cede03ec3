/- Texts of this proof, one behind the other: what each says stands ahead of it. -/
import Derived.Test.YtffjkceedbblgaaGreatDoorM8
import Derived.Test.YtffjkceedbblgaaGreatDoorM18
import Derived.Laws.DeepNot64
import Derived.Deep.DrawnRows
/- Blocks that are laid out by hand, one behind the other, are a stream of stored blocks; conditions: each has fewer than 65536 bytes. -/
namespace Go.Proofs.YtffjkceedbblgaaGreatDoor

theorem byteN_strOf (l : List Nat) (hl : ∀ x ∈ l, x < 256) (i : Nat) : Bt.byteN (strOf l) i = l.getD i 0 := by
  unfold Bt.byteN strOf
  simp only [Array.getD_eq_getD_getElem?, List.getElem?_toArray, List.getElem?_map, List.getD_eq_getElem?_getD]
  cases h : l[i]? with
  | none => rfl
  | some x =>
    have hx := hl x (List.mem_of_getElem? h)
    simp
    omega

def blk (lb : Nat) (x : List Nat) : List Nat := [lb, x.length % 256, x.length / 256, 255 - x.length % 256, 255 - x.length / 256] ++ x
def lastOf (m j : Nat) : Nat := if j + 1 = m then 1 else 0
def laidTo (T : Nat → List Nat) (m k : Nat) : List Nat := (List.range k).flatMap fun j => blk (lastOf m j) (T j)
def wantTo (T : Nat → List Nat) (k : Nat) : List Nat := (List.range k).flatMap T

theorem length_blk (lb : Nat) (x : List Nat) : (blk lb x).length = 5 + x.length := by simp [blk]; omega
theorem laidTo_succ (T : Nat → List Nat) (m k : Nat) : laidTo T m (k + 1) = laidTo T m k ++ blk (lastOf m k) (T k) := by simp [laidTo, List.range_succ, List.flatMap_append]
theorem wantTo_succ (T : Nat → List Nat) (k : Nat) : wantTo T (k + 1) = wantTo T k ++ T k := by simp [wantTo, List.range_succ, List.flatMap_append]
theorem lastOf_lt (m j : Nat) : lastOf m j < 2 := by unfold lastOf; split <;> omega

def Small (T : Nat → List Nat) (m : Nat) : Prop := ∀ j, j < m → (T j).length ≤ 65535 ∧ ∀ x ∈ T j, x < 256

theorem blk_small {lb : Nat} {x : List Nat} (hb : lb < 2) (hl : x.length ≤ 65535) (hx : ∀ y ∈ x, y < 256) : ∀ y ∈ blk lb x, y < 256 := by
  intro y hy
  unfold blk at hy
  rcases List.mem_append.1 hy with h | h
  · simp only [List.mem_cons, List.not_mem_nil, or_false] at h
    omega
  · exact hx y h

theorem laid_small (T : Nat → List Nat) (m : Nat) (h : Small T m) : ∀ k, k ≤ m → (∀ y ∈ laidTo T m k, y < 256) ∧ (laidTo T m k).length ≤ 65540 * k ∧ (∀ y ∈ wantTo T k, y < 256) ∧ (wantTo T k).length ≤ 65535 * k
  | 0, _ => ⟨by simp [laidTo], by simp [laidTo], by simp [wantTo], by simp [wantTo]⟩
  | k + 1, hk => by
    obtain ⟨h1, h2, h3, h4⟩ := laid_small T m h k (by omega)
    obtain ⟨g1, g2⟩ := h k (by omega)
    rw [laidTo_succ, wantTo_succ]
    refine ⟨fun y hy => ?_, ?_, fun y hy => ?_, ?_⟩
    · rcases List.mem_append.1 hy with e | e
      · exact h1 y e
      · exact blk_small (lastOf_lt m k) g1 g2 y e
    · rw [List.length_append, length_blk]; omega
    · rcases List.mem_append.1 hy with e | e
      · exact h3 y e
      · exact g2 y e
    · rw [List.length_append]; omega

theorem laid_tail (T : Nat → List Nat) (m k : Nat) : ∀ d, ∃ post, laidTo T m (k + d) = laidTo T m k ++ post
  | 0 => ⟨[], by simp⟩
  | d + 1 => by
    obtain ⟨post, h⟩ := laid_tail T m k d
    exact ⟨post ++ blk (lastOf m (k + d)) (T (k + d)), by rw [← Nat.add_assoc, laidTo_succ, h, List.append_assoc]⟩

theorem bits_head (s : ByteArray) (p lb : Nat) (h : Bt.byteN s p = lb) (hb : lb < 2) : Bt.rval s (8 * p) 1 = lb ∧ Bt.rval s (8 * p + 1) 2 = 0 := by
  have h8 := Bt.rval_byte s p
  rw [h] at h8
  constructor
  · have := Bt.rval_mod s (8 * p) 1 7
    rw [h8] at this
    omega
  · have h1 := Bt.rval_div s (8 * p) 1 7
    rw [h8] at h1
    have h2 := Bt.rval_mod s (8 * p + 1) 2 5
    rw [← h1] at h2
    omega

/-- One block, and where it ends. -/
theorem block_at (s : ByteArray) (pre x post : List Nat) (lb : Nat) (hs : s = strOf (pre ++ blk lb x ++ post)) (hb : lb < 2) (hl : x.length ≤ 65535) (hsm : ∀ y ∈ pre ++ blk lb x ++ post, y < 256) :
    8 * pre.length + 3 ≤ 8 * s.size ∧ Bt.rval s (8 * pre.length) 1 = lb ∧ Bt.rval s (8 * pre.length + 1) 2 = 0 ∧ pre.length + 5 + x.length ≤ s.size ∧
      Bt.byteN s (pre.length + 1) + 256 * Bt.byteN s (pre.length + 1 + 1) = x.length ∧ Bt.byteN s (pre.length + 1 + 2) + 256 * Bt.byteN s (pre.length + 1 + 3) = 65535 - x.length ∧
      ((List.range x.length).map fun i => Bt.byteN s (pre.length + 1 + 4 + i)) = x := by
  have hsz : s.size = pre.length + (5 + x.length) + post.length := by rw [hs, size_strOf, List.length_append, List.length_append, length_blk]
  have hbyte : ∀ i, i < 5 + x.length → Bt.byteN s (pre.length + i) = (blk lb x).getD i 0 := by
    intro i hi
    rw [hs, byteN_strOf _ hsm, List.getD_eq_getElem?_getD, List.getD_eq_getElem?_getD, List.getElem?_append_left (by rw [List.length_append, length_blk]; omega), List.getElem?_append_right (by omega), Nat.add_sub_cancel_left]
  have b0 := hbyte 0 (by omega)
  have b1 := hbyte 1 (by omega)
  have b2 := hbyte 2 (by omega)
  have b3 := hbyte 3 (by omega)
  have b4 := hbyte 4 (by omega)
  simp only [blk, List.cons_append, List.nil_append, List.getD_cons_zero, List.getD_cons_succ] at b0 b1 b2 b3 b4
  obtain ⟨c1, c2⟩ := bits_head s (pre.length + 0) lb b0 hb
  refine ⟨by omega, c1, c2, by omega, ?_, ?_, ?_⟩
  · rw [b1, show pre.length + 1 + 1 = pre.length + 2 by omega, b2]; omega
  · rw [show pre.length + 1 + 2 = pre.length + 3 by omega, b3, show pre.length + 1 + 3 = pre.length + 4 by omega, b4]; omega
  · apply List.ext_getElem
    · simp
    · intro i h1 h2
      simp only [List.getElem_map, List.getElem_range]
      rw [show pre.length + 1 + 4 + i = pre.length + (5 + i) by omega, hbyte (5 + i) (by omega)]
      unfold blk
      rw [List.getD_eq_getElem?_getD, List.getElem?_append_right (by simp), show 5 + i - [lb, x.length % 256, x.length / 256, 255 - x.length % 256, 255 - x.length / 256].length = i by simp, List.getElem?_eq_getElem h2]
      rfl

theorem stream_from (T : Nat → List Nat) (m : Nat) (h : Small T m) : ∀ d k, k + (d + 1) = m → Stream (strOf (laidTo T m m)) (8 * (laidTo T m k).length) ((List.range (d + 1)).flatMap fun j => T (k + j)) (8 * (laidTo T m m).length)
  | 0, k, hk => by
    have hkm : k + 1 = m := by omega
    have hall := (laid_small T m h m (Nat.le_refl _)).1
    have e : laidTo T m m = laidTo T m k ++ blk 1 (T k) ++ [] := by
      have := laidTo_succ T m k
      rw [hkm] at this
      rw [this, List.append_nil, show lastOf m k = 1 from if_pos hkm]
    obtain ⟨h1, h2, h3, h4, h5, h6, h7⟩ := block_at (strOf (laidTo T m m)) (laidTo T m k) (T k) [] 1 (by rw [← e]) (by omega) (h k (by omega)).1 (by rw [← e]; exact hall)
    have hp : (8 * (laidTo T m k).length + 10) / 8 = (laidTo T m k).length + 1 := by omega
    have hL := Stream.last (s := strOf (laidTo T m m)) (8 * (laidTo T m k).length) (T k).length h1 h2 h3 (by rw [hp]; omega) (by rw [hp]; exact h5) (by rw [hp]; exact h6)
    rw [hp, h7] at hL
    have e2 : 8 * ((laidTo T m k).length + 1 + 4 + (T k).length) = 8 * (laidTo T m m).length := by rw [e, List.append_nil, List.length_append, length_blk]; omega
    rw [e2] at hL
    simpa using hL
  | d + 1, k, hk => by
    have hall := (laid_small T m h m (Nat.le_refl _)).1
    obtain ⟨post, hpost⟩ := laid_tail T m (k + 1) (d + 1)
    have e : laidTo T m m = laidTo T m k ++ blk 0 (T k) ++ post := by
      rw [show m = k + 1 + (d + 1) by omega] at hpost ⊢
      rw [hpost, laidTo_succ, show lastOf (k + 1 + (d + 1)) k = 0 from if_neg (by omega)]
    obtain ⟨h1, h2, h3, h4, h5, h6, h7⟩ := block_at (strOf (laidTo T m m)) (laidTo T m k) (T k) post 0 (by rw [← e]) (by omega) (h k (by omega)).1 (by rw [← e]; exact hall)
    have hp : (8 * (laidTo T m k).length + 10) / 8 = (laidTo T m k).length + 1 := by omega
    have hr := stream_from T m h d (k + 1) (by omega)
    have e2 : 8 * ((laidTo T m k).length + 1 + 4 + (T k).length) = 8 * (laidTo T m (k + 1)).length := by rw [laidTo_succ, List.length_append, length_blk]; omega
    have hL := Stream.more (s := strOf (laidTo T m m)) (8 * (laidTo T m k).length) (T k).length _ _ h1 h2 h3 (by rw [hp]; omega) (by rw [hp]; exact h5) (by rw [hp]; exact h6) (by rw [hp, e2]; exact hr)
    rw [hp, h7] at hL
    rw [List.range_succ_eq_map, List.flatMap_cons, List.flatMap_map]
    have e3 : ((List.range (d + 1)).flatMap fun j => T (k + 1 + j)) = (List.range (d + 1)).flatMap fun a => T (k + Nat.succ a) := by
      congr 1
      funext j
      rw [show k + 1 + j = k + Nat.succ j by omega]
    rw [← e3]
    exact hL

theorem stream_all (T : Nat → List Nat) (m : Nat) (h : Small T m) (hm : 0 < m) : Stream (strOf (laidTo T m m)) 0 (wantTo T m) (8 * (laidTo T m m).length) := by
  obtain ⟨d, rfl⟩ : ∃ d, m = d + 1 := ⟨m - 1, by omega⟩
  have := stream_from T (d + 1) h d 0 (by omega)
  simpa [laidTo, wantTo] using this
end Go.Proofs.YtffjkceedbblgaaGreatDoor

/- A stored block; conditions: those told. -/
namespace Go.Proofs.YtffjkceedbblgaaGreatDoor
open Go.RowKit
open Go.Lib

attribute [local go_sem ↓] Go.wp_at_zero Go.wp_at_succ
/-- The four bytes ahead of a stored block's own. -/
def hdr (n : Nat) : List Nat := [n % 256, n / 256, 255 - n % 256, 255 - n / 256]
theorem hdr_lt (n : Nat) (h : n ≤ 65535) : ∀ x ∈ hdr n, x < 256 := by
  intro x hx
  simp [hdr] at hx
  omega
theorem strNats_strOf (l : List Nat) (h : ∀ x ∈ l, x < 256) : Bt.strNats (strOf l) = l := by
  refine List.ext_getElem ?_ (fun i h1 h2 => ?_)
  · simp [Bt.strNats, size_strOf]
  · have hn : Bt.byteN (strOf l) i = l.getD i 0 := byteN_strOf l h i
    simp only [Bt.strNats, List.getElem_map, List.getElem_range]
    rw [hn, List.getD_eq_getElem?_getD, List.getElem?_eq_getElem h2]
    rfl
/-- The bits of a stored block, behind those ahead. -/
def stBits (bs : List Bool) (s : ByteArray) : List Bool := Bt.behind (Bt.behind bs (strOf (hdr s.size))) s
theorem pack_st (bs : List Bool) (s : ByteArray) (h : s.size ≤ 65535) : Bt.pack (stBits bs s) = Bt.pack bs ++ hdr s.size ++ Bt.strNats s := by
  unfold stBits
  rw [Bt.pack_behind, Bt.pack_behind, strNats_strOf _ (hdr_lt _ h)]
theorem len_st (bs : List Bool) (s : ByteArray) : (stBits bs s).length = 8 * ((bs.length + 7) / 8 + 4 + s.size) := by
  unfold stBits
  rw [Bt.length_behind, Bt.length_behind, size_strOf]
  have : (hdr s.size).length = 4 := rfl
  omega
theorem conv4 (W : World) (g a b c d : Nat) (hblk : W.heap[g]? = some (.cells #[.int .u8 (a : Nat), .int .u8 (b : Nat), .int .u8 (c : Nat), .int .u8 (d : Nat)] 5 (0, 0))) (ha : a < 256) (hb : b < 256) (hc : c < 256) (hd : d < 256) : (convert 36 9 (.slice (some ⟨g, 0, none⟩) 4 4)).run Tryz.prog W = .ok (.string (strOf [a, b, c, d])) W := by
  have hcv := run_convert_bytes_back (P := Tryz.prog) W 36 9 5 ⟨g, 0, none⟩ 4 ([a, b, c, d].map UInt8.ofNat) Tryz.underlying36 Tryz.underlying5 Tryz.underlying9 (fun j hj => ?_)
  · exact hcv
  · have h4 : j < 4 := hj
    rw [add_zero]
    rcases (show j = 0 ∨ j = 1 ∨ j = 2 ∨ j = 3 by omega) with rfl | rfl | rfl | rfl
    · rw [qblk_cell hblk 0 (by simp)]; simp; omega
    · rw [qblk_cell hblk 1 (by simp)]; simp; omega
    · rw [qblk_cell hblk 2 (by simp)]; simp; omega
    · rw [qblk_cell hblk 3 (by simp)]; simp; omega
theorem G.Wr.still {rs : List Value} {ty : TypeId} {w w' : World} {b : Nat} {bs : List Bool} (h : G.Wr rs ty w b bs) (t : Touch (fun _ => False) w w') : G.Wr rs ty w' b bs := h.kept (fun _ hk => t.block _ (h.fp_lt hk) id)
/-- What was made ahead of a step counts for nothing. -/
theorem G.WStep.after {rs : List Value} {ty : TypeId} {w w1 w2 : World} {b : Nat} {bs bs' : List Bool} (h : G.Wr rs ty w b bs) (t : Touch (fun _ => False) w w1) (k : G.WStep rs ty w1 w2 b bs') : G.WStep rs ty w w2 b bs' :=
  G.WStep.trans ⟨h.still t, t.mono (fun _ _ e => e.elim), fun _ e => .inl (e.of_same (t.block b h.lt id))⟩ k
set_option maxRecDepth 100000 in
set_option maxHeartbeats 8000000 in
theorem pstored_any (rs : List Value) (b : Nat) (bs : List Bool) (s : ByteArray) (w : World) (h : G.Wr rs 77 w b bs) (hs : s.size ≤ 65535) (hlen : bs.length ≤ 1125899906842) :
    Calls Tryz.prog 45 #[.pointer (some ⟨b, 0, none⟩), .string s] w fun e w' => e = .returned (.tuple #[]) ∧ G.WStep rs 77 w w' b (stBits bs s) := by
  have W0 := hid h
  clear h
  obtain ⟨n, hn⟩ : ∃ n, n = s.size := ⟨_, rfl⟩
  have HN := hid hn
  have hsz : s.size = n := hn.symm
  rw [← hn] at hs
  clear hn
  obtain ⟨a1, ha1⟩ : ∃ a : Nat, a = n % 256 := ⟨_, rfl⟩
  obtain ⟨a2, ha2⟩ : ∃ a : Nat, a = n / 256 := ⟨_, rfl⟩
  obtain ⟨a3, ha3⟩ : ∃ a : Nat, a = 255 - n % 256 := ⟨_, rfl⟩
  obtain ⟨a4, ha4⟩ : ∃ a : Nat, a = 255 - n / 256 := ⟨_, rfl⟩
  have u8 : ∀ x : Int, IntKind.u8.wrap x = x % 256 := fun x => by simp [IntKind.wrap, IntKind.bits, IntKind.signed]
  have hnot : bits BinOp.xor IntKind.i64 (if IntKind.i64.signed = true then -1 else 9223372036854775807) (n : Int) = -1 - (n : Int) := i64_not n (by omega)
  have x1 : IntKind.u8.wrap (n : Int) = (a1 : Int) := by rw [u8, ha1]; omega
  have x2 : IntKind.u8.wrap ((n : Int) / 256) = (a2 : Int) := by rw [u8, ha2]; omega
  have x3 : IntKind.u8.wrap (-1 - (n : Int)) = (a3 : Int) := by rw [u8, ha3]; omega
  have x4 : IntKind.u8.wrap ((-1 - (n : Int)) / 256) = (a4 : Int) := by rw [u8, ha4]; omega
  have HH := hid (show [a1, a2, a3, a4] = hdr n by rw [ha1, ha2, ha3, ha4]; rfl)
  have TA := hid ((Touch.refl (fun _ => False) w).alloc (.cells #[.int .u8 (a1 : Nat), .int .u8 (a2 : Nat), .int .u8 (a3 : Nat), .int .u8 (a4 : Nat)] 5))
  have hblk : (w.alloc (.cells #[.int .u8 (a1 : Nat), .int .u8 (a2 : Nat), .int .u8 (a3 : Nat), .int .u8 (a4 : Nat)] 5)).heap[w.heap.size]? = some (.cells #[.int .u8 (a1 : Nat), .int .u8 (a2 : Nat), .int .u8 (a3 : Nat), .int .u8 (a4 : Nat)] 5 (0, 0)) := by show (w.heap.push _)[_]? = _; simp
  have hcv := conv4 (w.alloc (.cells #[.int .u8 (a1 : Nat), .int .u8 (a2 : Nat), .int .u8 (a3 : Nat), .int .u8 (a4 : Nat)] 5)) w.heap.size a1 a2 a3 a4 hblk (by omega) (by omega) (by omega) (by omega)
  have hcv2 := conv4 (w.alloc (.cells #[.int .u8 (a1 : Nat), .int .u8 (a2 : Nat), .int .u8 (a3 : Nat), .int .u8 (a4 : Nat)] 5)).drew w.heap.size a1 a2 a3 a4 hblk (by omega) (by omega) (by omega) (by omega)
  have KW := hid (fun (w1 : World) (t : Touch (fun _ => False) w w1) => G.wbytes_any rs 77 b bs (strOf [a1, a2, a3, a4]) w1 (W0.out.still t) (by rw [size_strOf]; simp; omega))
  clear ha1 ha2 ha3 ha4 u8 hblk
  generalize hsh : strOf [a1, a2, a3, a4] = sh at *
  have HSH := hid (show sh = strOf (hdr n) by rw [← hsh, HH.out])
  clear hsh HH
  go_enter Tryz.func45, Tryz.ntmps45
  go_upto_region 1 with fail
  go_cut [] (fun wd => G.WStep rs 77 w wd b (Bt.behind bs sh))
  case first =>
    first
    | (go_region_held (fun w' => Hid (w.heap.size ≤ w'.heap.size))
        (first
         | exact hid (Nat.le_refl _)
         | exact hid TA.out.size
         | exact hid TA.out.drew.size
         | exact hid (Touch.refl (fun _ => False) w).drew.size
         | exact hid ST.out.touch.size)
        (first
         | (go_at_call 60
            refine (KW.out _ (by first | exact TA.out.drew | exact TA.out)).mono ?_
            rintro e w2 ⟨rfl, st⟩
            have ST := hid (G.WStep.after W0.out (by first | exact TA.out.drew | exact TA.out) st)
            clear st)))
    | fail
    all_goals go_wp2
    all_goals go_meet
    all_goals exact ST.out
  have W1 := hid hcut
  have KZ := hid (G.wbytes_any rs 77 b (Bt.behind bs sh) s wc hcut.wr (by rw [Bt.length_behind, HSH.out, size_strOf]; have : (hdr n).length = 4 := rfl; omega))
  clear hcut KW hcv hcv2 TA x1 x2 x3 x4 hnot
  go_wp2_with fail
  refine KZ.out.mono ?_
  rintro e w3 ⟨rfl, st⟩
  have S3 := hid (W1.out.trans st)
  clear st KZ W1
  go_wp2_with fail
  go_end0
  refine ⟨rfl, ?_⟩
  have := S3.out
  rw [HSH.out, HN.out] at this
  exact this
end Go.Proofs.YtffjkceedbblgaaGreatDoor

/- A block that is stored; conditions: those told. -/
namespace Go.Proofs.YtffjkceedbblgaaGreatDoor
open Go.RowKit
open Go.Lib

theorem G.WStep.apart {rs : List Value} {ty : TypeId} {w w1 w2 : World} {b : Nat} {bs bs' : List Bool} (h : G.Wr rs ty w b bs) (t : Touch (fun _ => False) w w1) (st : G.WStep rs ty w1 w2 b bs') (q : Nat) (h1 : w.heap.size ≤ q) (h2 : q < w1.heap.size) : w2.heap[q]? = w1.heap[q]? :=
  st.touch.block q h2 (fun e => by
    have := h.fp_lt (e.of_same (t.block b h.lt id))
    omega)
theorem G.Wr.third {x : Value} {rs : List Value} {ty : TypeId} {w : World} {b : Nat} {bs : List Bool} (h : G.Wr (x :: rs) ty w b bs) : w.cell? ⟨b, 2, none⟩ = some x := by
  obtain ⟨_, v, hb, _⟩ := h
  simp [World.cell?, hb]
set_option maxRecDepth 100000 in
set_option maxHeartbeats 8000000 in
theorem pblock_stored (data : ByteArray) (rs : List Value) (b : Nat) (bs : List Bool) (f t : Nat) (r : Int) (w : World) (h : G.Wr (.string data :: rs) 77 w b bs) (hft : f ≤ t) (ht : t ≤ data.size) (hs : t - f ≤ 65535) (hlen : bs.length ≤ 1125899906842) :
    Calls Tryz.prog 31 #[.pointer (some ⟨b, 0, none⟩), .agg #[.int .i64 (f : Nat), .int .i64 (t : Nat), .int .i64 0, .int .i64 r]] w fun e w' => e = .returned (.tuple #[]) ∧ G.WStep (.string data :: rs) 77 w w' b (stBits bs (data.extract f t)) := by
  have W0 := hid h
  have TA := hid ((Touch.refl (fun _ => False) w).alloc (.cells #[.int .i64 (f : Nat), .int .i64 (t : Nat), .int .i64 0, .int .i64 r] 83))
  have FB := hid (show (w.alloc (.cells #[.int .i64 (f : Nat), .int .i64 (t : Nat), .int .i64 0, .int .i64 r] 83)).heap[w.heap.size]? = some (.cells #[.int .i64 (f : Nat), .int .i64 (t : Nat), .int .i64 0, .int .i64 r] 83 (0, 0)) by show (w.heap.push _)[_]? = _; simp)
  have ZA := hid (show w.heap.size < (w.alloc (.cells #[.int .i64 (f : Nat), .int .i64 (t : Nat), .int .i64 0, .int .i64 r] 83)).heap.size by simp)
  have hftI : (f : Int) ≤ (t : Int) := by omega
  have htI : (t : Int) ≤ (data.size : Int) := by omega
  have hf0 : (0 : Int) ≤ (f : Int) := by omega
  have HSZ := hid (show (data.extract f t).size ≤ 65535 by rw [ByteArray.size_extract]; omega)
  have KS := hid (fun (w1 : World) (tt : Touch (fun _ => False) w w1) => pstored_any (.string data :: rs) b bs (data.extract f t) w1 (W0.out.still tt) HSZ.out hlen)
  clear h
  go_enter Tryz.func31, Tryz.ntmps31
  go_upto_region 1 with fail
  generalize (w.alloc (.cells #[.int .i64 (f : Nat), .int .i64 (t : Nat), .int .i64 0, .int .i64 r] 83)) = w1 at *
  obtain ⟨q, hq⟩ : ∃ q, q = w.heap.size := ⟨_, rfl⟩
  rw [← hq] at FB ZA ⊢
  have HQ := hid (show w.heap.size ≤ q by omega)
  clear hq
  have d0 : w1.cell? ⟨q, 0, none⟩ = some (.int .i64 (f : Nat)) := qblk_cell FB.out 0 (by simp)
  have d1 : w1.cell? ⟨q, 1, none⟩ = some (.int .i64 (t : Nat)) := qblk_cell FB.out 1 (by simp)
  have d2 : w1.cell? ⟨q, 2, none⟩ = some (.int .i64 0) := qblk_cell FB.out 2 (by simp)
  have db : w1.cell? ⟨b, 2, none⟩ = some (.string data) := (W0.out.still TA.out).third
  have D := hid (show w1.cell? ⟨q, 0, none⟩ = some (.int .i64 (f : Nat)) ∧ w1.cell? ⟨q, 1, none⟩ = some (.int .i64 (t : Nat)) ∧ w1.cell? ⟨b, 2, none⟩ = some (.string data) from ⟨d0, d1, db⟩)
  go_upto_region 2 with fail
  go_region_held3 (fun w' => w'.cell? ⟨q, 0, none⟩ = some (.int .i64 (f : Nat)) ∧ w'.cell? ⟨q, 1, none⟩ = some (.int .i64 (t : Nat)) ∧ w'.cell? ⟨b, 2, none⟩ = some (.string data))
    (first
     | exact D.out
     | exact DS.out)
    (first
     | (go_at_call 45
        refine (KS.out _ (by first | exact TA.out.drew | exact TA.out)).mono ?_
        rintro e w2 ⟨rfl, st⟩
        have ST := hid (G.WStep.after W0.out (by first | exact TA.out.drew | exact TA.out) st)
        have DS := hid (show w2.cell? ⟨q, 0, none⟩ = some (.int .i64 (f : Nat)) ∧ w2.cell? ⟨q, 1, none⟩ = some (.int .i64 (t : Nat)) ∧ w2.cell? ⟨b, 2, none⟩ = some (.string data) from ⟨(World.cell?_of_block (st.apart W0.out (by first | exact TA.out.drew | exact TA.out) q HQ.out ZA.out)).trans D.out.1, (World.cell?_of_block (st.apart W0.out (by first | exact TA.out.drew | exact TA.out) q HQ.out ZA.out)).trans D.out.2.1, st.wr.third⟩)
        clear st))
  all_goals go_wp2
  all_goals refine bodyPost_ret (results_none rfl _ _ _) rfl ?_
  all_goals exact ⟨rfl, ST.out⟩
end Go.Proofs.YtffjkceedbblgaaGreatDoor

/- What Pack without choices is made of; conditions: those told. -/
namespace Go.Proofs.YtffjkceedbblgaaGreatDoor
open Go.RowKit
open Go.Lib

theorem chunks_in {s : Bool} : ∀ (n f t : Nat), t - f ≤ n → f ≤ t → s = true → ∀ p ∈ chunks s f t, f ≤ p.1 ∧ p.1 ≤ p.2 ∧ p.2 ≤ t ∧ p.2 - p.1 ≤ 65535
  | n, f, t, h, hft, hs, p, hp => by
    by_cases hc : s = true ∧ 65535 < t - f
    · rw [chunks_more hc] at hp
      rcases List.mem_cons.1 hp with rfl | hp
      · dsimp only; omega
      · match n, h with
        | n + 1, h =>
          have := chunks_in n (f + 65535) t (by omega) (by omega) hs p hp
          omega
        | 0, h => omega
    · rw [chunks_one hc] at hp
      have hlt : ¬ 65535 < t - f := fun k => hc ⟨hs, k⟩
      obtain rfl := List.mem_singleton.1 hp
      dsimp only
      omega
theorem G.Wr.fp_ty {rs : List Value} {ty : TypeId} {w : World} {b k : Nat} {bs : List Bool} (h : G.Wr rs ty w b bs) (hk : G.Fp rs ty w b k) : ∃ cs t', w.heap[k]? = some (.cells cs t' (0, 0)) ∧ (t' = ty ∨ t' = 5) := by
  obtain ⟨_, v, hb, hown⟩ := h
  rcases hk with rfl | ⟨v', c, hb', ho⟩
  · exact ⟨_, ty, hb, .inl rfl⟩
  · rw [hb] at hb'
    simp at hb'
    obtain ⟨rfl, rfl⟩ := hb'
    rcases hown.2 with ⟨rfl, _⟩ | ⟨g, cap, cur, rfl, _, hh, _⟩
    · simp [Value.ownBlock] at ho
    · simp [Value.ownBlock] at ho
      subst ho
      exact ⟨cur, 5, hh, .inr rfl⟩
theorem Bls.step {rs : List Value} {w w' : World} {a : Option Addr} {l : List B4} {b : Nat} {bs bs' : List Bool} (h : Bls w a l) (hw : G.Wr rs 77 w b bs) (st : G.WStep rs 77 w w' b bs') : Bls w' a l := h.keep st.touch (fun k ⟨cs, hk⟩ e => by
  obtain ⟨cs', t', hk', ht⟩ := hw.fp_ty e
  rw [hk] at hk'
  simp at hk'
  rcases ht with rfl | rfl <;> simp at hk')
theorem pack3 (bs : List Bool) (l : Nat) (hl : l < 2) (h : bs.length % 8 = 0) : Bt.pack ((bs ++ (List.range 1).map (ibit (l : Int))) ++ (List.range 2).map (ibit 0)) = Bt.pack bs ++ [l] := by
  rw [List.append_assoc, Bt.pack_append _ _ h]
  congr 1
  rcases (show l = 0 ∨ l = 1 by omega) with rfl | rfl <;> decide
/-- What a block that is stored comes to. -/
theorem pack_block {bs : List Bool} {P : List Nat} {l : Nat} {s : ByteArray} (hl : l < 2) (hs : s.size ≤ 65535) (hp : Bt.pack bs = P) (hb : bs.length = 8 * P.length) : Bt.pack (stBits ((bs ++ (List.range 1).map (ibit (l : Int))) ++ (List.range 2).map (ibit 0)) s) = P ++ blk l (Bt.strNats s) ∧ (stBits ((bs ++ (List.range 1).map (ibit (l : Int))) ++ (List.range 2).map (ibit 0)) s).length = 8 * (P ++ blk l (Bt.strNats s)).length := by
  have hn : (Bt.strNats s).length = s.size := by simp [Bt.strNats]
  constructor
  · rw [pack_st _ _ hs, pack3 bs l hl (by omega), hp]
    unfold blk hdr
    rw [hn]
    simp
  · rw [len_st]
    simp only [List.length_append, List.length_map, List.length_range, length_blk, hn]
    omega
end Go.Proofs.YtffjkceedbblgaaGreatDoor
