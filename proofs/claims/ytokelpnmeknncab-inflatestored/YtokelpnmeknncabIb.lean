/- Blocks that are laid out by hand, one behind the other, are a stream of stored blocks; conditions: each has fewer than 65536 bytes. -/
import Derived.Test.YtokelpnmeknncabUs
namespace Go.Proofs.Ytokelpnmeknncab

theorem byteN_strOf (l : List Nat) (hl : ∀ x ∈ l, x < 256) (i : Nat) : Bt.byteN (strOf l) i = l.getD i 0 := by
  unfold Bt.byteN strOf
  simp only [Array.getD_eq_getD_getElem?, List.getElem?_toArray, List.getElem?_map, List.getD_eq_getElem?_getD]
  cases h : l[i]? with
  | none => rfl
  | some x =>
    have hx := hl x (List.mem_of_getElem? h)
    simp
    omega

def blk (lb : Nat) (x : List Nat) : List Nat := [lb, x.length % 256, x.length / 256, 255 - x.length % 256, 255 - x.length / 256] ++ x
def lastOf (m j : Nat) : Nat := if j + 1 = m then 1 else 0
def laidTo (T : Nat → List Nat) (m k : Nat) : List Nat := (List.range k).flatMap fun j => blk (lastOf m j) (T j)
def wantTo (T : Nat → List Nat) (k : Nat) : List Nat := (List.range k).flatMap T

theorem length_blk (lb : Nat) (x : List Nat) : (blk lb x).length = 5 + x.length := by simp [blk]; omega
theorem laidTo_succ (T : Nat → List Nat) (m k : Nat) : laidTo T m (k + 1) = laidTo T m k ++ blk (lastOf m k) (T k) := by simp [laidTo, List.range_succ, List.flatMap_append]
theorem wantTo_succ (T : Nat → List Nat) (k : Nat) : wantTo T (k + 1) = wantTo T k ++ T k := by simp [wantTo, List.range_succ, List.flatMap_append]
theorem lastOf_lt (m j : Nat) : lastOf m j < 2 := by unfold lastOf; split <;> omega

def Small (T : Nat → List Nat) (m : Nat) : Prop := ∀ j, j < m → (T j).length ≤ 65535 ∧ ∀ x ∈ T j, x < 256

theorem blk_small {lb : Nat} {x : List Nat} (hb : lb < 2) (hl : x.length ≤ 65535) (hx : ∀ y ∈ x, y < 256) : ∀ y ∈ blk lb x, y < 256 := by
  intro y hy
  unfold blk at hy
  rcases List.mem_append.1 hy with h | h
  · simp only [List.mem_cons, List.not_mem_nil, or_false] at h
    omega
  · exact hx y h

theorem laid_small (T : Nat → List Nat) (m : Nat) (h : Small T m) : ∀ k, k ≤ m → (∀ y ∈ laidTo T m k, y < 256) ∧ (laidTo T m k).length ≤ 65540 * k ∧ (∀ y ∈ wantTo T k, y < 256) ∧ (wantTo T k).length ≤ 65535 * k
  | 0, _ => ⟨by simp [laidTo], by simp [laidTo], by simp [wantTo], by simp [wantTo]⟩
  | k + 1, hk => by
    obtain ⟨h1, h2, h3, h4⟩ := laid_small T m h k (by omega)
    obtain ⟨g1, g2⟩ := h k (by omega)
    rw [laidTo_succ, wantTo_succ]
    refine ⟨fun y hy => ?_, ?_, fun y hy => ?_, ?_⟩
    · rcases List.mem_append.1 hy with e | e
      · exact h1 y e
      · exact blk_small (lastOf_lt m k) g1 g2 y e
    · rw [List.length_append, length_blk]; omega
    · rcases List.mem_append.1 hy with e | e
      · exact h3 y e
      · exact g2 y e
    · rw [List.length_append]; omega

theorem laid_tail (T : Nat → List Nat) (m k : Nat) : ∀ d, ∃ post, laidTo T m (k + d) = laidTo T m k ++ post
  | 0 => ⟨[], by simp⟩
  | d + 1 => by
    obtain ⟨post, h⟩ := laid_tail T m k d
    exact ⟨post ++ blk (lastOf m (k + d)) (T (k + d)), by rw [← Nat.add_assoc, laidTo_succ, h, List.append_assoc]⟩

theorem bits_head (s : ByteArray) (p lb : Nat) (h : Bt.byteN s p = lb) (hb : lb < 2) : Bt.rval s (8 * p) 1 = lb ∧ Bt.rval s (8 * p + 1) 2 = 0 := by
  have h8 := Bt.rval_byte s p
  rw [h] at h8
  constructor
  · have := Bt.rval_mod s (8 * p) 1 7
    rw [h8] at this
    omega
  · have h1 := Bt.rval_div s (8 * p) 1 7
    rw [h8] at h1
    have h2 := Bt.rval_mod s (8 * p + 1) 2 5
    rw [← h1] at h2
    omega

/-- One block, and where it ends. -/
theorem block_at (s : ByteArray) (pre x post : List Nat) (lb : Nat) (hs : s = strOf (pre ++ blk lb x ++ post)) (hb : lb < 2) (hl : x.length ≤ 65535) (hsm : ∀ y ∈ pre ++ blk lb x ++ post, y < 256) :
    8 * pre.length + 3 ≤ 8 * s.size ∧ Bt.rval s (8 * pre.length) 1 = lb ∧ Bt.rval s (8 * pre.length + 1) 2 = 0 ∧ pre.length + 5 + x.length ≤ s.size ∧
      Bt.byteN s (pre.length + 1) + 256 * Bt.byteN s (pre.length + 1 + 1) = x.length ∧ Bt.byteN s (pre.length + 1 + 2) + 256 * Bt.byteN s (pre.length + 1 + 3) = 65535 - x.length ∧
      ((List.range x.length).map fun i => Bt.byteN s (pre.length + 1 + 4 + i)) = x := by
  have hsz : s.size = pre.length + (5 + x.length) + post.length := by rw [hs, size_strOf, List.length_append, List.length_append, length_blk]
  have hbyte : ∀ i, i < 5 + x.length → Bt.byteN s (pre.length + i) = (blk lb x).getD i 0 := by
    intro i hi
    rw [hs, byteN_strOf _ hsm, List.getD_eq_getElem?_getD, List.getD_eq_getElem?_getD, List.getElem?_append_left (by rw [List.length_append, length_blk]; omega), List.getElem?_append_right (by omega), Nat.add_sub_cancel_left]
  have b0 := hbyte 0 (by omega)
  have b1 := hbyte 1 (by omega)
  have b2 := hbyte 2 (by omega)
  have b3 := hbyte 3 (by omega)
  have b4 := hbyte 4 (by omega)
  simp only [blk, List.cons_append, List.nil_append, List.getD_cons_zero, List.getD_cons_succ] at b0 b1 b2 b3 b4
  obtain ⟨c1, c2⟩ := bits_head s (pre.length + 0) lb b0 hb
  refine ⟨by omega, c1, c2, by omega, ?_, ?_, ?_⟩
  · rw [b1, show pre.length + 1 + 1 = pre.length + 2 by omega, b2]; omega
  · rw [show pre.length + 1 + 2 = pre.length + 3 by omega, b3, show pre.length + 1 + 3 = pre.length + 4 by omega, b4]; omega
  · apply List.ext_getElem
    · simp
    · intro i h1 h2
      simp only [List.getElem_map, List.getElem_range]
      rw [show pre.length + 1 + 4 + i = pre.length + (5 + i) by omega, hbyte (5 + i) (by omega)]
      unfold blk
      rw [List.getD_eq_getElem?_getD, List.getElem?_append_right (by simp), show 5 + i - [lb, x.length % 256, x.length / 256, 255 - x.length % 256, 255 - x.length / 256].length = i by simp, List.getElem?_eq_getElem h2]
      rfl

theorem stream_from (T : Nat → List Nat) (m : Nat) (h : Small T m) : ∀ d k, k + (d + 1) = m → Stream (strOf (laidTo T m m)) (8 * (laidTo T m k).length) ((List.range (d + 1)).flatMap fun j => T (k + j)) (8 * (laidTo T m m).length)
  | 0, k, hk => by
    have hkm : k + 1 = m := by omega
    have hall := (laid_small T m h m (Nat.le_refl _)).1
    have e : laidTo T m m = laidTo T m k ++ blk 1 (T k) ++ [] := by
      have := laidTo_succ T m k
      rw [hkm] at this
      rw [this, List.append_nil, show lastOf m k = 1 from if_pos hkm]
    obtain ⟨h1, h2, h3, h4, h5, h6, h7⟩ := block_at (strOf (laidTo T m m)) (laidTo T m k) (T k) [] 1 (by rw [← e]) (by omega) (h k (by omega)).1 (by rw [← e]; exact hall)
    have hp : (8 * (laidTo T m k).length + 10) / 8 = (laidTo T m k).length + 1 := by omega
    have hL := Stream.last (s := strOf (laidTo T m m)) (8 * (laidTo T m k).length) (T k).length h1 h2 h3 (by rw [hp]; omega) (by rw [hp]; exact h5) (by rw [hp]; exact h6)
    rw [hp, h7] at hL
    have e2 : 8 * ((laidTo T m k).length + 1 + 4 + (T k).length) = 8 * (laidTo T m m).length := by rw [e, List.append_nil, List.length_append, length_blk]; omega
    rw [e2] at hL
    simpa using hL
  | d + 1, k, hk => by
    have hall := (laid_small T m h m (Nat.le_refl _)).1
    obtain ⟨post, hpost⟩ := laid_tail T m (k + 1) (d + 1)
    have e : laidTo T m m = laidTo T m k ++ blk 0 (T k) ++ post := by
      rw [show m = k + 1 + (d + 1) by omega] at hpost ⊢
      rw [hpost, laidTo_succ, show lastOf (k + 1 + (d + 1)) k = 0 from if_neg (by omega)]
    obtain ⟨h1, h2, h3, h4, h5, h6, h7⟩ := block_at (strOf (laidTo T m m)) (laidTo T m k) (T k) post 0 (by rw [← e]) (by omega) (h k (by omega)).1 (by rw [← e]; exact hall)
    have hp : (8 * (laidTo T m k).length + 10) / 8 = (laidTo T m k).length + 1 := by omega
    have hr := stream_from T m h d (k + 1) (by omega)
    have e2 : 8 * ((laidTo T m k).length + 1 + 4 + (T k).length) = 8 * (laidTo T m (k + 1)).length := by rw [laidTo_succ, List.length_append, length_blk]; omega
    have hL := Stream.more (s := strOf (laidTo T m m)) (8 * (laidTo T m k).length) (T k).length _ _ h1 h2 h3 (by rw [hp]; omega) (by rw [hp]; exact h5) (by rw [hp]; exact h6) (by rw [hp, e2]; exact hr)
    rw [hp, h7] at hL
    rw [List.range_succ_eq_map, List.flatMap_cons, List.flatMap_map]
    have e3 : ((List.range (d + 1)).flatMap fun j => T (k + 1 + j)) = (List.range (d + 1)).flatMap fun a => T (k + Nat.succ a) := by
      congr 1
      funext j
      rw [show k + 1 + j = k + Nat.succ j by omega]
    rw [← e3]
    exact hL

theorem stream_all (T : Nat → List Nat) (m : Nat) (h : Small T m) (hm : 0 < m) : Stream (strOf (laidTo T m m)) 0 (wantTo T m) (8 * (laidTo T m m).length) := by
  obtain ⟨d, rfl⟩ : ∃ d, m = d + 1 := ⟨m - 1, by omega⟩
  have := stream_from T (d + 1) h d 0 (by omega)
  simpa [laidTo, wantTo] using this
end Go.Proofs.Ytokelpnmeknncab
