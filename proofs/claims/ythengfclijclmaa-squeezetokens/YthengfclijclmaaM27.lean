/- Texts of this proof, one behind the other: what each says stands ahead of it. -/
import Derived.Test.YthengfclijclmaaM25
/- Both ways of looking for what comes again find the same; conditions: those told. -/
namespace Go.Proofs.Ythengfclijclmaa
open Go.RowKit
open Go.Lib

/-- What the document looks for: each distance, one behind the other. -/
def bstGo (d : ByteArray) (p most lim : Nat) : Nat → Nat → Nat → Nat → Nat × Nat
  | 0, _, len, dist => (len, dist)
  | h + 1, e, len, dist =>
    if e ≤ lim then
      if len < eqN d (p - e) p most 0 then bstGo d p most lim h (e + 1) (eqN d (p - e) p most 0) e
      else bstGo d p most lim h (e + 1) len dist
    else (len, dist)
theorem eqN_most (d : ByteArray) (p q : Nat) : ∀ (g n : Nat), n ≤ eqN d p q g n ∧ eqN d p q g n ≤ n + g
  | 0, n => ⟨Nat.le_refl _, Nat.le_refl _⟩
  | g + 1, n => by
    have := eqN_most d p q g (n + 1)
    unfold eqN
    split <;> omega
theorem eqN_byte (d : ByteArray) (p q : Nat) : ∀ (g n i : Nat), n ≤ i → i < eqN d p q g n → Bt.byteN d (p + i) = Bt.byteN d (q + i)
  | 0, n, i, h1, h2 => by unfold eqN at h2; omega
  | g + 1, n, i, h1, h2 => by
    unfold eqN at h2
    split at h2
    · rename_i he
      rcases Nat.eq_or_lt_of_le h1 with e | e
      · rw [← e]; exact he
      · exact eqN_byte d p q g (n + 1) i e h2
    · omega
theorem bstGo_full (d : ByteArray) (p most lim : Nat) : ∀ (h e len dist : Nat), most ≤ len → bstGo d p most lim h e len dist = (len, dist)
  | 0, _, _, _, _ => rfl
  | h + 1, e, len, dist, hm => by
    unfold bstGo
    have := eqN_most d (p - e) p most 0
    rw [if_neg (show ¬ len < eqN d (p - e) p most 0 by omega), bstGo_full d p most lim h (e + 1) len dist hm]
    split <;> rfl
theorem lastP_lt (d : ByteArray) (f L key : Nat) : lastP d f L key < L := (lastP_in d f L key).2
/-- Both ways of looking find the same. -/
theorem fnd_brute (d : ByteArray) (f p most R lim : Nat) (hlim : lim = min R p) (hf : f + R ≤ p ∨ f = 0) : ∀ (L : Nat), L ≤ p → ∀ (g h len dist : Nat), L + 1 ≤ g → lim + 1 ≤ h + (p - L + 1) → 2 ≤ len →
    fndGo d f p most R g (lastP d f L (k3 d p)) len dist = bstGo d p most lim h (p - L + 1) len dist := by
  intro L
  induction L with
  | zero =>
    intro _ g h len dist hg hh _
    obtain ⟨g', rfl⟩ : ∃ g', g = g' + 1 := ⟨g - 1, by omega⟩
    have e1 : fndGo d f p most R (g' + 1) (lastP d f 0 (k3 d p)) len dist = (len, dist) := by
      unfold fndGo
      rw [if_neg (by unfold lastP; omega)]
    rw [e1]
    cases h with
    | zero => rfl
    | succ h =>
      unfold bstGo
      rw [if_neg (by omega)]
  | succ L ih =>
    intro hLp g h len dist hg hh h2
    have he : p - (L + 1) + 1 = p - L := by omega
    rw [he] at hh ⊢
    by_cases hl : p - L ≤ lim
    · have hfL : f ≤ L := by omega
      obtain ⟨h', rfl⟩ : ∃ h', h = h' + 1 := ⟨h - 1, by omega⟩
      have hpe : p - (p - L) = L := by omega
      have hb : bstGo d p most lim (h' + 1) (p - L) len dist = if len < eqN d L p most 0 then bstGo d p most lim h' (p - L + 1) (eqN d L p most 0) (p - L) else bstGo d p most lim h' (p - L + 1) len dist := by
        rw [bstGo, if_pos hl, hpe]
      rw [hb]
      by_cases hk : k3 d L = k3 d p
      · have hlast : lastP d f (L + 1) (k3 d p) = (L : Int) := by
          unfold lastP
          rw [if_pos ⟨hfL, hk⟩]
        rw [hlast]
        obtain ⟨g', rfl⟩ : ∃ g', g = g' + 1 := ⟨g - 1, by omega⟩
        by_cases hfull : len < most
        · have hfg : fndGo d f p most R (g' + 1) (L : Int) len dist = if len < smN d L p len most then fndGo d f p most R g' (lastP d f L (k3 d p)) (smN d L p len most) (p - L) else fndGo d f p most R g' (lastP d f L (k3 d p)) len dist := by
            rw [fndGo, if_pos ⟨by omega, by omega, hfull⟩, Int.toNat_natCast, hk]
          rw [hfg]
          by_cases hby : Bt.byteN d (L + len) = Bt.byteN d (p + len)
          · have hs : smN d L p len most = eqN d L p most 0 := by unfold smN; rw [if_pos hby]
            rw [hs]
            split
            · exact ih (by omega) g' h' _ _ (by omega) (by omega) (by omega)
            · exact ih (by omega) g' h' _ _ (by omega) (by omega) h2
          · have hs : smN d L p len most = 0 := by unfold smN; rw [if_neg hby]
            have hle : ¬ len < eqN d L p most 0 := fun hlt => hby (eqN_byte d L p most 0 len (Nat.zero_le _) hlt)
            rw [hs, if_neg (by omega), if_neg hle]
            exact ih (by omega) g' h' _ _ (by omega) (by omega) h2
        · have hfg : fndGo d f p most R (g' + 1) (L : Int) len dist = (len, dist) := by
            rw [fndGo, if_neg (by omega)]
          have := eqN_most d L p most 0
          rw [hfg, if_neg (show ¬ len < eqN d L p most 0 by omega), bstGo_full _ _ _ _ _ _ _ _ (by omega)]
      · have hlast : lastP d f (L + 1) (k3 d p) = lastP d f L (k3 d p) := by
          rw [lastP, if_neg (fun h => hk h.2)]
        have hle : ¬ len < eqN d L p most 0 := fun hlt => hk (by
          have b0 := eqN_byte d L p most 0 0 (Nat.zero_le _) (by omega)
          have b1 := eqN_byte d L p most 0 1 (Nat.zero_le _) (by omega)
          have b2 := eqN_byte d L p most 0 2 (Nat.zero_le _) (by omega)
          unfold k3
          rw [Nat.add_zero, Nat.add_zero] at b0
          rw [b0, b1, b2])
        rw [hlast, if_neg hle]
        exact ih (by omega) g h' _ _ (by omega) (by omega) h2
    · have hlt := lastP_lt d f (L + 1) (k3 d p)
      have e1 : fndGo d f p most R g (lastP d f (L + 1) (k3 d p)) len dist = (len, dist) := by
        obtain ⟨g', rfl⟩ : ∃ g', g = g' + 1 := ⟨g - 1, by omega⟩
        rw [fndGo, if_neg (by omega)]
      rw [e1]
      cases h with
      | zero => rfl
      | succ h => rw [bstGo, if_neg hl]
/-- What find answers is what the document finds. -/
theorem fnd_is (d : ByteArray) (f p t R lim : Nat) (hlim : lim = min R p) (hf : f + R ≤ p ∨ f = 0) :
    fnd d f p t R = if (bstGo d p (min 258 (t - p)) lim lim 1 2 0).2 = 0 then (0, 0) else bstGo d p (min 258 (t - p)) lim lim 1 2 0 := by
  unfold fnd
  by_cases hs : min 258 (t - p) < 3 ∨ R = 0
  · rw [if_pos hs]
    have : bstGo d p (min 258 (t - p)) lim lim 1 2 0 = (2, 0) := by
      rcases hs with hs | hs
      · exact bstGo_full _ _ _ _ _ _ _ _ (by omega)
      · have : lim = 0 := by omega
        rw [this]
        rfl
    rw [this, if_pos rfl]
  · have := fnd_brute d f p (min 258 (t - p)) R lim hlim hf p (Nat.le_refl _) (p + 1) lim 2 0 (Nat.le_refl _) (by omega) (Nat.le_refl _)
    rw [Nat.sub_self] at this
    rw [if_neg hs, this]
end Go.Proofs.Ythengfclijclmaa
