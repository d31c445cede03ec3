/- A parser of patterns, plain: a byte behind a stroke; no condition. -/
import Derived.Test.YtdhhcefmmojcmaaGreatDoorM42
namespace Go.Proofs.YtdhhcefmmojcmaaGreatDoor
open Go.RowKit

/-- Signs that are themselves behind a stroke. -/
def symB (b : Nat) : Bool := decide (32 < b) && (decide (b < 127) && !(decide (97 ≤ b) && decide (b ≤ 122) || decide (65 ≤ b) && decide (b ≤ 90)) && !(decide (48 ≤ b) && decide (b ≤ 57)))
/-- Letters that are something else behind a stroke. -/
def knownB (b : Nat) : Bool := ([65, 66, 68, 83, 87, 98, 100, 102, 110, 114, 115, 116, 118, 119, 122] : List Nat).any fun x => x == b
def escT (b : Nat) : ByteArray := ⟨#[92, UInt8.ofNat b]⟩
theorem esc_txt (b : Nat) : escT b = bytesI [92, (b : Nat)] := by
  unfold escT bytesI
  simp
theorem cn_one {c : Int} (h : 0 ≤ c ∧ c ≤ 1114111) : cnR [(c, c)] = [(c, c)] := by
  symm
  refine cn_of (⟨fun r hr => by simp at hr; subst hr; exact ⟨h.1, Int.le_refl _, h.2⟩, List.pairwise_singleton _ _⟩) (fun x => ?_)
  simp only [In, List.mem_singleton, exists_eq_left]
  omega
/-- A pattern of one piece. -/
theorem one_pat {R : List Int} {f f' : Fl} {x : Nd} {ns : List ByteArray} (h0 : endR (lkR R 0) = false) (hp : pieceF R tableN (some (altN R tableN 31)) ⟨0, f, [⟨#[]⟩]⟩ = .ok (some x, ⟨R.length, f', ns⟩)) : patF R tableN f = .ok (x, ns) := by
  have hl : lkR R R.length = -1 := lk_out (Nat.le_refl _)
  have hr : rowF R tableN (some (altN R tableN 31)) (R.length + 1) ⟨0, f, [⟨#[]⟩]⟩ [] = .ok ([x], ⟨R.length, f', ns⟩) := by
    match hn : R.length with
    | 0 =>
      have : lkR R 0 = -1 := lk_out (by omega)
      rw [this] at h0
      cases h0
    | n + 1 =>
      rw [hn] at hl hp
      rw [rowF, if_neg (by rw [h0]; decide), hp]
      show rowF R tableN (some (altN R tableN 31)) (n + 1) ⟨n + 1, f', ns⟩ [x] = _
      rw [rowF, if_pos (by simp only; rw [hl]; rfl)]
  show (match altB R tableN (some (altN R tableN 31)) ⟨0, f, [⟨#[]⟩]⟩ with
    | .error e => (.error e : PR (Nd × List ByteArray))
    | .ok (x, s1) => if lkR R s1.k = -1 then .ok (x, s1.ns) else .error (25, s1.k)) = _
  unfold altB catF
  rw [hr]
  show (match altsF R tableN (some (altN R tableN 31)) (R.length + 1) ⟨R.length, f', ns⟩ [x] with
    | .error e => (.error e : PR (Nd × List ByteArray))
    | .ok (x, s1) => if lkR R s1.k = -1 then .ok (x, s1.ns) else .error (25, s1.k)) = _
  rw [altsF, if_neg (by simp only; rw [hl]; decide)]
  simp only [togeF]
  rw [if_pos hl]
theorem one_bad {R : List Int} {f : Fl} {e : Nat × Nat} (h0 : endR (lkR R 0) = false) (hp : pieceF R tableN (some (altN R tableN 31)) ⟨0, f, [⟨#[]⟩]⟩ = .error e) : patF R tableN f = .error e := by
  have hr : rowF R tableN (some (altN R tableN 31)) (R.length + 1) ⟨0, f, [⟨#[]⟩]⟩ [] = .error e := by
    rw [rowF, if_neg (by rw [h0]; decide), hp]
  show (match altB R tableN (some (altN R tableN 31)) ⟨0, f, [⟨#[]⟩]⟩ with
    | .error e => (.error e : PR (Nd × List ByteArray))
    | .ok (x, s1) => if lkR R s1.k = -1 then .ok (x, s1.ns) else .error (25, s1.k)) = _
  unfold altB catF
  rw [hr]
/-- A sign behind a stroke is a class of itself. -/
theorem sym_pat (b : Nat) (h : symB b = true) : patF [92, (b : Nat)] tableN fl0 = .ok (.cls fl0 (cnR [((b : Int), (b : Int))]), [⟨#[]⟩]) := by
  unfold symB at h
  simp only [Bool.and_eq_true, Bool.not_eq_true', Bool.or_eq_false_iff, Bool.and_eq_false_iff, decide_eq_true_eq, decide_eq_false_iff_not] at h
  have e : escF [92, (b : Nat)] tableN 0 1 = .ok ([((b : Int), (b : Int))], some (b : Int), 2) := by
    show escC _ _ 0 1 (b : Int) = _
    have ha : isAln (b : Int) = false := by
      unfold isAln isDig isLet
      simp only [Bool.or_eq_false_iff, Bool.and_eq_false_iff, decide_eq_false_iff_not]
      omega
    unfold escC
    repeat rw [if_neg (by omega)]
    rw [if_neg (by rw [ha]; simp; omega)]
  have s : strokeF [92, (b : Nat)] tableN ⟨0, fl0, [⟨#[]⟩]⟩ = .ok (some (.cls fl0 (cnR [((b : Int), (b : Int))])), ⟨2, fl0, [⟨#[]⟩]⟩) := by
    show strokeC _ _ ⟨0, fl0, [⟨#[]⟩]⟩ (b : Int) = _
    unfold strokeC
    repeat rw [if_neg (by omega)]
    simp only [Nat.zero_add]
    rw [e]
  have a : ∀ sub, atomF [92, (b : Nat)] tableN sub ⟨0, fl0, [⟨#[]⟩]⟩ = .ok (some (.cls fl0 (cnR [((b : Int), (b : Int))])), ⟨2, fl0, [⟨#[]⟩]⟩) := fun sub => s
  have p : ∀ sub, pieceF [92, (b : Nat)] tableN sub ⟨0, fl0, [⟨#[]⟩]⟩ = .ok (some (.cls fl0 (cnR [((b : Int), (b : Int))])), ⟨2, fl0, [⟨#[]⟩]⟩) := fun sub => by
    unfold pieceF
    rw [show boundF [92, (b : Nat)] 0 = none from rfl, a sub]
    rfl
  exact one_pat (R := [92, (b : Int)]) (by rfl) (p _)
/-- Is what is told behind a stroke as it should be? -/
def escOk (b : Nat) : Bool := match patF [92, (b : Nat)] tableN fl0 with
  | .ok _ => knownB b
  | .error (c, _) => !knownB b && decide (c ≠ 0)
theorem esc_each : ∀ b < 128, (symB b || escOk b) = true := by decide +kernel
/-- What Parse tells of a stroke and a byte. -/
theorem esc_prs (b : Nat) (hb : b < 256) : (symB b = true ∧ prsR (escT b) fl0 = .ok (.cls fl0 [((b : Int), (b : Int))], [⟨#[]⟩])) ∨
    (symB b = false ∧ knownB b = true ∧ ∃ x ns, prsR (escT b) fl0 = .ok (x, ns)) ∨ (symB b = false ∧ knownB b = false ∧ ∃ c i, c ≠ 0 ∧ prsR (escT b) fl0 = .error (c, i)) := by
  rcases Nat.lt_or_ge b 128 with h | h
  · have ha : ([92, (b : Nat)] : List Int).all isAsc = true := by
      simp [isAsc]
      omega
    obtain ⟨h1, h2⟩ := asc_lays [92, (b : Nat)] ha
    rw [esc_txt b, prs_asc fl0 ha h1 h2 (by simp)]
    cases hs : symB b with
    | true =>
      left
      rw [sym_pat b hs]
      have : (0 : Int) ≤ b ∧ (b : Int) ≤ 1114111 := by omega
      rw [cn_one this]
      exact ⟨rfl, rfl⟩
    | false =>
      right
      have := esc_each b h
      rw [hs, Bool.false_or] at this
      unfold escOk at this
      split at this
      · rename_i r e
        rw [e]
        exact .inl ⟨rfl, this, r.1, r.2, rfl⟩
      · rename_i c j e
        rw [e]
        simp only [Bool.and_eq_true, Bool.not_eq_true', decide_eq_true_eq] at this
        exact .inr ⟨rfl, this.1, _, _, by omega, rfl⟩
  · right
    right
    refine ⟨by unfold symB; simp; omega, by unfold knownB; simp; omega, 17, 1, by decide, ?_⟩
    have hsz : (escT b).size = 2 := rfl
    have h0 : Lays (escT b) 0 [92] := fun j hj => by
      obtain rfl : j = 0 := by simpa using hj
      exact ⟨by rw [hsz]; omega, rfl⟩
    have h1 : byN (escT b) 1 = b := by
      show (UInt8.ofNat b).toNat = b
      rw [UInt8.toNat_ofNat']
      omega
    have hbg : bg (escT b) 1 = (1, 0) := by
      have : begB (escT b) (mk 1) = false := by
        unfold begB
        rw [hsz]
        rfl
      unfold bg
      rw [if_neg (by decide), this]
      rfl
    have hbad : (tkAt (escT b) 1 1).1 = -1 := by
      refine Decidable.byContradiction fun hne => ?_
      obtain ⟨ok, hL, hS⟩ := tkAt_bwd 1 (.inl rfl) (escT b) 1 (by rw [hsz]; decide) hne
      have hx := (okc_in ok).1
      rw [enc1] at hL
      unfold en8 at hL
      split at hL
      · have := hL 0 (by simp)
        simp only [Nat.add_zero, h1, List.getElem_cons_zero] at this
        omega
      · have := (hL 1 (by split <;> (try split) <;> simp)).1
        omega
    unfold prsR
    rw [if_neg (by rw [hsz]; decide), hbg, hsz, dc_step (by rw [hsz]; decide), tkAt_asc (l := []) (by decide) h0, if_neg (by decide), dc_step (by rw [hsz]; decide), if_pos (show (tkAt (escT b) 1 ((1, 0).snd + (92, 1).snd)).fst = -1 from hbad), if_pos rfl]
    rfl
end Go.Proofs.YtdhhcefmmojcmaaGreatDoor
