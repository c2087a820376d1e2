/-
  Plain mathematics of float64 by its bits: what the laws without the document's answers ask.
-/
import Derived.Test.YtnaiamhcflkcoaaRRef2
namespace Go.Proofs.Ytnaiamhcflkcoaa
open Ieee
set_option linter.unusedVariables false

theorem sg_wd (s : Bool) (r : Nat) (h : r < 9223372036854775808) : sg (wd s r) = s := by
  unfold sg wd; cases s <;> simp <;> omega
theorem rs_wd (s : Bool) (r : Nat) (h : r < 9223372036854775808) : rs (wd s r) = r := by
  unfold rs wd; cases s <;> simp <;> omega
theorem nan_wd (s : Bool) (r : Nat) (h : r < 9223372036854775808) : nanX (wd s r) = decide (9218868437227405312 < r) := by
  unfold nanX; rw [rs_wd s r h]
theorem nan_NONE : nanX NONE = true := by decide +kernel
theorem nan_no {x : Int} (h : rs x ≤ 9218868437227405312) : nanX x = false := by unfold nanX; exact decide_eq_false (by omega)
theorem nan_yes {x : Int} (h : 9218868437227405312 < rs x) : nanX x = true := by unfold nanX; exact decide_eq_true h

theorem half_wd (s : Bool) (r : Nat) (h : r ≤ 9218868437227405312) : halfX (wd s r) = wd s (haR r) := by
  unfold halfX; rw [nan_wd s r (by omega), sg_wd s r (by omega), rs_wd s r (by omega), decide_eq_false (by omega)]; rfl
theorem twice_wd (s : Bool) (r : Nat) (h : r ≤ 9218868437227405312) : twiceX (wd s r) = wd s (twR r) := by
  unfold twiceX; rw [nan_wd s r (by omega), sg_wd s r (by omega), rs_wd s r (by omega), decide_eq_false (by omega)]; rfl
theorem flip_wd (s : Bool) (r : Nat) (h : r ≤ 9218868437227405312) : flipX (wd s r) = wd (!s) r := by
  unfold flipX; rw [nan_wd s r (by omega), sg_wd s r (by omega), rs_wd s r (by omega), decide_eq_false (by omega)]; rfl

/-- Every word is one of its sign and its bits. -/
theorem as_wd {x : Int} (h1 : -9223372036854775808 ≤ x) (h2 : x ≤ 9223372036854775807) : ∃ s r, x = wd s r ∧ r < 9223372036854775808 ∧ s = sg x ∧ r = rs x :=
  ⟨sg x, rs x, (wd_self h1 h2).symm, rs_lt h1 h2, rfl, rfl⟩

theorem flip_flip {x : Int} (h1 : -9223372036854775808 ≤ x) (h2 : x ≤ 9223372036854775807) (h : rs x ≤ 9218868437227405312) : flipX (flipX x) = x := by
  obtain ⟨s, r, e, hr, hs, hrs⟩ := as_wd h1 h2
  rw [← hrs] at h
  rw [e, flip_wd _ _ h, flip_wd _ _ h, Bool.not_not]

theorem ha_tw (r : Nat) (h : r < 9214364837600034816) : haR (twR r) = r := by
  unfold twR
  rw [if_neg (by omega)]
  by_cases hb : r < 4503599627370496
  · rw [if_pos hb]; unfold haR; rw [if_neg (by omega), if_neg (by omega), if_neg (by omega)]; omega
  · rw [if_neg hb, Nat.min_eq_left (by omega)]; unfold haR; rw [if_neg (by omega), if_pos (by omega)]; omega
theorem tw_ha (r : Nat) (h : 9007199254740992 ≤ r) (h2 : r < 9218868437227405312) : twR (haR r) = r := by
  unfold haR
  rw [if_neg (by omega), if_pos h]; unfold twR; rw [if_neg (by omega), if_neg (by omega)]; omega

theorem half_twice {x : Int} (h1 : -9223372036854775808 ≤ x) (h2 : x ≤ 9223372036854775807) (h : rs x < 9214364837600034816) : halfX (twiceX x) = x := by
  obtain ⟨s, r, e, hr, hs, hrs⟩ := as_wd h1 h2
  rw [← hrs] at h
  rw [e, twice_wd _ _ (by omega), half_wd _ _ (twR_le _ (by omega)), ha_tw r h]
theorem twice_half {x : Int} (h1 : -9223372036854775808 ≤ x) (h2 : x ≤ 9223372036854775807) (h : 9007199254740992 ≤ rs x) (h' : rs x < 9218868437227405312) : twiceX (halfX x) = x := by
  obtain ⟨s, r, e, hr, hs, hrs⟩ := as_wd h1 h2
  rw [← hrs] at h h'
  rw [e, half_wd _ _ (by omega), twice_wd _ _ (haR_le _ (by omega)), tw_ha r h h']

theorem of_some (a : Nat) (h0 : 0 < a) (h : a < 9007199254740992) : ∃ j, j ≤ 52 ∧ 4503599627370496 ≤ a * 2 ^ j ∧ a * 2 ^ j < 9007199254740992 ∧ ofR a = (1074 - j) * 4503599627370496 + a * 2 ^ j := by
  obtain ⟨l1, l2, l3⟩ := of_log a h0 h
  exact ⟨52 - a.log2, by omega, l2, l3, of_char a _ (by omega) l2 l3⟩

theorem wh_of (a : Nat) (h : a ≤ 9007199254740992) : whR (ofR a) = a := by
  by_cases h0 : a = 0
  · subst h0; decide +kernel
  by_cases ht : a = 9007199254740992
  · subst ht; unfold ofR whR; rfl
  obtain ⟨j, hj, l1, l2, e⟩ := of_some a (by omega) (by omega)
  rw [e]
  have hm : a * 2 ^ j / 2 ^ j = a := Nat.mul_div_cancel _ (Nat.two_pow_pos j)
  generalize a * 2 ^ j = m at *
  unfold whR
  rw [if_neg (by omega), if_neg (by omega), show 4503599627370496 + ((1074 - j) * 4503599627370496 + m) % 4503599627370496 = m by omega, show 1075 - ((1074 - j) * 4503599627370496 + m) / 4503599627370496 = j by omega]
  exact hm

theorem of_clamp {n : Int} (h1 : -9007199254740992 ≤ n) (h2 : n ≤ 9007199254740992) : ofX n = wd (sg n) (ofR n.natAbs) := by
  unfold ofX; rw [clamp_mid h1 h2]

theorem whole_of {n : Int} (h1 : -9007199254740992 ≤ n) (h2 : n ≤ 9007199254740992) : wholeX (ofX n) = n := by
  have hl := of_lt n.natAbs (by omega)
  rw [of_clamp h1 h2]
  unfold wholeX
  rw [nan_wd _ _ (by omega), sg_wd _ _ (by omega), rs_wd _ _ (by omega), decide_eq_false (by omega), wh_of _ (by omega)]
  unfold sg
  by_cases h : n < 0 <;> simp [h] <;> omega

theorem of_inj (a b : Nat) (ha : a ≤ 9007199254740992) (hb : b ≤ 9007199254740992) : ofR a < ofR b ↔ a < b := by
  constructor
  · intro h
    rcases Nat.lt_or_ge a b with h' | h'
    · exact h'
    · exfalso
      have := wh_mono (Nat.le_of_lt h)
      rw [wh_of a ha, wh_of b hb] at this
      rw [show a = b by omega] at h; omega
  · intro h
    rcases Nat.lt_or_ge (ofR a) (ofR b) with h' | h'
    · exact h'
    · have := wh_mono h'
      rw [wh_of a ha, wh_of b hb] at this; omega

theorem below_wd (s t : Bool) (r q : Nat) (hr : r ≤ 9218868437227405312) (hq : q ≤ 9218868437227405312) : belowX (wd s r) (wd t q) = decide (plac s r < plac t q) := by
  unfold belowX blw
  rw [sg_wd s r (by omega), sg_wd t q (by omega), rs_wd s r (by omega), rs_wd t q (by omega), decide_eq_true hr, decide_eq_true hq]; rfl

theorem below_of {n m : Int} (h1 : -9007199254740992 ≤ n) (h2 : n ≤ 9007199254740992) (h3 : -9007199254740992 ≤ m) (h4 : m ≤ 9007199254740992) : belowX (ofX n) (ofX m) = decide (n < m) := by
  have l1 := of_lt n.natAbs (by omega)
  have l2 := of_lt m.natAbs (by omega)
  have i1 := of_inj n.natAbs m.natAbs (by omega) (by omega)
  have i2 := of_inj m.natAbs n.natAbs (by omega) (by omega)
  have z : ofR 0 = 0 := rfl
  have i3 := of_inj 0 n.natAbs (by omega) (by omega)
  have i4 := of_inj 0 m.natAbs (by omega) (by omega)
  rw [z] at i3 i4
  rw [of_clamp h1 h2, of_clamp h3 h4, below_wd _ _ _ _ (by omega) (by omega)]
  unfold plac sg
  generalize ofR n.natAbs = a at *
  generalize ofR m.natAbs = b at *
  congr 1
  apply propext
  by_cases c1 : n < 0 <;> by_cases c2 : m < 0 <;> simp [c1, c2] <;> omega

theorem below_irr (x : Int) : belowX x x = false := by
  unfold belowX blw; simp
theorem below_trans {x y z : Int} (h1 : belowX x y = true) (h2 : belowX y z = true) : belowX x z = true := by
  unfold belowX blw at *
  simp only [Bool.and_eq_true, decide_eq_true_eq] at *
  omega
theorem below_asym {x y : Int} (h1 : belowX x y = true) : belowX y x = false := by
  unfold belowX blw at *
  simp only [Bool.and_eq_true, decide_eq_true_eq] at h1
  rw [decide_eq_false (show ¬ plac (sg y) (rs y) < plac (sg x) (rs x) by omega)]; simp
theorem below_nan_l {x : Int} (y : Int) (h : nanX x = true) : belowX x y = false := by
  rw [below_eq, h]; rfl
theorem below_nan_r {y : Int} (x : Int) (h : nanX y = true) : belowX x y = false := by
  rw [below_eq, h]; simp
theorem below_flip {x y : Int} (h1 : -9223372036854775808 ≤ x) (h2 : x ≤ 9223372036854775807) (h3 : -9223372036854775808 ≤ y) (h4 : y ≤ 9223372036854775807) : belowX (flipX y) (flipX x) = belowX x y := by
  cases hx : nanX x
  · cases hy : nanX y
    · obtain ⟨s, r, e, hr, hs, hrs⟩ := as_wd h1 h2
      obtain ⟨t, q, e', hq, ht, hqs⟩ := as_wd h3 h4
      have lx : r ≤ 9218868437227405312 := by unfold nanX at hx; rw [← hrs] at hx; simpa using hx
      have ly : q ≤ 9218868437227405312 := by unfold nanX at hy; rw [← hqs] at hy; simpa using hy
      rw [e, e', flip_wd _ _ lx, flip_wd _ _ ly, below_wd _ _ _ _ ly lx, below_wd _ _ _ _ lx ly]
      congr 1
      apply propext
      unfold plac
      cases s <;> cases t <;> simp <;> omega
    · rw [below_nan_r x hy, below_nan_l]
      unfold flipX; rw [hy]; exact nan_NONE
  · rw [below_nan_l y hx, below_nan_r]
    unfold flipX; rw [hx]; exact nan_NONE

theorem tw_of (a : Nat) (h : a ≤ 4503599627370496) : twR (ofR a) = ofR (2 * a) := by
  by_cases h0 : a = 0
  · subst h0; rfl
  by_cases ht : a = 4503599627370496
  · subst ht; decide +kernel
  obtain ⟨j, hj, l1, l2, e⟩ := of_some a (by omega) (by omega)
  have hj1 : 1 ≤ j := by
    rcases Nat.eq_zero_or_pos j with hz | hz
    · subst hz; omega
    · exact hz
  have hp : 2 * a * 2 ^ (j - 1) = a * 2 ^ j := by
    conv => rhs; rw [show j = (j - 1) + 1 by omega, Nat.pow_succ]
    rw [Nat.mul_comm 2 a, Nat.mul_assoc, Nat.mul_comm 2]
  have e2 := of_char (2 * a) (j - 1) (by omega) (by rw [hp]; exact l1) (by rw [hp]; exact l2)
  rw [e, e2, hp]
  generalize a * 2 ^ j = m at *
  unfold twR
  rw [if_neg (by omega), if_neg (by omega)]
  omega

theorem twice_of {n : Int} (h1 : -4503599627370496 ≤ n) (h2 : n ≤ 4503599627370496) : twiceX (ofX n) = ofX (2 * n) := by
  have hl := of_lt n.natAbs (by omega)
  rw [of_clamp (by omega) (by omega), of_clamp (by omega) (by omega), twice_wd _ _ (by omega), tw_of _ (by omega)]
  rw [show (2 * n).natAbs = 2 * n.natAbs by omega, show sg (2 * n) = sg n by unfold sg; congr 1; apply propext; omega]
theorem half_of {n : Int} (h1 : -4503599627370496 ≤ n) (h2 : n ≤ 4503599627370496) (m : Int) (he : n = 2 * m) : halfX (ofX n) = ofX m := by
  have hl := of_lt m.natAbs (by omega)
  have ht := twice_of (n := m) (by omega) (by omega)
  rw [he, ← ht]
  obtain ⟨b1, b2⟩ := of_bd m
  apply half_twice b1 b2
  rw [of_clamp (by omega) (by omega), rs_wd _ _ (by omega)]
  omega
theorem flip_of {n : Int} (h1 : -4503599627370496 ≤ n) (h2 : n ≤ 4503599627370496) (h0 : ¬ n = 0) : flipX (ofX n) = ofX (-n) := by
  have hl := of_lt n.natAbs (by omega)
  rw [of_clamp (by omega) (by omega), of_clamp (by omega) (by omega), flip_wd _ _ (by omega)]
  rw [show (-n).natAbs = n.natAbs by omega, show sg (-n) = !sg n by unfold sg; rw [Bool.eq_iff_iff]; simp; omega]

theorem step_below {x : Int} (h1 : 0 ≤ x) (h2 : x < 9218868437227405312) : belowX x (x + 1) = true := by
  have e1 : x = wd false x.toNat := by unfold wd; simp; omega
  have e2 : x + 1 = wd false (x + 1).toNat := by unfold wd; simp; omega
  rw [e2]
  conv => lhs; arg 1; rw [e1]
  rw [below_wd _ _ _ _ (by omega) (by omega)]
  unfold plac
  simp; omega
theorem step_whole {x : Int} (h1 : 0 ≤ x) (h2 : x < 9218868437227405312) : wholeX x ≤ wholeX (x + 1) ∧ 0 ≤ wholeX x := by
  have e1 : rs x = x.toNat := by unfold rs; rw [if_neg (by omega)]
  have e2 : rs (x + 1) = (x + 1).toNat := by unfold rs; rw [if_neg (by omega)]
  have s1 : sg x = false := decide_eq_false (by omega)
  have s2 : sg (x + 1) = false := decide_eq_false (by omega)
  rw [whole_eq x (nan_no (by omega)), whole_eq (x + 1) (nan_no (by omega)), s1, s2, e1, e2]
  have := wh_mono (show x.toNat ≤ (x + 1).toNat by omega)
  simp only [Bool.false_eq_true, if_false]
  omega

theorem half_inf {x : Int} (h1 : -9223372036854775808 ≤ x) (h2 : x ≤ 9223372036854775807) (h : rs x = 9218868437227405312) : halfX x = x ∧ twiceX x = x ∧ flipX (flipX x) = x := by
  refine ⟨?_, ?_, flip_flip h1 h2 (by omega)⟩
  · unfold halfX; rw [nan_no (by omega)]
    simp only [Bool.false_eq_true, if_false]
    unfold haR; rw [if_pos h]; exact wd_self h1 h2
  · unfold twiceX; rw [nan_no (by omega)]
    simp only [Bool.false_eq_true, if_false]
    unfold twR; rw [if_pos h]; exact wd_self h1 h2
theorem nan_all {x : Int} (h : 9218868437227405312 < rs x) : halfX x = NONE ∧ twiceX x = NONE ∧ flipX x = NONE ∧ wholeX x = 0 := by
  have := nan_yes h
  unfold halfX twiceX flipX wholeX
  simp [this]
end Go.Proofs.Ytnaiamhcflkcoaa
