/-
  Plain mathematics of float64 by its bits: what half, twice, the opposite, the order, and whole numbers come to, rung by rung.
-/
import Derived.Laws.FloatArith
namespace Go.Proofs.YtedldckijblnhaaDoor
open Ieee
set_option linter.unusedVariables false

theorem d_binade : double.binade = 4503599627370496 := by decide
theorem d_inf : double.infRung = 9218868437227405312 := by decide
theorem d_sign : double.signWeight = 9223372036854775808 := by decide
theorem d_least : double.leastPlace = -1074 := by decide
theorem d_frac : double.fractionBits = 52 := rfl

/-- Of a rung: its magnitude, and its place above the least one. -/
def mag (r : Nat) : Nat := if r < 4503599627370496 then r else 4503599627370496 + r % 4503599627370496
def plc (r : Nat) : Nat := r / 4503599627370496 - 1

theorem rung_split (r : Nat) : r = plc r * 4503599627370496 + mag r := by unfold plc mag; split <;> omega
theorem mag_lt (r : Nat) : mag r < 9007199254740992 := by unfold mag; split <;> omega
theorem mag_ge (r : Nat) : plc r = 0 ∨ 4503599627370496 ≤ mag r := by unfold plc mag; split <;> omega
theorem mag_zero (r : Nat) : mag r = 0 ↔ r = 0 := by unfold mag; split <;> omega

theorem word_eq (s : Bool) (r : Nat) : double.word s r = if s then 9223372036854775808 + r else r := by
  unfold Format.word; rw [d_sign]

theorem word_parts (s : Bool) (r : Nat) (h : r < 9223372036854775808) : (double.word s r / double.signWeight % 2 == 1) = s ∧ double.word s r % double.signWeight = r := by
  rw [word_eq, d_sign]
  cases s <;> simp <;> omega

theorem read_num (s : Bool) (r : Nat) (h : r < 9218868437227405312) : double.read (double.word s r) = .number s (mag r) (-1074 + (plc r : Nat)) := by
  obtain ⟨h1, h2⟩ := word_parts s r (by omega)
  unfold Format.read
  rw [h1, h2, d_binade, d_inf, d_least]
  unfold mag plc
  by_cases hb : r < 4503599627370496
  · simp [hb]; omega
  · simp [hb, h]

theorem read_inf (s : Bool) : double.read (double.word s 9218868437227405312) = .infinity s := by
  obtain ⟨h1, h2⟩ := word_parts s 9218868437227405312 (by omega)
  unfold Format.read
  rw [h1, h2, d_binade, d_inf, d_least]
  simp

theorem read_nan (s : Bool) (r : Nat) (h : 9218868437227405312 < r) (h' : r < 9223372036854775808) : double.read (double.word s r) = .nan s (r - 9218868437227405312) := by
  obtain ⟨h1, h2⟩ := word_parts s r (by omega)
  unfold Format.read
  rw [h1, h2, d_binade, d_inf, d_least]
  rw [if_neg (by omega), if_neg (by omega), if_neg (by omega)]

theorem log2_mul (m k : Nat) (hm : 0 < m) : (m * 2 ^ k).log2 = m.log2 + k := by
  have hp : 0 < 2 ^ k := Nat.two_pow_pos k
  have hne : m * 2 ^ k ≠ 0 := Nat.ne_of_gt (Nat.mul_pos hm hp)
  rw [Nat.log2_eq_iff hne]
  have h1 := (Nat.log2_eq_iff (n := m) (by omega)).1 rfl
  constructor
  · rw [Nat.pow_add]; exact Nat.mul_le_mul_right _ h1.1
  · rw [show m.log2 + k + 1 = (m.log2 + 1) + k by omega, Nat.pow_add]; exact Nat.mul_lt_mul_of_pos_right h1.2 hp

theorem cut_exact (s : Bool) (m k : Nat) (hm : 0 < m) : Toward.even.cut s (m * 2 ^ k) k = m := by
  have hp : 0 < 2 ^ k := Nat.two_pow_pos k
  unfold Toward.cut
  rw [log2_mul m k hm, Nat.min_eq_left (by omega), Nat.one_shiftLeft]
  dsimp only
  rw [Nat.mul_div_cancel _ hp, Nat.mul_mod_left]
  simp

theorem cut_half (s : Bool) (m j : Nat) (hm : 0 < m) : Toward.even.cut s (m * 2 ^ j) (j + 1) = m / 2 + if m % 2 = 1 ∧ m / 2 % 2 = 1 then 1 else 0 := by
  have hp : 0 < 2 ^ j := Nat.two_pow_pos j
  unfold Toward.cut
  rw [log2_mul m j hm, Nat.min_eq_left (by omega), Nat.one_shiftLeft]
  have hg : 2 ^ (j + 1) = 2 * 2 ^ j := by rw [Nat.pow_succ, Nat.mul_comm]
  rw [hg]
  dsimp only
  rw [Nat.mul_div_mul_right _ _ hp, Nat.mul_mod_mul_right]
  rcases Nat.mod_two_eq_zero_or_one m with h | h
  · rw [h]; simp; omega
  · rw [h]
    by_cases h2 : m / 2 % 2 = 1 <;> simp [h2]

theorem cut_zero (s : Bool) (n d : Nat) : Toward.zero.cut s n d = n / 2 ^ d := by
  unfold Toward.cut
  simp [Nat.one_shiftLeft]
  rcases Nat.le_total d (n.log2 + 2) with h | h
  · rw [Nat.min_eq_left h]
  · rw [Nat.min_eq_right h]
    have hl : n < 2 ^ (n.log2 + 2) := by
      have := @Nat.lt_log2_self n
      have h3 : 2 ^ (n.log2 + 1) ≤ 2 ^ (n.log2 + 2) := Nat.pow_le_pow_right (by omega) (by omega)
      omega
    rw [Nat.div_eq_of_lt hl, Nat.div_eq_of_lt (Nat.lt_of_lt_of_le hl (Nat.pow_le_pow_right (by omega) h))]

theorem log2_lo (m : Nat) (hm : 0 < m) (h : m < 4503599627370496) : m.log2 ≤ 51 := by
  have := (Nat.log2_lt (n := m) (k := 52) (by omega)).2 (by simpa using h)
  omega
theorem log2_hi (m : Nat) (h : 4503599627370496 ≤ m) (h2 : m < 9007199254740992) : m.log2 = 52 := by
  rw [Nat.log2_eq_iff (by omega)]; simp; omega

theorem nearest_exact (s : Bool) (m p k : Nat) (hm : 0 < m) (h2 : m < 9007199254740992) (h : p = 0 ∨ 4503599627370496 ≤ m) (place : Int) (hp : place = -1074 + p - k) :
    double.nearest s (m * 2 ^ k) place = double.word s (min (p * 4503599627370496 + m) 9218868437227405312) := by
  have hpos : 0 < 2 ^ k := Nat.two_pow_pos k
  have hne : m * 2 ^ k ≠ 0 := Nat.ne_of_gt (Nat.mul_pos hm hpos)
  have hlast : max (place + ((m.log2 + k : Nat) : Int) - 52) (-1074) = -1074 + p := by
    rcases Nat.lt_or_ge m 4503599627370496 with hb | hb
    · have := log2_lo m hm hb
      omega
    · have := log2_hi m hb h2
      omega
  unfold Format.nearest
  rw [if_neg hne]
  simp only [log2_mul m k hm, d_frac, d_least, d_binade, d_inf]
  rw [show ((52 : Nat) : Int) = 52 from rfl, hlast]
  rw [show (place - (-1074 + (p : Int))).toNat = 0 by omega, show (-1074 + (p : Int) - place).toNat = k by omega, show (-1074 + (p : Int) - -1074).toNat = p by omega]
  rw [Nat.shiftLeft_zero, cut_exact s m k hm]

theorem nearest_half (s : Bool) (m j : Nat) (hm : 0 < m) (h2 : m < 9007199254740992) (place : Int) (hp : place = -1074 - j - 1) :
    double.nearest s (m * 2 ^ j) place = double.word s (m / 2 + if m % 2 = 1 ∧ m / 2 % 2 = 1 then 1 else 0) := by
  have hpos : 0 < 2 ^ j := Nat.two_pow_pos j
  have hne : m * 2 ^ j ≠ 0 := Nat.ne_of_gt (Nat.mul_pos hm hpos)
  have hlast : max (place + ((m.log2 + j : Nat) : Int) - 52) (-1074) = -1074 := by
    rcases Nat.lt_or_ge m 4503599627370496 with hb | hb
    · have := log2_lo m hm hb
      omega
    · have := log2_hi m hb h2
      omega
  unfold Format.nearest
  rw [if_neg hne]
  simp only [log2_mul m j hm, d_frac, d_least, d_binade, d_inf]
  rw [show ((52 : Nat) : Int) = 52 from rfl, hlast]
  rw [show (place - (-1074 : Int)).toNat = 0 by omega, show (-1074 - place).toNat = j + 1 by omega, show ((-1074 : Int) - -1074).toNat = 0 by omega]
  rw [Nat.shiftLeft_zero, cut_half s m j hm, Nat.zero_mul, Nat.zero_add, Nat.min_eq_left (by split <;> omega)]

theorem word_zero_nearest (s : Bool) (place : Int) : double.nearest s 0 place = double.word s 0 := by
  unfold Format.nearest; simp

/-- Twice a rung, half of one. -/
def twR (r : Nat) : Nat := if r = 9218868437227405312 then r else if r < 4503599627370496 then 2 * r else min (r + 4503599627370496) 9218868437227405312
def haR (r : Nat) : Nat := if r = 9218868437227405312 then r else if 9007199254740992 ≤ r then r - 4503599627370496 else r / 2 + if r % 2 = 1 ∧ r / 2 % 2 = 1 then 1 else 0

theorem two_word : (4611686018427387904 : Nat) = double.word false 4611686018427387904 := by rw [word_eq]; simp
theorem two_mag : mag 4611686018427387904 = 4503599627370496 := by decide
theorem two_plc : plc 4611686018427387904 = 1023 := by decide
theorem read_two : double.read 4611686018427387904 = .number false 4503599627370496 (-51) := by
  have := read_num false 4611686018427387904 (by omega)
  rw [← two_word, two_mag, two_plc] at this
  rw [this]
  rfl

theorem half_rung (p m r : Nat) (hr : r = p * 4503599627370496 + m) (hp : 1 ≤ p) (h : r ≤ 9218868437227405312) : min ((p - 1) * 4503599627370496 + m) 9218868437227405312 = r - 4503599627370496 := by omega
theorem twice_rung (p m r : Nat) (hr : r = p * 4503599627370496 + m) : (p + 1) * 4503599627370496 + m = r + 4503599627370496 := by omega

theorem mul_two (s : Bool) (r : Nat) (h : r ≤ 9218868437227405312) : double.mul (double.word s r) 4611686018427387904 = some (double.word s (twR r)) := by
  unfold Format.mul
  rw [read_two]
  by_cases he : r = 9218868437227405312
  · subst he
    rw [read_inf]
    simp [Datum.product, Format.write, twR, d_inf]
  · rw [read_num s r (by omega)]
    simp only [Datum.product, Option.map_some, Format.write, Bool.xor_false, Option.some.injEq]
    by_cases h0 : r = 0
    · subst h0
      have : mag 0 = 0 := by decide
      rw [this, Nat.zero_mul, word_zero_nearest]; rfl
    · have hm : 0 < mag r := Nat.pos_of_ne_zero (fun h => h0 ((mag_zero r).1 h))
      have hlt := mag_lt r
      have hsp := rung_split r
      by_cases hb : r < 4503599627370496
      · have hp : plc r = 0 := by unfold plc; omega
        have hmr : mag r = r := by unfold mag; rw [if_pos hb]
        rw [hp, hmr, show r * 4503599627370496 = (2 * r) * 2 ^ 51 by omega, nearest_exact s (2 * r) 0 51 (by omega) (by omega) (.inl rfl) _ (by omega)]
        unfold twR
        rw [if_neg he, if_pos hb, Nat.min_eq_left (by omega)]
        simp
      · rw [show mag r * 4503599627370496 = mag r * 2 ^ 52 by rfl, nearest_exact s (mag r) (plc r + 1) 52 hm hlt (.inr (by unfold mag; rw [if_neg hb]; omega)) _ (by omega)]
        rw [twice_rung _ _ _ hsp]
        unfold twR
        rw [if_neg he, if_neg hb]

theorem div_two (s : Bool) (r : Nat) (h : r ≤ 9218868437227405312) : double.div (double.word s r) 4611686018427387904 = some (double.word s (haR r)) := by
  unfold Format.div
  rw [read_two]
  by_cases he : r = 9218868437227405312
  · subst he
    rw [read_inf]
    simp [Datum.quotient, Format.write, haR, d_inf]
  · rw [read_num s r (by omega)]
    have hl52 : Nat.log2 4503599627370496 = 52 := log2_hi _ (by omega) (by omega)
    simp only [Datum.quotient, d_frac, hl52, Nat.shiftLeft_eq]
    rw [if_neg (by omega)]
    simp only [Option.map_some, Format.write, Bool.xor_false, Option.some.injEq]
    by_cases h0 : r = 0
    · subst h0
      have : mag 0 = 0 := by decide
      rw [this]
      simp only [Nat.zero_mul, Nat.zero_div, Nat.zero_mod]
      rw [show 2 * 0 + (bne 0 0).toNat = 0 from rfl, word_zero_nearest]; rfl
    · have hm : 0 < mag r := Nat.pos_of_ne_zero (fun h => h0 ((mag_zero r).1 h))
      have hlt := mag_lt r
      have hsp := rung_split r
      have hl : (mag r).log2 ≤ 52 := by
        rcases Nat.lt_or_ge (mag r) 4503599627370496 with hb | hb
        · have := log2_lo _ hm hb; omega
        · have := log2_hi _ hb hlt; omega
      obtain ⟨j, hj⟩ : ∃ j, 52 + 2 + 52 - (mag r).log2 = j + 51 := ⟨55 - (mag r).log2, by omega⟩
      have hj3 : 3 ≤ j := by omega
      rw [hj]
      have e1 : mag r * 2 ^ (j + 51) = mag r * 2 ^ (j - 1) * 4503599627370496 := by
        rw [show j + 51 = (j - 1) + 52 by omega, Nat.pow_add, Nat.mul_assoc]
      rw [e1, Nat.mul_div_cancel _ (by omega), Nat.mul_mod_left]
      have e2 : 2 * (mag r * 2 ^ (j - 1)) + (bne 0 0).toNat = mag r * 2 ^ j := by
        show 2 * (mag r * 2 ^ (j - 1)) + 0 = mag r * 2 ^ j
        rw [Nat.add_zero]
        conv => rhs; rw [show j = (j - 1) + 1 by omega, Nat.pow_succ]
        rw [Nat.mul_comm 2, Nat.mul_assoc]
      rw [e2]
      by_cases hb : 9007199254740992 ≤ r
      · have hp : 1 ≤ plc r := by unfold plc; omega
        rw [nearest_exact s (mag r) (plc r - 1) j hm hlt (.inr (by have := mag_ge r; clear e1 e2 hj; omega)) _ (by clear e1 e2; omega)]
        rw [half_rung _ _ _ hsp hp h]
        unfold haR
        rw [if_neg he, if_pos hb]
      · have hp : plc r = 0 := by unfold plc; omega
        have hmr : mag r = r := by clear e1 e2 hj; omega
        rw [nearest_half s (mag r) j hm hlt _ (by clear e1 e2; omega), hmr]
        unfold haR
        rw [if_neg he, if_neg hb]

theorem mul_nan (s : Bool) (r : Nat) (h : 9218868437227405312 < r) (h' : r < 9223372036854775808) : double.mul (double.word s r) 4611686018427387904 = none := by
  unfold Format.mul; rw [read_nan s r h h']; rfl
theorem div_nan (s : Bool) (r : Nat) (h : 9218868437227405312 < r) (h' : r < 9223372036854775808) : double.div (double.word s r) 4611686018427387904 = none := by
  unfold Format.div; rw [read_nan s r h h']; rfl
end Go.Proofs.YtedldckijblnhaaDoor
