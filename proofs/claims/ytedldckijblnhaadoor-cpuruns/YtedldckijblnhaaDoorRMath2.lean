/-
  Plain mathematics of float64 by its bits: the order, whole numbers as real ones, and back.
-/
import Derived.Test.YtedldckijblnhaaDoorRMath
namespace Go.Proofs.YtedldckijblnhaaDoor
open Ieee
set_option linter.unusedVariables false

/-- Where a number is among all; its size in least numbers. -/
def plac (s : Bool) (r : Nat) : Int := if s then -(r : Int) else r
def val (r : Nat) : Nat := mag r * 2 ^ plc r
def sval (s : Bool) (r : Nat) : Int := if s then -(val r : Int) else val r

theorem val_lt {r q : Nat} (h : r < q) : val r < val q := by
  have hr := rung_split r
  have hq := rung_split q
  have lr := mag_lt r
  have lq := mag_lt q
  have gq := mag_ge q
  unfold val
  rcases Nat.lt_trichotomy (plc r) (plc q) with hp | hp | hp
  · have h1 : mag r * 2 ^ plc r < 9007199254740992 * 2 ^ plc r := Nat.mul_lt_mul_of_pos_right lr (Nat.two_pow_pos _)
    have h2 : 4503599627370496 * 2 ^ plc q ≤ mag q * 2 ^ plc q := Nat.mul_le_mul_right _ (by omega)
    have h3 : 2 ^ (plc r + 1) ≤ 2 ^ plc q := Nat.pow_le_pow_right (by omega) (by omega)
    rw [Nat.pow_succ] at h3
    generalize 2 ^ plc r = a at *
    generalize 2 ^ plc q = b at *
    omega
  · rw [hp]
    exact Nat.mul_lt_mul_of_pos_right (by omega) (Nat.two_pow_pos _)
  · have : plc q ≤ plc r := by omega
    exfalso
    have gr := mag_ge r
    omega

theorem val_zero : val 0 = 0 := by decide

theorem signed_eq (s : Bool) (m k : Nat) : signed s m k = (if s then -((m * 2 ^ k : Nat) : Int) else ((m * 2 ^ k : Nat) : Int)) := by
  unfold signed; rw [Nat.shiftLeft_eq]

theorem cmp_def (a b : Int) : compare a b = if a < b then Ordering.lt else if a = b then .eq else .gt := rfl

theorem cmp_scale (a b : Int) (k : Nat) (hk : 0 < k) : compare (a * k) (b * k) = compare a b := by
  have h0 : (0 : Int) < k := by omega
  rw [cmp_def, cmp_def]
  have h1 : a * k < b * k ↔ a < b := ⟨fun h => Int.lt_of_mul_lt_mul_right h (by omega), fun h => Int.mul_lt_mul_of_pos_right h h0⟩
  have h2 : a * k = b * k ↔ a = b := ⟨fun h => Int.eq_of_mul_eq_mul_right (by omega) h, fun h => by rw [h]⟩
  simp [h1, h2]

theorem signed_scale (s : Bool) (r c : Nat) (h : c ≤ plc r) : signed s (mag r) (plc r - c) * ((2 ^ c : Nat) : Int) = sval s r := by
  have e : mag r * 2 ^ (plc r - c) * 2 ^ c = val r := by
    unfold val; rw [Nat.mul_assoc, ← Nat.pow_add, Nat.sub_add_cancel h]
  rw [signed_eq]
  unfold sval
  cases s
  · simp only [Bool.false_eq_true, if_false]; rw [← e]; norm_cast
  · simp only [if_true]; rw [← e, Int.neg_mul]; norm_cast

theorem cmp_of {a b c d : Int} (h1 : a < b ↔ c < d) (h2 : a = b ↔ c = d) : compare a b = compare c d := by
  rw [cmp_def, cmp_def]; simp [h1, h2]

theorem cmp_val (s t : Bool) (r q : Nat) : compare (sval s r) (sval t q) = compare (plac s r) (plac t q) := by
  have z := val_zero
  have e1 : r < q → val r < val q := fun h => val_lt h
  have e2 : q < r → val q < val r := fun h => val_lt h
  have e3 : r = q → val r = val q := fun h => by rw [h]
  have e4 : 0 < r → 0 < val r := fun h => by have := val_lt h; omega
  have e5 : 0 < q → 0 < val q := fun h => by have := val_lt h; omega
  have e6 : r = 0 → val r = 0 := fun h => by rw [h]; exact z
  have e7 : q = 0 → val q = 0 := fun h => by rw [h]; exact z
  unfold sval plac
  generalize val r = a at *
  generalize val q = b at *
  apply cmp_of <;> cases s <;> cases t <;> simp <;> omega

theorem order_num (s t : Bool) (r q : Nat) (hr : r < 9218868437227405312) (hq : q < 9218868437227405312) : double.order (double.word s r) (double.word t q) = some (compare (plac s r) (plac t q)) := by
  unfold Format.order
  rw [read_num s r hr, read_num t q hq]
  simp only [Datum.order]
  have hb : min (-1074 + (plc r : Int)) (-1074 + (plc q : Int)) = -1074 + (min (plc r) (plc q) : Nat) := by omega
  rw [hb]
  have i1 : (-1074 + (plc r : Int) - (-1074 + ((min (plc r) (plc q) : Nat) : Int))).toNat = plc r - min (plc r) (plc q) := by omega
  have i2 : (-1074 + (plc q : Int) - (-1074 + ((min (plc r) (plc q) : Nat) : Int))).toNat = plc q - min (plc r) (plc q) := by omega
  rw [i1, i2, ← cmp_scale _ _ (2 ^ min (plc r) (plc q)) (Nat.two_pow_pos _), signed_scale s r _ (Nat.min_le_left ..), signed_scale t q _ (Nat.min_le_right ..), cmp_val]

theorem order_any (s t : Bool) (r q : Nat) (hr : r ≤ 9218868437227405312) (hq : q ≤ 9218868437227405312) : double.order (double.word s r) (double.word t q) = some (compare (plac s r) (plac t q)) := by
  by_cases h1 : r = 9218868437227405312
  · by_cases h2 : q = 9218868437227405312
    · subst h1 h2
      unfold Format.order
      rw [read_inf, read_inf]
      cases s <;> cases t <;> rfl
    · subst h1
      unfold Format.order
      rw [read_inf, read_num t q (by omega)]
      simp only [Datum.order, cmp_def]
      unfold plac
      cases s <;> cases t <;> simp only [Bool.false_eq_true, if_false, if_true] <;> first | rw [if_pos (by omega)] | rw [if_neg (by omega), if_neg (by omega)]
  · by_cases h2 : q = 9218868437227405312
    · subst h2
      unfold Format.order
      rw [read_inf, read_num s r (by omega)]
      simp only [Datum.order, cmp_def]
      unfold plac
      cases s <;> cases t <;> simp only [Bool.false_eq_true, if_false, if_true] <;> first | rw [if_pos (by omega)] | rw [if_neg (by omega), if_neg (by omega)]
    · exact order_num s t r q (by omega) (by omega)

theorem order_nan_l (s : Bool) (r y : Nat) (h : 9218868437227405312 < r) (h' : r < 9223372036854775808) : double.order (double.word s r) y = none := by
  unfold Format.order; rw [read_nan s r h h']; rfl
theorem order_nan_r (s : Bool) (r x : Nat) (h : 9218868437227405312 < r) (h' : r < 9223372036854775808) : double.order x (double.word s r) = none := by
  unfold Format.order; rw [read_nan s r h h']; cases double.read x <;> rfl

theorem ne_self (s : Bool) (r : Nat) (h' : r < 9223372036854775808) : (double.order (double.word s r) (double.word s r) != some .eq) = decide (9218868437227405312 < r) := by
  by_cases h : 9218868437227405312 < r
  · rw [order_nan_l s r _ h h', decide_eq_true h]; rfl
  · rw [order_any s s r r (by omega) (by omega), decide_eq_false h, cmp_def]; simp

/-- Is one below another one? -/
def blw (s : Bool) (r : Nat) (t : Bool) (q : Nat) : Bool := decide (r ≤ 9218868437227405312) && decide (q ≤ 9218868437227405312) && decide (plac s r < plac t q)

theorem lt_any (s t : Bool) (r q : Nat) (hr : r < 9223372036854775808) (hq : q < 9223372036854775808) : (double.order (double.word s r) (double.word t q) == some .lt) = blw s r t q := by
  unfold blw
  by_cases h1 : 9218868437227405312 < r
  · rw [order_nan_l s r _ h1 hr, decide_eq_false (show ¬ r ≤ 9218868437227405312 by omega)]; rfl
  · by_cases h2 : 9218868437227405312 < q
    · rw [order_nan_r t q _ h2 hq, decide_eq_false (show ¬ q ≤ 9218868437227405312 by omega)]; simp
    · rw [order_any s t r q (by omega) (by omega), decide_eq_true (show r ≤ 9218868437227405312 by omega), decide_eq_true (show q ≤ 9218868437227405312 by omega), cmp_def]
      by_cases h3 : plac s r < plac t q
      · simp [h3]
      · by_cases h4 : plac s r = plac t q <;> simp [h3, h4]

theorem gt_any (s t : Bool) (r q : Nat) (hr : r < 9223372036854775808) (hq : q < 9223372036854775808) : (double.order (double.word s r) (double.word t q) == some .gt) = blw t q s r := by
  unfold blw
  by_cases h1 : 9218868437227405312 < r
  · rw [order_nan_l s r _ h1 hr, decide_eq_false (show ¬ r ≤ 9218868437227405312 by omega)]; simp
  · by_cases h2 : 9218868437227405312 < q
    · rw [order_nan_r t q _ h2 hq, decide_eq_false (show ¬ q ≤ 9218868437227405312 by omega)]; simp
    · rw [order_any s t r q (by omega) (by omega), decide_eq_true (show r ≤ 9218868437227405312 by omega), decide_eq_true (show q ≤ 9218868437227405312 by omega), cmp_def]
      by_cases h3 : plac s r < plac t q
      · simp [h3]; omega
      · by_cases h4 : plac s r = plac t q
        · simp [h4]
        · simp [h3, h4]; omega

/-- The rung of a whole number. -/
def ofR (a : Nat) : Nat := if a = 0 then 0 else if a = 9007199254740992 then 4845873199050653696 else (a.log2 + 1022) * 4503599627370496 + a * 2 ^ (52 - a.log2)

theorem cut_none (s : Bool) (n : Nat) : Toward.even.cut s n 0 = n := by
  unfold Toward.cut; simp [Nat.mod_one]

theorem of_log (a : Nat) (h0 : 0 < a) (h : a < 9007199254740992) : a.log2 ≤ 52 ∧ 4503599627370496 ≤ a * 2 ^ (52 - a.log2) ∧ a * 2 ^ (52 - a.log2) < 9007199254740992 := by
  have h1 := (Nat.log2_eq_iff (n := a) (by omega)).1 rfl
  have hl : a.log2 ≤ 52 := by
    have := (Nat.log2_lt (n := a) (k := 53) (by omega)).2 (by simpa using h)
    omega
  have hp : 0 < 2 ^ (52 - a.log2) := Nat.two_pow_pos _
  refine ⟨hl, ?_, ?_⟩
  · have := Nat.mul_le_mul_right (2 ^ (52 - a.log2)) h1.1
    rw [← Nat.pow_add, show a.log2 + (52 - a.log2) = 52 by omega] at this
    exact this
  · have := Nat.mul_lt_mul_of_pos_right h1.2 hp
    rw [← Nat.pow_add, show a.log2 + 1 + (52 - a.log2) = 53 by omega] at this
    exact this

theorem of_char (a j : Nat) (hj : j ≤ 52) (h1 : 4503599627370496 ≤ a * 2 ^ j) (h2 : a * 2 ^ j < 9007199254740992) : ofR a = (1074 - j) * 4503599627370496 + a * 2 ^ j := by
  have hp : 0 < 2 ^ j := Nat.two_pow_pos _
  have h0 : 0 < a := by rcases Nat.eq_zero_or_pos a with h | h; · subst h; omega
                        · exact h
  have ha : a < 9007199254740992 := Nat.lt_of_le_of_lt (Nat.le_mul_of_pos_right a hp) h2
  have hl : a.log2 + j = 52 := by rw [← log2_mul a j h0]; exact log2_hi _ h1 h2
  unfold ofR
  rw [if_neg (by omega), if_neg (by omega), show 52 - a.log2 = j by omega, show a.log2 + 1022 = 1074 - j by omega]

theorem of_lt (a : Nat) (h : a ≤ 9007199254740992) : ofR a ≤ 4845873199050653696 := by
  unfold ofR
  split
  · omega
  · split
    · omega
    · have := of_log a (by omega) (by omega)
      generalize a * 2 ^ (52 - a.log2) = m at *
      omega

theorem nearest_of (s : Bool) (a : Nat) (h : a ≤ 9007199254740992) : double.nearest s a 0 = double.word s (ofR a) := by
  by_cases h0 : a = 0
  · subst h0; rw [word_zero_nearest]; rfl
  by_cases h1 : a = 9007199254740992
  · subst h1
    rw [show (9007199254740992 : Nat) = 4503599627370496 * 2 ^ 1 by rfl, nearest_exact s 4503599627370496 1075 1 (by omega) (by omega) (.inr (by omega)) 0 (by omega)]
    rfl
  · have hl := of_log a (by omega) (by omega)
    unfold Format.nearest
    rw [if_neg h0]
    simp only [d_frac, d_least, d_binade, d_inf]
    have hlast : max ((0 : Int) + (a.log2 : Nat) - (52 : Nat)) (-1074) = (a.log2 : Int) - 52 := by omega
    rw [hlast, show ((0 : Int) - ((a.log2 : Int) - 52)).toNat = 52 - a.log2 by omega, show ((a.log2 : Int) - 52 - 0).toNat = 0 by omega, show ((a.log2 : Int) - 52 - -1074).toNat = a.log2 + 1022 by omega, cut_none, Nat.shiftLeft_eq]
    unfold ofR
    rw [if_neg h0, if_neg h1, Nat.min_eq_left (by generalize a * 2 ^ (52 - a.log2) = m at *; omega)]

/-- The whole number that a rung has, up to 2^53. -/
def whR (r : Nat) : Nat := if 4845873199050653696 ≤ r then 9007199254740992 else if r < 4503599627370496 then 0 else (4503599627370496 + r % 4503599627370496) / 2 ^ (1075 - r / 4503599627370496)

theorem div_pow (m p t : Nat) (h : p ≤ t) : m * 2 ^ p / 2 ^ t = m / 2 ^ (t - p) := by
  have e : 2 ^ t = 2 ^ (t - p) * 2 ^ p := by rw [← Nat.pow_add, Nat.sub_add_cancel h]
  rw [e, Nat.mul_div_mul_right _ _ (Nat.two_pow_pos _)]
theorem lt_pow (r t : Nat) (h : r < 4503599627370496) (ht : 52 ≤ t) : r < 2 ^ t :=
  Nat.lt_of_lt_of_le (show r < 2 ^ 52 from h) (Nat.pow_le_pow_right (by decide) ht)

theorem wh_val (r : Nat) (h : r < 4845873199050653696) : whR r = val r / 2 ^ 1074 := by
  unfold whR val
  rw [if_neg (by omega)]
  by_cases hb : r < 4503599627370496
  · rw [if_pos hb, show plc r = 0 by unfold plc; omega, show mag r = r by unfold mag; rw [if_pos hb], Nat.pow_zero, Nat.mul_one]
    exact (Nat.div_eq_of_lt (lt_pow r 1074 hb (by decide))).symm
  · rw [if_neg hb, show 4503599627370496 + r % 4503599627370496 = mag r by unfold mag; rw [if_neg hb], show 1075 - r / 4503599627370496 = 1074 - plc r by unfold plc; omega]
    have hp : plc r ≤ 1074 := by unfold plc; omega
    exact (div_pow _ _ _ hp).symm

theorem wh_le (r : Nat) : whR r ≤ 9007199254740992 := by
  unfold whR
  split
  · omega
  · split
    · omega
    · exact Nat.le_trans (Nat.div_le_self _ _) (by omega)

theorem wh_mono {r q : Nat} (h : r ≤ q) : whR r ≤ whR q := by
  by_cases hq : 4845873199050653696 ≤ q
  · have : whR q = 9007199254740992 := by unfold whR; rw [if_pos hq]
    rw [this]; exact wh_le r
  · rw [wh_val r (by omega), wh_val q (by omega)]
    apply Nat.div_le_div_right
    rcases Nat.lt_or_ge r q with h' | h'
    · exact Nat.le_of_lt (val_lt h')
    · rw [show r = q by omega]; exact Nat.le_refl _

theorem toInt_whole (s : Bool) (r : Nat) (h : r ≤ 4845873199050653696) : (double.read (double.word s r)).toInt .zero = some (if s then -(whR r : Int) else (whR r : Int)) := by
  rw [read_num s r (by omega)]
  unfold Datum.toInt Datum.integral
  simp only [cut_zero, Nat.shiftLeft_eq, signed_eq, Nat.pow_zero, Nat.mul_one]
  have e : mag r * 2 ^ (-1074 + (plc r : Int)).toNat / 2 ^ (-(-1074 + (plc r : Int))).toNat = whR r := by
    by_cases he : r = 4845873199050653696
    · subst he
      have h1 : plc 4845873199050653696 = 1075 := by decide
      have h2 : mag 4845873199050653696 = 4503599627370496 := by decide
      rw [h1, h2]
      rfl
    · have hp : plc r ≤ 1074 := by unfold plc; omega
      rw [show (-1074 + (plc r : Int)).toNat = 0 by omega, show (-(-1074 + (plc r : Int))).toNat = 1074 - plc r by omega, Nat.pow_zero, Nat.mul_one, wh_val r (by omega)]
      unfold val
      exact (div_pow _ _ _ hp).symm
  rw [e]
end Go.Proofs.YtedldckijblnhaaDoor
