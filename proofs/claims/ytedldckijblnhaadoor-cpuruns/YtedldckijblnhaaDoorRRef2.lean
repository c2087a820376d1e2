/-
  What the document's own Of and Whole of layer 2 return, whatever they are given; nothing is written.
-/
import Derived.Test.YtedldckijblnhaaDoorRRef
namespace Go.Proofs.YtedldckijblnhaaDoor
open Go.RowKit Ieee
set_option linter.unusedVariables false

theorem of_zero (n : Int) (h : n = 0) : ofX n = 0 := by subst h; decide +kernel

theorem of_top (n : Int) (h : (clamp n).natAbs = 9007199254740992) : ofX n = wd (sg n) 4845873199050653696 := by
  unfold ofX ofR; rw [h]; rfl

theorem of_mid (n : Int) (j : Nat) (h1 : 4503599627370496 ≤ (clamp n).natAbs * 2 ^ j) (h2 : (clamp n).natAbs * 2 ^ j < 9007199254740992) (hj : j ≤ 52) :
    ofX n = wd (sg n) ((-(j : Int) + 1075) * 4503599627370496 + (((clamp n).natAbs * 2 ^ j : Nat) : Int) - 4503599627370496).toNat := by
  unfold ofX
  rw [of_char _ j hj h1 h2]
  generalize (clamp n).natAbs * 2 ^ j = m at *
  congr 1
  omega

theorem dbl_lt (A j : Nat) (hA : 0 < A) (h : A * 2 ^ j < 4503599627370496) : j < 52 := by
  rcases Nat.lt_or_ge j 52 with h' | h'
  · exact h'
  · have h1 : 2 ^ 52 ≤ 2 ^ j := Nat.pow_le_pow_right (by omega) h'
    have h2 : 1 * 2 ^ 52 ≤ A * 2 ^ j := Nat.mul_le_mul hA h1
    omega

/-- How far the doubling of A has come: m, after j rounds. -/
def Dbl (A : Nat) (m j : Int) : Prop := ∃ k : Nat, j = k ∧ m = ((A * 2 ^ k : Nat) : Int)
theorem Dbl.zero (A : Nat) : Dbl A A 0 := ⟨0, rfl, by simp⟩
theorem Dbl.succ {A : Nat} {m j : Int} (h : Dbl A m j) : Dbl A (m * 2) (j + 1) := by
  obtain ⟨k, rfl, rfl⟩ := h
  exact ⟨k + 1, by simp, by rw [Nat.pow_succ, ← Nat.mul_assoc]; simp⟩
theorem Dbl.lt {A : Nat} {m j : Int} (h : Dbl A m j) (hA : 0 < A) (hm : m < 4503599627370496) : j < 52 := by
  obtain ⟨k, rfl, rfl⟩ := h
  have := dbl_lt A k hA (by omega)
  omega
theorem Dbl.of {n : Int} {m j : Int} (h : Dbl (clamp n).natAbs m j) (h1 : 4503599627370496 ≤ m) (h2 : m < 9007199254740992) (hj : j ≤ 52) : ofX n = wd (sg n) ((-j + 1075) * 4503599627370496 + m - 4503599627370496).toNat := by
  obtain ⟨k, rfl, rfl⟩ := h
  exact of_mid n k (by omega) (by omega) (by omega)

theorem clamp_mid {n : Int} (h1 : -9007199254740992 ≤ n) (h2 : n ≤ 9007199254740992) : clamp n = n := by unfold clamp; omega

set_option maxRecDepth 100000 in
set_option maxHeartbeats 1000000 in
theorem rof_mid (n a : Int) (s : Bool) (h1 : 0 < a) (h2 : a < 9007199254740992) (hs : (s = false ∧ 0 ≤ n ∧ n = a) ∨ (s = true ∧ n < 0 ∧ n = -a)) (w : World) :
    Calls Tryd.prog 42 #[.int .i64 n] w fun e w' => e = .returned (.int .i64 (ofX n)) ∧ w' = w := by
  have HM := hid (fun m j => Dbl.of (n := n) (m := m) (j := j))
  have HA := hid (show ((clamp n).natAbs : Int) = a by rw [clamp_mid (by omega) (by omega)]; omega)
  generalize (clamp n).natAbs = A at *
  have HP := hid (show 0 < A by have := HA.out; omega)
  have k1 : -9007199254740992 < n := by omega
  have k2 : n < 9007199254740992 := by omega
  rcases hs with ⟨rfl, hs, e⟩ | ⟨rfl, hs, e⟩
  · have hb : (a == 0) = false := by rw [beq_eq_false_iff_ne]; omega
    subst e
    go_enter Tryd.func42, Tryd.ntmps42
    go_wp2
    go_loop [0, 4] (fun t e => t = .int .i64 n ∧ e = .int .i64 0) (fun _ _ => 0)
    case atStart => exact ⟨rfl, rfl⟩
    case round =>
      obtain ⟨rfl, rfl⟩ := hrel
      go_wp2
      go_loop [0, 4] (fun t e => ∃ m j : Int, t = .int .i64 m ∧ e = .int .i64 (-j) ∧ m < 9007199254740992 ∧ 0 ≤ j ∧ j ≤ 52 ∧ 0 < m ∧ Hid (Dbl A m j)) (fun t _ => (9007199254740992 - intOf t).toNat)
      case atStart => exact ⟨n, 0, rfl, rfl, h2, by omega, by omega, h1, by rw [← HA.out]; exact Dbl.zero A⟩
      case round =>
        obtain ⟨m, j, rfl, rfl, hl, hj0, hj, hp, HD⟩ := hrel
        by_cases hc : m < 4503599627370496
        · have hd := HD.out.lt HP.out hc
          go_wp2
          go_round
          case rel => exact ⟨m * 2, j + 1, rfl, by go_num, by omega, by omega, by omega, by omega, HD.out.succ⟩
          case measure => simp [intOf]; omega
        · go_wp2_with fail
          refine (rwith_any _ _ (by omega) (by omega) _).mono ?_
          rintro e w1 ⟨rfl, rfl⟩
          go_wp2
          go_ret
          exact ⟨ret_i (HM.out m j HD.out (by omega) hl hj).symm, rfl⟩
  · have hb : (a == 0) = false := by rw [beq_eq_false_iff_ne]; omega
    have e' : -n = a := by omega
    have HS := hid (show sg n = true from decide_eq_true hs)
    clear e
    go_enter Tryd.func42, Tryd.ntmps42
    go_wp2
    go_loop [0, 4] (fun t e => t = .int .i64 a ∧ e = .int .i64 0) (fun _ _ => 0)
    case atStart => exact ⟨rfl, rfl⟩
    case round =>
      obtain ⟨rfl, rfl⟩ := hrel
      go_wp2
      go_loop [0, 4] (fun t e => ∃ m j : Int, t = .int .i64 m ∧ e = .int .i64 (-j) ∧ m < 9007199254740992 ∧ 0 ≤ j ∧ j ≤ 52 ∧ 0 < m ∧ Hid (Dbl A m j)) (fun t _ => (9007199254740992 - intOf t).toNat)
      case atStart => exact ⟨a, 0, rfl, rfl, h2, by omega, by omega, h1, by rw [← HA.out]; exact Dbl.zero A⟩
      case round =>
        obtain ⟨m, j, rfl, rfl, hl, hj0, hj, hp, HD⟩ := hrel
        by_cases hc : m < 4503599627370496
        · have hd := HD.out.lt HP.out hc
          go_wp2
          go_round
          case rel => exact ⟨m * 2, j + 1, rfl, by go_num, by omega, by omega, by omega, by omega, HD.out.succ⟩
          case measure => simp [intOf]; omega
        · go_wp2_with fail
          refine (rwith_any _ _ (by omega) (by omega) _).mono ?_
          rintro e w1 ⟨rfl, rfl⟩
          go_wp2
          go_ret
          exact ⟨ret_i (by rw [HM.out m j HD.out (by omega) hl hj, HS.out]), rfl⟩

set_option maxRecDepth 100000 in
set_option maxHeartbeats 1000000 in
theorem rof_top (n : Int) (k1 : -9223372036854775808 ≤ n) (k2 : n ≤ 9223372036854775807) (hn : n = 9007199254740992 ∨ 9007199254740992 < n ∨ n = -9007199254740992 ∨ n < -9007199254740992) (w : World) :
    Calls Tryd.prog 42 #[.int .i64 n] w fun e w' => e = .returned (.int .i64 (ofX n)) ∧ w' = w := by
  have HT := hid (of_top n (by unfold clamp; omega))
  rcases hn with hn | hn | hn | hn
  · subst hn
    go_enter Tryd.func42, Tryd.ntmps42
    go_wp2
    go_loop [0, 4] (fun t e => (t = .int .i64 9007199254740992 ∧ e = .int .i64 0) ∨ (t = .int .i64 4503599627370496 ∧ e = .int .i64 1)) (fun t _ => (intOf t).toNat)
    case atStart => exact .inl ⟨rfl, rfl⟩
    case round =>
      rcases hrel with ⟨rfl, rfl⟩ | ⟨rfl, rfl⟩
      · go_wp2
        go_round
        case rel => exact .inr ⟨rfl, rfl⟩
        case measure => simp [intOf]
      · go_wp2
        go_loop [0, 4] (fun t e => t = .int .i64 4503599627370496 ∧ e = .int .i64 1) (fun _ _ => 0)
        case atStart => exact ⟨rfl, rfl⟩
        case round =>
          obtain ⟨rfl, rfl⟩ := hrel
          go_wp2_with fail
          refine (rwith_any _ _ (by omega) (by omega) _).mono ?_
          rintro e w1 ⟨rfl, rfl⟩
          go_wp2
          go_ret
          exact ⟨ret_i HT.out.symm, rfl⟩
  · have HS := hid (show sg n = false from decide_eq_false (by omega))
    have l0 : ¬ n < 0 := by omega
    go_enter Tryd.func42, Tryd.ntmps42
    go_wp2
    go_loop [0, 4] (fun t e => (t = .int .i64 9007199254740992 ∧ e = .int .i64 0) ∨ (t = .int .i64 4503599627370496 ∧ e = .int .i64 1)) (fun t _ => (intOf t).toNat)
    case atStart => exact .inl ⟨rfl, rfl⟩
    case round =>
      rcases hrel with ⟨rfl, rfl⟩ | ⟨rfl, rfl⟩
      · go_wp2
        go_round
        case rel => exact .inr ⟨rfl, rfl⟩
        case measure => simp [intOf]
      · go_wp2
        go_loop [0, 4] (fun t e => t = .int .i64 4503599627370496 ∧ e = .int .i64 1) (fun _ _ => 0)
        case atStart => exact ⟨rfl, rfl⟩
        case round =>
          obtain ⟨rfl, rfl⟩ := hrel
          go_wp2_with fail
          refine (rwith_any _ _ (by omega) (by omega) _).mono ?_
          rintro e w1 ⟨rfl, rfl⟩
          go_wp2
          go_ret
          exact ⟨ret_i (by rw [HT.out, HS.out]), rfl⟩
  · subst hn
    go_enter Tryd.func42, Tryd.ntmps42
    go_wp2
    go_loop [0, 4] (fun t e => (t = .int .i64 9007199254740992 ∧ e = .int .i64 0) ∨ (t = .int .i64 4503599627370496 ∧ e = .int .i64 1)) (fun t _ => (intOf t).toNat)
    case atStart => exact .inl ⟨rfl, rfl⟩
    case round =>
      rcases hrel with ⟨rfl, rfl⟩ | ⟨rfl, rfl⟩
      · go_wp2
        go_round
        case rel => exact .inr ⟨rfl, rfl⟩
        case measure => simp [intOf]
      · go_wp2
        go_loop [0, 4] (fun t e => t = .int .i64 4503599627370496 ∧ e = .int .i64 1) (fun _ _ => 0)
        case atStart => exact ⟨rfl, rfl⟩
        case round =>
          obtain ⟨rfl, rfl⟩ := hrel
          go_wp2_with fail
          refine (rwith_any _ _ (by omega) (by omega) _).mono ?_
          rintro e w1 ⟨rfl, rfl⟩
          go_wp2
          go_ret
          exact ⟨ret_i HT.out.symm, rfl⟩
  · have l0 : n < 0 := by omega
    have HS := hid (show sg n = true from decide_eq_true l0)
    go_enter Tryd.func42, Tryd.ntmps42
    go_wp2
    go_loop [0, 4] (fun t e => (t = .int .i64 9007199254740992 ∧ e = .int .i64 0) ∨ (t = .int .i64 4503599627370496 ∧ e = .int .i64 1)) (fun t _ => (intOf t).toNat)
    case atStart => exact .inl ⟨rfl, rfl⟩
    case round =>
      rcases hrel with ⟨rfl, rfl⟩ | ⟨rfl, rfl⟩
      · go_wp2
        go_round
        case rel => exact .inr ⟨rfl, rfl⟩
        case measure => simp [intOf]
      · go_wp2
        go_loop [0, 4] (fun t e => t = .int .i64 4503599627370496 ∧ e = .int .i64 1) (fun _ _ => 0)
        case atStart => exact ⟨rfl, rfl⟩
        case round =>
          obtain ⟨rfl, rfl⟩ := hrel
          go_wp2_with fail
          refine (rwith_any _ _ (by omega) (by omega) _).mono ?_
          rintro e w1 ⟨rfl, rfl⟩
          go_wp2
          go_ret
          exact ⟨ret_i (by rw [HT.out, HS.out]), rfl⟩

set_option maxHeartbeats 400000 in
theorem rof_zero (w : World) : Calls Tryd.prog 42 #[.int .i64 0] w fun e w' => e = .returned (.int .i64 (ofX 0)) ∧ w' = w := by
  have HZ := hid (of_zero 0 rfl)
  go_enter Tryd.func42, Tryd.ntmps42
  go_wp2
  go_ret
  exact ⟨ret_i HZ.out.symm, rfl⟩

theorem rof_any (n : Int) (h1 : -9223372036854775808 ≤ n) (h2 : n ≤ 9223372036854775807) (w : World) :
    Calls Tryd.prog 42 #[.int .i64 n] w fun e w' => e = .returned (.int .i64 (ofX n)) ∧ w' = w := by
  by_cases h0 : n = 0
  · subst h0; exact rof_zero w
  · by_cases ht : n = 9007199254740992 ∨ 9007199254740992 < n ∨ n = -9007199254740992 ∨ n < -9007199254740992
    · exact rof_top n h1 h2 ht w
    · by_cases hp : 0 < n
      · exact rof_mid n n false hp (by omega) (.inl ⟨rfl, by omega, rfl⟩) w
      · exact rof_mid n (-n) true (by omega) (by omega) (.inr ⟨rfl, by omega, by omega⟩) w

/-- How far the halving of N has come: m, after j rounds. -/
def Hlv (N : Nat) (m j : Int) : Prop := ∃ k : Nat, j = k ∧ m = ((N / 2 ^ k : Nat) : Int)
theorem Hlv.zero (N : Nat) : Hlv N N 0 := ⟨0, rfl, by simp⟩
theorem Hlv.succ {N : Nat} {m j : Int} (h : Hlv N m j) : Hlv N (m / 2) (j + 1) := by
  obtain ⟨k, rfl, rfl⟩ := h
  exact ⟨k + 1, by simp, by rw [Nat.pow_succ, ← Nat.div_div_eq_div_mul]; simp⟩

theorem wh_end {r : Nat} (h1 : 4503599627370496 ≤ r) (h2 : r < 4845873199050653696) {m e : Int} (h : Hlv (4503599627370496 + r % 4503599627370496) m (e - ((r : Int) / 4503599627370496 - 1075)))
    (he : e ≤ 0) (hend : e = 0 ∨ m = 0) : (whR r : Int) = m := by
  obtain ⟨k, hk, rfl⟩ := h
  unfold whR
  rw [if_neg (by omega), if_neg (by omega)]
  rcases hend with rfl | h0
  · rw [show 1075 - r / 4503599627370496 = k by omega]
  · rw [h0]
    have h0' : (4503599627370496 + r % 4503599627370496) / 2 ^ k = 0 := by omega
    have hlt : 4503599627370496 + r % 4503599627370496 < 2 ^ k := by
      rcases Nat.lt_or_ge (4503599627370496 + r % 4503599627370496) (2 ^ k) with h | h
      · exact h
      · have := Nat.div_pos h (Nat.two_pow_pos k); omega
    have hle : 2 ^ k ≤ 2 ^ (1075 - r / 4503599627370496) := Nat.pow_le_pow_right (by omega) (by omega)
    rw [Nat.div_eq_of_lt (Nat.lt_of_lt_of_le hlt hle)]; rfl
theorem wh_top {r : Nat} (h2 : 4845873199050653696 ≤ r) : whR r = 9007199254740992 := by unfold whR; rw [if_pos h2]
theorem wh_low {r : Nat} (h2 : r < 4503599627370496) : whR r = 0 := by unfold whR; rw [if_neg (by omega), if_pos h2]

theorem whole_eq (x : Int) (hn : nanX x = false) : wholeX x = if sg x then -(whR (rs x) : Int) else (whR (rs x) : Int) := by
  unfold wholeX; rw [hn]; rfl

set_option maxHeartbeats 400000 in
theorem rwhole_nan (x : Int) (h1 : -9223372036854775808 ≤ x) (h2 : x ≤ 9223372036854775807) (hn : nanX x = true) (w : World) :
    Calls Tryd.prog 43 #[.int .i64 x] w fun e w' => e = .returned (.int .i64 (wholeX x)) ∧ w' = w := by
  have HX := hid (show wholeX x = 0 by unfold wholeX; rw [hn]; rfl)
  have HN := hid hn
  clear hn
  go_enter Tryd.func43, Tryd.ntmps43
  go_wp2_with fail
  refine (rnan_any x h1 h2 _).mono ?_
  rintro e w1 ⟨rfl, rfl⟩
  rw [HN.out]
  go_wp2
  go_ret
  exact ⟨ret_i HX.out.symm, rfl⟩

/-- The end of it: the sign. -/
theorem whole_end {x z m : Int} (hz : z = m) (h : wholeX x = if sg x then -z else z) (s : Bool) (hs : sg x = s) : wholeX x = if s then -m else m := by
  rw [h, hs, hz]

set_option maxRecDepth 100000 in
set_option maxHeartbeats 1000000 in
theorem rwhole_mid (x R : Int) (h1 : -9223372036854775808 ≤ x) (h2 : x ≤ 9223372036854775807) (hn : nanX x = false) (HR : Hid (((rs x : Nat) : Int) = R)) (r1 : 4503599627370496 ≤ R) (r2 : R < 4845873199050653696) (w : World) :
    Calls Tryd.prog 43 #[.int .i64 x] w fun e w' => e = .returned (.int .i64 (wholeX x)) ∧ w' = w := by
  have HX := hid (whole_eq x hn)
  have HN := hid hn
  have HE := hid (fun m e => @wh_end (rs x) (by have := HR.out; omega) (by have := HR.out; omega) m e)
  have HZ := hid (Hlv.zero (4503599627370496 + rs x % 4503599627370496))
  have HZ' := hid (show R % 4503599627370496 + 4503599627370496 = ((4503599627370496 + rs x % 4503599627370496 : Nat) : Int) by have := HR.out; omega)
  rw [HR.out] at HE
  generalize 4503599627370496 + rs x % 4503599627370496 = N at *
  generalize ((whR (rs x) : Nat) : Int) = Z at *
  clear hn
  have hb : (R / 4503599627370496 == 0) = false := by rw [beq_eq_false_iff_ne]; omega
  have g1 : ¬ 0 < R / 4503599627370496 - 1075 := by omega
  go_enter Tryd.func43, Tryd.ntmps43
  go_wp2_with fail
  refine (rnan_any x h1 h2 _).mono ?_
  rintro e w1 ⟨rfl, rfl⟩
  rw [HN.out]
  go_wp2_with fail
  refine (rrest_any x h1 h2 _).mono ?_
  rintro e w1 ⟨rfl, rfl⟩
  rw [HR.out]
  go_wp2_with fail
  go_loop [5, 6] (fun t u => ∃ e m : Int, t = .int .i64 e ∧ u = .int .i64 m ∧ e ≤ 0 ∧ -1075 ≤ e ∧ 0 ≤ m ∧ m ≤ 9007199254740992 ∧ Hid (Hlv N m (e - (R / 4503599627370496 - 1075)))) (fun t _ => (-intOf t).toNat)
  case atStart => exact ⟨_, _, rfl, rfl, by omega, by omega, by omega, by omega, by rw [HZ'.out, Int.sub_self]; exact HZ.out⟩
  case round =>
    obtain ⟨e, m, rfl, rfl, he, he', hm0, hm, HL⟩ := hrel
    by_cases hc : e < 0 ∧ 0 < m
    · obtain ⟨c1, c2⟩ := hc
      go_wp2
      go_round
      case rel => exact ⟨e + 1, m / 2, rfl, rfl, by omega, by omega, by omega, by omega, by
        have := HL.out.succ
        rw [show e - (R / 4503599627370496 - 1075) + 1 = e + 1 - (R / 4503599627370496 - 1075) by omega] at this
        exact this⟩
      case measure => simp [intOf]; omega
    · have HF := hid (HE.out _ _ HL.out he (by omega))
      by_cases c1 : e < 0
      · have c2 : ¬ 0 < m := by omega
        clear hc
        go_wp2_with fail
        refine (rsign_any x _).mono ?_
        rintro e' w1 ⟨rfl, rfl⟩
        cases hs : sg x
        · have HW := hid (whole_end HF.out HX.out _ hs)
          clear hs
          go_wp2
          go_ret
          exact ⟨ret_i HW.out.symm, rfl⟩
        · have HW := hid (whole_end HF.out HX.out _ hs)
          clear hs
          go_wp2
          go_ret
          exact ⟨ret_i HW.out.symm, rfl⟩
      · clear hc
        go_wp2_with fail
        refine (rsign_any x _).mono ?_
        rintro e' w1 ⟨rfl, rfl⟩
        cases hs : sg x
        · have HW := hid (whole_end HF.out HX.out _ hs)
          clear hs
          go_wp2
          go_ret
          exact ⟨ret_i HW.out.symm, rfl⟩
        · have HW := hid (whole_end HF.out HX.out _ hs)
          clear hs
          go_wp2
          go_ret
          exact ⟨ret_i HW.out.symm, rfl⟩

set_option maxRecDepth 100000 in
set_option maxHeartbeats 1000000 in
theorem rwhole_low (x R : Int) (h1 : -9223372036854775808 ≤ x) (h2 : x ≤ 9223372036854775807) (hn : nanX x = false) (HR : Hid (((rs x : Nat) : Int) = R)) (r1 : 0 ≤ R) (r2 : R < 4503599627370496) (w : World) :
    Calls Tryd.prog 43 #[.int .i64 x] w fun e w' => e = .returned (.int .i64 (wholeX x)) ∧ w' = w := by
  have HX := hid (whole_eq x hn)
  have HN := hid hn
  have HF := hid (show ((whR (rs x) : Nat) : Int) = 0 by rw [wh_low (by have := HR.out; omega)]; rfl)
  generalize ((whR (rs x) : Nat) : Int) = Z at *
  clear hn
  have hb : (R / 4503599627370496 == 0) = true := by rw [beq_iff_eq]; omega
  have g1 : ¬ 0 < R / 4503599627370496 - 1075 := by omega
  go_enter Tryd.func43, Tryd.ntmps43
  go_wp2_with fail
  refine (rnan_any x h1 h2 _).mono ?_
  rintro e w1 ⟨rfl, rfl⟩
  rw [HN.out]
  go_wp2_with fail
  refine (rrest_any x h1 h2 _).mono ?_
  rintro e w1 ⟨rfl, rfl⟩
  rw [HR.out]
  go_wp2_with fail
  go_loop [5, 6] (fun t u => ∃ e m : Int, t = .int .i64 e ∧ u = .int .i64 m ∧ e ≤ 0 ∧ -1075 ≤ e ∧ 0 ≤ m ∧ m ≤ 9007199254740992) (fun t _ => (-intOf t).toNat)
  case atStart => exact ⟨_, _, rfl, rfl, by omega, by omega, by omega, by omega⟩
  case round =>
    obtain ⟨e, m, rfl, rfl, he, he', hm0, hm⟩ := hrel
    by_cases hc : e < 0 ∧ 0 < m
    · obtain ⟨c1, c2⟩ := hc
      go_wp2
      go_round
      case rel => exact ⟨e + 1, m / 2, rfl, rfl, by omega, by omega, by omega, by omega⟩
      case measure => simp [intOf]; omega
    · by_cases c1 : e < 0
      · have c2 : ¬ 0 < m := by omega
        clear hc
        go_wp2_with fail
        refine (rsign_any x _).mono ?_
        rintro e' w1 ⟨rfl, rfl⟩
        cases hs : sg x
        · have HW := hid (whole_end HF.out HX.out _ hs)
          clear hs
          go_wp2
          go_ret
          exact ⟨ret_i HW.out.symm, rfl⟩
        · have HW := hid (whole_end HF.out HX.out _ hs)
          clear hs
          go_wp2
          go_ret
          exact ⟨ret_i HW.out.symm, rfl⟩
      · clear hc
        go_wp2_with fail
        refine (rsign_any x _).mono ?_
        rintro e' w1 ⟨rfl, rfl⟩
        cases hs : sg x
        · have HW := hid (whole_end HF.out HX.out _ hs)
          clear hs
          go_wp2
          go_ret
          exact ⟨ret_i HW.out.symm, rfl⟩
        · have HW := hid (whole_end HF.out HX.out _ hs)
          clear hs
          go_wp2
          go_ret
          exact ⟨ret_i HW.out.symm, rfl⟩

set_option maxRecDepth 100000 in
set_option maxHeartbeats 1000000 in
theorem rwhole_top (x R : Int) (h1 : -9223372036854775808 ≤ x) (h2 : x ≤ 9223372036854775807) (hn : nanX x = false) (HR : Hid (((rs x : Nat) : Int) = R)) (r1 : 4845873199050653696 ≤ R) (r2 : R ≤ 9223372036854775807) (w : World) :
    Calls Tryd.prog 43 #[.int .i64 x] w fun e w' => e = .returned (.int .i64 (wholeX x)) ∧ w' = w := by
  have HX := hid (whole_eq x hn)
  have HN := hid hn
  have HF := hid (show ((whR (rs x) : Nat) : Int) = 9007199254740992 by rw [wh_top (by have := HR.out; omega)]; rfl)
  generalize ((whR (rs x) : Nat) : Int) = Z at *
  clear hn
  have hb : (R / 4503599627370496 == 0) = false := by rw [beq_eq_false_iff_ne]; omega
  have g1 : 0 < R / 4503599627370496 - 1075 := by omega
  go_enter Tryd.func43, Tryd.ntmps43
  go_wp2_with fail
  refine (rnan_any x h1 h2 _).mono ?_
  rintro e w1 ⟨rfl, rfl⟩
  rw [HN.out]
  go_wp2_with fail
  refine (rrest_any x h1 h2 _).mono ?_
  rintro e w1 ⟨rfl, rfl⟩
  rw [HR.out]
  go_wp2_with fail
  go_loop [5, 6] (fun t u => ∃ e : Int, t = .int .i64 e ∧ u = .int .i64 9007199254740992 ∧ 0 < e) (fun t _ => 0)
  case atStart => exact ⟨_, rfl, rfl, by omega⟩
  case round =>
    obtain ⟨e, rfl, rfl, he⟩ := hrel
    have c1 : ¬ e < 0 := by omega
    go_wp2_with fail
    refine (rsign_any x _).mono ?_
    rintro e' w1 ⟨rfl, rfl⟩
    cases hs : sg x
    · have HW := hid (whole_end HF.out HX.out _ hs)
      clear hs
      go_wp2
      go_ret
      exact ⟨ret_i HW.out.symm, rfl⟩
    · have HW := hid (whole_end HF.out HX.out _ hs)
      clear hs
      go_wp2
      go_ret
      exact ⟨ret_i HW.out.symm, rfl⟩

theorem rwhole_any (x : Int) (h1 : -9223372036854775808 ≤ x) (h2 : x ≤ 9223372036854775807) (w : World) :
    Calls Tryd.prog 43 #[.int .i64 x] w fun e w' => e = .returned (.int .i64 (wholeX x)) ∧ w' = w := by
  have hlt := rs_lt h1 h2
  cases hn : nanX x
  · by_cases c1 : rs x < 4503599627370496
    · exact rwhole_low x _ h1 h2 hn (hid rfl) (by omega) (by omega) w
    · by_cases c2 : rs x < 4845873199050653696
      · exact rwhole_mid x _ h1 h2 hn (hid rfl) (by omega) (by omega) w
      · exact rwhole_top x _ h1 h2 hn (hid rfl) (by omega) (by omega) w
  · exact rwhole_nan x h1 h2 hn w
end Go.Proofs.YtedldckijblnhaaDoor
