/-
  What package real's Of and Whole return, whatever they are given, and that nothing that was there is written.
-/
import Derived.Test.YtedldckijblnhaaDoorRReal
namespace Go.Proofs.YtedldckijblnhaaDoor
open Go.RowKit Ieee
set_option linter.unusedVariables false

theorem clamp_bd (n : Int) : -9007199254740992 ≤ clamp n ∧ clamp n ≤ 9007199254740992 := by unfold clamp; omega
theorem sg_clamp (n : Int) : decide (clamp n < 0) = sg n := by
  unfold sg; congr 1; apply propext; unfold clamp; omega

theorem of_float (n : Int) : floatOfInt .f64 (clamp n) = double.word (sg n) (ofR (clamp n).natAbs) := by
  have hb := clamp_bd n
  have h := nearest_of (decide (clamp n < 0)) (clamp n).natAbs (by omega)
  rw [sg_clamp] at h
  rw [← h, ← sg_clamp]
  rfl

set_option maxHeartbeats 400000 in
theorem of_any (n : Int) (h1 : -9223372036854775808 ≤ n) (h2 : n ≤ 9223372036854775807) (w : World) :
    Calls Tryd.prog 69 #[.int .i64 n] w fun e w' => e = .returned (.int .i64 (ofX n)) ∧ w' = w := by
  have hb := clamp_bd n
  have hle := of_lt (clamp n).natAbs (by omega)
  have H := hid (of_float n)
  clear hb
  by_cases c1 : n < -9007199254740992
  · have hc : clamp n = -9007199254740992 := by unfold clamp; omega
    have HO := hid (show ofX n = wd (sg n) (ofR (clamp n).natAbs) from rfl)
    have c2 : n ≤ -9007199254740992 := by omega
    generalize ofR (clamp n).natAbs = r at *
    rw [hc] at H
    clear hc
    go_enter Tryd.func69, Tryd.ntmps69
    go_wp2_with fail
    rw [H.out]
    refine (bits_num _ _ (by omega) _).mono ?_
    rintro e w1 ⟨rfl, rfl⟩
    go_wp2
    go_ret
    exact ⟨ret_i HO.out.symm, rfl⟩
  · by_cases c3 : 9007199254740992 < n
    · have hc : clamp n = 9007199254740992 := by unfold clamp; omega
      have HO := hid (show ofX n = wd (sg n) (ofR (clamp n).natAbs) from rfl)
      have c2 : ¬ n ≤ -9007199254740992 := by omega
      have c4 : ¬ n ≤ 9007199254740992 := by omega
      generalize ofR (clamp n).natAbs = r at *
      rw [hc] at H
      clear hc
      go_enter Tryd.func69, Tryd.ntmps69
      go_wp2_with fail
      rw [H.out]
      refine (bits_num _ _ (by omega) _).mono ?_
      rintro e w1 ⟨rfl, rfl⟩
      go_wp2
      go_ret
      exact ⟨ret_i HO.out.symm, rfl⟩
    · have hc : clamp n = n := by unfold clamp; omega
      have HO := hid (show ofX n = wd (sg n) (ofR (clamp n).natAbs) from rfl)
      have c4 : n ≤ 9007199254740992 := by omega
      have c5 : -9007199254740992 ≤ n := by omega
      generalize ofR (clamp n).natAbs = r at *
      rw [hc] at H
      clear hc
      go_enter Tryd.func69, Tryd.ntmps69
      go_wp2_with fail
      rw [H.out]
      refine (bits_num _ _ (by omega) _).mono ?_
      rintro e w1 ⟨rfl, rfl⟩
      go_wp2
      go_ret
      exact ⟨ret_i HO.out.symm, rfl⟩

theorem big_word : (4845873199050653696 : Nat) = double.word false 4845873199050653696 := by rw [word_eq]; rfl
theorem nbig_word : (14069245235905429504 : Nat) = double.word true 4845873199050653696 := by rw [word_eq]; rfl

theorem fb_lt {x : Int} (h1 : -9223372036854775808 ≤ x) (h2 : x ≤ 9223372036854775807) : (FloatKind.f64.format.order (fb x) 14069245235905429504 == some .lt) = (sg x && decide (rs x ≤ 9218868437227405312) && decide (4845873199050653696 < rs x)) := by
  unfold fb
  show (double.order _ _ == _) = _
  rw [nbig_word, lt_any _ _ _ _ (rs_lt h1 h2) (by omega)]
  unfold blw plac
  rw [Bool.eq_iff_iff]
  cases sg x <;> simp <;> omega
theorem fb_gt {x : Int} (h1 : -9223372036854775808 ≤ x) (h2 : x ≤ 9223372036854775807) : (FloatKind.f64.format.order (fb x) 4845873199050653696 == some .gt) = (!sg x && decide (rs x ≤ 9218868437227405312) && decide (4845873199050653696 < rs x)) := by
  unfold fb
  show (double.order _ _ == _) = _
  conv => lhs; rw [big_word]
  rw [gt_any _ _ _ _ (rs_lt h1 h2) (by omega)]
  unfold blw plac
  rw [Bool.eq_iff_iff]
  cases sg x <;> simp <;> omega

theorem fb_int {x : Int} (h : rs x ≤ 4845873199050653696) : floatToIntVal .f64 (fb x) .i64 = some (if sg x then -(whR (rs x) : Int) else (whR (rs x) : Int)) := by
  unfold floatToIntVal
  have := toInt_whole (sg x) (rs x) h
  rw [show FloatKind.f64.decode (fb x) = double.read (double.word (sg x) (rs x)) from rfl, this]
  have hl := wh_le (rs x)
  have hmi : IntKind.i64.min = -9223372036854775808 := by decide
  simp only [hmi, IntKind.max_i64]
  rw [if_pos (by split <;> omega)]

set_option maxHeartbeats 400000 in
theorem whole_any (x : Int) (h1 : -9223372036854775808 ≤ x) (h2 : x ≤ 9223372036854775807) (w : World) :
    Calls Tryd.prog 71 #[.int .i64 x] w fun e w' => e = .returned (.int .i64 (wholeX x)) ∧ w' = w := by
  have hlt := rs_lt h1 h2
  by_cases hn : 9218868437227405312 < rs x
  · have HX := hid (show wholeX x = 0 by unfold wholeX nanX; rw [decide_eq_true hn]; rfl)
    have HN := hid (show (double.order (fb x) (fb x) != some .eq) = true by unfold fb; rw [ne_self _ _ hlt]; exact decide_eq_true hn)
    clear hn hlt
    go_enter Tryd.func71, Tryd.ntmps71
    go_wp2_with fail
    refine (float_any x h1 h2 _).mono ?_
    rintro e w1 ⟨rfl, rfl⟩
    go_wp2_with fail
    refine (isnan_any _ _).mono ?_
    rintro e w1 ⟨rfl, rfl⟩
    rw [HN.out]
    go_wp2
    go_ret
    exact ⟨ret_i HX.out.symm, rfl⟩
  have HN := hid (show (double.order (fb x) (fb x) != some .eq) = false by unfold fb; rw [ne_self _ _ hlt]; exact decide_eq_false hn)
  have hlo := fb_lt h1 h2
  have hhi := fb_gt h1 h2
  by_cases hb : 4845873199050653696 < rs x
  · have hw : whR (rs x) = 9007199254740992 := by unfold whR; rw [if_pos (by omega)]
    rw [decide_eq_true (show rs x ≤ 9218868437227405312 by omega), decide_eq_true hb] at hlo hhi
    cases hs : sg x
    · rw [hs] at hlo hhi
      have HX := hid (show wholeX x = 9007199254740992 by unfold wholeX nanX; rw [decide_eq_false hn, hs, hw]; rfl)
      simp only [Bool.false_and, Bool.not_false, Bool.true_and] at hlo hhi
      clear hn hlt hb hw hs
      go_enter Tryd.func71, Tryd.ntmps71
      go_wp2_with fail
      refine (float_any x h1 h2 _).mono ?_
      rintro e w1 ⟨rfl, rfl⟩
      go_wp2_with fail
      refine (isnan_any _ _).mono ?_
      rintro e w1 ⟨rfl, rfl⟩
      rw [HN.out]
      go_wp2
      go_ret
      exact ⟨ret_i HX.out.symm, rfl⟩
    · rw [hs] at hlo hhi
      have HX := hid (show wholeX x = -9007199254740992 by unfold wholeX nanX; rw [decide_eq_false hn, hs, hw]; rfl)
      simp only [Bool.false_and, Bool.not_true, Bool.true_and] at hlo hhi
      clear hn hlt hb hw hs
      go_enter Tryd.func71, Tryd.ntmps71
      go_wp2_with fail
      refine (float_any x h1 h2 _).mono ?_
      rintro e w1 ⟨rfl, rfl⟩
      go_wp2_with fail
      refine (isnan_any _ _).mono ?_
      rintro e w1 ⟨rfl, rfl⟩
      rw [HN.out]
      go_wp2
      go_ret
      exact ⟨ret_i HX.out.symm, rfl⟩
  · rw [decide_eq_false hb, Bool.and_false] at hlo hhi
    have hc := fun w => run_convert_float_int (P := Tryd.prog) w 95 3 .f64 .i64 (fb x) _ (by rw [Tryd.underlying95]; rfl) Tryd.underlying3 (fb_int (x := x) (by omega))
    have HX := hid (show wholeX x = (if sg x then -(whR (rs x) : Int) else (whR (rs x) : Int)) by unfold wholeX nanX; rw [decide_eq_false hn]; rfl)
    generalize (if sg x then -(whR (rs x) : Int) else (whR (rs x) : Int)) = z at *
    clear hn hlt hb
    go_enter Tryd.func71, Tryd.ntmps71
    go_wp2_with fail
    refine (float_any x h1 h2 _).mono ?_
    rintro e w1 ⟨rfl, rfl⟩
    go_wp2_with fail
    refine (isnan_any _ _).mono ?_
    rintro e w1 ⟨rfl, rfl⟩
    rw [HN.out]
    go_wp2
    go_ret
    exact ⟨ret_i HX.out.symm, rfl⟩

theorem wd_bd (s : Bool) (r : Nat) (h : r < 9223372036854775808) : -9223372036854775808 ≤ wd s r ∧ wd s r ≤ 9223372036854775807 := by
  unfold wd; cases s <;> simp <;> omega
theorem half_bd {x : Int} (h1 : -9223372036854775808 ≤ x) (h2 : x ≤ 9223372036854775807) : -9223372036854775808 ≤ halfX x ∧ halfX x ≤ 9223372036854775807 := by
  unfold halfX nanX
  by_cases h : 9218868437227405312 < rs x
  · simp [h, NONE]
  · have := haR_le (rs x) (by omega)
    simp only [h, decide_false, Bool.false_eq_true, if_false]; exact wd_bd _ _ (by omega)
theorem twice_bd {x : Int} (h1 : -9223372036854775808 ≤ x) (h2 : x ≤ 9223372036854775807) : -9223372036854775808 ≤ twiceX x ∧ twiceX x ≤ 9223372036854775807 := by
  unfold twiceX nanX
  by_cases h : 9218868437227405312 < rs x
  · simp [h, NONE]
  · have := twR_le (rs x) (by omega)
    simp only [h, decide_false, Bool.false_eq_true, if_false]; exact wd_bd _ _ (by omega)
theorem flip_bd {x : Int} (h1 : -9223372036854775808 ≤ x) (h2 : x ≤ 9223372036854775807) : -9223372036854775808 ≤ flipX x ∧ flipX x ≤ 9223372036854775807 := by
  unfold flipX nanX
  by_cases h : 9218868437227405312 < rs x
  · simp [h, NONE]
  · simp only [h, decide_false, Bool.false_eq_true, if_false]; exact wd_bd _ _ (by omega)
theorem of_bd (n : Int) : -9223372036854775808 ≤ ofX n ∧ ofX n ≤ 9223372036854775807 := by
  have hb := clamp_bd n
  have hle := of_lt (clamp n).natAbs (by omega)
  exact wd_bd _ _ (by omega)
theorem whole_bd (x : Int) : -9007199254740992 ≤ wholeX x ∧ wholeX x ≤ 9007199254740992 := by
  have := wh_le (rs x)
  unfold wholeX
  split
  · omega
  · split <;> omega

end Go.Proofs.YtedldckijblnhaaDoor
