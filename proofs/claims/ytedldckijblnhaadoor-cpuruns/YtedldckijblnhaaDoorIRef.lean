/-
  What the document's own May returns, and that nothing that was there is written.
-/
import Derived.Test.YtedldckijblnhaaDoorIMay
namespace Go.Proofs.YtedldckijblnhaaDoor
open Go.RowKit
set_option linter.unusedVariables false

theorem mayI_ops (o a b : Int) (h0 : 0 ≤ o) (h1 : o < 20) : mayI ⟨o, a, b⟩ = (wiB (rowA o.toNat) a && wiB (rowB o.toNat) b) := by simp [mayI, h0, h1]
theorem mayI_out (o a b : Int) (h : o < 0 ∨ 20 ≤ o) : mayI ⟨o, a, b⟩ = false := by simp [mayI]; omega
theorem wiB_none (n : Int) : wiB 0 n = (n == 0) := by rw [Bool.eq_iff_iff]; simp [wiB, rowLo, rowHi]; omega
theorem wiB_set (n : Int) : wiB 2 n = (decide (-549755813888 ≤ n) && decide (n ≤ 549755813888)) := rfl
theorem wiB_place (n : Int) : wiB 3 n = (decide (0 ≤ n) && decide (n < 64)) := by rw [Bool.eq_iff_iff]; simp [wiB, rowLo, rowHi]; omega
theorem wiB_call (n : Int) : wiB 4 n = (decide (0 ≤ n) && decide (n < 26)) := by rw [Bool.eq_iff_iff]; simp [wiB, rowLo, rowHi]; omega

set_option maxRecDepth 100000 in
set_option maxHeartbeats 4000000 in
theorem rimay_halt (o a b : Int) (w : World) (ho : o = 0) :
    Calls Tryd.prog 23 #[.agg #[.int .i64 o, .int .i64 a, .int .i64 b]] w fun e w' => e = .returned (.bool (mayI ⟨o, a, b⟩)) ∧ Below w.heap.size w w' := by
  have HM := hid (show mayI ⟨o, a, b⟩ = (wiB 0 a && wiB 0 b) by
    rw [mayI_ops o a b (by omega) (by omega)]
    rcases ho with rfl <;> rfl)
  generalize mayI ⟨o, a, b⟩ = mm at *
  have HB := hid (alloc_belowI w (.cells #[.int .i64 o, .int .i64 a, .int .i64 b] 44))
  rw [wiB_none, wiB_none] at HM
  subst ho
  by_cases hb : 0 ≤ b
  · by_cases ha : (a == 0) = true
    · rw [ha] at HM
      simp only [Bool.true_and] at HM
      go_enter Tryd.func23, Tryd.ntmps23
      go_wp2_with fail
      refine (register_any _ _).mono ?_
      rintro e w' ⟨rfl, rfl⟩
      go_wp2_with fail
      refine (register_any _ _).mono ?_
      rintro e w' ⟨rfl, rfl⟩
      go_wp2
      go_ret
      exact ⟨by rw [HM.out]; rfl, HB.out⟩
    · have ha' : (a == 0) = false := by simpa using ha
      rw [ha'] at HM
      simp only [Bool.false_and] at HM
      go_enter Tryd.func23, Tryd.ntmps23
      go_wp2_with fail
      refine (register_any _ _).mono ?_
      rintro e w' ⟨rfl, rfl⟩
      go_wp2_with fail
      refine (register_any _ _).mono ?_
      rintro e w' ⟨rfl, rfl⟩
      go_wp2
      go_ret
      exact ⟨by rw [HM.out]; rfl, HB.out⟩
  · by_cases ha : (a == 0) = true
    · rw [ha] at HM
      simp only [Bool.true_and] at HM
      go_enter Tryd.func23, Tryd.ntmps23
      go_wp2_with fail
      refine (register_any _ _).mono ?_
      rintro e w' ⟨rfl, rfl⟩
      go_wp2_with fail
      refine (register_any _ _).mono ?_
      rintro e w' ⟨rfl, rfl⟩
      go_wp2
      go_ret
      exact ⟨by rw [HM.out]; rfl, HB.out⟩
    · have ha' : (a == 0) = false := by simpa using ha
      rw [ha'] at HM
      simp only [Bool.false_and] at HM
      go_enter Tryd.func23, Tryd.ntmps23
      go_wp2_with fail
      refine (register_any _ _).mono ?_
      rintro e w' ⟨rfl, rfl⟩
      go_wp2_with fail
      refine (register_any _ _).mono ?_
      rintro e w' ⟨rfl, rfl⟩
      go_wp2
      go_ret
      exact ⟨by rw [HM.out]; rfl, HB.out⟩

set_option maxRecDepth 100000 in
set_option maxHeartbeats 4000000 in
theorem rimay_jump (o a b : Int) (w : World) (ho : o = 10) :
    Calls Tryd.prog 23 #[.agg #[.int .i64 o, .int .i64 a, .int .i64 b]] w fun e w' => e = .returned (.bool (mayI ⟨o, a, b⟩)) ∧ Below w.heap.size w w' := by
  have HM := hid (show mayI ⟨o, a, b⟩ = (wiB 0 a && wiB 3 b) by
    rw [mayI_ops o a b (by omega) (by omega)]
    rcases ho with rfl <;> rfl)
  generalize mayI ⟨o, a, b⟩ = mm at *
  have HB := hid (alloc_belowI w (.cells #[.int .i64 o, .int .i64 a, .int .i64 b] 44))
  rw [wiB_none, wiB_place] at HM
  subst ho
  by_cases hb : 0 ≤ b
  · by_cases ha : (a == 0) = true
    · rw [ha, decide_eq_true hb] at HM
      simp only [Bool.true_and] at HM
      go_enter Tryd.func23, Tryd.ntmps23
      go_wp2_with fail
      refine (register_any _ _).mono ?_
      rintro e w' ⟨rfl, rfl⟩
      go_wp2_with fail
      refine (register_any _ _).mono ?_
      rintro e w' ⟨rfl, rfl⟩
      go_wp2
      go_ret
      exact ⟨by rw [HM.out]; rfl, HB.out⟩
    · have ha' : (a == 0) = false := by simpa using ha
      rw [ha'] at HM
      simp only [Bool.false_and] at HM
      go_enter Tryd.func23, Tryd.ntmps23
      go_wp2_with fail
      refine (register_any _ _).mono ?_
      rintro e w' ⟨rfl, rfl⟩
      go_wp2_with fail
      refine (register_any _ _).mono ?_
      rintro e w' ⟨rfl, rfl⟩
      go_wp2
      go_ret
      exact ⟨by rw [HM.out]; rfl, HB.out⟩
  · by_cases ha : (a == 0) = true
    · rw [ha, decide_eq_false hb] at HM
      simp only [Bool.true_and, Bool.false_and] at HM
      go_enter Tryd.func23, Tryd.ntmps23
      go_wp2_with fail
      refine (register_any _ _).mono ?_
      rintro e w' ⟨rfl, rfl⟩
      go_wp2_with fail
      refine (register_any _ _).mono ?_
      rintro e w' ⟨rfl, rfl⟩
      go_wp2
      go_ret
      exact ⟨by rw [HM.out]; rfl, HB.out⟩
    · have ha' : (a == 0) = false := by simpa using ha
      rw [ha'] at HM
      simp only [Bool.false_and] at HM
      go_enter Tryd.func23, Tryd.ntmps23
      go_wp2_with fail
      refine (register_any _ _).mono ?_
      rintro e w' ⟨rfl, rfl⟩
      go_wp2_with fail
      refine (register_any _ _).mono ?_
      rintro e w' ⟨rfl, rfl⟩
      go_wp2
      go_ret
      exact ⟨by rw [HM.out]; rfl, HB.out⟩

set_option maxRecDepth 100000 in
set_option maxHeartbeats 4000000 in
theorem rimay_call (o a b : Int) (w : World) (ho : o = 19) :
    Calls Tryd.prog 23 #[.agg #[.int .i64 o, .int .i64 a, .int .i64 b]] w fun e w' => e = .returned (.bool (mayI ⟨o, a, b⟩)) ∧ Below w.heap.size w w' := by
  have HM := hid (show mayI ⟨o, a, b⟩ = (wiB 0 a && wiB 4 b) by
    rw [mayI_ops o a b (by omega) (by omega)]
    rcases ho with rfl <;> rfl)
  generalize mayI ⟨o, a, b⟩ = mm at *
  have HB := hid (alloc_belowI w (.cells #[.int .i64 o, .int .i64 a, .int .i64 b] 44))
  rw [wiB_none, wiB_call] at HM
  subst ho
  by_cases hb : 0 ≤ b
  · by_cases ha : (a == 0) = true
    · rw [ha, decide_eq_true hb] at HM
      simp only [Bool.true_and] at HM
      go_enter Tryd.func23, Tryd.ntmps23
      go_wp2_with fail
      refine (register_any _ _).mono ?_
      rintro e w' ⟨rfl, rfl⟩
      go_wp2_with fail
      refine (register_any _ _).mono ?_
      rintro e w' ⟨rfl, rfl⟩
      go_wp2
      go_ret
      exact ⟨by rw [HM.out]; rfl, HB.out⟩
    · have ha' : (a == 0) = false := by simpa using ha
      rw [ha'] at HM
      simp only [Bool.false_and] at HM
      go_enter Tryd.func23, Tryd.ntmps23
      go_wp2_with fail
      refine (register_any _ _).mono ?_
      rintro e w' ⟨rfl, rfl⟩
      go_wp2_with fail
      refine (register_any _ _).mono ?_
      rintro e w' ⟨rfl, rfl⟩
      go_wp2
      go_ret
      exact ⟨by rw [HM.out]; rfl, HB.out⟩
  · by_cases ha : (a == 0) = true
    · rw [ha, decide_eq_false hb] at HM
      simp only [Bool.true_and, Bool.false_and] at HM
      go_enter Tryd.func23, Tryd.ntmps23
      go_wp2_with fail
      refine (register_any _ _).mono ?_
      rintro e w' ⟨rfl, rfl⟩
      go_wp2_with fail
      refine (register_any _ _).mono ?_
      rintro e w' ⟨rfl, rfl⟩
      go_wp2
      go_ret
      exact ⟨by rw [HM.out]; rfl, HB.out⟩
    · have ha' : (a == 0) = false := by simpa using ha
      rw [ha'] at HM
      simp only [Bool.false_and] at HM
      go_enter Tryd.func23, Tryd.ntmps23
      go_wp2_with fail
      refine (register_any _ _).mono ?_
      rintro e w' ⟨rfl, rfl⟩
      go_wp2_with fail
      refine (register_any _ _).mono ?_
      rintro e w' ⟨rfl, rfl⟩
      go_wp2
      go_ret
      exact ⟨by rw [HM.out]; rfl, HB.out⟩

set_option maxRecDepth 100000 in
set_option maxHeartbeats 4000000 in
theorem rimay_zero (o a b : Int) (w : World) (ho : o = 11) :
    Calls Tryd.prog 23 #[.agg #[.int .i64 o, .int .i64 a, .int .i64 b]] w fun e w' => e = .returned (.bool (mayI ⟨o, a, b⟩)) ∧ Below w.heap.size w w' := by
  have HM := hid (show mayI ⟨o, a, b⟩ = (wiB 1 a && wiB 3 b) by
    rw [mayI_ops o a b (by omega) (by omega)]
    rcases ho with rfl <;> rfl)
  generalize mayI ⟨o, a, b⟩ = mm at *
  have HB := hid (alloc_belowI w (.cells #[.int .i64 o, .int .i64 a, .int .i64 b] 44))
  rw [wiB_place] at HM
  obtain ⟨pa, hpa⟩ : ∃ p, wiB 1 a = p := ⟨_, rfl⟩
  rw [hpa] at HM
  by_cases hb : 0 ≤ b
  · cases pa
    · simp only [Bool.false_and] at HM
      subst ho
      all_goals
        go_enter Tryd.func23, Tryd.ntmps23
        go_wp2_with fail
        refine (register_any _ _).mono ?_
        rintro e w' ⟨rfl, rfl⟩
        rw [hpa]
        go_wp2_with fail
        refine (register_any _ _).mono ?_
        rintro e w' ⟨rfl, rfl⟩
        go_wp2
        go_ret
        exact ⟨by rw [HM.out]; rfl, HB.out⟩
    · rw [decide_eq_true hb] at HM; simp only [Bool.true_and] at HM
      subst ho
      all_goals
        go_enter Tryd.func23, Tryd.ntmps23
        go_wp2_with fail
        refine (register_any _ _).mono ?_
        rintro e w' ⟨rfl, rfl⟩
        rw [hpa]
        go_wp2_with fail
        refine (register_any _ _).mono ?_
        rintro e w' ⟨rfl, rfl⟩
        go_wp2
        go_ret
        exact ⟨by rw [HM.out]; rfl, HB.out⟩
  · cases pa
    · simp only [Bool.false_and] at HM
      subst ho
      all_goals
        go_enter Tryd.func23, Tryd.ntmps23
        go_wp2_with fail
        refine (register_any _ _).mono ?_
        rintro e w' ⟨rfl, rfl⟩
        rw [hpa]
        go_wp2_with fail
        refine (register_any _ _).mono ?_
        rintro e w' ⟨rfl, rfl⟩
        go_wp2
        go_ret
        exact ⟨by rw [HM.out]; rfl, HB.out⟩
    · rw [decide_eq_false hb] at HM; simp only [Bool.true_and, Bool.false_and] at HM
      subst ho
      all_goals
        go_enter Tryd.func23, Tryd.ntmps23
        go_wp2_with fail
        refine (register_any _ _).mono ?_
        rintro e w' ⟨rfl, rfl⟩
        rw [hpa]
        go_wp2_with fail
        refine (register_any _ _).mono ?_
        rintro e w' ⟨rfl, rfl⟩
        go_wp2
        go_ret
        exact ⟨by rw [HM.out]; rfl, HB.out⟩

set_option maxRecDepth 100000 in
set_option maxHeartbeats 4000000 in
theorem rimay_set (o a b : Int) (w : World) (ho : o = 1) :
    Calls Tryd.prog 23 #[.agg #[.int .i64 o, .int .i64 a, .int .i64 b]] w fun e w' => e = .returned (.bool (mayI ⟨o, a, b⟩)) ∧ Below w.heap.size w w' := by
  have HM := hid (show mayI ⟨o, a, b⟩ = (wiB 1 a && wiB 2 b) by
    rw [mayI_ops o a b (by omega) (by omega)]
    rcases ho with rfl <;> rfl)
  generalize mayI ⟨o, a, b⟩ = mm at *
  have HB := hid (alloc_belowI w (.cells #[.int .i64 o, .int .i64 a, .int .i64 b] 44))
  rw [wiB_set] at HM
  subst ho
  obtain ⟨pa, hpa⟩ : ∃ p, wiB 1 a = p := ⟨_, rfl⟩
  rw [hpa] at HM
  by_cases hb : 0 ≤ b
  · cases pa
    · simp only [Bool.false_and] at HM
      go_enter Tryd.func23, Tryd.ntmps23
      go_wp2_with fail
      refine (register_any _ _).mono ?_
      rintro e w' ⟨rfl, rfl⟩
      rw [hpa]
      go_wp2_with fail
      refine (register_any _ _).mono ?_
      rintro e w' ⟨rfl, rfl⟩
      go_wp2
      go_ret
      exact ⟨by rw [HM.out]; rfl, HB.out⟩
    · rw [decide_eq_true (show -549755813888 ≤ b by omega)] at HM
      simp only [Bool.true_and] at HM
      go_enter Tryd.func23, Tryd.ntmps23
      go_wp2_with fail
      refine (register_any _ _).mono ?_
      rintro e w' ⟨rfl, rfl⟩
      rw [hpa]
      go_wp2_with fail
      refine (register_any _ _).mono ?_
      rintro e w' ⟨rfl, rfl⟩
      go_wp2
      go_ret
      exact ⟨by rw [HM.out]; rfl, HB.out⟩
  · cases pa
    · simp only [Bool.false_and] at HM
      go_enter Tryd.func23, Tryd.ntmps23
      go_wp2_with fail
      refine (register_any _ _).mono ?_
      rintro e w' ⟨rfl, rfl⟩
      rw [hpa]
      go_wp2_with fail
      refine (register_any _ _).mono ?_
      rintro e w' ⟨rfl, rfl⟩
      go_wp2
      go_ret
      exact ⟨by rw [HM.out]; rfl, HB.out⟩
    · by_cases hb2 : -549755813888 ≤ b
      · rw [decide_eq_true hb2] at HM
        simp only [Bool.true_and] at HM
        go_enter Tryd.func23, Tryd.ntmps23
        go_wp2_with fail
        refine (register_any _ _).mono ?_
        rintro e w' ⟨rfl, rfl⟩
        rw [hpa]
        go_wp2_with fail
        refine (register_any _ _).mono ?_
        rintro e w' ⟨rfl, rfl⟩
        go_wp2
        go_ret
        exact ⟨by rw [HM.out]; rfl, HB.out⟩
      · rw [decide_eq_false hb2] at HM
        simp only [Bool.true_and, Bool.false_and] at HM
        go_enter Tryd.func23, Tryd.ntmps23
        go_wp2_with fail
        refine (register_any _ _).mono ?_
        rintro e w' ⟨rfl, rfl⟩
        rw [hpa]
        go_wp2_with fail
        refine (register_any _ _).mono ?_
        rintro e w' ⟨rfl, rfl⟩
        go_wp2
        go_ret
        exact ⟨by rw [HM.out]; rfl, HB.out⟩
end Go.Proofs.YtedldckijblnhaaDoor
