/-
  What the document's own May returns, and that nothing that was there is written.
-/
import Derived.Test.YtedldckijblnhaaDoorIRef
namespace Go.Proofs.YtedldckijblnhaaDoor
open Go.RowKit
set_option linter.unusedVariables false


set_option maxRecDepth 100000 in
set_option maxHeartbeats 4000000 in
theorem rimay_two (o a b : Int) (w : World) (ho : o = 2 ∨ o = 3 ∨ o = 4 ∨ o = 5 ∨ o = 6 ∨ o = 7 ∨ o = 8 ∨ o = 9 ∨ o = 15) :
    Calls Tryd.prog 23 #[.agg #[.int .i64 o, .int .i64 a, .int .i64 b]] w fun e w' => e = .returned (.bool (mayI ⟨o, a, b⟩)) ∧ Below w.heap.size w w' := by
  have HM := hid (show mayI ⟨o, a, b⟩ = (wiB 1 a && wiB 1 b) by
    rw [mayI_ops o a b (by omega) (by omega)]
    rcases ho with rfl | rfl | rfl | rfl | rfl | rfl | rfl | rfl | rfl <;> rfl)
  generalize mayI ⟨o, a, b⟩ = mm at *
  have HB := hid (alloc_belowI w (.cells #[.int .i64 o, .int .i64 a, .int .i64 b] 44))
  generalize hpb : wiB 1 b = pb at *
  obtain ⟨pa, hpa⟩ : ∃ p, wiB 1 a = p := ⟨_, rfl⟩
  rw [hpa] at HM
  by_cases hb : 0 ≤ b
  · cases pa
    · simp only [Bool.false_and] at HM
      rcases ho with rfl | rfl | rfl | rfl | rfl | rfl | rfl | rfl | rfl
      all_goals
        go_enter Tryd.func23, Tryd.ntmps23
        go_wp2_with fail
        refine (register_any _ _).mono ?_
        rintro e w' ⟨rfl, rfl⟩
        rw [hpa]
        go_wp2_with fail
        refine (register_any _ _).mono ?_
        rintro e w' ⟨rfl, rfl⟩
        rw [hpb]
        go_wp2
        go_ret
        exact ⟨by rw [HM.out]; rfl, HB.out⟩
    · simp only [Bool.true_and] at HM
      rcases ho with rfl | rfl | rfl | rfl | rfl | rfl | rfl | rfl | rfl
      all_goals
        go_enter Tryd.func23, Tryd.ntmps23
        go_wp2_with fail
        refine (register_any _ _).mono ?_
        rintro e w' ⟨rfl, rfl⟩
        rw [hpa]
        go_wp2_with fail
        refine (register_any _ _).mono ?_
        rintro e w' ⟨rfl, rfl⟩
        rw [hpb]
        go_wp2
        go_ret
        exact ⟨by rw [HM.out]; rfl, HB.out⟩
  · cases pa
    · simp only [Bool.false_and] at HM
      rcases ho with rfl | rfl | rfl | rfl | rfl | rfl | rfl | rfl | rfl
      all_goals
        go_enter Tryd.func23, Tryd.ntmps23
        go_wp2_with fail
        refine (register_any _ _).mono ?_
        rintro e w' ⟨rfl, rfl⟩
        rw [hpa]
        go_wp2_with fail
        refine (register_any _ _).mono ?_
        rintro e w' ⟨rfl, rfl⟩
        rw [hpb]
        go_wp2
        go_ret
        exact ⟨by rw [HM.out]; rfl, HB.out⟩
    · simp only [Bool.true_and] at HM
      rcases ho with rfl | rfl | rfl | rfl | rfl | rfl | rfl | rfl | rfl
      all_goals
        go_enter Tryd.func23, Tryd.ntmps23
        go_wp2_with fail
        refine (register_any _ _).mono ?_
        rintro e w' ⟨rfl, rfl⟩
        rw [hpa]
        go_wp2_with fail
        refine (register_any _ _).mono ?_
        rintro e w' ⟨rfl, rfl⟩
        rw [hpb]
        go_wp2
        go_ret
        exact ⟨by rw [HM.out]; rfl, HB.out⟩
end Go.Proofs.YtedldckijblnhaaDoor
