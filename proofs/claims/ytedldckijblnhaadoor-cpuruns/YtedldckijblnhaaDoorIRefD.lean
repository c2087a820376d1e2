/-
  What the document's own May returns, and that nothing that was there is written.
-/
import Derived.Test.YtedldckijblnhaaDoorIRefB
import Derived.Test.YtedldckijblnhaaDoorIRefC
namespace Go.Proofs.YtedldckijblnhaaDoor
open Go.RowKit
set_option linter.unusedVariables false


set_option maxRecDepth 100000 in
set_option maxHeartbeats 4000000 in
theorem rimay_any (i : In) (w : World) :
    Calls Tryd.prog 23 #[i.val] w fun e w' => e = .returned (.bool (mayI i)) ∧ Below w.heap.size w w' := by
  obtain ⟨o, a, b⟩ := i
  unfold In.val
  simp only
  by_cases ho : o < 0 ∨ 20 ≤ o
  · have HB := hid (alloc_belowI w (.cells #[.int .i64 o, .int .i64 a, .int .i64 b] 44))
    rw [mayI_out o a b ho]
    by_cases hb : 0 ≤ b
    all_goals
      go_enter Tryd.func23, Tryd.ntmps23
      go_wp2_with (first | (go_at_call 35; refine (register_any _ _).mono ?_; rintro e w' ⟨rfl, rfl⟩))
      all_goals
        go_ret
        exact ⟨rfl, HB.out⟩
  · by_cases h1 : o = 0
    · exact rimay_halt o a b w h1
    by_cases h2 : o = 10
    · exact rimay_jump o a b w h2
    by_cases h3 : o = 19
    · exact rimay_call o a b w h3
    by_cases h4 : o = 11
    · exact rimay_zero o a b w h4
    by_cases h5 : o = 1
    · exact rimay_set o a b w h5
    by_cases h6 : o = 12 ∨ o = 13 ∨ o = 14 ∨ o = 16 ∨ o = 17 ∨ o = 18
    · exact rimay_one o a b w h6
    · exact rimay_two o a b w (by omega)
end Go.Proofs.YtedldckijblnhaaDoor
