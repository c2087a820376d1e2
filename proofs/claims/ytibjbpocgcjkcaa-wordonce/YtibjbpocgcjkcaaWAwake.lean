/-
  The chapter's examples hold: quarterdecklaw01.awake returns true, and nothing that was there is written.
-/
import Derived.Test.YtibjbpocgcjkcaaWDiv
import Derived.Test.YtibjbpocgcjkcaaWPut
namespace Go.Proofs.Ytibjbpocgcjkcaa
open Go.RowKit
set_option linter.unusedVariables false

set_option maxRecDepth 100000 in
set_option maxHeartbeats 400000 in
theorem awake_any (w : World) :
    Calls Try.prog 12 #[] w fun e w' => e = .returned (.bool true) ∧ Below w.heap.size w w' := by
  go_enter Try.func12, Try.ntmps12
  go_wp2_with fail
  refine (put_any _ _).mono ?_
  rintro e w1 ⟨v, rfl, hown, hb1⟩
  go_wp2_with fail
  refine (div_any _ _ _).mono ?_
  rintro e w2 ⟨rfl, hb2⟩
  go_wp2_with fail
  refine (div_any _ _ _).mono ?_
  rintro e w3 ⟨rfl, hb3⟩
  have hs := (((Sees.of_owns hown).below hb2).below hb3).str (P := Try.prog) 27 5 9 Try.underlying27 Try.underlying5 Try.underlying9
  have e1 : putE 300 = 0 := by decide
  have e2 : putB 300 = [172, 2] := by decide
  rw [e2] at hs
  rw [e1]
  have hst : ((strOfNums [172, 2]).toList == [172, 2]) = true := by rw [str_toList]; decide
  have e3 : dq (-7) 2 = -3 := by unfold dq; rw [if_neg (by decide)]; exact wrap64_of (by decide) (by decide)
  have e4 : df 2 = 0 := by decide
  have e5 : df 0 = 3 := by decide
  rw [e3, e4, e5]
  clear hown
  go_wp2
  go_ret
  exact ⟨rfl, (hb1.trans (hb2.mono hb1.size)).trans (hb3.mono (Nat.le_trans hb1.size hb2.size))⟩
end Go.Proofs.Ytibjbpocgcjkcaa
