/-
  The laws of layer 2 that hold the program against the document's own answers return true, whatever bits they are given, and nothing that was there is written.
-/
import Derived.Test.YtnaiamhcflkcoaaRRef2
namespace Go.Proofs.Ytnaiamhcflkcoaa
open Go.RowKit
set_option linter.unusedVariables false

set_option maxRecDepth 100000 in
set_option maxHeartbeats 400000 in
theorem walk_RealChanges (w : World) (x : Int) (hx : (Lit.int .i64 x).wf = true) :
    Calls Try.prog 3 #[.int .i64 x] w fun e w' => e = .returned (.bool true) ∧ Below w.heap.size w w' := by
  obtain ⟨h1, h2⟩ := bounds_i64 hx
  go_enter Try.func3, Try.ntmps3
  go_wp2_with fail
  refine (rawake_any _).mono ?_
  rintro e w1 ⟨rfl, hb1⟩
  go_wp2_with fail
  refine (half_any x h1 h2 _).mono ?_
  rintro e w2 ⟨rfl, hb2⟩
  go_wp2_with fail
  refine (rhalf_any x h1 h2 _).mono ?_
  rintro e w3 ⟨rfl, rfl⟩
  generalize halfX x = a
  go_wp2_with fail
  refine (twice_any x h1 h2 _).mono ?_
  rintro e w4 ⟨rfl, hb4⟩
  go_wp2_with fail
  refine (rtwice_any x h1 h2 _).mono ?_
  rintro e w5 ⟨rfl, rfl⟩
  generalize twiceX x = b
  go_wp2_with fail
  refine (flip_any x h1 h2 _).mono ?_
  rintro e w6 ⟨rfl, rfl⟩
  go_wp2_with fail
  refine (rflip_any x h1 h2 _).mono ?_
  rintro e w7 ⟨rfl, rfl⟩
  generalize flipX x = c
  go_wp2
  go_ret
  exact ⟨rfl, (hb1.trans (hb2.mono hb1.size)).trans (hb4.mono (Nat.le_trans hb1.size hb2.size))⟩

set_option maxRecDepth 100000 in
set_option maxHeartbeats 400000 in
theorem walk_RealWhole (w : World) (n : Int) (hn : (Lit.int .i64 n).wf = true) (x : Int) (hx : (Lit.int .i64 x).wf = true) :
    Calls Try.prog 4 #[.int .i64 n, .int .i64 x] w fun e w' => e = .returned (.bool true) ∧ Below w.heap.size w w' := by
  obtain ⟨h1, h2⟩ := bounds_i64 hx
  obtain ⟨h3, h4⟩ := bounds_i64 hn
  go_enter Try.func4, Try.ntmps4
  go_wp2_with fail
  refine (rawake_any _).mono ?_
  rintro e w1 ⟨rfl, hb1⟩
  go_wp2_with fail
  refine (of_any n h3 h4 _).mono ?_
  rintro e w2 ⟨rfl, rfl⟩
  go_wp2_with fail
  refine (rof_any n h3 h4 _).mono ?_
  rintro e w3 ⟨rfl, rfl⟩
  generalize ofX n = a
  go_wp2_with fail
  refine (whole_any x h1 h2 _).mono ?_
  rintro e w4 ⟨rfl, rfl⟩
  go_wp2_with fail
  refine (rwhole_any x h1 h2 _).mono ?_
  rintro e w5 ⟨rfl, rfl⟩
  generalize wholeX x = b
  go_wp2
  go_ret
  exact ⟨rfl, hb1⟩

set_option maxRecDepth 100000 in
set_option maxHeartbeats 400000 in
theorem walk_RealBelow (w : World) (x : Int) (hx : (Lit.int .i64 x).wf = true) (y : Int) (hy : (Lit.int .i64 y).wf = true) :
    Calls Try.prog 5 #[.int .i64 x, .int .i64 y] w fun e w' => e = .returned (.bool true) ∧ Below w.heap.size w w' := by
  obtain ⟨h1, h2⟩ := bounds_i64 hx
  obtain ⟨h3, h4⟩ := bounds_i64 hy
  go_enter Try.func5, Try.ntmps5
  go_wp2_with fail
  refine (rawake_any _).mono ?_
  rintro e w1 ⟨rfl, hb1⟩
  go_wp2_with fail
  refine (rbelow_any x y h1 h2 h3 h4 _).mono ?_
  rintro e w2 ⟨rfl, rfl⟩
  go_wp2_with fail
  refine (rbelow_any y x h3 h4 h1 h2 _).mono ?_
  rintro e w3 ⟨rfl, rfl⟩
  go_wp2_with fail
  refine (below_any x y h1 h2 h3 h4 _).mono ?_
  rintro e w4 ⟨rfl, rfl⟩
  generalize belowX x y = a
  go_wp2_with fail
  refine (below_any y x h3 h4 h1 h2 _).mono ?_
  rintro e w5 ⟨rfl, rfl⟩
  generalize belowX y x = b
  go_wp2
  go_ret
  exact ⟨rfl, hb1⟩
end Go.Proofs.Ytnaiamhcflkcoaa
