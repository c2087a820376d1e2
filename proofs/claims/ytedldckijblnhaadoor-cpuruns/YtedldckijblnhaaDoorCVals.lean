/-
  What the functions in the table of instructions do to a machine.
-/
import Derived.Test.YtedldckijblnhaaDoorCMach
namespace Go.Proofs.YtedldckijblnhaaDoor
open Go.RowKit
set_option linter.unusedVariables false

/-- How a fault leaves an instruction. -/
def faultE (f : Int) : Ending := .panicked [{ v := .iface 53 (.int .i64 f), recovered := false }]

set_option maxRecDepth 100000 in
set_option maxHeartbeats 400000 in
theorem allow_ok (w : World) : Calls Tryd.prog 82 #[.int .i64 0] w fun e w' => e = .returned (.tuple #[]) ∧ w' = w := by
  go_enter Tryd.func82, Tryd.ntmps82
  go_wp2
  go_end0
  exact ⟨rfl, rfl⟩

set_option maxRecDepth 100000 in
set_option maxHeartbeats 400000 in
theorem allow_bad (k : Int) (hk : ¬ k = 0) (w : World) : Calls Tryd.prog 82 #[.int .i64 k] w fun e w' => e = faultE 5 ∧ w' = w := by
  have hk' : (k != 0) = true := by simpa using hk
  go_enter Tryd.func82, Tryd.ntmps82
  go_wp2
  exact ⟨rfl, rfl, rfl⟩

set_option maxRecDepth 100000 in
set_option maxHeartbeats 400000 in
theorem truth_any (b : Bool) (w : World) : Calls Tryd.prog 55 #[.bool b] w fun e w' => e = .returned (.int .i64 (bitZ b)) ∧ w' = w := by
  cases b
  · go_enter Tryd.func55, Tryd.ntmps55
    go_wp2
    go_ret
    exact ⟨rfl, rfl⟩
  · go_enter Tryd.func55, Tryd.ntmps55
    go_wp2
    go_ret
    exact ⟨rfl, rfl⟩

set_option maxRecDepth 100000 in
set_option maxHeartbeats 400000 in
theorem val2_any (x y : Int) (hx : fit64 x) (hy : fit64 y) (w : World) : Calls Tryd.prog 49 #[.int .i64 x, .int .i64 y] w fun e w' => e = .returned (.int .i64 (opV 2 x y)) ∧ Below w.heap.size w w' := by
  simp only [opV]
  go_enter Tryd.func49, Tryd.ntmps49
  go_wp2
  go_ret
  exact ⟨rfl, Below.refl _ _⟩

set_option maxRecDepth 100000 in
set_option maxHeartbeats 400000 in
theorem val3_any (x y : Int) (hx : fit64 x) (hy : fit64 y) (w : World) : Calls Tryd.prog 50 #[.int .i64 x, .int .i64 y] w fun e w' => e = .returned (.int .i64 (opV 3 x y)) ∧ Below w.heap.size w w' := by
  simp only [opV]
  go_enter Tryd.func50, Tryd.ntmps50
  go_wp2
  go_ret
  exact ⟨by simp [wrap64], Below.refl _ _⟩

set_option maxRecDepth 100000 in
set_option maxHeartbeats 400000 in
theorem val4_any (x y : Int) (hx : fit64 x) (hy : fit64 y) (w : World) : Calls Tryd.prog 51 #[.int .i64 x, .int .i64 y] w fun e w' => e = .returned (.int .i64 (opV 4 x y)) ∧ Below w.heap.size w w' := by
  simp only [opV]
  go_enter Tryd.func51, Tryd.ntmps51
  go_wp2
  go_ret
  exact ⟨by simp [wrap64], Below.refl _ _⟩

set_option maxRecDepth 100000 in
set_option maxHeartbeats 400000 in
theorem val5_any (x y : Int) (hx : fit64 x) (hy : fit64 y) (w : World) : Calls Tryd.prog 52 #[.int .i64 x, .int .i64 y] w fun e w' => e = .returned (.int .i64 (opV 5 x y)) ∧ Below w.heap.size w w' := by
  simp only [opV]
  go_enter Tryd.func52, Tryd.ntmps52
  go_wp2
  go_ret
  exact ⟨by simp [wrap64], Below.refl _ _⟩

set_option maxRecDepth 100000 in
set_option maxHeartbeats 400000 in
theorem val7_any (x y : Int) (hx : fit64 x) (hy : fit64 y) (w : World) : Calls Tryd.prog 54 #[.int .i64 x, .int .i64 y] w fun e w' => e = .returned (.int .i64 (opV 7 x y)) ∧ Below w.heap.size w w' := by
  simp only [opV]
  go_enter Tryd.func54, Tryd.ntmps54
  go_wp2_with fail
  refine (truth_any _ _).mono ?_
  rintro e w1 ⟨rfl, rfl⟩
  go_wp2
  go_ret
  exact ⟨rfl, Below.refl _ _⟩

set_option maxRecDepth 100000 in
set_option maxHeartbeats 400000 in
theorem val12_any (x y : Int) (hx : fit64 x) (hy : fit64 y) (w : World) : Calls Tryd.prog 60 #[.int .i64 x, .int .i64 y] w fun e w' => e = .returned (.int .i64 (opV 12 x y)) ∧ Below w.heap.size w w' := by
  simp only [opV]
  obtain ⟨h1, h2⟩ := hx
  have HC := hid (half_any x h1 h2 w)
  generalize halfX x = z at *
  go_enter Tryd.func60, Tryd.ntmps60
  go_wp2_with fail
  refine HC.out.mono ?_
  rintro e w1 ⟨rfl, hb⟩
  go_wp2
  go_ret
  exact ⟨rfl, by first | exact hb | (subst hb; exact Below.refl _ _)⟩

set_option maxRecDepth 100000 in
set_option maxHeartbeats 400000 in
theorem val13_any (x y : Int) (hx : fit64 x) (hy : fit64 y) (w : World) : Calls Tryd.prog 62 #[.int .i64 x, .int .i64 y] w fun e w' => e = .returned (.int .i64 (opV 13 x y)) ∧ Below w.heap.size w w' := by
  simp only [opV]
  obtain ⟨h1, h2⟩ := hx
  have HC := hid (twice_any x h1 h2 w)
  generalize twiceX x = z at *
  go_enter Tryd.func62, Tryd.ntmps62
  go_wp2_with fail
  refine HC.out.mono ?_
  rintro e w1 ⟨rfl, hb⟩
  go_wp2
  go_ret
  exact ⟨rfl, by first | exact hb | (subst hb; exact Below.refl _ _)⟩

set_option maxRecDepth 100000 in
set_option maxHeartbeats 400000 in
theorem val14_any (x y : Int) (hx : fit64 x) (hy : fit64 y) (w : World) : Calls Tryd.prog 64 #[.int .i64 x, .int .i64 y] w fun e w' => e = .returned (.int .i64 (opV 14 x y)) ∧ Below w.heap.size w w' := by
  simp only [opV]
  obtain ⟨h1, h2⟩ := hx
  have HC := hid (flip_any x h1 h2 w)
  generalize flipX x = z at *
  go_enter Tryd.func64, Tryd.ntmps64
  go_wp2_with fail
  refine HC.out.mono ?_
  rintro e w1 ⟨rfl, hb⟩
  go_wp2
  go_ret
  exact ⟨rfl, by first | exact hb | (subst hb; exact Below.refl _ _)⟩

set_option maxRecDepth 100000 in
set_option maxHeartbeats 400000 in
theorem val16_any (x y : Int) (hx : fit64 x) (hy : fit64 y) (w : World) : Calls Tryd.prog 68 #[.int .i64 x, .int .i64 y] w fun e w' => e = .returned (.int .i64 (opV 16 x y)) ∧ Below w.heap.size w w' := by
  simp only [opV]
  obtain ⟨h1, h2⟩ := hx
  have HC := hid (of_any x h1 h2 w)
  generalize ofX x = z at *
  go_enter Tryd.func68, Tryd.ntmps68
  go_wp2_with fail
  refine HC.out.mono ?_
  rintro e w1 ⟨rfl, hb⟩
  go_wp2
  go_ret
  exact ⟨rfl, by first | exact hb | (subst hb; exact Below.refl _ _)⟩

set_option maxRecDepth 100000 in
set_option maxHeartbeats 400000 in
theorem val17_any (x y : Int) (hx : fit64 x) (hy : fit64 y) (w : World) : Calls Tryd.prog 70 #[.int .i64 x, .int .i64 y] w fun e w' => e = .returned (.int .i64 (opV 17 x y)) ∧ Below w.heap.size w w' := by
  simp only [opV]
  obtain ⟨h1, h2⟩ := hx
  have HC := hid (whole_any x h1 h2 w)
  generalize wholeX x = z at *
  go_enter Tryd.func70, Tryd.ntmps70
  go_wp2_with fail
  refine HC.out.mono ?_
  rintro e w1 ⟨rfl, hb⟩
  go_wp2
  go_ret
  exact ⟨rfl, by first | exact hb | (subst hb; exact Below.refl _ _)⟩

set_option maxRecDepth 100000 in
set_option maxHeartbeats 400000 in
theorem val15_any (x y : Int) (hx : fit64 x) (hy : fit64 y) (w : World) : Calls Tryd.prog 66 #[.int .i64 x, .int .i64 y] w fun e w' => e = .returned (.int .i64 (opV 15 x y)) ∧ Below w.heap.size w w' := by
  simp only [opV]
  obtain ⟨h1, h2⟩ := hx
  obtain ⟨h3, h4⟩ := hy
  have HC := hid (below_any x y h1 h2 h3 h4 w)
  generalize belowX x y = z at *
  go_enter Tryd.func66, Tryd.ntmps66
  go_wp2_with fail
  refine HC.out.mono ?_
  rintro e w1 ⟨rfl, hb⟩
  go_wp2_with fail
  refine (truth_any _ _).mono ?_
  rintro e w2 ⟨rfl, rfl⟩
  go_wp2
  go_ret
  exact ⟨rfl, by first | exact hb | (subst hb; exact Below.refl _ _)⟩

set_option maxRecDepth 100000 in
set_option maxHeartbeats 400000 in
theorem val6_any (x y : Int) (hx : fit64 x) (hy : fit64 y) (hz : ¬ y = 0) (w : World) : Calls Tryd.prog 53 #[.int .i64 x, .int .i64 y] w fun e w' => e = .returned (.int .i64 (opV 6 x y)) ∧ Below w.heap.size w w' := by
  simp only [opV]
  have HC := hid (div_any x y w)
  rw [show df y = 0 by unfold df; rw [if_neg hz]] at HC
  generalize dq x y = z at *
  go_enter Tryd.func53, Tryd.ntmps53
  go_wp2_with fail
  refine HC.out.mono ?_
  rintro e w1 ⟨rfl, hb⟩
  go_wp2
  go_ret
  exact ⟨rfl, hb⟩

set_option maxRecDepth 100000 in
set_option maxHeartbeats 400000 in
theorem val6_bad (x : Int) (w : World) : Calls Tryd.prog 53 #[.int .i64 x, .int .i64 0] w fun e w' => e = faultE 3 ∧ Below w.heap.size w w' := by
  have HC := hid (div_any x 0 w)
  rw [show df 0 = 3 from rfl] at HC
  generalize dq x 0 = z at *
  go_enter Tryd.func53, Tryd.ntmps53
  go_wp2_with fail
  refine HC.out.mono ?_
  rintro e w1 ⟨rfl, hb⟩
  go_wp2
  exact ⟨rfl, rfl, hb⟩

set_option maxRecDepth 100000 in
set_option maxHeartbeats 400000 in
theorem clock_any (i : In) (a : Nat) (ha : a < 4) (hi : i.a = a) (N : Nat) (M : Mc) (w : World) (hM : MAt w N M) :
    Calls Tryd.prog 72 #[.pointer (some ⟨N, 0, none⟩), i.val] w fun e w' => e = .returned (.tuple #[]) ∧ MAt w' N { M with c := M.c.set a M.now, o := { { M.o with r := true } with v := M.now } } ∧ Below N w w' := by
  obtain ⟨o, a', b⟩ := i
  simp only at hi
  subst hi
  have hlt := hM.1
  have HM := hid (show ∀ w', w' = (w.alloc (.cells #[.int .i64 o, .int .i64 a, .int .i64 b] 44)).drew → MAt w' N M by
    rintro _ rfl; exact hM.below (alloc_belowI _ _).drew)
  unfold In.val
  simp only
  obtain ⟨m0, m1, m2, m3, m4, m5, m6, m7, m8, m9, m10, m11, m12⟩ := hM
  clear m1 m2 m3 m4 m5 m6 m8 m9 m10 m11 m12
  go_enter Tryd.func72, Tryd.ntmps72
  go_wp2
  go_region_with (go_at_call 83; refine (read_any ⟨o, a, b⟩ M.now a ha rfl N M _ (HM.out _ rfl)).mono ?_; rintro e w1 ⟨rfl, hm1, hb1⟩)
  all_goals
    go_wp2
    go_end0
    exact ⟨rfl, hm1, (belowN_drew (alloc_belowN _ _ (by omega) _)).trans hb1⟩
end Go.Proofs.YtedldckijblnhaaDoor
