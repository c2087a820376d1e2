/-
  The law of the order of layer 2 returns true, whatever bits it is given, and nothing that was there is written.
-/
import Derived.Test.YtnaiamhcflkcoaaRMath3
namespace Go.Proofs.Ytnaiamhcflkcoaa
open Go.RowKit
set_option linter.unusedVariables false

set_option maxRecDepth 100000 in
set_option maxHeartbeats 2000000 in
theorem order_walk (w : World) (x y z n m : Int) (h1 : -9223372036854775808 ≤ x) (h2 : x ≤ 9223372036854775807) (h3 : -9223372036854775808 ≤ y) (h4 : y ≤ 9223372036854775807)
    (h5 : -9223372036854775808 ≤ z) (h6 : z ≤ 9223372036854775807) (h7 : -9223372036854775808 ≤ n) (h8 : n ≤ 9223372036854775807) (h9 : -9223372036854775808 ≤ m) (h10 : m ≤ 9223372036854775807)
    (hd : (belowX x y = false) ∨ (belowX x y = true ∧ belowX y x = false ∧ belowX y z = false) ∨ (belowX x y = true ∧ belowX y x = false ∧ belowX y z = true ∧ belowX x z = true)) :
    Calls Try.prog 7 #[.int .i64 x, .int .i64 y, .int .i64 z, .int .i64 n, .int .i64 m] w fun e w' => e = .returned (.bool true) ∧ Below w.heap.size w w' := by
  obtain ⟨t1, t2⟩ := flip_bd h1 h2
  obtain ⟨t3, t4⟩ := flip_bd h3 h4
  obtain ⟨b1, b2⟩ := of_bd n
  obtain ⟨b3, b4⟩ := of_bd m
  have e1 := below_irr x
  have e2 := below_flip h1 h2 h3 h4
  have HO := hid (fun a b c d => @below_of n m a b c d)
  rcases (show n < -9007199254740992 ∨ (-9007199254740992 ≤ n ∧ 9007199254740992 < n) ∨ (-9007199254740992 ≤ n ∧ n ≤ 9007199254740992 ∧ m < -9007199254740992) ∨ (-9007199254740992 ≤ n ∧ n ≤ 9007199254740992 ∧ -9007199254740992 ≤ m ∧ 9007199254740992 < m) ∨ (-9007199254740992 ≤ n ∧ n ≤ 9007199254740992 ∧ -9007199254740992 ≤ m ∧ m ≤ 9007199254740992) by omega) with d1 | ⟨d1, d2⟩ | ⟨d1, d2, d3⟩ | ⟨d1, d2, d3, d4⟩ | ⟨d1, d2, d3, d4⟩
  all_goals
    try have e3 := HO.out d1 d2 d3 d4
    rcases hd with f1 | ⟨f1, f2, f3⟩ | ⟨f1, f2, f3, f4⟩
    all_goals
      rw [f1] at e2
      go_enter Try.func7, Try.ntmps7
      go_wp2_with fail
      refine (rawake_any _).mono ?_
      rintro e w1 ⟨rfl, hb⟩
      go_wp2_with (first
        | (go_at_call 16; refine (flip_any _ (by omega) (by omega) _).mono ?_; rintro e w' ⟨rfl, rfl⟩)
        | (go_at_call 18; refine (of_any _ (by omega) (by omega) _).mono ?_; rintro e w' ⟨rfl, rfl⟩)
        | (go_at_call 23; refine (below_any _ _ (by omega) (by omega) (by omega) (by omega) _).mono ?_; rintro e w' ⟨rfl, rfl⟩))
      all_goals
        go_ret
        exact ⟨rfl, hb⟩

theorem walk_RealOrder (w : World) (x : Int) (hx : (Lit.int .i64 x).wf = true) (y : Int) (hy : (Lit.int .i64 y).wf = true) (z : Int) (hz : (Lit.int .i64 z).wf = true) (n : Int) (hn : (Lit.int .i64 n).wf = true) (m : Int) (hm : (Lit.int .i64 m).wf = true) :
    Calls Try.prog 7 #[.int .i64 x, .int .i64 y, .int .i64 z, .int .i64 n, .int .i64 m] w fun e w' => e = .returned (.bool true) ∧ Below w.heap.size w w' := by
  obtain ⟨h1, h2⟩ := bounds_i64 hx
  obtain ⟨h3, h4⟩ := bounds_i64 hy
  obtain ⟨h5, h6⟩ := bounds_i64 hz
  obtain ⟨h7, h8⟩ := bounds_i64 hn
  obtain ⟨h9, h10⟩ := bounds_i64 hm
  refine order_walk w x y z n m h1 h2 h3 h4 h5 h6 h7 h8 h9 h10 ?_
  cases ha : belowX x y
  · exact .inl rfl
  · cases hc : belowX y z
    · exact .inr (.inl ⟨rfl, below_asym ha, rfl⟩)
    · exact .inr (.inr ⟨rfl, below_asym ha, rfl, below_trans ha hc⟩)
end Go.Proofs.Ytnaiamhcflkcoaa
