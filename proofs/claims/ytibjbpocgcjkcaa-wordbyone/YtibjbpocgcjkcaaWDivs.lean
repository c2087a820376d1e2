/-
  The three laws of division return true, whatever numbers they are given, and nothing that was there is written.
-/
import Derived.Test.YtibjbpocgcjkcaaWAwake
namespace Go.Proofs.Ytibjbpocgcjkcaa
open Go.RowKit
set_option linter.unusedVariables false

theorem i64_bd {a : Int} (h : (Lit.int .i64 a).wf = true) : -9223372036854775808 ≤ a ∧ a ≤ 9223372036854775807 := bounds_i64 h

set_option maxRecDepth 100000 in
set_option maxHeartbeats 400000 in
theorem walk_WordDivides (w : World) (a : Int) (ha : (Lit.int .i64 a).wf = true) (b : Int) (hb : (Lit.int .i64 b).wf = true) :
    Calls Try.prog 3 #[.int .i64 a, .int .i64 b] w fun e w' => e = .returned (.bool true) ∧ Below w.heap.size w w' := by
  go_enter Try.func3, Try.ntmps3
  go_wp2_with fail
  refine (awake_any _).mono ?_
  rintro e w1 ⟨rfl, hb1⟩
  go_wp2_with fail
  refine (div_any _ _ _).mono ?_
  rintro e w2 ⟨rfl, hb2⟩
  go_wp2_with fail
  refine (rdiv_any _ _ _).mono ?_
  rintro e w3 ⟨rfl, rfl⟩
  generalize dq a b = q
  generalize df b = f
  go_wp2
  go_ret
  exact ⟨rfl, hb1.trans (hb2.mono hb1.size)⟩

set_option maxRecDepth 100000 in
set_option maxHeartbeats 400000 in
theorem walk_WordByOne (w : World) (a : Int) (ha : (Lit.int .i64 a).wf = true) :
    Calls Try.prog 11 #[.int .i64 a] w fun e w' => e = .returned (.bool true) ∧ Below w.heap.size w w' := by
  obtain ⟨h1, h2⟩ := i64_bd ha
  go_enter Try.func11, Try.ntmps11
  go_wp2_with fail
  refine (awake_any _).mono ?_
  rintro e w1 ⟨rfl, hb1⟩
  go_wp2_with fail
  refine (div_any _ _ _).mono ?_
  rintro e w2 ⟨rfl, hb2⟩
  go_wp2_with fail
  refine (div_any _ _ _).mono ?_
  rintro e w3 ⟨rfl, hb3⟩
  go_wp2_with fail
  refine (div_any _ _ _).mono ?_
  rintro e w4 ⟨rfl, hb4⟩
  go_wp2_with fail
  refine (div_any _ _ _).mono ?_
  rintro e w5 ⟨rfl, hb5⟩
  have e1 : dq a 1 = a := by unfold dq; rw [if_neg (by decide), Int.tdiv_one]; exact wrap64_of h1 h2
  have e2 : dq a (-1) = wrap64 (-a) := by unfold dq; rw [if_neg (by decide), Int.tdiv_neg, Int.tdiv_one]
  have e3 : df 1 = 0 := by decide
  have e4 : df (-1) = 0 := by decide
  have e5 : df 0 = 3 := by decide
  have HB := hid (((hb1.trans (hb2.mono hb1.size)).trans (hb3.mono (Nat.le_trans hb1.size hb2.size))).trans ((hb4.mono (Nat.le_trans hb1.size (Nat.le_trans hb2.size hb3.size))).trans (hb5.mono (Nat.le_trans hb1.size (Nat.le_trans hb2.size (Nat.le_trans hb3.size hb4.size))))))
  rw [e1, e2, e3, e4, e5]
  clear hb1 hb2 hb3 hb4 hb5 e1 e2 e3 e4 e5
  by_cases h0 : a = 0
  · subst h0
    have hw0 : wrap64 0 = 0 := wrap64_of (by decide) (by decide)
    have e6 : df 0 = 3 := by decide
    rw [e6]
    clear e6
    go_wp2
    go_ret
    exact ⟨rfl, HB.out⟩
  · have e6 : df a = 0 := by simp [df, h0]
    have e7 : dq a a = 1 := by unfold dq; rw [if_neg h0, Int.tdiv_self h0]; exact wrap64_of (by decide) (by decide)
    rw [e6, e7]
    clear e6 e7
    have hne : (a != 0) = true := by simpa using h0
    go_wp2
    go_ret
    exact ⟨rfl, HB.out⟩

theorem rest_facts (a b : Int) (h1 : -9223372036854775808 ≤ a) (h2 : a ≤ 9223372036854775807) (h3 : -9223372036854775808 ≤ b) (h4 : b ≤ 9223372036854775807)
    (hz : ¬ b = 0) (hm : ¬ b = -1) (hl : ¬ b = -9223372036854775808) :
    ∃ q p : Int, dq a b = q ∧ wrap64 (q * b) = p ∧ (b < 0 → a - p < -b) ∧ (b < 0 → b < a - p) ∧ (¬ b < 0 → a - p < b) ∧ (¬ b < 0 → -b < a - p) ∧ (0 ≤ a → 0 ≤ a - p) ∧ (a ≤ 0 → a - p ≤ 0) := by
  have hq : -9223372036854775808 ≤ a.tdiv b ∧ a.tdiv b ≤ 9223372036854775807 := by
    have hn : (a.tdiv b).natAbs ≤ a.natAbs := by rw [Int.natAbs_tdiv]; exact Nat.div_le_self _ _
    by_cases hab : a = -9223372036854775808
    · have h2b : 2 ≤ b.natAbs ∨ b = 1 := by omega
      rcases h2b with h2b | h2b
      · have : (a.tdiv b).natAbs ≤ a.natAbs / 2 := by rw [Int.natAbs_tdiv]; exact Nat.div_le_div_left h2b (by omega)
        omega
      · subst h2b; rw [Int.tdiv_one]; omega
    · omega
  have hd : dq a b = a.tdiv b := by unfold dq; rw [if_neg hz]; exact wrap64_of hq.1 hq.2
  have hr := Int.tmod_add_tdiv_mul a b
  have hlt : (a.tmod b).natAbs < b.natAbs := by rw [Int.natAbs_tmod]; exact Nat.mod_lt _ (by omega)
  have hpos : 0 ≤ a → 0 ≤ a.tmod b := fun h => Int.tmod_nonneg b h
  have hneg : a ≤ 0 → a.tmod b ≤ 0 := fun h => by
    have := Int.tmod_nonneg b (show 0 ≤ -a by omega)
    rw [Int.neg_tmod] at this; omega
  generalize a.tmod b = r at *
  generalize a.tdiv b = q at *
  refine ⟨q, q * b, hd, ?_, ?_, ?_, ?_, ?_, ?_, ?_⟩
  · generalize q * b = m at *
    by_cases h0 : 0 ≤ a
    · have := hpos h0; exact wrap64_of (by omega) (by omega)
    · have := hneg (by omega); exact wrap64_of (by omega) (by omega)
  all_goals (generalize q * b = m at *; intro h; first | omega | (have := hpos h; omega) | (have := hneg h; omega))

set_option maxRecDepth 100000 in
set_option maxHeartbeats 400000 in
theorem walk_WordRest (w : World) (a : Int) (ha : (Lit.int .i64 a).wf = true) (b : Int) (hb : (Lit.int .i64 b).wf = true) :
    Calls Try.prog 4 #[.int .i64 a, .int .i64 b] w fun e w' => e = .returned (.bool true) ∧ Below w.heap.size w w' := by
  obtain ⟨h1, h2⟩ := i64_bd ha
  obtain ⟨h3, h4⟩ := i64_bd hb
  by_cases hz : b = 0
  · subst hz
    go_enter Try.func4, Try.ntmps4
    go_wp2_with fail
    refine (awake_any _).mono ?_
    rintro e w1 ⟨rfl, hb1⟩
    go_wp2
    go_ret
    exact ⟨rfl, hb1⟩
  by_cases hm : b = -1
  · subst hm
    go_enter Try.func4, Try.ntmps4
    go_wp2_with fail
    refine (awake_any _).mono ?_
    rintro e w1 ⟨rfl, hb1⟩
    go_wp2
    go_ret
    exact ⟨rfl, hb1⟩
  by_cases hl : b = -9223372036854775808
  · subst hl
    go_enter Try.func4, Try.ntmps4
    go_wp2_with fail
    refine (awake_any _).mono ?_
    rintro e w1 ⟨rfl, hb1⟩
    go_wp2
    go_ret
    exact ⟨rfl, hb1⟩
  have n1 : (b == 0) = false := by simpa using hz
  have n2 : (b == -1) = false := by simpa using hm
  have n3 : (b == -9223372036854775808) = false := by simpa using hl
  go_enter Try.func4, Try.ntmps4
  go_wp2_with fail
  refine (awake_any _).mono ?_
  rintro e w1 ⟨rfl, hb1⟩
  go_wp2_with fail
  refine (div_any _ _ _).mono ?_
  rintro e w2 ⟨rfl, hb2⟩
  have HB := hid (hb1.trans (hb2.mono hb1.size))
  clear hb1 hb2
  have e1 : df b = 0 := by simp [df, hz]
  obtain ⟨q, p, e2, e3, k1, k2, k3, k4, k5, k6⟩ := rest_facts a b h1 h2 h3 h4 hz hm hl
  rw [e1, e2]
  clear e1 e2
  have k7 : -9223372036854775808 ≤ a - p := by omega
  have k8 : a - p ≤ 9223372036854775807 := by omega
  by_cases hbn : b < 0
  · have k1' := k1 hbn
    have k2' := k2 hbn
    clear k1 k2 k3 k4
    by_cases han : 0 ≤ a
    · have k5' := k5 han
      clear k5 k6
      go_wp2
      go_ret
      exact ⟨rfl, HB.out⟩
    · have k6' := k6 (by omega)
      have hal : a ≤ 0 := by omega
      clear k5 k6
      go_wp2
      go_ret
      exact ⟨rfl, HB.out⟩
  · have k3' := k3 hbn
    have k4' := k4 hbn
    clear k1 k2 k3 k4
    by_cases han : 0 ≤ a
    · have k5' := k5 han
      clear k5 k6
      go_wp2
      go_ret
      exact ⟨rfl, HB.out⟩
    · have k6' := k6 (by omega)
      have hal : a ≤ 0 := by omega
      clear k5 k6
      go_wp2
      go_ret
      exact ⟨rfl, HB.out⟩
end Go.Proofs.Ytibjbpocgcjkcaa
