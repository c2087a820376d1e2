/-
  The laws of layer 2 without the document's answers return true, whatever bits they are given, and nothing that was there is written.
-/
import Derived.Test.YtnaiamhcflkcoaaRMath3
namespace Go.Proofs.Ytnaiamhcflkcoaa
open Go.RowKit
set_option linter.unusedVariables false

set_option maxRecDepth 100000 in
set_option maxHeartbeats 400000 in
theorem walk_RealSteps (w : World) (x : Int) (hx : (Lit.int .i64 x).wf = true) :
    Calls Try.prog 10 #[.int .i64 x] w fun e w' => e = .returned (.bool true) ∧ Below w.heap.size w w' := by
  obtain ⟨h1, h2⟩ := bounds_i64 hx
  by_cases c0 : x < 0
  · go_enter Try.func10, Try.ntmps10
    go_wp2_with fail
    refine (rawake_any _).mono ?_
    rintro e w1 ⟨rfl, hb1⟩
    go_wp2
    go_ret
    exact ⟨rfl, hb1⟩
  by_cases c1 : 9218868437227405312 ≤ x
  · go_enter Try.func10, Try.ntmps10
    go_wp2_with fail
    refine (rawake_any _).mono ?_
    rintro e w1 ⟨rfl, hb1⟩
    go_wp2
    go_ret
    exact ⟨rfl, hb1⟩
  have HB := hid (step_below (x := x) (by omega) (by omega))
  obtain ⟨k1, k2⟩ := step_whole (x := x) (by omega) (by omega)
  go_enter Try.func10, Try.ntmps10
  go_wp2_with fail
  refine (rawake_any _).mono ?_
  rintro e w1 ⟨rfl, hb1⟩
  go_wp2_with fail
  refine (below_any x (x + 1) h1 h2 (by omega) (by omega) _).mono ?_
  rintro e w2 ⟨rfl, rfl⟩
  rw [HB.out]
  go_wp2_with fail
  refine (whole_any x h1 h2 _).mono ?_
  rintro e w3 ⟨rfl, rfl⟩
  go_wp2_with fail
  refine (whole_any (x + 1) (by omega) (by omega) _).mono ?_
  rintro e w4 ⟨rfl, rfl⟩
  go_wp2_with fail
  refine (whole_any x h1 h2 _).mono ?_
  rintro e w5 ⟨rfl, rfl⟩
  go_wp2
  go_ret
  exact ⟨rfl, hb1⟩

set_option maxRecDepth 100000 in
set_option maxHeartbeats 400000 in
theorem walk_RealTwice (w : World) (n : Int) (hn : (Lit.int .i64 n).wf = true) :
    Calls Try.prog 9 #[.int .i64 n] w fun e w' => e = .returned (.bool true) ∧ Below w.heap.size w w' := by
  obtain ⟨h1, h2⟩ := bounds_i64 hn
  by_cases c0 : n < -4503599627370496
  · go_enter Try.func9, Try.ntmps9
    go_wp2_with fail
    refine (rawake_any _).mono ?_
    rintro e w1 ⟨rfl, hb1⟩
    go_wp2
    go_ret
    exact ⟨rfl, hb1⟩
  by_cases c1 : 4503599627370496 < n
  · go_enter Try.func9, Try.ntmps9
    go_wp2_with fail
    refine (rawake_any _).mono ?_
    rintro e w1 ⟨rfl, hb1⟩
    go_wp2
    go_ret
    exact ⟨rfl, hb1⟩
  have HT := hid (twice_of (n := n) (by omega) (by omega))
  obtain ⟨b1, b2⟩ := of_bd n
  by_cases hz : n = 0
  · have f1 : (n.tmod 2 != 0) = false := by subst hz; rfl
    have f2 : (n == 0) = true := by subst hz; rfl
    clear hz
    go_enter Try.func9, Try.ntmps9
    go_wp2_with fail
    refine (rawake_any _).mono ?_
    rintro e w1 ⟨rfl, hb1⟩
    go_wp2_with fail
    refine (of_any n h1 h2 _).mono ?_
    rintro e w2 ⟨rfl, rfl⟩
    go_wp2_with fail
    refine (twice_any _ b1 b2 _).mono ?_
    rintro e w3 ⟨rfl, hb3⟩
    rw [HT.out]
    go_wp2_with fail
    refine (of_any _ (by omega) (by omega) _).mono ?_
    rintro e w4 ⟨rfl, rfl⟩
    generalize ofX (2 * n) = a
    go_wp2
    go_ret
    exact ⟨rfl, hb1.trans (hb3.mono hb1.size)⟩
  have f2 : (n == 0) = false := by simpa using hz
  have HF := hid (flip_of (n := n) (by omega) (by omega) hz)
  by_cases ho : n % 2 = 0
  · have f1 : (n.tmod 2 != 0) = false := by
      rw [bne_eq_false_iff_eq]; have := Int.tmod_add_tdiv_mul n 2; have h3 := Int.emod_emod_of_dvd n (show (2 : Int) ∣ 2 by decide); rw [Int.tmod_eq_emod]; split <;> omega
    have f3 : n.tdiv 2 = n / 2 := by
      obtain ⟨k, rfl⟩ : ∃ k, n = 2 * k := ⟨n / 2, by omega⟩
      rw [Int.mul_tdiv_cancel_left _ (by decide), Int.mul_ediv_cancel_left _ (by decide)]
    have HH := hid (half_of (n := n) (by omega) (by omega) (n / 2) (by omega))
    have g1 : -4503599627370496 ≤ n / 2 := by omega
    have g2 : n / 2 ≤ 4503599627370496 := by omega
    generalize n / 2 = k at *
    clear hz ho
    go_enter Try.func9, Try.ntmps9
    go_wp2_with fail
    refine (rawake_any _).mono ?_
    rintro e w1 ⟨rfl, hb1⟩
    go_wp2_with fail
    refine (of_any n h1 h2 _).mono ?_
    rintro e w2 ⟨rfl, rfl⟩
    go_wp2_with fail
    refine (twice_any _ b1 b2 _).mono ?_
    rintro e w3 ⟨rfl, hb3⟩
    rw [HT.out]
    go_wp2_with fail
    refine (of_any _ (by omega) (by omega) _).mono ?_
    rintro e w4 ⟨rfl, rfl⟩
    generalize ofX (2 * n) = a at *
    go_wp2_with fail
    refine (half_any _ b1 b2 _).mono ?_
    rintro e w5 ⟨rfl, hb5⟩
    rw [HH.out]
    go_wp2_with fail
    refine (of_any _ (by omega) (by omega) _).mono ?_
    rintro e w6 ⟨rfl, rfl⟩
    generalize ofX k = b at *
    go_wp2_with fail
    refine (flip_any _ b1 b2 _).mono ?_
    rintro e w7 ⟨rfl, rfl⟩
    rw [HF.out]
    go_wp2_with fail
    refine (of_any _ (by omega) (by omega) _).mono ?_
    rintro e w8 ⟨rfl, rfl⟩
    generalize ofX (-n) = c at *
    go_wp2
    go_ret
    exact ⟨rfl, (hb1.trans (hb3.mono hb1.size)).trans (hb5.mono (Nat.le_trans hb1.size hb3.size))⟩
  · have f1 : (n.tmod 2 != 0) = true := by
      rw [bne_iff_ne]; intro h; rw [Int.tmod_eq_emod] at h; split at h <;> omega
    clear hz ho
    go_enter Try.func9, Try.ntmps9
    go_wp2_with fail
    refine (rawake_any _).mono ?_
    rintro e w1 ⟨rfl, hb1⟩
    go_wp2_with fail
    refine (of_any n h1 h2 _).mono ?_
    rintro e w2 ⟨rfl, rfl⟩
    go_wp2_with fail
    refine (twice_any _ b1 b2 _).mono ?_
    rintro e w3 ⟨rfl, hb3⟩
    rw [HT.out]
    go_wp2_with fail
    refine (of_any _ (by omega) (by omega) _).mono ?_
    rintro e w4 ⟨rfl, rfl⟩
    generalize ofX (2 * n) = a at *
    go_wp2_with fail
    refine (flip_any _ b1 b2 _).mono ?_
    rintro e w7 ⟨rfl, rfl⟩
    rw [HF.out]
    go_wp2_with fail
    refine (of_any _ (by omega) (by omega) _).mono ?_
    rintro e w8 ⟨rfl, rfl⟩
    generalize ofX (-n) = c at *
    go_wp2
    go_ret
    exact ⟨rfl, hb1.trans (hb3.mono hb1.size)⟩

/-- The bits of the power. -/
theorem exp_eq {x : Int} (h1 : -9223372036854775808 ≤ x) (h2 : x ≤ 9223372036854775807) : x / 4503599627370496 % 2048 = ((rs x / 4503599627370496 : Nat) : Int) := by
  unfold rs; split <;> omega

theorem and_mask (a : Int) : bits .and .i64 a 2047 = a % 2048 := by
  show IntKind.i64.wrap ((BitVec.ofInt 64 a &&& BitVec.ofInt 64 2047).toNat : Int) = _
  have h1 : (BitVec.ofInt 64 2047).toNat = 2 ^ 11 - 1 := by decide
  rw [BitVec.toNat_and, h1, Nat.and_two_pow_sub_one_eq_mod, BitVec.toNat_ofInt, IntKind.wrap_i64]
  simp
  omega

set_option maxRecDepth 100000 in
set_option maxHeartbeats 1000000 in
theorem walk_RealBack (w : World) (n : Int) (hn : (Lit.int .i64 n).wf = true) (x : Int) (hx : (Lit.int .i64 x).wf = true) :
    Calls Try.prog 6 #[.int .i64 n, .int .i64 x] w fun e w' => e = .returned (.bool true) ∧ Below w.heap.size w w' := by
  obtain ⟨h1, h2⟩ := bounds_i64 hx
  obtain ⟨h3, h4⟩ := bounds_i64 hn
  have hlt := rs_lt h1 h2
  have hE : bits .and .i64 (x / 4503599627370496) 2047 = ((rs x / 4503599627370496 : Nat) : Int) := by rw [and_mask, exp_eq h1 h2]
  have HF := hid (fun h => flip_flip h1 h2 h)
  have HH := hid (fun h => half_twice h1 h2 h)
  have HT := hid (fun h h' => twice_half h1 h2 h h')
  have HW := hid (fun (a : -9007199254740992 ≤ n) (b : n ≤ 9007199254740992) => whole_of a b)
  obtain ⟨b1, b2⟩ := of_bd n
  obtain ⟨t1, t2⟩ := twice_bd h1 h2
  obtain ⟨t3, t4⟩ := half_bd h1 h2
  obtain ⟨t5, t6⟩ := flip_bd h1 h2
  clear hx hn
  rcases (show (rs x / 4503599627370496 : Nat) = 2047 ∨ (rs x / 4503599627370496 : Nat) = 2046 ∨ (2 ≤ (rs x / 4503599627370496 : Nat) ∧ (rs x / 4503599627370496 : Nat) < 2046) ∨ (rs x / 4503599627370496 : Nat) < 2 by omega) with c | c | c | c
  · rw [c] at hE
    have k : (bits .and .i64 (x / 4503599627370496) 2047 == 2047) = true := by rw [hE]; rfl
    clear c hlt hE
    rcases (show n < -9007199254740992 ∨ 9007199254740992 < n ∨ (-9007199254740992 ≤ n ∧ n ≤ 9007199254740992) by omega) with d | d | ⟨d, d'⟩
    all_goals
      try have HW' := HW.out d d'
      go_enter Try.func6, Try.ntmps6
      go_wp2_with fail
      refine (rawake_any _).mono ?_
      rintro e w1 ⟨rfl, hb⟩
      go_wp2_with (first
        | (go_at_call 18; refine (of_any n h3 h4 _).mono ?_; rintro e w' ⟨rfl, rfl⟩)
        | (go_at_call 20; refine (whole_any _ b1 b2 _).mono ?_; rintro e w' ⟨rfl, rfl⟩))
      go_ret
      exact ⟨rfl, hb⟩
  · have hE' : bits .and .i64 (x / 4503599627370496) 2047 = 2046 := by rw [hE, c]; rfl
    have k : (bits .and .i64 (x / 4503599627370496) 2047 == 2047) = false := by rw [hE']; rfl
    have e1 := HF.out (by omega)
    have e3 := HT.out (by omega) (by omega)
    clear c hlt hE
    rcases (show n < -9007199254740992 ∨ 9007199254740992 < n ∨ (-9007199254740992 ≤ n ∧ n ≤ 9007199254740992) by omega) with d | d | ⟨d, d'⟩
    all_goals
      try have HW' := HW.out d d'
      go_enter Try.func6, Try.ntmps6
      go_wp2_with fail
      refine (rawake_any _).mono ?_
      rintro e w1 ⟨rfl, hb⟩
      go_wp2_with (first
        | (go_at_call 18; refine (of_any n h3 h4 _).mono ?_; rintro e w' ⟨rfl, rfl⟩)
        | (go_at_call 20; refine (whole_any _ b1 b2 _).mono ?_; rintro e w' ⟨rfl, rfl⟩)
        | (go_at_call 16; refine (flip_any _ (by omega) (by omega) _).mono ?_; rintro e w' ⟨rfl, rfl⟩)
        | (go_at_call 12; refine (half_any _ (by omega) (by omega) _).mono ?_; rintro e w' ⟨rfl, hbN⟩; replace hb := hb.trans (hbN.mono hb.size); clear hbN)
        | (go_at_call 14; refine (twice_any _ (by omega) (by omega) _).mono ?_; rintro e w' ⟨rfl, hbN⟩; replace hb := hb.trans (hbN.mono hb.size); clear hbN))
      go_ret
      exact ⟨rfl, hb⟩
  · have k : (bits .and .i64 (x / 4503599627370496) 2047 == 2047) = false := by rw [beq_eq_false_iff_ne]; omega
    have k1 : bits .and .i64 (x / 4503599627370496) 2047 < 2046 := by omega
    have k2 : 2 ≤ bits .and .i64 (x / 4503599627370496) 2047 := by omega
    have e1 := HF.out (by omega)
    have e2 := HH.out (by omega)
    have e3 := HT.out (by omega) (by omega)
    clear c hlt hE
    rcases (show n < -9007199254740992 ∨ 9007199254740992 < n ∨ (-9007199254740992 ≤ n ∧ n ≤ 9007199254740992) by omega) with d | d | ⟨d, d'⟩
    all_goals
      try have HW' := HW.out d d'
      go_enter Try.func6, Try.ntmps6
      go_wp2_with fail
      refine (rawake_any _).mono ?_
      rintro e w1 ⟨rfl, hb⟩
      go_wp2_with (first
        | (go_at_call 18; refine (of_any n h3 h4 _).mono ?_; rintro e w' ⟨rfl, rfl⟩)
        | (go_at_call 20; refine (whole_any _ b1 b2 _).mono ?_; rintro e w' ⟨rfl, rfl⟩)
        | (go_at_call 16; refine (flip_any _ (by omega) (by omega) _).mono ?_; rintro e w' ⟨rfl, rfl⟩)
        | (go_at_call 12; refine (half_any _ (by omega) (by omega) _).mono ?_; rintro e w' ⟨rfl, hbN⟩; replace hb := hb.trans (hbN.mono hb.size); clear hbN)
        | (go_at_call 14; refine (twice_any _ (by omega) (by omega) _).mono ?_; rintro e w' ⟨rfl, hbN⟩; replace hb := hb.trans (hbN.mono hb.size); clear hbN))
      go_ret
      exact ⟨rfl, hb⟩
  · have k : (bits .and .i64 (x / 4503599627370496) 2047 == 2047) = false := by rw [beq_eq_false_iff_ne]; omega
    have k1 : bits .and .i64 (x / 4503599627370496) 2047 < 2046 := by omega
    have k2 : bits .and .i64 (x / 4503599627370496) 2047 < 2 := by omega
    have e1 := HF.out (by omega)
    have e2 := HH.out (by omega)
    clear c hlt hE
    rcases (show n < -9007199254740992 ∨ 9007199254740992 < n ∨ (-9007199254740992 ≤ n ∧ n ≤ 9007199254740992) by omega) with d | d | ⟨d, d'⟩
    all_goals
      try have HW' := HW.out d d'
      go_enter Try.func6, Try.ntmps6
      go_wp2_with fail
      refine (rawake_any _).mono ?_
      rintro e w1 ⟨rfl, hb⟩
      go_wp2_with (first
        | (go_at_call 18; refine (of_any n h3 h4 _).mono ?_; rintro e w' ⟨rfl, rfl⟩)
        | (go_at_call 20; refine (whole_any _ b1 b2 _).mono ?_; rintro e w' ⟨rfl, rfl⟩)
        | (go_at_call 16; refine (flip_any _ (by omega) (by omega) _).mono ?_; rintro e w' ⟨rfl, rfl⟩)
        | (go_at_call 12; refine (half_any _ (by omega) (by omega) _).mono ?_; rintro e w' ⟨rfl, hbN⟩; replace hb := hb.trans (hbN.mono hb.size); clear hbN)
        | (go_at_call 14; refine (twice_any _ (by omega) (by omega) _).mono ?_; rintro e w' ⟨rfl, hbN⟩; replace hb := hb.trans (hbN.mono hb.size); clear hbN))
      go_ret
      exact ⟨rfl, hb⟩

set_option maxRecDepth 100000 in
set_option maxHeartbeats 1000000 in
theorem walk_RealNone (w : World) (x : Int) (hx : (Lit.int .i64 x).wf = true) (y : Int) (hy : (Lit.int .i64 y).wf = true) :
    Calls Try.prog 8 #[.int .i64 x, .int .i64 y] w fun e w' => e = .returned (.bool true) ∧ Below w.heap.size w w' := by
  obtain ⟨h1, h2⟩ := bounds_i64 hx
  obtain ⟨h3, h4⟩ := bounds_i64 hy
  have hlt := rs_lt h1 h2
  have hE : bits .and .i64 (x / 4503599627370496) 2047 = ((rs x / 4503599627370496 : Nat) : Int) := by rw [and_mask, exp_eq h1 h2]
  obtain ⟨t5, t6⟩ := flip_bd h1 h2
  clear hx hy
  by_cases c : rs x / 4503599627370496 = 2047
  · have k : (bits .and .i64 (x / 4503599627370496) 2047 != 2047) = false := by rw [hE, c]; rfl
    clear hE
    by_cases d : rs x = 9218868437227405312
    · have m : (x.tmod 4503599627370496 != 0) = false := by
        rw [bne_eq_false_iff_eq, Int.tmod_eq_emod]
        have : x % 4503599627370496 = 0 := by unfold rs at d; split at d <;> omega
        split <;> omega
      obtain ⟨e1, e2, e3⟩ := half_inf h1 h2 d
      clear c d hlt
      go_enter Try.func8, Try.ntmps8
      go_wp2_with fail
      refine (rawake_any _).mono ?_
      rintro e w1 ⟨rfl, hb⟩
      go_wp2_with (first
        | (go_at_call 16; refine (flip_any _ (by omega) (by omega) _).mono ?_; rintro e w' ⟨rfl, rfl⟩)
        | (go_at_call 12; refine (half_any _ (by omega) (by omega) _).mono ?_; rintro e w' ⟨rfl, hbN⟩; replace hb := hb.trans (hbN.mono hb.size); clear hbN)
        | (go_at_call 14; refine (twice_any _ (by omega) (by omega) _).mono ?_; rintro e w' ⟨rfl, hbN⟩; replace hb := hb.trans (hbN.mono hb.size); clear hbN))
      go_ret
      exact ⟨rfl, hb⟩
    · have m : (x.tmod 4503599627370496 != 0) = true := by
        rw [bne_iff_ne, Int.tmod_eq_emod]
        have : ¬ x % 4503599627370496 = 0 := by unfold rs at d c; split at d <;> omega
        intro hm
        split at hm <;> omega
      have hn : 9218868437227405312 < rs x := by omega
      obtain ⟨e1, e2, e3, e4⟩ := nan_all hn
      have e5 := below_nan_l y (nan_yes hn)
      have e6 := below_nan_r y (nan_yes hn)
      unfold NONE at e1 e2 e3
      clear c d hlt hn
      go_enter Try.func8, Try.ntmps8
      go_wp2_with fail
      refine (rawake_any _).mono ?_
      rintro e w1 ⟨rfl, hb⟩
      go_wp2_with (first
        | (go_at_call 16; refine (flip_any _ (by omega) (by omega) _).mono ?_; rintro e w' ⟨rfl, rfl⟩)
        | (go_at_call 23; refine (below_any _ _ (by omega) (by omega) (by omega) (by omega) _).mono ?_; rintro e w' ⟨rfl, rfl⟩)
        | (go_at_call 20; refine (whole_any _ (by omega) (by omega) _).mono ?_; rintro e w' ⟨rfl, rfl⟩)
        | (go_at_call 12; refine (half_any _ (by omega) (by omega) _).mono ?_; rintro e w' ⟨rfl, hbN⟩; replace hb := hb.trans (hbN.mono hb.size); clear hbN)
        | (go_at_call 14; refine (twice_any _ (by omega) (by omega) _).mono ?_; rintro e w' ⟨rfl, hbN⟩; replace hb := hb.trans (hbN.mono hb.size); clear hbN))
      go_ret
      exact ⟨rfl, hb⟩
  · have k : (bits .and .i64 (x / 4503599627370496) 2047 != 2047) = true := by rw [hE, bne_iff_ne]; omega
    clear hE c hlt
    go_enter Try.func8, Try.ntmps8
    go_wp2_with fail
    refine (rawake_any _).mono ?_
    rintro e w1 ⟨rfl, hb⟩
    go_wp2
    go_ret
    exact ⟨rfl, hb⟩
end Go.Proofs.Ytnaiamhcflkcoaa
