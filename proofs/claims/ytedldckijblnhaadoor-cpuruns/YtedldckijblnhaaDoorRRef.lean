/-
  What the document's own functions of layer 2 return, whatever they are given; nothing is written.
-/
import Derived.Test.YtedldckijblnhaaDoorRReal2
namespace Go.Proofs.YtedldckijblnhaaDoor
open Go.RowKit Ieee
set_option linter.unusedVariables false

theorem rsign_any (x : Int) (w : World) :
    Calls Tryd.prog 78 #[.int .i64 x] w fun e w' => e = .returned (.bool (sg x)) ∧ w' = w := by
  go_enter Tryd.func78, Tryd.ntmps78
  go_wp2
  go_ret
  exact ⟨rfl, rfl⟩

theorem rrest_any (x : Int) (h1 : -9223372036854775808 ≤ x) (h2 : x ≤ 9223372036854775807) (w : World) :
    Calls Tryd.prog 77 #[.int .i64 x] w fun e w' => e = .returned (.int .i64 (rs x)) ∧ w' = w := by
  by_cases h : x < 0
  · have H := hid (show x + 4611686018427387904 + 4611686018427387904 = ((rs x : Nat) : Int) by unfold rs; rw [if_pos h]; omega)
    go_enter Tryd.func77, Tryd.ntmps77
    go_wp2
    go_ret
    exact ⟨ret_i H.out, rfl⟩
  · have H := hid (show x = ((rs x : Nat) : Int) by unfold rs; rw [if_neg h]; omega)
    go_enter Tryd.func77, Tryd.ntmps77
    go_wp2
    go_ret
    exact ⟨ret_i H.out, rfl⟩

theorem rwith_any (s : Bool) (r : Int) (h1 : 0 ≤ r) (h2 : r ≤ 9223372036854775807) (w : World) :
    Calls Tryd.prog 80 #[.bool s, .int .i64 r] w fun e w' => e = .returned (.int .i64 (wd s r.toNat)) ∧ w' = w := by
  cases s
  · have H := hid (show r = wd false r.toNat by unfold wd; simp; omega)
    go_enter Tryd.func80, Tryd.ntmps80
    go_wp2
    go_ret
    exact ⟨ret_i H.out, rfl⟩
  · have H := hid (show r - 4611686018427387904 - 4611686018427387904 = wd true r.toNat by unfold wd; simp; omega)
    go_enter Tryd.func80, Tryd.ntmps80
    go_wp2
    go_ret
    exact ⟨ret_i H.out, rfl⟩

theorem rinf_any (w : World) : Calls Tryd.prog 79 #[] w fun e w' => e = .returned (.int .i64 9218868437227405312) ∧ w' = w := by
  go_enter Tryd.func79, Tryd.ntmps79
  go_wp2
  go_ret
  exact ⟨rfl, rfl⟩

theorem rnone_any (w : World) : Calls Tryd.prog 76 #[] w fun e w' => e = .returned (.int .i64 NONE) ∧ w' = w := by
  go_enter Tryd.func76, Tryd.ntmps76
  go_wp2_with fail
  refine (rinf_any _).mono ?_
  rintro e w1 ⟨rfl, rfl⟩
  go_wp2
  go_ret
  exact ⟨rfl, rfl⟩

theorem rnan_any (x : Int) (h1 : -9223372036854775808 ≤ x) (h2 : x ≤ 9223372036854775807) (w : World) :
    Calls Tryd.prog 75 #[.int .i64 x] w fun e w' => e = .returned (.bool (nanX x)) ∧ w' = w := by
  have H := hid (show decide ((9218868437227405312 : Int) < (rs x : Nat)) = nanX x by unfold nanX; congr 1; apply propext; omega)
  go_enter Tryd.func75, Tryd.ntmps75
  go_wp2_with fail
  refine (rrest_any x h1 h2 _).mono ?_
  rintro e w1 ⟨rfl, rfl⟩
  go_wp2_with fail
  refine (rinf_any _).mono ?_
  rintro e w1 ⟨rfl, rfl⟩
  go_wp2
  go_ret
  exact ⟨ret_b H.out, rfl⟩

theorem wd_self {x : Int} (h1 : -9223372036854775808 ≤ x) (h2 : x ≤ 9223372036854775807) : wd (sg x) (rs x) = x := by
  unfold wd sg rs; by_cases h : x < 0 <;> simp [h] <;> omega

set_option maxHeartbeats 400000 in
theorem rflip_any (x : Int) (h1 : -9223372036854775808 ≤ x) (h2 : x ≤ 9223372036854775807) (w : World) :
    Calls Tryd.prog 41 #[.int .i64 x] w fun e w' => e = .returned (.int .i64 (flipX x)) ∧ w' = w := by
  have HX := hid (show flipX x = if nanX x then NONE else wd (!sg x) (rs x) from rfl)
  have hlt := rs_lt h1 h2
  cases hn : nanX x
  · rw [hn] at HX
    have HN := hid hn
    clear hn
    go_enter Tryd.func41, Tryd.ntmps41
    go_wp2_with fail
    refine (rnan_any x h1 h2 _).mono ?_
    rintro e w1 ⟨rfl, rfl⟩
    rw [HN.out]
    go_wp2_with fail
    refine (rsign_any x _).mono ?_
    rintro e w1 ⟨rfl, rfl⟩
    go_wp2_with fail
    refine (rrest_any x h1 h2 _).mono ?_
    rintro e w1 ⟨rfl, rfl⟩
    go_wp2_with fail
    refine (rwith_any _ _ (by omega) (by omega) _).mono ?_
    rintro e w1 ⟨rfl, rfl⟩
    go_wp2
    go_ret
    exact ⟨ret_i (by rw [HX.out]; simp), rfl⟩
  · rw [hn] at HX
    have HN := hid hn
    clear hn
    go_enter Tryd.func41, Tryd.ntmps41
    go_wp2_with fail
    refine (rnan_any x h1 h2 _).mono ?_
    rintro e w1 ⟨rfl, rfl⟩
    rw [HN.out]
    go_wp2_with fail
    refine (rnone_any _).mono ?_
    rintro e w1 ⟨rfl, rfl⟩
    go_wp2
    go_ret
    exact ⟨ret_i (by rw [HX.out]; rfl), rfl⟩

theorem half_cases (r : Nat) (he : ¬ r = 9218868437227405312) :
    (1 < (r : Int) / 4503599627370496 ∧ Hid (haR r = ((r : Int) - 4503599627370496).toNat)) ∨
    (¬ 1 < (r : Int) / 4503599627370496 ∧ ((r : Int) % 2 == 1) = false ∧ Hid (haR r = ((r : Int) / 2).toNat)) ∨
    (¬ 1 < (r : Int) / 4503599627370496 ∧ ((r : Int) % 2 == 1) = true ∧ ((r : Int) / 2 % 2 == 1) = false ∧ Hid (haR r = ((r : Int) / 2).toNat)) ∨
    (¬ 1 < (r : Int) / 4503599627370496 ∧ ((r : Int) % 2 == 1) = true ∧ ((r : Int) / 2 % 2 == 1) = true ∧ Hid (haR r = ((r : Int) / 2 + 1).toNat)) := by
  by_cases hg : 9007199254740992 ≤ r
  · refine .inl ⟨by omega, hid ?_⟩
    unfold haR; rw [if_neg he, if_pos hg]; omega
  · by_cases ho : r % 2 = 1
    · by_cases hh : r / 2 % 2 = 1
      · refine .inr (.inr (.inr ⟨by omega, by rw [beq_iff_eq]; omega, by rw [beq_iff_eq]; omega, hid ?_⟩))
        unfold haR; rw [if_neg he, if_neg hg, if_pos ⟨ho, hh⟩]; omega
      · refine .inr (.inr (.inl ⟨by omega, by rw [beq_iff_eq]; omega, by rw [beq_eq_false_iff_ne]; omega, hid ?_⟩))
        unfold haR; rw [if_neg he, if_neg hg, if_neg (by omega)]; omega
    · refine .inr (.inl ⟨by omega, by rw [beq_eq_false_iff_ne]; omega, hid ?_⟩)
      unfold haR; rw [if_neg he, if_neg hg, if_neg (by omega)]; omega

theorem twice_cases (r : Nat) (hl : r ≤ 9218868437227405312) (he : ¬ r = 9218868437227405312) :
    (((r : Int) / 4503599627370496 == 0) = true ∧ Hid (twR r = (2 * (r : Int)).toNat) ∧ 2 * (r : Int) ≤ 9223372036854775807) ∨
    (((r : Int) / 4503599627370496 == 0) = false ∧ (r : Int) + 4503599627370496 ≤ 9218868437227405312 ∧ Hid (twR r = ((r : Int) + 4503599627370496).toNat)) ∨
    (((r : Int) / 4503599627370496 == 0) = false ∧ 9218868437227405312 < (r : Int) + 4503599627370496 ∧ Hid (twR r = (9218868437227405312 : Int).toNat)) := by
  by_cases hs : r < 4503599627370496
  · refine .inl ⟨by rw [beq_iff_eq]; omega, hid ?_, by omega⟩
    unfold twR; rw [if_neg he, if_pos hs]; omega
  · by_cases hg : 9218868437227405312 < r + 4503599627370496
    · refine .inr (.inr ⟨by rw [beq_eq_false_iff_ne]; omega, by omega, hid ?_⟩)
      unfold twR; rw [if_neg he, if_neg hs]; omega
    · refine .inr (.inl ⟨by rw [beq_eq_false_iff_ne]; omega, by omega, hid ?_⟩)
      unfold twR; rw [if_neg he, if_neg hs]; omega

set_option maxHeartbeats 400000 in
theorem rhalf_any (x : Int) (h1 : -9223372036854775808 ≤ x) (h2 : x ≤ 9223372036854775807) (w : World) :
    Calls Tryd.prog 39 #[.int .i64 x] w fun e w' => e = .returned (.int .i64 (halfX x)) ∧ w' = w := by
  have HX := hid (show halfX x = if nanX x then NONE else wd (sg x) (haR (rs x)) from rfl)
  have hlt := rs_lt h1 h2
  cases hn : nanX x
  · rw [hn] at HX
    have HN := hid hn
    have hle : rs x ≤ 9218868437227405312 := by unfold nanX at hn; simpa using hn
    clear hn
    have HW := hid (wd_self h1 h2)
    by_cases he : rs x = 9218868437227405312
    · have HE := hid he
      have hb : (((rs x : Nat) : Int) == 9218868437227405312) = true := by rw [he]; rfl
      clear he
      go_enter Tryd.func39, Tryd.ntmps39
      go_wp2_with fail
      refine (rnan_any x h1 h2 _).mono ?_
      rintro e w1 ⟨rfl, rfl⟩
      rw [HN.out]
      go_wp2_with fail
      refine (rrest_any x h1 h2 _).mono ?_
      rintro e w1 ⟨rfl, rfl⟩
      go_wp2_with fail
      refine (rsign_any x _).mono ?_
      rintro e w1 ⟨rfl, rfl⟩
      go_wp2_with fail
      refine (rinf_any _).mono ?_
      rintro e w1 ⟨rfl, rfl⟩
      go_wp2
      go_ret
      exact ⟨ret_i (by rw [HX.out, HE.out]; unfold haR; rw [← HE.out]; simp [HE.out]; rw [← HE.out]; exact HW.out.symm), rfl⟩
    · have hb : (((rs x : Nat) : Int) == 9218868437227405312) = false := by rw [beq_eq_false_iff_ne]; omega
      rcases half_cases (rs x) he with ⟨f1, H⟩ | ⟨f1, f2, H⟩ | ⟨f1, f2, f3, H⟩ | ⟨f1, f2, f3, H⟩
      all_goals
        go_enter Tryd.func39, Tryd.ntmps39
        go_wp2_with fail
        refine (rnan_any x h1 h2 _).mono ?_
        rintro e w1 ⟨rfl, rfl⟩
        rw [HN.out]
        go_wp2_with fail
        refine (rrest_any x h1 h2 _).mono ?_
        rintro e w1 ⟨rfl, rfl⟩
        go_wp2_with fail
        refine (rsign_any x _).mono ?_
        rintro e w1 ⟨rfl, rfl⟩
        go_wp2_with fail
        refine (rinf_any _).mono ?_
        rintro e w1 ⟨rfl, rfl⟩
        go_wp2_with fail
        refine (rwith_any _ _ (by omega) (by omega) _).mono ?_
        rintro e w1 ⟨rfl, rfl⟩
        go_wp2
        go_ret
        exact ⟨ret_i (by rw [HX.out, H.out]; rfl), rfl⟩
  · rw [hn] at HX
    have HN := hid hn
    clear hn
    go_enter Tryd.func39, Tryd.ntmps39
    go_wp2_with fail
    refine (rnan_any x h1 h2 _).mono ?_
    rintro e w1 ⟨rfl, rfl⟩
    rw [HN.out]
    go_wp2_with fail
    refine (rnone_any _).mono ?_
    rintro e w1 ⟨rfl, rfl⟩
    go_wp2
    go_ret
    exact ⟨ret_i (by rw [HX.out]; rfl), rfl⟩

set_option maxRecDepth 100000 in
set_option maxHeartbeats 400000 in
theorem rtwice_any (x : Int) (h1 : -9223372036854775808 ≤ x) (h2 : x ≤ 9223372036854775807) (w : World) :
    Calls Tryd.prog 40 #[.int .i64 x] w fun e w' => e = .returned (.int .i64 (twiceX x)) ∧ w' = w := by
  have HX := hid (show twiceX x = if nanX x then NONE else wd (sg x) (twR (rs x)) from rfl)
  have hlt := rs_lt h1 h2
  cases hn : nanX x
  · rw [hn] at HX
    have HN := hid hn
    have hle : rs x ≤ 9218868437227405312 := by unfold nanX at hn; simpa using hn
    clear hn
    have HW := hid (wd_self h1 h2)
    by_cases he : rs x = 9218868437227405312
    · have HE := hid he
      have hb : (((rs x : Nat) : Int) == 9218868437227405312) = true := by rw [he]; rfl
      have HT := hid (show twR (rs x) = rs x by unfold twR; rw [if_pos he])
      clear he
      go_enter Tryd.func40, Tryd.ntmps40
      go_wp2_with fail
      refine (rnan_any x h1 h2 _).mono ?_
      rintro e w1 ⟨rfl, rfl⟩
      rw [HN.out]
      go_wp2_with fail
      refine (rrest_any x h1 h2 _).mono ?_
      rintro e w1 ⟨rfl, rfl⟩
      go_wp2_with fail
      refine (rsign_any x _).mono ?_
      rintro e w1 ⟨rfl, rfl⟩
      go_wp2_with fail
      refine (rinf_any _).mono ?_
      rintro e w1 ⟨rfl, rfl⟩
      go_wp2
      go_ret
      exact ⟨ret_i (by rw [HX.out, HT.out]; exact HW.out.symm), rfl⟩
    · have hb : (((rs x : Nat) : Int) == 9218868437227405312) = false := by rw [beq_eq_false_iff_ne]; omega
      rcases twice_cases (rs x) hle he with ⟨f1, H, f2⟩ | ⟨f1, f2, H⟩ | ⟨f1, f2, H⟩
      · go_enter Tryd.func40, Tryd.ntmps40
        go_wp2_with fail
        refine (rnan_any x h1 h2 _).mono ?_
        rintro e w1 ⟨rfl, rfl⟩
        rw [HN.out]
        go_wp2_with fail
        refine (rrest_any x h1 h2 _).mono ?_
        rintro e w1 ⟨rfl, rfl⟩
        go_wp2_with fail
        refine (rsign_any x _).mono ?_
        rintro e w1 ⟨rfl, rfl⟩
        go_wp2_with fail
        refine (rinf_any _).mono ?_
        rintro e w1 ⟨rfl, rfl⟩
        go_wp2_with fail
        refine (rwith_any _ _ (by omega) (by omega) _).mono ?_
        rintro e w1 ⟨rfl, rfl⟩
        go_wp2
        go_ret
        exact ⟨ret_i (by rw [HX.out, H.out]; rfl), rfl⟩
      · go_enter Tryd.func40, Tryd.ntmps40
        go_wp2_with fail
        refine (rnan_any x h1 h2 _).mono ?_
        rintro e w1 ⟨rfl, rfl⟩
        rw [HN.out]
        go_wp2_with fail
        refine (rrest_any x h1 h2 _).mono ?_
        rintro e w1 ⟨rfl, rfl⟩
        go_wp2_with fail
        refine (rsign_any x _).mono ?_
        rintro e w1 ⟨rfl, rfl⟩
        go_wp2_with fail
        refine (rinf_any _).mono ?_
        rintro e w1 ⟨rfl, rfl⟩
        go_wp2_with fail
        have f3 : 0 ≤ ((rs x : Nat) : Int) + 4503599627370496 := by omega
        generalize ((rs x : Nat) : Int) + 4503599627370496 = z at *
        refine (rinf_any _).mono ?_
        rintro e w1 ⟨rfl, rfl⟩
        go_wp2_with fail
        refine (rwith_any _ _ (by omega) (by omega) _).mono ?_
        rintro e w1 ⟨rfl, rfl⟩
        go_wp2
        go_ret
        exact ⟨ret_i (by rw [HX.out, H.out]; rfl), rfl⟩
      · go_enter Tryd.func40, Tryd.ntmps40
        go_wp2_with fail
        refine (rnan_any x h1 h2 _).mono ?_
        rintro e w1 ⟨rfl, rfl⟩
        rw [HN.out]
        go_wp2_with fail
        refine (rrest_any x h1 h2 _).mono ?_
        rintro e w1 ⟨rfl, rfl⟩
        go_wp2_with fail
        refine (rsign_any x _).mono ?_
        rintro e w1 ⟨rfl, rfl⟩
        go_wp2_with fail
        refine (rinf_any _).mono ?_
        rintro e w1 ⟨rfl, rfl⟩
        go_wp2_with fail
        refine (rinf_any _).mono ?_
        rintro e w1 ⟨rfl, rfl⟩
        go_wp2_with fail
        refine (rinf_any _).mono ?_
        rintro e w1 ⟨rfl, rfl⟩
        go_wp2_with fail
        refine (rwith_any _ _ (by omega) (by omega) _).mono ?_
        rintro e w1 ⟨rfl, rfl⟩
        go_wp2
        go_ret
        exact ⟨ret_i (by rw [HX.out, H.out]; rfl), rfl⟩
  · rw [hn] at HX
    have HN := hid hn
    clear hn
    go_enter Tryd.func40, Tryd.ntmps40
    go_wp2_with fail
    refine (rnan_any x h1 h2 _).mono ?_
    rintro e w1 ⟨rfl, rfl⟩
    rw [HN.out]
    go_wp2_with fail
    refine (rnone_any _).mono ?_
    rintro e w1 ⟨rfl, rfl⟩
    go_wp2
    go_ret
    exact ⟨ret_i (by rw [HX.out]; rfl), rfl⟩

theorem place_eq {x : Int} (h1 : -9223372036854775808 ≤ x) (h2 : x ≤ 9223372036854775807) : (if x < 0 then -((rs x : Nat) : Int) else x) = plac (sg x) (rs x) := by
  unfold plac sg rs; by_cases h : x < 0 <;> simp [h] <;> omega

set_option maxHeartbeats 400000 in
theorem rplace_any (x : Int) (h1 : -9223372036854775808 ≤ x) (h2 : x ≤ 9223372036854775807) (w : World) :
    Calls Tryd.prog 81 #[.int .i64 x] w fun e w' => e = .returned (.int .i64 (plac (sg x) (rs x))) ∧ w' = w := by
  have HP := hid (place_eq h1 h2)
  have hlt := rs_lt h1 h2
  by_cases h : x < 0
  · rw [if_pos h] at HP
    have HS := hid (show sg x = true from decide_eq_true h)
    go_enter Tryd.func81, Tryd.ntmps81
    go_wp2_with fail
    refine (rsign_any x _).mono ?_
    rintro e w1 ⟨rfl, rfl⟩
    rw [HS.out]
    go_wp2_with fail
    refine (rrest_any x h1 h2 _).mono ?_
    rintro e w1 ⟨rfl, rfl⟩
    go_wp2
    go_ret
    exact ⟨ret_i HP.out, rfl⟩
  · rw [if_neg h] at HP
    have HS := hid (show sg x = false from decide_eq_false h)
    go_enter Tryd.func81, Tryd.ntmps81
    go_wp2_with fail
    refine (rsign_any x _).mono ?_
    rintro e w1 ⟨rfl, rfl⟩
    rw [HS.out]
    go_wp2
    go_ret
    exact ⟨ret_i HP.out, rfl⟩

theorem below_eq (x y : Int) : belowX x y = (!nanX x && !nanX y && decide (plac (sg x) (rs x) < plac (sg y) (rs y))) := by
  unfold belowX blw nanX
  rw [Bool.eq_iff_iff]; simp

set_option maxHeartbeats 400000 in
theorem rbelow_any (x y : Int) (h1 : -9223372036854775808 ≤ x) (h2 : x ≤ 9223372036854775807) (h3 : -9223372036854775808 ≤ y) (h4 : y ≤ 9223372036854775807) (w : World) :
    Calls Tryd.prog 44 #[.int .i64 x, .int .i64 y] w fun e w' => e = .returned (.bool (belowX x y)) ∧ w' = w := by
  have HB := hid (below_eq x y)
  cases hx : nanX x
  · cases hy : nanX y
    · rw [hx, hy] at HB
      have HX := hid hx
      have HY := hid hy
      clear hx hy
      go_enter Tryd.func44, Tryd.ntmps44
      go_wp2_with fail
      refine (rnan_any x h1 h2 _).mono ?_
      rintro e w1 ⟨rfl, rfl⟩
      rw [HX.out]
      go_wp2_with fail
      refine (rnan_any y h3 h4 _).mono ?_
      rintro e w1 ⟨rfl, rfl⟩
      rw [HY.out]
      go_wp2_with fail
      refine (rplace_any x h1 h2 _).mono ?_
      rintro e w1 ⟨rfl, rfl⟩
      go_wp2_with fail
      refine (rplace_any y h3 h4 _).mono ?_
      rintro e w1 ⟨rfl, rfl⟩
      go_wp2
      go_ret
      exact ⟨ret_b (by rw [HB.out]; simp), rfl⟩
    · rw [hx, hy] at HB
      have HX := hid hx
      have HY := hid hy
      clear hx hy
      go_enter Tryd.func44, Tryd.ntmps44
      go_wp2_with fail
      refine (rnan_any x h1 h2 _).mono ?_
      rintro e w1 ⟨rfl, rfl⟩
      rw [HX.out]
      go_wp2_with fail
      refine (rnan_any y h3 h4 _).mono ?_
      rintro e w1 ⟨rfl, rfl⟩
      rw [HY.out]
      go_wp2
      go_ret
      exact ⟨ret_b (by rw [HB.out]; simp), rfl⟩
  · rw [hx] at HB
    have HX := hid hx
    clear hx
    go_enter Tryd.func44, Tryd.ntmps44
    go_wp2_with fail
    refine (rnan_any x h1 h2 _).mono ?_
    rintro e w1 ⟨rfl, rfl⟩
    rw [HX.out]
    go_wp2_with fail
    refine (rnan_any y h3 h4 _).mono ?_
    rintro e w1 ⟨rfl, rfl⟩
    go_wp2
    go_ret
    exact ⟨ret_b (by rw [HB.out]; simp), rfl⟩
end Go.Proofs.YtedldckijblnhaaDoor
