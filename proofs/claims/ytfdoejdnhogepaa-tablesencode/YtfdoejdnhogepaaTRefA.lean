/-
  What the document's tests of numbers, processes, buffers and semaphores return, whatever they are given, and that nothing that was there is written.
-/
import Derived.Test.YtfdoejdnhogepaaTPart
import Derived.Test.YtfdoejdnhogepaaMRefM
namespace Go.Proofs.Ytfdoejdnhogepaa
open Go.RowKit
set_option linter.unusedVariables false

set_option maxRecDepth 100000 in
set_option maxHeartbeats 400000 in
theorem rin_any (n a b : Int) (w : World) :
    Calls Try.prog 37 #[.int .i64 n, .int .i64 a, .int .i64 b] w fun e w' => e = .returned (.bool (inB a b n)) ∧ w' = w := by
  go_enter Try.func37, Try.ntmps37
  by_cases h1 : a ≤ n
  · by_cases h2 : n ≤ b
    all_goals
      go_wp2
      go_ret
      exact ⟨by congr; simp [inB]; omega, rfl⟩
  · go_wp2
    go_ret
    exact ⟨by congr; simp [inB]; omega, rfl⟩

set_option maxRecDepth 100000 in
set_option maxHeartbeats 400000 in
theorem rnumbers_any (v : Value) (l : List Int) (m a b : Int) (w : World) (hv : Sees w .i64 v l) :
    Calls Try.prog 38 #[v, .int .i64 m, .int .i64 a, .int .i64 b] w fun e w' => e = .returned (.bool (decide ((l.length : Int) ≤ m) && allN (fun i => inB a b (l.getD i 0)) l.length)) ∧ w' = w := by
  obtain ⟨al, cl, rfl, hl1, hl2, hlc⟩ := hv.form
  unfold maxLen at hl2
  have HC := hid hlc
  clear hlc hv
  go_enter Try.func38, Try.ntmps38
  by_cases hm : m < (l.length : Int)
  · go_wp2
    go_ret
    exact ⟨by congr; simp; omega, rfl⟩
  go_wp2
  go_loopw [9] (fun t wc => ∃ i : Nat, i ≤ l.length ∧ t = .int .i64 i ∧ (∀ j, j < i → inB a b (l.getD j 0) = true) ∧ wc = w) (fun t _ => l.length - (intOf t).toNat)
  case atStart => exact ⟨0, by omega, rfl, by intro j hj; omega, rfl⟩
  case round =>
    obtain ⟨i, hi, rfl, hgood, hwc⟩ := hrel
    subst hwc
    have HG := hid hgood
    clear hgood
    by_cases hlt : i < l.length
    · obtain ⟨bb, off, rfl, hbw, hcell⟩ := HC.out (by omega)
      have c0 := hcell i hlt
      have HNo := hid (show inB a b (l.getD i 0) = false → allN (fun i => inB a b (l.getD i 0)) l.length = false from fun h => allN_no _ _ i hlt h)
      have HGo := hid (show inB a b (l.getD i 0) = true → ∀ j, j < i + 1 → inB a b (l.getD j 0) = true by
        intro h j hj
        by_cases e : j = i
        · subst e; exact h
        · exact HG.out j (by omega))
      clear hcell HC HG
      generalize l.getD i 0 = x at *
      go_wp2_with fail
      refine (rin_any x a b _).mono ?_
      rintro e w1 ⟨rfl, rfl⟩
      rcases hx : inB a b x
      · have HN := hid (HNo.out hx)
        clear HNo HGo
        go_wp2
        go_ret
        exact ⟨by rw [HN.out, Bool.and_false]; rfl, rfl⟩
      · have HN := hid (HGo.out hx)
        clear HNo HGo
        go_wp2
        go_roundw
        case rel => exact ⟨i + 1, by omega, by go_num, HN.out, by trivial⟩
        case measure => simp [intOf]; omega
    · have HE := hid (show allN (fun i => inB a b (l.getD i 0)) l.length = true from allN_yes _ _ (fun j hj => HG.out j (by omega)))
      have HD := hid (show decide ((l.length : Int) ≤ m) = true from decide_eq_true (by omega))
      go_wp2
      go_ret
      exact ⟨by rw [HE.out, HD.out]; rfl, rfl⟩

set_option maxRecDepth 100000 in
set_option maxHeartbeats 800000 in
theorem rprocs_any (v : Value) (l : List Pc) (w : World) (hv : SeesPc w v l) :
    Calls Try.prog 72 #[v] w fun e w' => e = .returned (.bool (inB 1 6 l.length && allN (fun i => procB (l.getD i Pc.zero)) l.length)) ∧ w' = w := by
  obtain ⟨al, cl, rfl, hl1, hl2, hlc⟩ := hv.form
  unfold maxLen at hl2
  have HC := hid hlc
  clear hlc hv
  go_enter Try.func72, Try.ntmps72
  by_cases hm : (l.length : Int) < 1
  · have HE := hid (show inB 1 6 (l.length : Int) = false by simp [inB]; omega)
    go_wp2
    go_ret
    exact ⟨by rw [HE.out]; rfl, rfl⟩
  by_cases hm2 : (6 : Int) < (l.length : Int)
  · have HE := hid (show inB 1 6 (l.length : Int) = false by simp [inB]; omega)
    go_wp2
    go_ret
    exact ⟨by rw [HE.out]; rfl, rfl⟩
  have HI := hid (show inB 1 6 (l.length : Int) = true by simp [inB]; omega)
  go_wp2
  go_loopw [3] (fun t wc => ∃ i : Nat, i ≤ l.length ∧ t = .int .i64 i ∧ (∀ j, j < i → procB (l.getD j Pc.zero) = true) ∧ wc = w) (fun t _ => l.length - (intOf t).toNat)
  case atStart => exact ⟨0, by omega, rfl, by intro j hj; omega, rfl⟩
  case round =>
    obtain ⟨i, hi, rfl, hgood, hwc⟩ := hrel
    subst hwc
    have HG := hid hgood
    clear hgood
    by_cases hlt : i < l.length
    · obtain ⟨bb, off, rfl, hbw, hcell⟩ := HC.out (by omega)
      have c0 := hcell i hlt 0 (by decide)
      have c1 := hcell i hlt 1 (by decide)
      have c2 := hcell i hlt 2 (by decide)
      have c3 := hcell i hlt 3 (by decide)
      have HNo := hid (show procB (l.getD i Pc.zero) = false → allN (fun i => procB (l.getD i Pc.zero)) l.length = false from fun h => allN_no _ _ i hlt h)
      have HGo := hid (show procB (l.getD i Pc.zero) = true → ∀ j, j < i + 1 → procB (l.getD j Pc.zero) = true by
        intro h j hj
        by_cases e : j = i
        · subst e; exact h
        · exact HG.out j (by omega))
      clear hcell HC HG
      generalize l.getD i Pc.zero = x at *
      obtain ⟨x0, x1, x2, x3, x4⟩ := x
      simp only [Pc.cells, List.getD_cons_zero, List.getD_cons_succ, Nat.add_zero] at c0 c1 c2 c3
      go_wp2_with fail
      refine (rin_any x0 0 15 _).mono ?_
      rintro e w1 ⟨rfl, rfl⟩
      go_wp2_with fail
      refine (rin_any x1 0 4096 _).mono ?_
      rintro e w1 ⟨rfl, rfl⟩
      go_wp2_with fail
      refine (rin_any x2 0 4096 _).mono ?_
      rintro e w1 ⟨rfl, rfl⟩
      go_wp2_with fail
      refine (rin_any x3 0 63 _).mono ?_
      rintro e w1 ⟨rfl, rfl⟩
      have HP := hid (show procB ⟨x0, x1, x2, x3, x4⟩ = (inB 0 15 x0 && inB 0 4096 x1 && inB 0 4096 x2 && inB 0 63 x3) from rfl)
      rcases h0 : inB 0 15 x0
      · have HN := hid (HNo.out (by rw [HP.out, h0]; rfl))
        clear HNo HGo HP
        go_wp2
        go_ret
        exact ⟨by rw [HN.out, Bool.and_false]; rfl, rfl⟩
      rcases h1 : inB 0 4096 x1
      · have HN := hid (HNo.out (by rw [HP.out, h0, h1]; rfl))
        clear HNo HGo HP
        go_wp2
        go_ret
        exact ⟨by rw [HN.out, Bool.and_false]; rfl, rfl⟩
      rcases h2 : inB 0 4096 x2
      · have HN := hid (HNo.out (by rw [HP.out, h0, h1, h2]; rfl))
        clear HNo HGo HP
        go_wp2
        go_ret
        exact ⟨by rw [HN.out, Bool.and_false]; rfl, rfl⟩
      rcases h3 : inB 0 63 x3
      · have HN := hid (HNo.out (by rw [HP.out, h0, h1, h2, h3]; rfl))
        clear HNo HGo HP
        go_wp2
        go_ret
        exact ⟨by rw [HN.out, Bool.and_false]; rfl, rfl⟩
      have HN := hid (HGo.out (by rw [HP.out, h0, h1, h2, h3]; rfl))
      clear HNo HGo HP
      go_wp2
      go_roundw
      case rel => exact ⟨i + 1, by omega, by go_num, HN.out, by trivial⟩
      case measure => simp [intOf]; omega
    · have HE := hid (show allN (fun i => procB (l.getD i Pc.zero)) l.length = true from allN_yes _ _ (fun j hj => HG.out j (by omega)))
      go_wp2
      go_ret
      exact ⟨by rw [HI.out, HE.out]; rfl, rfl⟩

end Go.Proofs.Ytfdoejdnhogepaa
