/-
  Whether a configuration has few things: the law's own test returns, whatever it is given, and nothing that was there is written.
-/
import Derived.Test.YtfdoejdnhogepaaTOpen
namespace Go.Proofs.Ytfdoejdnhogepaa
open Go.RowKit
set_option linter.unusedVariables false

/-- It returned a bool. -/
def IsB (e : Ending) : Prop := ∃ b, e = .returned (.bool b)

theorem sl_le {w : World} {c : Nat} {s : Sl} {es : List (List Value)} (h : SeesC w c s.val es) : s.n ≤ 9223372036854775807 := by
  rcases h with ⟨h, _⟩ | ⟨x, cap, h, h1, h2, _⟩
  · unfold Sl.val at h
    simp only [Value.slice.injEq] at h
    omega
  · unfold Sl.val at h
    simp only [Value.slice.injEq] at h
    unfold maxLen at h2
    omega

set_option maxRecDepth 100000 in
set_option maxHeartbeats 3200000 in
theorem few_any (q : Cv) (c : Cf) (w : World) (hS : CfAt w q c) :
    Calls Try.prog 16 #[q.val] w fun e w' => IsB e ∧ Below w.heap.size w w' := by
  obtain ⟨fr, sw, ⟨a1, n1, k1⟩, ⟨a2, n2, k2⟩, ⟨a3, n3, k3⟩, ⟨a4, n4, k4⟩⟩ := q
  obtain ⟨qs, hq, hln, hpt⟩ := hS.pa
  obtain ⟨_, _, hvq, hq1, hvm, hcells⟩ := hq.form
  simp only [Sl.val, Value.slice.injEq] at hvq
  obtain ⟨rfl, rfl, rfl⟩ := hvq
  have h1 := hS.li.n_eq.2
  obtain ⟨_, _, e3, _, l3, _⟩ := hS.wi.form
  obtain ⟨_, _, e4, _, l4, _⟩ := hS.ch.form
  simp only [Sl.val, Value.slice.injEq] at e3 e4
  unfold maxLen at hvm l3 l4
  have h3 : n3 ≤ 9223372036854775807 := by omega
  have h4 : n4 ≤ 9223372036854775807 := by omega
  simp only at h1
  have HC := hid hcells
  have HPT := hid (show ∀ i, i < qs.length → PtAt w (qs.getD i Pv.zero) (c.pa.getD i Pt.zero) from fun i hi => hpt i (by omega))
  clear hS hq hln hpt hcells e3 e4 l3 l4
  generalize qs.length = n2 at *
  unfold Cv.val
  go_enter Try.func16, Try.ntmps16
  by_cases g1 : (20 : Int) < (n1 : Int)
  · go_wp2
    go_ret
    exact ⟨⟨_, rfl⟩, (Below.refl _ _).alloc (Nat.le_refl _) _⟩
  by_cases g2 : (20 : Int) < (n2 : Int)
  · go_wp2
    go_ret
    exact ⟨⟨_, rfl⟩, (Below.refl _ _).alloc (Nat.le_refl _) _⟩
  by_cases g3 : (20 : Int) < (n3 : Int)
  · go_wp2
    go_ret
    exact ⟨⟨_, rfl⟩, (Below.refl _ _).alloc (Nat.le_refl _) _⟩
  by_cases g4 : (20 : Int) < (n4 : Int)
  · go_wp2
    go_ret
    exact ⟨⟨_, rfl⟩, (Below.refl _ _).alloc (Nat.le_refl _) _⟩
  go_wp2
  go_loopw [3] (fun t wc => ∃ i : Nat, i ≤ n2 ∧ t = .int .i64 i ∧ BoxAt wc w.heap.size 27 #[.int .i64 fr, .int .i64 sw, .slice a1 n1 k1, .slice a2 n2 k2, .slice a3 n3 k3, .slice a4 n4 k4] ∧ Below w.heap.size w wc) (fun t _ => n2 - (intOf t).toNat)
  case atStart => exact ⟨0, by omega, rfl, BoxAt.new w _ _, (Below.refl _ _).alloc (Nat.le_refl _) _⟩
  case round =>
    obtain ⟨i, hi, rfl, hbox, hbel⟩ := hrel
    have d3 := (hbox.cell 3).trans rfl
    have HX := hid hbox
    clear hbox
    by_cases hlt : i < n2
    · obtain ⟨b, off, rfl, hbw, hcell⟩ := HC.out (by omega)
      have c0 := (hbel.cell (by exact hbw)).trans (hcell i hlt 0 (by decide))
      have c1 := (hbel.cell (by exact hbw)).trans (hcell i hlt 1 (by decide))
      have c2 := (hbel.cell (by exact hbw)).trans (hcell i hlt 2 (by decide))
      have c3 := (hbel.cell (by exact hbw)).trans (hcell i hlt 3 (by decide))
      have c4 := (hbel.cell (by exact hbw)).trans (hcell i hlt 4 (by decide))
      have c5 := (hbel.cell (by exact hbw)).trans (hcell i hlt 5 (by decide))
      have c6 := (hbel.cell (by exact hbw)).trans (hcell i hlt 6 (by decide))
      have c7 := (hbel.cell (by exact hbw)).trans (hcell i hlt 7 (by decide))
      have c8 := (hbel.cell (by exact hbw)).trans (hcell i hlt 8 (by decide))
      have c9 := (hbel.cell (by exact hbw)).trans (hcell i hlt 9 (by decide))
      have c10 := (hbel.cell (by exact hbw)).trans (hcell i hlt 10 (by decide))
      have hPi := HPT.out i hlt
      have m1 := sl_le (hPi.rg)
      have m2 := sl_le (hPi.pc)
      have m4 := sl_le (hPi.bc)
      have m5 := sl_le (hPi.sc)
      have m7 := hPi.sa.n_eq.2
      have m8 := hPi.qu.n_eq.2
      have m10 := hPi.tb.n_eq.2
      clear hcell HC HPT hPi
      generalize qs.getD i Pv.zero = r at *
      obtain ⟨x0, x1, x2, x3, x4, x5, x6, x7, x8, x9, x10⟩ := r
      simp only [Pv.cells, List.getD_cons_zero, List.getD_cons_succ, Nat.add_zero] at c0 c1 c2 c3 c4 c5 c6 c7 c8 c9 c10 m1 m2 m4 m5 m7 m8 m10
      by_cases g1 : (20 : Int) < (x1.n : Int)
      · go_wp2
        go_ret
        exact ⟨⟨_, rfl⟩, hbel.alloc hbel.size _⟩
      by_cases g2 : (20 : Int) < (x2.n : Int)
      · go_wp2
        go_ret
        exact ⟨⟨_, rfl⟩, hbel.alloc hbel.size _⟩
      by_cases g4 : (20 : Int) < (x4.n : Int)
      · go_wp2
        go_ret
        exact ⟨⟨_, rfl⟩, hbel.alloc hbel.size _⟩
      by_cases g5 : (20 : Int) < (x5.n : Int)
      · go_wp2
        go_ret
        exact ⟨⟨_, rfl⟩, hbel.alloc hbel.size _⟩
      by_cases g7 : (20 : Int) < (x7.n : Int)
      · go_wp2
        go_ret
        exact ⟨⟨_, rfl⟩, hbel.alloc hbel.size _⟩
      by_cases g8 : (20 : Int) < (x8.n : Int)
      · go_wp2
        go_ret
        exact ⟨⟨_, rfl⟩, hbel.alloc hbel.size _⟩
      by_cases g10 : (20 : Int) < (x10.n : Int)
      · go_wp2
        go_ret
        exact ⟨⟨_, rfl⟩, hbel.alloc hbel.size _⟩
      go_wp2
      go_roundw
      case rel => exact ⟨i + 1, by omega, by go_num, HX.out.alloc _, hbel.alloc hbel.size _⟩
      case measure => simp [intOf]; omega
    · go_wp2
      go_ret
      exact ⟨⟨_, rfl⟩, hbel⟩
end Go.Proofs.Ytfdoejdnhogepaa
