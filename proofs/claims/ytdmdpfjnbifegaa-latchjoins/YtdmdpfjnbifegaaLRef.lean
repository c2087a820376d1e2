/-
  What the document's May, Offer, Give and Same of latches return, whatever latch they are given, and that nothing that was there is written.
-/
import Derived.Test.YtdmdpfjnbifegaaLGive
import Derived.Test.YtdmdpfjnbifegaaWSame
import Derived.BigQuiet
namespace Go.Proofs.Ytdmdpfjnbifegaa
open Go.RowKit
set_option linter.unusedVariables false

set_option maxRecDepth 100000 in
set_option maxHeartbeats 400000 in
theorem rlmay_any (d p : Int) (v : Value) (xs : List Int) (w : World) (hv : Sees w .i64 v xs) (hd : -9223372036854775808 ≤ d ∧ d ≤ 9223372036854775807) (hp : -9223372036854775808 ≤ p ∧ p ≤ 9223372036854775807) :
    Calls Try.prog 16 #[ltV d v p] w fun e w' => e = .returned (.bool (mayL d xs.length p)) ∧ Below w.heap.size w w' := by
  obtain ⟨a, cap, rfl, hc1, hc2, _⟩ := hv.form
  clear hv
  unfold maxLen at hc2
  generalize xs.length = n at *
  go_enter Try.func16, Try.ntmps16
  by_cases h1 : 0 ≤ d
  · by_cases h2 : d ≤ 8
    · by_cases h3 : (n : Int) ≤ d
      · by_cases h4 : 0 ≤ p
        all_goals
          go_wp2
          go_ret
          exact ⟨by congr; simp [mayL]; omega, (Below.refl _ _).alloc (Nat.le_refl _) _⟩
      · go_wp2
        go_ret
        exact ⟨by congr; simp [mayL]; omega, (Below.refl _ _).alloc (Nat.le_refl _) _⟩
    · go_wp2
      go_ret
      exact ⟨by congr; simp [mayL]; omega, (Below.refl _ _).alloc (Nat.le_refl _) _⟩
  · go_wp2
    go_ret
    exact ⟨by congr; simp [mayL]; omega, (Below.refl _ _).alloc (Nat.le_refl _) _⟩

theorem below_drewN6 {B : Nat} {a w : World} (h : Below B a w) (n : Nat) : Below B a (w.drewN n) := ⟨h.os, h.tape, h.output, h.size, h.block⟩

set_option maxRecDepth 100000 in
set_option maxHeartbeats 400000 in
theorem rsame6_any (d p d' p' : Int) (v v' : Value) (xs ys : List Int) (w : World) (hv : Sees w .i64 v xs) (hv' : Sees w .i64 v' ys) :
    Calls Try.prog 12 #[ltV d v p, ltV d' v' p'] w fun e w' => e = .returned (.bool (decide (d = d' ∧ p = p' ∧ xs = ys))) ∧ Below w.heap.size w w' := by
  obtain ⟨a, ca, rfl, ha1, ha2, hac⟩ := hv.form
  obtain ⟨b, cb, rfl, hb1, hb2, hbc⟩ := hv'.form
  unfold maxLen at ha2 hb2
  have HA := hid hac
  have HB := hid hbc
  clear hv hv' hac hbc
  by_cases hdd : d = d'
  · by_cases hpp : p = p'
    · subst hdd hpp
      rw [show decide (d = d ∧ p = p ∧ xs = ys) = decide (xs = ys) by simp]
      by_cases hl : xs.length = ys.length
      · have hlb : ((xs.length : Int) != (ys.length : Int)) = false := by simp [hl]
        have HL := hid hl
        clear hl
        go_enter Try.func12, Try.ntmps12
        go_wp2
        go_loopw [5] (fun i wr => ∃ k : Nat, k ≤ xs.length ∧ i = .int .i64 k ∧ xs.take k = ys.take k ∧ BoxAt wr w.heap.size 24 #[.int .i64 d, .slice a xs.length ca, .int .i64 p] ∧
          BoxAt wr (w.heap.size + 1) 24 #[.int .i64 d, .slice b ys.length cb, .int .i64 p] ∧ Below w.heap.size w wr) (fun i _ => xs.length - (intOf i).toNat)
        case atStart =>
          refine ⟨0, by omega, rfl, rfl, (BoxAt.new w _ _).alloc _, ?_, ((Below.refl _ _).alloc (Nat.le_refl _) _).alloc (by simp) _⟩
          have h := BoxAt.new (w.alloc (.cells #[.int .i64 d, .slice a xs.length ca, .int .i64 p] 24)) 24 #[.int .i64 d, .slice b ys.length cb, .int .i64 p]
          simpa using h
        case round =>
          obtain ⟨k, hk, rfl, ht, b0, b1, hbel⟩ := hrel
          have HT := hid ht
          have c1 := b0.cell 1
          have e1 := b1.cell 1
          simp at c1 e1
          have B0 := hid b0
          have B1 := hid b1
          clear ht b0 b1
          by_cases hlt : k < xs.length
          · have hlt2 : k < ys.length := by rw [← HL.out]; exact hlt
            obtain ⟨g1, o1, rfl, hw1, hc1⟩ := HA.out (by omega)
            obtain ⟨g2, o2, rfl, hw2, hc2⟩ := HB.out (by omega)
            have hx1 : wr.cell? ⟨g1, o1 + k, none⟩ = some (.int .i64 (xs.getD k 0)) := (hbel.cell (by exact hw1)).trans (hc1 k hlt)
            have hx2 : wr.cell? ⟨g2, o2 + k, none⟩ = some (.int .i64 (ys.getD k 0)) := (hbel.cell (by exact hw2)).trans (hc2 k hlt2)
            have HS := hid (take_eq_snoc hlt hlt2 HT.out)
            have HN := hid (show xs.getD k 0 ≠ ys.getD k 0 → ¬ xs = ys from fun h e => h (by rw [e]))
            clear hc1 hc2 HA HB
            generalize xs.getD k 0 = x at *
            generalize ys.getD k 0 = y at *
            by_cases hxy : x = y
            · have hxb : (x != y) = false := by simp [hxy]
              have HXY := hid hxy
              clear hxy
              go_wp2
              go_quiet (fail)
              all_goals (try go_wp2)
              all_goals
                go_roundw
                case rel => exact ⟨k + 1, by omega, by go_num, HS.out HXY.out, B0.out, B1.out, below_drewN6 hbel nq⟩
                case measure => simp [intOf]; omega
            · have hxb : (x != y) = true := by simp [hxy]
              have HXY := hid (HN.out hxy)
              clear hxy
              go_wp2
              go_quiet (fail)
              all_goals (try go_wp2)
              all_goals
                go_ret
                exact ⟨by rw [decide_eq_false HXY.out]; rfl, below_drewN6 hbel nq⟩
          · have hxy : xs = ys := by
              have := HT.out
              rw [List.take_of_length_le (by omega), List.take_of_length_le (by rw [← HL.out]; omega)] at this
              exact this
            have HXY := hid hxy
            clear hxy
            go_wp2
            go_ret
            exact ⟨by rw [decide_eq_true HXY.out]; rfl, hbel⟩
      · have hlb : ((xs.length : Int) != (ys.length : Int)) = true := by simp; omega
        have hn : ¬ xs = ys := fun h => hl (by rw [h])
        have HN := hid hn
        clear hl hn
        go_enter Try.func12, Try.ntmps12
        go_wp2
        go_ret
        exact ⟨by rw [decide_eq_false HN.out]; rfl, ((Below.refl _ _).alloc (Nat.le_refl _) _).alloc (by simp) _⟩
    · have hdb : (d != d') = false := by simp [hdd]
      have hpb : (p != p') = true := by simp [hpp]
      have HN := hid (show ¬ (d = d' ∧ p = p' ∧ xs = ys) from fun h => hpp h.2.1)
      clear hdd hpp
      go_enter Try.func12, Try.ntmps12
      go_wp2
      go_ret
      exact ⟨by rw [decide_eq_false HN.out]; rfl, ((Below.refl _ _).alloc (Nat.le_refl _) _).alloc (by simp) _⟩
  · have hdb : (d != d') = true := by simp [hdd]
    have HN := hid (show ¬ (d = d' ∧ p = p' ∧ xs = ys) from fun h => hdd h.1)
    clear hdd
    go_enter Try.func12, Try.ntmps12
    go_wp2
    go_ret
    exact ⟨by rw [decide_eq_false HN.out]; rfl, ((Below.refl _ _).alloc (Nat.le_refl _) _).alloc (by simp) _⟩
end Go.Proofs.Ytdmdpfjnbifegaa
