/-
  What the document's own Same returns: whether two lists are the same.
-/
import Derived.Test.YtehpmjaldghdiaaRows
import Derived.Test.YtehpmjaldghdiaaLib
import Derived.BigQuiet
namespace Go.Proofs.Ytehpmjaldghdiaa
open Go.RowKit
set_option linter.unusedVariables false

theorem take_eq_snoc {xs ys : List Int} {k : Nat} (hx : k < xs.length) (hy : k < ys.length) (h : xs.take k = ys.take k) (he : xs.getD k 0 = ys.getD k 0) : xs.take (k + 1) = ys.take (k + 1) := by
  rw [List.take_succ_eq_append_getElem hx, List.take_succ_eq_append_getElem hy, h]
  simp [List.getD, List.getElem?_eq_getElem hx, List.getElem?_eq_getElem hy] at he
  rw [he]

set_option maxRecDepth 100000 in
set_option maxHeartbeats 400000 in
theorem same_any (va vb : Value) (xs ys : List Int) (w : World) (ha : Sees w .i64 va xs) (hb : Sees w .i64 vb ys) :
    Calls Try.prog 23 #[va, vb] w fun e w' => e = .returned (.bool (decide (xs = ys))) ∧ Below w.heap.size w w' := by
  obtain ⟨a, ca, rfl, ha1, ha2, hac⟩ := ha.form
  obtain ⟨b, cb, rfl, hb1, hb2, hbc⟩ := hb.form
  unfold maxLen at ha2 hb2
  have HA := hid hac
  have HB := hid hbc
  clear ha hb hac hbc
  by_cases hl : xs.length = ys.length
  · have hlb : ((xs.length : Int) != (ys.length : Int)) = false := by simp [hl]
    have HL := hid hl
    clear hl
    go_enter Try.func23, Try.ntmps23
    go_wp2
    go_loopw [5] (fun i wr => ∃ k : Nat, k ≤ xs.length ∧ i = .int .i64 k ∧ xs.take k = ys.take k ∧ Below w.heap.size w wr) (fun i _ => xs.length - (intOf i).toNat)
    case atStart => exact ⟨0, by omega, rfl, rfl, Below.refl _ _⟩
    case round =>
      obtain ⟨k, hk, rfl, ht, hbel⟩ := hrel
      have HT := hid ht
      clear ht
      by_cases hlt : k < xs.length
      · have hlt2 : k < ys.length := by rw [← HL.out]; exact hlt
        obtain ⟨b1, o1, rfl, hw1, hc1⟩ := HA.out (by omega)
        obtain ⟨b2, o2, rfl, hw2, hc2⟩ := HB.out (by omega)
        have hx1 : wr.cell? ⟨b1, o1 + k, none⟩ = some (.int .i64 (xs.getD k 0)) := (hbel.cell (by exact hw1)).trans (hc1 k hlt)
        have hx2 : wr.cell? ⟨b2, o2 + k, none⟩ = some (.int .i64 (ys.getD k 0)) := (hbel.cell (by exact hw2)).trans (hc2 k hlt2)
        have HS := hid (take_eq_snoc hlt hlt2 HT.out)
        have HN := hid (show xs.getD k 0 ≠ ys.getD k 0 → ¬ xs = ys from fun h e => h (by rw [e]))
        clear hc1 hc2 HA HB
        generalize xs.getD k 0 = x at *
        generalize ys.getD k 0 = y at *
        by_cases hxy : x = y
        · have hxb : (x != y) = false := by simp [hxy]
          have HXY := hid hxy
          clear hxy
          go_wp2
          go_region
          all_goals (try go_wp2)
          all_goals
            go_roundw
            case rel => exact ⟨k + 1, by omega, by go_num, HS.out HXY.out, by repeat (first | exact hbel | refine Below.drew ?_)⟩
            case measure => simp [intOf]; omega
        · have hxb : (x != y) = true := by simp [hxy]
          have HXY := hid (HN.out hxy)
          clear hxy
          go_wp2
          go_region
          all_goals (try go_wp2)
          all_goals
            go_ret
            exact ⟨by rw [decide_eq_false HXY.out]; rfl, by repeat (first | exact hbel | refine Below.drew ?_)⟩
      · have hxy : xs = ys := by
          have := HT.out
          rw [List.take_of_length_le (by omega), List.take_of_length_le (by rw [← HL.out]; omega)] at this
          exact this
        have HXY := hid hxy
        clear hxy
        go_wp2
        go_ret
        exact ⟨by rw [decide_eq_true HXY.out]; rfl, hbel⟩
  · have hlb : ((xs.length : Int) != (ys.length : Int)) = true := by simp; omega
    have hn : ¬ xs = ys := fun h => hl (by rw [h])
    have HN := hid hn
    clear hl hn
    go_enter Try.func23, Try.ntmps23
    go_wp2
    go_ret
    exact ⟨by rw [decide_eq_false HN.out]; rfl, Below.refl _ _⟩
end Go.Proofs.Ytehpmjaldghdiaa
