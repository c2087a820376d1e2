/-
  What the document's Has and All return, whatever lists they are given; Same and Wakes of two lists that read the same.
-/
import Derived.Test.YtjdaneppjgljpaaVRef
namespace Go.Proofs.Ytjdaneppjgljpaa
open Go.RowKit
set_option linter.unusedVariables false

set_option maxRecDepth 100000 in
set_option maxHeartbeats 800000 in
theorem same_Wt {va vb : Value} {l : List Wt} {w : World} (ha : SeesWt w va l) (hb : SeesWt w vb l) :
    Calls Try.prog 20 #[va, vb] w fun e w' => e = .returned (.bool true) ∧ Below w.heap.size w w' := by
  obtain ⟨a, ca, rfl, ha1, ha2, hac⟩ := ha.form
  obtain ⟨b, cb, rfl, hb1, hb2, hbc⟩ := hb.form
  unfold maxLen at ha2 hb2
  have HA := hid hac
  have HB := hid hbc
  clear ha hb hac hbc
  have hlb : ((l.length : Int) != (l.length : Int)) = false := by simp
  go_enter Try.func20, Try.ntmps20
  go_wp2
  go_loopw [5] (fun i wr => ∃ k : Nat, k ≤ l.length ∧ i = .int .i64 k ∧ Below w.heap.size w wr) (fun i _ => l.length - (intOf i).toNat)
  case atStart => exact ⟨0, by omega, rfl, Below.refl _ _⟩
  case round =>
    obtain ⟨k, hk, rfl, hbel⟩ := hrel
    by_cases hlt : k < l.length
    · obtain ⟨b1, o1, rfl, hw1, hc1⟩ := HA.out (by omega)
      obtain ⟨b2, o2, rfl, hw2, hc2⟩ := HB.out (by omega)
      have c0 := (hbel.cell (by exact hw1)).trans (hc1 k hlt 0 (by decide))
      have c1 := (hbel.cell (by exact hw1)).trans (hc1 k hlt 1 (by decide))
      have c2 := (hbel.cell (by exact hw1)).trans (hc1 k hlt 2 (by decide))
      have d0 := (hbel.cell (by exact hw2)).trans (hc2 k hlt 0 (by decide))
      have d1 := (hbel.cell (by exact hw2)).trans (hc2 k hlt 1 (by decide))
      have d2 := (hbel.cell (by exact hw2)).trans (hc2 k hlt 2 (by decide))
      clear hc1 hc2 HA HB
      obtain ⟨r, hr⟩ : ∃ r, l.getD k Wt.zero = r := ⟨_, rfl⟩
      rw [hr] at c0 c1 c2 d0 d1 d2
      clear hr
      obtain ⟨x0, x1, x2⟩ := r
      simp only [Wt.cells, List.getD_cons_zero, List.getD_cons_succ, Nat.add_zero] at c0 c1 c2 d0 d1 d2
      have e0 : (x0 != x0) = false := by simp
      have e1 : (x1 != x1) = false := by simp
      have e2 : (x2 != x2) = false := by simp
      have HBE := hid hbel
      clear hbel
      go_wp2
      go_quiet (fail)
      go_wp2
      go_roundw
      case rel => exact ⟨k + 1, by omega, by go_num, below_drewV HBE.out nq⟩
      case measure => simp [intOf]; omega
    · go_wp2
      go_ret
      exact ⟨rfl, hbel⟩

set_option maxRecDepth 100000 in
set_option maxHeartbeats 800000 in
theorem same_Wk {va vb : Value} {l : List Wk} {w : World} (ha : SeesWk w va l) (hb : SeesWk w vb l) :
    Calls Try.prog 14 #[va, vb] w fun e w' => e = .returned (.bool true) ∧ Below w.heap.size w w' := by
  obtain ⟨a, ca, rfl, ha1, ha2, hac⟩ := ha.form
  obtain ⟨b, cb, rfl, hb1, hb2, hbc⟩ := hb.form
  unfold maxLen at ha2 hb2
  have HA := hid hac
  have HB := hid hbc
  clear ha hb hac hbc
  have hlb : ((l.length : Int) != (l.length : Int)) = false := by simp
  go_enter Try.func14, Try.ntmps14
  go_wp2
  go_loopw [5] (fun i wr => ∃ k : Nat, k ≤ l.length ∧ i = .int .i64 k ∧ Below w.heap.size w wr) (fun i _ => l.length - (intOf i).toNat)
  case atStart => exact ⟨0, by omega, rfl, Below.refl _ _⟩
  case round =>
    obtain ⟨k, hk, rfl, hbel⟩ := hrel
    by_cases hlt : k < l.length
    · obtain ⟨b1, o1, rfl, hw1, hc1⟩ := HA.out (by omega)
      obtain ⟨b2, o2, rfl, hw2, hc2⟩ := HB.out (by omega)
      have c0 := (hbel.cell (by exact hw1)).trans (hc1 k hlt 0 (by decide))
      have c1 := (hbel.cell (by exact hw1)).trans (hc1 k hlt 1 (by decide))
      have c2 := (hbel.cell (by exact hw1)).trans (hc1 k hlt 2 (by decide))
      have d0 := (hbel.cell (by exact hw2)).trans (hc2 k hlt 0 (by decide))
      have d1 := (hbel.cell (by exact hw2)).trans (hc2 k hlt 1 (by decide))
      have d2 := (hbel.cell (by exact hw2)).trans (hc2 k hlt 2 (by decide))
      clear hc1 hc2 HA HB
      obtain ⟨r, hr⟩ : ∃ r, l.getD k Wk.zero = r := ⟨_, rfl⟩
      rw [hr] at c0 c1 c2 d0 d1 d2
      clear hr
      obtain ⟨x0, x1, x2⟩ := r
      simp only [Wk.cells, List.getD_cons_zero, List.getD_cons_succ, Nat.add_zero] at c0 c1 c2 d0 d1 d2
      have e0 : (x0 != x0) = false := by simp
      have e1 : (x1 != x1) = false := by simp
      have e2 : (x2 != x2) = false := by simp
      have HBE := hid hbel
      clear hbel
      go_wp2
      go_quiet (fail)
      go_wp2
      go_roundw
      case rel => exact ⟨k + 1, by omega, by go_num, below_drewV HBE.out nq⟩
      case measure => simp [intOf]; omega
    · go_wp2
      go_ret
      exact ⟨rfl, hbel⟩

theorem has_at (l : List Wt) (p : Int) (k : Nat) (hk : k < l.length) (h : (l.getD k Wt.zero).p = p) : hasP l p = true := by
  unfold hasP
  rw [List.any_eq_true]
  exact ⟨l[k], List.getElem_mem hk, by simpa [List.getD, List.getElem?_eq_getElem hk] using h⟩
theorem has_none (l : List Wt) (p : Int) (h : ∀ j, j < l.length → ¬ (l.getD j Wt.zero).p = p) : hasP l p = false := by
  unfold hasP
  rw [List.any_eq_false]
  intro y hy
  obtain ⟨j, hj, rfl⟩ := List.getElem_of_mem hy
  have := h j hj
  simpa [List.getD, List.getElem?_eq_getElem hj] using this

theorem allP_next (l : List Wt) (c v : Int) (i : Nat) (hi : i < l.length) : allP (l.take (i + 1)) c v = allP (l.take i) c v ++ [wakeW c v (l.getD i Wt.zero)] := by
  rw [take_snoc l i hi]
  simp only [allP, List.map_append, List.map_cons, List.map_nil]
theorem allP_len (l : List Wt) (c v : Int) (i : Nat) (hi : i ≤ l.length) : (allP (l.take i) c v).length = i := by simp [allP]; omega

end Go.Proofs.Ytjdaneppjgljpaa
