/-
  At which place one who comes is put, as each of the two orders answers it, whatever the list, and which order a list has.
-/
import Derived.Test.YtgnjnhfimagbpaaVLib
namespace Go.Proofs.Ytgnjnhfimagbpaa
open Go.RowKit
set_option linter.unusedVariables false

/-- The place by rank: ahead of the first one of a lesser priority. -/
def placeP (l : List Wt) (x : Wt) : Nat := l.findIdx (fun y => decide (y.r < x.r))
theorem placeP_le (l : List Wt) (x : Wt) : placeP l x ≤ l.length := List.findIdx_le_length
theorem placeP_at (l : List Wt) (x : Wt) (k : Nat) (hk : k < l.length) (h : (l.getD k Wt.zero).r < x.r) (hno : ∀ j, j < k → ¬ (l.getD j Wt.zero).r < x.r) : placeP l x = k := by
  unfold placeP
  rw [List.findIdx_eq hk]
  refine ⟨by simpa [List.getD, List.getElem?_eq_getElem hk] using h, fun j hj => ?_⟩
  have := hno j hj
  simpa [List.getD, List.getElem?_eq_getElem (show j < l.length by omega)] using this
theorem placeP_none (l : List Wt) (x : Wt) (hno : ∀ j, j < l.length → ¬ (l.getD j Wt.zero).r < x.r) : placeP l x = l.length := by
  unfold placeP
  rw [List.findIdx_eq_length]
  intro y hy
  obtain ⟨j, hj, rfl⟩ := List.getElem_of_mem hy
  have := hno j hj
  simpa [List.getD, List.getElem?_eq_getElem hj] using this

set_option maxRecDepth 100000 in
set_option maxHeartbeats 800000 in
theorem rank_any (x : Wt) {v : Value} {l : List Wt} {w : World} (hv : SeesWt w v l) (hlen : l.length ≤ 900000) :
    Calls Try.prog 46 #[.agg #[], v, x.val] w fun e w' => e = .returned (.int .i64 (placeP l x)) ∧ Below w.heap.size w w' := by
  obtain ⟨al, cl, rfl, hl1, hl2, hlc⟩ := hv.form
  obtain ⟨p, pr, vl⟩ := x
  unfold maxLen at hl2
  have HC := hid hlc
  clear hlc hv
  have b0 := BoxAt.new (w.alloc (.cells #[] 64)) 26 #[.int .i64 p, .int .i64 pr, .int .i64 vl]
  rw [show (w.alloc (.cells #[] 64)).heap.size = w.heap.size + 1 by simp] at b0
  have hbel : Below w.heap.size w ((w.alloc (.cells #[] 64)).alloc (.cells #[.int .i64 p, .int .i64 pr, .int .i64 vl] 26)) := ((Below.refl _ _).alloc (Nat.le_refl _) _).alloc (by simp) _
  have B0 := hid b0
  have HB := hid hbel
  clear b0 hbel
  unfold Wt.val
  simp only
  go_enter Try.func46, Try.ntmps46
  go_wp2
  go_loopw [11] (fun t wc => ∃ i : Nat, i ≤ l.length ∧ t = .int .i64 i ∧ (∀ j, j < i → ¬ (l.getD j Wt.zero).r < pr) ∧ BoxAt wc (w.heap.size + 1) 26 #[.int .i64 p, .int .i64 pr, .int .i64 vl] ∧ Below w.heap.size w wc) (fun t _ => l.length - (intOf t).toNat)
  case atStart => exact ⟨0, by omega, rfl, by intro j hj; omega, B0.out, HB.out⟩
  case round =>
    obtain ⟨i, hi, rfl, hgood, hbox, hbel⟩ := hrel
    have HG := hid hgood
    have HX := hid hbox
    have hx1 := hbox.cellA 1 _ rfl
    clear hgood hbox HB B0
    by_cases hlt : i < l.length
    · obtain ⟨b, off, rfl, hbw, hcell⟩ := HC.out (by omega)
      have c0 := (hbel.cell (by exact hbw)).trans (hcell i hlt 0 (by decide))
      have c1 := (hbel.cell (by exact hbw)).trans (hcell i hlt 1 (by decide))
      have c2 := (hbel.cell (by exact hbw)).trans (hcell i hlt 2 (by decide))
      have HP := hid (placeP_at l ⟨p, pr, vl⟩ i hlt)
      clear hcell HC
      obtain ⟨r, hr⟩ : ∃ r, l.getD i Wt.zero = r := ⟨_, rfl⟩
      have HR := hid hr
      rw [hr] at c0 c1 c2 HP
      clear hr
      obtain ⟨x0, x1, x2⟩ := r
      simp only [Wt.cells, List.getD_cons_zero, List.getD_cons_succ, Nat.add_zero] at c0 c1 c2
      have HBA : ∀ o, Hid (Below w.heap.size w (wr.alloc o)) := fun o => hid (hbel.alloc hbel.size _)
      clear hbel
      by_cases hless : x1 < pr
      · go_wp2
        go_ret
        exact ⟨by rw [HP.out hless HG.out]; rfl, (HBA _).out⟩
      · go_wp2
        go_roundw
        case rel =>
          refine ⟨i + 1, by omega, by go_num, fun j hj => ?_, HX.out.alloc _, (HBA _).out⟩
          by_cases e : j = i
          · subst e; rw [HR.out]; exact hless
          · exact HG.out j (by omega)
        case measure => simp [intOf]; omega
    · have HP := hid (placeP_none l ⟨p, pr, vl⟩ (fun j hj => HG.out j (by omega)))
      go_wp2
      go_ret
      exact ⟨by rw [HP.out]; rfl, hbel⟩

set_option maxRecDepth 100000 in
theorem coming_any (x : Wt) {v : Value} {l : List Wt} {w : World} (hv : SeesWt w v l) :
    Calls Try.prog 47 #[.agg #[], v, x.val] w fun e w' => e = .returned (.int .i64 l.length) ∧ Below w.heap.size w w' := by
  obtain ⟨al, cl, rfl, hl1, hl2, _⟩ := hv.form
  obtain ⟨p, pr, vl⟩ := x
  clear hv
  unfold Wt.val
  simp only
  go_enter Try.func47, Try.ntmps47
  go_wp2
  go_ret
  exact ⟨rfl, ((Below.refl _ _).alloc (Nat.le_refl _) _).alloc (by simp) _⟩

def orderV (q : Bool) : Value := if q then .iface 64 (.agg #[]) else .iface 65 (.agg #[])

set_option maxRecDepth 100000 in
theorem order_any (q : Bool) (w : World) : Calls Try.prog 28 #[.bool q] w fun e w' => e = .returned (orderV q) ∧ w' = w := by
  rcases q with _ | _
  all_goals
    go_enter Try.func28, Try.ntmps28
    go_wp2
    go_ret
    exact ⟨rfl, rfl⟩
end Go.Proofs.Ytgnjnhfimagbpaa
