/-
  The chapter's example holds.
-/
import Derived.Test.YtnbifmfocdejpaaVAdd
import Derived.Test.YtnbifmfocdejpaaVAll
namespace Go.Proofs.Ytnbifmfocdejpaa
open Go.RowKit
set_option linter.unusedVariables false

/-- The example's list behind each of its steps. -/
def exV (k : Nat) : List Wt := if k = 0 then [] else if k = 1 then [⟨0, 1, 0⟩] else if k = 2 then [⟨1, 3, 0⟩, ⟨0, 1, 0⟩] else [⟨1, 3, 0⟩, ⟨2, 2, 0⟩, ⟨0, 1, 0⟩]
theorem exV1 : addP (exV 0) ⟨0, 1, 0⟩ true = exV 1 := rfl
theorem exV2 : addP (exV 1) ⟨1, 3, 0⟩ true = exV 2 := rfl
theorem exV3 : addP (exV 2) ⟨2, 2, 0⟩ true = exV 3 := rfl

set_option maxRecDepth 100000 in
set_option maxHeartbeats 1600000 in
theorem vawake_any (w : World) : Calls Try.prog 8 #[] w fun e w' => e = .returned (.bool true) ∧ Below w.heap.size w w' := by
  go_enter Try.func8, Try.ntmps8
  go_wp2
  go_loopw [1, 2] (fun o t wc => ∃ k : Nat, k ≤ 3 ∧ t = .int .i64 k ∧ OWt wc w.heap.size o (exV k) ∧ Below w.heap.size w wc) (fun _ t _ => 3 - (intOf t).toNat)
  case atStart => exact ⟨0, by omega, rfl, OWt.nil _ _, Below.refl _ _⟩
  case round =>
    obtain ⟨k, hk, rfl, hown, hbel⟩ := hrel
    have HO := hid hown
    have HB := hid hbel
    clear hown hbel
    have hk' : k = 0 ∨ k = 1 ∨ k = 2 ∨ k = 3 := by omega
    clear hk
    rcases hk' with rfl | rfl | rfl | rfl
    · go_wp2_with fail
      refine (add_any ⟨0, 1, 0⟩ true (HO.out.sees) (by simp [exV])).mono ?_
      rintro e w1 ⟨u, rfl, hu, hb⟩
      rw [exV1] at hu
      have HO1 := hid (hu.mono HB.out.size)
      have HB1 := hid (HB.out.trans (hb.mono HB.out.size))
      clear hu hb HO HB
      go_wp2
      go_roundw
      case rel => exact ⟨1, by omega, rfl, HO1.out, HB1.out⟩
      case measure => simp [intOf]
    · go_wp2_with fail
      refine (add_any ⟨1, 3, 0⟩ true (HO.out.sees) (by simp [exV])).mono ?_
      rintro e w1 ⟨u, rfl, hu, hb⟩
      rw [exV2] at hu
      have HO1 := hid (hu.mono HB.out.size)
      have HB1 := hid (HB.out.trans (hb.mono HB.out.size))
      clear hu hb HO HB
      go_wp2
      go_roundw
      case rel => exact ⟨2, by omega, rfl, HO1.out, HB1.out⟩
      case measure => simp [intOf]
    · go_wp2_with fail
      refine (add_any ⟨2, 2, 0⟩ true (HO.out.sees) (by simp [exV])).mono ?_
      rintro e w1 ⟨u, rfl, hu, hb⟩
      rw [exV3] at hu
      have HO1 := hid (hu.mono HB.out.size)
      have HB1 := hid (HB.out.trans (hb.mono HB.out.size))
      clear hu hb HO HB
      go_wp2
      go_roundw
      case rel => exact ⟨3, by omega, rfl, HO1.out, HB1.out⟩
      case measure => simp [intOf]
    · have hs := HO.out.sees
      have HS := hid hs
      obtain ⟨al, cl, rfl, h1, h2, hc⟩ := hs.form
      obtain ⟨b, off, rfl, hbw, hcell⟩ := hc (by simp [exV])
      have c0 := hcell 0 (by simp [exV]) 1 (by decide)
      have c1 := hcell 1 (by simp [exV]) 1 (by decide)
      have c2 := hcell 2 (by simp [exV]) 1 (by decide)
      simp [exV, Wt.cells] at c0 c1 c2 h1
      have hl3 : (exV 3).length = 3 := rfl
      rw [hl3] at HS ⊢
      unfold maxLen at h2
      clear hs hc hcell HO
      go_wp2_with fail
      refine (has_any 2 HS.out (by simp [exV])).mono ?_
      rintro e w1 ⟨rfl, hb⟩
      rw [show hasP (exV 3) 2 = true from rfl]
      have HB1 := hid (HB.out.trans (hb.mono HB.out.size))
      clear hb HB HS
      go_wp2
      go_ret
      exact ⟨rfl, HB1.out⟩
end Go.Proofs.Ytnbifmfocdejpaa
