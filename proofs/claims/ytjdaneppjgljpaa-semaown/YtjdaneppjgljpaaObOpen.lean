/-
  A slice of those who wait, a slice of integers, as parts of an argument.
-/
import Derived.Test.YtjdaneppjgljpaaRows
import Derived.Test.YtjdaneppjgljpaaVOpen
import Derived.Test.YtjdaneppjgljpaaSlT
import Derived.Deep.Strs
import Derived.RowKit
namespace Go.Proofs.Ytjdaneppjgljpaa
open Go.RowKit Go.Deep Go.ChangeShapes Go.WideShapes
set_option linter.unusedVariables false

theorem open_slice_Wt {H : Type} {enc : TypeId × Value → H} {w : World} {base : Nat} {spare : Nat → Bool} {held : Bool} {fuel : Nat} {cs : List Value} {x : DataW H × List MemPlace}
    (h : DataW.trod enc Try.prog w base spare held fuel 22 cs = some x) : ∃ (s : Sl) (l : List Wt), cs = [s.val] ∧ SeesWt w s.val l ∧ ∀ r ∈ l, r.fit := by
  have hc : Try.prog.cellsOf 26 = 3 := by kernel_rfl
  rcases open_slice Try.underlying22 h with ⟨hcs, _⟩ | ⟨x, len, cap, m, n, D, Pl, hcs, _, hl, hm, hmm, _, hx⟩
  · exact ⟨⟨none, 0, 0⟩, [], hcs, SeesWt.nil _, by simp⟩
  · have hlm : len ≤ m := by rw [hmm]; split <;> omega
    have hin : Inhabited Wt := ⟨Wt.zero⟩
    obtain ⟨R, hR⟩ := choose_lt (α := Wt) (n := m) (p := fun i r => r.fit ∧ ∀ j, j < 3 → w.cell? (x.add (i * 3 + j)) = some (r.cells.getD j .nilIface)) (fun i hi => by
      obtain ⟨cs', h1, h2⟩ := hx i hi
      obtain ⟨r, rfl, hfit⟩ := open_cells_Wt h2
      refine ⟨r, hfit, fun j hj => ?_⟩
      rw [hc] at h1
      obtain ⟨_, _, hcell⟩ := World.cells?_some h1
      have := hcell j hj
      rw [add_add] at this
      rw [this]
      match j, hj with
      | 0, _ => rfl
      | 1, _ => rfl
      | 2, _ => rfl)
    refine ⟨⟨some x, len, cap⟩, (List.range len).map R, hcs, .inr ⟨x, cap, by simp [Sl.val], by simpa using hl, hm, fun i hi j hj => ?_⟩, ?_⟩
    · simp at hi
      rw [(hR i (by omega)).2 j hj]
      simp [List.getD, hi]
    · intro r hr
      simp at hr
      obtain ⟨i, hi, rfl⟩ := hr
      exact (hR i (by omega)).1

end Go.Proofs.Ytjdaneppjgljpaa
