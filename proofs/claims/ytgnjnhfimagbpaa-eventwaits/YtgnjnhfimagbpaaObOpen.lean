/-
  A slice of those who wait, a slice of integers, as parts of an argument.
-/
import Derived.Test.YtgnjnhfimagbpaaRows
import Derived.Test.YtgnjnhfimagbpaaVOpen
import Derived.Test.YtgnjnhfimagbpaaSlT
import Derived.Deep.Strs
import Derived.RowKit
namespace Go.Proofs.Ytgnjnhfimagbpaa
open Go.RowKit Go.Deep Go.ChangeShapes Go.WideShapes
set_option linter.unusedVariables false

theorem open_slice_Wt {H : Type} {enc : TypeId × Value → H} {w : World} {base : Nat} {spare : Nat → Bool} {held : Bool} {fuel : Nat} {cs : List Value} {x : DataW H × List MemPlace}
    (h : DataW.trod enc Try.prog w base spare held fuel 22 cs = some x) : ∃ (s : Sl) (l : List Wt), cs = [s.val] ∧ SeesWt w s.val l ∧ ∀ r ∈ l, r.fit := by
  have hc : Try.prog.cellsOf 26 = 3 := by kernel_rfl
  rcases open_slice Try.underlying22 h with ⟨hcs, _⟩ | ⟨x, len, cap, m, n, D, Pl, hcs, _, hl, hm, hmm, _, hx⟩
  · exact ⟨⟨none, 0, 0⟩, [], hcs, SeesWt.nil _, by simp⟩
  · have hlm : len ≤ m := by rw [hmm]; split <;> omega
    have hin : Inhabited Wt := ⟨Wt.zero⟩
    obtain ⟨R, hR⟩ := choose_lt (α := Wt) (n := m) (p := fun i r => r.fit ∧ ∀ j, j < 3 → w.cell? (x.add (i * 3 + j)) = some (r.cells.getD j .nilIface)) (fun i hi => by
      obtain ⟨cs', h1, h2⟩ := hx i hi
      obtain ⟨r, rfl, hfit⟩ := open_cells_Wt h2
      refine ⟨r, hfit, fun j hj => ?_⟩
      rw [hc] at h1
      obtain ⟨_, _, hcell⟩ := World.cells?_some h1
      have := hcell j hj
      rw [add_add] at this
      rw [this]
      match j, hj with
      | 0, _ => rfl
      | 1, _ => rfl
      | 2, _ => rfl)
    refine ⟨⟨some x, len, cap⟩, (List.range len).map R, hcs, .inr ⟨x, cap, by simp [Sl.val], by simpa using hl, hm, fun i hi j hj => ?_⟩, ?_⟩
    · simp at hi
      rw [(hR i (by omega)).2 j hj]
      simp [List.getD, hi]
    · intro r hr
      simp at hr
      obtain ⟨i, hi, rfl⟩ := hr
      exact (hR i (by omega)).1

theorem open_slice_I {H : Type} {enc : TypeId × Value → H} {w : World} {base : Nat} {spare : Nat → Bool} {held : Bool} {fuel : Nat} {cs : List Value} {x : DataW H × List MemPlace}
    (h : DataW.trod enc Try.prog w base spare held fuel 38 cs = some x) : ∃ (s : Sl) (l : List Int), cs = [s.val] ∧ Sees w .i64 s.val l ∧ ∀ n ∈ l, (Lit.int .i64 n).wf = true := by
  rcases open_ints Try.underlying38 Try.underlying3 (by kernel_rfl) h with ⟨hcs, _⟩ | ⟨x, l, c, zs, hcs, _, hl, hm, hz, _, hcell, hwz⟩
  · exact ⟨⟨none, 0, 0⟩, [], hcs, Sees.nil _ _, by simp⟩
  · have hlz : l ≤ zs.length := by rw [hz]; split <;> omega
    have hlen : (zs.take l).length = l := by simp; omega
    refine ⟨⟨some x, l, c⟩, zs.take l, hcs, .inr ⟨x, c, by rw [hlen]; rfl, by omega, hm, fun i hi => ?_⟩, fun n hn => hwz n (List.mem_of_mem_take hn)⟩
    rw [hcell i (by omega)]
    simp [List.getD, List.getElem?_take_of_lt (show i < l by omega)]
end Go.Proofs.Ytgnjnhfimagbpaa
