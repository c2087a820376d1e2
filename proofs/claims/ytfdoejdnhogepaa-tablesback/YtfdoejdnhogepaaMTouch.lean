/-
  What mem.refused, mem.number, mem.Load, mem.Store return, whatever memory and regions they are given, and that nothing that was there is written.
-/
import Derived.Test.YtfdoejdnhogepaaMReg
namespace Go.Proofs.Ytfdoejdnhogepaa
open Go.RowKit
set_option linter.unusedVariables false

theorem any_at (l : List Rg) (p : Rg → Bool) (k : Nat) (hk : k < l.length) (h : p (l.getD k Rg.zero) = true) : l.any p = true := by
  rw [List.any_eq_true]
  exact ⟨l[k], List.getElem_mem hk, by simpa [List.getD, List.getElem?_eq_getElem hk] using h⟩
theorem any_none (l : List Rg) (p : Rg → Bool) (h : ∀ j, j < l.length → p (l.getD j Rg.zero) = false) : l.any p = false := by
  rw [List.any_eq_false]
  intro x hx
  obtain ⟨j, hj, rfl⟩ := List.getElem_of_mem hx
  have := h j hj
  simpa [List.getD, List.getElem?_eq_getElem hj] using this
theorem fit_at {l : List Rg} (hl : ∀ r ∈ l, r.fit) (k : Nat) (hk : k < l.length) : (l.getD k Rg.zero).fit := by
  have := hl l[k] (List.getElem_mem hk)
  simpa [List.getD, List.getElem?_eq_getElem hk] using this

end Go.Proofs.Ytfdoejdnhogepaa
