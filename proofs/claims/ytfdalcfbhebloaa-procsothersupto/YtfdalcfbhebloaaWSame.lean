/-
  What the document's own Same returns: whether two lists are the same.
-/
import Derived.Test.YtfdalcfbhebloaaRows
import Derived.Test.YtfdalcfbhebloaaLib
import Derived.BigQuiet
namespace Go.Proofs.Ytfdalcfbhebloaa
open Go.RowKit
set_option linter.unusedVariables false

theorem take_eq_snoc {xs ys : List Int} {k : Nat} (hx : k < xs.length) (hy : k < ys.length) (h : xs.take k = ys.take k) (he : xs.getD k 0 = ys.getD k 0) : xs.take (k + 1) = ys.take (k + 1) := by
  rw [List.take_succ_eq_append_getElem hx, List.take_succ_eq_append_getElem hy, h]
  simp [List.getD, List.getElem?_eq_getElem hx, List.getElem?_eq_getElem hy] at he
  rw [he]

end Go.Proofs.Ytfdalcfbhebloaa
