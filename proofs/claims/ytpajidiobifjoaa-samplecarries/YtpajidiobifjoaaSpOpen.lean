/-
  A sample as an argument.
-/
import Derived.Test.YtpajidiobifjoaaRows
import Derived.Test.YtpajidiobifjoaaSpReg
import Derived.Deep.Strs
import Derived.RowKit
namespace Go.Proofs.Ytpajidiobifjoaa
open Go.RowKit Go.Deep Go.ChangeShapes Go.WideShapes
set_option linter.unusedVariables false

theorem open_cells_Sp {H : Type} {enc : TypeId × Value → H} {w : World} {base : Nat} {spare : Nat → Bool} {held : Bool} {fuel : Nat} {cs : List Value} {x : DataW H × List MemPlace}
    (h : DataW.trod enc Try.prog w base spare held fuel 23 cs = some x) : ∃ r : Sp, cs = r.cells ∧ r.fit := by
  obtain ⟨y0, y1, y2, n, _, hl, h0, h1, h2⟩ := trod_struct3 Try.underlying23 h
  have hc : Try.prog.cellsOf 23 = 3 := by kernel_rfl
  have hi : Try.prog.cellsOf 3 = 1 := by kernel_rfl
  have hb : Try.prog.cellsOf 4 = 1 := by kernel_rfl
  rw [hc] at hl
  match cs, hl with
  | [c0, c1, c2], _ =>
    obtain ⟨a, ea, _⟩ := DataW.trod_bool Try.underlying4 h0
    simp at h1
    obtain ⟨b, eb, _, wb⟩ := DataW.trod_int Try.underlying3 h1
    simp [hi] at h2
    obtain ⟨c, ec, _, wc⟩ := DataW.trod_int Try.underlying3 h2
    simp [hi, hb] at ea eb ec
    subst ea eb ec
    obtain ⟨b1, b2⟩ := bounds_i64 wb
    obtain ⟨c1, c2⟩ := bounds_i64 wc
    exact ⟨⟨a, b, c⟩, rfl, b1, b2, c1, c2⟩

theorem open_one_Sp {H : Type} {enc : TypeId × Value → H} {w : World} {v : Value} {d : DataW H} {p : List MemPlace} (hv : Value.okWide Try.prog w .any 0 23 v)
    (h : DataW.Trod enc Try.prog w 0 (fun _ => true) true 23 v d p) : ∃ r : Sp, v = r.val ∧ r.fit := by
  obtain ⟨cs, rfl, _⟩ := okWide_struct Try.underlying23 hv
  obtain ⟨fuel, hf⟩ := h
  obtain ⟨r, hr, hfit⟩ := open_cells_Sp hf
  refine ⟨r, ?_, hfit⟩
  simp [Value.cells] at hr
  unfold Sp.val
  congr 1
  apply Array.toList_inj.1
  exact hr
end Go.Proofs.Ytpajidiobifjoaa
