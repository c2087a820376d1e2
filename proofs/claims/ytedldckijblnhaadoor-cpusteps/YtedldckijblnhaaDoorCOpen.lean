/-
  A core as an argument.
-/
import Derived.Test.YtedldckijblnhaaDoorCSpec
import Derived.Deep.Strs
import Derived.RowKit
namespace Go.Proofs.YtedldckijblnhaaDoor
open Go.RowKit Go.Deep Go.ChangeShapes Go.WideShapes
set_option linter.unusedVariables false

theorem open_cells_Co {H : Type} {enc : TypeId × Value → H} {w : World} {base : Nat} {spare : Nat → Bool} {held : Bool} {fuel : Nat} {cs : List Value} {x : DataW H × List MemPlace}
    (h : DataW.trod enc Tryd.prog w base spare held fuel 25 cs = some x) : ∃ c : Co, cs = [.int .i64 c.p, .int .i64 c.r0, .int .i64 c.r1, .int .i64 c.r2, .int .i64 c.r3] ∧ c.fit := by
  obtain ⟨y0, y1, n, _, hl, h0, h1⟩ := trod_struct2 Tryd.underlying25 h
  have hc : Tryd.prog.cellsOf 25 = 5 := by kernel_rfl
  have hi : Tryd.prog.cellsOf 3 = 1 := by kernel_rfl
  have ha : Tryd.prog.cellsOf 23 = 4 := by kernel_rfl
  rw [hc] at hl
  match cs, hl with
  | [c0, c1, c2, c3, c4], _ =>
    simp only [hi, ha] at h0 h1
    obtain ⟨a, ea, _, wa⟩ := DataW.trod_int Tryd.underlying3 h0
    obtain ⟨xs, m, _, _, _, hlen, hx⟩ := DataW.trod_array Tryd.underlying23 h1
    have get : ∀ i, i < 4 → ∃ r, xs[i]? = some r := fun i hi => ⟨xs[i], List.getElem?_eq_getElem (by omega)⟩
    simp only [hi] at hx
    obtain ⟨g0, e0⟩ := get 0 (by omega)
    obtain ⟨g1, e1⟩ := get 1 (by omega)
    obtain ⟨g2, e2⟩ := get 2 (by omega)
    obtain ⟨g3, e3⟩ := get 3 (by omega)
    have x0 := hx 0 (by omega)
    have x1 := hx 1 (by omega)
    have x2 := hx 2 (by omega)
    have x3 := hx 3 (by omega)
    rw [e0] at x0
    rw [e1] at x1
    rw [e2] at x2
    rw [e3] at x3
    obtain ⟨b0, f0, _, w0⟩ := DataW.trod_int Tryd.underlying3 x0
    obtain ⟨b1, f1, _, w1⟩ := DataW.trod_int Tryd.underlying3 x1
    obtain ⟨b2, f2, _, w2⟩ := DataW.trod_int Tryd.underlying3 x2
    obtain ⟨b3, f3, _, w3⟩ := DataW.trod_int Tryd.underlying3 x3
    simp at ea f0 f1 f2 f3
    subst ea f0 f1 f2 f3
    exact ⟨⟨a, b0, b1, b2, b3⟩, rfl, bounds_i64 wa, bounds_i64 w0, bounds_i64 w1, bounds_i64 w2, bounds_i64 w3⟩

theorem open_one_Co {H : Type} {enc : TypeId × Value → H} {w : World} {v : Value} {d : DataW H} {p : List MemPlace} (hv : Value.okWide Tryd.prog w .any 0 25 v)
    (h : DataW.Trod enc Tryd.prog w 0 (fun _ => true) true 25 v d p) : ∃ r : Co, v = r.val ∧ r.fit := by
  obtain ⟨cs, rfl, _⟩ := okWide_struct Tryd.underlying25 hv
  obtain ⟨fuel, hf⟩ := h
  obtain ⟨r, hr, hfit⟩ := open_cells_Co hf
  refine ⟨r, ?_, hfit⟩
  simp [Value.cells] at hr
  unfold Co.val
  congr 1
  apply Array.toList_inj.1
  exact hr
end Go.Proofs.YtedldckijblnhaaDoor
