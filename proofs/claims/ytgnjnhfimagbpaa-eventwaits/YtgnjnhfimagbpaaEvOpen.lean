/-
  An event as an argument.
-/
import Derived.Test.YtgnjnhfimagbpaaRows
import Derived.Test.YtgnjnhfimagbpaaEvReg
import Derived.Test.YtgnjnhfimagbpaaObOpen
import Derived.Deep.Strs
import Derived.RowKit
namespace Go.Proofs.Ytgnjnhfimagbpaa
open Go.RowKit Go.Deep Go.ChangeShapes Go.WideShapes
set_option linter.unusedVariables false

def Ev.wide (x : Ev) : Prop := (∀ y ∈ x.l, y.fit)
/-- An event as an argument: its value and what it reads as. -/
structure EvX where
  q : EvV
  c : Ev
def EvX.val (r : EvX) : Value := r.q.val
def EvX.fit (r : EvX) (w : World) : Prop := EvAt w r.q r.c ∧ r.c.wide

set_option maxRecDepth 100000 in
theorem open_cells_Ev {H : Type} {enc : TypeId × Value → H} {w : World} {fuel : Nat} {cs : List Value} {x : DataW H × List MemPlace}
    (h : DataW.trod enc Try.prog w 0 (fun _ => true) true fuel 24 cs = some x) : ∃ r : EvX, cs = r.q.cells ∧ r.fit w := by
  obtain ⟨y0, y1, n, _, hl, h0, h1⟩ := trod_struct2 Try.underlying24 h
  have hc : Try.prog.cellsOf 24 = 2 := by kernel_rfl
  have hi : Try.prog.cellsOf 3 = 1 := by kernel_rfl
  have hb : Try.prog.cellsOf 4 = 1 := by kernel_rfl
  have hw : Try.prog.cellsOf 22 = 1 := by kernel_rfl
  rw [hc] at hl
  match cs, hl with
  | [c0, c1], _ =>
    simp [hb] at h0
    obtain ⟨a0, e0, _⟩ := DataW.trod_bool Try.underlying4 h0
    simp [hw] at h1
    obtain ⟨s1, a1, e1, g1, k1⟩ : ∃ (s : Sl) (l : List Wt), [c1] = [s.val] ∧ SeesWt w s.val l ∧ ∀ r ∈ l, r.fit := open_slice_Wt h1
    simp at e0 e1
    subst e0 e1
    exact ⟨⟨⟨a0, s1⟩, ⟨a0, a1⟩⟩, rfl, ⟨rfl, g1⟩, k1⟩

theorem open_one_EvX {H : Type} {enc : TypeId × Value → H} {w : World} {v : Value} {d : DataW H} {p : List MemPlace} (hv : Value.okWide Try.prog w .any 0 24 v)
    (h : DataW.Trod enc Try.prog w 0 (fun _ => true) true 24 v d p) : ∃ r : EvX, v = r.val ∧ r.fit w := by
  obtain ⟨cs, rfl, _⟩ := okWide_struct Try.underlying24 hv
  obtain ⟨fuel, hf⟩ := h
  obtain ⟨r, hr, hfit⟩ := open_cells_Ev hf
  refine ⟨r, ?_, hfit⟩
  simp [Value.cells] at hr
  unfold EvX.val EvV.val
  congr 1
  apply Array.toList_inj.1
  exact hr
end Go.Proofs.Ytgnjnhfimagbpaa
