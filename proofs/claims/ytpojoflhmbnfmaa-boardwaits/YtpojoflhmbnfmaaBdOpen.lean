/-
  A board as an argument.
-/
import Derived.Test.YtpojoflhmbnfmaaRows
import Derived.Test.YtpojoflhmbnfmaaBdReg
import Derived.Test.YtpojoflhmbnfmaaObOpen
import Derived.Deep.Strs
import Derived.RowKit
namespace Go.Proofs.Ytpojoflhmbnfmaa
open Go.RowKit Go.Deep Go.ChangeShapes Go.WideShapes
set_option linter.unusedVariables false

def Bd.wide (x : Bd) : Prop := (Lit.int .i64 x.v).wf = true ∧ (∀ y ∈ x.l, y.fit)
/-- A board as an argument: its value and what it reads as. -/
structure BdX where
  q : BdV
  c : Bd
def BdX.val (r : BdX) : Value := r.q.val
def BdX.fit (r : BdX) (w : World) : Prop := BdAt w r.q r.c ∧ r.c.wide

set_option maxRecDepth 100000 in
theorem open_cells_Bd {H : Type} {enc : TypeId × Value → H} {w : World} {fuel : Nat} {cs : List Value} {x : DataW H × List MemPlace}
    (h : DataW.trod enc Try.prog w 0 (fun _ => true) true fuel 24 cs = some x) : ∃ r : BdX, cs = r.q.cells ∧ r.fit w := by
  obtain ⟨y0, y1, y2, n, _, hl, h0, h1, h2⟩ := trod_struct3 Try.underlying24 h
  have hc : Try.prog.cellsOf 24 = 3 := by kernel_rfl
  have hi : Try.prog.cellsOf 3 = 1 := by kernel_rfl
  have hb : Try.prog.cellsOf 4 = 1 := by kernel_rfl
  have hw : Try.prog.cellsOf 22 = 1 := by kernel_rfl
  rw [hc] at hl
  match cs, hl with
  | [c0, c1, c2], _ =>
    simp [hb] at h0
    obtain ⟨a0, e0, _⟩ := DataW.trod_bool Try.underlying4 h0
    simp [hi] at h1
    obtain ⟨a1, e1, _, u1⟩ := DataW.trod_int Try.underlying3 h1
    simp [hw] at h2
    obtain ⟨s2, a2, e2, g2, k2⟩ : ∃ (s : Sl) (l : List Wt), [c2] = [s.val] ∧ SeesWt w s.val l ∧ ∀ r ∈ l, r.fit := open_slice_Wt h2
    simp at e0 e1 e2
    subst e0 e1 e2
    exact ⟨⟨⟨a0, a1, s2⟩, ⟨a0, a1, a2⟩⟩, rfl, ⟨rfl, rfl, g2⟩, u1, k2⟩

theorem open_one_BdX {H : Type} {enc : TypeId × Value → H} {w : World} {v : Value} {d : DataW H} {p : List MemPlace} (hv : Value.okWide Try.prog w .any 0 24 v)
    (h : DataW.Trod enc Try.prog w 0 (fun _ => true) true 24 v d p) : ∃ r : BdX, v = r.val ∧ r.fit w := by
  obtain ⟨cs, rfl, _⟩ := okWide_struct Try.underlying24 hv
  obtain ⟨fuel, hf⟩ := h
  obtain ⟨r, hr, hfit⟩ := open_cells_Bd hf
  refine ⟨r, ?_, hfit⟩
  simp [Value.cells] at hr
  unfold BdX.val BdV.val
  congr 1
  apply Array.toList_inj.1
  exact hr
end Go.Proofs.Ytpojoflhmbnfmaa
