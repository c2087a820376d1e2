/-
  A buffer as an argument.
-/
import Derived.Test.YtehpmjaldghdiaaRows
import Derived.Test.YtehpmjaldghdiaaBfReg
import Derived.Test.YtehpmjaldghdiaaObOpen
import Derived.Deep.Strs
import Derived.Lib.SmallJoins
import Derived.RowKit
namespace Go.Proofs.Ytehpmjaldghdiaa
open Go.RowKit Go.Deep Go.ChangeShapes Go.WideShapes
set_option linter.unusedVariables false

def Bf.wide (x : Bf) : Prop := (Lit.int .i64 x.d).wf = true ∧ (∀ y ∈ x.vs, (Lit.int .i64 y).wf = true) ∧ (∀ y ∈ x.l, y.fit)
/-- A buffer as an argument: its value and what it reads as. -/
structure BfX where
  q : BfV
  c : Bf
def BfX.val (r : BfX) : Value := r.q.val
def BfX.fit (r : BfX) (w : World) : Prop := BfAt w r.q r.c ∧ r.c.wide

set_option maxRecDepth 100000 in
theorem open_cells_Bf {H : Type} {enc : TypeId × Value → H} {w : World} {fuel : Nat} {cs : List Value} {x : DataW H × List MemPlace}
    (h : DataW.trod enc Try.prog w 0 (fun _ => true) true fuel 25 cs = some x) : ∃ r : BfX, cs = r.q.cells ∧ r.fit w := by
  obtain ⟨y0, y1, y2, y3, n, _, hl, h0, h1, h2, h3⟩ := Go.Joins.trod_struct4 Try.underlying25 h
  have hc : Try.prog.cellsOf 25 = 4 := by kernel_rfl
  have hi : Try.prog.cellsOf 3 = 1 := by kernel_rfl
  have hb : Try.prog.cellsOf 4 = 1 := by kernel_rfl
  have hn : Try.prog.cellsOf 22 = 1 := by kernel_rfl
  have hw : Try.prog.cellsOf 23 = 1 := by kernel_rfl
  rw [hc] at hl
  match cs, hl with
  | [c0, c1, c2, c3], _ =>
    simp [hi] at h0
    obtain ⟨a0, e0, _, u0⟩ := DataW.trod_int Try.underlying3 h0
    simp [hb] at h1
    obtain ⟨a1, e1, _⟩ := DataW.trod_bool Try.underlying4 h1
    simp [hn] at h2
    obtain ⟨s2, a2, e2, g2, k2⟩ : ∃ (s : Sl) (l : List Int), [c2] = [s.val] ∧ Sees w .i64 s.val l ∧ ∀ n ∈ l, (Lit.int .i64 n).wf = true := open_slice_I h2
    simp [hw] at h3
    obtain ⟨s3, a3, e3, g3, k3⟩ : ∃ (s : Sl) (l : List Wt), [c3] = [s.val] ∧ SeesWt w s.val l ∧ ∀ r ∈ l, r.fit := open_slice_Wt h3
    simp at e0 e1 e2 e3
    subst e0 e1 e2 e3
    exact ⟨⟨⟨a0, a1, s2, s3⟩, ⟨a0, a1, a2, a3⟩⟩, rfl, ⟨rfl, rfl, g2, g3⟩, u0, k2, k3⟩

theorem open_one_BfX {H : Type} {enc : TypeId × Value → H} {w : World} {v : Value} {d : DataW H} {p : List MemPlace} (hv : Value.okWide Try.prog w .any 0 25 v)
    (h : DataW.Trod enc Try.prog w 0 (fun _ => true) true 25 v d p) : ∃ r : BfX, v = r.val ∧ r.fit w := by
  obtain ⟨cs, rfl, _⟩ := okWide_struct Try.underlying25 hv
  obtain ⟨fuel, hf⟩ := h
  obtain ⟨r, hr, hfit⟩ := open_cells_Bf hf
  refine ⟨r, ?_, hfit⟩
  simp [Value.cells] at hr
  unfold BfX.val BfV.val
  congr 1
  apply Array.toList_inj.1
  exact hr
end Go.Proofs.Ytehpmjaldghdiaa
