/-
  A semaphore as an argument.
-/
import Derived.Test.YtjdaneppjgljpaaRows
import Derived.Test.YtjdaneppjgljpaaSeReg
import Derived.Test.YtjdaneppjgljpaaObOpen
import Derived.Deep.Strs
import Derived.Lib.SmallJoins
import Derived.RowKit
namespace Go.Proofs.Ytjdaneppjgljpaa
open Go.RowKit Go.Deep Go.ChangeShapes Go.WideShapes
set_option linter.unusedVariables false

def Se.wide (x : Se) : Prop := (Lit.int .i64 x.c).wf = true ∧ (Lit.int .i64 x.m).wf = true ∧ (∀ y ∈ x.l, y.fit)
/-- A semaphore as an argument: its value and what it reads as. -/
structure SeX where
  q : SeV
  c : Se
def SeX.val (r : SeX) : Value := r.q.val
def SeX.fit (r : SeX) (w : World) : Prop := SeAt w r.q r.c ∧ r.c.wide

set_option maxRecDepth 100000 in
theorem open_cells_Se {H : Type} {enc : TypeId × Value → H} {w : World} {fuel : Nat} {cs : List Value} {x : DataW H × List MemPlace}
    (h : DataW.trod enc Try.prog w 0 (fun _ => true) true fuel 24 cs = some x) : ∃ r : SeX, cs = r.q.cells ∧ r.fit w := by
  obtain ⟨y0, y1, y2, y3, n, _, hl, h0, h1, h2, h3⟩ := Go.Joins.trod_struct4 Try.underlying24 h
  have hc : Try.prog.cellsOf 24 = 4 := by kernel_rfl
  have hi : Try.prog.cellsOf 3 = 1 := by kernel_rfl
  have hb : Try.prog.cellsOf 4 = 1 := by kernel_rfl
  have hw : Try.prog.cellsOf 22 = 1 := by kernel_rfl
  rw [hc] at hl
  match cs, hl with
  | [c0, c1, c2, c3], _ =>
    simp [hi] at h0
    obtain ⟨a0, e0, _, u0⟩ := DataW.trod_int Try.underlying3 h0
    simp [hi] at h1
    obtain ⟨a1, e1, _, u1⟩ := DataW.trod_int Try.underlying3 h1
    simp [hb] at h2
    obtain ⟨a2, e2, _⟩ := DataW.trod_bool Try.underlying4 h2
    simp [hw] at h3
    obtain ⟨s3, a3, e3, g3, k3⟩ : ∃ (s : Sl) (l : List Wt), [c3] = [s.val] ∧ SeesWt w s.val l ∧ ∀ r ∈ l, r.fit := open_slice_Wt h3
    simp at e0 e1 e2 e3
    subst e0 e1 e2 e3
    exact ⟨⟨⟨a0, a1, a2, s3⟩, ⟨a0, a1, a2, a3⟩⟩, rfl, ⟨rfl, rfl, rfl, g3⟩, u0, u1, k3⟩

theorem open_one_SeX {H : Type} {enc : TypeId × Value → H} {w : World} {v : Value} {d : DataW H} {p : List MemPlace} (hv : Value.okWide Try.prog w .any 0 24 v)
    (h : DataW.Trod enc Try.prog w 0 (fun _ => true) true 24 v d p) : ∃ r : SeX, v = r.val ∧ r.fit w := by
  obtain ⟨cs, rfl, _⟩ := okWide_struct Try.underlying24 hv
  obtain ⟨fuel, hf⟩ := h
  obtain ⟨r, hr, hfit⟩ := open_cells_Se hf
  refine ⟨r, ?_, hfit⟩
  simp [Value.cells] at hr
  unfold SeX.val SeV.val
  congr 1
  apply Array.toList_inj.1
  exact hr
end Go.Proofs.Ytjdaneppjgljpaa
