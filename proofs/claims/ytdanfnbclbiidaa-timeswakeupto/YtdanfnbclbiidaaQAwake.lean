/-
  The chapter's example of package procs.
-/
import Derived.Test.YtdanfnbclbiidaaQNew
import Derived.Laws.EntriesVeiled
namespace Go.Proofs.Ytdanfnbclbiidaa
open Go.RowKit
set_option linter.unusedVariables false

def exC : Pt := { Pt.zero with pc := [⟨3, 0, 5, 0, false⟩] }
def exP0 : Pa := { Pa.zero with pr := [Px.dorm 3] }
def exP1 : Pa := { Pa.zero with pr := [{ Px.dorm 3 with st := 1, du := 15 }], nx := 1 }
def exP2 : Pa := { Pa.zero with pr := [Px.dorm 3], nx := 1 }
theorem ex_new : newP exC = [Px.dorm 3] := rfl
theorem ex_w1 : wrap64 1 = 1 := by simp [wrap64]
theorem ex_w15 : wrap64 15 = 15 := by simp [wrap64]
theorem ex_start : startP exC exP0 0 10 = (exP1, 0) := by
  simp [startP, deedP, startD, exC, exP0, exP1, Pt.zero, Pa.zero, Px.dorm, Dd.out, Dd.nxt, ex_w1, ex_w15]
theorem ex_again : startP exC exP1 0 10 = (exP1, 1) := by rfl
theorem ex_stop : stopP exP1 0 = (exP2, 0) := by rfl
theorem ex_none : stopP exP2 0 = (exP2, 1) := by rfl
theorem ex_small (l : List Px) (n : Int) (h : l.length ≤ 900000) : ({ Pa.zero with pr := l, nx := n } : Pa).small :=
  ⟨by simp [Pa.zero], h, by simp [Pa.zero], by simp [Pa.zero], by simp [Pa.zero], by simp [Pa.zero], by simp [Pa.zero], by simp [Pa.zero], by simp [Pa.zero], by simp [Pa.zero], fun x hx => by simp [Pa.zero] at hx, fun x hx => by simp [Pa.zero] at hx, fun x hx => by simp [Pa.zero] at hx, fun x hx => by simp [Pa.zero] at hx, fun x hx => by simp [Pa.zero] at hx⟩
theorem Try.zeroPv : (Try.prog.info? 28).bind (·.zero) = some (.agg Pv.zero.cells.toArray) := by kernel_rfl
theorem Pv.one (q : Pv) : ∀ v ∈ q.cells, v.oneCell' = true := by
  intro v hv
  simp only [Pv.cells, List.mem_cons, List.not_mem_nil, or_false] at hv
  rcases hv with rfl | rfl | rfl | rfl | rfl | rfl | rfl | rfl | rfl | rfl | rfl <;> rfl

end Go.Proofs.Ytdanfnbclbiidaa
