/-
  An event, as it lies in a world, with its lists, whatever the program.
-/
import Derived.Test.YtgnjnhfimagbpaaBox
import Derived.Test.YtgnjnhfimagbpaaSlT
import Derived.Test.YtgnjnhfimagbpaaVReg
namespace Go.Proofs.Ytgnjnhfimagbpaa
open Go.RowKit
set_option linter.unusedVariables false

/-- An event, its value. -/
structure EvV where
  u : Bool
  l : Sl
def EvV.zero : EvV := ⟨false, ⟨none, 0, 0⟩⟩
def EvV.val (r : EvV) : Value := .agg #[.bool r.u, .slice r.l.a r.l.n r.l.c]
def EvV.cells (r : EvV) : List Value := [.bool r.u, .slice r.l.a r.l.n r.l.c]

/-- An event. -/
structure Ev where
  u : Bool
  l : List Wt
def Ev.zero : Ev := ⟨false, []⟩

/-- A value that reads, in w, as x. -/
structure EvAt (w : World) (q : EvV) (x : Ev) : Prop where
  u : q.u = x.u
  l : SeesWt w q.l.val x.l
theorem EvAt.below {w w' : World} {q : EvV} {x : Ev} (h : EvAt w q x) (hb : Below w.heap.size w w') : EvAt w' q x := ⟨h.u, h.l.below hb⟩

/-- A value of the call's own that reads, in w, as x. -/
structure EvO (w : World) (base : Nat) (q : EvV) (x : Ev) : Prop where
  u : q.u = x.u
  l : OWt w base q.l.val x.l
theorem EvO.sees {w : World} {base : Nat} {q : EvV} {x : Ev} (h : EvO w base q x) : EvAt w q x := ⟨h.u, h.l.sees⟩
theorem EvO.below {w w' : World} {base : Nat} {q : EvV} {x : Ev} (h : EvO w base q x) (hb : Below w.heap.size w w') : EvO w' base q x := ⟨h.u, h.l.below hb⟩
theorem EvO.mono {w : World} {base base' : Nat} {q : EvV} {x : Ev} (h : EvO w base q x) (hb : base' ≤ base) : EvO w base' q x := ⟨h.u, h.l.mono hb⟩

theorem Try.infoEv : (Try.prog.info? 24).map (·.size) = some 2 := by kernel_rfl
theorem Try.zeroEv : (Try.prog.info? 24).bind (·.zero) = some (.agg EvV.zero.cells.toArray) := by kernel_rfl
theorem EvV.one (q : EvV) : ∀ v ∈ q.cells, v.oneCell' = true := by
  intro v hv
  simp only [EvV.cells, List.mem_cons, List.not_mem_nil, or_false] at hv
  rcases hv with rfl | rfl <;> rfl

end Go.Proofs.Ytgnjnhfimagbpaa
