/-
  A board, as it lies in a world, with its lists, whatever the program.
-/
import Derived.Test.YtpojoflhmbnfmaaBox
import Derived.Test.YtpojoflhmbnfmaaSlT
import Derived.Test.YtpojoflhmbnfmaaVReg
namespace Go.Proofs.Ytpojoflhmbnfmaa
open Go.RowKit
set_option linter.unusedVariables false

/-- A board, its value. -/
structure BdV where
  is : Bool
  v : Int
  l : Sl
def BdV.zero : BdV := ⟨false, 0, ⟨none, 0, 0⟩⟩
def BdV.val (r : BdV) : Value := .agg #[.bool r.is, .int .i64 r.v, .slice r.l.a r.l.n r.l.c]
def BdV.cells (r : BdV) : List Value := [.bool r.is, .int .i64 r.v, .slice r.l.a r.l.n r.l.c]

/-- A board. -/
structure Bd where
  is : Bool
  v : Int
  l : List Wt
def Bd.zero : Bd := ⟨false, 0, []⟩

/-- A value that reads, in w, as x. -/
structure BdAt (w : World) (q : BdV) (x : Bd) : Prop where
  is : q.is = x.is
  v : q.v = x.v
  l : SeesWt w q.l.val x.l
theorem BdAt.below {w w' : World} {q : BdV} {x : Bd} (h : BdAt w q x) (hb : Below w.heap.size w w') : BdAt w' q x := ⟨h.is, h.v, h.l.below hb⟩

/-- A value of the call's own that reads, in w, as x. -/
structure BdO (w : World) (base : Nat) (q : BdV) (x : Bd) : Prop where
  is : q.is = x.is
  v : q.v = x.v
  l : OWt w base q.l.val x.l
theorem BdO.sees {w : World} {base : Nat} {q : BdV} {x : Bd} (h : BdO w base q x) : BdAt w q x := ⟨h.is, h.v, h.l.sees⟩
theorem BdO.below {w w' : World} {base : Nat} {q : BdV} {x : Bd} (h : BdO w base q x) (hb : Below w.heap.size w w') : BdO w' base q x := ⟨h.is, h.v, h.l.below hb⟩
theorem BdO.mono {w : World} {base base' : Nat} {q : BdV} {x : Bd} (h : BdO w base q x) (hb : base' ≤ base) : BdO w base' q x := ⟨h.is, h.v, h.l.mono hb⟩

theorem Try.infoBd : (Try.prog.info? 24).map (·.size) = some 3 := by kernel_rfl
theorem Try.zeroBd : (Try.prog.info? 24).bind (·.zero) = some (.agg BdV.zero.cells.toArray) := by kernel_rfl
theorem BdV.one (q : BdV) : ∀ v ∈ q.cells, v.oneCell' = true := by
  intro v hv
  simp only [BdV.cells, List.mem_cons, List.not_mem_nil, or_false] at hv
  rcases hv with rfl | rfl | rfl <;> rfl

end Go.Proofs.Ytpojoflhmbnfmaa
