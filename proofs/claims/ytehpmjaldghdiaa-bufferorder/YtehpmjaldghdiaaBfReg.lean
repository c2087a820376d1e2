/-
  A buffer, as it lies in a world, with its lists, whatever the program.
-/
import Derived.Test.YtehpmjaldghdiaaBox
import Derived.Test.YtehpmjaldghdiaaSlT
import Derived.Test.YtehpmjaldghdiaaVReg
import Derived.Test.YtehpmjaldghdiaaTOwnI
namespace Go.Proofs.Ytehpmjaldghdiaa
open Go.RowKit
set_option linter.unusedVariables false

/-- A buffer, its value. -/
structure BfV where
  d : Int
  k : Bool
  vs : Sl
  l : Sl
def BfV.zero : BfV := ⟨0, false, ⟨none, 0, 0⟩, ⟨none, 0, 0⟩⟩
def BfV.val (r : BfV) : Value := .agg #[.int .i64 r.d, .bool r.k, .slice r.vs.a r.vs.n r.vs.c, .slice r.l.a r.l.n r.l.c]
def BfV.cells (r : BfV) : List Value := [.int .i64 r.d, .bool r.k, .slice r.vs.a r.vs.n r.vs.c, .slice r.l.a r.l.n r.l.c]

/-- A buffer. -/
structure Bf where
  d : Int
  k : Bool
  vs : List Int
  l : List Wt
def Bf.zero : Bf := ⟨0, false, [], []⟩

/-- A value that reads, in w, as x. -/
structure BfAt (w : World) (q : BfV) (x : Bf) : Prop where
  d : q.d = x.d
  k : q.k = x.k
  vs : Sees w .i64 q.vs.val x.vs
  l : SeesWt w q.l.val x.l
theorem BfAt.below {w w' : World} {q : BfV} {x : Bf} (h : BfAt w q x) (hb : Below w.heap.size w w') : BfAt w' q x := ⟨h.d, h.k, h.vs.below hb, h.l.below hb⟩

/-- A value of the call's own that reads, in w, as x. -/
structure BfO (w : World) (base : Nat) (q : BfV) (x : Bf) : Prop where
  d : q.d = x.d
  k : q.k = x.k
  vs : OI w base q.vs.val x.vs
  l : OWt w base q.l.val x.l
theorem BfO.sees {w : World} {base : Nat} {q : BfV} {x : Bf} (h : BfO w base q x) : BfAt w q x := ⟨h.d, h.k, h.vs.sees, h.l.sees⟩
theorem BfO.below {w w' : World} {base : Nat} {q : BfV} {x : Bf} (h : BfO w base q x) (hb : Below w.heap.size w w') : BfO w' base q x := ⟨h.d, h.k, h.vs.below hb, h.l.below hb⟩
theorem BfO.mono {w : World} {base base' : Nat} {q : BfV} {x : Bf} (h : BfO w base q x) (hb : base' ≤ base) : BfO w base' q x := ⟨h.d, h.k, h.vs.mono hb, h.l.mono hb⟩

theorem Try.infoBf : (Try.prog.info? 25).map (·.size) = some 4 := by kernel_rfl
theorem Try.zeroBf : (Try.prog.info? 25).bind (·.zero) = some (.agg BfV.zero.cells.toArray) := by kernel_rfl
theorem BfV.one (q : BfV) : ∀ v ∈ q.cells, v.oneCell' = true := by
  intro v hv
  simp only [BfV.cells, List.mem_cons, List.not_mem_nil, or_false] at hv
  rcases hv with rfl | rfl | rfl | rfl <;> rfl

end Go.Proofs.Ytehpmjaldghdiaa
