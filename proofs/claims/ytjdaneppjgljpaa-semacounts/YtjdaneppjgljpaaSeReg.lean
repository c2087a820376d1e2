/-
  A semaphore, as it lies in a world, with its lists, whatever the program.
-/
import Derived.Test.YtjdaneppjgljpaaBox
import Derived.Test.YtjdaneppjgljpaaSlT
import Derived.Test.YtjdaneppjgljpaaVReg
namespace Go.Proofs.Ytjdaneppjgljpaa
open Go.RowKit
set_option linter.unusedVariables false

/-- A semaphore, its value. -/
structure SeV where
  c : Int
  m : Int
  k : Bool
  l : Sl
def SeV.zero : SeV := ⟨0, 0, false, ⟨none, 0, 0⟩⟩
def SeV.val (r : SeV) : Value := .agg #[.int .i64 r.c, .int .i64 r.m, .bool r.k, .slice r.l.a r.l.n r.l.c]
def SeV.cells (r : SeV) : List Value := [.int .i64 r.c, .int .i64 r.m, .bool r.k, .slice r.l.a r.l.n r.l.c]

/-- A semaphore. -/
structure Se where
  c : Int
  m : Int
  k : Bool
  l : List Wt
def Se.zero : Se := ⟨0, 0, false, []⟩

/-- A value that reads, in w, as x. -/
structure SeAt (w : World) (q : SeV) (x : Se) : Prop where
  c : q.c = x.c
  m : q.m = x.m
  k : q.k = x.k
  l : SeesWt w q.l.val x.l
theorem SeAt.below {w w' : World} {q : SeV} {x : Se} (h : SeAt w q x) (hb : Below w.heap.size w w') : SeAt w' q x := ⟨h.c, h.m, h.k, h.l.below hb⟩

/-- A value of the call's own that reads, in w, as x. -/
structure SeO (w : World) (base : Nat) (q : SeV) (x : Se) : Prop where
  c : q.c = x.c
  m : q.m = x.m
  k : q.k = x.k
  l : OWt w base q.l.val x.l
theorem SeO.sees {w : World} {base : Nat} {q : SeV} {x : Se} (h : SeO w base q x) : SeAt w q x := ⟨h.c, h.m, h.k, h.l.sees⟩
theorem SeO.below {w w' : World} {base : Nat} {q : SeV} {x : Se} (h : SeO w base q x) (hb : Below w.heap.size w w') : SeO w' base q x := ⟨h.c, h.m, h.k, h.l.below hb⟩
theorem SeO.mono {w : World} {base base' : Nat} {q : SeV} {x : Se} (h : SeO w base q x) (hb : base' ≤ base) : SeO w base' q x := ⟨h.c, h.m, h.k, h.l.mono hb⟩

theorem Try.infoSe : (Try.prog.info? 24).map (·.size) = some 4 := by kernel_rfl
theorem Try.zeroSe : (Try.prog.info? 24).bind (·.zero) = some (.agg SeV.zero.cells.toArray) := by kernel_rfl
theorem SeV.one (q : SeV) : ∀ v ∈ q.cells, v.oneCell' = true := by
  intro v hv
  simp only [SeV.cells, List.mem_cons, List.not_mem_nil, or_false] at hv
  rcases hv with rfl | rfl | rfl | rfl <;> rfl

end Go.Proofs.Ytjdaneppjgljpaa
