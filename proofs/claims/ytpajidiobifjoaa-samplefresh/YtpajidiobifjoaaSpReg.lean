/-
  A sample, its value, whatever the program.
-/
import Derived.Test.YtpajidiobifjoaaBoxLib
namespace Go.Proofs.Ytpajidiobifjoaa
open Go.RowKit
set_option linter.unusedVariables false

/-- A sample: whether there is a message, its value, when it was put. -/
structure Sp where
  k : Bool
  v : Int
  at_ : Int
def Sp.zero : Sp := ⟨false, 0, 0⟩
def Sp.val (r : Sp) : Value := .agg #[.bool r.k, .int .i64 r.v, .int .i64 r.at_]
def Sp.cells (r : Sp) : List Value := [.bool r.k, .int .i64 r.v, .int .i64 r.at_]
/-- Its numbers are those of a machine. -/
def Sp.fit (r : Sp) : Prop := -9223372036854775808 ≤ r.v ∧ r.v ≤ 9223372036854775807 ∧ -9223372036854775808 ≤ r.at_ ∧ r.at_ ≤ 9223372036854775807

theorem Try.infoSp : (Try.prog.info? 23).map (·.size) = some 3 := by kernel_rfl
theorem Try.zeroSp : (Try.prog.info? 23).bind (·.zero) = some (.agg Sp.zero.cells.toArray) := by kernel_rfl

end Go.Proofs.Ytpajidiobifjoaa
