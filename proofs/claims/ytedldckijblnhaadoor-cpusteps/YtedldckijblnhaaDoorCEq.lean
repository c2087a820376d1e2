/-
  Registers that are compared.
-/
import Derived.Test.YtedldckijblnhaaDoorCSpec
import Derived.ChangeKeysEq
namespace Go.Proofs.YtedldckijblnhaaDoor
open Go.RowKit
set_option linter.unusedVariables false

theorem arr_item (d : Nat) (w : World) (x y : Int) : (Op.equalIn (d + 1) 3 (.int .i64 x) (.int .i64 y)).run Tryd.prog w = .ok (x == y) w := by
  simp [Op.equalIn, run_underlying Tryd.underlying3]

theorem arr_eq (w : World) (x0 x1 x2 x3 y0 y1 y2 y3 : Int) : (Op.equalIn 9999 23 (.agg #[.int .i64 x0, .int .i64 x1, .int .i64 x2, .int .i64 x3]) (.agg #[.int .i64 y0, .int .i64 y1, .int .i64 y2, .int .i64 y3])).run Tryd.prog w = .ok (x0 == y0 && (x1 == y1 && (x2 == y2 && x3 == y3))) w := by
  obtain ⟨i0, hi, hz0, hz1, hz2⟩ := info_parts Tryd.infoI
  have hc : Tryd.prog.cellsOf 3 = 1 := by kernel_rfl
  have hp : ∀ (w : World) (xs : Array Value) (i : Nat) (v : Value), xs[i]? = some v → (part 3 xs i).run Tryd.prog w = .ok v w := by
    intro w xs i v h
    simp [part, isAgg, run_underlying Tryd.underlying3, h]
  have px0 := fun w => hp w #[.int .i64 x0, .int .i64 x1, .int .i64 x2, .int .i64 x3] 0 (.int .i64 x0) rfl
  have px1 := fun w => hp w #[.int .i64 x0, .int .i64 x1, .int .i64 x2, .int .i64 x3] 1 (.int .i64 x1) rfl
  have px2 := fun w => hp w #[.int .i64 x0, .int .i64 x1, .int .i64 x2, .int .i64 x3] 2 (.int .i64 x2) rfl
  have px3 := fun w => hp w #[.int .i64 x0, .int .i64 x1, .int .i64 x2, .int .i64 x3] 3 (.int .i64 x3) rfl
  have py0 := fun w => hp w #[.int .i64 y0, .int .i64 y1, .int .i64 y2, .int .i64 y3] 0 (.int .i64 y0) rfl
  have py1 := fun w => hp w #[.int .i64 y0, .int .i64 y1, .int .i64 y2, .int .i64 y3] 1 (.int .i64 y1) rfl
  have py2 := fun w => hp w #[.int .i64 y0, .int .i64 y1, .int .i64 y2, .int .i64 y3] 2 (.int .i64 y2) rfl
  have py3 := fun w => hp w #[.int .i64 y0, .int .i64 y1, .int .i64 y2, .int .i64 y3] 3 (.int .i64 y3) rfl
  have he := arr_item 9997
  rw [run_equalIn_array w 9998 _ _ Tryd.underlying23 hi, hc, show List.range 4 = [0, 1, 2, 3] from rfl]
  simp only [Op.eqItems, Sem.run_bind, Nat.mul_one, px0, py0, he, Result.andThen_ok]
  cases (x0 == y0)
  · simp
  simp only [Bool.not_true, Bool.false_eq_true, if_false, Sem.run_bind, px1, py1, he, Result.andThen_ok]
  cases (x1 == y1)
  · simp
  simp only [Bool.not_true, Bool.false_eq_true, if_false, Sem.run_bind, px2, py2, he, Result.andThen_ok]
  cases (x2 == y2)
  · simp
  simp only [Bool.not_true, Bool.false_eq_true, if_false, Sem.run_bind, px3, py3, he, Result.andThen_ok]
  cases (x3 == y3)
  · simp
  · simp

theorem arr_self (w : World) (x0 x1 x2 x3 : Int) : (Op.equalIn 9999 23 (.agg #[.int .i64 x0, .int .i64 x1, .int .i64 x2, .int .i64 x3]) (.agg #[.int .i64 x0, .int .i64 x1, .int .i64 x2, .int .i64 x3])).run Tryd.prog w = .ok true w := by
  rw [arr_eq]; simp
end Go.Proofs.YtedldckijblnhaaDoor
