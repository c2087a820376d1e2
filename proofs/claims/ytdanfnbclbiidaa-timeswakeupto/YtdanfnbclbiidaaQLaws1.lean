/-
  ProcsSuspends: who is suspended, and resumed, is as it was, but, if it is ready, behind all others; who is suspended twice is told so.
-/
import Derived.Test.YtdanfnbclbiidaaQFew
import Derived.Test.YtdanfnbclbiidaaQAwake
import Derived.Test.YtdanfnbclbiidaaQFacts
import Derived.Test.YtdanfnbclbiidaaQSame1
import Derived.Test.YtdanfnbclbiidaaQApi2
namespace Go.Proofs.Ytdanfnbclbiidaa
open Go.RowKit
set_option linter.unusedVariables false

theorem wpList_wanted {P : Program} {ops : Array Oper} {rest : List Oper} {o : Oper} {a : Act} {w : World} {Q : Exit → Act → World → Prop} (hw : Region.wanted o (yielded ops a.tmps) = true) (h : o.wp P a w (wpList P ops Q rest) Q) : wpList P ops Q (o :: rest) a w := by
  unfold wpList
  rw [if_pos hw]
  exact .inl h
theorem wp_eql_px {o : Oper} {a : Act} {w : World} {K : Act → World → Prop} {Q : Exit → Act → World → Prop} (x y : Operand) (ho : o.op = .binOp .eql 57 x y 57) (X : Px) (hx : a.eval x = .agg X.cells.toArray) (hy : a.eval y = .agg X.cells.toArray)
    (h : K (a.put o.dst (.bool true)) w) : Oper.wp Try.prog o a w K Q := by
  obtain ⟨b, hb, hbt⟩ := eq_Px X X
  unfold Oper.wp execOp
  simp only [ho, hx, hy, Sem.run_bind, run_eqGuard_agg _ _ _ _ _ _ _ (show Try.prog.eqGuardType Try.prog.depth 57 = false by kernel_rfl), Result.andThen_ok, run_eql_struct, hb, hbt rfl]
  exact h
theorem eql_px (X : Px) (w : World) : (binOp .eql 57 (.agg X.cells.toArray) (.agg X.cells.toArray)).run Try.prog w = .ok (.bool true) w := by
  obtain ⟨b, h, hb⟩ := eq_Px X X
  rw [run_eql_struct, h w, hb rfl]
  rfl

end Go.Proofs.Ytdanfnbclbiidaa
