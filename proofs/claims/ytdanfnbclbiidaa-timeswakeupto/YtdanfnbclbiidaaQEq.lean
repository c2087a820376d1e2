/-
  Structs compared: that there is an answer, which is 'the same' where they are.
-/
import Derived.Test.YtdanfnbclbiidaaQLib
import Derived.Laws.StructEq
import Derived.ChangeKeysEq
namespace Go.Proofs.Ytdanfnbclbiidaa
open Go.RowKit
set_option linter.unusedVariables false

theorem fields_total {P : Program} (d : Nat) (xs ys : Array Value) : ∀ fs : List Field, (∀ f ∈ fs, f.name ≠ "_" ∧ ∃ a b r, (∀ w, (part f.type xs f.offset).run P w = .ok a w) ∧ (∀ w, (part f.type ys f.offset).run P w = .ok b w) ∧ (∀ w, (Op.equalIn d f.type a b).run P w = .ok r w) ∧ (xs = ys → r = true)) →
    ∃ r, (∀ w, (Op.eqFields d xs ys fs).run P w = .ok r w) ∧ (xs = ys → r = true)
  | [], _ => ⟨true, fun w => rfl, fun _ => rfl⟩
  | f :: fs, h => by
    obtain ⟨hn, a, b, r, ha, hb, hr, he⟩ := h f (by simp)
    obtain ⟨r2, h2, he2⟩ := fields_total d xs ys fs (fun g hg => h g (by simp [hg]))
    rcases r with _ | _
    · refine ⟨false, fun w => ?_, fun e => by have := he e; cases this⟩
      simp only [Op.eqFields, if_pos hn, Sem.run_bind, ha, hb, hr, Result.andThen_ok, Bool.not_false, if_true, Sem.run_pure]
    · refine ⟨r2, fun w => ?_, he2⟩
      simp only [Op.eqFields, if_pos hn, Sem.run_bind, ha, hb, hr, Result.andThen_ok, Bool.not_true, Bool.false_eq_true, if_false, h2]

theorem part_one {P : Program} {e : TypeId} {xs : Array Value} {i : Nat} {v : Value} (d : TypeDesc) (he : P.underlying e = some d) (hd : d.isRow = false) (h : xs[i]? = some v) (w : World) : (part e xs i).run P w = .ok v w := by
  cases d <;> first | (simp [part, isAgg, run_underlying he, h]; done) | (simp [TypeDesc.isRow] at hd)
end Go.Proofs.Ytdanfnbclbiidaa
