/-
  What a latch holds behind its first k interrupts.
-/
import Derived.Test.YtdmdpfjnbifegaaLLaws2
namespace Go.Proofs.Ytdmdpfjnbifegaa
open Go.RowKit
set_option linter.unusedVariables false

theorem offerL_take (l : List Int) (d : Int) (D k : Nat) (hD : d = (D : Int)) (hk : k < l.length) : offerL d (l.getD k 0) (l.take (min k D)) = l.take (min (k + 1) D) := by
  have hl : (l.take (min k D)).length = min k D := by simp; omega
  unfold offerL
  rw [hl, hD]
  by_cases h : D ≤ k
  · rw [if_pos (by omega), Nat.min_eq_right h, Nat.min_eq_right (by omega)]
  · rw [if_neg (by omega), Nat.min_eq_left (by omega), Nat.min_eq_left (by omega), List.take_succ_eq_append_getElem hk]
    simp [List.getD, List.getElem?_eq_getElem hk]

theorem offerP_take (l : List Int) (d : Int) (D k : Nat) (hD : d = (D : Int)) (hk : k < l.length) (hs : l.length ≤ 100) : offerP d (((k - min k D : Nat)) : Int) (l.take (min k D)) = (((k + 1) - min (k + 1) D : Nat) : Int) := by
  have hl : (l.take (min k D)).length = min k D := by simp; omega
  unfold offerP
  rw [hl, hD]
  by_cases h : D ≤ k
  · rw [if_pos (by omega), Nat.min_eq_right h, Nat.min_eq_right (by omega)]
    unfold wrap64; omega
  · rw [if_neg (by omega), Nat.min_eq_left (by omega), Nat.min_eq_left (by omega)]; omega

theorem mayL_take (l : List Int) (d : Int) (D k : Nat) (hD : d = (D : Int)) (h8 : D ≤ 8) (hk : k ≤ l.length) : mayL d (l.take (min k D)).length ((k - min k D : Nat) : Int) = true :=
  mayL_true (by omega) (by omega) (by simp; omega) (by omega)
end Go.Proofs.Ytdmdpfjnbifegaa
