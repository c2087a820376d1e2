/-
  What a step leaves as it was: a plain fact on the plain function.
-/
import Derived.Test.YtedldckijblnhaaDoorCSpec
namespace Go.Proofs.YtedldckijblnhaaDoor
open Go.RowKit
set_option linter.unusedVariables false

/-- A fault, and all is as it was; a stop, and core and words are; else the words are, or one that may be written is another. -/
def Shape (c : Co) (m : List Int) (l : List Rg) (R : Co × List Int × Ou) : Prop :=
  (∃ f, (f = 3 ∨ f = 4 ∨ f = 5) ∧ R = (c, m, faultO f)) ∨ (R.1 = c ∧ R.2.1 = m ∧ R.2.2.f = 0 ∧ R.2.2.h = true) ∨ (R.2.1 = m ∧ R.2.2.f = 0 ∧ R.2.2.h = false) ∨
  (∃ k x, touchE m.length l k true = 0 ∧ R.2.1 = m.set k.toNat x ∧ R.2.2.f = 0 ∧ R.2.2.h = false)

theorem shapeI (i : In) (c : Co) (m : List Int) (l : List Rg) (now : Int) : Shape c m l (stepI i c m l now) := by
  unfold stepI
  split
  · exact .inr (.inl ⟨rfl, rfl, rfl, rfl⟩)
  · exact .inr (.inr (.inl ⟨rfl, rfl, rfl⟩))
  · split
    · exact .inr (.inr (.inl ⟨rfl, rfl, rfl⟩))
    · exact .inl ⟨5, by omega, rfl⟩
  · split
    · rename_i h
      refine .inr (.inr (.inr ⟨_, c.reg i.a.toNat, h, ?_, rfl, rfl⟩))
      unfold storeL; rw [if_pos h]
    · exact .inl ⟨5, by omega, rfl⟩
  · exact .inr (.inr (.inl ⟨rfl, rfl, rfl⟩))
  · exact .inr (.inr (.inl ⟨rfl, rfl, rfl⟩))
  · exact .inr (.inr (.inl ⟨rfl, rfl, rfl⟩))
  · exact .inr (.inr (.inl ⟨rfl, rfl, rfl⟩))
  · split
    · exact .inl ⟨3, by omega, rfl⟩
    · exact .inr (.inr (.inl ⟨rfl, rfl, rfl⟩))
  · exact .inr (.inr (.inl ⟨rfl, rfl, rfl⟩))
theorem shapeS (code : List In) (c : Co) (m : List Int) (l : List Rg) (now : Int) : Shape c m l (stepS code c m l now) := by
  unfold stepS
  split
  · exact shapeI _ c m l now
  · exact .inl ⟨4, by omega, rfl⟩

/-- How many of the first words differ. -/
def chg (x m : List Int) : Nat → Nat
  | 0 => 0
  | j + 1 => chg x m j + if x.getD j 0 = m.getD j 0 then 0 else 1
theorem chg_same (m : List Int) (j : Nat) : chg m m j = 0 := by
  induction j with
  | zero => rfl
  | succ j ih => simp [chg, ih]
theorem chg_set (m : List Int) (k : Nat) (x : Int) (j : Nat) : chg (m.set k x) m j ≤ if k < j then 1 else 0 := by
  induction j with
  | zero => simp [chg]
  | succ j ih =>
    unfold chg
    by_cases h : j = k
    · subst h
      rw [if_neg (show ¬ j < j by omega)] at ih
      rw [if_pos (show j < j + 1 by omega)]
      have hle : (if (m.set j x).getD j 0 = m.getD j 0 then 0 else 1) ≤ 1 := by split <;> omega
      omega
    · have e : (m.set k x).getD j 0 = m.getD j 0 := by simp [List.getD, Ne.symm h]
      rw [if_pos e]
      by_cases h2 : k < j
      · rw [if_pos h2] at ih; rw [if_pos (by omega)]; omega
      · rw [if_neg h2] at ih; rw [if_neg (by omega)]; omega
theorem chg_le (x m : List Int) (j : Nat) : chg x m j ≤ j := by
  induction j with
  | zero => simp [chg]
  | succ j ih => unfold chg; split <;> omega

/-- What the law asks of a step. -/
theorem faults_facts (code : List In) (c : Co) (m : List Int) (l : List Rg) (now : Int) (R : Co × List Int × Ou) (hR : stepS code c m l now = R) :
    R.2.1.length = m.length ∧ 0 ≤ R.2.2.f ∧ R.2.2.f < 7 ∧ (∀ j, j < m.length → ¬ R.2.1.getD j 0 = m.getD j 0 → touchE m.length l j true = 0) ∧ chg R.2.1 m m.length ≤ 1 ∧
    ((¬ R.2.2.f = 0 ∧ R.1 = c ∧ chg R.2.1 m m.length = 0 ∧ R.2.2 = faultO R.2.2.f) ∨ (R.2.2.f = 0 ∧ R.2.2.h = true ∧ R.1 = c ∧ chg R.2.1 m m.length = 0) ∨ (R.2.2.f = 0 ∧ R.2.2.h = false)) := by
  have h := shapeS code c m l now
  rw [hR] at h
  rcases h with ⟨f, hf, rfl⟩ | ⟨h1, h2, h3, h4⟩ | ⟨h2, h3, h4⟩ | ⟨k, x, ht, h2, h3, h4⟩
  · refine ⟨rfl, by show 0 ≤ f; omega, by show f < 7; omega, fun j _ h => absurd rfl h, by rw [chg_same]; omega, .inl ⟨by show ¬ f = 0; omega, rfl, chg_same _ _, rfl⟩⟩
  · rw [h2, h3]
    exact ⟨rfl, by omega, by omega, fun j _ h => absurd rfl h, by rw [chg_same]; omega, .inr (.inl ⟨rfl, h4, h1, chg_same _ _⟩)⟩
  · rw [h2, h3]
    exact ⟨rfl, by omega, by omega, fun j _ h => absurd rfl h, by rw [chg_same]; omega, .inr (.inr ⟨rfl, h4⟩)⟩
  · rw [h2, h3]
    refine ⟨by simp, by omega, by omega, fun j _ h => ?_, ?_, .inr (.inr ⟨rfl, h4⟩)⟩
    · have hk := touchE_zero ht
      by_cases e : j = k.toNat
      · rw [show (j : Int) = k by omega]; exact ht
      · exfalso; apply h; simp [List.getD, Ne.symm e]
    · have := chg_set m k.toNat x m.length
      split at this <;> omega
end Go.Proofs.YtedldckijblnhaaDoor
