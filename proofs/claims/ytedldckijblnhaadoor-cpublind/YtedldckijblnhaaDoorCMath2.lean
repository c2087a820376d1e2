/-
  What a step does does not hang on a word that may not be read: a plain fact on the plain function.
-/
import Derived.Test.YtedldckijblnhaaDoorCMath
namespace Go.Proofs.YtedldckijblnhaaDoor
open Go.RowKit
set_option linter.unusedVariables false

theorem touch_wr {n : Nat} {l : List Rg} {k : Int} (h : touchE n l k true = 0) : touchE n l k false = 0 := by
  unfold touchE at h ⊢
  split at h
  · simp at h
  · rename_i h1
    rw [if_neg h1]
    split at h
    · rename_i h2
      rw [if_pos]
      rw [List.any_eq_true] at h2 ⊢
      obtain ⟨r, hr, h3⟩ := h2
      refine ⟨r, hr, ?_⟩
      simp only [okB, Bool.and_eq_true] at h3 ⊢
      exact ⟨h3.1, by simp⟩
    · simp at h

/-- The two ends of a step over words that differ at one place alone. -/
def Blind (m : List Int) (a : Nat) (v : Int) (R R' : Co × List Int × Ou) : Prop :=
  R.1 = R'.1 ∧ R.2.2 = R'.2.2 ∧ R.2.1.length = m.length ∧ R'.2.1 = R.2.1.set a v ∧ R.2.1.getD a 0 = m.getD a 0

theorem blindI (i : In) (c : Co) (m : List Int) (l : List Rg) (now : Int) (a : Nat) (v : Int) (ha : a < m.length) (ht : ¬ touchE m.length l a false = 0) : Blind m a v (stepI i c m l now) (stepI i c (m.set a v) l now) := by
  have hl : (m.set a v).length = m.length := by simp
  unfold stepI
  split
  · exact ⟨rfl, rfl, rfl, rfl, rfl⟩
  · exact ⟨rfl, rfl, rfl, rfl, rfl⟩
  · rw [hl]
    split
    · rename_i h
      have hk := touchE_zero h
      have hne : ¬ (c.reg i.b.toNat).toNat = a := fun e => ht (by rw [show ((a : Nat) : Int) = c.reg i.b.toNat by omega]; exact h)
      have hv : loadV (m.set a v) l (c.reg i.b.toNat) = loadV m l (c.reg i.b.toNat) := by
        unfold loadV
        rw [hl, if_pos h, if_pos h]
        simp [List.getD, Ne.symm hne]
      rw [hv]
      exact ⟨rfl, rfl, rfl, rfl, rfl⟩
    · exact ⟨rfl, rfl, rfl, rfl, rfl⟩
  · rw [hl]
    split
    · rename_i h
      have hk := touchE_zero h
      have hne : ¬ (c.reg i.b.toNat).toNat = a := fun e => ht (by rw [show ((a : Nat) : Int) = c.reg i.b.toNat by omega]; exact touch_wr h)
      refine ⟨rfl, rfl, ?_, ?_, ?_⟩
      · show (storeL m l _ _).length = _
        unfold storeL; rw [if_pos h]; simp
      · show storeL (m.set a v) l _ _ = (storeL m l _ _).set a v
        unfold storeL; rw [hl, if_pos h, if_pos h, List.set_comm _ _ (Ne.symm hne)]
      · show (storeL m l _ _).getD a 0 = _
        unfold storeL; rw [if_pos h]
        simp [List.getD, hne]
    · exact ⟨rfl, rfl, rfl, rfl, rfl⟩
  · exact ⟨rfl, rfl, rfl, rfl, rfl⟩
  · exact ⟨rfl, rfl, rfl, rfl, rfl⟩
  · exact ⟨rfl, rfl, rfl, rfl, rfl⟩
  · exact ⟨rfl, rfl, rfl, rfl, rfl⟩
  · split
    · exact ⟨rfl, rfl, rfl, rfl, rfl⟩
    · exact ⟨rfl, rfl, rfl, rfl, rfl⟩
  · exact ⟨rfl, rfl, rfl, rfl, rfl⟩
theorem blindS (code : List In) (c : Co) (m : List Int) (l : List Rg) (now : Int) (a : Nat) (v : Int) (ha : a < m.length) (ht : ¬ touchE m.length l a false = 0) : Blind m a v (stepS code c m l now) (stepS code c (m.set a v) l now) := by
  unfold stepS
  split
  · exact blindI _ c m l now a v ha ht
  · exact ⟨rfl, rfl, rfl, rfl, rfl⟩
end Go.Proofs.YtedldckijblnhaaDoor
