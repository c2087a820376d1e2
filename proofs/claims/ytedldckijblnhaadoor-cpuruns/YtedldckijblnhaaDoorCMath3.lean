/-
  What a step leaves is a core and words of a machine again: a plain fact on the plain function; regions that may be are few.
-/
import Derived.Test.YtedldckijblnhaaDoorCSpec
import Derived.Test.YtedldckijblnhaaDoorMMay
import Derived.Test.YtedldckijblnhaaDoorMRef
import Derived.Test.YtedldckijblnhaaDoorIMath
namespace Go.Proofs.YtedldckijblnhaaDoor
open Go.RowKit
set_option linter.unusedVariables false

theorem may_few {l : List Rg} {n : Int} (h : mayB l n = true) : l.all fewR = true ∧ n ≤ 64 := by
  unfold mayB at h
  rw [decide_eq_true_eq] at h
  obtain ⟨h1, h2, h3, h4⟩ := h
  refine ⟨List.all_eq_true.2 fun r hr => ?_, h2⟩
  obtain ⟨i, hi, rfl⟩ := List.getElem_of_mem hr
  have hg := (h4 i hi).1
  rw [show l.getD i Rg.zero = l[i] by simp [List.getD, List.getElem?_eq_getElem hi]] at hg
  unfold fitsB at hg
  rw [decide_eq_true_eq] at hg
  unfold fewR
  rw [decide_eq_true_eq]
  omega

theorem loadV_fit {m : List Int} {l : List Rg} {k : Int} (hm : ∀ x ∈ m, fit64 x) : fit64 (loadV m l k) := by
  unfold loadV
  split
  · rcases Nat.lt_or_ge k.toNat m.length with h | h
    · have : m.getD k.toNat 0 = m[k.toNat] := by simp [List.getD, List.getElem?_eq_getElem h]
      rw [this]
      exact hm _ (List.getElem_mem h)
    · simp [List.getD, List.getElem?_eq_none h, fit64]
  · simp [fit64]

/-- A core and words of a machine. -/
def Fine (n : Nat) (R : Co × List Int × Ou) : Prop := R.1.fit ∧ (∀ x ∈ R.2.1, fit64 x) ∧ R.2.1.length = n

theorem fineI (i : In) (c : Co) (m : List Int) (l : List Rg) (now : Int) (hi : mayI i = true) (hc : c.fit) (hm : ∀ x ∈ m, fit64 x) (hn : fit64 now) (hp : fit64 (c.p + 1)) : Fine m.length (stepI i c m l now) := by
  have hb := mayI_bounds hi
  have hbf : fit64 i.b := by unfold fit64; omega
  unfold stepI
  split
  · exact ⟨hc, hm, rfl⟩
  · exact ⟨Co.at_fit (Co.set_fit hc _ hbf) hp, hm, rfl⟩
  · split
    · exact ⟨Co.at_fit (Co.set_fit hc _ (loadV_fit hm)) hp, hm, rfl⟩
    · exact ⟨hc, hm, rfl⟩
  · split
    · rename_i h
      refine ⟨Co.at_fit hc hp, ?_, ?_⟩
      · intro x hx
        simp only [storeL] at hx
        rw [if_pos h] at hx
        rcases List.mem_or_eq_of_mem_set hx with h1 | h1
        · exact hm x h1
        · rw [h1]; exact Co.reg_fit hc _
      · simp only [storeL]
        rw [if_pos h, List.length_set]
    · exact ⟨hc, hm, rfl⟩
  · exact ⟨Co.at_fit hc hbf, hm, rfl⟩
  · refine ⟨Co.at_fit hc ?_, hm, rfl⟩
    split
    · exact hbf
    · exact hp
  · exact ⟨Co.at_fit (Co.set_fit hc _ hn) hp, hm, rfl⟩
  · exact ⟨Co.at_fit hc hp, hm, rfl⟩
  · split
    · exact ⟨hc, hm, rfl⟩
    · exact ⟨Co.at_fit (Co.set_fit hc _ (dq_fit _ _)) hp, hm, rfl⟩
  · exact ⟨Co.at_fit (Co.set_fit hc _ (opV_fit _ (Co.reg_fit hc _) (Co.reg_fit hc _))) hp, hm, rfl⟩

theorem fineS (code : List In) (c : Co) (m : List Int) (l : List Rg) (now : Int) (hcl : code.length ≤ 100000) (hc : c.fit) (hm : ∀ x ∈ m, fit64 x) (hn : fit64 now) : Fine m.length (stepS code c m l now) := by
  unfold stepS
  split
  · rename_i h
    exact fineI _ c m l now h.2.2 hc hm hn (by unfold fit64; omega)
  · exact ⟨hc, hm, rfl⟩
end Go.Proofs.YtedldckijblnhaaDoor
