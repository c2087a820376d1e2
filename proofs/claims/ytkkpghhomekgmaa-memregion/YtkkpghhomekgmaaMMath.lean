/-
  Regions that fit meet none of each other just if no word is in two of them.
-/
import Derived.Test.YtkkpghhomekgmaaMRef2
namespace Go.Proofs.Ytkkpghhomekgmaa
set_option linter.unusedVariables false

/-- At most one has it just if no two have it. -/
theorem filter_one (l : List Rg) (p : Rg → Bool) : (l.filter p).length ≤ 1 ↔ ∀ i j, j < i → i < l.length → p (l.getD i Rg.zero) = true → p (l.getD j Rg.zero) = true → False := by
  induction l with
  | nil => simp
  | cons a l ih =>
    constructor
    · intro h i j hji hi hpi hpj
      cases i with
      | zero => omega
      | succ i =>
        have hi' : i < l.length := by simpa using hi
        have hpi' : p (l.getD i Rg.zero) = true := by simpa [List.getD] using hpi
        cases j with
        | zero =>
          have hpa : p a = true := by simpa [List.getD] using hpj
          rw [List.filter_cons_of_pos hpa, List.length_cons] at h
          have h0 : (l.filter p) = [] := List.eq_nil_of_length_eq_zero (by omega)
          rw [List.filter_eq_nil_iff] at h0
          exact h0 l[i] (List.getElem_mem hi') (by simpa [List.getD, List.getElem?_eq_getElem hi'] using hpi')
        | succ j =>
          have hpj' : p (l.getD j Rg.zero) = true := by simpa [List.getD] using hpj
          refine ih.1 ?_ i j (by omega) hi' hpi' hpj'
          cases hpa : p a
          · rw [List.filter_cons_of_neg (by simp [hpa])] at h; exact h
          · rw [List.filter_cons_of_pos hpa, List.length_cons] at h; omega
    · intro h
      have hl : (l.filter p).length ≤ 1 := ih.2 (fun i j hji hi hpi hpj => h (i + 1) (j + 1) (by omega) (by simpa using hi) (by simpa [List.getD] using hpi) (by simpa [List.getD] using hpj))
      cases hpa : p a
      · rw [List.filter_cons_of_neg (by simp [hpa])]; exact hl
      · rw [List.filter_cons_of_pos hpa, List.length_cons]
        have h0 : l.filter p = [] := by
          rw [List.filter_eq_nil_iff]
          intro x hx hpx
          obtain ⟨i, hi, rfl⟩ := List.getElem_of_mem hx
          exact h (i + 1) 0 (by omega) (by simpa using hi) (by simpa [List.getD, List.getElem?_eq_getElem hi] using hpx) (by simpa [List.getD] using hpa)
        rw [h0]; simp

theorem rok_false (r : Rg) (k : Int) : rokB r k false = inB r k := by simp [rokB]

theorem in_fits (r : Rg) (n k : Int) (hn : n ≤ 64) (h : fitsB r n = true) : inB r k = decide (r.f ≤ k ∧ k < r.f + r.n) := by
  simp [fitsB] at h
  unfold inB
  exact decide_eq_decide.2 (by omega)

theorem may_same (l : List Rg) (n : Int) : rmayB l n = mayB l n := by
  unfold rmayB mayB
  refine decide_eq_decide.2 ⟨?_, ?_⟩
  · rintro ⟨h1, h2, h4, hf, hk⟩
    refine ⟨h1, h2, h4, fun i hi => ⟨hf i hi, fun j hj => ?_⟩⟩
    have hfi := hf i hi
    have hfj := hf j (by omega)
    have hm := fun k => in_fits (l.getD i Rg.zero) n k h2 hfi
    have hm' := fun k => in_fits (l.getD j Rg.zero) n k h2 hfj
    simp [fitsB] at hfi hfj
    cases hmt : meetB (l.getD i Rg.zero) (l.getD j Rg.zero)
    · rfl
    · exfalso
      simp [meetB] at hmt
      have := hk (max (l.getD i Rg.zero).f (l.getD j Rg.zero).f).toNat (by simp only [List.getD_eq_getElem?_getD] at *; omega)
      have hx := (filter_one l (rokB · ((max (l.getD i Rg.zero).f (l.getD j Rg.zero).f).toNat : Int) false)).1 this i j hj hi
      simp only [rok_false, hm, hm'] at hx
      refine hx ?_ ?_
      · rw [decide_eq_true]; simp only [List.getD_eq_getElem?_getD] at *; omega
      · rw [decide_eq_true]; simp only [List.getD_eq_getElem?_getD] at *; omega
  · rintro ⟨h1, h2, h4, hg⟩
    refine ⟨h1, h2, h4, fun i hi => (hg i hi).1, fun k hk => ?_⟩
    refine (filter_one l _).2 (fun i j hji hi hpi hpj => ?_)
    have hfi := (hg i hi).1
    have hfj := (hg j (by omega)).1
    have hmt := (hg i hi).2 j hji
    rw [rok_false, in_fits _ n _ h2 hfi] at hpi
    rw [rok_false, in_fits _ n _ h2 hfj] at hpj
    simp [meetB] at hmt
    simp at hpi hpj
    omega
end Go.Proofs.Ytkkpghhomekgmaa
