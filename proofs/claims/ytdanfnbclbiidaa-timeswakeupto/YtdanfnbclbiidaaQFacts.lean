/-
  What follows of what is done to a process.
-/
import Derived.Test.YtdanfnbclbiidaaQMath
namespace Go.Proofs.Ytdanfnbclbiidaa
open Go.RowKit
set_option linter.unusedVariables false

theorem getD_set_self {l : List Px} {k : Nat} (h : k < l.length) (r : Px) : (l.set k r).getD k Px.zero = r := by simp [List.getD, h]
theorem getD_set_ne {l : List Px} {k j : Nat} (h : j ≠ k) (r : Px) : (l.set k r).getD j Px.zero = l.getD j Px.zero := by
  simp [List.getD, List.getElem?_set_ne (Ne.symm h)]

theorem suspD_code (f : Pc) (r : Px) : (suspD f r).k = 0 ∨ (suspD f r).k = 1 ∨ (suspD f r).k = 4 := by
  unfold suspD
  split
  · exact .inr (.inr rfl)
  · split
    · exact .inr (.inl rfl)
    · exact .inl rfl
theorem susp_code (f : Pt) (c : Pa) (i : Int) : (suspP f c i).2 = 0 ∨ (suspP f c i).2 = 3 ∨ (suspP f c i).2 = 4 ∨ (suspP f c i).2 = 1 := by
  unfold suspP deedP
  split
  · split
    · rcases suspD_code (f.pc.getD i.toNat Pc.zero) (c.pr.getD i.toNat Px.zero) with h | h | h <;> simp only [h] <;> simp
    · simp
  · simp
theorem susp_ok {f : Pt} {c : Pa} {i : Int} (h : (suspP f c i).2 = 0) : ∃ k : Nat, i = (k : Int) ∧ k < c.pr.length ∧ k < f.pc.length ∧ (c.pr.getD k Px.zero).st ≠ 0 ∧ (c.pr.getD k Px.zero).su = false ∧ ¬ 0 < (f.pc.getD k Pc.zero).pe ∧
    (suspP f c i).1 = { c with pr := c.pr.set k { c.pr.getD k Px.zero with su := true } } := by
  by_cases h1 : 0 ≤ i ∧ i < f.pc.length
  · by_cases h2 : 0 ≤ i ∧ i < c.pr.length
    · refine ⟨i.toNat, by omega, by omega, by omega, ?_⟩
      have e : suspP f c i = deedP c i (suspD (f.pc.getD i.toNat Pc.zero)) := by unfold suspP; rw [if_pos h1]
      rw [e] at h ⊢
      unfold deedP at h ⊢
      rw [if_pos h2] at h ⊢
      simp only at h ⊢
      unfold suspD at h ⊢
      by_cases h3 : (c.pr.getD i.toNat Px.zero).st = 0 ∨ 0 < (f.pc.getD i.toNat Pc.zero).pe
      · rw [if_pos h3] at h; simp at h
      · rw [if_neg h3] at h ⊢
        rcases h4 : (c.pr.getD i.toNat Px.zero).su
        · rw [h4] at h
          simp only [not_or] at h3
          exact ⟨h3.1, rfl, h3.2, rfl⟩
        · rw [h4] at h; simp at h
    · unfold suspP deedP at h
      rw [if_pos h1, if_neg h2] at h
      simp at h
  · unfold suspP at h
    rw [if_neg h1] at h
    simp at h
theorem susp_twice {f : Pt} {c : Pa} {k : Nat} (h1 : k < c.pr.length) (h2 : k < f.pc.length) (hs : (c.pr.getD k Px.zero).st ≠ 0) (hp : ¬ 0 < (f.pc.getD k Pc.zero).pe) :
    (suspP f { c with pr := c.pr.set k { c.pr.getD k Px.zero with su := true } } k).2 = 1 := by
  unfold suspP deedP
  rw [if_pos ⟨by omega, by omega⟩, if_pos ⟨by omega, by simp; omega⟩]
  simp only [Int.toNat_natCast]
  rw [getD_set_self h1]
  unfold suspD
  rw [if_neg (by simp only [not_or]; exact ⟨hs, hp⟩)]
  rfl
theorem resume_after {c : Pa} {k : Nat} (h1 : k < c.pr.length) (hs : (c.pr.getD k Px.zero).st ≠ 0) (hu : (c.pr.getD k Px.zero).su = false) :
    (resP { c with pr := c.pr.set k { c.pr.getD k Px.zero with su := true } } k).2 = 0 ∧
    (resP { c with pr := c.pr.set k { c.pr.getD k Px.zero with su := true } } k).1.pr = (c.pr.set k { c.pr.getD k Px.zero with su := true }).set k (if (c.pr.getD k Px.zero).st = 1 then { c.pr.getD k Px.zero with si := c.nx } else c.pr.getD k Px.zero) := by
  unfold resP deedP
  rw [if_pos ⟨by omega, by simp; omega⟩]
  simp only [Int.toNat_natCast]
  rw [getD_set_self h1]
  unfold resD
  rw [if_neg hs]
  simp only [if_true]
  refine ⟨trivial, ?_⟩
  unfold Dd.out
  simp only
  by_cases h : (c.pr.getD k Px.zero).st = 1
  · rw [if_pos h, decide_eq_true h, if_pos rfl]
    congr 1
    have : (c.pr.getD k Px.zero).su = false := hu
    generalize c.pr.getD k Px.zero = r at *
    obtain ⟨⟩ := r
    simp_all
  · rw [if_neg h, decide_eq_false h]
    congr 1
    generalize c.pr.getD k Px.zero = r at *
    obtain ⟨⟩ := r
    simp_all
end Go.Proofs.Ytdanfnbclbiidaa
