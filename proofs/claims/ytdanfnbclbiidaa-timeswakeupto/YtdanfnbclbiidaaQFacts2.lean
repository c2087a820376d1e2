/-
  What follows of what is done to a process: who else is as it was, what is told.
-/
import Derived.Test.YtdanfnbclbiidaaQLawC
import Derived.Test.YtdanfnbclbiidaaQFacts
namespace Go.Proofs.Ytdanfnbclbiidaa
open Go.RowKit
set_option linter.unusedVariables false

theorem set_getD_self (l : List Px) (k : Nat) : l.set k (l.getD k Px.zero) = l := by
  apply List.ext_getElem?
  intro j
  by_cases h : j = k
  · subst h
    by_cases hj : j < l.length
    · simp [hj]
    · simp [hj]
  · rw [List.getElem?_set_ne (Ne.symm h)]

theorem deed_len (c : Pa) (i : Int) (f : Px → Dd) : (deedP c i f).1.pr.length = c.pr.length := by
  unfold deedP; split <;> simp
theorem deed_bu (c : Pa) (i : Int) (f : Px → Dd) : (deedP c i f).1.bu = c.bu := by
  unfold deedP; split <;> rfl
theorem deed_other (c : Pa) (i : Int) (f : Px → Dd) {j : Nat} (h : (j : Int) ≠ i) : (deedP c i f).1.pr.getD j Px.zero = c.pr.getD j Px.zero := by
  unfold deedP
  split
  · rename_i h1
    exact getD_set_ne (by omega) _
  · rfl
/-- A deed that is told to be none does nothing, and what it tells is one of five. -/
def Tame (f : Px → Dd) : Prop := ∀ r, (0 ≤ (f r).k ∧ (f r).k ≤ 4) ∧ ((f r).k ≠ 0 → (f r).r = r ∧ (f r).q = false)
theorem deed_code (c : Pa) (i : Int) (f : Px → Dd) (hf : Tame f) : 0 ≤ (deedP c i f).2 ∧ (deedP c i f).2 ≤ 4 := by
  unfold deedP
  split
  · exact (hf _).1
  · exact ⟨(by show (_ : Int) ≤ _; simp), (by show (_ : Int) ≤ _; simp)⟩
theorem deed_same (c : Pa) (i : Int) (f : Px → Dd) (hf : Tame f) (h : (deedP c i f).2 ≠ 0) : (deedP c i f).1 = c := by
  unfold deedP at h ⊢
  split at h
  · rename_i h1
    rw [if_pos h1]
    obtain ⟨h2, h3⟩ := (hf _).2 h
    unfold Dd.out Dd.nxt
    rw [h3]
    simp only [if_neg Bool.false_ne_true, h2]
    rw [set_getD_self]
  · rename_i h1
    rw [if_neg h1]
theorem tame_start (f : Pc) (n : Int) : Tame (startD f n) := by
  intro r; unfold startD; split
  · exact ⟨⟨(by show (_ : Int) ≤ _; simp), (by show (_ : Int) ≤ _; simp)⟩, fun h => absurd rfl h⟩
  · exact ⟨⟨(by show (_ : Int) ≤ _; simp), (by show (_ : Int) ≤ _; simp)⟩, fun _ => ⟨rfl, rfl⟩⟩
theorem tame_stop : Tame stopD := by
  intro r; unfold stopD; split
  · exact ⟨⟨(by show (_ : Int) ≤ _; simp), (by show (_ : Int) ≤ _; simp)⟩, fun _ => ⟨rfl, rfl⟩⟩
  · exact ⟨⟨(by show (_ : Int) ≤ _; simp), (by show (_ : Int) ≤ _; simp)⟩, fun h => absurd rfl h⟩
theorem tame_susp (f : Pc) : Tame (suspD f) := by
  intro r; unfold suspD; split
  · exact ⟨⟨(by show (_ : Int) ≤ _; simp), (by show (_ : Int) ≤ _; simp)⟩, fun _ => ⟨rfl, rfl⟩⟩
  · split
    · exact ⟨⟨(by show (_ : Int) ≤ _; simp), (by show (_ : Int) ≤ _; simp)⟩, fun _ => ⟨rfl, rfl⟩⟩
    · exact ⟨⟨(by show (_ : Int) ≤ _; simp), (by show (_ : Int) ≤ _; simp)⟩, fun h => absurd rfl h⟩
theorem tame_res : Tame resD := by
  intro r; unfold resD; split
  · exact ⟨⟨(by show (_ : Int) ≤ _; simp), (by show (_ : Int) ≤ _; simp)⟩, fun _ => ⟨rfl, rfl⟩⟩
  · split
    · exact ⟨⟨(by show (_ : Int) ≤ _; simp), (by show (_ : Int) ≤ _; simp)⟩, fun h => absurd rfl h⟩
    · exact ⟨⟨(by show (_ : Int) ≤ _; simp), (by show (_ : Int) ≤ _; simp)⟩, fun _ => ⟨rfl, rfl⟩⟩
theorem tame_prio (n : Int) : Tame (prioD n) := by
  intro r; unfold prioD; split
  · exact ⟨⟨(by show (_ : Int) ≤ _; simp), (by show (_ : Int) ≤ _; simp)⟩, fun _ => ⟨rfl, rfl⟩⟩
  · split
    · exact ⟨⟨(by show (_ : Int) ≤ _; simp), (by show (_ : Int) ≤ _; simp)⟩, fun _ => ⟨rfl, rfl⟩⟩
    · exact ⟨⟨(by show (_ : Int) ≤ _; simp), (by show (_ : Int) ≤ _; simp)⟩, fun h => absurd rfl h⟩

/-- What any of the five keeps. -/
structure Holds5 (c : Pa) (i : Int) (D : Pa × Int) : Prop where
  len : D.1.pr.length = c.pr.length
  bul : D.1.bu.length = c.bu.length
  buv : ∀ j, j < c.bu.length → (D.1.bu.getD j Bf.zero).vs = (c.bu.getD j Bf.zero).vs
  oth : ∀ j : Nat, (j : Int) ≠ i → D.1.pr.getD j Px.zero = c.pr.getD j Px.zero
  low : 0 ≤ D.2
  top : D.2 ≤ 4
  idle : D.2 ≠ 0 → D.1 = c
theorem kept_none (c : Pa) (i : Int) : Holds5 c i (c, 3) := ⟨rfl, rfl, fun _ _ => rfl, fun _ _ => rfl, (by simp), (by simp), fun _ => rfl⟩
theorem kept_deed (c : Pa) (i : Int) (f : Px → Dd) (hf : Tame f) : Holds5 c i (deedP c i f) :=
  ⟨deed_len c i f, by rw [deed_bu], fun _ _ => by rw [deed_bu], fun _ h => deed_other c i f h, (deed_code c i f hf).1, (deed_code c i f hf).2, deed_same c i f hf⟩
theorem leave_vs (c : Pa) (f : Wt → Bool) (j : Nat) : ((leaveP c f).bu.getD j Bf.zero).vs = (c.bu.getD j Bf.zero).vs := by
  unfold leaveP
  simp only [List.getD, List.getElem?_map]
  cases c.bu[j]? <;> rfl
theorem kept_change (f : Pt) (c : Pa) (k i n : Int) : Holds5 c i (changeP f c k i n) := by
  unfold changeP
  split
  · unfold startP
    split
    · exact kept_deed c i _ (tame_start _ _)
    · exact kept_none c i
  · split
    · unfold stopP
      have K := kept_deed c i stopD tame_stop
      split
      · refine ⟨?_, ?_, ?_, ?_, (by simp), (by simp), fun h => absurd rfl h⟩
        · exact K.len
        · show ((deedP c i stopD).1.bu.map _).length = _
          rw [List.length_map]; exact K.bul
        · intro j hj
          exact (leave_vs _ _ j).trans (K.buv j hj)
        · intro j hj
          exact K.oth j hj
      · exact K
    · split
      · unfold suspP
        split
        · exact kept_deed c i _ (tame_susp _)
        · exact kept_none c i
      · split
        · exact kept_deed c i _ tame_res
        · exact kept_deed c i _ (tame_prio _)
end Go.Proofs.Ytdanfnbclbiidaa
