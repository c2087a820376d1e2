/-
  In what a partition differs to which something was done.
-/
import Derived.Test.YtfdalcfbhebloaaQSameNo
import Derived.Test.YtfdalcfbhebloaaQFacts3
namespace Go.Proofs.Ytfdalcfbhebloaa
open Go.RowKit
set_option linter.unusedVariables false

theorem wrap_next (x : Int) : x ≠ wrap64 (x + 1) := by
  unfold wrap64
  omega
/-- In what D differs from c: in what is next, in a process, or in nothing. -/
structure Differs (c D : Pa) : Prop where
  md : c.md = D.md
  bg : c.bg = D.bg
  sa : c.sa = D.sa
  qu : c.qu = D.qu
  d : c.nx ≠ D.nx ∨ (c.nx = D.nx ∧ ∃ i0, i0 < c.pr.length ∧ (∀ j, j < i0 → D.pr.getD j Px.zero = c.pr.getD j Px.zero) ∧ Px.apart (c.pr.getD i0 Px.zero) (D.pr.getD i0 Px.zero)) ∨ D = c
/-- A deed that does something queues, or leaves another process, or the same. -/
def Tells (f : Px → Dd) : Prop := ∀ r, (f r).k = 0 → (f r).q = true ∨ ((f r).q = false ∧ Px.apart r (f r).r) ∨ ((f r).q = false ∧ (f r).r = r)
theorem deed_tells {c : Pa} {i : Int} {f : Px → Dd} (hf : Tells f) (h : (deedP c i f).2 = 0) : Differs c (deedP c i f).1 := by
  unfold deedP at h ⊢
  split at h
  · rename_i h1
    rw [if_pos h1]
    have hk : i.toNat < c.pr.length := by omega
    refine ⟨rfl, rfl, rfl, rfl, ?_⟩
    rcases hf _ h with hq | ⟨hq, hap⟩ | ⟨hq, hr⟩
    · refine .inl ?_
      show c.nx ≠ Dd.nxt _ c.nx
      unfold Dd.nxt
      rw [hq, if_pos rfl]
      exact wrap_next _
    · refine .inr (.inl ⟨?_, i.toNat, hk, fun j hj => ?_, ?_⟩)
      · show c.nx = Dd.nxt _ c.nx
        unfold Dd.nxt
        rw [hq, if_neg Bool.false_ne_true]
      · exact getD_set_ne (by omega) _
      · show Px.apart _ ((c.pr.set i.toNat _).getD i.toNat Px.zero)
        rw [getD_set_self hk]
        unfold Dd.out
        rw [hq, if_neg Bool.false_ne_true]
        exact hap
    · refine .inr (.inr ?_)
      unfold Dd.out Dd.nxt
      rw [hq]
      simp only [if_neg Bool.false_ne_true, hr, set_getD_self]
  · simp at h
theorem tells_start (f : Pc) (n : Int) : Tells (startD f n) := by
  intro r h; unfold startD at h ⊢; split
  · exact .inl rfl
  · rename_i h1; rw [if_neg h1] at h; simp at h
theorem tells_stop : Tells stopD := by
  intro r h; unfold stopD at h ⊢; split
  · rename_i h1; rw [if_pos h1] at h; simp at h
  · rename_i h1; exact .inr (.inl ⟨rfl, fun hh => h1 hh.1⟩)
theorem tells_susp (f : Pc) : Tells (suspD f) := by
  intro r h; unfold suspD at h ⊢
  by_cases h1 : r.st = 0 ∨ 0 < f.pe
  · rw [if_pos h1] at h; simp at h
  · rw [if_neg h1] at h ⊢
    rcases h2 : r.su
    · rw [if_neg Bool.false_ne_true]
      exact .inr (.inl ⟨rfl, fun hh => by have := hh.2.2; rw [h2] at this; cases this⟩)
    · rw [h2, if_pos rfl] at h; simp at h
theorem tells_res : Tells resD := by
  intro r h; unfold resD at h ⊢
  by_cases h1 : r.st = 0
  · rw [if_pos h1] at h; simp at h
  · rw [if_neg h1] at h ⊢
    rcases h2 : r.su
    · rw [h2, if_neg Bool.false_ne_true] at h; simp at h
    · rw [if_pos rfl]
      by_cases h3 : r.st = 1
      · exact .inl (decide_eq_true h3)
      · exact .inr (.inl ⟨decide_eq_false h3, fun hh => by have := hh.2.2; rw [h2] at this; cases this⟩)
theorem tells_prio (n : Int) : Tells (prioD n) := by
  intro r h; unfold prioD at h ⊢
  by_cases h0 : n < 0 ∨ 15 < n
  · rw [if_pos h0] at h; simp at h
  · rw [if_neg h0] at h ⊢
    by_cases h1 : r.st = 0
    · rw [if_pos h1] at h; simp at h
    · rw [if_neg h1]
      by_cases h3 : r.st = 1
      · exact .inl (decide_eq_true h3)
      · by_cases h4 : r.pr = n
        · exact .inr (.inr ⟨decide_eq_false h3, by rw [← h4]⟩)
        · exact .inr (.inl ⟨decide_eq_false h3, fun hh => h4 hh.2.1⟩)
theorem change_differs (f : Pt) (c : Pa) (k i n : Int) (h : (changeP f c k i n).2 = 0) : Differs c (changeP f c k i n).1 := by
  unfold changeP at h ⊢
  split
  · rename_i hk; rw [if_pos hk] at h
    unfold startP at h ⊢
    split
    · rename_i h1; rw [if_pos h1] at h; exact deed_tells (tells_start _ _) h
    · rename_i h1; rw [if_neg h1] at h; simp at h
  · rename_i hk; rw [if_neg hk] at h
    split
    · rename_i hk; rw [if_pos hk] at h
      unfold stopP at h ⊢
      by_cases h2 : (deedP c i stopD).2 = 0
      · rw [if_pos h2]
        have D := deed_tells tells_stop h2
        refine ⟨D.md, D.bg, D.sa, D.qu, ?_⟩
        rcases D.d with hd | hd | hd
        · exact .inl hd
        · exact .inr (.inl hd)
        · exfalso
          unfold deedP at h2 hd
          split at h2
          · rename_i h3
            rw [if_pos h3] at hd
            have e : (c.pr.set i.toNat ((stopD (c.pr.getD i.toNat Px.zero)).out c.nx)).getD i.toNat Px.zero = c.pr.getD i.toNat Px.zero := by
              have e2 := congrArg Pa.pr hd
              simp only at e2
              rw [e2]
            rw [getD_set_self (by omega)] at e
            simp only at h2
            unfold stopD at h2 e
            split at h2
            · simp at h2
            · rename_i h4
              rw [if_neg h4] at e
              have e3 := congrArg Px.st e
              exact h4 e3.symm
          · simp at h2
      · rw [if_neg h2] at h; exact absurd h h2
    · rename_i hk; rw [if_neg hk] at h
      split
      · rename_i hk; rw [if_pos hk] at h
        unfold suspP at h ⊢
        split
        · rename_i h1; rw [if_pos h1] at h; exact deed_tells (tells_susp _) h
        · rename_i h1; rw [if_neg h1] at h; simp at h
      · rename_i hk; rw [if_neg hk] at h
        split
        · rename_i hk; rw [if_pos hk] at h; exact deed_tells tells_res h
        · rename_i hk; rw [if_neg hk] at h; exact deed_tells (tells_prio _) h
end Go.Proofs.Ytfdalcfbhebloaa
