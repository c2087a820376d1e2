/-
  What follows of releases, delays and new deadlines.
-/
import Derived.Test.YtdanfnbclbiidaaUMath
namespace Go.Proofs.Ytdanfnbclbiidaa
open Go.RowKit
set_option linter.unusedVariables false

theorem period_idle {f : Pt} {c : Pa} {i : Int} (h : (periodP f c i).2 ≠ 6) : (periodP f c i).1 = c ∧ ((periodP f c i).2 = 3 ∨ (periodP f c i).2 = 4) := by
  unfold periodP at h ⊢
  split
  · rename_i h1
    rw [if_pos h1] at h
    split
    · exact ⟨rfl, .inr rfl⟩
    · rename_i h2
      rw [if_neg h2] at h
      exact absurd rfl h
  · exact ⟨rfl, .inl rfl⟩
/-- Who waits for its release. -/
def waitsX (x : Px) : Px := { x with st := 2, ki := 2, ob := 0, un := x.ne, ca := 6, du := -1 }
theorem period_ok {f : Pt} {c : Pa} {i : Int} (h : (periodP f c i).2 = 6) : ∃ k : Nat, i = (k : Int) ∧ k < c.pr.length ∧ k < f.pc.length ∧ (c.pr.getD k Px.zero).st = 1 ∧ (periodP f c i).1 = { c with pr := c.pr.set k (waitsX (c.pr.getD k Px.zero)) } := by
  unfold periodP at h ⊢
  split at h
  · rename_i h1
    obtain ⟨k, rfl⟩ : ∃ k : Nat, i = (k : Int) := ⟨i.toNat, by omega⟩
    rw [if_pos h1]
    rw [Int.toNat_natCast] at h ⊢
    split at h
    · simp at h
    · rename_i h2
      rw [if_neg h2]
      simp only [not_or, ne_eq] at h2
      exact ⟨k, rfl, by omega, by omega, Decidable.not_not.1 h2.2, rfl⟩
  · simp at h
theorem delay_idle {c : Pa} {i ticks now : Int} (h0 : (delayP c i ticks now).2 ≠ 0) (h6 : (delayP c i ticks now).2 ≠ 6) : (delayP c i ticks now).1 = c := by
  unfold delayP at h0 h6 ⊢
  split
  · rename_i h1
    rw [if_pos h1] at h0 h6
    split
    · rfl
    · rename_i h2
      rw [if_neg h2] at h0 h6
      split
      · rename_i h3; rw [if_pos h3] at h0; exact absurd rfl h0
      · rename_i h3; rw [if_neg h3] at h6; exact absurd rfl h6
  · rfl
theorem delay_none {c : Pa} {i ticks now : Int} (h : (delayP c i ticks now).2 = 0) : ∃ k : Nat, i = (k : Int) ∧ k < c.pr.length ∧ ticks = 0 ∧ (c.pr.getD k Px.zero).st = 1 ∧ (delayP c i ticks now).1 = { c with pr := c.pr.set k { c.pr.getD k Px.zero with si := c.nx }, nx := wrap64 (c.nx + 1) } := by
  unfold delayP at h ⊢
  split at h
  · rename_i h1
    obtain ⟨k, rfl⟩ : ∃ k : Nat, i = (k : Int) := ⟨i.toNat, by omega⟩
    rw [if_pos h1]
    rw [Int.toNat_natCast] at h ⊢
    split at h
    · simp at h
    · rename_i h2
      rw [if_neg h2]
      split at h
      · rename_i h3
        rw [if_pos h3]
        exact ⟨k, rfl, by omega, h3, by simpa using h2, rfl⟩
      · simp at h
  · simp at h
theorem delay_some {c : Pa} {i ticks now : Int} (h : (delayP c i ticks now).2 = 6) : ∃ k : Nat, i = (k : Int) ∧ k < c.pr.length ∧ 0 < ticks ∧ ticks ≤ 4096 ∧ (c.pr.getD k Px.zero).st = 1 ∧ (delayP c i ticks now).1 = blockP c (k : Int) 1 0 (wrap64 (now + ticks)) 7 := by
  unfold delayP at h ⊢
  split at h
  · rename_i h1
    obtain ⟨k, rfl⟩ : ∃ k : Nat, i = (k : Int) := ⟨i.toNat, by omega⟩
    rw [if_pos h1]
    rw [Int.toNat_natCast] at h ⊢
    split at h
    · simp at h
    · rename_i h2
      rw [if_neg h2]
      split at h
      · simp at h
      · rename_i h3
        rw [if_neg h3]
        exact ⟨k, rfl, by omega, by omega, by omega, by simpa using h2, rfl⟩
  · simp at h
theorem repl_idle {f : Pt} {c : Pa} {i ticks now : Int} (h : (replP f c i ticks now).2 ≠ 0) : (replP f c i ticks now).1 = c := by
  unfold replP at h ⊢
  split
  · rename_i h1
    rw [if_pos h1] at h
    split
    · rfl
    · rename_i h2
      rw [if_neg h2] at h
      exact absurd rfl h
  · rfl
theorem repl_ok {f : Pt} {c : Pa} {i ticks now : Int} (h : (replP f c i ticks now).2 = 0) : ∃ k : Nat, i = (k : Int) ∧ k < c.pr.length ∧ k < f.pc.length ∧ 1 ≤ ticks ∧ ticks ≤ 4096 ∧ (c.pr.getD k Px.zero).st ≠ 0 ∧ (replP f c i ticks now).1 = { c with pr := c.pr.set k { c.pr.getD k Px.zero with du := wrap64 (now + ticks) } } := by
  unfold replP at h ⊢
  split at h
  · rename_i h1
    obtain ⟨k, rfl⟩ : ∃ k : Nat, i = (k : Int) := ⟨i.toNat, by omega⟩
    rw [if_pos h1]
    rw [Int.toNat_natCast] at h ⊢
    split at h
    · simp at h
    · rename_i h2
      rw [if_neg h2]
      simp only [not_or] at h2
      exact ⟨k, rfl, by omega, by omega, by omega, by omega, h2.2, rfl⟩
  · simp at h

/-- Who waits for its release is released at a tick from then on. -/
theorem period_wakes {f : Pt} {c : Pa} {k : Nat} {now : Int} (hk : k < c.pr.length) (hf : k < f.pc.length) (h0 : 0 ≤ (c.pr.getD k Px.zero).ne) (h1 : (c.pr.getD k Px.zero).ne ≤ now) :
    ((wakeP f { c with pr := c.pr.set k (waitsX (c.pr.getD k Px.zero)) } now).pr.getD k Px.zero).st = 1 ∧
    ((wakeP f { c with pr := c.pr.set k (waitsX (c.pr.getD k Px.zero)) } now).pr.getD k Px.zero).ne = wrap64 ((c.pr.getD k Px.zero).ne + (f.pc.getD k Pc.zero).pe) ∧
    ((wakeP f { c with pr := c.pr.set k (waitsX (c.pr.getD k Px.zero)) } now).pr.getD k Px.zero).du = (if 0 < (f.pc.getD k Pc.zero).li then wrap64 (now + (f.pc.getD k Pc.zero).li) else -1) ∧
    ((wakeP f { c with pr := c.pr.set k (waitsX (c.pr.getD k Px.zero)) } now).pr.getD k Px.zero).co = 0 := by
  obtain ⟨C, hC⟩ : ∃ C, { c with pr := c.pr.set k (waitsX (c.pr.getD k Px.zero)) } = C := ⟨_, rfl⟩
  have e : C.pr.getD k Px.zero = waitsX (c.pr.getD k Px.zero) := by rw [← hC]; exact getD_set_self hk _
  have hl : k < C.pr.length := by rw [← hC]; simpa using hk
  rw [hC]
  have ho : overX now (C.pr.getD k Px.zero) := by rw [e]; exact ⟨rfl, h0, h1⟩
  unfold wakeP
  rw [(wakeS_lt f C now C.pr.length k (Nat.le_refl _) hl).2 ho, e]
  obtain ⟨a1, a2, a3, a4, a5⟩ := wokenX_st f now k (waitsX (c.pr.getD k Px.zero)) (wakeS f C now k).nx
  obtain ⟨b1, b2⟩ := wokenX_rel (f := f) (now := now) (i := k) (x := waitsX (c.pr.getD k Px.zero)) (nx := (wakeS f C now k).nx) rfl hf
  exact ⟨a1, b1, b2, a5⟩
/-- Who is delayed waits till then, and not longer. -/
theorem delay_wakes {f : Pt} {c : Pa} {k : Nat} {u now : Int} (hk : k < c.pr.length) (hst : (c.pr.getD k Px.zero).st = 1) (hu : 0 ≤ u) :
    (now < u → ((wakeP f (blockP c (k : Int) 1 0 u 7) now).pr.getD k Px.zero).st = 2) ∧ (u ≤ now → ((wakeP f (blockP c (k : Int) 1 0 u 7) now).pr.getD k Px.zero).st = 1) := by
  obtain ⟨C, hC⟩ : ∃ C, blockP c (k : Int) 1 0 u 7 = C := ⟨_, rfl⟩
  have e := block_at (ki := 1) (ob := 0) (un := u) (ca := 7) hk hst
  rw [hC] at e ⊢
  have hl : k < C.pr.length := by rw [← hC, block_len]; exact hk
  unfold wakeP
  refine ⟨fun h => ?_, fun h => ?_⟩
  · rw [(wakeS_lt f C now C.pr.length k (Nat.le_refl _) hl).1 (by rw [e]; intro ho; have h2 := ho.2.2; simp only at h2; omega), e]
  · rw [(wakeS_lt f C now C.pr.length k (Nat.le_refl _) hl).2 (by rw [e]; exact ⟨rfl, hu, h⟩)]
    exact (wokenX_st _ _ _ _ _).1
/-- Who got another deadline is late from then on, and not ahead of it. -/
theorem repl_late {c : Pa} {k : Nat} {u now : Int} (hk : k < c.pr.length) (h0 : (c.pr.getD k Px.zero).st ≠ 0) (h2 : (c.pr.getD k Px.zero).st ≠ 2) (hu : 0 ≤ u) :
    (k ∈ lateL { c with pr := c.pr.set k { c.pr.getD k Px.zero with du := u } } now ↔ u ≤ now) := by
  rw [mem_lateL]
  simp only [List.length_set]
  rw [getD_set_self hk, lateX_iff]
  simp only
  constructor
  · rintro ⟨_, _, _, _, h⟩; exact h
  · exact fun h => ⟨hk, h0, fun hh => h2 hh.1, hu, h⟩
/-- Who has waited up to now goes on; the others stay as they are. -/
theorem goes_facts {f : Pt} {c : Pa} {now : Int} {j : Nat} (hj : j < c.pr.length) (h0 : -9223372036854775808 ≤ c.nx) (h1 : c.nx + c.pr.length ≤ 9223372036854775807) :
    (overX now (c.pr.getD j Px.zero) → ((wakeP f c now).pr.getD j Px.zero).st = 1 ∧ ((wakeP f c now).pr.getD j Px.zero).un = -1 ∧ ((wakeP f c now).pr.getD j Px.zero).pe = true ∧ c.nx ≤ ((wakeP f c now).pr.getD j Px.zero).si) ∧
    (¬ overX now (c.pr.getD j Px.zero) → (wakeP f c now).pr.getD j Px.zero = c.pr.getD j Px.zero) := by
  unfold wakeP
  refine ⟨fun h => ?_, fun h => (wakeS_lt f c now c.pr.length j (Nat.le_refl _) hj).1 h⟩
  rw [(wakeS_lt f c now c.pr.length j (Nat.le_refl _) hj).2 h]
  obtain ⟨a1, a2, a3, a4, a5⟩ := wokenX_st f now j (c.pr.getD j Px.zero) (wakeS f c now j).nx
  exact ⟨a1, a2, a3, by rw [a4]; exact (wakeS_nx f c now h0 h1 j (by omega)).1⟩
theorem wakeP_len (f : Pt) (c : Pa) (now : Int) : (wakeP f c now).pr.length = c.pr.length := wakeS_len f c now _
end Go.Proofs.Ytdanfnbclbiidaa
