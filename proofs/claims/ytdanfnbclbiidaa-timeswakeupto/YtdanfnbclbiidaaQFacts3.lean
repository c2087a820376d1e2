/-
  What a process is behind Block, Go, Start, Stop.
-/
import Derived.Test.YtdanfnbclbiidaaQRef3
namespace Go.Proofs.Ytdanfnbclbiidaa
open Go.RowKit
set_option linter.unusedVariables false

/-- An arm that is of one operation alone: by with_reducible, where it would run away at another. -/
theorem wpList_dst {P : Program} {ops : Array Oper} {rest : List Oper} {o : Oper} {a : Act} {w : World} {Q : Exit → Act → World → Prop} (n : Nat) (hd : o.dst = some n) (h : wpList P ops Q (o :: rest) a w) : wpList P ops Q (o :: rest) a w := h
theorem block_at {c : Pa} {k : Nat} {ki ob un ca : Int} (hk : k < c.pr.length) (hst : (c.pr.getD k Px.zero).st = 1) : (blockP c (k : Int) ki ob un ca).pr.getD k Px.zero = { c.pr.getD k Px.zero with st := 2, ki := ki, ob := ob, un := un, ca := ca } := by
  unfold blockP
  rw [deed_does hk _ (y := { c.pr.getD k Px.zero with st := 2, ki := ki, ob := ob, un := un, ca := ca }) (by unfold blockD; rw [if_pos hst])]
  exact getD_set_self hk _
theorem block_idle {c : Pa} {k : Nat} {ki ob un ca : Int} (hk : k < c.pr.length) (hst : ¬ (c.pr.getD k Px.zero).st = 1) : blockP c (k : Int) ki ob un ca = c := by
  unfold blockP
  rw [deed_idle hk _ (t := 1) (by unfold blockD; rw [if_neg hst])]
theorem block_len (c : Pa) (i ki ob un ca : Int) : (blockP c i ki ob un ca).pr.length = c.pr.length := deed_len c i _
theorem block_small {c : Pa} (h : c.small) (i ki ob un ca : Int) : (blockP c i ki ob un ca).small := deed_small h i _
theorem go_at {c : Pa} {k : Nat} {a v : Int} (hk : k < c.pr.length) (hst : (c.pr.getD k Px.zero).st = 2) : (goP c (k : Int) a v).pr.getD k Px.zero = { c.pr.getD k Px.zero with st := 1, un := -1, ki := 0, ob := 0, pe := true, co := a, va := v, r0 := a, r1 := v, si := c.nx } := by
  unfold goP
  rw [deed_does_q hk _ (y := { c.pr.getD k Px.zero with st := 1, un := -1, ki := 0, ob := 0, pe := true, co := a, va := v, r0 := a, r1 := v }) (by unfold goD; rw [if_pos hst])]
  exact getD_set_self hk _
theorem go_idle {c : Pa} {k : Nat} {a v : Int} (hk : k < c.pr.length) (hst : ¬ (c.pr.getD k Px.zero).st = 2) : goP c (k : Int) a v = c := by
  unfold goP
  rw [deed_idle hk _ (t := 1) (by unfold goD; rw [if_neg hst])]
theorem go_len (c : Pa) (i a v : Int) : (goP c i a v).pr.length = c.pr.length := deed_len c i _

/-- A process that was started. -/
def begun (f : Pc) (now nx : Int) : Px := { Px.dorm f.pr with st := 1, pc := f.en, du := if 0 < f.li then wrap64 (now + f.li) else -1, ne := if 0 < f.pe then wrap64 (now + f.pe) else -1, si := nx }
theorem start_idle {f : Pt} {c : Pa} {i now : Int} (h : (startP f c i now).2 ≠ 0) : (startP f c i now).1 = c := by
  unfold startP at h ⊢
  split
  · rename_i h1
    rw [if_pos h1] at h
    exact deed_same c i _ (tame_start _ _) h
  · rfl
theorem start_ok {f : Pt} {c : Pa} {i now : Int} (h : (startP f c i now).2 = 0) : ∃ k : Nat, i = (k : Int) ∧ k < c.pr.length ∧ k < f.pc.length ∧ (startP f c i now).1 = { c with pr := c.pr.set k (begun (f.pc.getD k Pc.zero) now c.nx), nx := wrap64 (c.nx + 1) } := by
  by_cases h1 : 0 ≤ i ∧ i < f.pc.length
  · by_cases h2 : 0 ≤ i ∧ i < c.pr.length
    · obtain ⟨k, rfl⟩ : ∃ k : Nat, i = (k : Int) := ⟨i.toNat, by omega⟩
      have e : startP f c (k : Int) now = deedP c (k : Int) (startD (f.pc.getD k Pc.zero) now) := by unfold startP; rw [if_pos h1]; rfl
      rw [e] at h ⊢
      have hk : k < c.pr.length := by omega
      refine ⟨k, rfl, hk, by omega, ?_⟩
      by_cases hst : (c.pr.getD k Px.zero).st = 0
      · rw [deed_does_q hk _ (y := { Px.dorm (f.pc.getD k Pc.zero).pr with st := 1, pc := (f.pc.getD k Pc.zero).en, du := if 0 < (f.pc.getD k Pc.zero).li then wrap64 (now + (f.pc.getD k Pc.zero).li) else -1, ne := if 0 < (f.pc.getD k Pc.zero).pe then wrap64 (now + (f.pc.getD k Pc.zero).pe) else -1 }) (by unfold startD; rw [if_pos hst])]
        rfl
      · rw [deed_idle hk _ (t := 1) (by unfold startD; rw [if_neg hst])] at h
        simp at h
    · unfold startP at h
      rw [if_pos h1, deed_out h2] at h
      simp at h
  · unfold startP at h
    rw [if_neg h1] at h
    simp at h
theorem stop_does {c : Pa} {k : Nat} (hk : k < c.pr.length) (hst : ¬ (c.pr.getD k Px.zero).st = 0) : (stopP c (k : Int)).2 = 0 ∧ (stopP c (k : Int)).1.pr = c.pr.set k (Px.dorm (c.pr.getD k Px.zero).pr) := by
  unfold stopP
  rw [deed_does hk stopD (y := Px.dorm (c.pr.getD k Px.zero).pr) (by unfold stopD; rw [if_neg hst]), if_pos rfl]
  exact ⟨rfl, rfl⟩
end Go.Proofs.Ytdanfnbclbiidaa
