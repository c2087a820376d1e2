/-
  Releases, deadlines and timeouts of a partition, as functions.
  What follows of releases, delays and new deadlines.
-/
import Derived.Test.YtdanfnbclbiidaaQFacts3
namespace Go.Proofs.Ytdanfnbclbiidaa
open Go.RowKit
set_option linter.unusedVariables false

/-- Has who waits waited up to now? -/
abbrev overX (now : Int) (x : Px) : Prop := x.st = 2 ∧ 0 ≤ x.un ∧ x.un ≤ now
/-- Does it wait for a time, or for its release? -/
abbrev timed (x : Px) : Prop := x.ki = 1 ∨ x.ki = 2
/-- What its release makes of a process that went on. -/
def relX (f : Pt) (now : Int) (i : Nat) (x y : Px) : Px :=
  if x.ki = 2 ∧ i < f.pc.length then { y with du := if 0 < (f.pc.getD i Pc.zero).li then wrap64 (now + (f.pc.getD i Pc.zero).li) else -1, ne := wrap64 (x.un + (f.pc.getD i Pc.zero).pe) } else y
/-- What its call returns to it. -/
def codeX (x : Px) : Int := if timed x then 0 else 5
/-- Who was over goes on. -/
def wentP (c : Pa) (i : Nat) (x : Px) : Pa := goP (if timed x then c else leaveP c (isW (i : Int))) (i : Int) (codeX x) 0
/-- Its release is told. -/
def relP (f : Pt) (now : Int) (i : Nat) (x : Px) (c : Pa) : Pa := { c with pr := c.pr.set i (relX f now i x (c.pr.getD i Px.zero)) }
/-- One process goes on, if it is over. -/
def wakeOne (f : Pt) (now : Int) (i : Nat) (c : Pa) : Pa := if overX now (c.pr.getD i Px.zero) then relP f now i (c.pr.getD i Px.zero) (wentP c i (c.pr.getD i Px.zero)) else c
/-- The first k have been asked. -/
def wakeS (f : Pt) (c : Pa) (now : Int) : Nat → Pa
  | 0 => c
  | k + 1 => wakeOne f now k (wakeS f c now k)
def wakeP (f : Pt) (c : Pa) (now : Int) : Pa := wakeS f c now c.pr.length

/-- Who goes on, when nx is what is next. -/
def goneX (x : Px) (nx : Int) : Px := { x with st := 1, un := -1, ki := 0, ob := 0, pe := true, co := codeX x, va := 0, r0 := codeX x, r1 := 0, si := nx }
def wokenX (f : Pt) (now : Int) (i : Nat) (x : Px) (nx : Int) : Px := relX f now i x (goneX x nx)

theorem leave_pr (c : Pa) (g : Wt → Bool) : (leaveP c g).pr = c.pr := rfl
theorem leave_nx (c : Pa) (g : Wt → Bool) : (leaveP c g).nx = c.nx := rfl
theorem go_does {c : Pa} {k : Nat} {a v : Int} (hk : k < c.pr.length) (hst : (c.pr.getD k Px.zero).st = 2) :
    goP c (k : Int) a v = { c with pr := c.pr.set k { c.pr.getD k Px.zero with st := 1, un := -1, ki := 0, ob := 0, pe := true, co := a, va := v, r0 := a, r1 := v, si := c.nx }, nx := wrap64 (c.nx + 1) } := by
  unfold goP
  rw [deed_does_q hk _ (y := { c.pr.getD k Px.zero with st := 1, un := -1, ki := 0, ob := 0, pe := true, co := a, va := v, r0 := a, r1 := v }) (by unfold goD; rw [if_pos hst])]
theorem wakeOne_idle {f : Pt} {now : Int} {i : Nat} {c : Pa} (h : ¬ overX now (c.pr.getD i Px.zero)) : wakeOne f now i c = c := by
  unfold wakeOne
  rw [if_neg h]
theorem went_does {c : Pa} {i : Nat} {x : Px} (hi : i < c.pr.length) (hx : c.pr.getD i Px.zero = x) (hst : x.st = 2) : (wentP c i x).pr = c.pr.set i (goneX x c.nx) ∧ (wentP c i x).nx = wrap64 (c.nx + 1) := by
  unfold wentP
  by_cases ht : timed x
  · rw [if_pos ht, go_does hi (by rw [hx]; exact hst), hx]
    exact ⟨rfl, rfl⟩
  · rw [if_neg ht, go_does (c := leaveP c (isW (i : Int))) hi (by show (c.pr.getD i Px.zero).st = 2; rw [hx]; exact hst), leave_pr, leave_nx, hx]
    exact ⟨rfl, rfl⟩
theorem wakeOne_pr {f : Pt} {now : Int} {i : Nat} {c : Pa} (hi : i < c.pr.length) (h : overX now (c.pr.getD i Px.zero)) :
    (wakeOne f now i c).pr = c.pr.set i (wokenX f now i (c.pr.getD i Px.zero) c.nx) ∧ (wakeOne f now i c).nx = wrap64 (c.nx + 1) := by
  unfold wakeOne
  rw [if_pos h]
  obtain ⟨h1, h2⟩ := went_does hi rfl h.1
  refine ⟨?_, h2⟩
  unfold relP
  simp only
  rw [h1, List.set_set, getD_set_self hi]
  rfl
theorem went_len (c : Pa) (i : Nat) (x : Px) : (wentP c i x).pr.length = c.pr.length := by
  unfold wentP
  rw [go_len]
  split <;> rfl
theorem wakeOne_len (f : Pt) (now : Int) (i : Nat) (c : Pa) : (wakeOne f now i c).pr.length = c.pr.length := by
  unfold wakeOne
  split
  · unfold relP
    simp only [List.length_set]
    exact went_len _ _ _
  · rfl
theorem wakeS_len (f : Pt) (c : Pa) (now : Int) : ∀ k, (wakeS f c now k).pr.length = c.pr.length
  | 0 => rfl
  | k + 1 => (wakeOne_len f now k _).trans (wakeS_len f c now k)
theorem wakeOne_other {f : Pt} {now : Int} {i j : Nat} {c : Pa} (hi : i < c.pr.length) (h : j ≠ i) : (wakeOne f now i c).pr.getD j Px.zero = c.pr.getD j Px.zero := by
  by_cases ho : overX now (c.pr.getD i Px.zero)
  · rw [(wakeOne_pr hi ho).1]
    exact getD_set_ne h _
  · rw [wakeOne_idle ho]
/-- Who was not asked yet is as it was. -/
theorem wakeS_ge (f : Pt) (c : Pa) (now : Int) : ∀ k j, k ≤ c.pr.length → k ≤ j → (wakeS f c now k).pr.getD j Px.zero = c.pr.getD j Px.zero
  | 0, j, _, _ => rfl
  | k + 1, j, hk, hj => by
    show (wakeOne f now k (wakeS f c now k)).pr.getD j Px.zero = _
    rw [wakeOne_other (by rw [wakeS_len]; omega) (by omega)]
    exact wakeS_ge f c now k j (by omega) (by omega)
/-- Who was asked is what it was, or went on. -/
theorem wakeS_lt (f : Pt) (c : Pa) (now : Int) : ∀ k j, k ≤ c.pr.length → j < k →
    (¬ overX now (c.pr.getD j Px.zero) → (wakeS f c now k).pr.getD j Px.zero = c.pr.getD j Px.zero) ∧
    (overX now (c.pr.getD j Px.zero) → (wakeS f c now k).pr.getD j Px.zero = wokenX f now j (c.pr.getD j Px.zero) (wakeS f c now j).nx)
  | 0, j, _, hj => absurd hj (Nat.not_lt_zero _)
  | k + 1, j, hk, hj => by
    by_cases e : j = k
    · subst e
      have hx := wakeS_ge f c now j j (by omega) (Nat.le_refl _)
      refine ⟨fun h => ?_, fun h => ?_⟩
      · show (wakeOne f now j (wakeS f c now j)).pr.getD j Px.zero = _
        rw [wakeOne_idle (by rw [hx]; exact h), hx]
      · show (wakeOne f now j (wakeS f c now j)).pr.getD j Px.zero = _
        rw [(wakeOne_pr (by rw [wakeS_len]; omega) (by rw [hx]; exact h)).1, getD_set_self (by rw [wakeS_len]; omega), hx]
    · have h1 := wakeS_lt f c now k j (by omega) (by omega)
      have h2 : (wakeS f c now (k + 1)).pr.getD j Px.zero = (wakeS f c now k).pr.getD j Px.zero := wakeOne_other (by rw [wakeS_len]; omega) e
      rw [h2]
      exact h1
theorem wrap_in {x : Int} (h1 : -9223372036854775808 ≤ x) (h2 : x ≤ 9223372036854775807) : wrap64 x = x := by
  unfold wrap64
  omega
/-- What is next grows by one for each that goes on. -/
theorem wakeS_nx (f : Pt) (c : Pa) (now : Int) (h0 : -9223372036854775808 ≤ c.nx) (h1 : c.nx + c.pr.length ≤ 9223372036854775807) : ∀ k, k ≤ c.pr.length → c.nx ≤ (wakeS f c now k).nx ∧ (wakeS f c now k).nx ≤ c.nx + k
  | 0, _ => ⟨Int.le_refl _, by show c.nx ≤ c.nx + ((0 : Nat) : Int); omega⟩
  | k + 1, hk => by
    have h := wakeS_nx f c now h0 h1 k (by omega)
    by_cases ho : overX now ((wakeS f c now k).pr.getD k Px.zero)
    · have e := (wakeOne_pr (f := f) (by rw [wakeS_len]; omega) ho).2
      show c.nx ≤ (wakeOne f now k (wakeS f c now k)).nx ∧ (wakeOne f now k (wakeS f c now k)).nx ≤ c.nx + ((k + 1 : Nat) : Int)
      rw [e, wrap_in (by omega) (by omega)]
      omega
    · show c.nx ≤ (wakeOne f now k (wakeS f c now k)).nx ∧ (wakeOne f now k (wakeS f c now k)).nx ≤ c.nx + ((k + 1 : Nat) : Int)
      rw [wakeOne_idle ho]
      omega
theorem went_small {c : Pa} (h : c.small) (i : Nat) (x : Px) : (wentP c i x).small := by
  refine deed_small ?_ _ _
  split
  · exact h
  · exact leave_small h _
theorem wakeOne_small {f : Pt} {now : Int} {i : Nat} {c : Pa} (h : c.small) : (wakeOne f now i c).small := by
  unfold wakeOne
  split
  · have h1 := went_small h i (c.pr.getD i Px.zero)
    unfold relP
    exact ⟨h1.me, by simpa using h1.pr, h1.bo, h1.bu, h1.se, h1.ev, h1.sa, h1.qu, h1.ll, h1.gi, h1.bol, h1.bul, h1.sel, h1.evl, h1.qul⟩
  · exact h
theorem wakeS_small {f : Pt} {c : Pa} {now : Int} (h : c.small) : ∀ k, (wakeS f c now k).small
  | 0 => h
  | k + 1 => wakeOne_small (wakeS_small h k)
theorem wokenX_st (f : Pt) (now : Int) (i : Nat) (x : Px) (nx : Int) : (wokenX f now i x nx).st = 1 ∧ (wokenX f now i x nx).un = -1 ∧ (wokenX f now i x nx).pe = true ∧ (wokenX f now i x nx).si = nx ∧ (wokenX f now i x nx).co = codeX x := by
  unfold wokenX relX
  split <;> exact ⟨rfl, rfl, rfl, rfl, rfl⟩
theorem wokenX_rel {f : Pt} {now : Int} {i : Nat} {x : Px} {nx : Int} (h : x.ki = 2) (hi : i < f.pc.length) : (wokenX f now i x nx).ne = wrap64 (x.un + (f.pc.getD i Pc.zero).pe) ∧ (wokenX f now i x nx).du = (if 0 < (f.pc.getD i Pc.zero).li then wrap64 (now + (f.pc.getD i Pc.zero).li) else -1) := by
  unfold wokenX relX
  rw [if_pos ⟨h, hi⟩]
  exact ⟨rfl, rfl⟩

/-- Is a process late? -/
def lateX (now : Int) (x : Px) : Bool := decide (¬ (x.st = 0 ∨ (x.st = 2 ∧ x.ki = 2) ∨ x.du < 0 ∨ now < x.du))
def lateL (c : Pa) (now : Int) : List Nat := (List.range c.pr.length).filter fun i => lateX now (c.pr.getD i Px.zero)
def toldX (now : Int) (x : Px) : Px := if lateX now x then { x with du := -1 } else x
def lateC (c : Pa) (now : Int) : Pa := { c with pr := c.pr.map (toldX now) }
/-- The first k have been asked. -/
def lateS (c : Pa) (now : Int) (k : Nat) : Pa := { c with pr := (c.pr.take k).map (toldX now) ++ c.pr.drop k }
theorem lateX_iff (now : Int) (x : Px) : lateX now x = true ↔ x.st ≠ 0 ∧ ¬ (x.st = 2 ∧ x.ki = 2) ∧ 0 ≤ x.du ∧ x.du ≤ now := by
  unfold lateX
  simp only [decide_eq_true_eq, not_or, Int.not_lt]
theorem lateX_told (now later : Int) (x : Px) (h : lateX now x = true) : lateX later (toldX now x) = false := by
  unfold toldX
  rw [if_pos h]
  rw [Bool.eq_false_iff]
  intro h2
  have := ((lateX_iff _ _).1 h2).2.2.1
  simp at this
theorem lateC_at (c : Pa) (now : Int) {j : Nat} (hj : j < c.pr.length) : (lateC c now).pr.getD j Px.zero = toldX now (c.pr.getD j Px.zero) := by
  unfold lateC
  simp [List.getD, hj]
theorem lateC_len (c : Pa) (now : Int) : (lateC c now).pr.length = c.pr.length := by
  unfold lateC
  simp
theorem lateS_zero (c : Pa) (now : Int) : lateS c now 0 = c := by
  unfold lateS
  simp
theorem lateS_all (c : Pa) (now : Int) : lateS c now c.pr.length = lateC c now := by
  unfold lateS lateC
  simp
theorem mem_lateL {c : Pa} {now : Int} {j : Nat} : j ∈ lateL c now ↔ j < c.pr.length ∧ lateX now (c.pr.getD j Px.zero) = true := by
  unfold lateL
  simp
/-- Asked again at once, nobody is late. -/
theorem late_again (c : Pa) (now : Int) : lateL (lateC c now) now = [] := by
  rw [List.eq_nil_iff_forall_not_mem]
  intro j hj
  obtain ⟨h1, h2⟩ := mem_lateL.1 hj
  rw [lateC_len] at h1
  rw [lateC_at c now h1] at h2
  by_cases h : lateX now (c.pr.getD j Px.zero) = true
  · rw [lateX_told now now _ h] at h2; cases h2
  · unfold toldX at h2; rw [if_neg h] at h2; exact h h2
/-- Who was told to be late is not told again. -/
theorem late_once {c : Pa} {now later : Int} {j : Nat} (h : j ∈ lateL c now) : j ∉ lateL (lateC c now) later := by
  obtain ⟨h1, h2⟩ := mem_lateL.1 h
  intro hj
  obtain ⟨h3, h4⟩ := mem_lateL.1 hj
  rw [lateC_at c now h1, lateX_told now later _ h2] at h4
  cases h4

/-- A process waits for its release. -/
def periodP (f : Pt) (c : Pa) (i : Int) : Pa × Int :=
  if 0 ≤ i ∧ i < c.pr.length ∧ i < f.pc.length then
    if (f.pc.getD i.toNat Pc.zero).pe = 0 ∨ (c.pr.getD i.toNat Px.zero).st ≠ 1 then (c, 4)
    else ({ c with pr := c.pr.set i.toNat { c.pr.getD i.toNat Px.zero with st := 2, ki := 2, ob := 0, un := (c.pr.getD i.toNat Px.zero).ne, ca := 6, du := -1 } }, 6)
  else (c, 3)
def delayP (c : Pa) (i ticks now : Int) : Pa × Int :=
  if 0 ≤ i ∧ i < c.pr.length ∧ 0 ≤ ticks ∧ ticks ≤ 4096 then
    if (c.pr.getD i.toNat Px.zero).st ≠ 1 then (c, 4)
    else if ticks = 0 then ({ c with pr := c.pr.set i.toNat { c.pr.getD i.toNat Px.zero with si := c.nx }, nx := wrap64 (c.nx + 1) }, 0)
    else (blockP c i 1 0 (wrap64 (now + ticks)) 7, 6)
  else (c, 3)
def replP (f : Pt) (c : Pa) (i ticks now : Int) : Pa × Int :=
  if 0 ≤ i ∧ i < c.pr.length ∧ i < f.pc.length ∧ 1 ≤ ticks ∧ ticks ≤ 4096 then
    if (f.pc.getD i.toNat Pc.zero).li = 0 ∨ (c.pr.getD i.toNat Px.zero).st = 0 then (c, 1)
    else ({ c with pr := c.pr.set i.toNat { c.pr.getD i.toNat Px.zero with du := wrap64 (now + ticks) } }, 0)
  else (c, 3)

theorem period_idle {f : Pt} {c : Pa} {i : Int} (h : (periodP f c i).2 ≠ 6) : (periodP f c i).1 = c ∧ ((periodP f c i).2 = 3 ∨ (periodP f c i).2 = 4) := by
  unfold periodP at h ⊢
  split
  · rename_i h1
    rw [if_pos h1] at h
    split
    · exact ⟨rfl, .inr rfl⟩
    · rename_i h2
      rw [if_neg h2] at h
      exact absurd rfl h
  · exact ⟨rfl, .inl rfl⟩
/-- Who waits for its release. -/
def waitsX (x : Px) : Px := { x with st := 2, ki := 2, ob := 0, un := x.ne, ca := 6, du := -1 }
theorem period_ok {f : Pt} {c : Pa} {i : Int} (h : (periodP f c i).2 = 6) : ∃ k : Nat, i = (k : Int) ∧ k < c.pr.length ∧ k < f.pc.length ∧ (c.pr.getD k Px.zero).st = 1 ∧ (periodP f c i).1 = { c with pr := c.pr.set k (waitsX (c.pr.getD k Px.zero)) } := by
  unfold periodP at h ⊢
  split at h
  · rename_i h1
    obtain ⟨k, rfl⟩ : ∃ k : Nat, i = (k : Int) := ⟨i.toNat, by omega⟩
    rw [if_pos h1]
    rw [Int.toNat_natCast] at h ⊢
    split at h
    · simp at h
    · rename_i h2
      rw [if_neg h2]
      simp only [not_or, ne_eq] at h2
      exact ⟨k, rfl, by omega, by omega, Decidable.not_not.1 h2.2, rfl⟩
  · simp at h
theorem delay_idle {c : Pa} {i ticks now : Int} (h0 : (delayP c i ticks now).2 ≠ 0) (h6 : (delayP c i ticks now).2 ≠ 6) : (delayP c i ticks now).1 = c := by
  unfold delayP at h0 h6 ⊢
  split
  · rename_i h1
    rw [if_pos h1] at h0 h6
    split
    · rfl
    · rename_i h2
      rw [if_neg h2] at h0 h6
      split
      · rename_i h3; rw [if_pos h3] at h0; exact absurd rfl h0
      · rename_i h3; rw [if_neg h3] at h6; exact absurd rfl h6
  · rfl
theorem delay_none {c : Pa} {i ticks now : Int} (h : (delayP c i ticks now).2 = 0) : ∃ k : Nat, i = (k : Int) ∧ k < c.pr.length ∧ ticks = 0 ∧ (c.pr.getD k Px.zero).st = 1 ∧ (delayP c i ticks now).1 = { c with pr := c.pr.set k { c.pr.getD k Px.zero with si := c.nx }, nx := wrap64 (c.nx + 1) } := by
  unfold delayP at h ⊢
  split at h
  · rename_i h1
    obtain ⟨k, rfl⟩ : ∃ k : Nat, i = (k : Int) := ⟨i.toNat, by omega⟩
    rw [if_pos h1]
    rw [Int.toNat_natCast] at h ⊢
    split at h
    · simp at h
    · rename_i h2
      rw [if_neg h2]
      split at h
      · rename_i h3
        rw [if_pos h3]
        exact ⟨k, rfl, by omega, h3, by simpa using h2, rfl⟩
      · simp at h
  · simp at h
theorem delay_some {c : Pa} {i ticks now : Int} (h : (delayP c i ticks now).2 = 6) : ∃ k : Nat, i = (k : Int) ∧ k < c.pr.length ∧ 0 < ticks ∧ ticks ≤ 4096 ∧ (c.pr.getD k Px.zero).st = 1 ∧ (delayP c i ticks now).1 = blockP c (k : Int) 1 0 (wrap64 (now + ticks)) 7 := by
  unfold delayP at h ⊢
  split at h
  · rename_i h1
    obtain ⟨k, rfl⟩ : ∃ k : Nat, i = (k : Int) := ⟨i.toNat, by omega⟩
    rw [if_pos h1]
    rw [Int.toNat_natCast] at h ⊢
    split at h
    · simp at h
    · rename_i h2
      rw [if_neg h2]
      split at h
      · simp at h
      · rename_i h3
        rw [if_neg h3]
        exact ⟨k, rfl, by omega, by omega, by omega, by simpa using h2, rfl⟩
  · simp at h
theorem repl_idle {f : Pt} {c : Pa} {i ticks now : Int} (h : (replP f c i ticks now).2 ≠ 0) : (replP f c i ticks now).1 = c := by
  unfold replP at h ⊢
  split
  · rename_i h1
    rw [if_pos h1] at h
    split
    · rfl
    · rename_i h2
      rw [if_neg h2] at h
      exact absurd rfl h
  · rfl
theorem repl_ok {f : Pt} {c : Pa} {i ticks now : Int} (h : (replP f c i ticks now).2 = 0) : ∃ k : Nat, i = (k : Int) ∧ k < c.pr.length ∧ k < f.pc.length ∧ 1 ≤ ticks ∧ ticks ≤ 4096 ∧ (c.pr.getD k Px.zero).st ≠ 0 ∧ (replP f c i ticks now).1 = { c with pr := c.pr.set k { c.pr.getD k Px.zero with du := wrap64 (now + ticks) } } := by
  unfold replP at h ⊢
  split at h
  · rename_i h1
    obtain ⟨k, rfl⟩ : ∃ k : Nat, i = (k : Int) := ⟨i.toNat, by omega⟩
    rw [if_pos h1]
    rw [Int.toNat_natCast] at h ⊢
    split at h
    · simp at h
    · rename_i h2
      rw [if_neg h2]
      simp only [not_or] at h2
      exact ⟨k, rfl, by omega, by omega, by omega, by omega, h2.2, rfl⟩
  · simp at h

/-- Who waits for its release is released at a tick from then on. -/
theorem period_wakes {f : Pt} {c : Pa} {k : Nat} {now : Int} (hk : k < c.pr.length) (hf : k < f.pc.length) (h0 : 0 ≤ (c.pr.getD k Px.zero).ne) (h1 : (c.pr.getD k Px.zero).ne ≤ now) :
    ((wakeP f { c with pr := c.pr.set k (waitsX (c.pr.getD k Px.zero)) } now).pr.getD k Px.zero).st = 1 ∧
    ((wakeP f { c with pr := c.pr.set k (waitsX (c.pr.getD k Px.zero)) } now).pr.getD k Px.zero).ne = wrap64 ((c.pr.getD k Px.zero).ne + (f.pc.getD k Pc.zero).pe) ∧
    ((wakeP f { c with pr := c.pr.set k (waitsX (c.pr.getD k Px.zero)) } now).pr.getD k Px.zero).du = (if 0 < (f.pc.getD k Pc.zero).li then wrap64 (now + (f.pc.getD k Pc.zero).li) else -1) ∧
    ((wakeP f { c with pr := c.pr.set k (waitsX (c.pr.getD k Px.zero)) } now).pr.getD k Px.zero).co = 0 := by
  obtain ⟨C, hC⟩ : ∃ C, { c with pr := c.pr.set k (waitsX (c.pr.getD k Px.zero)) } = C := ⟨_, rfl⟩
  have e : C.pr.getD k Px.zero = waitsX (c.pr.getD k Px.zero) := by rw [← hC]; exact getD_set_self hk _
  have hl : k < C.pr.length := by rw [← hC]; simpa using hk
  rw [hC]
  have ho : overX now (C.pr.getD k Px.zero) := by rw [e]; exact ⟨rfl, h0, h1⟩
  unfold wakeP
  rw [(wakeS_lt f C now C.pr.length k (Nat.le_refl _) hl).2 ho, e]
  obtain ⟨a1, a2, a3, a4, a5⟩ := wokenX_st f now k (waitsX (c.pr.getD k Px.zero)) (wakeS f C now k).nx
  obtain ⟨b1, b2⟩ := wokenX_rel (f := f) (now := now) (i := k) (x := waitsX (c.pr.getD k Px.zero)) (nx := (wakeS f C now k).nx) rfl hf
  exact ⟨a1, b1, b2, a5⟩
/-- Who is delayed waits till then, and not longer. -/
theorem delay_wakes {f : Pt} {c : Pa} {k : Nat} {u now : Int} (hk : k < c.pr.length) (hst : (c.pr.getD k Px.zero).st = 1) (hu : 0 ≤ u) :
    (now < u → ((wakeP f (blockP c (k : Int) 1 0 u 7) now).pr.getD k Px.zero).st = 2) ∧ (u ≤ now → ((wakeP f (blockP c (k : Int) 1 0 u 7) now).pr.getD k Px.zero).st = 1) := by
  obtain ⟨C, hC⟩ : ∃ C, blockP c (k : Int) 1 0 u 7 = C := ⟨_, rfl⟩
  have e := block_at (ki := 1) (ob := 0) (un := u) (ca := 7) hk hst
  rw [hC] at e ⊢
  have hl : k < C.pr.length := by rw [← hC, block_len]; exact hk
  unfold wakeP
  refine ⟨fun h => ?_, fun h => ?_⟩
  · rw [(wakeS_lt f C now C.pr.length k (Nat.le_refl _) hl).1 (by rw [e]; intro ho; have h2 := ho.2.2; simp only at h2; omega), e]
  · rw [(wakeS_lt f C now C.pr.length k (Nat.le_refl _) hl).2 (by rw [e]; exact ⟨rfl, hu, h⟩)]
    exact (wokenX_st _ _ _ _ _).1
/-- Who got another deadline is late from then on, and not ahead of it. -/
theorem repl_late {c : Pa} {k : Nat} {u now : Int} (hk : k < c.pr.length) (h0 : (c.pr.getD k Px.zero).st ≠ 0) (h2 : (c.pr.getD k Px.zero).st ≠ 2) (hu : 0 ≤ u) :
    (k ∈ lateL { c with pr := c.pr.set k { c.pr.getD k Px.zero with du := u } } now ↔ u ≤ now) := by
  rw [mem_lateL]
  simp only [List.length_set]
  rw [getD_set_self hk, lateX_iff]
  simp only
  constructor
  · rintro ⟨_, _, _, _, h⟩; exact h
  · exact fun h => ⟨hk, h0, fun hh => h2 hh.1, hu, h⟩
/-- Who has waited up to now goes on; the others stay as they are. -/
theorem goes_facts {f : Pt} {c : Pa} {now : Int} {j : Nat} (hj : j < c.pr.length) (h0 : -9223372036854775808 ≤ c.nx) (h1 : c.nx + c.pr.length ≤ 9223372036854775807) :
    (overX now (c.pr.getD j Px.zero) → ((wakeP f c now).pr.getD j Px.zero).st = 1 ∧ ((wakeP f c now).pr.getD j Px.zero).un = -1 ∧ ((wakeP f c now).pr.getD j Px.zero).pe = true ∧ c.nx ≤ ((wakeP f c now).pr.getD j Px.zero).si) ∧
    (¬ overX now (c.pr.getD j Px.zero) → (wakeP f c now).pr.getD j Px.zero = c.pr.getD j Px.zero) := by
  unfold wakeP
  refine ⟨fun h => ?_, fun h => (wakeS_lt f c now c.pr.length j (Nat.le_refl _) hj).1 h⟩
  rw [(wakeS_lt f c now c.pr.length j (Nat.le_refl _) hj).2 h]
  obtain ⟨a1, a2, a3, a4, a5⟩ := wokenX_st f now j (c.pr.getD j Px.zero) (wakeS f c now j).nx
  exact ⟨a1, a2, a3, by rw [a4]; exact (wakeS_nx f c now h0 h1 j (by omega)).1⟩
theorem wakeP_len (f : Pt) (c : Pa) (now : Int) : (wakeP f c now).pr.length = c.pr.length := wakeS_len f c now _
end Go.Proofs.Ytdanfnbclbiidaa
