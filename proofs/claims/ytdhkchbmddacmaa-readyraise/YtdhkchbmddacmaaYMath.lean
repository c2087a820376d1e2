/-
  Who could run, in which order: lists alone, no world.
-/
import Derived.Test.YtdhkchbmddacmaaPReg
import Derived.Lib.Small
namespace Go.Proofs.Ytdhkchbmddacmaa
open Go.RowKit
set_option linter.unusedVariables false

/-- A process could run, but for its mode. -/
def canP (p : Px) : Bool := decide (p.st = 1) && !p.su
/-- The first of how many may run in a mode. -/
def modeN (mode : Int) (n : Nat) : Nat := if mode = 1 then min 1 n else if mode = 2 then n else 0
def canAt (l : List Px) (i : Nat) : Bool := canP (l.getD i Px.zero)
/-- The numbers of those that could run. -/
def idxS (l : List Px) (mode : Int) : List Nat := (List.range (modeN mode l.length)).filter (canAt l)

/-- Process i goes ahead of process j. -/
def aheadN (l : List Px) (i j : Nat) : Bool :=
  decide ((l.getD j Px.zero).pr < (l.getD i Px.zero).pr ∨ ((l.getD i Px.zero).pr = (l.getD j Px.zero).pr ∧ ((l.getD i Px.zero).si < (l.getD j Px.zero).si ∨ ((l.getD i Px.zero).si = (l.getD j Px.zero).si ∧ i < j))))

theorem ahead_iff (l : List Px) (i j : Nat) : aheadN l i j = true ↔ ((l.getD j Px.zero).pr < (l.getD i Px.zero).pr ∨ ((l.getD i Px.zero).pr = (l.getD j Px.zero).pr ∧ ((l.getD i Px.zero).si < (l.getD j Px.zero).si ∨ ((l.getD i Px.zero).si = (l.getD j Px.zero).si ∧ i < j)))) := by
  unfold aheadN; simp only [decide_eq_true_iff]
theorem ahead_irrefl (l : List Px) (i : Nat) : aheadN l i i = false := by
  cases h : aheadN l i i with
  | false => rfl
  | true => rw [ahead_iff] at h; omega
theorem ahead_asymm (l : List Px) (i j : Nat) (h : aheadN l i j = true) : aheadN l j i = false := by
  cases h' : aheadN l j i with
  | false => rfl
  | true => rw [ahead_iff] at h h'; omega
theorem ahead_trans (l : List Px) (i j k : Nat) (h1 : aheadN l i j = true) (h2 : aheadN l j k = true) : aheadN l i k = true := by
  rw [ahead_iff] at *; omega
theorem ahead_total (l : List Px) (i j : Nat) (h : i ≠ j) : aheadN l i j = true ∨ aheadN l j i = true := by
  rw [ahead_iff, ahead_iff]; omega

/-- The order. -/
def orderS (l : List Px) (mode : Int) : List Nat := (idxS l mode).mergeSort (fun i j => !aheadN l j i)
def pickS (l : List Px) (mode : Int) : Int := match orderS l mode with | [] => -1 | i :: _ => (i : Int)

theorem mem_idx (l : List Px) (mode : Int) (i : Nat) : i ∈ idxS l mode ↔ i < modeN mode l.length ∧ canAt l i = true := by
  unfold idxS; simp [List.mem_filter]
theorem idx_nodup (l : List Px) (mode : Int) : (idxS l mode).Nodup := List.Pairwise.filter _ List.nodup_range
theorem idx_lt (l : List Px) (mode : Int) (i : Nat) (h : i ∈ idxS l mode) : i < l.length := by
  have := ((mem_idx l mode i).1 h).1
  unfold modeN at this
  split at this
  · omega
  · split at this <;> omega

theorem order_perm (l : List Px) (mode : Int) : (orderS l mode).Perm (idxS l mode) := List.mergeSort_perm _ _
theorem mem_order (l : List Px) (mode : Int) (i : Nat) : i ∈ orderS l mode ↔ i < modeN mode l.length ∧ canAt l i = true := by
  rw [(order_perm l mode).mem_iff]; exact mem_idx l mode i
theorem order_nodup (l : List Px) (mode : Int) : (orderS l mode).Nodup := (order_perm l mode).nodup_iff.2 (idx_nodup l mode)
theorem order_len (l : List Px) (mode : Int) : (orderS l mode).length = (idxS l mode).length := (order_perm l mode).length_eq
theorem idx_len (l : List Px) (mode : Int) : (idxS l mode).length ≤ l.length := by
  unfold idxS
  refine Nat.le_trans (List.length_filter_le _ _) ?_
  rw [List.length_range]
  unfold modeN
  split
  · omega
  · split <;> omega
theorem order_le (l : List Px) (mode : Int) : (orderS l mode).length ≤ l.length := by rw [order_len]; exact idx_len l mode
theorem order_lt (l : List Px) (mode : Int) (i : Nat) (h : i ∈ orderS l mode) : i < l.length := idx_lt l mode i ((order_perm l mode).mem_iff.1 h)

/-- It stands in order. -/
theorem order_sorted (l : List Px) (mode : Int) : (orderS l mode).Pairwise (fun i j => aheadN l i j = true) := by
  have h1 : (orderS l mode).Pairwise (fun i j => (!aheadN l j i) = true) := by
    apply List.pairwise_mergeSort
    · intro a b c h1 h2
      simp only [Bool.not_eq_eq_eq_not, Bool.not_true] at *
      by_cases hab : a = b
      · subst hab; exact h2
      · by_cases hbc : b = c
        · subst hbc; exact h1
        · have h3 := (ahead_total l a b hab).resolve_right (by rw [h1]; simp)
          have h4 := (ahead_total l b c hbc).resolve_right (by rw [h2]; simp)
          exact ahead_asymm l a c (ahead_trans l a b c h3 h4)
    · intro a b
      by_cases hab : a = b
      · subst hab; simp [ahead_irrefl]
      · rcases ahead_total l a b hab with h | h
        · simp [ahead_asymm l a b h]
        · simp [ahead_asymm l b a h]
  have h2 := order_nodup l mode
  refine List.Pairwise.imp₂ (fun a b h3 h4 => ?_) h1 h2
  exact (ahead_total l a b h4).resolve_right (by simpa using h3)

/-- Two lists in one order that hold the same are the same. -/
theorem order_unique {R : Nat → Nat → Bool} (hasymm : ∀ i j, R i j = true → R j i = false) (A B : List Nat) (hA : A.Pairwise (fun i j => R i j = true)) (hB : B.Pairwise (fun i j => R i j = true)) (h : ∀ i, i ∈ A ↔ i ∈ B) : A = B := by
  induction A generalizing B with
  | nil =>
    cases B with
    | nil => rfl
    | cons b B => exact absurd ((h b).2 (by simp)) (by simp)
  | cons a A ih =>
    cases B with
    | nil => exact absurd ((h a).1 (by simp)) (by simp)
    | cons b B =>
      rw [List.pairwise_cons] at hA hB
      have hself : ∀ i, R i i = false := fun i => by
        cases e : R i i with
        | false => rfl
        | true => have := hasymm i i e; rw [e] at this; cases this
      have hab : a = b := by
        rcases List.mem_cons.1 ((h a).1 (by simp)) with e | e
        · exact e
        rcases List.mem_cons.1 ((h b).2 (by simp)) with e' | e'
        · exact e'.symm
        have h1 := hB.1 a e
        have h2 := hA.1 b e'
        rw [hasymm a b h2] at h1
        cases h1
      subst hab
      congr 1
      refine ih B hA.2 hB.2 fun i => ?_
      have := h i
      simp only [List.mem_cons] at this
      constructor
      · intro hi
        rcases this.1 (.inr hi) with e | e
        · subst e; have := hA.1 i hi; rw [hself] at this; cases this
        · exact e
      · intro hi
        rcases this.2 (.inr hi) with e | e
        · subst e; have := hB.1 i hi; rw [hself] at this; cases this
        · exact e

/-- What the order is, by what it holds. -/
theorem order_eq (l : List Px) (mode : Int) (A : List Nat) (hA : A.Pairwise (fun i j => aheadN l i j = true)) (h : ∀ i, i ∈ A ↔ i < modeN mode l.length ∧ canAt l i = true) : A = orderS l mode :=
  order_unique (ahead_asymm l) A (orderS l mode) hA (order_sorted l mode) fun i => by rw [h, mem_order]

/-- The comparison that the sort is given. -/
def cfN (l : List Px) (i j : Nat) : Int :=
  if Lib.compareInt (l.getD j Px.zero).pr (l.getD i Px.zero).pr ≠ 0 then Lib.compareInt (l.getD j Px.zero).pr (l.getD i Px.zero).pr
  else if Lib.compareInt (l.getD i Px.zero).si (l.getD j Px.zero).si ≠ 0 then Lib.compareInt (l.getD i Px.zero).si (l.getD j Px.zero).si
  else Lib.compareInt (i : Int) (j : Int)

theorem cmp_cases (x y : Int) : (x < y ∧ Lib.compareInt x y = -1) ∨ (x = y ∧ Lib.compareInt x y = 0) ∨ (y < x ∧ Lib.compareInt x y = 1) := by
  unfold Lib.compareInt
  rcases Int.lt_trichotomy x y with h | h | h
  · left; exact ⟨h, by rw [if_pos h]⟩
  · right; left; exact ⟨h, by rw [if_neg (by omega), if_neg (by omega)]⟩
  · right; right; exact ⟨h, by rw [if_neg (by omega), if_pos h]⟩
theorem cf_ahead (l : List Px) (i j : Nat) : decide (cfN l i j < 0) = aheadN l i j := by
  rw [Bool.eq_iff_iff, ahead_iff, decide_eq_true_iff]
  unfold cfN
  generalize (l.getD j Px.zero).pr = a
  generalize (l.getD i Px.zero).pr = b
  generalize (l.getD j Px.zero).si = c
  generalize (l.getD i Px.zero).si = d
  rcases cmp_cases a b with ⟨h1, e1⟩ | ⟨h1, e1⟩ | ⟨h1, e1⟩
  · rw [e1, if_pos (by decide)]; omega
  · rw [e1, if_neg (by decide)]
    rcases cmp_cases d c with ⟨h2, e2⟩ | ⟨h2, e2⟩ | ⟨h2, e2⟩
    · rw [e2, if_pos (by decide)]; omega
    · rw [e2, if_neg (by decide)]
      rcases cmp_cases (i : Int) (j : Int) with ⟨h3, e3⟩ | ⟨h3, e3⟩ | ⟨h3, e3⟩ <;> rw [e3] <;> omega
    · rw [e2, if_pos (by decide)]; omega
  · rw [e1, if_pos (by decide)]; omega
end Go.Proofs.Ytdhkchbmddacmaa
