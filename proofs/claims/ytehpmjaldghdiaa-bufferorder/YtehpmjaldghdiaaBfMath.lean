/-
  What is sent is taken in its order: what holds of a buffer that is not ranked, of what came in and what came out, behind each that is asked.
-/
import Derived.Test.YtehpmjaldghdiaaBfAll
import Derived.Test.YtehpmjaldghdiaaLBool
namespace Go.Proofs.Ytehpmjaldghdiaa
open Go.RowKit
set_option linter.unusedVariables false

/-- What holds of a buffer's depth, its values, who waits, of what came in and what came out. -/
structure Flow (D : Int) (xs : List Int) (T : List Wt) (I O : List Int) (n : Nat) : Prop where
  le : (xs.length : Int) ≤ D
  full : 0 < xs.length → 0 < T.length → ¬ (xs.length : Int) < D
  sum : I = O ++ xs ++ (if xs.length = 0 then [] else T.map Wt.v)
  li : I.length ≤ n
  lt : T.length ≤ n
theorem Flow.lo {D : Int} {xs : List Int} {T : List Wt} {I O : List Int} {n : Nat} (h : Flow D xs T I O n) : O.length ≤ n ∧ xs.length ≤ n ∧ O.length ≤ I.length := by
  have h1 := congrArg List.length h.sum
  have h2 := h.li
  simp only [List.length_append] at h1
  omega
theorem Flow.start (D : Int) (hD : 1 ≤ D) : Flow D [] [] [] [] 0 := ⟨by simp; omega, by simp, by simp, by simp, by simp⟩
theorem addP_no (l : List Wt) (y : Wt) : addP l y false = l ++ [y] := by
  unfold addP putP
  simp
theorem wait_len (l : List Wt) (y : Wt) (may : Bool) : (waitL l y false may).length ≤ l.length + 1 := by
  cases may
  · show l.length ≤ _; omega
  · show (addP l y false).length ≤ _; rw [addP_no]; simp
theorem getD_drop (xs : List Int) (h : xs.length ≠ 0) : [xs.getD 0 0] ++ xs.drop 1 = xs := by
  cases xs with
  | nil => simp at h
  | cons a t => simp
theorem getD_dropW (xs : List Wt) (h : xs.length ≠ 0) : [(xs.getD 0 Wt.zero).v] ++ (xs.drop 1).map Wt.v = xs.map Wt.v := by
  cases xs with
  | nil => simp at h
  | cons a t => simp
theorem nil_of (xs : List Int) (h : xs.length = 0) : xs = [] := List.eq_nil_of_length_eq_zero h
theorem nil_ofW (xs : List Wt) (h : xs.length = 0) : xs = [] := List.eq_nil_of_length_eq_zero h

/-- One takes, and nothing is there. -/
theorem Flow.takeNo {D : Int} {xs : List Int} {T : List Wt} {I O : List Int} {n : Nat} (h : Flow D xs T I O n) (y : Wt) (may : Bool) (h0 : xs.length = 0) : takeC xs may = waitC may ∧ Flow D (takeV xs T) (takeL false xs T y may) I O (n + 1) := by
  refine ⟨if_pos h0, ?_⟩
  rw [show takeV xs T = xs from if_pos h0, show takeL false xs T y may = waitL T y false may from if_pos h0]
  have hs := h.sum
  rw [if_pos h0] at hs
  exact ⟨h.le, fun h1 => by omega, by rw [if_pos h0]; exact hs, Nat.le_succ_of_le h.li, Nat.le_trans (wait_len T y may) (Nat.succ_le_succ h.lt)⟩
/-- One takes, and there is something. -/
theorem Flow.takeYes {D : Int} {xs : List Int} {T : List Wt} {I O : List Int} {n : Nat} (h : Flow D xs T I O n) (y : Wt) (may : Bool) (h0 : ¬ xs.length = 0) : takeC xs may = 0 ∧ Flow D (takeV xs T) (takeL false xs T y may) I (O ++ [takeX xs]) (n + 1) := by
  refine ⟨if_neg h0, ?_⟩
  rw [show takeX xs = xs.getD 0 0 from if_neg h0]
  have hs := h.sum
  rw [if_neg h0] at hs
  have hx := getD_drop xs h0
  have hl := congrArg List.length hx
  simp only [List.length_append, List.length_singleton] at hl
  have hi := h.li
  by_cases h1 : T.length = 0
  · rw [show takeV xs T = xs.drop 1 from (if_neg h0).trans (if_pos h1), show takeL false xs T y may = [] from (if_neg h0).trans (if_pos h1)]
    have hT := nil_ofW T h1
    subst hT
    have hle := h.le
    refine ⟨by omega, by simp, ?_, by omega, by simp⟩
    rw [hs]
    simp only [List.map_nil, ite_self, List.append_nil]
    rw [List.append_assoc, hx]
  · rw [show takeV xs T = xs.drop 1 ++ [(T.getD 0 Wt.zero).v] from (if_neg h0).trans (if_neg h1), show takeL false xs T y may = T.drop 1 from (if_neg h0).trans (if_neg h1)]
    have hT := getD_dropW T h1
    have hf := h.full (by omega) (by omega)
    have hle := h.le
    have hlt := h.lt
    have hll : (xs.drop 1 ++ [(T.getD 0 Wt.zero).v]).length = xs.length := by rw [List.length_append, List.length_singleton]; omega
    refine ⟨by rw [hll]; exact hle, fun _ _ => by rw [hll]; exact hf, ?_, by omega, by simp; omega⟩
    rw [if_neg (by rw [hll]; exact h0), hs, ← hT]
    simp only [List.append_assoc]
    rw [← List.append_assoc [xs.getD 0 0], hx]
/-- One sends, and is refused. -/
theorem Flow.sendNo {D : Int} {xs : List Int} {T : List Wt} {I O : List Int} {n : Nat} (h : Flow D xs T I O n) (y : Wt) (may : Bool) (hD : 1 ≤ D) (hc : sendC D xs T may = 2) : Flow D (sendV D xs T y.v) (sendL D false xs T y may) I (O ++ (sendW xs T y.v).map Wk.v) (n + 1) := by
  unfold sendC at hc
  by_cases h0 : xs.length = 0 ∧ 0 < T.length
  · rw [if_pos h0] at hc; omega
  · rw [if_neg h0] at hc
    by_cases h1 : (xs.length : Int) < D
    · rw [if_pos h1] at hc; omega
    · rw [if_neg h1] at hc
      have hm : may = false := by
        cases may
        · rfl
        · exact absurd hc (by unfold waitC; decide)
      subst hm
      rw [show sendV D xs T y.v = xs from (if_neg h0).trans (if_neg h1), show sendL D false xs T y false = T from (if_neg h0).trans (if_neg h1), show sendW xs T y.v = [] from if_neg h0]
      exact ⟨h.le, h.full, by simpa using h.sum, Nat.le_succ_of_le h.li, Nat.le_succ_of_le h.lt⟩
/-- One sends, and is not refused. -/
theorem Flow.sendYes {D : Int} {xs : List Int} {T : List Wt} {I O : List Int} {n : Nat} (h : Flow D xs T I O n) (y : Wt) (may : Bool) (hD : 1 ≤ D) (hc : ¬ sendC D xs T may = 2) : Flow D (sendV D xs T y.v) (sendL D false xs T y may) (I ++ [y.v]) (O ++ (sendW xs T y.v).map Wk.v) (n + 1) := by
  have hs := h.sum
  have hli := h.li
  have hlt := h.lt
  have hle := h.le
  unfold sendC at hc
  by_cases h0 : xs.length = 0 ∧ 0 < T.length
  · rw [show sendV D xs T y.v = [] from if_pos h0, show sendL D false xs T y may = T.drop 1 from if_pos h0, show sendW xs T y.v = [⟨(T.getD 0 Wt.zero).p, 0, y.v⟩] from if_pos h0]
    have hx := nil_of xs h0.1
    subst hx
    refine ⟨by simp; omega, by simp, ?_, by simp; omega, by simp; omega⟩
    rw [hs]
    simp
  · rw [if_neg h0] at hc
    by_cases h1 : (xs.length : Int) < D
    · rw [show sendV D xs T y.v = xs ++ [y.v] from (if_neg h0).trans (if_pos h1), show sendL D false xs T y may = T from (if_neg h0).trans (if_pos h1), show sendW xs T y.v = [] from if_neg h0]
      have hT : T = [] := by
        refine nil_ofW T ?_
        by_cases hx : xs.length = 0
        · omega
        · have := h.full (by omega)
          by_cases hq : 0 < T.length
          · exact absurd h1 (this hq)
          · omega
      subst hT
      refine ⟨by simp; omega, by simp, ?_, by simp; omega, by simp⟩
      rw [hs]
      simp
    · rw [if_neg h1] at hc
      have hm : may = true := by
        cases may
        · exact absurd rfl hc
        · rfl
      subst hm
      rw [show sendV D xs T y.v = xs from (if_neg h0).trans (if_neg h1), show sendL D false xs T y true = T ++ [y] from ((if_neg h0).trans (if_neg h1)).trans (addP_no T y), show sendW xs T y.v = [] from if_neg h0]
      have hx : ¬ xs.length = 0 := by omega
      refine ⟨hle, fun _ _ => h1, ?_, by simp; omega, by simp; omega⟩
      rw [if_neg hx]
      rw [if_neg hx] at hs
      rw [hs]
      simp
theorem sendW_len (xs : List Int) (T : List Wt) (v : Int) : (sendW xs T v).length ≤ 1 := by
  unfold sendW
  split <;> simp
/-- What came out is what came in, in its order. -/
theorem Flow.ends {D : Int} {xs : List Int} {T : List Wt} {I O : List Int} {n : Nat} (h : Flow D xs T I O n) : O.length ≤ I.length ∧ ∀ i, i < O.length → O.getD i 0 = I.getD i 0 := by
  refine ⟨h.lo.2.2, fun i hi => ?_⟩
  rw [h.sum, List.append_assoc]
  simp [List.getD, List.getElem?_append_left hi]

/-- Append onto a list of integers of the call's own, and where what it returns lies. -/
theorem app_at {w : World} {ops : Array Oper} {rest : List Oper} {o : Oper} {a : Act} {Q : Exit → Act → World → Prop} (hgd : o.guard = none) (s x : Operand)
    (ho : o.op = .call { callee := .builtin .append, args := #[s, x], argTypes := #[22, 22] })
    (base : Nat) (v : Value) (L : List Int) (hs : a.eval s = v) (hown : OI w base v L) (y : Value) (ys : List Int) (hx : a.eval x = y) (hsee : Sees w .i64 y ys) (hlen : L.length + ys.length ≤ 1000000) (hbase : base ≤ w.heap.size)
    (h : ∀ v' w', OI w' base v' (L ++ ys) → w.grownBy w' v.ownBlock → Below base w w' → (∀ b, v'.ownBlock = some b → v.ownBlock = some b ∨ w.heap.size ≤ b) → wpList Try.prog ops Q rest (a.put o.dst v') w') : wpList Try.prog ops Q (o :: rest) a w := by
  obtain ⟨i0, hi, hz0, hz1, hz2⟩ := info_parts Try.infoOI
  refine wpList_append_at hgd s x 22 ho base 3 i0 _ 8 Try.underlying22 hi hz0 hz1 hz2 rfl .i64 v L.length _ hs hown y ys hx hsee (by unfold maxLen; omega) (by omega) hbase (fun v' w' h1 h2 h3 => h v' w' ?_ h2 ((Below.refl _ _).grown h2 hbase (fun k hk => (hown.lt k hk).1)) h3)
  unfold OI
  simpa using h1
theorem OI.kept {w w' : World} {base : Nat} {v u : Value} {l : List Int} (h : OI w base v l) (ha : Apart v u) (hg : w.grownBy w' u.ownBlock) : OI w' base v l :=
  World.ownsRow.kept h hg (by
    rcases h.2 with ⟨rfl, _⟩ | ⟨b, cap, cur, rfl, _, hh, _⟩
    · exact .inl rfl
    · exact .inr (fun e => ha b rfl e.symm))
end Go.Proofs.Ytehpmjaldghdiaa
