/-
  Plain mathematics of a table's numbers: what was put is got back; what is got is put as the same bytes.
-/
import Derived.Test.YtfdoejdnhogepaaWMath
import Derived.Test.YtfdoejdnhogepaaWPutAll
namespace Go.Proofs.Ytfdoejdnhogepaa
open Go.RowKit
set_option linter.unusedVariables false

theorem pow_split (n i : Nat) : ((n % 128 : Nat) : Int) * 128 ^ i + ((n / 128 : Nat) : Int) * 128 ^ (i + 1) = (n : Int) * 128 ^ i := by
  have h : ((n : Nat) : Int) = ((n % 128 : Nat) : Int) + 128 * ((n / 128 : Nat) : Int) := by omega
  rw [h, Int.pow_succ, Int.add_mul]
  congr 1
  rw [Int.mul_comm (128 ^ i) 128, ← Int.mul_assoc, Int.mul_comm _ (128 : Int)]
  

theorem dec_enc (f n i : Nat) (m : Int) (rest : List Int) (hn : n < 128 ^ (f + 1)) (hi : i + (encF f n).length ≤ 6) (hp : 0 < n ∨ i = 0) (hb : m + n * 128 ^ i ≤ 1099511627776) :
    dec (encF f n ++ rest) i m = (m + n * 128 ^ i, (i : Int) + (encF f n).length, 0) := by
  have last : ∀ n : Nat, n < 128 → (0 < n ∨ i = 0) → m + n * 128 ^ i ≤ 1099511627776 → dec ((n : Int) :: rest) i m = (m + n * 128 ^ i, (i : Int) + 1, 0) := by
    intro n h hp hb
    have e : (n : Int) % 128 = n := by omega
    rw [dec_last _ _ _ _ (by omega), e, if_neg]
    rintro (⟨h1, h2⟩ | h1)
    · omega
    · omega
  induction f generalizing n i m with
  | zero =>
    have hn' : n < 128 := by simpa using hn
    simpa [encF] using last n hn' hp hb
  | succ f ih =>
    by_cases h : n < 128
    · simpa [encF, h] using last n h hp hb
    · have hp2 : 128 ^ (f + 1 + 1) = 128 ^ (f + 1) * 128 := Nat.pow_succ ..
      have hl := (encF_len f (n / 128)).1
      rw [encF_step f n (by omega)] at hi ⊢
      simp only [List.length_cons] at hi
      have e : ((n : Int) % 128 + 128) % 128 = ((n % 128 : Nat) : Int) := by omega
      have hs := pow_split n i
      rw [List.cons_append, dec_more _ _ _ _ (by omega), e, if_neg (by omega)]
      have last2 : ∀ k : Nat, k < 128 → (0 < k ∨ i + 1 = 0) → m + ((n % 128 : Nat) : Int) * 128 ^ i + k * 128 ^ (i + 1) ≤ 1099511627776 → dec ((k : Int) :: rest) (i + 1) (m + ((n % 128 : Nat) : Int) * 128 ^ i) = (m + ((n % 128 : Nat) : Int) * 128 ^ i + k * 128 ^ (i + 1), ((i + 1 : Nat) : Int) + 1, 0) := by
        intro k h hp hb
        have e : (k : Int) % 128 = k := by omega
        rw [dec_last _ _ _ _ (by omega), e, if_neg]
        rintro (⟨h1, h2⟩ | h1)
        · omega
        · omega
      rw [ih (n / 128) (i + 1) _ (by omega) (by omega) (.inl (by omega)) (by omega) last2]
      simp only [List.length_cons]
      refine Prod.ext ?_ (Prod.ext ?_ rfl)
      · simp only; omega
      · simp only; omega

theorem get_enc (n : Nat) (rest : List Int) (h : n ≤ 1099511627776) : get (enc n ++ rest) = ((n : Int), ((enc n).length : Int), 0) := by
  have := dec_enc 6 n 0 0 rest (by omega) (by have := (enc_size n h).2.2.1; simpa [enc] using this) (.inr rfl) (by simp; omega)
  simpa [get, enc] using this

theorem isT_nat {n : Int} (h : isT n = true) : ((n.toNat : Nat) : Int) = n ∧ n.toNat ≤ 1099511627776 := by
  simp [isT] at h; omega

theorem gaF_enc (l acc : List Int) (f : Nat) (h : allT l = true) (hf : (encAll l).length ≤ f) : gaF f acc (encAll l) = (acc ++ l, 0) := by
  induction l generalizing acc f with
  | nil => simp [encAll, gaF_nil]
  | cons a l ih =>
    have e : encAll (a :: l) = enc a.toNat ++ encAll l := by simp [encAll]
    have ht : isT a = true ∧ allT l = true := by simpa [allT] using h
    obtain ⟨h1, h2⟩ := isT_nat ht.1
    have hl := (encF_len 6 a.toNat).1
    have hl' : 1 ≤ (enc a.toNat).length := hl
    rw [e, List.length_append] at hf
    rw [e]
    obtain ⟨g, rfl⟩ : ∃ g, f = g + 1 := ⟨f - 1, by omega⟩
    have hg := get_enc a.toNat (encAll l) h2
    rw [gaF_step g acc _ (by simp; omega) (by simp; omega) (enc a.toNat).length (by rw [hg]) (by rw [hg]), hg]
    rw [List.drop_left]
    rw [ih (acc ++ [((a.toNat : Nat) : Int)]) g ht.2 (by omega), h1]
    simp

theorem ga_enc (l : List Int) (h : allT l = true) : ga (encAll l) = (l, 0) := by
  rw [ga]; simpa using gaF_enc l [] _ h (Nat.le_refl _)

theorem dec_inv (l : List Int) (i : Nat) (m : Int) (hb : ∀ c ∈ l, 0 ≤ c ∧ c ≤ 255) (hi : i ≤ 5) (he : (dec l i m).2.2 = 0) :
    ∃ q j : Nat, 1 ≤ j ∧ j ≤ l.length ∧ i + j ≤ 6 ∧ dec l i m = (m + q * 128 ^ i, (i : Int) + j, 0) ∧ (∀ f, 6 ≤ f + i + 1 → encF f q = l.take j) ∧ (0 < i → 0 < q) ∧ m + q * 128 ^ i ≤ 1099511627776 ∧ dec (l.take (j - 1)) i m = (0, 0, 3) := by
  induction l generalizing i m with
  | nil => simp [dec] at he
  | cons c r ih =>
    obtain ⟨c1, c2⟩ := hb c (by simp)
    by_cases hc : c < 128
    · have e : c % 128 = c := by omega
      rw [dec_last _ _ _ _ hc, e] at he ⊢
      split at he
      · simp at he
      · rename_i hn
        have h2 : ((c.toNat : Nat) : Int) = c := by omega
        refine ⟨c.toNat, 1, by omega, by simp, by omega, ?_, ?_, ?_, ?_, rfl⟩
        · rw [if_neg hn, h2]; rfl
        · intro f hf; rw [encF_last _ _ (by omega), h2]; rfl
        · intro h0; omega
        · rw [h2]; omega
    · rw [dec_more _ _ _ _ (by omega)] at he ⊢
      by_cases h6 : i + 1 = 6
      · rw [if_pos h6] at he; simp at he
      · rw [if_neg h6] at he ⊢
        obtain ⟨q, j, h1, h2, h3, h4, h5, h7, h8, h9⟩ := ih (i + 1) _ (fun x hx => hb x (by simp [hx])) (by omega) he
        have hc' : ((c.toNat - 128 : Nat) : Int) = c % 128 := by omega
        have hsum : c % 128 * 128 ^ i + (q : Int) * 128 ^ (i + 1) = ((c.toNat - 128 + 128 * q : Nat) : Int) * 128 ^ i := by
          have := pow_split (c.toNat - 128 + 128 * q) i
          have e1 : (c.toNat - 128 + 128 * q) % 128 = c.toNat - 128 := by omega
          have e2 : (c.toNat - 128 + 128 * q) / 128 = q := by omega
          rw [e1, e2, hc'] at this
          exact this
        have hq := h7 (by omega)
        refine ⟨c.toNat - 128 + 128 * q, j + 1, by omega, by simp; omega, by omega, ?_, ?_, fun _ => by omega, ?_, ?_⟩
        · rw [h4]
          refine Prod.ext ?_ (Prod.ext ?_ rfl)
          · simp only; omega
          · simp only; omega
        · intro f hf
          obtain ⟨g, rfl⟩ : ∃ g, f = g + 1 := ⟨f - 1, by omega⟩
          rw [encF_step _ _ (by omega), List.take_succ_cons]
          have e2 : (c.toNat - 128 + 128 * q) / 128 = q := by omega
          have e3 : ((c.toNat - 128 + 128 * q : Nat) : Int) % 128 + 128 = c := by omega
          rw [e2, h5 g (by omega), e3]
        · omega
        · obtain ⟨j', rfl⟩ : ∃ j', j = j' + 1 := ⟨j - 1, by omega⟩
          simp only [Nat.add_sub_cancel] at h9 ⊢
          rw [List.take_succ_cons, dec_more _ _ _ _ (by omega), if_neg h6]
          exact h9

theorem get_inv (l : List Int) (hb : ∀ c ∈ l, 0 ≤ c ∧ c ≤ 255) (he : (get l).2.2 = 0) :
    ∃ q j : Nat, 1 ≤ j ∧ j ≤ l.length ∧ get l = ((q : Int), (j : Int), 0) ∧ enc q = l.take j ∧ q ≤ 1099511627776 ∧ get (l.take (j - 1)) = (0, 0, 3) := by
  obtain ⟨q, j, h1, h2, h3, h4, h5, h7, h8, h9⟩ := dec_inv l 0 0 hb (by omega) he
  refine ⟨q, j, h1, h2, ?_, h5 6 (by omega), by simp at h8; omega, h9⟩
  rw [get, h4]; simp
end Go.Proofs.Ytfdoejdnhogepaa
