/-
  Plain mathematics of a table's numbers: their bytes, and what bytes are.
-/
import Derived.WalkKit
namespace Go.Proofs.Ytfdoejdnhogepaa
open Go.RowKit
set_option linter.unusedVariables false

/-- The bytes of a number. -/
def encF : Nat → Nat → List Int
  | 0, n => [(n : Int)]
  | f + 1, n => if n < 128 then [(n : Int)] else ((n % 128 + 128 : Nat) : Int) :: encF f (n / 128)
def enc (n : Nat) : List Int := encF 6 n

theorem encF_step (f k : Nat) (h : 128 ≤ k) : encF (f + 1) k = ((k : Int) % 128 + 128) :: encF f (k / 128) := by
  rw [encF, if_neg (by omega)]; congr 1
theorem encF_last (f k : Nat) (h : k < 128) : encF f k = [(k : Int)] := by
  cases f <;> simp [encF, h]

theorem encF_len (f n : Nat) : 1 ≤ (encF f n).length ∧ (encF f n).length ≤ f + 1 := by
  induction f generalizing n with
  | zero => simp [encF]
  | succ f ih => unfold encF; split <;> simp; have := ih (n / 128); omega

/-- Is a number a table's? -/
def isT (n : Int) : Bool := decide (0 ≤ n) && decide (n ≤ 1099511627776)

def putB (n : Int) : List Int := if isT n then enc n.toNat else []
def putE (n : Int) : Int := if isT n then 0 else 1
/-- The bytes of all. -/
def encAll (l : List Int) : List Int := l.flatMap fun n => enc n.toNat
def allT (l : List Int) : Bool := l.all isT

/-- What bytes begin with: the number, how many bytes it has, the error. -/
def dec : List Int → Nat → Int → Int × Int × Int
  | [], _, _ => (0, 0, 3)
  | c :: r, i, n =>
    if c < 128 then (if (c = 0 ∧ 0 < i) ∨ 1099511627776 < n + c % 128 * 128 ^ i then (0, 0, 2) else (n + c % 128 * 128 ^ i, (i : Int) + 1, 0))
    else if i + 1 = 6 then (0, 0, 2) else dec r (i + 1) (n + c % 128 * 128 ^ i)
def get (l : List Int) : Int × Int × Int := dec l 0 0


/-- All but the last byte are 128 or more, the last one is less. -/
theorem encF_bytes (f n : Nat) (h : n < 128 ^ (f + 1)) : ∀ i, i < (encF f n).length → 0 ≤ (encF f n).getD i 0 ∧ (encF f n).getD i 0 < 256 ∧ ((encF f n).getD i 0 < 128 ↔ i + 1 = (encF f n).length) := by
  induction f generalizing n with
  | zero => intro i hi; simp [encF] at hi ⊢; subst hi; simp at h ⊢; omega
  | succ f ih =>
    have hp : 128 ^ (f + 1 + 1) = 128 ^ (f + 1) * 128 := Nat.pow_succ ..
    intro i hi
    by_cases hn : n < 128
    · simp [encF, hn] at hi ⊢; subst hi; simp; omega
    · rw [encF, if_neg hn] at hi ⊢
      cases i with
      | zero =>
        have := (encF_len f (n / 128)).1
        simp only [List.getD_cons_zero, List.length_cons]
        refine ⟨by omega, by omega, ?_⟩
        constructor <;> intro h <;> omega
      | succ i =>
        simp at hi ⊢
        have := ih (n / 128) (by omega) i hi
        simpa using this

theorem encF_size (f n : Nat) (h : n < 128 ^ (f + 1)) : n < 128 ^ (encF f n).length ∧ (1 < (encF f n).length → 128 ^ ((encF f n).length - 1) ≤ n) := by
  induction f generalizing n with
  | zero => simp [encF] at h ⊢; omega
  | succ f ih =>
    have hp : 128 ^ (f + 1 + 1) = 128 ^ (f + 1) * 128 := Nat.pow_succ ..
    by_cases hn : n < 128
    · simp [encF, hn]
    · rw [encF, if_neg hn, List.length_cons]
      obtain ⟨h1, h2⟩ := ih (n / 128) (by omega)
      have hl := (encF_len f (n / 128)).1
      generalize (encF f (n / 128)).length = L at *
      have hs : 128 ^ (L + 1) = 128 ^ L * 128 := Nat.pow_succ ..
      refine ⟨by omega, fun _ => ?_⟩
      simp only [Nat.add_sub_cancel]
      rcases Nat.eq_or_lt_of_le hl with h1 | h1
      · subst h1; simp; omega
      · have := h2 h1
        obtain ⟨m, rfl⟩ : ∃ m, L = m + 1 := ⟨L - 1, by omega⟩
        simp only [Nat.add_sub_cancel] at this
        rw [Nat.pow_succ]; omega

theorem enc_size (n : Nat) (h : n ≤ 1099511627776) : n < 128 ^ (enc n).length ∧ (1 < (enc n).length → 128 ^ ((enc n).length - 1) ≤ n) ∧ (enc n).length ≤ 6 ∧ 1 ≤ (enc n).length := by
  obtain ⟨h1, h2⟩ := encF_size 6 n (by omega)
  refine ⟨h1, h2, ?_, (encF_len 6 n).1⟩
  have hl := (encF_len 6 n).2
  rcases Nat.lt_or_ge (enc n).length 7 with h3 | h3
  · omega
  · have e : (encF 6 n).length = 7 := by have h4 : 7 ≤ (encF 6 n).length := h3; omega
    rw [e] at h2
    have := h2 (by omega)
    simp at this; omega

theorem enc_bytes (n : Nat) (h : n ≤ 1099511627776) : ∀ i, i < (enc n).length → 0 ≤ (enc n).getD i 0 ∧ (enc n).getD i 0 < 256 ∧ ((enc n).getD i 0 < 128 ↔ i + 1 = (enc n).length) :=
  encF_bytes 6 n (by omega)

/-- The least number of so many bytes. -/
def lst (k : Nat) : Int := if k ≤ 1 then 0 else ((128 ^ (k - 1) : Nat) : Int)
theorem lst_pow (k : Nat) (h : 1 ≤ k) (h2 : k ≤ 6) : wrap64 (2 ^ (7 * k)) = lst (k + 1) := by
  have : k = 1 ∨ k = 2 ∨ k = 3 ∨ k = 4 ∨ k = 5 ∨ k = 6 := by omega
  rcases this with rfl | rfl | rfl | rfl | rfl | rfl <;> simp [wrap64, lst]
theorem lst_lo (k n : Nat) (h : 1 < k → 128 ^ (k - 1) ≤ n) : lst k ≤ (n : Int) := by
  unfold lst; split
  · omega
  · have := h (by omega); exact Int.ofNat_le.2 this
theorem lst_hi (k n : Nat) (h1 : 1 ≤ k) (h : n < 128 ^ k) : (n : Int) < lst (k + 1) := by
  unfold lst; rw [if_neg (by omega)]; simpa using Int.ofNat_lt.2 h

/-- One digit more. -/
theorem digit_facts (k : Nat) (hk : k ≤ 5) (x m : Int) (h1 : 0 ≤ x) (h2 : x ≤ 255) (h3 : 0 ≤ m) (h4 : m < 128 ^ k) :
    ∃ s, wrap64 (x % 128 * 2 ^ (7 * k)) = s ∧ s = x % 128 * 128 ^ k ∧ 0 ≤ s ∧ m + s < 128 ^ (k + 1) ∧ m + s ≤ 4398046511104 ∧ s ≤ 4398046511104 := by
  have : k = 0 ∨ k = 1 ∨ k = 2 ∨ k = 3 ∨ k = 4 ∨ k = 5 := by omega
  refine ⟨x % 128 * 128 ^ k, ?_, rfl, ?_⟩
  · rcases this with rfl | rfl | rfl | rfl | rfl | rfl <;> (simp [wrap64]; omega)
  · rcases this with rfl | rfl | rfl | rfl | rfl | rfl <;> (simp at h4 ⊢; omega)

theorem digit_facts2 (k : Nat) (hk : k ≤ 5) (x m t : Int) (ht : t = 128 ^ k) (h3 : 0 ≤ m) (h4 : m < 128 ^ k) :
    ∃ s, wrap64 (x % 128 * t) = s ∧ s = x % 128 * 128 ^ k ∧ 0 ≤ s ∧ m + s < 128 ^ (k + 1) ∧ m + s ≤ 4398046511104 ∧ s ≤ 4398046511104 ∧ 0 < t ∧ t ≤ 4398046511104 ∧ t * 128 = 128 ^ (k + 1) := by
  have : k = 0 ∨ k = 1 ∨ k = 2 ∨ k = 3 ∨ k = 4 ∨ k = 5 := by omega
  subst ht
  refine ⟨x % 128 * 128 ^ k, ?_, rfl, ?_⟩
  · rcases this with rfl | rfl | rfl | rfl | rfl | rfl <;> (simp [wrap64]; omega)
  · rcases this with rfl | rfl | rfl | rfl | rfl | rfl <;> (simp at h4 ⊢; omega)

theorem dec_more (x : Int) (r : List Int) (k : Nat) (m : Int) (h : 128 ≤ x) : dec (x :: r) k m = if k + 1 = 6 then (0, 0, 2) else dec r (k + 1) (m + x % 128 * 128 ^ k) := by
  rw [dec, if_neg (by omega)]
theorem dec_last (x : Int) (r : List Int) (k : Nat) (m : Int) (h : x < 128) : dec (x :: r) k m = if (x = 0 ∧ 0 < k) ∨ 1099511627776 < m + x % 128 * 128 ^ k then (0, 0, 2) else (m + x % 128 * 128 ^ k, (k : Int) + 1, 0) := by
  rw [dec, if_pos h]

theorem dec_zero (l : List Int) (k : Nat) (m : Int) : ¬ (dec l k m).2.2 = 0 → (dec l k m).1 = 0 ∧ (dec l k m).2.1 = 0 := by
  induction l generalizing k m with
  | nil => simp [dec]
  | cons c r ih =>
    unfold dec
    split
    · split <;> simp
    · split
      · simp
      · exact ih _ _
theorem get_zero (l : List Int) (h : ¬ (get l).2.2 = 0) : (get l).1 = 0 ∧ (get l).2.1 = 0 := dec_zero l 0 0 h

theorem dec_ok (l : List Int) (k : Nat) (m : Int) : (dec l k m).2.2 = 0 → ∃ j : Nat, (dec l k m).2.1 = (k : Int) + j ∧ 1 ≤ j ∧ j ≤ l.length := by
  induction l generalizing k m with
  | nil => simp [dec]
  | cons c r ih =>
    unfold dec
    split
    · split
      · simp
      · intro _; exact ⟨1, by simp, by omega, by simp⟩
    · split
      · simp
      · intro h
        obtain ⟨j, h1, h2, h3⟩ := ih _ _ h
        exact ⟨j + 1, by rw [h1]; omega, by omega, by simp; omega⟩
theorem get_ok (l : List Int) (h : (get l).2.2 = 0) : ∃ j : Nat, (get l).2.1 = (j : Int) ∧ 1 ≤ j ∧ j ≤ l.length := by
  obtain ⟨j, h1, h2⟩ := dec_ok l 0 0 h
  exact ⟨j, by rw [get, h1]; omega, h2⟩

/-- All the numbers that bytes are, behind those that were found already. -/
def gaF : Nat → List Int → List Int → List Int × Int
  | 0, acc, _ => (acc, 0)
  | f + 1, acc, r => if r = [] then (acc, 0) else if (get r).2.2 = 0 then gaF f (acc ++ [(get r).1]) (r.drop (get r).2.1.toNat) else ([], (get r).2.2)
def ga (l : List Int) : List Int × Int := gaF l.length [] l

theorem gaF_nil (f : Nat) (acc : List Int) : gaF f acc [] = (acc, 0) := by cases f <;> simp [gaF]
theorem gaF_fuel (f g : Nat) (acc r : List Int) (hf : r.length ≤ f) (hg : r.length ≤ g) : gaF f acc r = gaF g acc r := by
  induction f generalizing g acc r with
  | zero =>
    have : r = [] := List.eq_nil_of_length_eq_zero (by omega)
    subst this; rw [gaF_nil, gaF_nil]
  | succ f ih =>
    cases g with
    | zero =>
      have : r = [] := List.eq_nil_of_length_eq_zero (by omega)
      subst this; rw [gaF_nil, gaF_nil]
    | succ g =>
      rw [gaF, gaF]
      split
      · rfl
      · split
        · rename_i h0 h1
          obtain ⟨j, h2, h3, h4⟩ := get_ok r h1
          refine ih _ _ _ ?_ ?_ <;> (rw [List.length_drop, h2]; omega)
        · rfl
theorem gaF_step (f : Nat) (acc r : List Int) (hr : 0 < r.length) (hf : r.length ≤ f + 1) (j : Nat) (he : (get r).2.2 = 0) (hj : (get r).2.1 = (j : Int)) : gaF (f + 1) acc r = gaF f (acc ++ [(get r).1]) (r.drop j) := by
  rw [gaF, if_neg (by intro h; subst h; simp at hr), if_pos he, hj]; rfl
theorem gaF_err (f : Nat) (acc r : List Int) (hr : 0 < r.length) (he : ¬ (get r).2.2 = 0) : gaF (f + 1) acc r = ([], (get r).2.2) := by
  rw [gaF, if_neg (by intro h; subst h; simp at hr), if_neg he]
end Go.Proofs.Ytfdoejdnhogepaa
