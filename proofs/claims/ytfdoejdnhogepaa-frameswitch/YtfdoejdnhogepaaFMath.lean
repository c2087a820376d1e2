/-
  What follows of a configuration that may be for the ticks of a frame (no program in it).
-/
import Derived.Test.YtfdoejdnhogepaaFAwake
import Derived.Test.YtfdoejdnhogepaaTMay
namespace Go.Proofs.Ytfdoejdnhogepaa
open Go.RowKit
set_option linter.unusedVariables false

/-- A place is within a window. -/
def holdsW (pl : Int) (v : Wn) : Prop := v.st ≤ pl ∧ pl < v.st + v.ln

theorem order_low : ∀ (l : List Wn) (f : Int), orderF f l = true → (∀ v ∈ l, 0 ≤ v.st ∧ 1 ≤ v.ln) → ∀ j, j < l.length → f ≤ (l.getD j Wn.zero).st := by
  intro l
  induction l with
  | nil => intro f _ _ j hj; simp at hj
  | cons v l ih =>
    intro f ho hv j hj
    rw [orderF] at ho
    split at ho
    · simp at ho
    · rename_i hs
      cases j with
      | zero => simp [List.getD]; omega
      | succ j =>
        have h1 := ih _ ho (fun x hx => hv x (by simp [hx])) j (by simpa using hj)
        have h2 := hv v (by simp)
        simp [List.getD] at h1 ⊢
        omega

theorem find_hit (sw pl : Int) : ∀ (l : List Wn) (k : Nat) (f : Int), orderF f l = true → (∀ v ∈ l, 0 ≤ v.st ∧ 1 ≤ v.ln) → ∀ i, i < l.length → holdsW pl (l.getD i Wn.zero) →
    findW sw pl k l = ⟨((k + i : Nat) : Int), pl - (l.getD i Wn.zero).st, decide (sw ≤ pl - (l.getD i Wn.zero).st)⟩ := by
  intro l
  induction l with
  | nil => intro k f _ _ i hi; simp at hi
  | cons v l ih =>
    intro k f ho hv i hi hh
    rw [orderF] at ho
    split at ho
    · simp at ho
    · rename_i hs
      have hv0 := hv v (by simp)
      cases i with
      | zero =>
        simp only [List.getD_cons_zero, holdsW] at hh ⊢
        rw [findW, if_neg (by omega), if_pos (by omega)]
        simp
      | succ i =>
        simp only [List.getD_cons_succ] at hh ⊢
        have hi' : i < l.length := by simpa using hi
        have hlow := order_low l _ ho (fun x hx => hv x (by simp [hx])) i hi'
        have h1 := hh.1
        rw [findW, if_neg (by omega), if_neg (by omega), ih (k + 1) _ ho (fun x hx => hv x (by simp [hx])) i hi' hh]
        rw [show k + 1 + i = k + (i + 1) by omega]

theorem find_back (sw pl : Int) : ∀ (l : List Wn) (k : Nat), (∀ v ∈ l, 0 ≤ v.st) → (findW sw pl k l).wi ≠ -1 → ∃ i, i < l.length ∧ (findW sw pl k l).wi = ((k + i : Nat) : Int) ∧ holdsW pl (l.getD i Wn.zero) := by
  intro l
  induction l with
  | nil => intro k _ h; exact absurd rfl h
  | cons v l ih =>
    intro k hv h
    have hv0 := hv v (by simp)
    rw [findW] at h ⊢
    split at h
    · rename_i h1
      rw [if_pos h1]
      obtain ⟨i, hi, h2, h3⟩ := ih (k + 1) (fun x hx => hv x (by simp [hx])) h
      exact ⟨i + 1, by simpa using hi, by rw [h2]; congr 1; omega, by simpa using h3⟩
    · rename_i h1
      rw [if_neg h1]
      split at h
      · rename_i h2
        rw [if_pos h2]
        exact ⟨0, by simp, by simp, by simp [List.getD, holdsW]; omega⟩
      · rename_i h2
        rw [if_neg h2]
        obtain ⟨i, hi, h3, h4⟩ := ih (k + 1) (fun x hx => hv x (by simp [hx])) h
        exact ⟨i + 1, by simpa using hi, by rw [h3]; congr 1; omega, by simpa using h4⟩

theorem find_no (sw pl : Int) : ∀ (l : List Wn) (k : Nat), (findW sw pl k l).wi = -1 → findW sw pl k l = Slt.no := by
  intro l
  induction l with
  | nil => intro k _; rfl
  | cons v l ih =>
    intro k h
    rw [findW] at h ⊢
    split at h
    · rename_i h1; rw [if_pos h1]; exact ih _ h
    · rename_i h1
      rw [if_neg h1]
      split at h
      · simp only at h; omega
      · rename_i h2; rw [if_neg h2]; exact ih _ h

/-- What is said of the windows of a configuration that may be. -/
structure Fine (fr sw : Int) (np : Nat) (l : List Wn) : Prop where
  fr1 : 1 ≤ fr
  fr2 : fr ≤ 4096
  sw1 : 0 ≤ sw
  sw2 : sw ≤ fr
  len : l.length ≤ 12
  win : ∀ v ∈ l, 0 ≤ v.st ∧ 1 ≤ v.ln ∧ v.st + v.ln ≤ fr ∧ 0 ≤ v.p ∧ v.p < np
  ord : orderF 0 l = true

theorem Fine.of {c : Cf} (h : mayC c = true) : Fine c.fr c.sw c.pa.length c.wi ∧ c.pa.length ≤ 4 := by
  unfold mayC at h
  simp only [Bool.and_eq_true] at h
  obtain ⟨⟨⟨⟨⟨⟨⟨h1, h2⟩, h3⟩, h4⟩, h5⟩, h6⟩, h7⟩, h8⟩ := h
  simp only [inB, decide_eq_true_eq] at h1 h2
  obtain ⟨h3a, _⟩ := h3
  obtain ⟨h5a, h5b⟩ := h5
  simp only [inB, decide_eq_true_eq] at h3a h5a
  refine ⟨⟨h1.1, h1.2, h2.1, h2.2, by omega, fun v hv => ?_, h6⟩, by omega⟩
  obtain ⟨i, hi, rfl⟩ := mem_getD (d := Wn.zero) hv
  have := (allN_iff _ _).1 h5b i hi
  simp only [winB, inB, Bool.and_eq_true, decide_eq_true_eq] at this
  omega

theorem Fine.pos {fr sw : Int} {np : Nat} {l : List Wn} (h : Fine fr sw np l) : ∀ v ∈ l, 0 ≤ v.st ∧ 1 ≤ v.ln := fun v hv => ⟨(h.win v hv).1, (h.win v hv).2.1⟩

/-- A tick is in window i just if At says so. -/
theorem Fine.at_iff {fr sw : Int} {np : Nat} {l : List Wn} (h : Fine fr sw np l) (t : Int) (ht : 0 ≤ t) (i : Nat) (hi : i < l.length) : holdsW (t % fr) (l.getD i Wn.zero) ↔ (atS fr sw l t).wi = i := by
  have h1 := h.fr1
  unfold atS
  rw [if_neg (by omega)]
  constructor
  · intro hh
    rw [find_hit sw _ l 0 0 h.ord h.pos i hi hh]
    simp
  · intro hw
    obtain ⟨j, hj, h2, h3⟩ := find_back sw (t % fr) l 0 (fun v hv => (h.win v hv).1) (by rw [hw]; omega)
    rw [hw] at h2
    have : i = j := by omega
    subst this
    exact h3
theorem Fine.at_hit {fr sw : Int} {np : Nat} {l : List Wn} (h : Fine fr sw np l) (t : Int) (ht : 0 ≤ t) (i : Nat) (hi : i < l.length) (hh : holdsW (t % fr) (l.getD i Wn.zero)) :
    atS fr sw l t = ⟨i, t % fr - (l.getD i Wn.zero).st, decide (sw ≤ t % fr - (l.getD i Wn.zero).st)⟩ := by
  have h1 := h.fr1
  unfold atS
  rw [if_neg (by omega), find_hit sw _ l 0 0 h.ord h.pos i hi hh]
  simp
theorem at_no (fr sw : Int) (l : List Wn) (t : Int) (h : (atS fr sw l t).wi = -1) : atS fr sw l t = Slt.no := by
  unfold atS at h ⊢
  split at h
  · rename_i h1; rw [if_pos h1]
  · rename_i h1; rw [if_neg h1]; exact find_no _ _ _ _ h

/-- Sums. -/
def sumZ (f : Nat → Int) : Nat → Int
  | 0 => 0
  | n + 1 => sumZ f n + f n
theorem sumZ_congr {f g : Nat → Int} : ∀ n, (∀ k, k < n → f k = g k) → sumZ f n = sumZ g n
  | 0, _ => rfl
  | n + 1, h => by rw [sumZ, sumZ, sumZ_congr n (fun k hk => h k (by omega)), h n (by omega)]
theorem sumZ_zero (n : Nat) : sumZ (fun _ => 0) n = 0 := by
  induction n with
  | zero => rfl
  | succ n ih => rw [sumZ, ih]; rfl
theorem sumZ_add (f g : Nat → Int) (n : Nat) : sumZ (fun k => f k + g k) n = sumZ f n + sumZ g n := by
  induction n with
  | zero => rfl
  | succ n ih => rw [sumZ, sumZ, sumZ, ih]; omega
theorem sumZ_swap (g : Nat → Nat → Int) (N P : Nat) : sumZ (fun p => sumZ (fun n => g p n) N) P = sumZ (fun n => sumZ (fun p => g p n) P) N := by
  induction P with
  | zero => simp only [sumZ]; rw [sumZ_zero]
  | succ P ih => simp only [sumZ]; rw [ih, ← sumZ_add]
theorem sumZ_one (q : Nat) (b : Bool) : ∀ n, sumZ (fun k => if (k : Int) = q ∧ b = true then 1 else 0) n = if q < n ∧ b = true then 1 else 0
  | 0 => by simp [sumZ]
  | n + 1 => by
    rw [sumZ, sumZ_one q b n]
    cases b
    · simp
    · by_cases h1 : q < n
      · rw [if_pos ⟨h1, rfl⟩, if_neg (by omega), if_pos ⟨by omega, rfl⟩]; rfl
      · by_cases h2 : n = q
        · subst h2; rw [if_neg (by omega), if_pos ⟨rfl, rfl⟩, if_pos ⟨by omega, rfl⟩]; rfl
        · rw [if_neg (by omega), if_neg (by omega), if_neg (by omega)]; rfl
theorem sumZ_span (a b : Int) (ha : 0 ≤ a) (n : Nat) : sumZ (fun k => if a ≤ (k : Int) ∧ (k : Int) < b then 1 else 0) n = if a < min b n then min b n - a else 0 := by
  induction n with
  | zero => simp only [sumZ]; split <;> omega
  | succ n ih =>
    rw [sumZ, ih]
    split <;> split <;> split <;> omega
theorem cntN_sum (b : Nat → Bool) (n : Nat) : (cntN b n : Int) = sumZ (fun k => if b k = true then 1 else 0) n := by
  induction n with
  | zero => rfl
  | succ n ih => rw [cntN, sumZ, ← ih]; push_cast; split <;> rfl
theorem cntN_mono (b b' : Nat → Bool) (h : ∀ k, b k = true → b' k = true) (n : Nat) : cntN b n ≤ cntN b' n := by
  induction n with
  | zero => simp [cntN]
  | succ n ih =>
    rw [cntN, cntN]
    rcases hb : b n
    · split <;> split <;> simp_all <;> omega
    · rw [h n hb]; simp; omega

/-- What a window has of ticks that run. -/
def gainW (sw : Int) (v : Wn) : Int := if sw < v.ln then v.ln - sw else 0

theorem ru_wi {fr sw : Int} {l : List Wn} {t : Int} (h : (atS fr sw l t).ru = true) : (atS fr sw l t).wi ≠ -1 := by
  intro hw
  rw [at_no fr sw l t hw] at h
  simp [Slt.no] at h

theorem Fine.runs_parts {fr sw : Int} {np : Nat} {l : List Wn} (h : Fine fr sw np l) (n : Nat) : sumZ (fun p => if runB fr sw l (p : Int) (n : Int) = true then 1 else 0) np = if (atS fr sw l n).ru = true then 1 else 0 := by
  rcases hr : (atS fr sw l n).ru
  · rw [if_neg (by simp), sumZ_congr (g := fun _ => 0) np (fun p hp => by simp [runB, hr]), sumZ_zero]
  · rw [if_pos rfl]
    have hw := ru_wi hr
    rcases atS_wi fr sw l n with h1 | h1
    · exact absurd h1 hw
    obtain ⟨i, hi⟩ : ∃ i : Nat, (atS fr sw l n).wi = i := ⟨(atS fr sw l n).wi.toNat, by omega⟩
    have hil : i < l.length := by omega
    have hm := h.win _ (getD_mem (d := Wn.zero) hil)
    obtain ⟨q, hq⟩ : ∃ q : Nat, (l.getD i Wn.zero).p = q := ⟨(l.getD i Wn.zero).p.toNat, by omega⟩
    rw [sumZ_congr (g := fun k => if (k : Int) = q ∧ true = true then 1 else 0) np (fun p hp => ?_), sumZ_one q true np, if_pos ⟨by omega, rfl⟩]
    simp only [runB, hr, ofB, hi, Int.toNat_natCast, hq, Bool.true_and, Bool.and_eq_true, decide_eq_true_eq]
    by_cases hpq : (p : Int) = q
    · rw [if_pos ⟨by omega, hpq.symm⟩, if_pos ⟨hpq, trivial⟩]
    · rw [if_neg (fun hh => hpq hh.2.symm), if_neg (fun hh => hpq hh.1)]

theorem Fine.runs_wins {fr sw : Int} {np : Nat} {l : List Wn} (h : Fine fr sw np l) (n : Nat) (hn : (n : Int) < fr) :
    (if (atS fr sw l n).ru = true then (1 : Int) else 0) = sumZ (fun i => if (l.getD i Wn.zero).st + sw ≤ (n : Int) ∧ (n : Int) < (l.getD i Wn.zero).st + (l.getD i Wn.zero).ln then 1 else 0) l.length := by
  have hmod : (n : Int) % fr = n := Int.emod_eq_of_lt (by omega) hn
  have hsw := h.sw1
  have key : ∀ i, i < l.length → ((l.getD i Wn.zero).st + sw ≤ (n : Int) ∧ (n : Int) < (l.getD i Wn.zero).st + (l.getD i Wn.zero).ln ↔ (i : Int) = (atS fr sw l n).wi ∧ (atS fr sw l n).ru = true) := by
    intro i hi
    constructor
    · intro hh
      have hk : holdsW ((n : Int) % fr) (l.getD i Wn.zero) := by rw [hmod]; simp only [holdsW]; omega
      have ha := h.at_hit n (by omega) i hi hk
      rw [ha, hmod]
      exact ⟨rfl, by rw [decide_eq_true_eq]; omega⟩
    · intro hh
      have hk := (h.at_iff n (by omega) i hi).2 hh.1.symm
      have ha := h.at_hit n (by omega) i hi hk
      have hr := hh.2
      rw [ha, hmod] at hr
      rw [hmod] at hk
      simp only [decide_eq_true_eq] at hr
      simp only [holdsW] at hk
      omega
  rcases hr : (atS fr sw l n).ru
  · rw [if_neg (by simp), sumZ_congr (g := fun _ => 0) _ (fun i hi => by rw [if_neg (by rw [key i hi, hr]; simp)]), sumZ_zero]
  · rw [if_pos rfl]
    have hw := ru_wi hr
    rcases atS_wi fr sw l n with h1 | h1
    · exact absurd h1 hw
    obtain ⟨q, hq⟩ : ∃ q : Nat, (atS fr sw l n).wi = q := ⟨(atS fr sw l n).wi.toNat, by omega⟩
    rw [sumZ_congr (g := fun k => if (k : Int) = q ∧ true = true then 1 else 0) _ (fun i hi => ?_), sumZ_one q true, if_pos ⟨by omega, rfl⟩]
    have := key i hi
    rw [hr, hq] at this
    by_cases hc : (i : Int) = q
    · rw [if_pos (this.2 ⟨hc, rfl⟩), if_pos ⟨hc, rfl⟩]
    · rw [if_neg (fun hh => hc (this.1 hh).1), if_neg (fun hh => hc hh.1)]

theorem Fine.shares {fr sw : Int} {np : Nat} {l : List Wn} (h : Fine fr sw np l) : sumZ (fun p => shareS fr sw l p) np = sumZ (fun i => gainW sw (l.getD i Wn.zero)) l.length := by
  have h1 := h.fr1
  have h2 := h.fr2
  have hN : ((fr.toNat : Nat) : Int) = fr := by omega
  rw [sumZ_congr (g := fun p => sumZ (fun n => if runB fr sw l (p : Int) (n : Int) = true then 1 else 0) fr.toNat) np (fun p _ => by unfold shareS; rw [if_neg (by omega), cntN_sum])]
  rw [sumZ_swap (fun p n => if runB fr sw l (p : Int) (n : Int) = true then 1 else 0)]
  rw [sumZ_congr (g := fun n => sumZ (fun i => if (l.getD i Wn.zero).st + sw ≤ (n : Int) ∧ (n : Int) < (l.getD i Wn.zero).st + (l.getD i Wn.zero).ln then 1 else 0) l.length) _ (fun n hn => by rw [h.runs_parts n, h.runs_wins n (by omega)])]
  rw [← sumZ_swap (fun i n => if (l.getD i Wn.zero).st + sw ≤ (n : Int) ∧ (n : Int) < (l.getD i Wn.zero).st + (l.getD i Wn.zero).ln then 1 else 0)]
  refine sumZ_congr _ (fun i hi => ?_)
  have hm := h.win _ (getD_mem (d := Wn.zero) hi)
  have hs := h.sw1
  rw [sumZ_span _ _ (by omega), hN]
  unfold gainW
  split <;> split <;> omega

theorem share_bound (fr sw : Int) (l : List Wn) (p : Int) : 0 ≤ shareS fr sw l p ∧ shareS fr sw l p ≤ 4096 := by
  unfold shareS
  split
  · omega
  · have := cntN_le (fun n => runB fr sw l p n) fr.toNat
    omega

/-- The first number of those below N that are told so. -/
theorem least_of (b : Nat → Bool) : ∀ N k, k < N → b k = true → ∃ m, m < N ∧ b m = true ∧ ∀ j, j < m → b j = false
  | 0, k, hk, _ => by omega
  | N + 1, k, hk, hb => by
    by_cases h : ∃ j, j < N ∧ b j = true
    · obtain ⟨j, hj, hbj⟩ := h
      obtain ⟨m, h1, h2, h3⟩ := least_of b N j hj hbj
      exact ⟨m, by omega, h2, h3⟩
    · have hk' : k = N := by
        by_cases hkn : k = N
        · exact hkn
        · exact absurd ⟨k, by omega, hb⟩ h
      subst hk'
      refine ⟨k, by omega, hb, fun j hj => ?_⟩
      rcases hbj : b j
      · rfl
      · exact absurd ⟨j, hj, hbj⟩ h

theorem Fine.begins {fr sw : Int} {np : Nat} {l : List Wn} (h : Fine fr sw np l) (t : Int) (ht : 0 ≤ t) (i : Nat) (hi : i < l.length) : ∃ k : Nat, (k : Int) < fr ∧ begB fr sw l (l.getD i Wn.zero).p (t + k) = true := by
  have h1 := h.fr1
  have hm := h.win _ (getD_mem (d := Wn.zero) hi)
  have hk0 : 0 ≤ ((l.getD i Wn.zero).st - t) % fr := Int.emod_nonneg _ (by omega)
  have hk1 : ((l.getD i Wn.zero).st - t) % fr < fr := Int.emod_lt_of_pos _ (by omega)
  refine ⟨(((l.getD i Wn.zero).st - t) % fr).toNat, by omega, ?_⟩
  rw [show ((((l.getD i Wn.zero).st - t) % fr).toNat : Int) = ((l.getD i Wn.zero).st - t) % fr by omega]
  have hp : (t + ((l.getD i Wn.zero).st - t) % fr) % fr = (l.getD i Wn.zero).st := by
    have he := Int.emod_add_mul_ediv ((l.getD i Wn.zero).st - t) fr
    rw [show t + ((l.getD i Wn.zero).st - t) % fr = (l.getD i Wn.zero).st + fr * (-(((l.getD i Wn.zero).st - t) / fr)) by rw [Int.mul_neg]; omega, Int.add_mul_emod_self_left]
    exact Int.emod_eq_of_lt hm.1 (by omega)
  have ha := h.at_hit (t + ((l.getD i Wn.zero).st - t) % fr) (by omega) i hi (by rw [hp]; simp only [holdsW]; omega)
  have hst : startS fr sw l (t + ((l.getD i Wn.zero).st - t) % fr) = i := by
    unfold startS
    rw [ha, hp]
    simp
  unfold begB ofB
  rw [hst]
  simp
theorem begB_no {fr sw : Int} {l : List Wn} {p t : Int} (h : ∀ v ∈ l, v.p ≠ p) : begB fr sw l p t = false := by
  unfold begB ofB
  rcases startS_wi fr sw l t with h1 | h1
  · simp [h1]
  · have := h _ (getD_mem (d := Wn.zero) (l := l) (i := (startS fr sw l t).toNat) (by omega))
    simp only [Bool.and_eq_false_iff, decide_eq_false_iff_not]
    exact .inr this

/-- What another switch is to a tick. -/
theorem find_sw (sw pl : Int) : ∀ (l : List Wn) (k : Nat), findW sw pl k l = ⟨(findW 0 pl k l).wi, (findW 0 pl k l).into, (findW 0 pl k l).ru && decide (sw ≤ (findW 0 pl k l).into)⟩ := by
  intro l
  induction l with
  | nil => intro k; rfl
  | cons v l ih =>
    intro k
    rw [findW, findW]
    split
    · exact ih _
    · split
      · rename_i h1 h2
        have : decide (0 ≤ pl - v.st) = true := by simp; omega
        simp only [this, Bool.true_and]
      · exact ih _
theorem at_sw (fr sw : Int) (l : List Wn) (t : Int) : atS fr sw l t = ⟨(atS fr 0 l t).wi, (atS fr 0 l t).into, (atS fr 0 l t).ru && decide (sw ≤ (atS fr 0 l t).into)⟩ := by
  unfold atS
  split
  · rfl
  · exact find_sw _ _ _ _
theorem find_ru0 (pl : Int) : ∀ (l : List Wn) (k : Nat), (findW 0 pl k l).ru = decide (0 ≤ (findW 0 pl k l).wi) := by
  intro l
  induction l with
  | nil => intro k; rfl
  | cons v l ih =>
    intro k
    rw [findW]
    split
    · exact ih _
    · split
      · simp; omega
      · exact ih _
theorem at_ru0 (fr : Int) (l : List Wn) (t : Int) : (atS fr 0 l t).ru = decide (0 ≤ (atS fr 0 l t).wi) := by
  unfold atS
  split
  · rfl
  · exact find_ru0 _ _ _
theorem share_less (fr sw sw' : Int) (l : List Wn) (p : Int) (h : sw' ≤ sw) : shareS fr sw l p ≤ shareS fr sw' l p := by
  unfold shareS
  split
  · omega
  · have := cntN_mono (fun n => runB fr sw l p n) (fun n => runB fr sw' l p n) (fun k hk => by
      simp only [runB, Bool.and_eq_true] at hk ⊢
      rw [at_sw fr sw] at hk
      rw [at_sw fr sw']
      simp only [Bool.and_eq_true, decide_eq_true_eq] at hk ⊢
      exact ⟨⟨hk.1.1, by omega⟩, hk.2⟩) fr.toNat
    omega
end Go.Proofs.Ytfdoejdnhogepaa
