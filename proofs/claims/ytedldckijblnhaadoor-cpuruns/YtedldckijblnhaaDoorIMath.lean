/-
  What instr's calls come to, as plain functions of lists and numbers.
-/
import Derived.Test.YtedldckijblnhaaDoorIReg
import Derived.Test.YtedldckijblnhaaDoorWMath2
namespace Go.Proofs.YtedldckijblnhaaDoor
open Go.RowKit
set_option linter.unusedVariables false

/-- From where to where a thing of this row goes. -/
def rowLo (r : Nat) : Int := if r = 2 then -549755813888 else 0
def rowHi (r : Nat) : Int := if r = 0 then 0 else if r = 1 then 3 else if r = 2 then 549755813888 else if r = 3 then 63 else 25
def wiB (r : Nat) (n : Int) : Bool := decide (rowLo r ≤ n) && decide (n ≤ rowHi r)
/-- Of which row A of an operation is, and B. -/
def rowA (o : Nat) : Nat := if o = 0 ∨ o = 10 ∨ o = 19 then 0 else 1
def rowB (o : Nat) : Nat := if o = 0 ∨ o = 12 ∨ o = 13 ∨ o = 14 ∨ o = 16 ∨ o = 17 ∨ o = 18 then 0 else if o = 1 then 2 else if o = 10 ∨ o = 11 then 3 else if o = 19 then 4 else 1

/-- May an instruction be? -/
def mayI (i : In) : Bool := decide (0 ≤ i.o) && decide (i.o < 20) && wiB (rowA i.o.toNat) i.a && wiB (rowB i.o.toNat) i.b

def unsg (n : Int) : Int := if n < 0 then -2 * n - 1 else 2 * n
def sgn (n : Int) : Int := if n % 2 = 1 then -((n + 1) / 2) else n / 2

/-- The bytes of an instruction. -/
def ienc (i : In) : List Int := encAll [i.o, i.a, unsg i.b]
def iputB (i : In) : List Int := if mayI i then ienc i else []
def iputE (i : In) : Int := if mayI i then 0 else 1

theorem wiB_any (r : Nat) (n : Int) (h : wiB r n = true) : -549755813888 ≤ n ∧ n ≤ 549755813888 := by
  simp only [wiB, Bool.and_eq_true, decide_eq_true_eq] at h
  obtain ⟨h1, h2⟩ := h
  unfold rowLo at h1
  unfold rowHi at h2
  constructor
  · clear h2; split at h1 <;> omega
  · clear h1; repeat' (split at h2)
    all_goals omega
theorem wiB_A (o : Nat) (n : Int) (h : wiB (rowA o) n = true) : 0 ≤ n ∧ n ≤ 3 := by
  simp only [wiB, Bool.and_eq_true, decide_eq_true_eq] at h
  unfold rowA at h
  split at h
  · simp [rowLo, rowHi] at h; omega
  · simp [rowLo, rowHi] at h; omega

theorem mayI_bounds {i : In} (h : mayI i = true) : 0 ≤ i.o ∧ i.o < 20 ∧ 0 ≤ i.a ∧ i.a ≤ 3 ∧ -549755813888 ≤ i.b ∧ i.b ≤ 549755813888 := by
  simp only [mayI, Bool.and_eq_true, decide_eq_true_eq] at h
  obtain ⟨⟨⟨h1, h2⟩, h3⟩, h5⟩ := h
  have := wiB_A _ _ h3
  have := wiB_any _ _ h5
  omega

theorem unsg_isT {n : Int} (h : -549755813888 ≤ n ∧ n ≤ 549755813888) : isT (unsg n) = true := by
  unfold isT unsg; split <;> simp <;> omega
theorem sgn_unsg (n : Int) : sgn (unsg n) = n := by unfold sgn unsg; split <;> split <;> omega
theorem unsg_sgn (n : Int) (h : 0 ≤ n) : unsg (sgn n) = n := by unfold sgn unsg; split <;> split <;> omega

theorem ienc_all {i : In} (h : mayI i = true) : allT [i.o, i.a, unsg i.b] = true := by
  obtain ⟨h1, h2, h3, h4, h5⟩ := mayI_bounds h
  have := unsg_isT h5
  simp [isT] at this
  simp [allT, isT]
  omega

/-- The numbers that bytes begin with, one by one. -/
def getsF (l : List Int) : Nat → List Int → Nat → List Int × Nat × Int
  | 0, acc, k => (acc, k, 0)
  | f + 1, acc, k => if (get (l.drop k)).2.2 = 0 then getsF l f (acc ++ [(get (l.drop k)).1]) (k + (get (l.drop k)).2.1.toNat) else ([], 0, (get (l.drop k)).2.2)

def ofThree (r : List Int) : In := ⟨r.getD 0 0, r.getD 1 0, sgn (r.getD 2 0)⟩

/-- The instruction that bytes begin with, how many it has, the error. -/
def igetR (r : List Int × Nat × Int) : In × Int × Int :=
  if r.2.2 = 0 then (if mayI (ofThree r.1) then (ofThree r.1, (r.2.1 : Int), 0) else (In.zero, 0, 2)) else (In.zero, 0, r.2.2)
def iget (l : List Int) : In × Int × Int := igetR (getsF l 3 [] 0)

theorem getsF_more (l : List Int) (f : Nat) (acc : List Int) (k j : Nat) (h : (get (l.drop k)).2.2 = 0) (hj : (get (l.drop k)).2.1 = (j : Int)) : getsF l (f + 1) acc k = getsF l f (acc ++ [(get (l.drop k)).1]) (k + j) := by
  rw [getsF, if_pos h, hj]; rfl
theorem getsF_err (l : List Int) (f : Nat) (acc : List Int) (k : Nat) (h : ¬ (get (l.drop k)).2.2 = 0) : getsF l (f + 1) acc k = ([], 0, (get (l.drop k)).2.2) := by
  rw [getsF, if_neg h]

/-- Instructions one behind the other. -/
def iencAll (l : List In) : List Int := l.flatMap ienc
def allMay (l : List In) : Bool := l.all mayI
def packB (l : List In) : List Int := if 64 < l.length then [] else if allMay l then iencAll l else []
def packE (l : List In) : Int := if 64 < l.length then 7 else if allMay l then 0 else 1

/-- All instructions that bytes are, behind those that were found already. -/
def iupF : Nat → List In → List Int → List In × Int
  | 0, acc, _ => (acc, 0)
  | f + 1, acc, l => if l.length = 0 then (acc, 0) else if (iget l).2.2 = 0 then iupF f (acc ++ [(iget l).1]) (l.drop (iget l).2.1.toNat) else ([], (iget l).2.2)
def upR (r : List In × Int) : List In × Int := if r.2 = 0 then (if 64 < r.1.length then ([], 7) else r) else ([], r.2)
def up (l : List Int) : List In × Int := upR (iupF l.length [] l)

theorem getsF_ok (l : List Int) : ∀ (f : Nat) (acc : List Int) (k : Nat), k ≤ l.length → (getsF l f acc k).2.2 = 0 → k + f ≤ (getsF l f acc k).2.1 ∧ (getsF l f acc k).2.1 ≤ l.length := by
  intro f
  induction f with
  | zero => intro acc k hk h; simp [getsF]; exact hk
  | succ f ih =>
    intro acc k hk h
    by_cases he : (get (l.drop k)).2.2 = 0
    · obtain ⟨j, hj, hj1, hj2⟩ := get_ok _ he
      rw [getsF_more l f acc k j he hj] at h ⊢
      simp at hj2
      have := ih (acc ++ [(get (l.drop k)).1]) (k + j) (by omega) h
      omega
    · rw [getsF_err l f acc k he] at h
      exact absurd h he

theorem iget_ok (l : List Int) (h : (iget l).2.2 = 0) : ∃ j : Nat, (iget l).2.1 = (j : Int) ∧ 1 ≤ j ∧ j ≤ l.length := by
  unfold iget igetR at h ⊢
  split at h
  · rename_i h1
    have h2 := getsF_ok l 3 [] 0 (by omega) h1
    split at h
    · rename_i h3
      rw [if_pos h1, if_pos h3]
      exact ⟨_, rfl, by omega, h2.2⟩
    · simp at h
  · rename_i h1; exact absurd h h1

theorem iupF_nil (f : Nat) (acc : List In) : iupF f acc [] = (acc, 0) := by cases f <;> simp [iupF]
theorem iupF_step (f : Nat) (acc : List In) (r : List Int) (hr : 0 < r.length) (j : Nat) (he : (iget r).2.2 = 0) (hj : (iget r).2.1 = (j : Int)) : iupF (f + 1) acc r = iupF f (acc ++ [(iget r).1]) (r.drop j) := by
  rw [iupF, if_neg (by omega), if_pos he, hj]; rfl
theorem iupF_err (f : Nat) (acc : List In) (r : List Int) (hr : 0 < r.length) (he : ¬ (iget r).2.2 = 0) : iupF (f + 1) acc r = ([], (iget r).2.2) := by
  rw [iupF, if_neg (by omega), if_neg he]
theorem iupF_fuel (f g : Nat) (acc : List In) (r : List Int) (hf : r.length ≤ f) (hg : r.length ≤ g) : iupF f acc r = iupF g acc r := by
  induction f generalizing g acc r with
  | zero => have : r = [] := List.eq_nil_of_length_eq_zero (by omega); subst this; rw [iupF_nil, iupF_nil]
  | succ f ih =>
    by_cases hr : 0 < r.length
    · obtain ⟨g, rfl⟩ : ∃ g', g = g' + 1 := ⟨g - 1, by omega⟩
      by_cases he : (iget r).2.2 = 0
      · obtain ⟨j, hj, hj1, hj2⟩ := iget_ok _ he
        rw [iupF_step f acc r hr j he hj, iupF_step g acc r hr j he hj]
        exact ih _ _ _ (by simp; omega) (by simp; omega)
      · rw [iupF_err f acc r hr he, iupF_err g acc r hr he]
    · have : r = [] := List.eq_nil_of_length_eq_zero (by omega); subst this; rw [iupF_nil, iupF_nil]

theorem get_fit (l : List Int) (hb : ∀ c ∈ l, 0 ≤ c ∧ c ≤ 255) (he : (get l).2.2 = 0) : 0 ≤ (get l).1 ∧ (get l).1 ≤ 1099511627776 := by
  obtain ⟨q, j, _, _, h, _, hq, _⟩ := get_inv l hb he
  rw [h]; simp; omega
end Go.Proofs.YtedldckijblnhaaDoor
