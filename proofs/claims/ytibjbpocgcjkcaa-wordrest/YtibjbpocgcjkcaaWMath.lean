/-
  Plain mathematics of a table's numbers: their bytes, and what bytes are.
-/
import Derived.WalkKit
namespace Go.Proofs.Ytibjbpocgcjkcaa
open Go.RowKit

/-- The bytes of a number. -/
def encF : Nat → Nat → List Int
  | 0, n => [(n : Int)]
  | f + 1, n => if n < 128 then [(n : Int)] else ((n % 128 + 128 : Nat) : Int) :: encF f (n / 128)
def enc (n : Nat) : List Int := encF 6 n

theorem encF_step (f k : Nat) (h : 128 ≤ k) : encF (f + 1) k = ((k : Int) % 128 + 128) :: encF f (k / 128) := by
  rw [encF, if_neg (by omega)]; congr 1
theorem encF_last (f k : Nat) (h : k < 128) : encF f k = [(k : Int)] := by
  cases f <;> simp [encF, h]

theorem encF_len (f n : Nat) : 1 ≤ (encF f n).length ∧ (encF f n).length ≤ f + 1 := by
  induction f generalizing n with
  | zero => simp [encF]
  | succ f ih => unfold encF; split <;> simp; have := ih (n / 128); omega

/-- Is a number a table's? -/
def isT (n : Int) : Bool := decide (0 ≤ n) && decide (n ≤ 1099511627776)

def putB (n : Int) : List Int := if isT n then enc n.toNat else []
def putE (n : Int) : Int := if isT n then 0 else 1
/-- The bytes of all. -/
def encAll (l : List Int) : List Int := l.flatMap fun n => enc n.toNat
def allT (l : List Int) : Bool := l.all isT

/-- What bytes begin with: the number, how many bytes it has, the error. -/
def dec : List Int → Nat → Int → Int × Int × Int
  | [], _, _ => (0, 0, 3)
  | c :: r, i, n =>
    if c < 128 then (if (c = 0 ∧ 0 < i) ∨ 1099511627776 < n + c % 128 * 128 ^ i then (0, 0, 2) else (n + c % 128 * 128 ^ i, (i : Int) + 1, 0))
    else if i + 1 = 6 then (0, 0, 2) else dec r (i + 1) (n + c % 128 * 128 ^ i)
def get (l : List Int) : Int × Int × Int := dec l 0 0

end Go.Proofs.Ytibjbpocgcjkcaa
