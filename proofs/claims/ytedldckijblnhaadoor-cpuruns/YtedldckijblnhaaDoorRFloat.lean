/-
  What package real's functions return, whatever they are given, and that nothing that was there is written.
-/
import Derived.Test.YtedldckijblnhaaDoorRows
import Derived.Test.YtedldckijblnhaaDoorRMath2
import Derived.Test.YtedldckijblnhaaDoorLib
import Derived.WalkKit
import Derived.WalkSpells
import Derived.WalkLawsBesides
import Derived.Laws.Externs
import Derived.Laws.FloatArith
import Derived.Below
namespace Go.Proofs.YtedldckijblnhaaDoor
open Go.RowKit Ieee
set_option linter.unusedVariables false

/-- A word's sign and its other bits; a word of these. -/
def sg (x : Int) : Bool := decide (x < 0)
def rs (x : Int) : Nat := (if x < 0 then x + 9223372036854775808 else x).toNat
def wd (s : Bool) (r : Nat) : Int := if s then (r : Int) - 9223372036854775808 else r
def fb (x : Int) : Nat := double.word (sg x) (rs x)
def NONE : Int := 9221120237041090560

theorem run_frombits (n : Int) (w : World) : (callFunc 89 #[.int .u64 n]).run Tryd.prog w = .ok (.value (.float .f64 n.toNat)) w := by
  rw [run_callFunc_extern Tryd.func89 (by kernel_rfl) (by kernel_rfl) (by kernel_rfl) (e := Extern.MathFloatBits.float64frombits) (by kernel_rfl)]
  rfl
theorem run_tobits (n : Nat) (w : World) : (callFunc 88 #[.float .f64 n]).run Tryd.prog w = .ok (.value (.int .u64 n)) w := by
  rw [run_callFunc_extern Tryd.func88 (by kernel_rfl) (by kernel_rfl) (by kernel_rfl) (e := Extern.MathFloatBits.float64bits) (by kernel_rfl)]
  rfl

theorem fb_of {x : Int} (h1 : -9223372036854775808 ≤ x) (h2 : x ≤ 9223372036854775807) : (IntKind.u64.wrap x).toNat = fb x := by
  unfold fb sg rs
  rw [word_eq, IntKind.wrap_u64]
  by_cases h : x < 0 <;> simp [h] <;> omega

theorem rs_lt {x : Int} (h1 : -9223372036854775808 ≤ x) (h2 : x ≤ 9223372036854775807) : rs x < 9223372036854775808 := by
  unfold rs; split <;> omega

theorem ret_fl {a b : Nat} (h : a = b) : Ending.returned (.float .f64 a) = .returned (.float .f64 b) := by rw [h]
theorem ret_i {a b : Int} (h : a = b) : Ending.returned (.int .i64 a) = .returned (.int .i64 b) := by rw [h]
theorem ret_b {a b : Bool} (h : a = b) : Ending.returned (.bool a) = .returned (.bool b) := by rw [h]

theorem float_any (x : Int) (h1 : -9223372036854775808 ≤ x) (h2 : x ≤ 9223372036854775807) (w : World) :
    Calls Tryd.prog 85 #[.int .i64 x] w fun e w' => e = .returned (.float .f64 (fb x)) ∧ w' = w := by
  have hr := run_frombits
  have H := hid (fb_of h1 h2)
  go_enter Tryd.func85, Tryd.ntmps85
  go_wp2
  go_ret
  exact ⟨ret_fl H.out, rfl⟩

theorem isnan_any (b : Nat) (w : World) :
    Calls Tryd.prog 86 #[.float .f64 b] w fun e w' => e = .returned (.bool (double.order b b != some .eq)) ∧ w' = w := by
  go_enter Tryd.func86, Tryd.ntmps86
  go_wp2
  go_ret
  exact ⟨rfl, rfl⟩

theorem wd_of (s : Bool) (r : Nat) (h : r < 9223372036854775808) : wrap64 ((double.word s r : Nat) : Int) = wd s r := by
  rw [word_eq]
  unfold wd wrap64
  cases s <;> simp <;> omega

theorem bits_nan (b : Nat) (h : (double.order b b != some .eq) = true) (w : World) :
    Calls Tryd.prog 84 #[.float .f64 b] w fun e w' => e = .returned (.int .i64 NONE) ∧ w' = w := by
  have ht := run_tobits
  have H := hid h
  clear h
  go_enter Tryd.func84, Tryd.ntmps84
  go_wp2_with fail
  refine (isnan_any _ _).mono ?_
  rintro e w1 ⟨rfl, rfl⟩
  rw [H.out]
  go_wp2
  go_ret
  exact ⟨rfl, rfl⟩

theorem bits_num (s : Bool) (r : Nat) (h : r ≤ 9218868437227405312) (w : World) :
    Calls Tryd.prog 84 #[.float .f64 (double.word s r)] w fun e w' => e = .returned (.int .i64 (wd s r)) ∧ w' = w := by
  have ht := run_tobits
  have hn : (double.order (double.word s r) (double.word s r) != some .eq) = false := by
    rw [ne_self s r (by omega)]; exact decide_eq_false (by omega)
  have HN := hid hn
  have HW := hid (wd_of s r (by omega))
  clear hn
  generalize double.word s r = b at *
  go_enter Tryd.func84, Tryd.ntmps84
  go_wp2_with fail
  refine (isnan_any _ _).mono ?_
  rintro e w1 ⟨rfl, rfl⟩
  rw [HN.out]
  go_wp2
  go_ret
  exact ⟨ret_i HW.out, rfl⟩
end Go.Proofs.YtedldckijblnhaaDoor
