/-
  What package real's exported functions return, whatever they are given, and that nothing that was there is written.
-/
import Derived.Test.YtedldckijblnhaaDoorRFloat
namespace Go.Proofs.YtedldckijblnhaaDoor
open Go.RowKit Ieee
set_option linter.unusedVariables false

def nanX (x : Int) : Bool := decide (9218868437227405312 < rs x)
def halfX (x : Int) : Int := if nanX x then NONE else wd (sg x) (haR (rs x))
def twiceX (x : Int) : Int := if nanX x then NONE else wd (sg x) (twR (rs x))
def flipX (x : Int) : Int := if nanX x then NONE else wd (!sg x) (rs x)
def belowX (x y : Int) : Bool := blw (sg x) (rs x) (sg y) (rs y)
def clamp (n : Int) : Int := min (max n (-9007199254740992)) 9007199254740992
def ofX (n : Int) : Int := wd (sg n) (ofR (clamp n).natAbs)
def wholeX (x : Int) : Int := if nanX x then 0 else if sg x then -(whR (rs x) : Int) else (whR (rs x) : Int)

/-- No number, as the machine answers it. -/
def nanOf (t : Nat) : Nat := (t % 2) * 2 ^ 63 + 0x7ff0000000000000 + 1 + (t / 2) % (2 ^ 52 - 1)

theorem nanOf_word (t : Nat) : ∃ s r, nanOf t = double.word s r ∧ 9218868437227405312 < r ∧ r < 9223372036854775808 := by
  refine ⟨decide (t % 2 = 1), 9218868437227405312 + 1 + (t / 2) % 4503599627370495, ?_, by omega, by omega⟩
  rw [word_eq]
  unfold nanOf
  simp only [Nat.reducePow, Nat.reduceSub, decide_eq_true_eq]
  split <;> omega
theorem nanOf_ne (t : Nat) : (double.order (nanOf t) (nanOf t) != some .eq) = true := by
  obtain ⟨s, r, h, h1, h2⟩ := nanOf_word t
  rw [h, ne_self s r h2]; exact decide_eq_true h1

theorem haR_le (r : Nat) (h : r ≤ 9218868437227405312) : haR r ≤ 9218868437227405312 := by
  unfold haR; split
  · omega
  · split
    · omega
    · split <;> omega
theorem twR_le (r : Nat) (h : r ≤ 9218868437227405312) : twR r ≤ 9218868437227405312 := by
  unfold twR; split
  · omega
  · split <;> omega

theorem run_arith_nan (op : BinOp) (x y : Nat) (t : TypeId) (h : floatBits op .f64 x y = none) (ho : op = .mul ∨ op = .quo) (w : World) :
    (binOp op t (.float .f64 x) (.float .f64 y)).run Tryd.prog w = .ok (.float .f64 (nanOf (w.tape w.drawn (.nanBits .f64 x y)))) w.drew := by
  rcases ho with rfl | rfl
  · have h' : FloatKind.f64.format.mul x y = none := h
    simp [binOp, Op.floatArith, h', Question.forced, Question.cut, nanOf]
  · have h' : FloatKind.f64.format.div x y = none := h
    simp [binOp, Op.floatArith, h', Question.forced, Question.cut, nanOf]

set_option maxHeartbeats 400000 in
theorem half_any (x : Int) (h1 : -9223372036854775808 ≤ x) (h2 : x ≤ 9223372036854775807) (w : World) :
    Calls Tryd.prog 61 #[.int .i64 x] w fun e w' => e = .returned (.int .i64 (halfX x)) ∧ Below w.heap.size w w' := by
  have hlt := rs_lt h1 h2
  by_cases hn : 9218868437227405312 < rs x
  · have HX := hid (show halfX x = NONE by unfold halfX nanX; rw [decide_eq_true hn]; rfl)
    have hq := fun t w => run_arith_nan .quo (fb x) 4611686018427387904 t (div_nan (sg x) (rs x) hn hlt) (.inr rfl) w
    clear hn hlt
    go_enter Tryd.func61, Tryd.ntmps61
    go_wp2_with fail
    refine (float_any x h1 h2 _).mono ?_
    rintro e w1 ⟨rfl, rfl⟩
    go_wp2_with fail
    refine (bits_nan _ (nanOf_ne _) _).mono ?_
    rintro e w1 ⟨rfl, rfl⟩
    go_wp2
    go_ret
    exact ⟨ret_i HX.out.symm, (Below.refl _ _).drew⟩
  · have HX := hid (show halfX x = wd (sg x) (haR (rs x)) by unfold halfX nanX; rw [decide_eq_false hn]; rfl)
    have hq := fun t w => run_float_arith (P := Tryd.prog) w .quo t .f64 (fb x) 4611686018427387904 _ (div_two (sg x) (rs x) (by omega))
    have hle := haR_le (rs x) (by omega)
    clear hn hlt
    go_enter Tryd.func61, Tryd.ntmps61
    go_wp2_with fail
    refine (float_any x h1 h2 _).mono ?_
    rintro e w1 ⟨rfl, rfl⟩
    go_wp2_with fail
    refine (bits_num _ _ hle _).mono ?_
    rintro e w1 ⟨rfl, rfl⟩
    go_wp2
    go_ret
    exact ⟨ret_i HX.out.symm, Below.refl _ _⟩

set_option maxHeartbeats 400000 in
theorem twice_any (x : Int) (h1 : -9223372036854775808 ≤ x) (h2 : x ≤ 9223372036854775807) (w : World) :
    Calls Tryd.prog 63 #[.int .i64 x] w fun e w' => e = .returned (.int .i64 (twiceX x)) ∧ Below w.heap.size w w' := by
  have hlt := rs_lt h1 h2
  by_cases hn : 9218868437227405312 < rs x
  · have HX := hid (show twiceX x = NONE by unfold twiceX nanX; rw [decide_eq_true hn]; rfl)
    have hq := fun t w => run_arith_nan .mul (fb x) 4611686018427387904 t (mul_nan (sg x) (rs x) hn hlt) (.inl rfl) w
    clear hn hlt
    go_enter Tryd.func63, Tryd.ntmps63
    go_wp2_with fail
    refine (float_any x h1 h2 _).mono ?_
    rintro e w1 ⟨rfl, rfl⟩
    go_wp2_with fail
    refine (bits_nan _ (nanOf_ne _) _).mono ?_
    rintro e w1 ⟨rfl, rfl⟩
    go_wp2
    go_ret
    exact ⟨ret_i HX.out.symm, (Below.refl _ _).drew⟩
  · have HX := hid (show twiceX x = wd (sg x) (twR (rs x)) by unfold twiceX nanX; rw [decide_eq_false hn]; rfl)
    have hq := fun t w => run_float_arith (P := Tryd.prog) w .mul t .f64 (fb x) 4611686018427387904 _ (mul_two (sg x) (rs x) (by omega))
    have hle := twR_le (rs x) (by omega)
    clear hn hlt
    go_enter Tryd.func63, Tryd.ntmps63
    go_wp2_with fail
    refine (float_any x h1 h2 _).mono ?_
    rintro e w1 ⟨rfl, rfl⟩
    go_wp2_with fail
    refine (bits_num _ _ hle _).mono ?_
    rintro e w1 ⟨rfl, rfl⟩
    go_wp2
    go_ret
    exact ⟨ret_i HX.out.symm, Below.refl _ _⟩

theorem neg_word (s : Bool) (r : Nat) (h : r < 9223372036854775808) : Op.negFloat .f64 (double.word s r) = double.word (!s) r := by
  show double.word s r ^^^ 2 ^ 63 = _
  rw [word_eq, word_eq]
  have hx : ∀ q : Nat, q < 2 ^ 63 → q ^^^ 2 ^ 63 = 2 ^ 63 + q := by
    intro q hq
    apply Nat.eq_of_testBit_eq
    intro i
    rw [Nat.testBit_xor, Nat.testBit_two_pow]
    rcases Nat.lt_trichotomy i 63 with hi | hi | hi
    · rw [Nat.testBit_two_pow_add_gt hi, decide_eq_false (by omega), Bool.xor_false]
    · subst hi
      rw [Nat.testBit_two_pow_add_eq, Nat.testBit_lt_two_pow hq]; simp
    · rw [Nat.testBit_lt_two_pow (Nat.lt_of_lt_of_le hq (Nat.pow_le_pow_right (by omega) (by omega))), Nat.testBit_lt_two_pow (x := 2 ^ 63 + q) (Nat.lt_of_lt_of_le (show 2 ^ 63 + q < 2 ^ 64 by omega) (Nat.pow_le_pow_right (by omega) (by omega)))]
      rw [decide_eq_false (by omega)]; rfl
  cases s
  · simp only [Bool.false_eq_true, if_false, Bool.not_false, if_true]
    exact hx r (by simpa using h)
  · simp only [if_true, Bool.not_true, Bool.false_eq_true, if_false]
    rw [show 9223372036854775808 + r = r ^^^ 2 ^ 63 from (hx r (by simpa using h)).symm, Nat.xor_assoc, Nat.xor_self, Nat.xor_zero]

set_option maxHeartbeats 400000 in
theorem flip_any (x : Int) (h1 : -9223372036854775808 ≤ x) (h2 : x ≤ 9223372036854775807) (w : World) :
    Calls Tryd.prog 65 #[.int .i64 x] w fun e w' => e = .returned (.int .i64 (flipX x)) ∧ w' = w := by
  have hlt := rs_lt h1 h2
  have hneg : ∀ w : World, (Op.unary .neg (.float .f64 (fb x))).run Tryd.prog w = .ok (.float .f64 (double.word (!sg x) (rs x))) w := by
    intro w
    rw [← neg_word _ _ hlt]; rfl
  by_cases hn : 9218868437227405312 < rs x
  · have HX := hid (show flipX x = NONE by unfold flipX nanX; rw [decide_eq_true hn]; rfl)
    have hne : (double.order (double.word (!sg x) (rs x)) (double.word (!sg x) (rs x)) != some .eq) = true := by rw [ne_self _ _ hlt]; exact decide_eq_true hn
    have HN := hid hne
    clear hn hlt hne
    go_enter Tryd.func65, Tryd.ntmps65
    go_wp2_with fail
    refine (float_any x h1 h2 _).mono ?_
    rintro e w1 ⟨rfl, rfl⟩
    go_wp2_with fail
    refine (bits_nan _ HN.out _).mono ?_
    rintro e w1 ⟨rfl, rfl⟩
    go_wp2
    go_ret
    exact ⟨ret_i HX.out.symm, rfl⟩
  · have HX := hid (show flipX x = wd (!sg x) (rs x) by unfold flipX nanX; rw [decide_eq_false hn]; rfl)
    have hle : rs x ≤ 9218868437227405312 := by omega
    clear hn hlt
    go_enter Tryd.func65, Tryd.ntmps65
    go_wp2_with fail
    refine (float_any x h1 h2 _).mono ?_
    rintro e w1 ⟨rfl, rfl⟩
    go_wp2_with fail
    refine (bits_num _ _ hle _).mono ?_
    rintro e w1 ⟨rfl, rfl⟩
    go_wp2
    go_ret
    exact ⟨ret_i HX.out.symm, rfl⟩

set_option maxHeartbeats 400000 in
theorem below_any (x y : Int) (h1 : -9223372036854775808 ≤ x) (h2 : x ≤ 9223372036854775807) (h3 : -9223372036854775808 ≤ y) (h4 : y ≤ 9223372036854775807) (w : World) :
    Calls Tryd.prog 67 #[.int .i64 x, .int .i64 y] w fun e w' => e = .returned (.bool (belowX x y)) ∧ w' = w := by
  have H := hid (lt_any (sg x) (sg y) (rs x) (rs y) (rs_lt h1 h2) (rs_lt h3 h4))
  go_enter Tryd.func67, Tryd.ntmps67
  go_wp2_with fail
  refine (float_any x h1 h2 _).mono ?_
  rintro e w1 ⟨rfl, rfl⟩
  go_wp2_with fail
  refine (float_any y h3 h4 _).mono ?_
  rintro e w1 ⟨rfl, rfl⟩
  go_wp2
  go_ret
  exact ⟨ret_b H.out, rfl⟩
end Go.Proofs.YtedldckijblnhaaDoor
