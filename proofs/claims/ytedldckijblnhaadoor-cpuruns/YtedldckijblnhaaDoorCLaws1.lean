/-
  Registers that are compared; the chapter's example holds.
-/
import Derived.Test.YtedldckijblnhaaDoorCSpec
import Derived.ChangeKeysEq
import Derived.Test.YtedldckijblnhaaDoorCRefA
import Derived.Test.YtedldckijblnhaaDoorMMay
import Derived.Test.YtedldckijblnhaaDoorWSame
namespace Go.Proofs.YtedldckijblnhaaDoor
open Go.RowKit
set_option linter.unusedVariables false

theorem arr_item (d : Nat) (w : World) (x y : Int) : (Op.equalIn (d + 1) 3 (.int .i64 x) (.int .i64 y)).run Tryd.prog w = .ok (x == y) w := by
  simp [Op.equalIn, run_underlying Tryd.underlying3]

theorem arr_eq (w : World) (x0 x1 x2 x3 y0 y1 y2 y3 : Int) : (Op.equalIn 9999 23 (.agg #[.int .i64 x0, .int .i64 x1, .int .i64 x2, .int .i64 x3]) (.agg #[.int .i64 y0, .int .i64 y1, .int .i64 y2, .int .i64 y3])).run Tryd.prog w = .ok (x0 == y0 && (x1 == y1 && (x2 == y2 && x3 == y3))) w := by
  obtain ⟨i0, hi, hz0, hz1, hz2⟩ := info_parts Tryd.infoI
  have hc : Tryd.prog.cellsOf 3 = 1 := by kernel_rfl
  have hp : ∀ (w : World) (xs : Array Value) (i : Nat) (v : Value), xs[i]? = some v → (part 3 xs i).run Tryd.prog w = .ok v w := by
    intro w xs i v h
    simp [part, isAgg, run_underlying Tryd.underlying3, h]
  have px0 := fun w => hp w #[.int .i64 x0, .int .i64 x1, .int .i64 x2, .int .i64 x3] 0 (.int .i64 x0) rfl
  have px1 := fun w => hp w #[.int .i64 x0, .int .i64 x1, .int .i64 x2, .int .i64 x3] 1 (.int .i64 x1) rfl
  have px2 := fun w => hp w #[.int .i64 x0, .int .i64 x1, .int .i64 x2, .int .i64 x3] 2 (.int .i64 x2) rfl
  have px3 := fun w => hp w #[.int .i64 x0, .int .i64 x1, .int .i64 x2, .int .i64 x3] 3 (.int .i64 x3) rfl
  have py0 := fun w => hp w #[.int .i64 y0, .int .i64 y1, .int .i64 y2, .int .i64 y3] 0 (.int .i64 y0) rfl
  have py1 := fun w => hp w #[.int .i64 y0, .int .i64 y1, .int .i64 y2, .int .i64 y3] 1 (.int .i64 y1) rfl
  have py2 := fun w => hp w #[.int .i64 y0, .int .i64 y1, .int .i64 y2, .int .i64 y3] 2 (.int .i64 y2) rfl
  have py3 := fun w => hp w #[.int .i64 y0, .int .i64 y1, .int .i64 y2, .int .i64 y3] 3 (.int .i64 y3) rfl
  have he := arr_item 9997
  rw [run_equalIn_array w 9998 _ _ Tryd.underlying23 hi, hc, show List.range 4 = [0, 1, 2, 3] from rfl]
  simp only [Op.eqItems, Sem.run_bind, Nat.mul_one, px0, py0, he, Result.andThen_ok]
  cases (x0 == y0)
  · simp
  simp only [Bool.not_true, Bool.false_eq_true, if_false, Sem.run_bind, px1, py1, he, Result.andThen_ok]
  cases (x1 == y1)
  · simp
  simp only [Bool.not_true, Bool.false_eq_true, if_false, Sem.run_bind, px2, py2, he, Result.andThen_ok]
  cases (x2 == y2)
  · simp
  simp only [Bool.not_true, Bool.false_eq_true, if_false, Sem.run_bind, px3, py3, he, Result.andThen_ok]
  cases (x3 == y3)
  · simp
  · simp

theorem arr_self (w : World) (x0 x1 x2 x3 : Int) : (Op.equalIn 9999 23 (.agg #[.int .i64 x0, .int .i64 x1, .int .i64 x2, .int .i64 x3]) (.agg #[.int .i64 x0, .int .i64 x1, .int .i64 x2, .int .i64 x3])).run Tryd.prog w = .ok true w := by
  rw [arr_eq]; simp

theorem sees_two (w : World) : SeesI (w.alloc (.cells #[.int .i64 1, .int .i64 1, .int .i64 7, .int .i64 6, .int .i64 1, .int .i64 2] 44)) (.slice (some ⟨w.heap.size, 0, none⟩) 2 2) [⟨1, 1, 7⟩, ⟨6, 1, 2⟩] := by
  refine .inr ⟨_, 2, rfl, by simp, by decide, fun i hi j hj => ?_⟩
  have hi' : i = 0 ∨ i = 1 := by simp at hi; omega
  have hj' : j = 0 ∨ j = 1 ∨ j = 2 := by omega
  rcases hi' with rfl | rfl <;> rcases hj' with rfl | rfl | rfl <;> simp [add_none, In.cells]

theorem seesI_below {w w' : World} {v : Value} {l : List In} (h : SeesI w v l) (hb : Below w.heap.size w w') : SeesI w' v l := h.below hb
theorem zfit : Co.zero.fit := by simp [Co.fit, fit64, Co.zero]
theorem ofit : Co.fit ⟨1, 0, 7, 0, 0⟩ := by simp [Co.fit, fit64]

set_option maxRecDepth 100000 in
set_option maxHeartbeats 3200000 in
theorem cawake_any (w : World) (hL : Laid w) : Calls Tryd.prog 10 #[] w fun e w' => e = .returned (.bool true) ∧ Below w.heap.size w w' := by
  obtain ⟨W, hW⟩ : ∃ W, w.alloc (.cells #[.int .i64 1, .int .i64 1, .int .i64 7, .int .i64 6, .int .i64 1, .int .i64 2] 44) = W := ⟨_, rfl⟩
  have hb0 : Below w.heap.size w W := by rw [← hW]; exact alloc_belowI _ _
  have hs0 := sees_two w
  rw [hW] at hs0
  have hws : w.heap.size ≤ W.heap.size := hb0.size
  have H1 : ∀ w2, Below W.heap.size W w2 → Calls Tryd.prog 12 #[.slice (some ⟨w.heap.size, 0, none⟩) 2 2, .agg #[.int .i64 0, .int .i64 0, .int .i64 0, .int .i64 0, .int .i64 0], .slice none 0 0, .slice none 0 0, .int .i64 0] w2 fun e w' => ∃ u, e = .returned (.tuple #[.agg #[.int .i64 1, .int .i64 0, .int .i64 7, .int .i64 0, .int .i64 0], u, .agg #[.int .i64 0, .int .i64 (-1), .bool false, .bool false, .int .i64 0]]) ∧ Sees w' .i64 u [] ∧ Below w2.heap.size w2 w' := fun w2 h =>
    step_any _ _ _ [⟨1, 1, 7⟩, ⟨6, 1, 2⟩] Co.zero [] [] 0 w2 ((hL.below hb0).below h) (hs0.below h) (Sees.nil _ _) (SeesR.nil _) zfit (by simp) (by simp)
  have H2 : ∀ w2, Below W.heap.size W w2 → Calls Tryd.prog 12 #[.slice (some ⟨w.heap.size, 0, none⟩) 2 2, .agg #[.int .i64 1, .int .i64 0, .int .i64 7, .int .i64 0, .int .i64 0], .slice none 0 0, .slice none 0 0, .int .i64 0] w2 fun e w' => ∃ u, e = .returned (.tuple #[.agg #[.int .i64 1, .int .i64 0, .int .i64 7, .int .i64 0, .int .i64 0], u, .agg #[.int .i64 3, .int .i64 (-1), .bool false, .bool false, .int .i64 0]]) ∧ Sees w' .i64 u [] ∧ Below w2.heap.size w2 w' := fun w2 h =>
    step_any _ _ _ [⟨1, 1, 7⟩, ⟨6, 1, 2⟩] ⟨1, 0, 7, 0, 0⟩ [] [] 0 w2 ((hL.below hb0).below h) (hs0.below h) (Sees.nil _ _) (SeesR.nil _) ofit (by simp) (by simp)
  have HH1 := hid H1
  have HH2 := hid H2
  have HW := hid hW
  have HB0 := hid hb0
  clear H1 H2 hW hb0 hs0 hL hws
  go_enter Tryd.func10, Tryd.ntmps10
  go_wp2_with fail
  rw [HW.out]
  refine (HH1.out W (Below.refl _ _)).mono ?_
  rintro e w1 ⟨u1, rfl, _, hb1⟩
  have hbA : Below W.heap.size W ((w1.alloc (.cells #[.int .i64 1, .int .i64 0, .int .i64 7, .int .i64 0, .int .i64 0] 25)).alloc (.cells #[.int .i64 0, .int .i64 (-1), .bool false, .bool false, .int .i64 0] 31)) :=
    (hb1.alloc hb1.size _).alloc (by have := hb1.size; simp; omega) _
  have F1 := (five_new w1 (.int .i64 1) (.int .i64 0) (.int .i64 7) (.int .i64 0) (.int .i64 0) 25).alloc (o := .cells #[.int .i64 0, .int .i64 (-1), .bool false, .bool false, .int .i64 0] 31)
  have F2 := five_new (w1.alloc (.cells #[.int .i64 1, .int .i64 0, .int .i64 7, .int .i64 0, .int .i64 0] 25)) (.int .i64 0) (.int .i64 (-1)) (.bool false) (.bool false) (.int .i64 0) 31
  rw [show (w1.alloc (.cells #[.int .i64 1, .int .i64 0, .int .i64 7, .int .i64 0, .int .i64 0] 25)).heap.size = w1.heap.size + 1 by simp] at F2
  have HBA := hid hbA
  have HF1 := hid F1
  have HF2 := hid F2
  clear hbA F1 F2 hb1
  go_wp2_with fail
  refine (HH2.out _ HBA.out).mono ?_
  rintro e w2 ⟨u2, rfl, _, hb2⟩
  obtain ⟨_, _, a0, a1, a2, a3, a4⟩ := HF1.out.below hb2 HF1.out.1
  obtain ⟨_, _, b0, b1, b2, b3, b4⟩ := HF2.out.below hb2 HF2.out.1
  have HBB := hid (HB0.out.trans ((HBA.out.trans (hb2.mono HBA.out.size)).mono HB0.out.size))
  clear hb2
  go_wp2
  go_ret
  exact ⟨rfl, (HBB.out.alloc HBB.out.size _).alloc (by have := HBB.out.size; simp; omega) _⟩
end Go.Proofs.YtedldckijblnhaaDoor
