/-
  CpuSteps returns true, whatever it is given, and nothing that was there is written.
-/
import Derived.Test.YtedldckijblnhaaDoorCRefJ
import Derived.Test.YtedldckijblnhaaDoorCLaws1
namespace Go.Proofs.YtedldckijblnhaaDoor
open Go.RowKit
set_option linter.unusedVariables false

theorem same_self (va vb : Value) (xs : List Int) (w : World) (ha : Sees w .i64 va xs) (hb : Sees w .i64 vb xs) :
    Calls Tryd.prog 14 #[va, vb] w fun e w' => e = .returned (.bool true) ∧ Below w.heap.size w w' := by
  refine (same_any va vb xs xs w ha hb).mono ?_
  rintro e w' ⟨rfl, h⟩
  exact ⟨by simp, h⟩
theorem few_len {m : List Int} {l : List Rg} (h : fewB m l = true) : m.length ≤ 100000 := by
  simp [fewB] at h; omega
theorem few_all {m : List Int} {l : List Rg} (h : fewB m l = true) : l.all fewR = true := by
  unfold fewB at h; simp only [Bool.and_eq_true] at h; exact h.2

set_option maxRecDepth 100000 in
set_option maxHeartbeats 3200000 in
theorem walk_CpuSteps (w : World) (hL : Laid w) (vc : Value) (code : List In) (s0 : SeesI w vc code) (f0 : ∀ r ∈ code, r.fit) (c : Co) (f1 : c.fit) (vm : Value) (m : List Int) (s2 : Sees w .i64 vm m) (f2 : ∀ n ∈ m, (Lit.int .i64 n).wf = true)
    (vl : Value) (l : List Rg) (s3 : SeesR w vl l) (f3 : ∀ r ∈ l, r.fit) (now : Int) (w4 : (Lit.int .i64 now).wf = true) :
    Calls Tryd.prog 3 #[vc, c.val, vm, vl, .int .i64 now] w fun e w' => e = .returned (.bool true) ∧ Below w.heap.size w w' := by
  obtain ⟨⟨⟨p1, x0, x1, x2, x3⟩, m1, ⟨of, oc, oh, orr, ov⟩⟩, hR⟩ : ∃ R, stepS code c m l now = R := ⟨_, rfl⟩
  obtain ⟨p, r0, r1, r2, r3⟩ := c
  have hb0 := alloc_belowI w (.cells #[.int .i64 p, .int .i64 r0, .int .i64 r1, .int .i64 r2, .int .i64 r3] 25)
  have H1 : fewB m l = true → ∀ w2, Below w.heap.size w w2 → Calls Tryd.prog 12 #[vc, .agg #[.int .i64 p, .int .i64 r0, .int .i64 r1, .int .i64 r2, .int .i64 r3], vm, vl, .int .i64 now] w2 fun e w' => ∃ u, e = .returned (.tuple #[.agg #[.int .i64 p1, .int .i64 x0, .int .i64 x1, .int .i64 x2, .int .i64 x3], u, .agg #[.int .i64 of, .int .i64 oc, .bool oh, .bool orr, .int .i64 ov]]) ∧ Sees w' .i64 u m1 ∧ Below w2.heap.size w2 w' := fun hf w2 h => by
    have := step_any vc vm vl code ⟨p, r0, r1, r2, r3⟩ m l now w2 (hL.below h) (s0.below h) (s2.below h) (s3.below h) f1 f3 (few_len hf)
    rw [hR] at this
    exact this
  have H2 : fewB m l = true → ∀ w2, Below w.heap.size w w2 → Calls Tryd.prog 13 #[vc, .agg #[.int .i64 p, .int .i64 r0, .int .i64 r1, .int .i64 r2, .int .i64 r3], vm, vl, .int .i64 now] w2 fun e w' => ∃ u, e = .returned (.tuple #[.agg #[.int .i64 p1, .int .i64 x0, .int .i64 x1, .int .i64 x2, .int .i64 x3], u, .agg #[.int .i64 of, .int .i64 oc, .bool oh, .bool orr, .int .i64 ov]]) ∧ Sees w' .i64 u m1 ∧ Below w2.heap.size w2 w' := fun hf w2 h => by
    have := rstep_any vc vm vl code ⟨p, r0, r1, r2, r3⟩ m l now w2 (s0.below h) (s2.below h) (s3.below h) f1 (few_all hf) (few_len hf)
    rw [hR] at this
    exact this
  have HFW := hid (fun w2 h => few_any vm vl m l w2 (s2.below h) (s3.below h))
  have HA := hid (fun w2 h => cawake_any w2 (hL.below (w' := w2) h))
  obtain ⟨ac, cc, rfl, hc1, hc2, _⟩ := s0.form
  obtain ⟨am, cm, rfl, _, _, _⟩ := s2.form
  obtain ⟨al, cl, rfl, _, _, _⟩ := s3.form
  have HB0 := hid hb0
  have HH1 := hid H1
  have HH2 := hid H2
  have F0 := five_new w (.int .i64 p) (.int .i64 r0) (.int .i64 r1) (.int .i64 r2) (.int .i64 r3) 25
  have HF0 := hid F0
  clear H1 H2 hR hL s0 s2 s3 f0 f1 f2 f3 w4 hb0 F0
  rw [show Co.val ⟨p, r0, r1, r2, r3⟩ = .agg #[.int .i64 p, .int .i64 r0, .int .i64 r1, .int .i64 r2, .int .i64 r3] from rfl]
  generalize code.length = n at *
  go_enter Tryd.func3, Tryd.ntmps3
  go_wp2_with fail
  refine (HA.out _ HB0.out).mono ?_
  rintro e w1 ⟨rfl, hb1⟩
  have hbw1 := HB0.out.trans (hb1.mono HB0.out.size)
  have HBW1 := hid hbw1
  have HF1 := hid (HF0.out.below hb1 HF0.out.1)
  clear hb1 hbw1
  go_wp2_with fail
  refine (HFW.out _ HBW1.out).mono ?_
  rintro e w2 ⟨rfl, rfl⟩
  cases hfew : fewB m l with
  | false =>
    go_wp2
    go_ret
    exact ⟨rfl, HBW1.out⟩
  | true =>
    have HFE := hid hfew
    clear hfew
    by_cases hn : n ≤ 200
    · obtain ⟨_, _, a0, a1, a2, a3, a4⟩ := HF1.out
      go_wp2_with fail
      refine (HH1.out HFE.out _ HBW1.out).mono ?_
      rintro e w3 ⟨u1, rfl, hs1, hb3⟩
      have hbw3 := HBW1.out.trans (hb3.mono HBW1.out.size)
      obtain ⟨G1, hG1⟩ : ∃ g, w3.heap.size = g := ⟨_, rfl⟩
      obtain ⟨G2, hG2⟩ : ∃ g, w3.heap.size + 1 = g := ⟨_, rfl⟩
      have K1 := (five_new w3 (.int .i64 p1) (.int .i64 x0) (.int .i64 x1) (.int .i64 x2) (.int .i64 x3) 25).alloc (o := .cells #[.int .i64 of, .int .i64 oc, .bool oh, .bool orr, .int .i64 ov] 31)
      have K2 := five_new (w3.alloc (.cells #[.int .i64 p1, .int .i64 x0, .int .i64 x1, .int .i64 x2, .int .i64 x3] 25)) (.int .i64 of) (.int .i64 oc) (.bool oh) (.bool orr) (.int .i64 ov) 31
      rw [show (w3.alloc (.cells #[.int .i64 p1, .int .i64 x0, .int .i64 x1, .int .i64 x2, .int .i64 x3] 25)).heap.size = w3.heap.size + 1 by simp, hG2] at K2
      rw [hG1] at K1
      have K0 := (HF1.out.below hb3 HF1.out.1)
      have HK0 := hid K0
      have HBW3 := hid ((hbw3.alloc hbw3.size (.cells #[.int .i64 p1, .int .i64 x0, .int .i64 x1, .int .i64 x2, .int .i64 x3] 25)).alloc (by have := hbw3.size; simp; omega) (.cells #[.int .i64 of, .int .i64 oc, .bool oh, .bool orr, .int .i64 ov] 31))
      have HK1 := hid K1
      have HK2 := hid K2
      have HS1 := hid (hs1.below ((alloc_belowI w3 (.cells #[.int .i64 p1, .int .i64 x0, .int .i64 x1, .int .i64 x2, .int .i64 x3] 25)).alloc (by simp) (.cells #[.int .i64 of, .int .i64 oc, .bool oh, .bool orr, .int .i64 ov] 31)))
      have HG1 := hid hG1
      have HG2 := hid hG2
      clear a0 a1 a2 a3 a4
      obtain ⟨_, _, a0, a1, a2, a3, a4⟩ := K0
      clear hb3 hbw3 K1 K2 hs1 hG1 hG2
      go_wp2_with fail
      refine (HH2.out HFE.out _ HBW3.out).mono ?_
      rintro e w5 ⟨u2, rfl, hs2, hb5⟩
      rw [HG2.out, HG1.out]
      have hbw5 := HBW3.out.trans (hb5.mono HBW3.out.size)
      obtain ⟨G3, hG3⟩ : ∃ g, w5.heap.size = g := ⟨_, rfl⟩
      obtain ⟨G4, hG4⟩ : ∃ g, w5.heap.size + 1 = g := ⟨_, rfl⟩
      have L1 := ((HK1.out.below hb5 HK1.out.1).alloc (o := .cells #[.int .i64 p1, .int .i64 x0, .int .i64 x1, .int .i64 x2, .int .i64 x3] 25)).alloc (o := .cells #[.int .i64 of, .int .i64 oc, .bool oh, .bool orr, .int .i64 ov] 31)
      have L2 := ((HK2.out.below hb5 HK2.out.1).alloc (o := .cells #[.int .i64 p1, .int .i64 x0, .int .i64 x1, .int .i64 x2, .int .i64 x3] 25)).alloc (o := .cells #[.int .i64 of, .int .i64 oc, .bool oh, .bool orr, .int .i64 ov] 31)
      have L3 := (five_new w5 (.int .i64 p1) (.int .i64 x0) (.int .i64 x1) (.int .i64 x2) (.int .i64 x3) 25).alloc (o := .cells #[.int .i64 of, .int .i64 oc, .bool oh, .bool orr, .int .i64 ov] 31)
      have L4 := five_new (w5.alloc (.cells #[.int .i64 p1, .int .i64 x0, .int .i64 x1, .int .i64 x2, .int .i64 x3] 25)) (.int .i64 of) (.int .i64 oc) (.bool oh) (.bool orr) (.int .i64 ov) 31
      rw [show (w5.alloc (.cells #[.int .i64 p1, .int .i64 x0, .int .i64 x1, .int .i64 x2, .int .i64 x3] 25)).heap.size = w5.heap.size + 1 by simp, hG4] at L4
      rw [hG3] at L3
      obtain ⟨W5, hW5⟩ : ∃ W, (w5.alloc (.cells #[.int .i64 p1, .int .i64 x0, .int .i64 x1, .int .i64 x2, .int .i64 x3] 25)).alloc (.cells #[.int .i64 of, .int .i64 oc, .bool oh, .bool orr, .int .i64 ov] 31) = W := ⟨_, rfl⟩
      rw [hW5] at L1 L2 L3 L4
      have hb55 : Below w5.heap.size w5 W5 := by rw [← hW5]; exact (alloc_belowI w5 (.cells #[.int .i64 p1, .int .i64 x0, .int .i64 x1, .int .i64 x2, .int .i64 x3] 25)).alloc (by simp) _
      have HSM := hid (same_self u1 u2 m1 W5 ((HS1.out.below hb5).below hb55) (hs2.below hb55))
      have HBW5 := hid (hbw5.trans (hb55.mono hbw5.size))
      have HW5 := hid hW5
      have HL1 := hid L1
      have HL2 := hid L2
      have HL3 := hid L3
      have HL4 := hid L4
      have HG3 := hid hG3
      have HG4 := hid hG4
      clear hb5 hbw5 hb55 hW5 L1 L2 L3 L4 hs2 hG3 hG4 a0 a1 a2 a3 a4
      go_wp2_with fail
      rw [HW5.out]
      rw [HG4.out, HG3.out]
      refine HSM.out.mono ?_
      rintro e w6 ⟨rfl, hb6⟩
      obtain ⟨_, _, a0, a1, a2, a3, a4⟩ := HL1.out.below hb6 HL1.out.1
      obtain ⟨_, _, b0, b1, b2, b3, b4⟩ := HL2.out.below hb6 HL2.out.1
      obtain ⟨_, _, c0, c1, c2, c3, c4⟩ := HL3.out.below hb6 HL3.out.1
      obtain ⟨_, _, d0, d1, d2, d3, d4⟩ := HL4.out.below hb6 HL4.out.1
      have HB6 := hid (HBW5.out.trans (hb6.mono HBW5.out.size))
      clear hb6
      have heq := fun w => arr_self w x0 x1 x2 x3
      go_wp2
      go_ret
      exact ⟨rfl, HB6.out⟩
    · have hn' : 200 < n := by omega
      go_wp2
      go_ret
      exact ⟨rfl, HBW1.out⟩
end Go.Proofs.YtedldckijblnhaaDoor
