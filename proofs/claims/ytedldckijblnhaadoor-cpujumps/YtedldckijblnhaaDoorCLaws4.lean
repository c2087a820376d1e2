/-
  CpuJumps returns true, whatever it is given, and nothing that was there is written.
-/
import Derived.Test.YtedldckijblnhaaDoorCLaws1
namespace Go.Proofs.YtedldckijblnhaaDoor
open Go.RowKit
set_option linter.unusedVariables false

theorem arr_top (w : World) (x0 x1 x2 x3 : Int) : (Op.equalIn 10000 23 (.agg #[.int .i64 x0, .int .i64 x1, .int .i64 x2, .int .i64 x3]) (.agg #[.int .i64 x0, .int .i64 x1, .int .i64 x2, .int .i64 x3])).run Tryd.prog w = .ok true w := by
  obtain ⟨i0, hi, hz0, hz1, hz2⟩ := info_parts Tryd.infoI
  have h := arr_self w x0 x1 x2 x3
  have hc : Tryd.prog.cellsOf 3 = 1 := by kernel_rfl
  have hp : ∀ (w : World) (xs : Array Value) (i : Nat) (v : Value), xs[i]? = some v → (part 3 xs i).run Tryd.prog w = .ok v w := by
    intro w xs i v h
    simp [part, isAgg, run_underlying Tryd.underlying3, h]
  have p0 := fun w => hp w #[.int .i64 x0, .int .i64 x1, .int .i64 x2, .int .i64 x3] 0 (.int .i64 x0) rfl
  have p1 := fun w => hp w #[.int .i64 x0, .int .i64 x1, .int .i64 x2, .int .i64 x3] 1 (.int .i64 x1) rfl
  have p2 := fun w => hp w #[.int .i64 x0, .int .i64 x1, .int .i64 x2, .int .i64 x3] 2 (.int .i64 x2) rfl
  have p3 := fun w => hp w #[.int .i64 x0, .int .i64 x1, .int .i64 x2, .int .i64 x3] 3 (.int .i64 x3) rfl
  have he := arr_item 9998
  rw [run_equalIn_array w 9999 _ _ Tryd.underlying23 hi, hc, show List.range 4 = [0, 1, 2, 3] from rfl]
  simp [Op.eqItems, Sem.run_bind, p0, p1, p2, p3, he]

theorem same_one (va vb : Value) (xs : List Int) (w : World) (ha : Sees w .i64 va xs) (hb : Sees w .i64 vb xs) :
    Calls Tryd.prog 14 #[va, vb] w fun e w' => e = .returned (.bool true) ∧ Below w.heap.size w w' := by
  refine (same_any va vb xs xs w ha hb).mono ?_
  rintro e w' ⟨rfl, h⟩
  exact ⟨by simp, h⟩
theorem sees_i1 (w : World) (r : In) : SeesI (w.alloc (.cells #[.int .i64 r.o, .int .i64 r.a, .int .i64 r.b] 44)) (.slice (some ⟨w.heap.size, 0, none⟩) 1 1) [r] := by
  refine .inr ⟨_, 1, rfl, by simp, by decide, fun i hi j hj => ?_⟩
  have hi' : i = 0 := by simp at hi; omega
  have hj' : j = 0 ∨ j = 1 ∨ j = 2 := by omega
  subst hi'
  rcases hj' with rfl | rfl | rfl <;> simp [add_none, In.cells]
theorem step_one (r : In) (c : Co) (m : List Int) (now : Int) (h : mayI r = true) (hp : c.p = 0) : stepS [r] c m [] now = stepI r c m [] now := by
  unfold stepS
  rw [if_pos ⟨by omega, by rw [hp]; simp, by rw [hp]; exact h⟩, hp]
  rfl

set_option maxRecDepth 100000 in
set_option maxHeartbeats 3200000 in
theorem jumps_in (w : World) (hL : Laid w) (at' x wh now number : Int) (hx : fit64 x) (h0 : 0 ≤ at') (h1 : at' ≤ 63) (h2 : 0 ≤ number) (h3 : number < 26) (hwh : wh = if x = 0 then at' else 1) (vm : Value) (m : List Int) (s2 : Sees w .i64 vm m) (hlen : m.length ≤ 64) :
    Calls Tryd.prog 8 #[.int .i64 at', .int .i64 x, .int .i64 now, .int .i64 number, vm] w fun e w' => e = .returned (.bool true) ∧ Below w.heap.size w w' := by
  have hcf : Co.fit ⟨0, x, 0, 0, 0⟩ := by unfold fit64 at hx; simp [Co.fit, fit64]; omega
  have HA := hid (cawake_any w hL)
  have H0 : ∀ w2 vc, Laid w2 → SeesI w2 vc [⟨10, 0, at'⟩] → Sees w2 .i64 vm m → Calls Tryd.prog 12 #[vc, .agg #[.int .i64 0, .int .i64 x, .int .i64 0, .int .i64 0, .int .i64 0], vm, .slice none 0 0, .int .i64 now] w2 fun e w' => ∃ u, e = .returned (.tuple #[.agg #[.int .i64 (at'), .int .i64 x, .int .i64 0, .int .i64 0, .int .i64 0], u, .agg #[.int .i64 0, .int .i64 (-1), .bool false, .bool false, .int .i64 0]]) ∧ Sees w' .i64 u m ∧ Below w2.heap.size w2 w' := fun w2 vc hl hc hm => by
    have := step_any vc vm (.slice none 0 0) _ ⟨0, x, 0, 0, 0⟩ m [] now w2 hl hc hm (SeesR.nil _) hcf (by simp) (by omega)
    rw [step_one _ _ _ _ (by simp [mayI, wiB, rowA, rowB, rowLo, rowHi]; omega) rfl] at this
    exact this
  have HH0 := hid H0
  have H1 : ∀ w2 vc, Laid w2 → SeesI w2 vc [⟨11, 0, at'⟩] → Sees w2 .i64 vm m → Calls Tryd.prog 12 #[vc, .agg #[.int .i64 0, .int .i64 x, .int .i64 0, .int .i64 0, .int .i64 0], vm, .slice none 0 0, .int .i64 now] w2 fun e w' => ∃ u, e = .returned (.tuple #[.agg #[.int .i64 wh, .int .i64 x, .int .i64 0, .int .i64 0, .int .i64 0], u, .agg #[.int .i64 0, .int .i64 (-1), .bool false, .bool false, .int .i64 0]]) ∧ Sees w' .i64 u m ∧ Below w2.heap.size w2 w' := fun w2 vc hl hc hm => by
    have := step_any vc vm (.slice none 0 0) _ ⟨0, x, 0, 0, 0⟩ m [] now w2 hl hc hm (SeesR.nil _) hcf (by simp) (by omega)
    rw [step_one _ _ _ _ (by simp [mayI, wiB, rowA, rowB, rowLo, rowHi]; omega) rfl] at this
    rw [show stepI ⟨11, 0, at'⟩ ⟨0, x, 0, 0, 0⟩ m [] now = (⟨wh, x, 0, 0, 0⟩, m, quietO) by rw [hwh]; rfl] at this
    exact this
  have HH1 := hid H1
  have H2 : ∀ w2 vc, Laid w2 → SeesI w2 vc [⟨18, 2, 0⟩] → Sees w2 .i64 vm m → Calls Tryd.prog 12 #[vc, .agg #[.int .i64 0, .int .i64 x, .int .i64 0, .int .i64 0, .int .i64 0], vm, .slice none 0 0, .int .i64 now] w2 fun e w' => ∃ u, e = .returned (.tuple #[.agg #[.int .i64 1, .int .i64 x, .int .i64 0, .int .i64 now, .int .i64 0], u, .agg #[.int .i64 0, .int .i64 (-1), .bool false, .bool true, .int .i64 now]]) ∧ Sees w' .i64 u m ∧ Below w2.heap.size w2 w' := fun w2 vc hl hc hm => by
    have := step_any vc vm (.slice none 0 0) _ ⟨0, x, 0, 0, 0⟩ m [] now w2 hl hc hm (SeesR.nil _) hcf (by simp) (by omega)
    rw [step_one _ _ _ _ (by simp [mayI, wiB, rowA, rowB, rowLo, rowHi]) rfl] at this
    exact this
  have HH2 := hid H2
  have H3 : ∀ w2 vc, Laid w2 → SeesI w2 vc [⟨19, 0, number⟩] → Sees w2 .i64 vm m → Calls Tryd.prog 12 #[vc, .agg #[.int .i64 0, .int .i64 x, .int .i64 0, .int .i64 0, .int .i64 0], vm, .slice none 0 0, .int .i64 now] w2 fun e w' => ∃ u, e = .returned (.tuple #[.agg #[.int .i64 1, .int .i64 x, .int .i64 0, .int .i64 0, .int .i64 0], u, .agg #[.int .i64 0, .int .i64 number, .bool false, .bool false, .int .i64 0]]) ∧ Sees w' .i64 u m ∧ Below w2.heap.size w2 w' := fun w2 vc hl hc hm => by
    have := step_any vc vm (.slice none 0 0) _ ⟨0, x, 0, 0, 0⟩ m [] now w2 hl hc hm (SeesR.nil _) hcf (by simp) (by omega)
    rw [step_one _ _ _ _ (by simp [mayI, wiB, rowA, rowB, rowLo, rowHi]; omega) rfl] at this
    exact this
  have HH3 := hid H3
  have HS := hid s2
  have HL := hid hL
  have HWH := hid hwh
  obtain ⟨am, cm, rfl, z1, z2, z3⟩ := s2.form
  have hx1 : (x = 0 ∧ wh = at') ∨ (¬ x = 0 ∧ wh = 1) := by
    by_cases h : x = 0
    · exact .inl ⟨h, by rw [hwh, if_pos h]⟩
    · exact .inr ⟨h, by rw [hwh, if_neg h]⟩
  have HX := hid hx1
  clear H0 H1 H2 H3 z1 z2 z3 s2 hL hcf hwh hx hx1
  obtain ⟨N, hN⟩ : ∃ n, m.length = n := ⟨_, rfl⟩
  rw [hN]
  rw [hN] at HS hlen HH0 HH1 HH2 HH3
  clear hN
  have hn0 : ¬ (at' < 0) := by omega
  have hn1 : ¬ (63 < at') := by omega
  have hn2 : ¬ (number < 0) := by omega
  have hn3 : ¬ (26 ≤ number) := by omega
  have hn4 : ¬ ((64 : Int) < (N : Int)) := by omega
  clear h0 h1 h2 h3 hlen
  go_enter Tryd.func8, Tryd.ntmps8
  go_wp2_with fail
  refine (HA.out).mono ?_
  rintro e w1 ⟨rfl, hb1⟩
  have HB := hid hb1
  clear hb1
  obtain ⟨GC, hGC⟩ : ∃ g, w1.heap.size = g := ⟨_, rfl⟩
  obtain ⟨GX, hGX⟩ : ∃ g, w1.heap.size + 1 = g := ⟨_, rfl⟩
  obtain ⟨Y, hY⟩ : ∃ Y, ((w1.alloc (.cells #[.int .i64 0, .int .i64 x, .int .i64 0, .int .i64 0, .int .i64 0] 25)).alloc (.cells #[.int .i64 10, .int .i64 0, .int .i64 (at')] 44)) = Y := ⟨_, rfl⟩
  have hbY : Below w1.heap.size w1 Y := by rw [← hY]; exact (alloc_belowI _ _).alloc (by simp) _
  have FC : FiveAt Y GC (.int .i64 0) (.int .i64 x) (.int .i64 0) (.int .i64 0) (.int .i64 0) := by rw [← hY, ← hGC]; exact (five_new w1 _ _ _ _ _ _).alloc
  have hsi : SeesI Y (.slice (some ⟨GX, 0, none⟩) 1 1) [⟨10, 0, at'⟩] := by
    have h := sees_i1 (w1.alloc (.cells #[.int .i64 0, .int .i64 x, .int .i64 0, .int .i64 0, .int .i64 0] 25)) ⟨10, 0, at'⟩
    rw [show (w1.alloc (.cells #[.int .i64 0, .int .i64 x, .int .i64 0, .int .i64 0, .int .i64 0] 25)).heap.size = w1.heap.size + 1 by simp, hGX] at h
    rw [← hY]; exact h
  have HST := hid (HH0.out Y _ ((HL.out.below HB.out).below hbY) hsi ((HS.out.below HB.out).below hbY))
  have HBY := hid (HB.out.trans (hbY.mono HB.out.size))
  have HFC := hid FC
  have HY := hid hY
  have HGX := hid hGX
  have HGC := hid hGC
  clear hbY FC hsi hY hGX hGC
  go_wp2_with fail
  rw [HY.out, HGX.out, HGC.out]
  refine HST.out.mono ?_
  rintro e w2 ⟨u0, rfl, hs0, hb2⟩
  obtain ⟨A0, hA0⟩ : ∃ g, w2.heap.size = g := ⟨_, rfl⟩
  obtain ⟨O0, hO0⟩ : ∃ g, w2.heap.size + 1 = g := ⟨_, rfl⟩
  obtain ⟨X0, hX0⟩ : ∃ g, w2.heap.size + 1 + 1 = g := ⟨_, rfl⟩
  obtain ⟨Y0, hY0⟩ : ∃ Y, (((w2.alloc (.cells #[.int .i64 (at'), .int .i64 x, .int .i64 0, .int .i64 0, .int .i64 0] 25)).alloc (.cells #[.int .i64 0, .int .i64 (-1), .bool false, .bool false, .int .i64 0] 31)).alloc (.cells #[.int .i64 11, .int .i64 0, .int .i64 (at')] 44)) = Y := ⟨_, rfl⟩
  have hbY : Below w2.heap.size w2 Y0 := by rw [← hY0]; exact ((alloc_belowI _ _).alloc (by simp) _).alloc (by simp; omega) _
  have hbW := HBY.out.trans (hb2.mono HBY.out.size)
  have FA0 : FiveAt Y0 A0 (.int .i64 (at')) (.int .i64 x) (.int .i64 0) (.int .i64 0) (.int .i64 0) := by rw [← hY0, ← hA0]; exact (five_new w2 _ _ _ _ _ _).alloc.alloc
  have FO0 : FiveAt Y0 O0 (.int .i64 0) (.int .i64 (-1)) (.bool false) (.bool false) (.int .i64 0) := by
    have h := five_new (w2.alloc (.cells #[.int .i64 (at'), .int .i64 x, .int .i64 0, .int .i64 0, .int .i64 0] 25)) (.int .i64 0) (.int .i64 (-1)) (.bool false) (.bool false) (.int .i64 0) 31
    rw [show (w2.alloc (.cells #[.int .i64 (at'), .int .i64 x, .int .i64 0, .int .i64 0, .int .i64 0] 25)).heap.size = w2.heap.size + 1 by simp, hO0] at h
    rw [← hY0]; exact h.alloc
  have KHFC := (HFC.out.below hb2 HFC.out.1).below hbY (by have := HFC.out.1; have := hb2.size; omega)
  have fcl := KHFC
  rw [← hY0] at fcl
  obtain ⟨_, _, a0, a1, a2, a3, a4⟩ := fcl
  have hsi : SeesI Y0 (.slice (some ⟨X0, 0, none⟩) 1 1) [⟨11, 0, at'⟩] := by
    have h := sees_i1 ((w2.alloc (.cells #[.int .i64 (at'), .int .i64 x, .int .i64 0, .int .i64 0, .int .i64 0] 25)).alloc (.cells #[.int .i64 0, .int .i64 (-1), .bool false, .bool false, .int .i64 0] 31)) ⟨11, 0, at'⟩
    rw [show ((w2.alloc (.cells #[.int .i64 (at'), .int .i64 x, .int .i64 0, .int .i64 0, .int .i64 0] 25)).alloc (.cells #[.int .i64 0, .int .i64 (-1), .bool false, .bool false, .int .i64 0] 31)).heap.size = w2.heap.size + 1 + 1 by simp, hX0] at h
    rw [← hY0]; exact h
  have HST := hid (HH1.out Y0 _ ((HL.out.below hbW).below hbY) hsi ((HS.out.below hbW).below hbY))
  have HU0 := hid (hs0.below hbY)
  have HBY2 := hid (hbW.trans (hbY.mono hbW.size))
  have HFA0 := hid FA0
  have HFO0 := hid FO0
  have HY0 := hid hY0
  have HA0 := hid hA0
  have HO0 := hid hO0
  have HX0 := hid hX0
  replace HFC := hid KHFC
  clear KHFC
  replace HBY := HBY2
  clear HBY2 hbY hbW FA0 FO0 hY0 hA0 hO0 hb2 hs0 hX0 hsi
  go_wp2_with fail
  clear a0 a1 a2 a3 a4
  rw [HY0.out, HX0.out, HO0.out, HA0.out]
  refine HST.out.mono ?_
  rintro e w3 ⟨u1, rfl, hs1, hb3⟩
  obtain ⟨A1, hA1⟩ : ∃ g, w3.heap.size = g := ⟨_, rfl⟩
  obtain ⟨O1, hO1⟩ : ∃ g, w3.heap.size + 1 = g := ⟨_, rfl⟩
  obtain ⟨X1, hX1⟩ : ∃ g, w3.heap.size + 1 + 1 = g := ⟨_, rfl⟩
  obtain ⟨Y1, hY1⟩ : ∃ Y, (((w3.alloc (.cells #[.int .i64 wh, .int .i64 x, .int .i64 0, .int .i64 0, .int .i64 0] 25)).alloc (.cells #[.int .i64 0, .int .i64 (-1), .bool false, .bool false, .int .i64 0] 31)).alloc (.cells #[.int .i64 18, .int .i64 2, .int .i64 0] 44)) = Y := ⟨_, rfl⟩
  have hbY : Below w3.heap.size w3 Y1 := by rw [← hY1]; exact ((alloc_belowI _ _).alloc (by simp) _).alloc (by simp; omega) _
  have hbW := HBY.out.trans (hb3.mono HBY.out.size)
  have FA1 : FiveAt Y1 A1 (.int .i64 wh) (.int .i64 x) (.int .i64 0) (.int .i64 0) (.int .i64 0) := by rw [← hY1, ← hA1]; exact (five_new w3 _ _ _ _ _ _).alloc.alloc
  have FO1 : FiveAt Y1 O1 (.int .i64 0) (.int .i64 (-1)) (.bool false) (.bool false) (.int .i64 0) := by
    have h := five_new (w3.alloc (.cells #[.int .i64 wh, .int .i64 x, .int .i64 0, .int .i64 0, .int .i64 0] 25)) (.int .i64 0) (.int .i64 (-1)) (.bool false) (.bool false) (.int .i64 0) 31
    rw [show (w3.alloc (.cells #[.int .i64 wh, .int .i64 x, .int .i64 0, .int .i64 0, .int .i64 0] 25)).heap.size = w3.heap.size + 1 by simp, hO1] at h
    rw [← hY1]; exact h.alloc
  have KHFC := (HFC.out.below hb3 HFC.out.1).below hbY (by have := HFC.out.1; have := hb3.size; omega)
  have KHFA0 := (HFA0.out.below hb3 HFA0.out.1).below hbY (by have := HFA0.out.1; have := hb3.size; omega)
  have KHFO0 := (HFO0.out.below hb3 HFO0.out.1).below hbY (by have := HFO0.out.1; have := hb3.size; omega)
  have fcl := KHFC
  rw [← hY1] at fcl
  obtain ⟨_, _, a0, a1, a2, a3, a4⟩ := fcl
  have hsi : SeesI Y1 (.slice (some ⟨X1, 0, none⟩) 1 1) [⟨18, 2, 0⟩] := by
    have h := sees_i1 ((w3.alloc (.cells #[.int .i64 wh, .int .i64 x, .int .i64 0, .int .i64 0, .int .i64 0] 25)).alloc (.cells #[.int .i64 0, .int .i64 (-1), .bool false, .bool false, .int .i64 0] 31)) ⟨18, 2, 0⟩
    rw [show ((w3.alloc (.cells #[.int .i64 wh, .int .i64 x, .int .i64 0, .int .i64 0, .int .i64 0] 25)).alloc (.cells #[.int .i64 0, .int .i64 (-1), .bool false, .bool false, .int .i64 0] 31)).heap.size = w3.heap.size + 1 + 1 by simp, hX1] at h
    rw [← hY1]; exact h
  have HST := hid (HH2.out Y1 _ ((HL.out.below hbW).below hbY) hsi ((HS.out.below hbW).below hbY))
  have HU1 := hid (hs1.below hbY)
  have HV0 := hid ((HU0.out.below hb3).below hbY)
  have HBY2 := hid (hbW.trans (hbY.mono hbW.size))
  have HFA1 := hid FA1
  have HFO1 := hid FO1
  have HY1 := hid hY1
  have HA1 := hid hA1
  have HO1 := hid hO1
  have HX1 := hid hX1
  replace HFC := hid KHFC
  clear KHFC
  replace HFA0 := hid KHFA0
  clear KHFA0
  replace HFO0 := hid KHFO0
  clear KHFO0
  replace HU0 := HV0
  clear HV0
  replace HBY := HBY2
  clear HBY2 hbY hbW FA1 FO1 hY1 hA1 hO1 hb3 hs1 hX1 hsi
  go_wp2_with fail
  clear a0 a1 a2 a3 a4
  rw [HY1.out, HX1.out, HO1.out, HA1.out]
  refine HST.out.mono ?_
  rintro e w4 ⟨u2, rfl, hs2, hb4⟩
  obtain ⟨A2, hA2⟩ : ∃ g, w4.heap.size = g := ⟨_, rfl⟩
  obtain ⟨O2, hO2⟩ : ∃ g, w4.heap.size + 1 = g := ⟨_, rfl⟩
  obtain ⟨X2, hX2⟩ : ∃ g, w4.heap.size + 1 + 1 = g := ⟨_, rfl⟩
  obtain ⟨Y2, hY2⟩ : ∃ Y, (((w4.alloc (.cells #[.int .i64 1, .int .i64 x, .int .i64 0, .int .i64 now, .int .i64 0] 25)).alloc (.cells #[.int .i64 0, .int .i64 (-1), .bool false, .bool true, .int .i64 now] 31)).alloc (.cells #[.int .i64 19, .int .i64 0, .int .i64 number] 44)) = Y := ⟨_, rfl⟩
  have hbY : Below w4.heap.size w4 Y2 := by rw [← hY2]; exact ((alloc_belowI _ _).alloc (by simp) _).alloc (by simp; omega) _
  have hbW := HBY.out.trans (hb4.mono HBY.out.size)
  have FA2 : FiveAt Y2 A2 (.int .i64 1) (.int .i64 x) (.int .i64 0) (.int .i64 now) (.int .i64 0) := by rw [← hY2, ← hA2]; exact (five_new w4 _ _ _ _ _ _).alloc.alloc
  have FO2 : FiveAt Y2 O2 (.int .i64 0) (.int .i64 (-1)) (.bool false) (.bool true) (.int .i64 now) := by
    have h := five_new (w4.alloc (.cells #[.int .i64 1, .int .i64 x, .int .i64 0, .int .i64 now, .int .i64 0] 25)) (.int .i64 0) (.int .i64 (-1)) (.bool false) (.bool true) (.int .i64 now) 31
    rw [show (w4.alloc (.cells #[.int .i64 1, .int .i64 x, .int .i64 0, .int .i64 now, .int .i64 0] 25)).heap.size = w4.heap.size + 1 by simp, hO2] at h
    rw [← hY2]; exact h.alloc
  have KHFC := (HFC.out.below hb4 HFC.out.1).below hbY (by have := HFC.out.1; have := hb4.size; omega)
  have KHFA0 := (HFA0.out.below hb4 HFA0.out.1).below hbY (by have := HFA0.out.1; have := hb4.size; omega)
  have KHFO0 := (HFO0.out.below hb4 HFO0.out.1).below hbY (by have := HFO0.out.1; have := hb4.size; omega)
  have KHFA1 := (HFA1.out.below hb4 HFA1.out.1).below hbY (by have := HFA1.out.1; have := hb4.size; omega)
  have KHFO1 := (HFO1.out.below hb4 HFO1.out.1).below hbY (by have := HFO1.out.1; have := hb4.size; omega)
  have fcl := KHFC
  rw [← hY2] at fcl
  obtain ⟨_, _, a0, a1, a2, a3, a4⟩ := fcl
  have hsi : SeesI Y2 (.slice (some ⟨X2, 0, none⟩) 1 1) [⟨19, 0, number⟩] := by
    have h := sees_i1 ((w4.alloc (.cells #[.int .i64 1, .int .i64 x, .int .i64 0, .int .i64 now, .int .i64 0] 25)).alloc (.cells #[.int .i64 0, .int .i64 (-1), .bool false, .bool true, .int .i64 now] 31)) ⟨19, 0, number⟩
    rw [show ((w4.alloc (.cells #[.int .i64 1, .int .i64 x, .int .i64 0, .int .i64 now, .int .i64 0] 25)).alloc (.cells #[.int .i64 0, .int .i64 (-1), .bool false, .bool true, .int .i64 now] 31)).heap.size = w4.heap.size + 1 + 1 by simp, hX2] at h
    rw [← hY2]; exact h
  have HST := hid (HH3.out Y2 _ ((HL.out.below hbW).below hbY) hsi ((HS.out.below hbW).below hbY))
  have HU2 := hid (hs2.below hbY)
  have HV0 := hid ((HU0.out.below hb4).below hbY)
  have HV1 := hid ((HU1.out.below hb4).below hbY)
  have HBY2 := hid (hbW.trans (hbY.mono hbW.size))
  have HFA2 := hid FA2
  have HFO2 := hid FO2
  have HY2 := hid hY2
  have HA2 := hid hA2
  have HO2 := hid hO2
  have HX2 := hid hX2
  replace HFC := hid KHFC
  clear KHFC
  replace HFA0 := hid KHFA0
  clear KHFA0
  replace HFO0 := hid KHFO0
  clear KHFO0
  replace HFA1 := hid KHFA1
  clear KHFA1
  replace HFO1 := hid KHFO1
  clear KHFO1
  replace HU0 := HV0
  clear HV0
  replace HU1 := HV1
  clear HV1
  replace HBY := HBY2
  clear HBY2 hbY hbW FA2 FO2 hY2 hA2 hO2 hb4 hs2 hX2 hsi
  go_wp2_with fail
  clear a0 a1 a2 a3 a4
  rw [HY2.out, HX2.out, HO2.out, HA2.out]
  refine HST.out.mono ?_
  rintro e w5 ⟨u3, rfl, hs3, hb5⟩
  obtain ⟨A3, hA3⟩ : ∃ g, w5.heap.size = g := ⟨_, rfl⟩
  obtain ⟨O3, hO3⟩ : ∃ g, w5.heap.size + 1 = g := ⟨_, rfl⟩
  obtain ⟨Y3, hY3⟩ : ∃ Y, ((w5.alloc (.cells #[.int .i64 1, .int .i64 x, .int .i64 0, .int .i64 0, .int .i64 0] 25)).alloc (.cells #[.int .i64 0, .int .i64 number, .bool false, .bool false, .int .i64 0] 31)) = Y := ⟨_, rfl⟩
  have hbY : Below w5.heap.size w5 Y3 := by rw [← hY3]; exact (alloc_belowI _ _).alloc (by simp) _
  have hbW := HBY.out.trans (hb5.mono HBY.out.size)
  have FA3 : FiveAt Y3 A3 (.int .i64 1) (.int .i64 x) (.int .i64 0) (.int .i64 0) (.int .i64 0) := by rw [← hY3, ← hA3]; exact (five_new w5 _ _ _ _ _ _).alloc
  have FO3 : FiveAt Y3 O3 (.int .i64 0) (.int .i64 number) (.bool false) (.bool false) (.int .i64 0) := by
    have h := five_new (w5.alloc (.cells #[.int .i64 1, .int .i64 x, .int .i64 0, .int .i64 0, .int .i64 0] 25)) (.int .i64 0) (.int .i64 number) (.bool false) (.bool false) (.int .i64 0) 31
    rw [show (w5.alloc (.cells #[.int .i64 1, .int .i64 x, .int .i64 0, .int .i64 0, .int .i64 0] 25)).heap.size = w5.heap.size + 1 by simp, hO3] at h
    rw [← hY3]; exact h
  have KHFC := (HFC.out.below hb5 HFC.out.1).below hbY (by have := HFC.out.1; have := hb5.size; omega)
  have KHFA0 := (HFA0.out.below hb5 HFA0.out.1).below hbY (by have := HFA0.out.1; have := hb5.size; omega)
  have KHFO0 := (HFO0.out.below hb5 HFO0.out.1).below hbY (by have := HFO0.out.1; have := hb5.size; omega)
  have KHFA1 := (HFA1.out.below hb5 HFA1.out.1).below hbY (by have := HFA1.out.1; have := hb5.size; omega)
  have KHFO1 := (HFO1.out.below hb5 HFO1.out.1).below hbY (by have := HFO1.out.1; have := hb5.size; omega)
  have KHFA2 := (HFA2.out.below hb5 HFA2.out.1).below hbY (by have := HFA2.out.1; have := hb5.size; omega)
  have KHFO2 := (HFO2.out.below hb5 HFO2.out.1).below hbY (by have := HFO2.out.1; have := hb5.size; omega)
  have HU3 := hid (hs3.below hbY)
  have HV0 := hid ((HU0.out.below hb5).below hbY)
  have HV1 := hid ((HU1.out.below hb5).below hbY)
  have HV2 := hid ((HU2.out.below hb5).below hbY)
  have HBY2 := hid (hbW.trans (hbY.mono hbW.size))
  have HFA3 := hid FA3
  have HFO3 := hid FO3
  have HY3 := hid hY3
  have HA3 := hid hA3
  have HO3 := hid hO3
  replace HFC := hid KHFC
  clear KHFC
  replace HFA0 := hid KHFA0
  clear KHFA0
  replace HFO0 := hid KHFO0
  clear KHFO0
  replace HFA1 := hid KHFA1
  clear KHFA1
  replace HFO1 := hid KHFO1
  clear KHFO1
  replace HFA2 := hid KHFA2
  clear KHFA2
  replace HFO2 := hid KHFO2
  clear KHFO2
  replace HU0 := HV0
  clear HV0
  replace HU1 := HV1
  clear HV1
  replace HU2 := HV2
  clear HV2
  replace HBY := HBY2
  clear HBY2 hbY hbW FA3 FO3 hY3 hA3 hO3 hb5 hs3
  go_wp2_with fail
  rw [HY3.out, HO3.out, HA3.out]
  refine (same_one _ _ m _ HU0.out (HS.out.below HBY.out)).mono ?_
  rintro e v0 ⟨rfl, hb⟩
  replace HFC := hid (HFC.out.below hb HFC.out.1)
  replace HFA0 := hid (HFA0.out.below hb HFA0.out.1)
  replace HFO0 := hid (HFO0.out.below hb HFO0.out.1)
  replace HFA1 := hid (HFA1.out.below hb HFA1.out.1)
  replace HFO1 := hid (HFO1.out.below hb HFO1.out.1)
  replace HFA2 := hid (HFA2.out.below hb HFA2.out.1)
  replace HFO2 := hid (HFO2.out.below hb HFO2.out.1)
  replace HFA3 := hid (HFA3.out.below hb HFA3.out.1)
  replace HFO3 := hid (HFO3.out.below hb HFO3.out.1)
  replace HU1 := hid (HU1.out.below hb)
  replace HU2 := hid (HU2.out.below hb)
  replace HU3 := hid (HU3.out.below hb)
  replace HBY := hid (HBY.out.trans (hb.mono HBY.out.size))
  clear hb
  go_wp2_with fail
  refine (same_one _ _ m _ HU1.out (HS.out.below HBY.out)).mono ?_
  rintro e v1 ⟨rfl, hb⟩
  replace HFC := hid (HFC.out.below hb HFC.out.1)
  replace HFA0 := hid (HFA0.out.below hb HFA0.out.1)
  replace HFO0 := hid (HFO0.out.below hb HFO0.out.1)
  replace HFA1 := hid (HFA1.out.below hb HFA1.out.1)
  replace HFO1 := hid (HFO1.out.below hb HFO1.out.1)
  replace HFA2 := hid (HFA2.out.below hb HFA2.out.1)
  replace HFO2 := hid (HFO2.out.below hb HFO2.out.1)
  replace HFA3 := hid (HFA3.out.below hb HFA3.out.1)
  replace HFO3 := hid (HFO3.out.below hb HFO3.out.1)
  replace HU2 := hid (HU2.out.below hb)
  replace HU3 := hid (HU3.out.below hb)
  replace HBY := hid (HBY.out.trans (hb.mono HBY.out.size))
  clear hb
  go_wp2_with fail
  refine (same_one _ _ m _ HU2.out (HS.out.below HBY.out)).mono ?_
  rintro e v2 ⟨rfl, hb⟩
  replace HFC := hid (HFC.out.below hb HFC.out.1)
  replace HFA0 := hid (HFA0.out.below hb HFA0.out.1)
  replace HFO0 := hid (HFO0.out.below hb HFO0.out.1)
  replace HFA1 := hid (HFA1.out.below hb HFA1.out.1)
  replace HFO1 := hid (HFO1.out.below hb HFO1.out.1)
  replace HFA2 := hid (HFA2.out.below hb HFA2.out.1)
  replace HFO2 := hid (HFO2.out.below hb HFO2.out.1)
  replace HFA3 := hid (HFA3.out.below hb HFA3.out.1)
  replace HFO3 := hid (HFO3.out.below hb HFO3.out.1)
  replace HU3 := hid (HU3.out.below hb)
  replace HBY := hid (HBY.out.trans (hb.mono HBY.out.size))
  clear hb
  go_wp2_with fail
  refine (same_one _ _ m _ HU3.out (HS.out.below HBY.out)).mono ?_
  rintro e v3 ⟨rfl, hb⟩
  replace HFC := hid (HFC.out.below hb HFC.out.1)
  replace HFA0 := hid (HFA0.out.below hb HFA0.out.1)
  replace HFO0 := hid (HFO0.out.below hb HFO0.out.1)
  replace HFA1 := hid (HFA1.out.below hb HFA1.out.1)
  replace HFO1 := hid (HFO1.out.below hb HFO1.out.1)
  replace HFA2 := hid (HFA2.out.below hb HFA2.out.1)
  replace HFO2 := hid (HFO2.out.below hb HFO2.out.1)
  replace HFA3 := hid (HFA3.out.below hb HFA3.out.1)
  replace HFO3 := hid (HFO3.out.below hb HFO3.out.1)
  replace HBY := hid (HBY.out.trans (hb.mono HBY.out.size))
  clear hb
  obtain ⟨_, _, a0, a1, a2, a3, a4⟩ := HFC.out
  obtain ⟨_, _, b0, b1, b2, b3, b4⟩ := HFA0.out
  obtain ⟨_, _, c0, c1, c2, c3, c4⟩ := HFA1.out
  obtain ⟨_, _, d0, d1, d2, d3, d4⟩ := HFA2.out
  obtain ⟨_, _, e0, e1, e2, e3, e4⟩ := HFO2.out
  obtain ⟨_, _, f0, f1, f2, f3, f4⟩ := HFA3.out
  obtain ⟨_, _, g0, g1, g2, g3, g4⟩ := HFO3.out
  have heq := fun w => arr_top w x 0 0 0
  rcases HX.out with ⟨rfl, hw⟩ | ⟨hxn, hw⟩
  · subst hw
    go_wp2
    go_ret
    exact ⟨rfl, HBY.out⟩
  · subst hw
    have hxb : (x == 0) = false := by simpa using hxn
    go_wp2
    go_ret
    exact ⟨rfl, HBY.out⟩

set_option maxRecDepth 100000 in
set_option maxHeartbeats 3200000 in
theorem walk_CpuJumps (w : World) (hL : Laid w) (at' : Int) (w0 : (Lit.int .i64 at').wf = true) (x : Int) (w1 : (Lit.int .i64 x).wf = true) (now : Int) (w2 : (Lit.int .i64 now).wf = true) (number : Int) (w3 : (Lit.int .i64 number).wf = true) (vm : Value) (m : List Int) (s4 : Sees w .i64 vm m) (f4 : ∀ n ∈ m, (Lit.int .i64 n).wf = true) :
    Calls Tryd.prog 8 #[.int .i64 at', .int .i64 x, .int .i64 now, .int .i64 number, vm] w fun e w' => e = .returned (.bool true) ∧ Below w.heap.size w w' := by
  by_cases hin : 0 ≤ at' ∧ at' ≤ 63 ∧ 0 ≤ number ∧ number < 26 ∧ m.length ≤ 64
  · obtain ⟨h0, h1, h2, h3, h4⟩ := hin
    exact jumps_in w hL at' x _ now number (bounds_i64 w1) h0 h1 h2 h3 rfl vm m s4 h4
  · have hc : at' < 0 ∨ (¬ (at' < 0) ∧ 63 < at') ∨ (¬ (at' < 0) ∧ ¬ (63 < at') ∧ number < 0) ∨ (¬ (at' < 0) ∧ ¬ (63 < at') ∧ ¬ (number < 0) ∧ 26 ≤ number) ∨ (¬ (at' < 0) ∧ ¬ (63 < at') ∧ ¬ (number < 0) ∧ ¬ (26 ≤ number) ∧ (64 : Int) < (m.length : Int)) := by omega
    have HA := hid (cawake_any w hL)
    obtain ⟨am, cm, rfl, z1, z2, z3⟩ := s4.form
    clear z1 z2 z3 s4 f4 hin hL w0 w1 w2 w3
    generalize m.length = N at *
    rcases hc with h | ⟨h, h'⟩ | ⟨h, h', h2⟩ | ⟨h, h', h2, h3⟩ | ⟨h, h', h2, h3, h4⟩
    all_goals
      go_enter Tryd.func8, Tryd.ntmps8
      go_wp2_with fail
      refine (HA.out).mono ?_
      rintro e w1 ⟨rfl, hb1⟩
      have HB := hid hb1
      clear hb1
      go_wp2
      go_ret
      exact ⟨rfl, HB.out⟩
end Go.Proofs.YtedldckijblnhaaDoor
