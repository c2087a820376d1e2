/-
  CpuStores returns true, whatever it is given, and nothing that was there is written.
-/
import Derived.Test.YtedldckijblnhaaDoorCLaws1
namespace Go.Proofs.YtedldckijblnhaaDoor
open Go.RowKit
set_option linter.unusedVariables false

theorem sees_sl (w : World) : SeesI (w.alloc (.cells #[.int .i64 9, .int .i64 0, .int .i64 1, .int .i64 8, .int .i64 2, .int .i64 1] 44)) (.slice (some ⟨w.heap.size, 0, none⟩) 2 2) [⟨9, 0, 1⟩, ⟨8, 2, 1⟩] := by
  refine .inr ⟨_, 2, rfl, by simp, by decide, fun i hi j hj => ?_⟩
  have hi' : i = 0 ∨ i = 1 := by simp at hi; omega
  have hj' : j = 0 ∨ j = 1 ∨ j = 2 := by omega
  rcases hi' with rfl | rfl <;> rcases hj' with rfl | rfl | rfl <;> simp [add_none, In.cells]
theorem sees_rg (w : World) (r : Rg) : SeesR (w.alloc (.cells #[.int .i64 r.f, .int .i64 r.n, .bool r.wr] 50)) (.slice (some ⟨w.heap.size, 0, none⟩) 1 1) [r] := by
  refine .inr ⟨_, 1, rfl, by simp, by decide, fun i hi j hj => ?_⟩
  have hi' : i = 0 := by simp at hi; omega
  have hj' : j = 0 ∨ j = 1 ∨ j = 2 := by omega
  subst hi'
  rcases hj' with rfl | rfl | rfl <;> simp [add_none, Rg.cells]

theorem touch8 (k : Int) (q : Bool) : touchE 8 [⟨0, 8, true⟩] k q = if k < 0 ∨ 8 ≤ k then 4 else 0 := by
  unfold touchE
  by_cases h : k < 0 ∨ 8 ≤ k
  · rw [if_pos h, if_pos (by omega)]
  · rw [if_neg h, if_neg (by omega)]
    simp [okB, hasB]; omega

theorem st_step (at' value : Int) (m : List Int) (hm : m.length = 8) (h : 0 ≤ at' ∧ at' ≤ 7) :
    stepS [⟨9, 0, 1⟩, ⟨8, 2, 1⟩] ⟨0, value, at', 0, 0⟩ m [⟨0, 8, true⟩] 0 = (⟨1, value, at', 0, 0⟩, m.set at'.toNat value, quietO) := by
  have ht : touchE m.length [⟨0, 8, true⟩] at' true = 0 := by rw [hm, touch8, if_neg (by omega)]
  show (if touchE m.length [⟨0, 8, true⟩] at' true = 0 then ((⟨1, value, at', 0, 0⟩ : Co), storeL m [⟨0, 8, true⟩] at' value, quietO) else _) = _
  rw [if_pos ht]
  unfold storeL
  rw [if_pos ht]
theorem st_fault (at' value : Int) (m : List Int) (hm : m.length = 8) (h : at' < 0 ∨ 7 < at') :
    stepS [⟨9, 0, 1⟩, ⟨8, 2, 1⟩] ⟨0, value, at', 0, 0⟩ m [⟨0, 8, true⟩] 0 = (⟨0, value, at', 0, 0⟩, m, faultO 5) := by
  have ht : ¬ touchE m.length [⟨0, 8, true⟩] at' true = 0 := by rw [hm, touch8, if_pos (by omega)]; decide
  show (if touchE m.length [⟨0, 8, true⟩] at' true = 0 then _ else ((⟨0, value, at', 0, 0⟩ : Co), m, faultO 5)) = _
  rw [if_neg ht]
theorem ld_step (at' value : Int) (m : List Int) (hm : m.length = 8) (h : 0 ≤ at' ∧ at' ≤ 7) :
    stepS [⟨9, 0, 1⟩, ⟨8, 2, 1⟩] ⟨1, value, at', 0, 0⟩ (m.set at'.toNat value) [⟨0, 8, true⟩] 0 = (⟨2, value, at', value, 0⟩, m.set at'.toNat value, readO value) := by
  have hl : (m.set at'.toNat value).length = 8 := by simpa using hm
  have ht : touchE (m.set at'.toNat value).length [⟨0, 8, true⟩] at' false = 0 := by rw [hl, touch8, if_neg (by omega)]
  have hv : loadV (m.set at'.toNat value) [⟨0, 8, true⟩] at' = value := by
    unfold loadV
    rw [if_pos ht]
    simp [List.getD, List.getElem?_set, hm]
    rw [if_pos (by omega)]
    rfl
  show (if touchE (m.set at'.toNat value).length [⟨0, 8, true⟩] at' false = 0 then ((⟨2, value, at', loadV (m.set at'.toNat value) [⟨0, 8, true⟩] at', 0⟩ : Co), m.set at'.toNat value, readO (loadV (m.set at'.toNat value) [⟨0, 8, true⟩] at')) else _) = _
  rw [if_pos ht, hv]
set_option maxRecDepth 100000 in
set_option maxHeartbeats 600000 in
theorem walk_CpuStores (w : World) (hL : Laid w) (at' : Int) (w0 : (Lit.int .i64 at').wf = true) (value : Int) (w1 : (Lit.int .i64 value).wf = true) (vm : Value) (m : List Int) (s2 : Sees w .i64 vm m) (f2 : ∀ n ∈ m, (Lit.int .i64 n).wf = true) :
    Calls Tryd.prog 9 #[.int .i64 at', .int .i64 value, vm] w fun e w' => e = .returned (.bool true) ∧ Below w.heap.size w w' := by
  have hfa := bounds_i64 w0
  have hfv := bounds_i64 w1
  clear w0 w1
  have hcf : Co.fit ⟨0, value, at', 0, 0⟩ := by simp [Co.fit, fit64]; omega
  have hcf1 : Co.fit ⟨1, value, at', 0, 0⟩ := by simp [Co.fit, fit64]; omega
  have hrf : ∀ r ∈ [(⟨0, 8, true⟩ : Rg)], r.fit := by intro r hr; simp at hr; subst hr; simp [Rg.fit]
  have HA := hid (cawake_any w hL)
  have HS2 := hid s2
  have HL := hid hL
  have H1 : m.length = 8 → (0 ≤ at' ∧ at' ≤ 7) → ∀ w2 vc vl vx, Laid w2 → SeesI w2 vc [⟨9, 0, 1⟩, ⟨8, 2, 1⟩] → SeesR w2 vl [⟨0, 8, true⟩] → Sees w2 .i64 vx m → Calls Tryd.prog 12 #[vc, .agg #[.int .i64 0, .int .i64 value, .int .i64 at', .int .i64 0, .int .i64 0], vx, vl, .int .i64 0] w2 fun e w' => ∃ u, e = .returned (.tuple #[.agg #[.int .i64 1, .int .i64 value, .int .i64 at', .int .i64 0, .int .i64 0], u, .agg #[.int .i64 0, .int .i64 (-1), .bool false, .bool false, .int .i64 0]]) ∧ Sees w' .i64 u (m.set at'.toNat value) ∧ Below w2.heap.size w2 w' := fun hm h w2 vc vl vx a b c d => by
    have := step_any vc vx vl _ ⟨0, value, at', 0, 0⟩ m _ 0 w2 a b d c hcf hrf (by omega)
    rw [st_step at' value m hm h] at this
    exact this
  have H2 : m.length = 8 → (0 ≤ at' ∧ at' ≤ 7) → ∀ w2 vc vl vx, Laid w2 → SeesI w2 vc [⟨9, 0, 1⟩, ⟨8, 2, 1⟩] → SeesR w2 vl [⟨0, 8, true⟩] → Sees w2 .i64 vx (m.set at'.toNat value) → Calls Tryd.prog 12 #[vc, .agg #[.int .i64 1, .int .i64 value, .int .i64 at', .int .i64 0, .int .i64 0], vx, vl, .int .i64 0] w2 fun e w' => ∃ u, e = .returned (.tuple #[.agg #[.int .i64 2, .int .i64 value, .int .i64 at', .int .i64 value, .int .i64 0], u, .agg #[.int .i64 0, .int .i64 (-1), .bool false, .bool true, .int .i64 value]]) ∧ Sees w' .i64 u (m.set at'.toNat value) ∧ Below w2.heap.size w2 w' := fun hm h w2 vc vl vx a b c d => by
    have := step_any vc vx vl _ ⟨1, value, at', 0, 0⟩ (m.set at'.toNat value) _ 0 w2 a b d c hcf1 hrf (by simp; omega)
    rw [ld_step at' value m hm h] at this
    exact this
  have H3 : m.length = 8 → (at' < 0 ∨ 7 < at') → ∀ w2 vc vl vx, Laid w2 → SeesI w2 vc [⟨9, 0, 1⟩, ⟨8, 2, 1⟩] → SeesR w2 vl [⟨0, 8, true⟩] → Sees w2 .i64 vx m → Calls Tryd.prog 12 #[vc, .agg #[.int .i64 0, .int .i64 value, .int .i64 at', .int .i64 0, .int .i64 0], vx, vl, .int .i64 0] w2 fun e w' => ∃ u, e = .returned (.tuple #[.agg #[.int .i64 0, .int .i64 value, .int .i64 at', .int .i64 0, .int .i64 0], u, .agg #[.int .i64 5, .int .i64 (-1), .bool false, .bool false, .int .i64 0]]) ∧ Sees w' .i64 u m ∧ Below w2.heap.size w2 w' := fun hm h w2 vc vl vx a b c d => by
    have := step_any vc vx vl _ ⟨0, value, at', 0, 0⟩ m _ 0 w2 a b d c hcf hrf (by omega)
    rw [st_fault at' value m hm h] at this
    exact this
  have HH1 := hid H1
  have HH2 := hid H2
  have HH3 := hid H3
  obtain ⟨am, cm, rfl, z1, z2, z3⟩ := s2.form
  clear H1 H2 H3 s2 f2 z1 z2 z3 hcf hcf1 hrf hL hfa hfv
  obtain ⟨N, hN⟩ : ∃ n, m.length = n := ⟨_, rfl⟩
  rw [hN]
  rw [hN] at HS2
  have HN := hid hN
  clear hN
  go_enter Tryd.func9, Tryd.ntmps9
  go_wp2_with fail
  refine (HA.out).mono ?_
  rintro e w1 ⟨rfl, hb1⟩
  have HB1 := hid hb1
  by_cases hn : N = 8
  · subst hn
    obtain ⟨W, hW⟩ : ∃ W, ((w1.alloc (.cells #[.int .i64 0, .int .i64 8, .bool true] 50)).alloc (.cells #[.int .i64 0, .int .i64 value, .int .i64 at', .int .i64 0, .int .i64 0] 25)).alloc (.cells #[.int .i64 9, .int .i64 0, .int .i64 1, .int .i64 8, .int .i64 2, .int .i64 1] 44) = W := ⟨_, rfl⟩
    have hbW : Below w1.heap.size w1 W := by rw [← hW]; exact ((alloc_belowI _ _).alloc (by simp) _).alloc (by simp; omega) _
    have hsr : SeesR W (.slice (some ⟨w1.heap.size, 0, none⟩) 1 1) [⟨0, 8, true⟩] := by
      rw [← hW]; exact ((sees_rg w1 ⟨0, 8, true⟩).below (alloc_belowI _ _)).below (alloc_belowI _ _)
    have hsi : SeesI W (.slice (some ⟨w1.heap.size + 1 + 1, 0, none⟩) 2 2) [⟨9, 0, 1⟩, ⟨8, 2, 1⟩] := by
      have h := sees_sl ((w1.alloc (.cells #[.int .i64 0, .int .i64 8, .bool true] 50)).alloc (.cells #[.int .i64 0, .int .i64 value, .int .i64 at', .int .i64 0, .int .i64 0] 25))
      rw [show ((w1.alloc (.cells #[.int .i64 0, .int .i64 8, .bool true] 50)).alloc (.cells #[.int .i64 0, .int .i64 value, .int .i64 at', .int .i64 0, .int .i64 0] 25)).heap.size = w1.heap.size + 1 + 1 by simp, hW] at h
      exact h
    have hfc : FiveAt W (w1.heap.size + 1) (.int .i64 0) (.int .i64 value) (.int .i64 at') (.int .i64 0) (.int .i64 0) := by
      have h := (five_new (w1.alloc (.cells #[.int .i64 0, .int .i64 8, .bool true] 50)) (.int .i64 0) (.int .i64 value) (.int .i64 at') (.int .i64 0) (.int .i64 0) 25).alloc (o := .cells #[.int .i64 9, .int .i64 0, .int .i64 1, .int .i64 8, .int .i64 2, .int .i64 1] 44)
      rw [show (w1.alloc (.cells #[.int .i64 0, .int .i64 8, .bool true] 50)).heap.size = w1.heap.size + 1 by simp, hW] at h
      exact h
    have HLW := hid ((HL.out.below hb1).below hbW)
    have HSW := hid ((HS2.out.below hb1).below hbW)
    have HBW := hid (hb1.trans (hbW.mono hb1.size))
    have HSR := hid hsr
    have HSI := hid hsi
    have HFC := hid hfc
    have HW := hid hW
    clear hb1 hbW hsr hsi hfc hW
    go_wp2_with fail
    rw [HW.out]
    by_cases hin : 0 ≤ at' ∧ at' ≤ 7
    · have HIN := hid hin
      refine (HH1.out HN.out hin W _ _ _ HLW.out HSI.out HSR.out HSW.out).mono ?_
      rintro e w3 ⟨u1, rfl, hs1, hb3⟩
      obtain ⟨hi1, hi2⟩ := hin
      have hi3 : ¬ (at' < 0) := by omega
      have hi4 : ¬ (7 < at') := by omega
      have hb33 := hb3.trans ((alloc_belowI w3 (.cells #[.int .i64 1, .int .i64 value, .int .i64 at', .int .i64 0, .int .i64 0] 25)).alloc (by simp) (.cells #[.int .i64 0, .int .i64 (-1), .bool false, .bool false, .int .i64 0] 31) |>.mono hb3.size)
      have HB33 := hid hb33
      have HS1 := hid (hs1.below ((alloc_belowI w3 (.cells #[.int .i64 1, .int .i64 value, .int .i64 at', .int .i64 0, .int .i64 0] 25)).alloc (by simp) (.cells #[.int .i64 0, .int .i64 (-1), .bool false, .bool false, .int .i64 0] 31)))
      have F2 := five_new (w3.alloc (.cells #[.int .i64 1, .int .i64 value, .int .i64 at', .int .i64 0, .int .i64 0] 25)) (.int .i64 0) (.int .i64 (-1)) (.bool false) (.bool false) (.int .i64 0) 31
      rw [show (w3.alloc (.cells #[.int .i64 1, .int .i64 value, .int .i64 at', .int .i64 0, .int .i64 0] 25)).heap.size = w3.heap.size + 1 by simp] at F2
      have HF2 := hid F2
      clear hb3 hb33 hs1 F2 hi1 hi2
      go_wp2_with fail
      refine (HH2.out HN.out HIN.out _ _ _ _ (HLW.out.below HB33.out) (HSI.out.below HB33.out) (HSR.out.below HB33.out) HS1.out).mono ?_
      rintro e w5 ⟨u2, rfl, hs2, hb5⟩
      obtain ⟨_, _, a0, a1, a2, a3, a4⟩ := ((HF2.out.below hb5 HF2.out.1).alloc (o := .cells #[.int .i64 2, .int .i64 value, .int .i64 at', .int .i64 value, .int .i64 0] 25)).alloc (o := .cells #[.int .i64 0, .int .i64 (-1), .bool false, .bool true, .int .i64 value] 31)
      have HB5 := hid (HBW.out.trans ((HB33.out.trans (hb5.mono HB33.out.size)).mono HBW.out.size))
      clear hb5 hs2
      go_wp2
      go_ret
      exact ⟨rfl, (HB5.out.alloc HB5.out.size _).alloc (by have := HB5.out.size; simp; omega) _⟩
    · have hout : at' < 0 ∨ 7 < at' := by omega
      clear hin
      refine (HH3.out HN.out hout W _ _ _ HLW.out HSI.out HSR.out HSW.out).mono ?_
      rintro e w3 ⟨u1, rfl, hs1, hb3⟩
      obtain ⟨_, _, a0, a1, a2, a3, a4⟩ := ((HFC.out.below hb3 HFC.out.1).alloc (o := .cells #[.int .i64 0, .int .i64 value, .int .i64 at', .int .i64 0, .int .i64 0] 25)).alloc (o := .cells #[.int .i64 5, .int .i64 (-1), .bool false, .bool false, .int .i64 0] 31)
      have HB5 := hid (HBW.out.trans (hb3.mono HBW.out.size))
      have heq := fun w => arr_self w value at' 0 0
      clear hb3 hs1
      rcases hout with ho | ho
      · go_wp2
        go_ret
        exact ⟨rfl, (HB5.out.alloc HB5.out.size _).alloc (by have := HB5.out.size; simp; omega) _⟩
      · have ho2 : ¬ (at' < 0) := by omega
        go_wp2
        go_ret
        exact ⟨rfl, (HB5.out.alloc HB5.out.size _).alloc (by have := HB5.out.size; simp; omega) _⟩
  · have hnb : ((N : Int) != 8) = true := by simp; omega
    go_wp2
    go_ret
    exact ⟨rfl, HB1.out.alloc HB1.out.size _⟩
end Go.Proofs.YtedldckijblnhaaDoor
