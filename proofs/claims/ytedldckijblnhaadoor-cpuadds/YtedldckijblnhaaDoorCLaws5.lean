/-
  CpuAdds returns true, whatever two numbers it is given, and nothing that was there is written.
-/
import Derived.Test.YtedldckijblnhaaDoorCLaws1
namespace Go.Proofs.YtedldckijblnhaaDoor
open Go.RowKit
set_option linter.unusedVariables false

def addsL : List In := [⟨3, 0, 1⟩, ⟨4, 0, 1⟩, ⟨5, 0, 2⟩, ⟨6, 0, 1⟩]
theorem sees_adds (w : World) : SeesI (w.alloc (.cells #[.int .i64 3, .int .i64 0, .int .i64 1, .int .i64 4, .int .i64 0, .int .i64 1, .int .i64 5, .int .i64 0, .int .i64 2, .int .i64 6, .int .i64 0, .int .i64 1] 44)) (.slice (some ⟨w.heap.size, 0, none⟩) 4 4) addsL := by
  refine .inr ⟨_, 4, rfl, by simp [addsL], by decide, fun i hi j hj => ?_⟩
  have hi' : i = 0 ∨ i = 1 ∨ i = 2 ∨ i = 3 := by simp [addsL] at hi; omega
  have hj' : j = 0 ∨ j = 1 ∨ j = 2 := by omega
  rcases hi' with rfl | rfl | rfl | rfl <;> rcases hj' with rfl | rfl | rfl <;> simp [add_none, In.cells, addsL]
theorem seesI_set {w : World} {b g j n c : Nat} {v : Value} {l : List In} (h : SeesI w (.slice (some ⟨b, 0, none⟩) n c) l) (hb : b ≠ g) : SeesI (w.setCell ⟨g, j, none⟩ v) (.slice (some ⟨b, 0, none⟩) n c) l := by
  rcases h with ⟨hv, _⟩ | ⟨x, cap, hv, h1, h2, hc⟩
  · simp at hv
  · simp only [Value.slice.injEq, Option.some.injEq] at hv
    obtain ⟨rfl, rfl, rfl⟩ := hv
    refine .inr ⟨_, _, rfl, h1, h2, fun i hi k hk => ?_⟩
    have h := hc i hi k hk
    rw [add_none] at h ⊢
    rw [World.cell?_setCell_other _ _ _ _ (cadr_ne (by omega))]
    exact h
theorem seesI_set5 {w : World} {b g n c : Nat} {v0 v1 v2 v3 v4 : Value} {l : List In} (h : SeesI w (.slice (some ⟨b, 0, none⟩) n c) l) (hb : b ≠ g) : SeesI (((((w.setCell ⟨g, 0, none⟩ v0).setCell ⟨g, 1, none⟩ v1).setCell ⟨g, 2, none⟩ v2).setCell ⟨g, 3, none⟩ v3).setCell ⟨g, 4, none⟩ v4) (.slice (some ⟨b, 0, none⟩) n c) l :=
  seesI_set (seesI_set (seesI_set (seesI_set (seesI_set h hb) hb) hb) hb) hb

/-- The first register, ahead of each of the steps. -/
def cx (x y : Int) (j : Nat) : Int := if j = 1 then wrap64 (x + y) else x
theorem adds_step (x y : Int) (hx : fit64 x) (hy : fit64 y) (j : Nat) (hj : j < 3) :
    stepS addsL ⟨j, cx x y j, y, 1, 0⟩ [] [] 0 = (⟨(j : Int) + 1, cx x y (j + 1), y, 1, 0⟩, [], quietO) := by
  unfold fit64 at hx hy
  match j, hj with
  | 0, _ => rfl
  | 1, _ =>
    show ((⟨2, wrap64 (wrap64 (x + y) - y), y, 1, 0⟩ : Co), ([] : List Int), quietO) = (⟨2, x, y, 1, 0⟩, [], quietO)
    rw [show wrap64 (wrap64 (x + y) - y) = x by unfold wrap64; omega]
  | 2, _ =>
    show ((⟨3, wrap64 (x * 1), y, 1, 0⟩ : Co), ([] : List Int), quietO) = (⟨3, x, y, 1, 0⟩, [], quietO)
    rw [show wrap64 (x * 1) = x by unfold wrap64; omega]
theorem adds_div (x y : Int) (hz : ¬ y = 0) : stepS addsL ⟨3, x, y, 1, 0⟩ [] [] 0 = (⟨4, dq x y, y, 1, 0⟩, [], quietO) := by
  show (if y = 0 then _ else ((⟨4, dq x y, y, 1, 0⟩ : Co), ([] : List Int), quietO)) = _
  rw [if_neg hz]
theorem adds_bad (x : Int) : stepS addsL ⟨3, x, 0, 1, 0⟩ [] [] 0 = (⟨3, x, 0, 1, 0⟩, [], faultO 3) := rfl
theorem cx_fit {x y : Int} (hx : fit64 x) (hy : fit64 y) (j : Nat) (hj : j ≤ 3) : Co.fit ⟨j, cx x y j, y, 1, 0⟩ := by
  refine ⟨?_, ?_, hy, ?_, ?_⟩
  · show fit64 (j : Int); unfold fit64; omega
  · show fit64 (cx x y j)
    unfold cx; split
    · exact wrap64_fit _
    · exact hx
  · show fit64 1; unfold fit64; omega
  · show fit64 0; unfold fit64; omega

set_option maxRecDepth 100000 in
set_option maxHeartbeats 3200000 in
theorem walk_CpuAdds (w : World) (hL : Laid w) (x : Int) (w0 : (Lit.int .i64 x).wf = true) (y : Int) (w1 : (Lit.int .i64 y).wf = true) :
    Calls Tryd.prog 7 #[.int .i64 x, .int .i64 y] w fun e w' => e = .returned (.bool true) ∧ Below w.heap.size w w' := by
  have hx : fit64 x := bounds_i64 w0
  have hy : fit64 y := bounds_i64 w1
  have HX := hid hx
  have HY := hid hy
  have HA := hid (cawake_any w hL)
  have HL := hid hL
  clear hL w0 w1 hx hy
  go_enter Tryd.func7, Tryd.ntmps7
  go_wp2_with fail
  refine (HA.out).mono ?_
  rintro e w1 ⟨rfl, hb1⟩
  obtain ⟨GC, hGC⟩ : ∃ g, w1.heap.size = g := ⟨_, rfl⟩
  obtain ⟨GX, hGX⟩ : ∃ g, w1.heap.size + 1 = g := ⟨_, rfl⟩
  obtain ⟨W, hW⟩ : ∃ W, (w1.alloc (.cells #[.int .i64 0, .int .i64 x, .int .i64 y, .int .i64 1, .int .i64 0] 25)).alloc (.cells #[.int .i64 3, .int .i64 0, .int .i64 1, .int .i64 4, .int .i64 0, .int .i64 1, .int .i64 5, .int .i64 0, .int .i64 2, .int .i64 6, .int .i64 0, .int .i64 1] 44) = W := ⟨_, rfl⟩
  have hbW : Below w1.heap.size w1 W := by rw [← hW]; exact (alloc_belowI _ _).alloc (by simp) _
  have FC : FiveAt W GC (.int .i64 0) (.int .i64 x) (.int .i64 y) (.int .i64 1) (.int .i64 0) := by rw [← hW, ← hGC]; exact (five_new w1 _ _ _ _ _ _).alloc
  have hsi : SeesI W (.slice (some ⟨GX, 0, none⟩) 4 4) addsL := by
    have h := sees_adds (w1.alloc (.cells #[.int .i64 0, .int .i64 x, .int .i64 y, .int .i64 1, .int .i64 0] 25))
    rw [show (w1.alloc (.cells #[.int .i64 0, .int .i64 x, .int .i64 y, .int .i64 1, .int .i64 0] 25)).heap.size = w1.heap.size + 1 by simp, hGX] at h
    rw [← hW]; exact h
  have hXC : GX ≠ GC := by omega
  have hCX : GC ≠ GX := by omega
  have hwC : w.heap.size ≤ GC := by rw [← hGC]; exact hb1.size
  have HWC := hid hwC
  have HREL0 := hid (show ∃ j : Nat, j ≤ 3 ∧ (Value.int .i64 0 = Value.int .i64 (j : Int)) ∧ FiveAt W GC (.int .i64 j) (.int .i64 (cx x y j)) (.int .i64 y) (.int .i64 1) (.int .i64 0) ∧ SeesI W (.slice (some ⟨GX, 0, none⟩) 4 4) addsL ∧ Below w.heap.size w W from
    ⟨0, by omega, rfl, FC, hsi, hb1.trans (hbW.mono hb1.size)⟩)
  have HW := hid hW
  have HGX := hid hGX
  have HGC := hid hGC
  clear hb1 hbW FC hsi hW hGX hGC hwC
  go_wp2_with fail
  rw [HW.out, HGX.out, HGC.out]
  go_loopw [8] (fun k wr => ∃ j : Nat, j ≤ 3 ∧ k = Value.int .i64 (j : Int) ∧ FiveAt wr GC (.int .i64 j) (.int .i64 (cx x y j)) (.int .i64 y) (.int .i64 1) (.int .i64 0) ∧ SeesI wr (.slice (some ⟨GX, 0, none⟩) 4 4) addsL ∧ Below w.heap.size w wr) (fun k _ => 3 - (intOf k).toNat)
  case atStart => exact HREL0.out
  case round =>
    obtain ⟨j, hj, rfl, hF, hS, hB⟩ := hrel
    by_cases hlt : j < 3
    · have hst := step_any (.slice (some ⟨GX, 0, none⟩) 4 4) (.slice none 0 0) (.slice none 0 0) addsL ⟨j, cx x y j, y, 1, 0⟩ [] [] 0 wr (HL.out.below hB) hS (Sees.nil _ _) (SeesR.nil _) (cx_fit HX.out HY.out j hj) (by simp) (by simp)
      rw [adds_step x y HX.out HY.out j hlt] at hst
      have HST := hid hst
      have HF := hid hF
      have HS := hid hS
      have HB := hid hB
      obtain ⟨_, q, a0, a1, a2, a3, a4⟩ := hF
      clear hst hS hB
      go_wp2_with fail
      refine HST.out.mono ?_
      rintro e w2 ⟨u, rfl, _, hb2⟩
      simp only [Co.val, Ou.val, quietO]
      have F2 := HF.out.below hb2 HF.out.1
      have HF2 := hid F2
      have HS2 := hid (HS.out.below hb2)
      have HB2 := hid (HB.out.trans (hb2.mono HB.out.size))
      clear a0 a1 a2 a3 a4 q hb2
      obtain ⟨_, q, a0, a1, a2, a3, a4⟩ := F2
      have hg := HF2.out.1
      have hj' : j = 0 ∨ j = 1 ∨ j = 2 := by omega
      rcases hj' with rfl | rfl | rfl
      · rw [show cx x y (0 + 1) = wrap64 (x + y) from rfl]
        have HC1 := hid (show cx x y 1 = wrap64 (x + y) from rfl)
        go_wp2
        go_roundw
        case rel => exact ⟨1, by omega, rfl, (HC1.out ▸ (FiveAt.set5 HF2.out).alloc.alloc), ((seesI_set5 HS2.out hXC).below (alloc_belowI _ _)).below (alloc_belowI _ _), belowA (belowA (below5 HB2.out HWC.out))⟩
        case measure => simp [intOf]
      · rw [show cx x y (1 + 1) = x from rfl]
        go_wp2
        go_roundw
        case rel => exact ⟨2, by omega, rfl, (FiveAt.set5 HF2.out).alloc.alloc, ((seesI_set5 HS2.out hXC).below (alloc_belowI _ _)).below (alloc_belowI _ _), belowA (belowA (below5 HB2.out HWC.out))⟩
        case measure => simp [intOf]
      · rw [show cx x y (2 + 1) = x from rfl]
        go_wp2
        go_roundw
        case rel => exact ⟨3, by omega, rfl, (FiveAt.set5 HF2.out).alloc.alloc, ((seesI_set5 HS2.out hXC).below (alloc_belowI _ _)).below (alloc_belowI _ _), belowA (belowA (below5 HB2.out HWC.out))⟩
        case measure => simp [intOf]
    · obtain rfl : j = 3 := by omega
      rw [show cx x y 3 = x from rfl] at hF
      have hst := step_any (.slice (some ⟨GX, 0, none⟩) 4 4) (.slice none 0 0) (.slice none 0 0) addsL ⟨3, x, y, 1, 0⟩ [] [] 0 wr (HL.out.below hB) hS (Sees.nil _ _) (SeesR.nil _) (cx_fit HX.out HY.out 3 (by omega)) (by simp) (by simp)
      have HF := hid hF
      have HB := hid hB
      obtain ⟨_, q, a0, a1, a2, a3, a4⟩ := hF
      by_cases hz : y = 0
      · subst hz
        rw [adds_bad] at hst
        have HST := hid hst
        clear hst hS hB
        go_wp2_with fail
        refine HST.out.mono ?_
        rintro e w2 ⟨u, rfl, _, hb2⟩
        simp only [Co.val, Ou.val, faultO]
        have HD := hid (div_any x 0 ((w2.alloc (.cells #[.int .i64 3, .int .i64 x, .int .i64 0, .int .i64 1, .int .i64 0] 25)).alloc (.cells #[.int .i64 3, .int .i64 (-1), .bool false, .bool false, .int .i64 0] 31)))
        have F2 := ((HF.out.below hb2 HF.out.1).alloc (o := .cells #[.int .i64 3, .int .i64 x, .int .i64 0, .int .i64 1, .int .i64 0] 25)).alloc (o := .cells #[.int .i64 3, .int .i64 (-1), .bool false, .bool false, .int .i64 0] 31)
        have F3 := five_new (w2.alloc (.cells #[.int .i64 3, .int .i64 x, .int .i64 0, .int .i64 1, .int .i64 0] 25)) (.int .i64 3) (.int .i64 (-1)) (.bool false) (.bool false) (.int .i64 0) 31
        rw [show (w2.alloc (.cells #[.int .i64 3, .int .i64 x, .int .i64 0, .int .i64 1, .int .i64 0] 25)).heap.size = w2.heap.size + 1 by simp] at F3
        have HF2 := hid F2
        have HF3 := hid F3
        have HB2 := hid (belowA (o := .cells #[.int .i64 3, .int .i64 (-1), .bool false, .bool false, .int .i64 0] 31) (belowA (o := .cells #[.int .i64 3, .int .i64 x, .int .i64 0, .int .i64 1, .int .i64 0] 25) (HB.out.trans (hb2.mono HB.out.size))))
        clear a0 a1 a2 a3 a4 q hb2 F2 F3
        go_wp2_with fail
        refine HD.out.mono ?_
        rintro e w3 ⟨rfl, hb3⟩
        rw [show df 0 = 3 from rfl]
        obtain ⟨_, _, a0, a1, a2, a3, a4⟩ := HF2.out.below hb3 HF2.out.1
        obtain ⟨_, _, b0, b1, b2, b3, b4⟩ := HF3.out.below hb3 HF3.out.1
        have HB3 := hid (HB2.out.trans (hb3.mono HB2.out.size))
        clear hb3
        go_wp2
        go_ret
        exact ⟨rfl, HB3.out⟩
      · rw [adds_div x y hz] at hst
        have HST := hid hst
        clear hst hS hB
        go_wp2_with fail
        refine HST.out.mono ?_
        rintro e w2 ⟨u, rfl, _, hb2⟩
        simp only [Co.val, Ou.val, quietO]
        have HD := hid (fun w' => div_any x y w')
        rw [show df y = 0 by unfold df; rw [if_neg hz]] at HD
        generalize dq x y = dd at *
        have F2 := ((HF.out.below hb2 HF.out.1).alloc (o := .cells #[.int .i64 4, .int .i64 dd, .int .i64 y, .int .i64 1, .int .i64 0] 25)).alloc (o := .cells #[.int .i64 0, .int .i64 (-1), .bool false, .bool false, .int .i64 0] 31)
        have F3 := five_new (w2.alloc (.cells #[.int .i64 4, .int .i64 dd, .int .i64 y, .int .i64 1, .int .i64 0] 25)) (.int .i64 0) (.int .i64 (-1)) (.bool false) (.bool false) (.int .i64 0) 31
        rw [show (w2.alloc (.cells #[.int .i64 4, .int .i64 dd, .int .i64 y, .int .i64 1, .int .i64 0] 25)).heap.size = w2.heap.size + 1 by simp] at F3
        have F4 := (five_new w2 (.int .i64 4) (.int .i64 dd) (.int .i64 y) (.int .i64 1) (.int .i64 0) 25).alloc (o := .cells #[.int .i64 0, .int .i64 (-1), .bool false, .bool false, .int .i64 0] 31)
        have HF2 := hid F2
        have HF3 := hid F3
        have HF4 := hid F4
        have HB2 := hid (belowA (o := .cells #[.int .i64 0, .int .i64 (-1), .bool false, .bool false, .int .i64 0] 31) (belowA (o := .cells #[.int .i64 4, .int .i64 dd, .int .i64 y, .int .i64 1, .int .i64 0] 25) (HB.out.trans (hb2.mono HB.out.size))))
        clear a0 a1 a2 a3 a4 q hb2 F2 F3 F4
        go_wp2_with fail
        refine (HD.out _).mono ?_
        rintro e w3 ⟨rfl, hb3⟩
        obtain ⟨_, _, a0, a1, a2, a3, a4⟩ := HF2.out.below hb3 HF2.out.1
        obtain ⟨_, _, b0, b1, b2, b3, b4⟩ := HF3.out.below hb3 HF3.out.1
        obtain ⟨_, _, c0, c1, c2, c3, c4⟩ := HF4.out.below hb3 HF4.out.1
        have HB3 := hid (HB2.out.trans (hb3.mono HB2.out.size))
        clear hb3
        go_wp2
        go_ret
        exact ⟨rfl, HB3.out⟩
end Go.Proofs.YtedldckijblnhaaDoor
