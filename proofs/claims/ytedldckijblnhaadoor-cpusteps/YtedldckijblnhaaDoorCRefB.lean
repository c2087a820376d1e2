/-
  What the document for one instruction returns where there is none.
-/
import Derived.Test.YtedldckijblnhaaDoorCRefA
namespace Go.Proofs.YtedldckijblnhaaDoor
open Go.RowKit
set_option linter.unusedVariables false

/-- Four new blocks. -/
theorem five4 (w : World) (a0 a1 a2 a3 a4 b0 b1 b2 b3 b4 c0 c1 c2 c3 c4 d0 d1 d2 d3 d4 : Value) (ta tb tc td : TypeId) : FiveAt ((((w.alloc (.cells #[a0, a1, a2, a3, a4] ta)).alloc (.cells #[b0, b1, b2, b3, b4] tb)).alloc (.cells #[c0, c1, c2, c3, c4] tc)).alloc (.cells #[d0, d1, d2, d3, d4] td)) w.heap.size a0 a1 a2 a3 a4 ∧ FiveAt ((((w.alloc (.cells #[a0, a1, a2, a3, a4] ta)).alloc (.cells #[b0, b1, b2, b3, b4] tb)).alloc (.cells #[c0, c1, c2, c3, c4] tc)).alloc (.cells #[d0, d1, d2, d3, d4] td)) (w.heap.size + 1) b0 b1 b2 b3 b4 ∧
    FiveAt ((((w.alloc (.cells #[a0, a1, a2, a3, a4] ta)).alloc (.cells #[b0, b1, b2, b3, b4] tb)).alloc (.cells #[c0, c1, c2, c3, c4] tc)).alloc (.cells #[d0, d1, d2, d3, d4] td)) (w.heap.size + 1 + 1) c0 c1 c2 c3 c4 ∧ FiveAt ((((w.alloc (.cells #[a0, a1, a2, a3, a4] ta)).alloc (.cells #[b0, b1, b2, b3, b4] tb)).alloc (.cells #[c0, c1, c2, c3, c4] tc)).alloc (.cells #[d0, d1, d2, d3, d4] td)) (w.heap.size + 1 + 1 + 1) d0 d1 d2 d3 d4 ∧ ((((w.alloc (.cells #[a0, a1, a2, a3, a4] ta)).alloc (.cells #[b0, b1, b2, b3, b4] tb)).alloc (.cells #[c0, c1, c2, c3, c4] tc)).alloc (.cells #[d0, d1, d2, d3, d4] td)).heap.size = w.heap.size + 4 ∧ Below w.heap.size w ((((w.alloc (.cells #[a0, a1, a2, a3, a4] ta)).alloc (.cells #[b0, b1, b2, b3, b4] tb)).alloc (.cells #[c0, c1, c2, c3, c4] tc)).alloc (.cells #[d0, d1, d2, d3, d4] td)) := by
  have h1 : (w.alloc (.cells #[a0, a1, a2, a3, a4] ta)).heap.size = w.heap.size + 1 := by simp
  have h2 : ((w.alloc (.cells #[a0, a1, a2, a3, a4] ta)).alloc (.cells #[b0, b1, b2, b3, b4] tb)).heap.size = w.heap.size + 1 + 1 := by simp
  have h3 : (((w.alloc (.cells #[a0, a1, a2, a3, a4] ta)).alloc (.cells #[b0, b1, b2, b3, b4] tb)).alloc (.cells #[c0, c1, c2, c3, c4] tc)).heap.size = w.heap.size + 1 + 1 + 1 := by simp
  refine ⟨(five_new w _ _ _ _ _ _).alloc.alloc.alloc, ?_, ?_, ?_, by simp, ?_⟩
  · have h := (five_new (w.alloc (.cells #[a0, a1, a2, a3, a4] ta)) b0 b1 b2 b3 b4 tb).alloc (o := .cells #[c0, c1, c2, c3, c4] tc) |>.alloc (o := .cells #[d0, d1, d2, d3, d4] td)
    rw [h1] at h; exact h
  · have h := (five_new ((w.alloc (.cells #[a0, a1, a2, a3, a4] ta)).alloc (.cells #[b0, b1, b2, b3, b4] tb)) c0 c1 c2 c3 c4 tc).alloc (o := .cells #[d0, d1, d2, d3, d4] td)
    rw [h2] at h; exact h
  · have h := five_new (((w.alloc (.cells #[a0, a1, a2, a3, a4] ta)).alloc (.cells #[b0, b1, b2, b3, b4] tb)).alloc (.cells #[c0, c1, c2, c3, c4] tc)) d0 d1 d2 d3 d4 td
    rw [h3] at h; exact h
  · exact (((alloc_belowI _ _).alloc (by simp) _).alloc (by simp; omega) _).alloc (by simp; omega) _

set_option maxRecDepth 100000 in
set_option maxHeartbeats 3200000 in
theorem rs_out (vc vm vl : Value) (code : List In) (m : List Int) (l : List Rg) (p r0 r1 r2 r3 now : Int) (w : World) (hcv : SeesI w vc code) (hmv : Sees w .i64 vm m) (hlv : SeesR w vl l) (hbad : ¬ (0 ≤ p ∧ p < code.length)) :
    Calls Tryd.prog 13 #[vc, .agg #[.int .i64 p, .int .i64 r0, .int .i64 r1, .int .i64 r2, .int .i64 r3], vm, vl, .int .i64 now] w fun e w' => ∃ u, e = .returned (.tuple #[Co.val ⟨p, r0, r1, r2, r3⟩, u, Ou.val (faultO 4)]) ∧ Sees w' .i64 u m ∧ Below w.heap.size w w' := by
  have hp : p < 0 ∨ (0 ≤ p ∧ (code.length : Int) ≤ p) := by omega
  clear hbad
  obtain ⟨ac, cc, rfl, hc1, hc2, _⟩ := hcv.form
  unfold maxLen at hc2
  have HMV := hid hmv
  obtain ⟨am, cm, rfl, _, _, _⟩ := hmv.form
  obtain ⟨F0, F1, F2, F3, hsz, hbel⟩ := five4 w (.int .i64 p) (.int .i64 r0) (.int .i64 r1) (.int .i64 r2) (.int .i64 r3) (.int .i64 0) (.int .i64 0) (.int .i64 0) (.int .i64 0) (.int .i64 0) (.int .i64 0) (.int .i64 0) (.bool false) (.bool false) (.int .i64 0) (.int .i64 0) (.int .i64 (-1)) (.bool false) (.bool false) (.int .i64 0) 25 25 31 31
  obtain ⟨_, q0, a0, a1, a2, a3, a4⟩ := F0
  obtain ⟨_, q3, f0, f1, f2, f3, f4⟩ := F3
  clear hcv hlv hmv hbel hsz F1 F2
  rcases hp with hp | ⟨hp1, hp2⟩
  · go_enter Tryd.func13, Tryd.ntmps13
    go_wp2
    go_region
    all_goals
      go_wp2
      try simp only [Exit.inBlock, Exit.then]
      refine bodyPost_ret (results_step rfl _ _ _ ⟨w.heap.size + 1, 0, none⟩ ⟨w.heap.size + 1 + 1, 0, none⟩ _ _ rfl rfl ((five4 w _ _ _ _ _ _ _ _ _ _ _ _ _ _ _ _ _ _ _ _ _ _ _ _).2.1.drew.load 25 _ Tryd.underlying25 rfl (by kernel_rfl)) ((five4 w _ _ _ _ _ _ _ _ _ _ _ _ _ _ _ _ _ _ _ _ _ _ _ _).2.2.1.drew.load 31 _ Tryd.underlying31 rfl (by kernel_rfl))) rfl ?_
      exact ⟨_, rfl, HMV.out.below (five4 w _ _ _ _ _ _ _ _ _ _ _ _ _ _ _ _ _ _ _ _ _ _ _ _).2.2.2.2.2.drew, (five4 w _ _ _ _ _ _ _ _ _ _ _ _ _ _ _ _ _ _ _ _ _ _ _ _).2.2.2.2.2.drew⟩
  · go_enter Tryd.func13, Tryd.ntmps13
    go_wp2
    go_region
    all_goals
      go_wp2
      try simp only [Exit.inBlock, Exit.then]
      refine bodyPost_ret (results_step rfl _ _ _ ⟨w.heap.size + 1, 0, none⟩ ⟨w.heap.size + 1 + 1, 0, none⟩ _ _ rfl rfl ((five4 w _ _ _ _ _ _ _ _ _ _ _ _ _ _ _ _ _ _ _ _ _ _ _ _).2.1.drew.load 25 _ Tryd.underlying25 rfl (by kernel_rfl)) ((five4 w _ _ _ _ _ _ _ _ _ _ _ _ _ _ _ _ _ _ _ _ _ _ _ _).2.2.1.drew.load 31 _ Tryd.underlying31 rfl (by kernel_rfl))) rfl ?_
      exact ⟨_, rfl, HMV.out.below (five4 w _ _ _ _ _ _ _ _ _ _ _ _ _ _ _ _ _ _ _ _ _ _ _ _).2.2.2.2.2.drew, (five4 w _ _ _ _ _ _ _ _ _ _ _ _ _ _ _ _ _ _ _ _ _ _ _ _).2.2.2.2.2.drew⟩

end Go.Proofs.YtedldckijblnhaaDoor
