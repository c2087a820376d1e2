/-
  What the walks through a region, a process, a buffer, a semaphore, a window, a channel return over any machine that is given numbers one by one.
-/
import Derived.Test.YtfdoejdnhogepaaTWalk
namespace Go.Proofs.Ytfdoejdnhogepaa
open Go.RowKit
set_option linter.unusedVariables false

theorem Try.infoRg7 : (Try.prog.info? 102).map (·.size) = some 3 := by kernel_rfl

def wRg {σ : Type} (nx : Int → Int → σ → Int × σ) (r : Rg) (s : σ) : Rg × σ :=
  let x0 := numW nx r.f s
  let x1 := numW nx r.n x0.2
  let x2 := flagW nx r.wr x1.2
  (⟨x0.1, x1.1, x2.1⟩, x2.2)
theorem wRg_mono {g G : Nat} {σ : Type} {nx : Int → Int → σ → Int × σ} {At : World → σ → Prop} {room : σ → Nat} (M : Mach g G σ nx At room) (r : Rg) (s : σ) : room s ≤ room (wRg nx r s).2 := by
  unfold wRg
  simp only [numW, flagW]
  exact Nat.le_trans (Nat.le_trans (M.mono _ _ _) (M.mono _ _ _)) (M.mono _ _ _)

set_option maxRecDepth 100000 in
set_option maxHeartbeats 1600000 in
theorem wRg_any {g G : Nat} {σ : Type} {nx : Int → Int → σ → Int × σ} {At : World → σ → Prop} {room : σ → Nat} (M : Mach g G σ nx At room) (r : Rg) (s : σ) (w : World) (hA : At w s) (hr : room (wRg nx r s).2 ≤ 1000000) :
    Calls Try.prog 90 #[walkV g G, r.val] w fun e w' => e = .returned (wRg nx r s).1.val ∧ At w' (wRg nx r s).2 ∧ KB G w.heap.size w w' := by
  obtain ⟨y0, y1, y2⟩ := r
  unfold wRg at hr ⊢
  simp only at hr ⊢
  obtain ⟨x0, hx0⟩ : ∃ x, numW nx y0 s = x := ⟨_, rfl⟩
  rw [hx0] at hr ⊢
  have m0 : room s ≤ room x0.2 := by rw [← hx0]; exact M.mono _ _ _
  obtain ⟨x1, hx1⟩ : ∃ x, numW nx y1 x0.2 = x := ⟨_, rfl⟩
  rw [hx1] at hr ⊢
  have m1 : room x0.2 ≤ room x1.2 := by rw [← hx1]; exact M.mono _ _ _
  obtain ⟨x2, hx2⟩ : ∃ x, flagW nx y2 x1.2 = x := ⟨_, rfl⟩
  rw [hx2] at hr ⊢
  have m2 : room x1.2 ≤ room x2.2 := by rw [← hx2]; exact M.mono _ _ _
  have HR := hid (show room x0.2 ≤ 1000000 ∧ room x1.2 ≤ 1000000 ∧ room x2.2 ≤ 1000000 by omega)
  have HX0 := hid hx0
  have HX1 := hid hx1
  have HX2 := hid hx2
  clear hr hx0 m0 hx1 m1 hx2 m2
  have HM := hid M
  have L := hid (Loc.start M hA 102 #[.int .i64 y0, .int .i64 y1, .bool y2] #[.int .i64 0, .int .i64 0, .bool false])
  clear M hA
  unfold walkV Rg.val
  go_enter Try.func90, Try.ntmps90
  go_wp2_with fail
  refine (numW_any HM.out y0 s _ L.out.at_ (by have := HX0.out; rw [this]; exact HR.out.1)).mono ?_
  rintro e w1 ⟨rfl, hA0, hK0⟩
  rw [HX0.out] at hA0
  rw [HX0.out]
  have L1 := L.out.step hA0 hK0
  clear hA0 hK0 L
  have d0 := (L1.b0.cell 0).trans rfl
  have f1 := L1.b1.free
  have c0 := (L1.b1.cell 0).trans rfl
  have c1 := (L1.b1.cell 1).trans rfl
  have c2 := (L1.b1.cell 2).trans rfl
  have L := hid (L1.set HM.out 0 (.int .i64 x0.1))
  clear L1
  go_wp2_with fail
  refine (numW_any HM.out y1 x0.2 _ L.out.at_ (by have := HX1.out; rw [this]; exact HR.out.2.1)).mono ?_
  rintro e w2 ⟨rfl, hA1, hK1⟩
  rw [HX1.out] at hA1
  rw [HX1.out]
  have L1 := L.out.step hA1 hK1
  clear hA1 hK1 L c0 c1 c2 d0 f1
  have d0 := (L1.b0.cell 0).trans rfl
  have f1 := L1.b1.free
  have c0 := (L1.b1.cell 0).trans rfl
  have c1 := (L1.b1.cell 1).trans rfl
  have c2 := (L1.b1.cell 2).trans rfl
  have L := hid (L1.set HM.out 1 (.int .i64 x1.1))
  clear L1
  go_wp2_with fail
  refine (flagW_any HM.out y2 x1.2 _ L.out.at_ (by have := HX2.out; rw [this]; exact HR.out.2.2)).mono ?_
  rintro e w3 ⟨rfl, hA2, hK2⟩
  rw [HX2.out] at hA2
  rw [HX2.out]
  have L1 := L.out.step hA2 hK2
  clear hA2 hK2 L c0 c1 c2 d0 f1
  have d0 := (L1.b0.cell 0).trans rfl
  have f1 := L1.b1.free
  have c0 := (L1.b1.cell 0).trans rfl
  have c1 := (L1.b1.cell 1).trans rfl
  have c2 := (L1.b1.cell 2).trans rfl
  have e0 := (L1.b2.cell 0).trans rfl
  have e1 := (L1.b2.cell 1).trans rfl
  have e2 := (L1.b2.cell 2).trans rfl
  have f2 := L1.b2.free
  have L := hid (L1.set HM.out 2 (.bool x2.1))
  clear L1
  go_wp2
  have hres := L.out.res HM.out [.int .i64 x0.1, .int .i64 x1.1, .bool x2.1] 0
  refine bodyPost_ret (results_cell_row rfl _ _ (w.heap.size + 2) 102 _ (0, 0) _ rfl (BoxAt.sets3 L.out.b2 (.int .i64 x0.1) (.int .i64 x1.1) (.bool x2.1)) Try.underlying102 rfl Try.infoRg7) rfl ?_
  exact ⟨rfl, hres.1, hres.2.1⟩

theorem Try.infoPc7 : (Try.prog.info? 90).map (·.size) = some 5 := by kernel_rfl

def wPc {σ : Type} (nx : Int → Int → σ → Int × σ) (r : Pc) (s : σ) : Pc × σ :=
  let x0 := numW nx r.pr s
  let x1 := numW nx r.pe x0.2
  let x2 := numW nx r.li x1.2
  let x3 := numW nx r.en x2.2
  let x4 := flagW nx r.au x3.2
  (⟨x0.1, x1.1, x2.1, x3.1, x4.1⟩, x4.2)
theorem wPc_mono {g G : Nat} {σ : Type} {nx : Int → Int → σ → Int × σ} {At : World → σ → Prop} {room : σ → Nat} (M : Mach g G σ nx At room) (r : Pc) (s : σ) : room s ≤ room (wPc nx r s).2 := by
  unfold wPc
  simp only [numW, flagW]
  exact Nat.le_trans (Nat.le_trans (Nat.le_trans (Nat.le_trans (M.mono _ _ _) (M.mono _ _ _)) (M.mono _ _ _)) (M.mono _ _ _)) (M.mono _ _ _)

set_option maxRecDepth 100000 in
set_option maxHeartbeats 1600000 in
theorem wPc_any {g G : Nat} {σ : Type} {nx : Int → Int → σ → Int × σ} {At : World → σ → Prop} {room : σ → Nat} (M : Mach g G σ nx At room) (r : Pc) (s : σ) (w : World) (hA : At w s) (hr : room (wPc nx r s).2 ≤ 1000000) :
    Calls Try.prog 92 #[walkV g G, r.val] w fun e w' => e = .returned (wPc nx r s).1.val ∧ At w' (wPc nx r s).2 ∧ KB G w.heap.size w w' := by
  obtain ⟨y0, y1, y2, y3, y4⟩ := r
  unfold wPc at hr ⊢
  simp only at hr ⊢
  obtain ⟨x0, hx0⟩ : ∃ x, numW nx y0 s = x := ⟨_, rfl⟩
  rw [hx0] at hr ⊢
  have m0 : room s ≤ room x0.2 := by rw [← hx0]; exact M.mono _ _ _
  obtain ⟨x1, hx1⟩ : ∃ x, numW nx y1 x0.2 = x := ⟨_, rfl⟩
  rw [hx1] at hr ⊢
  have m1 : room x0.2 ≤ room x1.2 := by rw [← hx1]; exact M.mono _ _ _
  obtain ⟨x2, hx2⟩ : ∃ x, numW nx y2 x1.2 = x := ⟨_, rfl⟩
  rw [hx2] at hr ⊢
  have m2 : room x1.2 ≤ room x2.2 := by rw [← hx2]; exact M.mono _ _ _
  obtain ⟨x3, hx3⟩ : ∃ x, numW nx y3 x2.2 = x := ⟨_, rfl⟩
  rw [hx3] at hr ⊢
  have m3 : room x2.2 ≤ room x3.2 := by rw [← hx3]; exact M.mono _ _ _
  obtain ⟨x4, hx4⟩ : ∃ x, flagW nx y4 x3.2 = x := ⟨_, rfl⟩
  rw [hx4] at hr ⊢
  have m4 : room x3.2 ≤ room x4.2 := by rw [← hx4]; exact M.mono _ _ _
  have HR := hid (show room x0.2 ≤ 1000000 ∧ room x1.2 ≤ 1000000 ∧ room x2.2 ≤ 1000000 ∧ room x3.2 ≤ 1000000 ∧ room x4.2 ≤ 1000000 by omega)
  have HX0 := hid hx0
  have HX1 := hid hx1
  have HX2 := hid hx2
  have HX3 := hid hx3
  have HX4 := hid hx4
  clear hr hx0 m0 hx1 m1 hx2 m2 hx3 m3 hx4 m4
  have HM := hid M
  have L := hid (Loc.start M hA 90 #[.int .i64 y0, .int .i64 y1, .int .i64 y2, .int .i64 y3, .bool y4] #[.int .i64 0, .int .i64 0, .int .i64 0, .int .i64 0, .bool false])
  clear M hA
  unfold walkV Pc.val
  go_enter Try.func92, Try.ntmps92
  go_wp2_with fail
  refine (numW_any HM.out y0 s _ L.out.at_ (by have := HX0.out; rw [this]; exact HR.out.1)).mono ?_
  rintro e w1 ⟨rfl, hA0, hK0⟩
  rw [HX0.out] at hA0
  rw [HX0.out]
  have L1 := L.out.step hA0 hK0
  clear hA0 hK0 L
  have d0 := (L1.b0.cell 0).trans rfl
  have f1 := L1.b1.free
  have c0 := (L1.b1.cell 0).trans rfl
  have c1 := (L1.b1.cell 1).trans rfl
  have c2 := (L1.b1.cell 2).trans rfl
  have c3 := (L1.b1.cell 3).trans rfl
  have c4 := (L1.b1.cell 4).trans rfl
  have L := hid (L1.set HM.out 0 (.int .i64 x0.1))
  clear L1
  go_wp2_with fail
  refine (numW_any HM.out y1 x0.2 _ L.out.at_ (by have := HX1.out; rw [this]; exact HR.out.2.1)).mono ?_
  rintro e w2 ⟨rfl, hA1, hK1⟩
  rw [HX1.out] at hA1
  rw [HX1.out]
  have L1 := L.out.step hA1 hK1
  clear hA1 hK1 L c0 c1 c2 c3 c4 d0 f1
  have d0 := (L1.b0.cell 0).trans rfl
  have f1 := L1.b1.free
  have c0 := (L1.b1.cell 0).trans rfl
  have c1 := (L1.b1.cell 1).trans rfl
  have c2 := (L1.b1.cell 2).trans rfl
  have c3 := (L1.b1.cell 3).trans rfl
  have c4 := (L1.b1.cell 4).trans rfl
  have L := hid (L1.set HM.out 1 (.int .i64 x1.1))
  clear L1
  go_wp2_with fail
  refine (numW_any HM.out y2 x1.2 _ L.out.at_ (by have := HX2.out; rw [this]; exact HR.out.2.2.1)).mono ?_
  rintro e w3 ⟨rfl, hA2, hK2⟩
  rw [HX2.out] at hA2
  rw [HX2.out]
  have L1 := L.out.step hA2 hK2
  clear hA2 hK2 L c0 c1 c2 c3 c4 d0 f1
  have d0 := (L1.b0.cell 0).trans rfl
  have f1 := L1.b1.free
  have c0 := (L1.b1.cell 0).trans rfl
  have c1 := (L1.b1.cell 1).trans rfl
  have c2 := (L1.b1.cell 2).trans rfl
  have c3 := (L1.b1.cell 3).trans rfl
  have c4 := (L1.b1.cell 4).trans rfl
  have L := hid (L1.set HM.out 2 (.int .i64 x2.1))
  clear L1
  go_wp2_with fail
  refine (numW_any HM.out y3 x2.2 _ L.out.at_ (by have := HX3.out; rw [this]; exact HR.out.2.2.2.1)).mono ?_
  rintro e w4 ⟨rfl, hA3, hK3⟩
  rw [HX3.out] at hA3
  rw [HX3.out]
  have L1 := L.out.step hA3 hK3
  clear hA3 hK3 L c0 c1 c2 c3 c4 d0 f1
  have d0 := (L1.b0.cell 0).trans rfl
  have f1 := L1.b1.free
  have c0 := (L1.b1.cell 0).trans rfl
  have c1 := (L1.b1.cell 1).trans rfl
  have c2 := (L1.b1.cell 2).trans rfl
  have c3 := (L1.b1.cell 3).trans rfl
  have c4 := (L1.b1.cell 4).trans rfl
  have L := hid (L1.set HM.out 3 (.int .i64 x3.1))
  clear L1
  go_wp2_with fail
  refine (flagW_any HM.out y4 x3.2 _ L.out.at_ (by have := HX4.out; rw [this]; exact HR.out.2.2.2.2)).mono ?_
  rintro e w5 ⟨rfl, hA4, hK4⟩
  rw [HX4.out] at hA4
  rw [HX4.out]
  have L1 := L.out.step hA4 hK4
  clear hA4 hK4 L c0 c1 c2 c3 c4 d0 f1
  have d0 := (L1.b0.cell 0).trans rfl
  have f1 := L1.b1.free
  have c0 := (L1.b1.cell 0).trans rfl
  have c1 := (L1.b1.cell 1).trans rfl
  have c2 := (L1.b1.cell 2).trans rfl
  have c3 := (L1.b1.cell 3).trans rfl
  have c4 := (L1.b1.cell 4).trans rfl
  have e0 := (L1.b2.cell 0).trans rfl
  have e1 := (L1.b2.cell 1).trans rfl
  have e2 := (L1.b2.cell 2).trans rfl
  have e3 := (L1.b2.cell 3).trans rfl
  have e4 := (L1.b2.cell 4).trans rfl
  have f2 := L1.b2.free
  have L := hid (L1.set HM.out 4 (.bool x4.1))
  clear L1
  go_wp2
  have hres := L.out.res HM.out [.int .i64 x0.1, .int .i64 x1.1, .int .i64 x2.1, .int .i64 x3.1, .bool x4.1] 0
  refine bodyPost_ret (results_cell_row rfl _ _ (w.heap.size + 2) 90 _ (0, 0) _ rfl (BoxAt.sets5 L.out.b2 (.int .i64 x0.1) (.int .i64 x1.1) (.int .i64 x2.1) (.int .i64 x3.1) (.bool x4.1)) Try.underlying90 rfl Try.infoPc7) rfl ?_
  exact ⟨rfl, hres.1, hres.2.1⟩

theorem Try.infoBc7 : (Try.prog.info? 104).map (·.size) = some 2 := by kernel_rfl

def wBc {σ : Type} (nx : Int → Int → σ → Int × σ) (r : Bc) (s : σ) : Bc × σ :=
  let x0 := numW nx r.d s
  let x1 := flagW nx r.ra x0.2
  (⟨x0.1, x1.1⟩, x1.2)
theorem wBc_mono {g G : Nat} {σ : Type} {nx : Int → Int → σ → Int × σ} {At : World → σ → Prop} {room : σ → Nat} (M : Mach g G σ nx At room) (r : Bc) (s : σ) : room s ≤ room (wBc nx r s).2 := by
  unfold wBc
  simp only [numW, flagW]
  exact Nat.le_trans (M.mono _ _ _) (M.mono _ _ _)

set_option maxRecDepth 100000 in
set_option maxHeartbeats 1600000 in
theorem wBc_any {g G : Nat} {σ : Type} {nx : Int → Int → σ → Int × σ} {At : World → σ → Prop} {room : σ → Nat} (M : Mach g G σ nx At room) (r : Bc) (s : σ) (w : World) (hA : At w s) (hr : room (wBc nx r s).2 ≤ 1000000) :
    Calls Try.prog 94 #[walkV g G, r.val] w fun e w' => e = .returned (wBc nx r s).1.val ∧ At w' (wBc nx r s).2 ∧ KB G w.heap.size w w' := by
  obtain ⟨y0, y1⟩ := r
  unfold wBc at hr ⊢
  simp only at hr ⊢
  obtain ⟨x0, hx0⟩ : ∃ x, numW nx y0 s = x := ⟨_, rfl⟩
  rw [hx0] at hr ⊢
  have m0 : room s ≤ room x0.2 := by rw [← hx0]; exact M.mono _ _ _
  obtain ⟨x1, hx1⟩ : ∃ x, flagW nx y1 x0.2 = x := ⟨_, rfl⟩
  rw [hx1] at hr ⊢
  have m1 : room x0.2 ≤ room x1.2 := by rw [← hx1]; exact M.mono _ _ _
  have HR := hid (show room x0.2 ≤ 1000000 ∧ room x1.2 ≤ 1000000 by omega)
  have HX0 := hid hx0
  have HX1 := hid hx1
  clear hr hx0 m0 hx1 m1
  have HM := hid M
  have L := hid (Loc.start M hA 104 #[.int .i64 y0, .bool y1] #[.int .i64 0, .bool false])
  clear M hA
  unfold walkV Bc.val
  go_enter Try.func94, Try.ntmps94
  go_wp2_with fail
  refine (numW_any HM.out y0 s _ L.out.at_ (by have := HX0.out; rw [this]; exact HR.out.1)).mono ?_
  rintro e w1 ⟨rfl, hA0, hK0⟩
  rw [HX0.out] at hA0
  rw [HX0.out]
  have L1 := L.out.step hA0 hK0
  clear hA0 hK0 L
  have d0 := (L1.b0.cell 0).trans rfl
  have f1 := L1.b1.free
  have c0 := (L1.b1.cell 0).trans rfl
  have c1 := (L1.b1.cell 1).trans rfl
  have L := hid (L1.set HM.out 0 (.int .i64 x0.1))
  clear L1
  go_wp2_with fail
  refine (flagW_any HM.out y1 x0.2 _ L.out.at_ (by have := HX1.out; rw [this]; exact HR.out.2)).mono ?_
  rintro e w2 ⟨rfl, hA1, hK1⟩
  rw [HX1.out] at hA1
  rw [HX1.out]
  have L1 := L.out.step hA1 hK1
  clear hA1 hK1 L c0 c1 d0 f1
  have d0 := (L1.b0.cell 0).trans rfl
  have f1 := L1.b1.free
  have c0 := (L1.b1.cell 0).trans rfl
  have c1 := (L1.b1.cell 1).trans rfl
  have e0 := (L1.b2.cell 0).trans rfl
  have e1 := (L1.b2.cell 1).trans rfl
  have f2 := L1.b2.free
  have L := hid (L1.set HM.out 1 (.bool x1.1))
  clear L1
  go_wp2
  have hres := L.out.res HM.out [.int .i64 x0.1, .bool x1.1] 0
  refine bodyPost_ret (results_cell_row rfl _ _ (w.heap.size + 2) 104 _ (0, 0) _ rfl (BoxAt.sets2 L.out.b2 (.int .i64 x0.1) (.bool x1.1)) Try.underlying104 rfl Try.infoBc7) rfl ?_
  exact ⟨rfl, hres.1, hres.2.1⟩

theorem Try.infoSc7 : (Try.prog.info? 106).map (·.size) = some 3 := by kernel_rfl

def wSc {σ : Type} (nx : Int → Int → σ → Int × σ) (r : Sc) (s : σ) : Sc × σ :=
  let x0 := numW nx r.co s
  let x1 := numW nx r.mo x0.2
  let x2 := flagW nx r.ra x1.2
  (⟨x0.1, x1.1, x2.1⟩, x2.2)
theorem wSc_mono {g G : Nat} {σ : Type} {nx : Int → Int → σ → Int × σ} {At : World → σ → Prop} {room : σ → Nat} (M : Mach g G σ nx At room) (r : Sc) (s : σ) : room s ≤ room (wSc nx r s).2 := by
  unfold wSc
  simp only [numW, flagW]
  exact Nat.le_trans (Nat.le_trans (M.mono _ _ _) (M.mono _ _ _)) (M.mono _ _ _)

set_option maxRecDepth 100000 in
set_option maxHeartbeats 1600000 in
theorem wSc_any {g G : Nat} {σ : Type} {nx : Int → Int → σ → Int × σ} {At : World → σ → Prop} {room : σ → Nat} (M : Mach g G σ nx At room) (r : Sc) (s : σ) (w : World) (hA : At w s) (hr : room (wSc nx r s).2 ≤ 1000000) :
    Calls Try.prog 96 #[walkV g G, r.val] w fun e w' => e = .returned (wSc nx r s).1.val ∧ At w' (wSc nx r s).2 ∧ KB G w.heap.size w w' := by
  obtain ⟨y0, y1, y2⟩ := r
  unfold wSc at hr ⊢
  simp only at hr ⊢
  obtain ⟨x0, hx0⟩ : ∃ x, numW nx y0 s = x := ⟨_, rfl⟩
  rw [hx0] at hr ⊢
  have m0 : room s ≤ room x0.2 := by rw [← hx0]; exact M.mono _ _ _
  obtain ⟨x1, hx1⟩ : ∃ x, numW nx y1 x0.2 = x := ⟨_, rfl⟩
  rw [hx1] at hr ⊢
  have m1 : room x0.2 ≤ room x1.2 := by rw [← hx1]; exact M.mono _ _ _
  obtain ⟨x2, hx2⟩ : ∃ x, flagW nx y2 x1.2 = x := ⟨_, rfl⟩
  rw [hx2] at hr ⊢
  have m2 : room x1.2 ≤ room x2.2 := by rw [← hx2]; exact M.mono _ _ _
  have HR := hid (show room x0.2 ≤ 1000000 ∧ room x1.2 ≤ 1000000 ∧ room x2.2 ≤ 1000000 by omega)
  have HX0 := hid hx0
  have HX1 := hid hx1
  have HX2 := hid hx2
  clear hr hx0 m0 hx1 m1 hx2 m2
  have HM := hid M
  have L := hid (Loc.start M hA 106 #[.int .i64 y0, .int .i64 y1, .bool y2] #[.int .i64 0, .int .i64 0, .bool false])
  clear M hA
  unfold walkV Sc.val
  go_enter Try.func96, Try.ntmps96
  go_wp2_with fail
  refine (numW_any HM.out y0 s _ L.out.at_ (by have := HX0.out; rw [this]; exact HR.out.1)).mono ?_
  rintro e w1 ⟨rfl, hA0, hK0⟩
  rw [HX0.out] at hA0
  rw [HX0.out]
  have L1 := L.out.step hA0 hK0
  clear hA0 hK0 L
  have d0 := (L1.b0.cell 0).trans rfl
  have f1 := L1.b1.free
  have c0 := (L1.b1.cell 0).trans rfl
  have c1 := (L1.b1.cell 1).trans rfl
  have c2 := (L1.b1.cell 2).trans rfl
  have L := hid (L1.set HM.out 0 (.int .i64 x0.1))
  clear L1
  go_wp2_with fail
  refine (numW_any HM.out y1 x0.2 _ L.out.at_ (by have := HX1.out; rw [this]; exact HR.out.2.1)).mono ?_
  rintro e w2 ⟨rfl, hA1, hK1⟩
  rw [HX1.out] at hA1
  rw [HX1.out]
  have L1 := L.out.step hA1 hK1
  clear hA1 hK1 L c0 c1 c2 d0 f1
  have d0 := (L1.b0.cell 0).trans rfl
  have f1 := L1.b1.free
  have c0 := (L1.b1.cell 0).trans rfl
  have c1 := (L1.b1.cell 1).trans rfl
  have c2 := (L1.b1.cell 2).trans rfl
  have L := hid (L1.set HM.out 1 (.int .i64 x1.1))
  clear L1
  go_wp2_with fail
  refine (flagW_any HM.out y2 x1.2 _ L.out.at_ (by have := HX2.out; rw [this]; exact HR.out.2.2)).mono ?_
  rintro e w3 ⟨rfl, hA2, hK2⟩
  rw [HX2.out] at hA2
  rw [HX2.out]
  have L1 := L.out.step hA2 hK2
  clear hA2 hK2 L c0 c1 c2 d0 f1
  have d0 := (L1.b0.cell 0).trans rfl
  have f1 := L1.b1.free
  have c0 := (L1.b1.cell 0).trans rfl
  have c1 := (L1.b1.cell 1).trans rfl
  have c2 := (L1.b1.cell 2).trans rfl
  have e0 := (L1.b2.cell 0).trans rfl
  have e1 := (L1.b2.cell 1).trans rfl
  have e2 := (L1.b2.cell 2).trans rfl
  have f2 := L1.b2.free
  have L := hid (L1.set HM.out 2 (.bool x2.1))
  clear L1
  go_wp2
  have hres := L.out.res HM.out [.int .i64 x0.1, .int .i64 x1.1, .bool x2.1] 0
  refine bodyPost_ret (results_cell_row rfl _ _ (w.heap.size + 2) 106 _ (0, 0) _ rfl (BoxAt.sets3 L.out.b2 (.int .i64 x0.1) (.int .i64 x1.1) (.bool x2.1)) Try.underlying106 rfl Try.infoSc7) rfl ?_
  exact ⟨rfl, hres.1, hres.2.1⟩

theorem Try.infoWn7 : (Try.prog.info? 39).map (·.size) = some 3 := by kernel_rfl

def wWn {σ : Type} (nx : Int → Int → σ → Int × σ) (r : Wn) (s : σ) : Wn × σ :=
  let x0 := numW nx r.p s
  let x1 := numW nx r.st x0.2
  let x2 := numW nx r.ln x1.2
  (⟨x0.1, x1.1, x2.1⟩, x2.2)
theorem wWn_mono {g G : Nat} {σ : Type} {nx : Int → Int → σ → Int × σ} {At : World → σ → Prop} {room : σ → Nat} (M : Mach g G σ nx At room) (r : Wn) (s : σ) : room s ≤ room (wWn nx r s).2 := by
  unfold wWn
  simp only [numW]
  exact Nat.le_trans (Nat.le_trans (M.mono _ _ _) (M.mono _ _ _)) (M.mono _ _ _)

set_option maxRecDepth 100000 in
set_option maxHeartbeats 1600000 in
theorem wWn_any {g G : Nat} {σ : Type} {nx : Int → Int → σ → Int × σ} {At : World → σ → Prop} {room : σ → Nat} (M : Mach g G σ nx At room) (r : Wn) (s : σ) (w : World) (hA : At w s) (hr : room (wWn nx r s).2 ≤ 1000000) :
    Calls Try.prog 65 #[walkV g G, r.val] w fun e w' => e = .returned (wWn nx r s).1.val ∧ At w' (wWn nx r s).2 ∧ KB G w.heap.size w w' := by
  obtain ⟨y0, y1, y2⟩ := r
  unfold wWn at hr ⊢
  simp only at hr ⊢
  obtain ⟨x0, hx0⟩ : ∃ x, numW nx y0 s = x := ⟨_, rfl⟩
  rw [hx0] at hr ⊢
  have m0 : room s ≤ room x0.2 := by rw [← hx0]; exact M.mono _ _ _
  obtain ⟨x1, hx1⟩ : ∃ x, numW nx y1 x0.2 = x := ⟨_, rfl⟩
  rw [hx1] at hr ⊢
  have m1 : room x0.2 ≤ room x1.2 := by rw [← hx1]; exact M.mono _ _ _
  obtain ⟨x2, hx2⟩ : ∃ x, numW nx y2 x1.2 = x := ⟨_, rfl⟩
  rw [hx2] at hr ⊢
  have m2 : room x1.2 ≤ room x2.2 := by rw [← hx2]; exact M.mono _ _ _
  have HR := hid (show room x0.2 ≤ 1000000 ∧ room x1.2 ≤ 1000000 ∧ room x2.2 ≤ 1000000 by omega)
  have HX0 := hid hx0
  have HX1 := hid hx1
  have HX2 := hid hx2
  clear hr hx0 m0 hx1 m1 hx2 m2
  have HM := hid M
  have L := hid (Loc.start M hA 39 #[.int .i64 y0, .int .i64 y1, .int .i64 y2] #[.int .i64 0, .int .i64 0, .int .i64 0])
  clear M hA
  unfold walkV Wn.val
  go_enter Try.func65, Try.ntmps65
  go_wp2_with fail
  refine (numW_any HM.out y0 s _ L.out.at_ (by have := HX0.out; rw [this]; exact HR.out.1)).mono ?_
  rintro e w1 ⟨rfl, hA0, hK0⟩
  rw [HX0.out] at hA0
  rw [HX0.out]
  have L1 := L.out.step hA0 hK0
  clear hA0 hK0 L
  have d0 := (L1.b0.cell 0).trans rfl
  have f1 := L1.b1.free
  have c0 := (L1.b1.cell 0).trans rfl
  have c1 := (L1.b1.cell 1).trans rfl
  have c2 := (L1.b1.cell 2).trans rfl
  have L := hid (L1.set HM.out 0 (.int .i64 x0.1))
  clear L1
  go_wp2_with fail
  refine (numW_any HM.out y1 x0.2 _ L.out.at_ (by have := HX1.out; rw [this]; exact HR.out.2.1)).mono ?_
  rintro e w2 ⟨rfl, hA1, hK1⟩
  rw [HX1.out] at hA1
  rw [HX1.out]
  have L1 := L.out.step hA1 hK1
  clear hA1 hK1 L c0 c1 c2 d0 f1
  have d0 := (L1.b0.cell 0).trans rfl
  have f1 := L1.b1.free
  have c0 := (L1.b1.cell 0).trans rfl
  have c1 := (L1.b1.cell 1).trans rfl
  have c2 := (L1.b1.cell 2).trans rfl
  have L := hid (L1.set HM.out 1 (.int .i64 x1.1))
  clear L1
  go_wp2_with fail
  refine (numW_any HM.out y2 x1.2 _ L.out.at_ (by have := HX2.out; rw [this]; exact HR.out.2.2)).mono ?_
  rintro e w3 ⟨rfl, hA2, hK2⟩
  rw [HX2.out] at hA2
  rw [HX2.out]
  have L1 := L.out.step hA2 hK2
  clear hA2 hK2 L c0 c1 c2 d0 f1
  have d0 := (L1.b0.cell 0).trans rfl
  have f1 := L1.b1.free
  have c0 := (L1.b1.cell 0).trans rfl
  have c1 := (L1.b1.cell 1).trans rfl
  have c2 := (L1.b1.cell 2).trans rfl
  have e0 := (L1.b2.cell 0).trans rfl
  have e1 := (L1.b2.cell 1).trans rfl
  have e2 := (L1.b2.cell 2).trans rfl
  have f2 := L1.b2.free
  have L := hid (L1.set HM.out 2 (.int .i64 x2.1))
  clear L1
  go_wp2
  have hres := L.out.res HM.out [.int .i64 x0.1, .int .i64 x1.1, .int .i64 x2.1] 0
  refine bodyPost_ret (results_cell_row rfl _ _ (w.heap.size + 2) 39 _ (0, 0) _ rfl (BoxAt.sets3 L.out.b2 (.int .i64 x0.1) (.int .i64 x1.1) (.int .i64 x2.1)) Try.underlying39 rfl Try.infoWn7) rfl ?_
  exact ⟨rfl, hres.1, hres.2.1⟩

theorem Try.infoCh7 : (Try.prog.info? 41).map (·.size) = some 5 := by kernel_rfl

def wCh {σ : Type} (nx : Int → Int → σ → Int × σ) (r : Ch) (s : σ) : Ch × σ :=
  let x0 := flagW nx r.qu s
  let x1 := numW nx r.f x0.2
  let x2 := numW nx r.a x1.2
  let x3 := numW nx r.t x2.2
  let x4 := numW nx r.b x3.2
  (⟨x0.1, x1.1, x2.1, x3.1, x4.1⟩, x4.2)
theorem wCh_mono {g G : Nat} {σ : Type} {nx : Int → Int → σ → Int × σ} {At : World → σ → Prop} {room : σ → Nat} (M : Mach g G σ nx At room) (r : Ch) (s : σ) : room s ≤ room (wCh nx r s).2 := by
  unfold wCh
  simp only [numW, flagW]
  exact Nat.le_trans (Nat.le_trans (Nat.le_trans (Nat.le_trans (M.mono _ _ _) (M.mono _ _ _)) (M.mono _ _ _)) (M.mono _ _ _)) (M.mono _ _ _)

set_option maxRecDepth 100000 in
set_option maxHeartbeats 1600000 in
theorem wCh_any {g G : Nat} {σ : Type} {nx : Int → Int → σ → Int × σ} {At : World → σ → Prop} {room : σ → Nat} (M : Mach g G σ nx At room) (r : Ch) (s : σ) (w : World) (hA : At w s) (hr : room (wCh nx r s).2 ≤ 1000000) :
    Calls Try.prog 67 #[walkV g G, r.val] w fun e w' => e = .returned (wCh nx r s).1.val ∧ At w' (wCh nx r s).2 ∧ KB G w.heap.size w w' := by
  obtain ⟨y0, y1, y2, y3, y4⟩ := r
  unfold wCh at hr ⊢
  simp only at hr ⊢
  obtain ⟨x0, hx0⟩ : ∃ x, flagW nx y0 s = x := ⟨_, rfl⟩
  rw [hx0] at hr ⊢
  have m0 : room s ≤ room x0.2 := by rw [← hx0]; exact M.mono _ _ _
  obtain ⟨x1, hx1⟩ : ∃ x, numW nx y1 x0.2 = x := ⟨_, rfl⟩
  rw [hx1] at hr ⊢
  have m1 : room x0.2 ≤ room x1.2 := by rw [← hx1]; exact M.mono _ _ _
  obtain ⟨x2, hx2⟩ : ∃ x, numW nx y2 x1.2 = x := ⟨_, rfl⟩
  rw [hx2] at hr ⊢
  have m2 : room x1.2 ≤ room x2.2 := by rw [← hx2]; exact M.mono _ _ _
  obtain ⟨x3, hx3⟩ : ∃ x, numW nx y3 x2.2 = x := ⟨_, rfl⟩
  rw [hx3] at hr ⊢
  have m3 : room x2.2 ≤ room x3.2 := by rw [← hx3]; exact M.mono _ _ _
  obtain ⟨x4, hx4⟩ : ∃ x, numW nx y4 x3.2 = x := ⟨_, rfl⟩
  rw [hx4] at hr ⊢
  have m4 : room x3.2 ≤ room x4.2 := by rw [← hx4]; exact M.mono _ _ _
  have HR := hid (show room x0.2 ≤ 1000000 ∧ room x1.2 ≤ 1000000 ∧ room x2.2 ≤ 1000000 ∧ room x3.2 ≤ 1000000 ∧ room x4.2 ≤ 1000000 by omega)
  have HX0 := hid hx0
  have HX1 := hid hx1
  have HX2 := hid hx2
  have HX3 := hid hx3
  have HX4 := hid hx4
  clear hr hx0 m0 hx1 m1 hx2 m2 hx3 m3 hx4 m4
  have HM := hid M
  have L := hid (Loc.start M hA 41 #[.bool y0, .int .i64 y1, .int .i64 y2, .int .i64 y3, .int .i64 y4] #[.bool false, .int .i64 0, .int .i64 0, .int .i64 0, .int .i64 0])
  clear M hA
  unfold walkV Ch.val
  go_enter Try.func67, Try.ntmps67
  go_wp2_with fail
  refine (flagW_any HM.out y0 s _ L.out.at_ (by have := HX0.out; rw [this]; exact HR.out.1)).mono ?_
  rintro e w1 ⟨rfl, hA0, hK0⟩
  rw [HX0.out] at hA0
  rw [HX0.out]
  have L1 := L.out.step hA0 hK0
  clear hA0 hK0 L
  have d0 := (L1.b0.cell 0).trans rfl
  have f1 := L1.b1.free
  have c0 := (L1.b1.cell 0).trans rfl
  have c1 := (L1.b1.cell 1).trans rfl
  have c2 := (L1.b1.cell 2).trans rfl
  have c3 := (L1.b1.cell 3).trans rfl
  have c4 := (L1.b1.cell 4).trans rfl
  have L := hid (L1.set HM.out 0 (.bool x0.1))
  clear L1
  go_wp2_with fail
  refine (numW_any HM.out y1 x0.2 _ L.out.at_ (by have := HX1.out; rw [this]; exact HR.out.2.1)).mono ?_
  rintro e w2 ⟨rfl, hA1, hK1⟩
  rw [HX1.out] at hA1
  rw [HX1.out]
  have L1 := L.out.step hA1 hK1
  clear hA1 hK1 L c0 c1 c2 c3 c4 d0 f1
  have d0 := (L1.b0.cell 0).trans rfl
  have f1 := L1.b1.free
  have c0 := (L1.b1.cell 0).trans rfl
  have c1 := (L1.b1.cell 1).trans rfl
  have c2 := (L1.b1.cell 2).trans rfl
  have c3 := (L1.b1.cell 3).trans rfl
  have c4 := (L1.b1.cell 4).trans rfl
  have L := hid (L1.set HM.out 1 (.int .i64 x1.1))
  clear L1
  go_wp2_with fail
  refine (numW_any HM.out y2 x1.2 _ L.out.at_ (by have := HX2.out; rw [this]; exact HR.out.2.2.1)).mono ?_
  rintro e w3 ⟨rfl, hA2, hK2⟩
  rw [HX2.out] at hA2
  rw [HX2.out]
  have L1 := L.out.step hA2 hK2
  clear hA2 hK2 L c0 c1 c2 c3 c4 d0 f1
  have d0 := (L1.b0.cell 0).trans rfl
  have f1 := L1.b1.free
  have c0 := (L1.b1.cell 0).trans rfl
  have c1 := (L1.b1.cell 1).trans rfl
  have c2 := (L1.b1.cell 2).trans rfl
  have c3 := (L1.b1.cell 3).trans rfl
  have c4 := (L1.b1.cell 4).trans rfl
  have L := hid (L1.set HM.out 2 (.int .i64 x2.1))
  clear L1
  go_wp2_with fail
  refine (numW_any HM.out y3 x2.2 _ L.out.at_ (by have := HX3.out; rw [this]; exact HR.out.2.2.2.1)).mono ?_
  rintro e w4 ⟨rfl, hA3, hK3⟩
  rw [HX3.out] at hA3
  rw [HX3.out]
  have L1 := L.out.step hA3 hK3
  clear hA3 hK3 L c0 c1 c2 c3 c4 d0 f1
  have d0 := (L1.b0.cell 0).trans rfl
  have f1 := L1.b1.free
  have c0 := (L1.b1.cell 0).trans rfl
  have c1 := (L1.b1.cell 1).trans rfl
  have c2 := (L1.b1.cell 2).trans rfl
  have c3 := (L1.b1.cell 3).trans rfl
  have c4 := (L1.b1.cell 4).trans rfl
  have L := hid (L1.set HM.out 3 (.int .i64 x3.1))
  clear L1
  go_wp2_with fail
  refine (numW_any HM.out y4 x3.2 _ L.out.at_ (by have := HX4.out; rw [this]; exact HR.out.2.2.2.2)).mono ?_
  rintro e w5 ⟨rfl, hA4, hK4⟩
  rw [HX4.out] at hA4
  rw [HX4.out]
  have L1 := L.out.step hA4 hK4
  clear hA4 hK4 L c0 c1 c2 c3 c4 d0 f1
  have d0 := (L1.b0.cell 0).trans rfl
  have f1 := L1.b1.free
  have c0 := (L1.b1.cell 0).trans rfl
  have c1 := (L1.b1.cell 1).trans rfl
  have c2 := (L1.b1.cell 2).trans rfl
  have c3 := (L1.b1.cell 3).trans rfl
  have c4 := (L1.b1.cell 4).trans rfl
  have e0 := (L1.b2.cell 0).trans rfl
  have e1 := (L1.b2.cell 1).trans rfl
  have e2 := (L1.b2.cell 2).trans rfl
  have e3 := (L1.b2.cell 3).trans rfl
  have e4 := (L1.b2.cell 4).trans rfl
  have f2 := L1.b2.free
  have L := hid (L1.set HM.out 4 (.int .i64 x4.1))
  clear L1
  go_wp2
  have hres := L.out.res HM.out [.bool x0.1, .int .i64 x1.1, .int .i64 x2.1, .int .i64 x3.1, .int .i64 x4.1] 0
  refine bodyPost_ret (results_cell_row rfl _ _ (w.heap.size + 2) 41 _ (0, 0) _ rfl (BoxAt.sets5 L.out.b2 (.bool x0.1) (.int .i64 x1.1) (.int .i64 x2.1) (.int .i64 x3.1) (.int .i64 x4.1)) Try.underlying41 rfl Try.infoCh7) rfl ?_
  exact ⟨rfl, hres.1, hres.2.1⟩

/-- One behind the other. -/
def mapW {α σ : Type} (one : α → σ → α × σ) : List α → σ → List α × σ
  | [], s => ([], s)
  | x :: xs, s => ((one x s).1 :: (mapW one xs (one x s).2).1, (mapW one xs (one x s).2).2)
def pad {α : Type} (l : List α) (z : α) (k : Nat) : List α := (List.range k).map fun i => l.getD i z
def listW {α σ : Type} (nx : Int → Int → σ → Int × σ) (one : α → σ → α × σ) (z : α) (l : List α) (s : σ) : List α × σ :=
  mapW one (pad l z (nx l.length 64 s).1.toNat) (nx l.length 64 s).2
theorem pad_length {α : Type} (l : List α) (z : α) (k : Nat) : (pad l z k).length = k := by simp [pad]
theorem pad_drop {α : Type} (l : List α) (z : α) (k i : Nat) (h : i < k) : (pad l z k).drop i = l.getD i z :: (pad l z k).drop (i + 1) := by
  have hl : i < (pad l z k).length := by rw [pad_length]; exact h
  rw [List.drop_eq_getElem_cons hl]
  simp [pad]
theorem mapW_mono {α σ : Type} {one : α → σ → α × σ} {room : σ → Nat} (h : ∀ x s, room s ≤ room (one x s).2) (xs : List α) : ∀ s, room s ≤ room (mapW one xs s).2 := by
  induction xs with
  | nil => intro s; exact Nat.le_refl _
  | cons x xs ih => intro s; exact Nat.le_trans (h x s) (ih _)
theorem mapW_length {α σ : Type} {one : α → σ → α × σ} (xs : List α) : ∀ s, (mapW one xs s).1.length = xs.length := by
  induction xs with
  | nil => intro s; rfl
  | cons x xs ih => intro s; simp [mapW, ih]
theorem listW_mono {g G : Nat} {α σ : Type} {nx : Int → Int → σ → Int × σ} {At : World → σ → Prop} {room : σ → Nat} (M : Mach g G σ nx At room) {one : α → σ → α × σ} (h : ∀ x s, room s ≤ room (one x s).2) (z : α) (l : List α) (s : σ) : room s ≤ room (listW nx one z l s).2 :=
  Nat.le_trans (M.mono _ _ _) (mapW_mono h _ _)
theorem listW_length {g G : Nat} {α σ : Type} {nx : Int → Int → σ → Int × σ} {At : World → σ → Prop} {room : σ → Nat} (M : Mach g G σ nx At room) {one : α → σ → α × σ} (z : α) (l : List α) (s : σ) (hl : l.length ≤ 1000) : (listW nx one z l s).1.length ≤ 1000 := by
  unfold listW
  rw [mapW_length, pad_length]
  have := M.few l.length s
  omega
end Go.Proofs.Ytfdoejdnhogepaa
