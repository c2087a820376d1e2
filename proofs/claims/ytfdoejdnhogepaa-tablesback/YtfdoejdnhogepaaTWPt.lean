/-
  What the walk through a partition's table returns over any machine that is given numbers one by one.
-/
import Derived.Test.YtfdoejdnhogepaaTBlk
import Derived.Test.YtfdoejdnhogepaaTLI
import Derived.Test.YtfdoejdnhogepaaTLRg
import Derived.Test.YtfdoejdnhogepaaTLPc
import Derived.Test.YtfdoejdnhogepaaTLBc
import Derived.Test.YtfdoejdnhogepaaTLSc
namespace Go.Proofs.Ytfdoejdnhogepaa
open Go.RowKit
set_option linter.unusedVariables false

theorem Try.infoPt7 : (Try.prog.info? 49).map (·.size) = some 11 := by kernel_rfl

def wPt {σ : Type} (nx : Int → Int → σ → Int × σ) (p : Pt) (s : σ) : Pt × σ :=
  let x0 := numW nx p.wo s
  let x1 := listW nx (wRg nx) Rg.zero p.rg x0.2
  let x2 := listW nx (wPc nx) Pc.zero p.pc x1.2
  let x3 := numW nx p.bo x2.2
  let x4 := listW nx (wBc nx) Bc.zero p.bc x3.2
  let x5 := listW nx (wSc nx) Sc.zero p.sc x4.2
  let x6 := numW nx p.ev x5.2
  let x7 := listW nx (numW nx) 0 p.sa x6.2
  let x8 := listW nx (numW nx) 0 p.qu x7.2
  let x9 := numW nx p.la x8.2
  let x10 := listW nx (numW nx) 0 p.tb x9.2
  (⟨x0.1, x1.1, x2.1, x3.1, x4.1, x5.1, x6.1, x7.1, x8.1, x9.1, x10.1⟩, x10.2)
theorem wPt_mono {g G : Nat} {σ : Type} {nx : Int → Int → σ → Int × σ} {At : World → σ → Prop} {room : σ → Nat} (M : Mach g G σ nx At room) (p : Pt) (s : σ) : room s ≤ room (wPt nx p s).2 :=
  (Nat.le_trans (Nat.le_trans (Nat.le_trans (Nat.le_trans (Nat.le_trans (Nat.le_trans (Nat.le_trans (Nat.le_trans (Nat.le_trans (Nat.le_trans (M.mono _ _ _) (listW_mono M (wRg_mono M) _ _ _)) (listW_mono M (wPc_mono M) _ _ _)) (M.mono _ _ _)) (listW_mono M (wBc_mono M) _ _ _)) (listW_mono M (wSc_mono M) _ _ _)) (M.mono _ _ _)) (listW_mono M (numW_mono M) _ _ _)) (listW_mono M (numW_mono M) _ _ _)) (M.mono _ _ _)) (listW_mono M (numW_mono M) _ _ _))

set_option maxRecDepth 100000 in
set_option maxHeartbeats 8000000 in
theorem wPt_any {g G : Nat} {σ : Type} {nx : Int → Int → σ → Int × σ} {At : World → σ → Prop} {room : σ → Nat} (M : Mach g G σ nx At room) (q : Pv) (p : Pt) (s : σ) (w : World) (hA : At w s) (hP : PtAt w q p) (hH : PtBlk (fun b => b < w.heap.size ∧ ¬ own G w b) q) (hF : p.few) (hr : room (wPt nx p s).2 ≤ 1000000) :
    Calls Try.prog 63 #[walkV g G, q.val] w fun e w' => ∃ q' : Pv, e = .returned q'.val ∧ PtAt w' q' (wPt nx p s).1 ∧ PtBlk (fun b => w.heap.size ≤ b ∧ b < w'.heap.size ∧ ¬ own G w' b) q' ∧ At w' (wPt nx p s).2 ∧ KB G w.heap.size w w' := by
  obtain ⟨wo, ⟨a1, n1, k1⟩, ⟨a2, n2, k2⟩, bo, ⟨a4, n4, k4⟩, ⟨a5, n5, k5⟩, ev, ⟨a7, n7, k7⟩, ⟨a8, n8, k8⟩, la, ⟨a10, n10, k10⟩⟩ := q
  obtain rfl : wo = p.wo := hP.wo
  obtain rfl : bo = p.bo := hP.bo
  obtain rfl : ev = p.ev := hP.ev
  obtain rfl : la = p.la := hP.la
  unfold wPt at hr ⊢
  simp only at hr ⊢
  obtain ⟨x0, hx0⟩ : ∃ x, numW nx p.wo s = x := ⟨_, rfl⟩
  rw [hx0] at hr ⊢
  have m0 : room s ≤ room x0.2 := by rw [← hx0]; exact M.mono _ _ _
  obtain ⟨x1, hx1⟩ : ∃ x, listW nx (wRg nx) Rg.zero p.rg x0.2 = x := ⟨_, rfl⟩
  rw [hx1] at hr ⊢
  have m1 : room x0.2 ≤ room x1.2 := by rw [← hx1]; exact listW_mono M (wRg_mono M) _ _ _
  obtain ⟨x2, hx2⟩ : ∃ x, listW nx (wPc nx) Pc.zero p.pc x1.2 = x := ⟨_, rfl⟩
  rw [hx2] at hr ⊢
  have m2 : room x1.2 ≤ room x2.2 := by rw [← hx2]; exact listW_mono M (wPc_mono M) _ _ _
  obtain ⟨x3, hx3⟩ : ∃ x, numW nx p.bo x2.2 = x := ⟨_, rfl⟩
  rw [hx3] at hr ⊢
  have m3 : room x2.2 ≤ room x3.2 := by rw [← hx3]; exact M.mono _ _ _
  obtain ⟨x4, hx4⟩ : ∃ x, listW nx (wBc nx) Bc.zero p.bc x3.2 = x := ⟨_, rfl⟩
  rw [hx4] at hr ⊢
  have m4 : room x3.2 ≤ room x4.2 := by rw [← hx4]; exact listW_mono M (wBc_mono M) _ _ _
  obtain ⟨x5, hx5⟩ : ∃ x, listW nx (wSc nx) Sc.zero p.sc x4.2 = x := ⟨_, rfl⟩
  rw [hx5] at hr ⊢
  have m5 : room x4.2 ≤ room x5.2 := by rw [← hx5]; exact listW_mono M (wSc_mono M) _ _ _
  obtain ⟨x6, hx6⟩ : ∃ x, numW nx p.ev x5.2 = x := ⟨_, rfl⟩
  rw [hx6] at hr ⊢
  have m6 : room x5.2 ≤ room x6.2 := by rw [← hx6]; exact M.mono _ _ _
  obtain ⟨x7, hx7⟩ : ∃ x, listW nx (numW nx) 0 p.sa x6.2 = x := ⟨_, rfl⟩
  rw [hx7] at hr ⊢
  have m7 : room x6.2 ≤ room x7.2 := by rw [← hx7]; exact listW_mono M (numW_mono M) _ _ _
  obtain ⟨x8, hx8⟩ : ∃ x, listW nx (numW nx) 0 p.qu x7.2 = x := ⟨_, rfl⟩
  rw [hx8] at hr ⊢
  have m8 : room x7.2 ≤ room x8.2 := by rw [← hx8]; exact listW_mono M (numW_mono M) _ _ _
  obtain ⟨x9, hx9⟩ : ∃ x, numW nx p.la x8.2 = x := ⟨_, rfl⟩
  rw [hx9] at hr ⊢
  have m9 : room x8.2 ≤ room x9.2 := by rw [← hx9]; exact M.mono _ _ _
  obtain ⟨x10, hx10⟩ : ∃ x, listW nx (numW nx) 0 p.tb x9.2 = x := ⟨_, rfl⟩
  rw [hx10] at hr ⊢
  have m10 : room x9.2 ≤ room x10.2 := by rw [← hx10]; exact listW_mono M (numW_mono M) _ _ _
  have HR := hid (show room x0.2 ≤ 1000000 ∧ room x1.2 ≤ 1000000 ∧ room x2.2 ≤ 1000000 ∧ room x3.2 ≤ 1000000 ∧ room x4.2 ≤ 1000000 ∧ room x5.2 ≤ 1000000 ∧ room x6.2 ≤ 1000000 ∧ room x7.2 ≤ 1000000 ∧ room x8.2 ≤ 1000000 ∧ room x9.2 ≤ 1000000 ∧ room x10.2 ≤ 1000000 by omega)
  have HX0 := hid hx0
  have HX1 := hid hx1
  have HX2 := hid hx2
  have HX3 := hid hx3
  have HX4 := hid hx4
  have HX5 := hid hx5
  have HX6 := hid hx6
  have HX7 := hid hx7
  have HX8 := hid hx8
  have HX9 := hid hx9
  have HX10 := hid hx10
  clear hr hx0 m0 hx1 m1 hx2 m2 hx3 m3 hx4 m4 hx5 m5 hx6 m6 hx7 m7 hx8 m8 hx9 m9 hx10 m10
  have hmf : ∀ (fn : Fn) (first cap : Array Value) (w : World), (Instr.makeFunc fn first cap).run Try.prog w = .ok (.func fn first cap) w := fun _ _ _ _ => rfl
  have HM := hid M
  have HP := hid hP
  have HH := hid hH
  have HF := hid hF
  have L := hid (Loc.start M hA 49 #[.int .i64 p.wo, .slice a1 n1 k1, .slice a2 n2 k2, .int .i64 p.bo, .slice a4 n4 k4, .slice a5 n5 k5, .int .i64 p.ev, .slice a7 n7 k7, .slice a8 n8 k8, .int .i64 p.la, .slice a10 n10 k10] #[.int .i64 0, .slice none 0 0, .slice none 0 0, .int .i64 0, .slice none 0 0, .slice none 0 0, .int .i64 0, .slice none 0 0, .slice none 0 0, .int .i64 0, .slice none 0 0])
  have RW := hid (Rws.nil G (w.heap.size + 3) (((w.alloc (.cells #[.func (.func g) #[.pointer (some ⟨G, 0, none⟩)] #[]] 63)).alloc (.cells #[.int .i64 p.wo, .slice a1 n1 k1, .slice a2 n2 k2, .int .i64 p.bo, .slice a4 n4 k4, .slice a5 n5 k5, .int .i64 p.ev, .slice a7 n7 k7, .slice a8 n8 k8, .int .i64 p.la, .slice a10 n10 k10] 49)).alloc (.cells #[.int .i64 0, .slice none 0 0, .slice none 0 0, .int .i64 0, .slice none 0 0, .slice none 0 0, .int .i64 0, .slice none 0 0, .slice none 0 0, .int .i64 0, .slice none 0 0] 49)))
  have hS := hid (show w.heap.size + 3 ≤ (((w.alloc (.cells #[.func (.func g) #[.pointer (some ⟨G, 0, none⟩)] #[]] 63)).alloc (.cells #[.int .i64 p.wo, .slice a1 n1 k1, .slice a2 n2 k2, .int .i64 p.bo, .slice a4 n4 k4, .slice a5 n5 k5, .int .i64 p.ev, .slice a7 n7 k7, .slice a8 n8 k8, .int .i64 p.la, .slice a10 n10 k10] 49)).alloc (.cells #[.int .i64 0, .slice none 0 0, .slice none 0 0, .int .i64 0, .slice none 0 0, .slice none 0 0, .int .i64 0, .slice none 0 0, .slice none 0 0, .int .i64 0, .slice none 0 0] 49)).heap.size by simp)
  clear M hA hP hH hF
  unfold walkV Pv.val
  go_enter Try.func63, Try.ntmps63
  go_wp2_with fail
  refine (numW_any HM.out p.wo s _ L.out.at_ (by have := HX0.out; rw [this]; exact HR.out.1)).mono ?_
  rintro e w1 ⟨rfl, hA0, hK0⟩
  rw [HX0.out] at hA0
  rw [HX0.out]
  have L1 := L.out.step hA0 hK0
  have RW1 := RW.out.kept hK0
  have hS1 := Nat.le_trans hS.out hK0.size
  clear hA0 hK0 L RW hS
  have d0 := (L1.b0.cell 0).trans rfl
  have f1 := L1.b1.free
  have c0 := (L1.b1.cell 0).trans rfl
  have c1 := (L1.b1.cell 1).trans rfl
  have c2 := (L1.b1.cell 2).trans rfl
  have c3 := (L1.b1.cell 3).trans rfl
  have c4 := (L1.b1.cell 4).trans rfl
  have c5 := (L1.b1.cell 5).trans rfl
  have c6 := (L1.b1.cell 6).trans rfl
  have c7 := (L1.b1.cell 7).trans rfl
  have c8 := (L1.b1.cell 8).trans rfl
  have c9 := (L1.b1.cell 9).trans rfl
  have c10 := (L1.b1.cell 10).trans rfl
  have RW := hid (RW1.set (p := ⟨w.heap.size + 1, 0, none⟩) (by show w.heap.size + 1 < w.heap.size + 3; omega) L1.o1 (.int .i64 x0.1))
  have hS := hid (show w.heap.size + 3 ≤ (w1.setCell ⟨w.heap.size + 1, 0, none⟩ (.int .i64 x0.1)).heap.size by simpa using hS1)
  have L := hid (L1.set HM.out 0 (.int .i64 x0.1))
  clear L1 RW1 hS1
  go_wp2_with fail
  refine (lRg_any HM.out p.rg _ x0.2 _ L.out.at_ (SeesC.kept HP.out.rg HH.out.rg L.out.kb) (Held.kept HH.out.rg L.out.kb) HF.out.1 (by have := HX1.out; rw [this]; exact HR.out.2.1)).mono ?_
  rintro e w2 ⟨u1, rfl, hrow1, hA1, hK1⟩
  rw [HX1.out] at hA1 hrow1
  obtain ⟨sl1, rfl⟩ := hrow1.slice
  have L1 := L.out.step hA1 hK1
  have RW1 := (RW.out.kept hK1).cons hS.out hrow1
  have hS1 := Nat.le_trans hS.out hK1.size
  clear hrow1
  clear hA1 hK1 L RW hS c0 c1 c2 c3 c4 c5 c6 c7 c8 c9 c10 d0 f1
  have d0 := (L1.b0.cell 0).trans rfl
  have f1 := L1.b1.free
  have c0 := (L1.b1.cell 0).trans rfl
  have c1 := (L1.b1.cell 1).trans rfl
  have c2 := (L1.b1.cell 2).trans rfl
  have c3 := (L1.b1.cell 3).trans rfl
  have c4 := (L1.b1.cell 4).trans rfl
  have c5 := (L1.b1.cell 5).trans rfl
  have c6 := (L1.b1.cell 6).trans rfl
  have c7 := (L1.b1.cell 7).trans rfl
  have c8 := (L1.b1.cell 8).trans rfl
  have c9 := (L1.b1.cell 9).trans rfl
  have c10 := (L1.b1.cell 10).trans rfl
  have RW := hid (RW1.set (p := ⟨w.heap.size + 1, 1, none⟩) (by show w.heap.size + 1 < w.heap.size + 3; omega) L1.o1 (.slice sl1.a sl1.n sl1.c))
  have hS := hid (show w.heap.size + 3 ≤ (w2.setCell ⟨w.heap.size + 1, 1, none⟩ (.slice sl1.a sl1.n sl1.c)).heap.size by simpa using hS1)
  have L := hid (L1.set HM.out 1 (.slice sl1.a sl1.n sl1.c))
  clear L1 RW1 hS1
  go_wp2_with fail
  refine (lPc_any HM.out p.pc _ x1.2 _ L.out.at_ (SeesC.kept HP.out.pc HH.out.pc L.out.kb) (Held.kept HH.out.pc L.out.kb) HF.out.2.1 (by have := HX2.out; rw [this]; exact HR.out.2.2.1)).mono ?_
  rintro e w3 ⟨u2, rfl, hrow2, hA2, hK2⟩
  rw [HX2.out] at hA2 hrow2
  obtain ⟨sl2, rfl⟩ := hrow2.slice
  have L1 := L.out.step hA2 hK2
  have RW1 := (RW.out.kept hK2).cons hS.out hrow2
  have hS1 := Nat.le_trans hS.out hK2.size
  clear hrow2
  clear hA2 hK2 L RW hS c0 c1 c2 c3 c4 c5 c6 c7 c8 c9 c10 d0 f1
  have d0 := (L1.b0.cell 0).trans rfl
  have f1 := L1.b1.free
  have c0 := (L1.b1.cell 0).trans rfl
  have c1 := (L1.b1.cell 1).trans rfl
  have c2 := (L1.b1.cell 2).trans rfl
  have c3 := (L1.b1.cell 3).trans rfl
  have c4 := (L1.b1.cell 4).trans rfl
  have c5 := (L1.b1.cell 5).trans rfl
  have c6 := (L1.b1.cell 6).trans rfl
  have c7 := (L1.b1.cell 7).trans rfl
  have c8 := (L1.b1.cell 8).trans rfl
  have c9 := (L1.b1.cell 9).trans rfl
  have c10 := (L1.b1.cell 10).trans rfl
  have RW := hid (RW1.set (p := ⟨w.heap.size + 1, 2, none⟩) (by show w.heap.size + 1 < w.heap.size + 3; omega) L1.o1 (.slice sl2.a sl2.n sl2.c))
  have hS := hid (show w.heap.size + 3 ≤ (w3.setCell ⟨w.heap.size + 1, 2, none⟩ (.slice sl2.a sl2.n sl2.c)).heap.size by simpa using hS1)
  have L := hid (L1.set HM.out 2 (.slice sl2.a sl2.n sl2.c))
  clear L1 RW1 hS1
  go_wp2_with fail
  refine (numW_any HM.out p.bo x2.2 _ L.out.at_ (by have := HX3.out; rw [this]; exact HR.out.2.2.2.1)).mono ?_
  rintro e w4 ⟨rfl, hA3, hK3⟩
  rw [HX3.out] at hA3
  rw [HX3.out]
  have L1 := L.out.step hA3 hK3
  have RW1 := RW.out.kept hK3
  have hS1 := Nat.le_trans hS.out hK3.size
  clear hA3 hK3 L RW hS c0 c1 c2 c3 c4 c5 c6 c7 c8 c9 c10 d0 f1
  have d0 := (L1.b0.cell 0).trans rfl
  have f1 := L1.b1.free
  have c0 := (L1.b1.cell 0).trans rfl
  have c1 := (L1.b1.cell 1).trans rfl
  have c2 := (L1.b1.cell 2).trans rfl
  have c3 := (L1.b1.cell 3).trans rfl
  have c4 := (L1.b1.cell 4).trans rfl
  have c5 := (L1.b1.cell 5).trans rfl
  have c6 := (L1.b1.cell 6).trans rfl
  have c7 := (L1.b1.cell 7).trans rfl
  have c8 := (L1.b1.cell 8).trans rfl
  have c9 := (L1.b1.cell 9).trans rfl
  have c10 := (L1.b1.cell 10).trans rfl
  have RW := hid (RW1.set (p := ⟨w.heap.size + 1, 3, none⟩) (by show w.heap.size + 1 < w.heap.size + 3; omega) L1.o1 (.int .i64 x3.1))
  have hS := hid (show w.heap.size + 3 ≤ (w4.setCell ⟨w.heap.size + 1, 3, none⟩ (.int .i64 x3.1)).heap.size by simpa using hS1)
  have L := hid (L1.set HM.out 3 (.int .i64 x3.1))
  clear L1 RW1 hS1
  go_wp2_with fail
  refine (lBc_any HM.out p.bc _ x3.2 _ L.out.at_ (SeesC.kept HP.out.bc HH.out.bc L.out.kb) (Held.kept HH.out.bc L.out.kb) HF.out.2.2.1 (by have := HX4.out; rw [this]; exact HR.out.2.2.2.2.1)).mono ?_
  rintro e w5 ⟨u4, rfl, hrow4, hA4, hK4⟩
  rw [HX4.out] at hA4 hrow4
  obtain ⟨sl4, rfl⟩ := hrow4.slice
  have L1 := L.out.step hA4 hK4
  have RW1 := (RW.out.kept hK4).cons hS.out hrow4
  have hS1 := Nat.le_trans hS.out hK4.size
  clear hrow4
  clear hA4 hK4 L RW hS c0 c1 c2 c3 c4 c5 c6 c7 c8 c9 c10 d0 f1
  have d0 := (L1.b0.cell 0).trans rfl
  have f1 := L1.b1.free
  have c0 := (L1.b1.cell 0).trans rfl
  have c1 := (L1.b1.cell 1).trans rfl
  have c2 := (L1.b1.cell 2).trans rfl
  have c3 := (L1.b1.cell 3).trans rfl
  have c4 := (L1.b1.cell 4).trans rfl
  have c5 := (L1.b1.cell 5).trans rfl
  have c6 := (L1.b1.cell 6).trans rfl
  have c7 := (L1.b1.cell 7).trans rfl
  have c8 := (L1.b1.cell 8).trans rfl
  have c9 := (L1.b1.cell 9).trans rfl
  have c10 := (L1.b1.cell 10).trans rfl
  have RW := hid (RW1.set (p := ⟨w.heap.size + 1, 4, none⟩) (by show w.heap.size + 1 < w.heap.size + 3; omega) L1.o1 (.slice sl4.a sl4.n sl4.c))
  have hS := hid (show w.heap.size + 3 ≤ (w5.setCell ⟨w.heap.size + 1, 4, none⟩ (.slice sl4.a sl4.n sl4.c)).heap.size by simpa using hS1)
  have L := hid (L1.set HM.out 4 (.slice sl4.a sl4.n sl4.c))
  clear L1 RW1 hS1
  go_wp2_with fail
  refine (lSc_any HM.out p.sc _ x4.2 _ L.out.at_ (SeesC.kept HP.out.sc HH.out.sc L.out.kb) (Held.kept HH.out.sc L.out.kb) HF.out.2.2.2.1 (by have := HX5.out; rw [this]; exact HR.out.2.2.2.2.2.1)).mono ?_
  rintro e w6 ⟨u5, rfl, hrow5, hA5, hK5⟩
  rw [HX5.out] at hA5 hrow5
  obtain ⟨sl5, rfl⟩ := hrow5.slice
  have L1 := L.out.step hA5 hK5
  have RW1 := (RW.out.kept hK5).cons hS.out hrow5
  have hS1 := Nat.le_trans hS.out hK5.size
  clear hrow5
  clear hA5 hK5 L RW hS c0 c1 c2 c3 c4 c5 c6 c7 c8 c9 c10 d0 f1
  have d0 := (L1.b0.cell 0).trans rfl
  have f1 := L1.b1.free
  have c0 := (L1.b1.cell 0).trans rfl
  have c1 := (L1.b1.cell 1).trans rfl
  have c2 := (L1.b1.cell 2).trans rfl
  have c3 := (L1.b1.cell 3).trans rfl
  have c4 := (L1.b1.cell 4).trans rfl
  have c5 := (L1.b1.cell 5).trans rfl
  have c6 := (L1.b1.cell 6).trans rfl
  have c7 := (L1.b1.cell 7).trans rfl
  have c8 := (L1.b1.cell 8).trans rfl
  have c9 := (L1.b1.cell 9).trans rfl
  have c10 := (L1.b1.cell 10).trans rfl
  have RW := hid (RW1.set (p := ⟨w.heap.size + 1, 5, none⟩) (by show w.heap.size + 1 < w.heap.size + 3; omega) L1.o1 (.slice sl5.a sl5.n sl5.c))
  have hS := hid (show w.heap.size + 3 ≤ (w6.setCell ⟨w.heap.size + 1, 5, none⟩ (.slice sl5.a sl5.n sl5.c)).heap.size by simpa using hS1)
  have L := hid (L1.set HM.out 5 (.slice sl5.a sl5.n sl5.c))
  clear L1 RW1 hS1
  go_wp2_with fail
  refine (numW_any HM.out p.ev x5.2 _ L.out.at_ (by have := HX6.out; rw [this]; exact HR.out.2.2.2.2.2.2.1)).mono ?_
  rintro e w7 ⟨rfl, hA6, hK6⟩
  rw [HX6.out] at hA6
  rw [HX6.out]
  have L1 := L.out.step hA6 hK6
  have RW1 := RW.out.kept hK6
  have hS1 := Nat.le_trans hS.out hK6.size
  clear hA6 hK6 L RW hS c0 c1 c2 c3 c4 c5 c6 c7 c8 c9 c10 d0 f1
  have d0 := (L1.b0.cell 0).trans rfl
  have f1 := L1.b1.free
  have c0 := (L1.b1.cell 0).trans rfl
  have c1 := (L1.b1.cell 1).trans rfl
  have c2 := (L1.b1.cell 2).trans rfl
  have c3 := (L1.b1.cell 3).trans rfl
  have c4 := (L1.b1.cell 4).trans rfl
  have c5 := (L1.b1.cell 5).trans rfl
  have c6 := (L1.b1.cell 6).trans rfl
  have c7 := (L1.b1.cell 7).trans rfl
  have c8 := (L1.b1.cell 8).trans rfl
  have c9 := (L1.b1.cell 9).trans rfl
  have c10 := (L1.b1.cell 10).trans rfl
  have RW := hid (RW1.set (p := ⟨w.heap.size + 1, 6, none⟩) (by show w.heap.size + 1 < w.heap.size + 3; omega) L1.o1 (.int .i64 x6.1))
  have hS := hid (show w.heap.size + 3 ≤ (w7.setCell ⟨w.heap.size + 1, 6, none⟩ (.int .i64 x6.1)).heap.size by simpa using hS1)
  have L := hid (L1.set HM.out 6 (.int .i64 x6.1))
  clear L1 RW1 hS1
  go_wp2_with fail
  refine (lI_any HM.out p.sa _ x6.2 _ L.out.at_ (Sees.kept HP.out.sa HH.out.sa L.out.kb) (Held.kept HH.out.sa L.out.kb) HF.out.2.2.2.2.1 (by have := HX7.out; rw [this]; exact HR.out.2.2.2.2.2.2.2.1)).mono ?_
  rintro e w8 ⟨u7, rfl, hrow7, hA7, hK7⟩
  rw [HX7.out] at hA7 hrow7
  obtain ⟨sl7, rfl⟩ := hrow7.slice
  have L1 := L.out.step hA7 hK7
  have RW1 := (RW.out.kept hK7).cons hS.out hrow7
  have hS1 := Nat.le_trans hS.out hK7.size
  clear hrow7
  clear hA7 hK7 L RW hS c0 c1 c2 c3 c4 c5 c6 c7 c8 c9 c10 d0 f1
  have d0 := (L1.b0.cell 0).trans rfl
  have f1 := L1.b1.free
  have c0 := (L1.b1.cell 0).trans rfl
  have c1 := (L1.b1.cell 1).trans rfl
  have c2 := (L1.b1.cell 2).trans rfl
  have c3 := (L1.b1.cell 3).trans rfl
  have c4 := (L1.b1.cell 4).trans rfl
  have c5 := (L1.b1.cell 5).trans rfl
  have c6 := (L1.b1.cell 6).trans rfl
  have c7 := (L1.b1.cell 7).trans rfl
  have c8 := (L1.b1.cell 8).trans rfl
  have c9 := (L1.b1.cell 9).trans rfl
  have c10 := (L1.b1.cell 10).trans rfl
  have RW := hid (RW1.set (p := ⟨w.heap.size + 1, 7, none⟩) (by show w.heap.size + 1 < w.heap.size + 3; omega) L1.o1 (.slice sl7.a sl7.n sl7.c))
  have hS := hid (show w.heap.size + 3 ≤ (w8.setCell ⟨w.heap.size + 1, 7, none⟩ (.slice sl7.a sl7.n sl7.c)).heap.size by simpa using hS1)
  have L := hid (L1.set HM.out 7 (.slice sl7.a sl7.n sl7.c))
  clear L1 RW1 hS1
  go_wp2_with fail
  refine (lI_any HM.out p.qu _ x7.2 _ L.out.at_ (Sees.kept HP.out.qu HH.out.qu L.out.kb) (Held.kept HH.out.qu L.out.kb) HF.out.2.2.2.2.2.1 (by have := HX8.out; rw [this]; exact HR.out.2.2.2.2.2.2.2.2.1)).mono ?_
  rintro e w9 ⟨u8, rfl, hrow8, hA8, hK8⟩
  rw [HX8.out] at hA8 hrow8
  obtain ⟨sl8, rfl⟩ := hrow8.slice
  have L1 := L.out.step hA8 hK8
  have RW1 := (RW.out.kept hK8).cons hS.out hrow8
  have hS1 := Nat.le_trans hS.out hK8.size
  clear hrow8
  clear hA8 hK8 L RW hS c0 c1 c2 c3 c4 c5 c6 c7 c8 c9 c10 d0 f1
  have d0 := (L1.b0.cell 0).trans rfl
  have f1 := L1.b1.free
  have c0 := (L1.b1.cell 0).trans rfl
  have c1 := (L1.b1.cell 1).trans rfl
  have c2 := (L1.b1.cell 2).trans rfl
  have c3 := (L1.b1.cell 3).trans rfl
  have c4 := (L1.b1.cell 4).trans rfl
  have c5 := (L1.b1.cell 5).trans rfl
  have c6 := (L1.b1.cell 6).trans rfl
  have c7 := (L1.b1.cell 7).trans rfl
  have c8 := (L1.b1.cell 8).trans rfl
  have c9 := (L1.b1.cell 9).trans rfl
  have c10 := (L1.b1.cell 10).trans rfl
  have RW := hid (RW1.set (p := ⟨w.heap.size + 1, 8, none⟩) (by show w.heap.size + 1 < w.heap.size + 3; omega) L1.o1 (.slice sl8.a sl8.n sl8.c))
  have hS := hid (show w.heap.size + 3 ≤ (w9.setCell ⟨w.heap.size + 1, 8, none⟩ (.slice sl8.a sl8.n sl8.c)).heap.size by simpa using hS1)
  have L := hid (L1.set HM.out 8 (.slice sl8.a sl8.n sl8.c))
  clear L1 RW1 hS1
  go_wp2_with fail
  refine (numW_any HM.out p.la x8.2 _ L.out.at_ (by have := HX9.out; rw [this]; exact HR.out.2.2.2.2.2.2.2.2.2.1)).mono ?_
  rintro e w10 ⟨rfl, hA9, hK9⟩
  rw [HX9.out] at hA9
  rw [HX9.out]
  have L1 := L.out.step hA9 hK9
  have RW1 := RW.out.kept hK9
  have hS1 := Nat.le_trans hS.out hK9.size
  clear hA9 hK9 L RW hS c0 c1 c2 c3 c4 c5 c6 c7 c8 c9 c10 d0 f1
  have d0 := (L1.b0.cell 0).trans rfl
  have f1 := L1.b1.free
  have c0 := (L1.b1.cell 0).trans rfl
  have c1 := (L1.b1.cell 1).trans rfl
  have c2 := (L1.b1.cell 2).trans rfl
  have c3 := (L1.b1.cell 3).trans rfl
  have c4 := (L1.b1.cell 4).trans rfl
  have c5 := (L1.b1.cell 5).trans rfl
  have c6 := (L1.b1.cell 6).trans rfl
  have c7 := (L1.b1.cell 7).trans rfl
  have c8 := (L1.b1.cell 8).trans rfl
  have c9 := (L1.b1.cell 9).trans rfl
  have c10 := (L1.b1.cell 10).trans rfl
  have RW := hid (RW1.set (p := ⟨w.heap.size + 1, 9, none⟩) (by show w.heap.size + 1 < w.heap.size + 3; omega) L1.o1 (.int .i64 x9.1))
  have hS := hid (show w.heap.size + 3 ≤ (w10.setCell ⟨w.heap.size + 1, 9, none⟩ (.int .i64 x9.1)).heap.size by simpa using hS1)
  have L := hid (L1.set HM.out 9 (.int .i64 x9.1))
  clear L1 RW1 hS1
  go_wp2_with fail
  refine (lI_any HM.out p.tb _ x9.2 _ L.out.at_ (Sees.kept HP.out.tb HH.out.tb L.out.kb) (Held.kept HH.out.tb L.out.kb) HF.out.2.2.2.2.2.2 (by have := HX10.out; rw [this]; exact HR.out.2.2.2.2.2.2.2.2.2.2)).mono ?_
  rintro e w11 ⟨u10, rfl, hrow10, hA10, hK10⟩
  rw [HX10.out] at hA10 hrow10
  obtain ⟨sl10, rfl⟩ := hrow10.slice
  have L1 := L.out.step hA10 hK10
  have RW1 := (RW.out.kept hK10).cons hS.out hrow10
  have hS1 := Nat.le_trans hS.out hK10.size
  clear hrow10
  clear hA10 hK10 L RW hS c0 c1 c2 c3 c4 c5 c6 c7 c8 c9 c10 d0 f1
  have d0 := (L1.b0.cell 0).trans rfl
  have f1 := L1.b1.free
  have c0 := (L1.b1.cell 0).trans rfl
  have c1 := (L1.b1.cell 1).trans rfl
  have c2 := (L1.b1.cell 2).trans rfl
  have c3 := (L1.b1.cell 3).trans rfl
  have c4 := (L1.b1.cell 4).trans rfl
  have c5 := (L1.b1.cell 5).trans rfl
  have c6 := (L1.b1.cell 6).trans rfl
  have c7 := (L1.b1.cell 7).trans rfl
  have c8 := (L1.b1.cell 8).trans rfl
  have c9 := (L1.b1.cell 9).trans rfl
  have c10 := (L1.b1.cell 10).trans rfl
  have e0 := (L1.b2.cell 0).trans rfl
  have e1 := (L1.b2.cell 1).trans rfl
  have e2 := (L1.b2.cell 2).trans rfl
  have e3 := (L1.b2.cell 3).trans rfl
  have e4 := (L1.b2.cell 4).trans rfl
  have e5 := (L1.b2.cell 5).trans rfl
  have e6 := (L1.b2.cell 6).trans rfl
  have e7 := (L1.b2.cell 7).trans rfl
  have e8 := (L1.b2.cell 8).trans rfl
  have e9 := (L1.b2.cell 9).trans rfl
  have e10 := (L1.b2.cell 10).trans rfl
  have f2 := L1.b2.free
  have RW := hid (RW1.set (p := ⟨w.heap.size + 1, 10, none⟩) (by show w.heap.size + 1 < w.heap.size + 3; omega) L1.o1 (.slice sl10.a sl10.n sl10.c))
  have hS := hid (show w.heap.size + 3 ≤ (w11.setCell ⟨w.heap.size + 1, 10, none⟩ (.slice sl10.a sl10.n sl10.c)).heap.size by simpa using hS1)
  have L := hid (L1.set HM.out 10 (.slice sl10.a sl10.n sl10.c))
  clear L1 RW1 hS1
  go_wp2
  have hres := L.out.res HM.out [.int .i64 x0.1, .slice sl1.a sl1.n sl1.c, .slice sl2.a sl2.n sl2.c, .int .i64 x3.1, .slice sl4.a sl4.n sl4.c, .slice sl5.a sl5.n sl5.c, .int .i64 x6.1, .slice sl7.a sl7.n sl7.c, .slice sl8.a sl8.n sl8.c, .int .i64 x9.1, .slice sl10.a sl10.n sl10.c] 0
  have hrws := RW.out.turn (fun k hk => hres.2.2.2.1 k (by omega)) hres.2.2.1
  refine bodyPost_ret (results_cell_row rfl _ _ (w.heap.size + 2) 49 _ (0, 0) _ rfl (BoxAt.sets11 L.out.b2 (.int .i64 x0.1) (.slice sl1.a sl1.n sl1.c) (.slice sl2.a sl2.n sl2.c) (.int .i64 x3.1) (.slice sl4.a sl4.n sl4.c) (.slice sl5.a sl5.n sl5.c) (.int .i64 x6.1) (.slice sl7.a sl7.n sl7.c) (.slice sl8.a sl8.n sl8.c) (.int .i64 x9.1) (.slice sl10.a sl10.n sl10.c)) Try.underlying49 rfl Try.infoPt7) rfl ?_
  refine ⟨⟨x0.1, sl1, sl2, x3.1, sl4, sl5, x6.1, sl7, sl8, x9.1, sl10⟩, rfl, ?_, ?_, hres.1, hres.2.1⟩
  · have hall := hrws
    have r10 := (hall _ List.mem_cons_self).2
    have r8 := (hall _ (List.mem_cons_of_mem _ List.mem_cons_self)).2
    have r7 := (hall _ (List.mem_cons_of_mem _ (List.mem_cons_of_mem _ List.mem_cons_self))).2
    have r5 := (hall _ (List.mem_cons_of_mem _ (List.mem_cons_of_mem _ (List.mem_cons_of_mem _ List.mem_cons_self)))).2
    have r4 := (hall _ (List.mem_cons_of_mem _ (List.mem_cons_of_mem _ (List.mem_cons_of_mem _ (List.mem_cons_of_mem _ List.mem_cons_self))))).2
    have r2 := (hall _ (List.mem_cons_of_mem _ (List.mem_cons_of_mem _ (List.mem_cons_of_mem _ (List.mem_cons_of_mem _ (List.mem_cons_of_mem _ List.mem_cons_self)))))).2
    have r1 := (hall _ (List.mem_cons_of_mem _ (List.mem_cons_of_mem _ (List.mem_cons_of_mem _ (List.mem_cons_of_mem _ (List.mem_cons_of_mem _ (List.mem_cons_of_mem _ List.mem_cons_self))))))).2
    exact ⟨rfl, SeesR.owned rfl r1.1, SeesPc.owned rfl r2.1, rfl, SeesBc.owned rfl r4.1, SeesSc.owned rfl r5.1, rfl, Sees.of_owns r7.1, Sees.of_owns r8.1, rfl, Sees.of_owns r10.1⟩
  · have hall := hrws
    have r10 := hall _ List.mem_cons_self
    have r8 := hall _ (List.mem_cons_of_mem _ List.mem_cons_self)
    have r7 := hall _ (List.mem_cons_of_mem _ (List.mem_cons_of_mem _ List.mem_cons_self))
    have r5 := hall _ (List.mem_cons_of_mem _ (List.mem_cons_of_mem _ (List.mem_cons_of_mem _ List.mem_cons_self)))
    have r4 := hall _ (List.mem_cons_of_mem _ (List.mem_cons_of_mem _ (List.mem_cons_of_mem _ (List.mem_cons_of_mem _ List.mem_cons_self))))
    have r2 := hall _ (List.mem_cons_of_mem _ (List.mem_cons_of_mem _ (List.mem_cons_of_mem _ (List.mem_cons_of_mem _ (List.mem_cons_of_mem _ List.mem_cons_self)))))
    have r1 := hall _ (List.mem_cons_of_mem _ (List.mem_cons_of_mem _ (List.mem_cons_of_mem _ (List.mem_cons_of_mem _ (List.mem_cons_of_mem _ (List.mem_cons_of_mem _ List.mem_cons_self))))))
    exact ⟨(Row.from r1.2).imp (fun b hb => ⟨Nat.le_trans (Nat.le_trans (by omega) r1.1) hb.1, hb.2⟩), (Row.from r2.2).imp (fun b hb => ⟨Nat.le_trans (Nat.le_trans (by omega) r2.1) hb.1, hb.2⟩), (Row.from r4.2).imp (fun b hb => ⟨Nat.le_trans (Nat.le_trans (by omega) r4.1) hb.1, hb.2⟩), (Row.from r5.2).imp (fun b hb => ⟨Nat.le_trans (Nat.le_trans (by omega) r5.1) hb.1, hb.2⟩), (Row.from r7.2).imp (fun b hb => ⟨Nat.le_trans (Nat.le_trans (by omega) r7.1) hb.1, hb.2⟩), (Row.from r8.2).imp (fun b hb => ⟨Nat.le_trans (Nat.le_trans (by omega) r8.1) hb.1, hb.2⟩), (Row.from r10.2).imp (fun b hb => ⟨Nat.le_trans (Nat.le_trans (by omega) r10.1) hb.1, hb.2⟩)⟩
end Go.Proofs.Ytfdoejdnhogepaa
