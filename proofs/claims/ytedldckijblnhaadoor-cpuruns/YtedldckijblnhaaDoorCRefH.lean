/-
  What the document for one instruction returns: Store; a register that becomes a value.
-/
import Derived.Test.YtedldckijblnhaaDoorCRefA
namespace Go.Proofs.YtedldckijblnhaaDoor
open Go.RowKit
set_option linter.unusedVariables false

set_option maxRecDepth 100000 in
set_option maxHeartbeats 3200000 in
theorem rs_store (vc vm vl : Value) (code : List In) (m : List Int) (l : List Rg) (p r0 r1 r2 r3 now : Int) (w : World) (hcv : SeesI w vc code) (hmv : Sees w .i64 vm m) (hlv : SeesR w vl l) (k : Nat) (hpk : p = k) (hk : k < code.length) (a b : Nat) (ha : a < 4) (hb : b < 4) (hi : code.getD k In.zero = ⟨9, a, b⟩) (hmay : mayI ⟨9, a, b⟩ = true) (hfew : l.all fewR = true) (hlen : m.length ≤ 100000) (ht : touchE m.length l (Co.reg ⟨p, r0, r1, r2, r3⟩ b) true = 0) :
    Calls Tryd.prog 13 #[vc, .agg #[.int .i64 p, .int .i64 r0, .int .i64 r1, .int .i64 r2, .int .i64 r3], vm, vl, .int .i64 now] w fun e w' => ∃ u, e = .returned (.tuple #[Co.val ⟨p + 1, r0, r1, r2, r3⟩, u, Ou.val quietO]) ∧ SeesF w vm w' u (storeL m l (Co.reg ⟨p, r0, r1, r2, r3⟩ b) (Co.reg ⟨p, r0, r1, r2, r3⟩ a)) ∧ Below w.heap.size w w' := by
  subst hpk
  obtain ⟨ac, cc, rfl, hc1, hc2, hcc⟩ := hcv.form
  unfold maxLen at hc2
  obtain ⟨bb, off, rfl, hbw, hcell⟩ := hcc (by omega)
  obtain ⟨y0, y1, y2⟩ := hcell k hk
  rw [hi] at y0 y1 y2
  simp only at y0 y1 y2
  have HMV := hid hmv
  have HLV := hid hlv
  obtain ⟨am, cm, rfl, z1, z2, z3⟩ := hmv.form
  obtain ⟨al, cl, rfl, z4, z5, z6⟩ := hlv.form
  clear z1 z2 z3 z4 z5 z6
  obtain ⟨F0, F1, F2, F3, hsz, hbel⟩ := five4 w (.int .i64 k) (.int .i64 r0) (.int .i64 r1) (.int .i64 r2) (.int .i64 r3) (.int .i64 0) (.int .i64 0) (.int .i64 0) (.int .i64 0) (.int .i64 0) (.int .i64 0) (.int .i64 0) (.bool false) (.bool false) (.int .i64 0) (.int .i64 0) (.int .i64 (-1)) (.bool false) (.bool false) (.int .i64 0) 25 25 31 31
  obtain ⟨W, hW⟩ : ∃ W, ((((w.alloc (.cells #[.int .i64 k, .int .i64 r0, .int .i64 r1, .int .i64 r2, .int .i64 r3] 25)).alloc (.cells #[.int .i64 0, .int .i64 0, .int .i64 0, .int .i64 0, .int .i64 0] 25)).alloc (.cells #[.int .i64 0, .int .i64 0, .bool false, .bool false, .int .i64 0] 31)).alloc (.cells #[.int .i64 0, .int .i64 (-1), .bool false, .bool false, .int .i64 0] 31)) = W := ⟨_, rfl⟩
  rw [hW] at F0 F1 F2 F3 hsz hbel
  obtain ⟨G1, hG1⟩ : ∃ g, w.heap.size + 1 = g := ⟨_, rfl⟩
  obtain ⟨G2, hG2⟩ : ∃ g, w.heap.size + 1 + 1 = g := ⟨_, rfl⟩
  obtain ⟨G3, hG3⟩ : ∃ g, w.heap.size + 1 + 1 + 1 = g := ⟨_, rfl⟩
  rw [hG1] at F1
  rw [hG2] at F2
  rw [hG3] at F3
  have a0 := F0.2.2.1
  replace y0 := (hbel.cell (by exact hbw)).trans y0
  replace y1 := (hbel.cell (by exact hbw)).trans y1
  replace y2 := (hbel.cell (by exact hbw)).trans y2
  have HMAY := hid hmay
  have HASK := hid (fun w1 h => asked w W w1 k r0 r1 r2 r3 9 a b G1 G2 G3 F0 F1 F2 F3 hbel (by omega) h)
  have HW := hid hW
  have HG1 := hid hG1
  have HG2 := hid hG2
  have HG3 := hid hG3
  have hn01 : w.heap.size ≠ G1 := by omega
  have hn02 : w.heap.size ≠ G2 := by omega
  have hn03 : w.heap.size ≠ G3 := by omega
  have hn12 : G1 ≠ G2 := by omega
  have hn21 : G2 ≠ G1 := by omega
  have hn13 : G1 ≠ G3 := by omega
  have hn31 : G3 ≠ G1 := by omega
  have hn23 : G2 ≠ G3 := by omega
  have hn32 : G3 ≠ G2 := by omega
  have hle1 : w.heap.size ≤ G1 := by omega
  have hle2 : w.heap.size ≤ G2 := by omega
  have hle3 : w.heap.size ≤ G3 := by omega
  have HLE1 := hid hle1
  have HLE2 := hid hle2
  have HLE3 := hid hle3
  have hn41 : W.heap.size ≠ G1 := by omega
  have hn42 : W.heap.size ≠ G2 := by omega
  have hn43 : W.heap.size ≠ G3 := by omega
  have hk1 : (k : Int) + 1 ≤ 9223372036854775807 := by omega
  have hk2 : -9223372036854775808 ≤ (k : Int) + 1 := by omega
  have HK1 := hid hk1
  have HK2 := hid hk2
  have HNS := hid (And.intro hn01 (And.intro hn02 (And.intro hn03 (And.intro hn12 (And.intro hn21 (And.intro hn13 (And.intro hn31 (And.intro hn23 (And.intro hn32 (And.intro hn41 (And.intro hn42 hn43)))))))))))
  clear hcc hcell hcv hlv hmv hsz hbel F0 F1 F2 F3 hG1 hG2 hG3 hmay hi hk1 hk2 hW hn01 hn02 hn03 hn12 hn21 hn13 hn31 hn23 hn32 hn41 hn42 hn43 hle1 hle2 hle3
  generalize code.length = n at *
  clear hc1 hc2
  have hb0 : ¬ ((k : Int) < 0) := by omega
  have hb2 : ¬ (n ≤ k) := by omega
  go_enter Tryd.func13, Tryd.ntmps13
  go_upto_region 2 with fail
  rw [HW.out, HG3.out, HG2.out, HG1.out]
  go_wp2_with fail
  refine (rimay_any ⟨9, a, b⟩ _).mono ?_
  rintro e w1 ⟨rfl, hb1⟩
  rw [HMAY.out]
  have hk1 := HK1.out
  have hk2 := HK2.out
  have hask := HASK.out w1 hb1
  obtain ⟨hn01, hn02, hn03, hn12, hn21, hn13, hn31, hn23, hn32, hn41, hn42, hn43⟩ := HNS.out
  clear hb1 y0 y1 y2 a0 HASK HNS HK1 HK2
  generalize W.heap.size = G4 at *
  have HAS := hid hask
  obtain ⟨F0, F1, F2, F3, ⟨i0, i1, i2⟩, hg4, hbel⟩ := hask
  have HF1 := hid F1
  have HF2 := hid F2
  have HF0 := hid F0
  have HBEL := hid hbel
  have hsw : w.heap.size < w1.heap.size := F0.1
  have hg1 : G1 < w1.heap.size := F1.1
  have hg2 : G2 < w1.heap.size := F2.1
  have hg3 : G3 < w1.heap.size := F3.1
  obtain ⟨_, q0, a0, a1, a2, a3, a4⟩ := F0
  obtain ⟨_, q1, b0, b1, b2, b3, b4⟩ := F1
  obtain ⟨_, q2, d0, d1, d2, d3, d4⟩ := F2
  obtain ⟨_, q3, f0, f1, f2, f3, f4⟩ := F3
  clear hbel
  have hx := five_reg HF0.out b hb
  obtain ⟨x, hxe⟩ : ∃ x, Co.reg ⟨k, r0, r1, r2, r3⟩ b = x := ⟨_, rfl⟩
  rw [hxe] at hx ht
  have ha0 : (0 : Int) ≤ (a : Int) := by omega
  have ha4 : (a : Int) < 4 := by omega
  have hb00 : (0 : Int) ≤ (b : Int) := by omega
  have hb4 : (b : Int) < 4 := by omega
  have HT := hid ht
  have HXE := hid hxe
  clear ht
  clear hxe
  have hz := five_reg HF0.out a ha
  obtain ⟨z, hze⟩ : ∃ z, Co.reg ⟨k, r0, r1, r2, r3⟩ a = z := ⟨_, rfl⟩
  rw [hze] at hz
  have HZE := hid hze
  obtain ⟨WD, hWD⟩ : ∃ W, w1.alloc (.cells #[.int .i64 ((k : Int) + 1), .int .i64 r0, .int .i64 r1, .int .i64 r2, .int .i64 r3] 25) = W := ⟨_, rfl⟩
  have hWDs : WD.heap.size = w1.heap.size + 1 := by rw [← hWD]; simp
  have hbW1 : Below w1.heap.size w1 WD := by rw [← hWD]; exact alloc_belowI _ _
  have MK := hid (show ∀ w', Below WD.heap.size WD w' → Below WD.heap.size WD w' ∧ w'.cell? ⟨G4, 1, none⟩ = some (.int .i64 a) ∧ w'.cell? ⟨G4, 2, none⟩ = some (.int .i64 b) ∧ w'.cell? ⟨w.heap.size, 1 + a, none⟩ = some (.int .i64 z) ∧ w'.cell? ⟨w.heap.size, 1 + b, none⟩ = some (.int .i64 x) by
    intro w' h
    have h' := hbW1.trans (h.mono (by omega))
    exact ⟨h, (h'.cell (by exact hg4)).trans i1, (h'.cell (by exact hg4)).trans i2, (h'.cell (by exact hsw)).trans hz, (h'.cell (by exact hsw)).trans hx⟩)
  have HWD := hid hWD
  have HSV := hid (show ∀ w', Below WD.heap.size WD w' → Below w.heap.size w w' from fun w' h => (HBEL.out.trans (hbW1.mono (Nat.le_of_lt hsw))).trans (h.mono (by omega)))
  have HBD := hid (show ∀ w7, Below WD.drew.heap.size WD.drew w7 → Below w1.heap.size w1 w7 ∧ FiveAt w7 w1.heap.size (.int .i64 ((k : Int) + 1)) (.int .i64 r0) (.int .i64 r1) (.int .i64 r2) (.int .i64 r3) from fun w7 h => ⟨hbW1.trans (((Below.refl WD.heap.size WD).drew.trans h).mono (by omega)), by
    have h' : Below WD.heap.size WD w7 := (Below.refl WD.heap.size WD).drew.trans h
    rw [← hWD] at h'
    exact (five_new w1 _ _ _ _ _ _).below h' (by simp)⟩)
  have HWDS := hid hWDs
  clear hWD hWDs hbW1 hze
  go_wp2_with fail
  rw [HWD.out]
  go_region_held3 (fun w' => Below WD.heap.size WD w' ∧ w'.cell? ⟨G4, 1, none⟩ = some (.int .i64 a) ∧ w'.cell? ⟨G4, 2, none⟩ = some (.int .i64 b) ∧ w'.cell? ⟨w.heap.size, 1 + a, none⟩ = some (.int .i64 z) ∧ w'.cell? ⟨w.heap.size, 1 + b, none⟩ = some (.int .i64 x))
    ((go_split_ands; refine MK.out _ ?_; first
      | with_reducible assumption
      | with_reducible exact Below.trans (by assumption) (Below.mono hb7 (Below.size (by assumption)))
      | with_reducible exact (Below.refl _ _).drew))
    ((go_split_ands; first
      | (go_at_call 26
         refine (rstore_few _ _ m l x z _ (HMV.out.below (HSV.out _ (by assumption))) (HLV.out.below (HSV.out _ (by assumption))) hlen hfew).mono ?_
         rintro e w7 ⟨u, rfl, ho, hb7⟩
         obtain ⟨hbD, FD⟩ := HBD.out _ hb7
         have HO := hid ho
         rw [HT.out])))
  go_split_ands
  have hbD' := hbD
  have as2 := HAS.out.below hbD (Nat.le_of_lt hsw)
  obtain ⟨GD, hGD⟩ : ∃ g, w1.heap.size = g := ⟨_, rfl⟩
  rw [hGD] at FD hsw hg1 hg2 hg3 hg4
  rw [hGD]
  have hn1D : G1 ≠ GD := by omega
  have hn2D : G2 ≠ GD := by omega
  have hnD1 : GD ≠ G1 := by omega
  have hnD2 : GD ≠ G2 := by omega
  have hnD3 : GD ≠ G3 := by omega
  have hn3D : G3 ≠ GD := by omega
  have hn0D : w.heap.size ≠ GD := by omega
  have hn4D : G4 ≠ GD := by omega
  have HLED := hid (Nat.le_of_lt hsw)
  have HOL1 := hid (show G1 < GD + 1 by omega)
  have HOL2 := hid (show G2 < GD + 1 by omega)
  have HOL3 := hid (show G3 < GD + 1 by omega)
  have HOLD := hid (show GD < GD + 1 by omega)
  have HGD := hid hGD
  clear hbD HF1 HF2 HF0 HBEL HAS q0 q1 q2 q3 a0 a1 a2 a3 a4 b0 b1 b2 b3 b4 d0 d1 d2 d3 d4 f0 f1 f2 f3 f4 i0 i1 i2 hg4 hsw hg1 hg2 hg3 hGD
  obtain ⟨F0, F1, F2, F3, ⟨i0, i1, i2⟩, hg4, hbel⟩ := as2
  have HF1 := hid F1
  have HF2 := hid F2
  have HBEL := hid hbel
  obtain ⟨_, q0, a0, a1, a2, a3, a4⟩ := F0
  obtain ⟨_, q1, b0, b1, b2, b3, b4⟩ := F1
  obtain ⟨_, q2, d0, d1, d2, d3, d4⟩ := F2
  obtain ⟨_, q3, f0, f1, f2, f3, f4⟩ := F3
  have hxd := five_reg FD a ha
  obtain ⟨_, p0, e0, e1, e2, e3, e4⟩ := FD
  clear hbel hg4
  have HO2 := hid (owns_base HO.out (show GD + 1 ≤ WD.drew.heap.size by show GD + 1 ≤ WD.heap.size; have := HWDS.out; have := HGD.out; omega))
  clear HO hbD'
  go_wp2_with fail
  refine (wrong_any 0 _).mono ?_
  rintro e w3 ⟨rfl, rfl⟩
  rw [show wrongF 0 = 0 from rfl]
  go_wp2
  go_region
  all_goals
    go_wp2
    try simp only [Exit.inBlock, Exit.then]
    refine bodyPost_ret (results_step rfl _ _ _ ⟨G1, 0, none⟩ ⟨G2, 0, none⟩ (Co.val ⟨k + 1, r0, r1, r2, r3⟩) (Ou.val quietO) rfl rfl (FiveAt.load (?g1 : FiveAt _ G1 (.int .i64 ((k : Int) + 1)) (.int .i64 (r0)) (.int .i64 (r1)) (.int .i64 (r2)) (.int .i64 (r3))) 25 _ Tryd.underlying25 rfl (by kernel_rfl)) (FiveAt.load (?g2 : FiveAt _ G2 (.int .i64 (0)) (.int .i64 (-1)) (.bool false) (.bool false) (.int .i64 (0))) 31 _ Tryd.underlying31 rfl (by kernel_rfl))) rfl ?_
    case g1 =>
      (repeat (first | with_reducible exact HF1.out | with_reducible apply FiveAt.drew | with_reducible apply FiveAt.alloc | with_reducible refine FiveAt.other5 ?_ hn12 | with_reducible refine FiveAt.setT ?_ | with_reducible exact ThereAt.of HF1.out | with_reducible refine ThereAt.drew ?_ | with_reducible refine ThereAt.alloc ?_ | with_reducible refine ThereAt.other5 ?_ hn12 | with_reducible refine ThereAt.other ?_ hn13 | with_reducible refine FiveAt.other ?_ hn13 | with_reducible refine FiveAt.other ?_ hn1D | with_reducible refine ThereAt.other ?_ hn1D))
    case g2 =>
      (repeat (first | with_reducible exact HF2.out | with_reducible apply FiveAt.drew | with_reducible apply FiveAt.alloc | with_reducible refine FiveAt.other5 ?_ hn21 | with_reducible refine FiveAt.setT ?_ | with_reducible exact ThereAt.of HF2.out | with_reducible refine ThereAt.drew ?_ | with_reducible refine ThereAt.alloc ?_ | with_reducible refine ThereAt.other5 ?_ hn21 | with_reducible refine ThereAt.other ?_ hn23 | with_reducible refine FiveAt.other ?_ hn23 | with_reducible refine FiveAt.other ?_ hn2D | with_reducible refine ThereAt.other ?_ hn2D))
    refine ⟨u, rfl, ?s, ?b⟩
    case b =>
      (repeat (first | with_reducible exact HBEL.out | with_reducible apply Below.drew | with_reducible refine below5 ?_ HLE1.out | with_reducible refine below5 ?_ HLE2.out | with_reducible refine belowG ?_ HLE3.out | with_reducible refine belowG ?_ HLED.out | with_reducible apply belowA))
    case s =>
      rw [HXE.out, HZE.out]
      refine SeesF.of_owns (base := GD + 1) ?_ (Nat.le_succ_of_le HLED.out)
      (repeat (first | with_reducible exact HO2.out | with_reducible apply owns_drew | with_reducible refine owns5 ?_ HOL1.out | with_reducible refine owns5 ?_ HOL2.out | with_reducible refine owns_one ?_ HOL3.out | with_reducible refine owns_one ?_ HOLD.out))

set_option maxRecDepth 100000 in
set_option maxHeartbeats 3200000 in
theorem rs_nost (vc vm vl : Value) (code : List In) (m : List Int) (l : List Rg) (p r0 r1 r2 r3 now : Int) (w : World) (hcv : SeesI w vc code) (hmv : Sees w .i64 vm m) (hlv : SeesR w vl l) (k : Nat) (hpk : p = k) (hk : k < code.length) (a b : Nat) (ha : a < 4) (hb : b < 4) (hi : code.getD k In.zero = ⟨9, a, b⟩) (hmay : mayI ⟨9, a, b⟩ = true) (hfew : l.all fewR = true) (hlen : m.length ≤ 100000) (ht : ¬ touchE m.length l (Co.reg ⟨p, r0, r1, r2, r3⟩ b) true = 0) :
    Calls Tryd.prog 13 #[vc, .agg #[.int .i64 p, .int .i64 r0, .int .i64 r1, .int .i64 r2, .int .i64 r3], vm, vl, .int .i64 now] w fun e w' => ∃ u, e = .returned (.tuple #[Co.val ⟨p, r0, r1, r2, r3⟩, u, Ou.val (faultO 5)]) ∧ SeesF w vm w' u m ∧ Below w.heap.size w w' := by
  subst hpk
  obtain ⟨ac, cc, rfl, hc1, hc2, hcc⟩ := hcv.form
  unfold maxLen at hc2
  obtain ⟨bb, off, rfl, hbw, hcell⟩ := hcc (by omega)
  obtain ⟨y0, y1, y2⟩ := hcell k hk
  rw [hi] at y0 y1 y2
  simp only at y0 y1 y2
  have HMV := hid hmv
  have HLV := hid hlv
  obtain ⟨am, cm, rfl, z1, z2, z3⟩ := hmv.form
  obtain ⟨al, cl, rfl, z4, z5, z6⟩ := hlv.form
  clear z1 z2 z3 z4 z5 z6
  obtain ⟨F0, F1, F2, F3, hsz, hbel⟩ := five4 w (.int .i64 k) (.int .i64 r0) (.int .i64 r1) (.int .i64 r2) (.int .i64 r3) (.int .i64 0) (.int .i64 0) (.int .i64 0) (.int .i64 0) (.int .i64 0) (.int .i64 0) (.int .i64 0) (.bool false) (.bool false) (.int .i64 0) (.int .i64 0) (.int .i64 (-1)) (.bool false) (.bool false) (.int .i64 0) 25 25 31 31
  obtain ⟨W, hW⟩ : ∃ W, ((((w.alloc (.cells #[.int .i64 k, .int .i64 r0, .int .i64 r1, .int .i64 r2, .int .i64 r3] 25)).alloc (.cells #[.int .i64 0, .int .i64 0, .int .i64 0, .int .i64 0, .int .i64 0] 25)).alloc (.cells #[.int .i64 0, .int .i64 0, .bool false, .bool false, .int .i64 0] 31)).alloc (.cells #[.int .i64 0, .int .i64 (-1), .bool false, .bool false, .int .i64 0] 31)) = W := ⟨_, rfl⟩
  rw [hW] at F0 F1 F2 F3 hsz hbel
  obtain ⟨G1, hG1⟩ : ∃ g, w.heap.size + 1 = g := ⟨_, rfl⟩
  obtain ⟨G2, hG2⟩ : ∃ g, w.heap.size + 1 + 1 = g := ⟨_, rfl⟩
  obtain ⟨G3, hG3⟩ : ∃ g, w.heap.size + 1 + 1 + 1 = g := ⟨_, rfl⟩
  rw [hG1] at F1
  rw [hG2] at F2
  rw [hG3] at F3
  have a0 := F0.2.2.1
  replace y0 := (hbel.cell (by exact hbw)).trans y0
  replace y1 := (hbel.cell (by exact hbw)).trans y1
  replace y2 := (hbel.cell (by exact hbw)).trans y2
  have HMAY := hid hmay
  have HASK := hid (fun w1 h => asked w W w1 k r0 r1 r2 r3 9 a b G1 G2 G3 F0 F1 F2 F3 hbel (by omega) h)
  have HW := hid hW
  have HG1 := hid hG1
  have HG2 := hid hG2
  have HG3 := hid hG3
  have hn01 : w.heap.size ≠ G1 := by omega
  have hn02 : w.heap.size ≠ G2 := by omega
  have hn03 : w.heap.size ≠ G3 := by omega
  have hn12 : G1 ≠ G2 := by omega
  have hn21 : G2 ≠ G1 := by omega
  have hn13 : G1 ≠ G3 := by omega
  have hn31 : G3 ≠ G1 := by omega
  have hn23 : G2 ≠ G3 := by omega
  have hn32 : G3 ≠ G2 := by omega
  have hle1 : w.heap.size ≤ G1 := by omega
  have hle2 : w.heap.size ≤ G2 := by omega
  have hle3 : w.heap.size ≤ G3 := by omega
  have HLE1 := hid hle1
  have HLE2 := hid hle2
  have HLE3 := hid hle3
  have hn41 : W.heap.size ≠ G1 := by omega
  have hn42 : W.heap.size ≠ G2 := by omega
  have hn43 : W.heap.size ≠ G3 := by omega
  have hk1 : (k : Int) + 1 ≤ 9223372036854775807 := by omega
  have hk2 : -9223372036854775808 ≤ (k : Int) + 1 := by omega
  have HK1 := hid hk1
  have HK2 := hid hk2
  have HNS := hid (And.intro hn01 (And.intro hn02 (And.intro hn03 (And.intro hn12 (And.intro hn21 (And.intro hn13 (And.intro hn31 (And.intro hn23 (And.intro hn32 (And.intro hn41 (And.intro hn42 hn43)))))))))))
  clear hcc hcell hcv hlv hmv hsz hbel F0 F1 F2 F3 hG1 hG2 hG3 hmay hi hk1 hk2 hW hn01 hn02 hn03 hn12 hn21 hn13 hn31 hn23 hn32 hn41 hn42 hn43 hle1 hle2 hle3
  generalize code.length = n at *
  clear hc1 hc2
  have hb0 : ¬ ((k : Int) < 0) := by omega
  have hb2 : ¬ (n ≤ k) := by omega
  go_enter Tryd.func13, Tryd.ntmps13
  go_upto_region 2 with fail
  rw [HW.out, HG3.out, HG2.out, HG1.out]
  go_wp2_with fail
  refine (rimay_any ⟨9, a, b⟩ _).mono ?_
  rintro e w1 ⟨rfl, hb1⟩
  rw [HMAY.out]
  have hk1 := HK1.out
  have hk2 := HK2.out
  have hask := HASK.out w1 hb1
  obtain ⟨hn01, hn02, hn03, hn12, hn21, hn13, hn31, hn23, hn32, hn41, hn42, hn43⟩ := HNS.out
  clear hb1 y0 y1 y2 a0 HASK HNS HK1 HK2
  generalize W.heap.size = G4 at *
  have HAS := hid hask
  obtain ⟨F0, F1, F2, F3, ⟨i0, i1, i2⟩, hg4, hbel⟩ := hask
  have HF1 := hid F1
  have HF2 := hid F2
  have HF0 := hid F0
  have HBEL := hid hbel
  have hsw : w.heap.size < w1.heap.size := F0.1
  have hg1 : G1 < w1.heap.size := F1.1
  have hg2 : G2 < w1.heap.size := F2.1
  have hg3 : G3 < w1.heap.size := F3.1
  obtain ⟨_, q0, a0, a1, a2, a3, a4⟩ := F0
  obtain ⟨_, q1, b0, b1, b2, b3, b4⟩ := F1
  obtain ⟨_, q2, d0, d1, d2, d3, d4⟩ := F2
  obtain ⟨_, q3, f0, f1, f2, f3, f4⟩ := F3
  clear hbel
  have hx := five_reg HF0.out b hb
  obtain ⟨x, hxe⟩ : ∃ x, Co.reg ⟨k, r0, r1, r2, r3⟩ b = x := ⟨_, rfl⟩
  rw [hxe] at hx ht
  have ha0 : (0 : Int) ≤ (a : Int) := by omega
  have ha4 : (a : Int) < 4 := by omega
  have hb00 : (0 : Int) ≤ (b : Int) := by omega
  have hb4 : (b : Int) < 4 := by omega
  have HT := hid ht
  have HXE := hid hxe
  clear ht
  obtain ⟨tt, htt⟩ : ∃ v, touchE m.length l x true = v := ⟨_, rfl⟩
  rw [htt] at HT
  have htb : (tt == 0) = false := by simpa using HT.out
  have HTT := hid htt
  have HWR := hid (show wrongF tt = 5 by unfold wrongF; rw [if_neg HT.out])
  clear htt hxe
  have hz := five_reg HF0.out a ha
  obtain ⟨z, hze⟩ : ∃ z, Co.reg ⟨k, r0, r1, r2, r3⟩ a = z := ⟨_, rfl⟩
  rw [hze] at hz
  have HZE := hid hze
  obtain ⟨WD, hWD⟩ : ∃ W, w1.alloc (.cells #[.int .i64 ((k : Int) + 1), .int .i64 r0, .int .i64 r1, .int .i64 r2, .int .i64 r3] 25) = W := ⟨_, rfl⟩
  have hWDs : WD.heap.size = w1.heap.size + 1 := by rw [← hWD]; simp
  have hbW1 : Below w1.heap.size w1 WD := by rw [← hWD]; exact alloc_belowI _ _
  have MK := hid (show ∀ w', Below WD.heap.size WD w' → Below WD.heap.size WD w' ∧ w'.cell? ⟨G4, 1, none⟩ = some (.int .i64 a) ∧ w'.cell? ⟨G4, 2, none⟩ = some (.int .i64 b) ∧ w'.cell? ⟨w.heap.size, 1 + a, none⟩ = some (.int .i64 z) ∧ w'.cell? ⟨w.heap.size, 1 + b, none⟩ = some (.int .i64 x) by
    intro w' h
    have h' := hbW1.trans (h.mono (by omega))
    exact ⟨h, (h'.cell (by exact hg4)).trans i1, (h'.cell (by exact hg4)).trans i2, (h'.cell (by exact hsw)).trans hz, (h'.cell (by exact hsw)).trans hx⟩)
  have HWD := hid hWD
  have HSV := hid (show ∀ w', Below WD.heap.size WD w' → Below w.heap.size w w' from fun w' h => (HBEL.out.trans (hbW1.mono (Nat.le_of_lt hsw))).trans (h.mono (by omega)))
  have HBD := hid (show ∀ w7, Below WD.drew.heap.size WD.drew w7 → Below w1.heap.size w1 w7 ∧ FiveAt w7 w1.heap.size (.int .i64 ((k : Int) + 1)) (.int .i64 r0) (.int .i64 r1) (.int .i64 r2) (.int .i64 r3) from fun w7 h => ⟨hbW1.trans (((Below.refl WD.heap.size WD).drew.trans h).mono (by omega)), by
    have h' : Below WD.heap.size WD w7 := (Below.refl WD.heap.size WD).drew.trans h
    rw [← hWD] at h'
    exact (five_new w1 _ _ _ _ _ _).below h' (by simp)⟩)
  have HWDS := hid hWDs
  clear hWD hWDs hbW1 hze
  go_wp2_with fail
  rw [HWD.out]
  go_region_held3 (fun w' => Below WD.heap.size WD w' ∧ w'.cell? ⟨G4, 1, none⟩ = some (.int .i64 a) ∧ w'.cell? ⟨G4, 2, none⟩ = some (.int .i64 b) ∧ w'.cell? ⟨w.heap.size, 1 + a, none⟩ = some (.int .i64 z) ∧ w'.cell? ⟨w.heap.size, 1 + b, none⟩ = some (.int .i64 x))
    ((go_split_ands; refine MK.out _ ?_; first
      | with_reducible assumption
      | with_reducible exact Below.trans (by assumption) (Below.mono hb7 (Below.size (by assumption)))
      | with_reducible exact (Below.refl _ _).drew))
    ((go_split_ands; first
      | (go_at_call 26
         refine (rstore_few _ _ m l x z _ (HMV.out.below (HSV.out _ (by assumption))) (HLV.out.below (HSV.out _ (by assumption))) hlen hfew).mono ?_
         rintro e w7 ⟨u, rfl, ho, hb7⟩
         obtain ⟨hbD, FD⟩ := HBD.out _ hb7
         have HO := hid ho
         rw [HTT.out])))
  go_split_ands
  have hbD' := hbD
  have as2 := HAS.out.below hbD (Nat.le_of_lt hsw)
  obtain ⟨GD, hGD⟩ : ∃ g, w1.heap.size = g := ⟨_, rfl⟩
  rw [hGD] at FD hsw hg1 hg2 hg3 hg4
  rw [hGD]
  have hn1D : G1 ≠ GD := by omega
  have hn2D : G2 ≠ GD := by omega
  have hnD1 : GD ≠ G1 := by omega
  have hnD2 : GD ≠ G2 := by omega
  have hnD3 : GD ≠ G3 := by omega
  have hn3D : G3 ≠ GD := by omega
  have hn0D : w.heap.size ≠ GD := by omega
  have hn4D : G4 ≠ GD := by omega
  have HLED := hid (Nat.le_of_lt hsw)
  have HOL1 := hid (show G1 < GD + 1 by omega)
  have HOL2 := hid (show G2 < GD + 1 by omega)
  have HOL3 := hid (show G3 < GD + 1 by omega)
  have HOLD := hid (show GD < GD + 1 by omega)
  have HGD := hid hGD
  clear hbD HF1 HF2 HF0 HBEL HAS q0 q1 q2 q3 a0 a1 a2 a3 a4 b0 b1 b2 b3 b4 d0 d1 d2 d3 d4 f0 f1 f2 f3 f4 i0 i1 i2 hg4 hsw hg1 hg2 hg3 hGD
  obtain ⟨F0, F1, F2, F3, ⟨i0, i1, i2⟩, hg4, hbel⟩ := as2
  have HF1 := hid F1
  have HF2 := hid F2
  have HBEL := hid hbel
  obtain ⟨_, q0, a0, a1, a2, a3, a4⟩ := F0
  obtain ⟨_, q1, b0, b1, b2, b3, b4⟩ := F1
  obtain ⟨_, q2, d0, d1, d2, d3, d4⟩ := F2
  obtain ⟨_, q3, f0, f1, f2, f3, f4⟩ := F3
  have hxd := five_reg FD a ha
  obtain ⟨_, p0, e0, e1, e2, e3, e4⟩ := FD
  clear hbel hg4
  clear HO hbD'
  go_wp2_with fail
  refine (wrong_any tt _).mono ?_
  rintro e w3 ⟨rfl, rfl⟩
  rw [HWR.out]
  go_wp2
  go_region
  all_goals
    go_wp2
    try simp only [Exit.inBlock, Exit.then]
    refine bodyPost_ret (results_step rfl _ _ _ ⟨G1, 0, none⟩ ⟨G2, 0, none⟩ (Co.val ⟨k, r0, r1, r2, r3⟩) (Ou.val (faultO 5)) rfl rfl (FiveAt.load (?g1 : FiveAt _ G1 (.int .i64 (k)) (.int .i64 (r0)) (.int .i64 (r1)) (.int .i64 (r2)) (.int .i64 (r3))) 25 _ Tryd.underlying25 rfl (by kernel_rfl)) (FiveAt.load (?g2 : FiveAt _ G2 (.int .i64 (5)) (.int .i64 (-1)) (.bool false) (.bool false) (.int .i64 (0))) 31 _ Tryd.underlying31 rfl (by kernel_rfl))) rfl ?_
    case g1 =>
      (repeat (first | with_reducible exact HF1.out | with_reducible apply FiveAt.drew | with_reducible apply FiveAt.alloc | with_reducible refine FiveAt.other5 ?_ hn12 | with_reducible refine FiveAt.setT ?_ | with_reducible exact ThereAt.of HF1.out | with_reducible refine ThereAt.drew ?_ | with_reducible refine ThereAt.alloc ?_ | with_reducible refine ThereAt.other5 ?_ hn12 | with_reducible refine ThereAt.other ?_ hn13 | with_reducible refine FiveAt.other ?_ hn13 | with_reducible refine FiveAt.other ?_ hn1D | with_reducible refine ThereAt.other ?_ hn1D))
    case g2 =>
      (repeat (first | with_reducible exact HF2.out | with_reducible apply FiveAt.drew | with_reducible apply FiveAt.alloc | with_reducible refine FiveAt.other5 ?_ hn21 | with_reducible refine FiveAt.setT ?_ | with_reducible exact ThereAt.of HF2.out | with_reducible refine ThereAt.drew ?_ | with_reducible refine ThereAt.alloc ?_ | with_reducible refine ThereAt.other5 ?_ hn21 | with_reducible refine ThereAt.other ?_ hn23 | with_reducible refine FiveAt.other ?_ hn23 | with_reducible refine FiveAt.other ?_ hn2D | with_reducible refine ThereAt.other ?_ hn2D))
    refine ⟨_, rfl, ?s, ?b⟩
    case b =>
      (repeat (first | with_reducible exact HBEL.out | with_reducible apply Below.drew | with_reducible refine below5 ?_ HLE1.out | with_reducible refine below5 ?_ HLE2.out | with_reducible refine belowG ?_ HLE3.out | with_reducible refine belowG ?_ HLED.out | with_reducible apply belowA))
    case s =>
      refine ⟨HMV.out.below ?_, .inl rfl⟩
      (repeat (first | with_reducible exact HBEL.out | with_reducible apply Below.drew | with_reducible refine below5 ?_ HLE1.out | with_reducible refine below5 ?_ HLE2.out | with_reducible refine belowG ?_ HLE3.out | with_reducible refine belowG ?_ HLED.out | with_reducible apply belowA))

set_option maxRecDepth 100000 in
set_option maxHeartbeats 3200000 in
theorem rs_val (vc vm vl : Value) (code : List In) (m : List Int) (l : List Rg) (p r0 r1 r2 r3 now : Int) (w : World) (hcv : SeesI w vc code) (hmv : Sees w .i64 vm m) (hlv : SeesR w vl l) (k : Nat) (hpk : p = k) (hk : k < code.length) (o : Int) (a b : Nat) (ha : a < 4) (hb : b < 4) (hi : code.getD k In.zero = ⟨o, a, b⟩) (hmay : mayI ⟨o, a, b⟩ = true) (h0 : ¬ o = 0) (h8 : ¬ o = 8) (h9 : ¬ o = 9) (h10 : ¬ o = 10) (h11 : ¬ o = 11) (h18 : ¬ o = 18) (h19 : ¬ o = 19) (v f : Int) (HRK0 : ∀ w', Calls Tryd.prog 27 #[.int .i64 o, .int .i64 (Co.reg ⟨p, r0, r1, r2, r3⟩ a), .int .i64 (Co.reg ⟨p, r0, r1, r2, r3⟩ b), .int .i64 b] w' fun e w'' => e = .returned (.tuple #[.int .i64 v, .int .i64 f]) ∧ w'' = w') (hf : f = 0) :
    Calls Tryd.prog 13 #[vc, .agg #[.int .i64 p, .int .i64 r0, .int .i64 r1, .int .i64 r2, .int .i64 r3], vm, vl, .int .i64 now] w fun e w' => ∃ u, e = .returned (.tuple #[Co.val ((Co.set ⟨p, r0, r1, r2, r3⟩ a v).at (p + 1)), u, Ou.val quietO]) ∧ SeesF w vm w' u m ∧ Below w.heap.size w w' := by
  subst hpk
  obtain ⟨ac, cc, rfl, hc1, hc2, hcc⟩ := hcv.form
  unfold maxLen at hc2
  obtain ⟨bb, off, rfl, hbw, hcell⟩ := hcc (by omega)
  obtain ⟨y0, y1, y2⟩ := hcell k hk
  rw [hi] at y0 y1 y2
  simp only at y0 y1 y2
  have HMV := hid hmv
  have HLV := hid hlv
  obtain ⟨am, cm, rfl, z1, z2, z3⟩ := hmv.form
  obtain ⟨al, cl, rfl, z4, z5, z6⟩ := hlv.form
  clear z1 z2 z3 z4 z5 z6
  obtain ⟨F0, F1, F2, F3, hsz, hbel⟩ := five4 w (.int .i64 k) (.int .i64 r0) (.int .i64 r1) (.int .i64 r2) (.int .i64 r3) (.int .i64 0) (.int .i64 0) (.int .i64 0) (.int .i64 0) (.int .i64 0) (.int .i64 0) (.int .i64 0) (.bool false) (.bool false) (.int .i64 0) (.int .i64 0) (.int .i64 (-1)) (.bool false) (.bool false) (.int .i64 0) 25 25 31 31
  obtain ⟨W, hW⟩ : ∃ W, ((((w.alloc (.cells #[.int .i64 k, .int .i64 r0, .int .i64 r1, .int .i64 r2, .int .i64 r3] 25)).alloc (.cells #[.int .i64 0, .int .i64 0, .int .i64 0, .int .i64 0, .int .i64 0] 25)).alloc (.cells #[.int .i64 0, .int .i64 0, .bool false, .bool false, .int .i64 0] 31)).alloc (.cells #[.int .i64 0, .int .i64 (-1), .bool false, .bool false, .int .i64 0] 31)) = W := ⟨_, rfl⟩
  rw [hW] at F0 F1 F2 F3 hsz hbel
  obtain ⟨G1, hG1⟩ : ∃ g, w.heap.size + 1 = g := ⟨_, rfl⟩
  obtain ⟨G2, hG2⟩ : ∃ g, w.heap.size + 1 + 1 = g := ⟨_, rfl⟩
  obtain ⟨G3, hG3⟩ : ∃ g, w.heap.size + 1 + 1 + 1 = g := ⟨_, rfl⟩
  rw [hG1] at F1
  rw [hG2] at F2
  rw [hG3] at F3
  have a0 := F0.2.2.1
  replace y0 := (hbel.cell (by exact hbw)).trans y0
  replace y1 := (hbel.cell (by exact hbw)).trans y1
  replace y2 := (hbel.cell (by exact hbw)).trans y2
  have HMAY := hid hmay
  have HRK := hid HRK0
  have HF := hid hf
  clear hf
  clear HRK0
  have ho0 : (o == 0) = false := by simpa using h0
  have ho8 : (o == 8) = false := by simpa using h8
  have ho9 : (o == 9) = false := by simpa using h9
  have ho10 : (o == 10) = false := by simpa using h10
  have ho11 : (o == 11) = false := by simpa using h11
  have ho18 : (o == 18) = false := by simpa using h18
  have ho19 : (o == 19) = false := by simpa using h19
  clear h0 h8 h9 h10 h11 h18 h19
  have HASK := hid (fun w1 h => asked w W w1 k r0 r1 r2 r3 o a b G1 G2 G3 F0 F1 F2 F3 hbel (by omega) h)
  have HW := hid hW
  have HG1 := hid hG1
  have HG2 := hid hG2
  have HG3 := hid hG3
  have hn01 : w.heap.size ≠ G1 := by omega
  have hn02 : w.heap.size ≠ G2 := by omega
  have hn03 : w.heap.size ≠ G3 := by omega
  have hn12 : G1 ≠ G2 := by omega
  have hn21 : G2 ≠ G1 := by omega
  have hn13 : G1 ≠ G3 := by omega
  have hn31 : G3 ≠ G1 := by omega
  have hn23 : G2 ≠ G3 := by omega
  have hn32 : G3 ≠ G2 := by omega
  have hle1 : w.heap.size ≤ G1 := by omega
  have hle2 : w.heap.size ≤ G2 := by omega
  have hle3 : w.heap.size ≤ G3 := by omega
  have HLE1 := hid hle1
  have HLE2 := hid hle2
  have HLE3 := hid hle3
  have hn41 : W.heap.size ≠ G1 := by omega
  have hn42 : W.heap.size ≠ G2 := by omega
  have hn43 : W.heap.size ≠ G3 := by omega
  have hk1 : (k : Int) + 1 ≤ 9223372036854775807 := by omega
  have hk2 : -9223372036854775808 ≤ (k : Int) + 1 := by omega
  have HK1 := hid hk1
  have HK2 := hid hk2
  have HNS := hid (And.intro hn01 (And.intro hn02 (And.intro hn03 (And.intro hn12 (And.intro hn21 (And.intro hn13 (And.intro hn31 (And.intro hn23 (And.intro hn32 (And.intro hn41 (And.intro hn42 hn43)))))))))))
  clear hcc hcell hcv hlv hmv hsz hbel F0 F1 F2 F3 hG1 hG2 hG3 hmay hi hk1 hk2 hW hn01 hn02 hn03 hn12 hn21 hn13 hn31 hn23 hn32 hn41 hn42 hn43 hle1 hle2 hle3
  generalize code.length = n at *
  clear hc1 hc2
  have hb0 : ¬ ((k : Int) < 0) := by omega
  have hb2 : ¬ (n ≤ k) := by omega
  go_enter Tryd.func13, Tryd.ntmps13
  go_upto_region 2 with fail
  rw [HW.out, HG3.out, HG2.out, HG1.out]
  go_wp2_with fail
  refine (rimay_any ⟨o, a, b⟩ _).mono ?_
  rintro e w1 ⟨rfl, hb1⟩
  rw [HMAY.out]
  have hk1 := HK1.out
  have hk2 := HK2.out
  have hask := HASK.out w1 hb1
  obtain ⟨hn01, hn02, hn03, hn12, hn21, hn13, hn31, hn23, hn32, hn41, hn42, hn43⟩ := HNS.out
  clear hb1 y0 y1 y2 a0 HASK HNS HK1 HK2
  generalize W.heap.size = G4 at *
  have HAS := hid hask
  obtain ⟨F0, F1, F2, F3, ⟨i0, i1, i2⟩, hg4, hbel⟩ := hask
  have HF1 := hid F1
  have HF2 := hid F2
  have HF0 := hid F0
  have HBEL := hid hbel
  have hsw : w.heap.size < w1.heap.size := F0.1
  have hg1 : G1 < w1.heap.size := F1.1
  have hg2 : G2 < w1.heap.size := F2.1
  have hg3 : G3 < w1.heap.size := F3.1
  obtain ⟨_, q0, a0, a1, a2, a3, a4⟩ := F0
  obtain ⟨_, q1, b0, b1, b2, b3, b4⟩ := F1
  obtain ⟨_, q2, d0, d1, d2, d3, d4⟩ := F2
  obtain ⟨_, q3, f0, f1, f2, f3, f4⟩ := F3
  clear hbel
  have hx := five_reg HF0.out a ha
  obtain ⟨x, hxe⟩ : ∃ x, Co.reg ⟨k, r0, r1, r2, r3⟩ a = x := ⟨_, rfl⟩
  rw [hxe] at hx HRK
  have ha0 : (0 : Int) ≤ (a : Int) := by omega
  have ha4 : (a : Int) < 4 := by omega
  have MK := hid (show (fun (w' : World) => w'.cell? ⟨G4, 0, none⟩ = some (.int .i64 o) ∧ w'.cell? ⟨G4, 1, none⟩ = some (.int .i64 a) ∧ w'.cell? ⟨G4, 2, none⟩ = some (.int .i64 b) ∧ w'.cell? ⟨w.heap.size, 1 + a, none⟩ = some (.int .i64 x)) (w1.alloc (.cells #[.int .i64 ((k : Int) + 1), .int .i64 r0, .int .i64 r1, .int .i64 r2, .int .i64 r3] 25)).drew from
    ⟨((alloc_belowI w1 _).drew.cell (by exact hg4)).trans i0, ((alloc_belowI w1 _).drew.cell (by exact hg4)).trans i1, ((alloc_belowI w1 _).drew.cell (by exact hg4)).trans i2, ((alloc_belowI w1 _).drew.cell (by exact hsw)).trans hx⟩)
  clear hxe
  have hy := five_reg HF0.out b hb
  obtain ⟨y, hye⟩ : ∃ y, Co.reg ⟨k, r0, r1, r2, r3⟩ b = y := ⟨_, rfl⟩
  rw [hye] at hy HRK
  have hb00 : (0 : Int) ≤ (b : Int) := by omega
  have hb4 : (b : Int) < 4 := by omega
  clear hye
  go_wp2_with fail
  go_region_held3 (fun w' => w'.cell? ⟨G4, 0, none⟩ = some (.int .i64 o) ∧ w'.cell? ⟨G4, 1, none⟩ = some (.int .i64 a) ∧ w'.cell? ⟨G4, 2, none⟩ = some (.int .i64 b) ∧ w'.cell? ⟨w.heap.size, 1 + a, none⟩ = some (.int .i64 x))
    ((first
      | with_reducible assumption
      | exact MK.out))
    ((go_split_ands; first
      | (go_at_call 27
         refine (HRK.out _).mono ?_
         rintro e w7 ⟨rfl, rfl⟩)))
  go_split_ands
  have hf0 : f = 0 := HF.out
  subst hf0
  have hc4 : a = 0 ∨ a = 1 ∨ a = 2 ∨ a = 3 := by omega
  clear ha ha0 ha4
  rcases hc4 with rfl | rfl | rfl | rfl
  · go_wp2
    go_region
    all_goals
      go_wp2
      try simp only [Exit.inBlock, Exit.then]
      refine bodyPost_ret (results_step rfl _ _ _ ⟨G1, 0, none⟩ ⟨G2, 0, none⟩ (Co.val ((Co.set ⟨k, r0, r1, r2, r3⟩ 0 v).at (k + 1))) (Ou.val quietO) rfl rfl (FiveAt.load (?g1 : FiveAt _ G1 (.int .i64 ((k : Int) + 1)) (.int .i64 (v)) (.int .i64 (r1)) (.int .i64 (r2)) (.int .i64 (r3))) 25 _ Tryd.underlying25 rfl (by kernel_rfl)) (FiveAt.load (?g2 : FiveAt _ G2 (.int .i64 (0)) (.int .i64 (-1)) (.bool false) (.bool false) (.int .i64 (0))) 31 _ Tryd.underlying31 rfl (by kernel_rfl))) rfl ?_
      case g1 =>
        (repeat (first | with_reducible exact HF1.out | with_reducible apply FiveAt.drew | with_reducible apply FiveAt.alloc | with_reducible refine FiveAt.other5 ?_ hn12 | with_reducible refine FiveAt.setT ?_ | with_reducible exact ThereAt.of HF1.out | with_reducible refine ThereAt.drew ?_ | with_reducible refine ThereAt.alloc ?_ | with_reducible refine ThereAt.other5 ?_ hn12 | with_reducible refine ThereAt.other ?_ hn13 | with_reducible refine FiveAt.other ?_ hn13))
      case g2 =>
        (repeat (first | with_reducible exact HF2.out | with_reducible apply FiveAt.drew | with_reducible apply FiveAt.alloc | with_reducible refine FiveAt.other5 ?_ hn21 | with_reducible refine FiveAt.setT ?_ | with_reducible exact ThereAt.of HF2.out | with_reducible refine ThereAt.drew ?_ | with_reducible refine ThereAt.alloc ?_ | with_reducible refine ThereAt.other5 ?_ hn21 | with_reducible refine ThereAt.other ?_ hn23 | with_reducible refine FiveAt.other ?_ hn23))
      refine ⟨_, rfl, ?s, ?b⟩
      case b =>
        (repeat (first | with_reducible exact HBEL.out | with_reducible apply Below.drew | with_reducible refine below5 ?_ HLE1.out | with_reducible refine below5 ?_ HLE2.out | with_reducible refine belowG ?_ HLE3.out | with_reducible apply belowA))
      case s =>
        refine ⟨HMV.out.below ?_, .inl rfl⟩
        (repeat (first | with_reducible exact HBEL.out | with_reducible apply Below.drew | with_reducible refine below5 ?_ HLE1.out | with_reducible refine below5 ?_ HLE2.out | with_reducible refine belowG ?_ HLE3.out | with_reducible apply belowA))
  · go_wp2
    go_region
    all_goals
      go_wp2
      try simp only [Exit.inBlock, Exit.then]
      refine bodyPost_ret (results_step rfl _ _ _ ⟨G1, 0, none⟩ ⟨G2, 0, none⟩ (Co.val ((Co.set ⟨k, r0, r1, r2, r3⟩ 1 v).at (k + 1))) (Ou.val quietO) rfl rfl (FiveAt.load (?g1 : FiveAt _ G1 (.int .i64 ((k : Int) + 1)) (.int .i64 (r0)) (.int .i64 (v)) (.int .i64 (r2)) (.int .i64 (r3))) 25 _ Tryd.underlying25 rfl (by kernel_rfl)) (FiveAt.load (?g2 : FiveAt _ G2 (.int .i64 (0)) (.int .i64 (-1)) (.bool false) (.bool false) (.int .i64 (0))) 31 _ Tryd.underlying31 rfl (by kernel_rfl))) rfl ?_
      case g1 =>
        (repeat (first | with_reducible exact HF1.out | with_reducible apply FiveAt.drew | with_reducible apply FiveAt.alloc | with_reducible refine FiveAt.other5 ?_ hn12 | with_reducible refine FiveAt.setT ?_ | with_reducible exact ThereAt.of HF1.out | with_reducible refine ThereAt.drew ?_ | with_reducible refine ThereAt.alloc ?_ | with_reducible refine ThereAt.other5 ?_ hn12 | with_reducible refine ThereAt.other ?_ hn13 | with_reducible refine FiveAt.other ?_ hn13))
      case g2 =>
        (repeat (first | with_reducible exact HF2.out | with_reducible apply FiveAt.drew | with_reducible apply FiveAt.alloc | with_reducible refine FiveAt.other5 ?_ hn21 | with_reducible refine FiveAt.setT ?_ | with_reducible exact ThereAt.of HF2.out | with_reducible refine ThereAt.drew ?_ | with_reducible refine ThereAt.alloc ?_ | with_reducible refine ThereAt.other5 ?_ hn21 | with_reducible refine ThereAt.other ?_ hn23 | with_reducible refine FiveAt.other ?_ hn23))
      refine ⟨_, rfl, ?s, ?b⟩
      case b =>
        (repeat (first | with_reducible exact HBEL.out | with_reducible apply Below.drew | with_reducible refine below5 ?_ HLE1.out | with_reducible refine below5 ?_ HLE2.out | with_reducible refine belowG ?_ HLE3.out | with_reducible apply belowA))
      case s =>
        refine ⟨HMV.out.below ?_, .inl rfl⟩
        (repeat (first | with_reducible exact HBEL.out | with_reducible apply Below.drew | with_reducible refine below5 ?_ HLE1.out | with_reducible refine below5 ?_ HLE2.out | with_reducible refine belowG ?_ HLE3.out | with_reducible apply belowA))
  · go_wp2
    go_region
    all_goals
      go_wp2
      try simp only [Exit.inBlock, Exit.then]
      refine bodyPost_ret (results_step rfl _ _ _ ⟨G1, 0, none⟩ ⟨G2, 0, none⟩ (Co.val ((Co.set ⟨k, r0, r1, r2, r3⟩ 2 v).at (k + 1))) (Ou.val quietO) rfl rfl (FiveAt.load (?g1 : FiveAt _ G1 (.int .i64 ((k : Int) + 1)) (.int .i64 (r0)) (.int .i64 (r1)) (.int .i64 (v)) (.int .i64 (r3))) 25 _ Tryd.underlying25 rfl (by kernel_rfl)) (FiveAt.load (?g2 : FiveAt _ G2 (.int .i64 (0)) (.int .i64 (-1)) (.bool false) (.bool false) (.int .i64 (0))) 31 _ Tryd.underlying31 rfl (by kernel_rfl))) rfl ?_
      case g1 =>
        (repeat (first | with_reducible exact HF1.out | with_reducible apply FiveAt.drew | with_reducible apply FiveAt.alloc | with_reducible refine FiveAt.other5 ?_ hn12 | with_reducible refine FiveAt.setT ?_ | with_reducible exact ThereAt.of HF1.out | with_reducible refine ThereAt.drew ?_ | with_reducible refine ThereAt.alloc ?_ | with_reducible refine ThereAt.other5 ?_ hn12 | with_reducible refine ThereAt.other ?_ hn13 | with_reducible refine FiveAt.other ?_ hn13))
      case g2 =>
        (repeat (first | with_reducible exact HF2.out | with_reducible apply FiveAt.drew | with_reducible apply FiveAt.alloc | with_reducible refine FiveAt.other5 ?_ hn21 | with_reducible refine FiveAt.setT ?_ | with_reducible exact ThereAt.of HF2.out | with_reducible refine ThereAt.drew ?_ | with_reducible refine ThereAt.alloc ?_ | with_reducible refine ThereAt.other5 ?_ hn21 | with_reducible refine ThereAt.other ?_ hn23 | with_reducible refine FiveAt.other ?_ hn23))
      refine ⟨_, rfl, ?s, ?b⟩
      case b =>
        (repeat (first | with_reducible exact HBEL.out | with_reducible apply Below.drew | with_reducible refine below5 ?_ HLE1.out | with_reducible refine below5 ?_ HLE2.out | with_reducible refine belowG ?_ HLE3.out | with_reducible apply belowA))
      case s =>
        refine ⟨HMV.out.below ?_, .inl rfl⟩
        (repeat (first | with_reducible exact HBEL.out | with_reducible apply Below.drew | with_reducible refine below5 ?_ HLE1.out | with_reducible refine below5 ?_ HLE2.out | with_reducible refine belowG ?_ HLE3.out | with_reducible apply belowA))
  · go_wp2
    go_region
    all_goals
      go_wp2
      try simp only [Exit.inBlock, Exit.then]
      refine bodyPost_ret (results_step rfl _ _ _ ⟨G1, 0, none⟩ ⟨G2, 0, none⟩ (Co.val ((Co.set ⟨k, r0, r1, r2, r3⟩ 3 v).at (k + 1))) (Ou.val quietO) rfl rfl (FiveAt.load (?g1 : FiveAt _ G1 (.int .i64 ((k : Int) + 1)) (.int .i64 (r0)) (.int .i64 (r1)) (.int .i64 (r2)) (.int .i64 (v))) 25 _ Tryd.underlying25 rfl (by kernel_rfl)) (FiveAt.load (?g2 : FiveAt _ G2 (.int .i64 (0)) (.int .i64 (-1)) (.bool false) (.bool false) (.int .i64 (0))) 31 _ Tryd.underlying31 rfl (by kernel_rfl))) rfl ?_
      case g1 =>
        (repeat (first | with_reducible exact HF1.out | with_reducible apply FiveAt.drew | with_reducible apply FiveAt.alloc | with_reducible refine FiveAt.other5 ?_ hn12 | with_reducible refine FiveAt.setT ?_ | with_reducible exact ThereAt.of HF1.out | with_reducible refine ThereAt.drew ?_ | with_reducible refine ThereAt.alloc ?_ | with_reducible refine ThereAt.other5 ?_ hn12 | with_reducible refine ThereAt.other ?_ hn13 | with_reducible refine FiveAt.other ?_ hn13))
      case g2 =>
        (repeat (first | with_reducible exact HF2.out | with_reducible apply FiveAt.drew | with_reducible apply FiveAt.alloc | with_reducible refine FiveAt.other5 ?_ hn21 | with_reducible refine FiveAt.setT ?_ | with_reducible exact ThereAt.of HF2.out | with_reducible refine ThereAt.drew ?_ | with_reducible refine ThereAt.alloc ?_ | with_reducible refine ThereAt.other5 ?_ hn21 | with_reducible refine ThereAt.other ?_ hn23 | with_reducible refine FiveAt.other ?_ hn23))
      refine ⟨_, rfl, ?s, ?b⟩
      case b =>
        (repeat (first | with_reducible exact HBEL.out | with_reducible apply Below.drew | with_reducible refine below5 ?_ HLE1.out | with_reducible refine below5 ?_ HLE2.out | with_reducible refine belowG ?_ HLE3.out | with_reducible apply belowA))
      case s =>
        refine ⟨HMV.out.below ?_, .inl rfl⟩
        (repeat (first | with_reducible exact HBEL.out | with_reducible apply Below.drew | with_reducible refine below5 ?_ HLE1.out | with_reducible refine below5 ?_ HLE2.out | with_reducible refine belowG ?_ HLE3.out | with_reducible apply belowA))
end Go.Proofs.YtedldckijblnhaaDoor
