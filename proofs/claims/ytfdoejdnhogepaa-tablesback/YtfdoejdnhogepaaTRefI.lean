/-
  What the document's own bytes of a configuration are, and that nothing that was there is written; when two configurations are the same.
-/
import Derived.Test.YtfdoejdnhogepaaTRefH
import Derived.Test.YtfdoejdnhogepaaTRefF
namespace Go.Proofs.Ytfdoejdnhogepaa
open Go.RowKit
set_option linter.unusedVariables false

set_option maxRecDepth 100000 in
set_option maxHeartbeats 8000000 in
theorem renc_any (q : Cv) (c : Cf) (w : World) (hS : CfAt w q c) (hf : c.fit) :
    Calls Try.prog 18 #[q.val] w fun e w' => ∃ u, e = .returned (.tuple #[u, .int .i64 (encE c)]) ∧ w'.ownsRow w.heap.size 5 1 u (encB c).length ((encB c).map (Value.int .u8)) ∧ Below w.heap.size w w' := by
  obtain ⟨fr, sw, ⟨a1, n1, k1⟩, ⟨a2, n2, k2⟩, ⟨a3, n3, k3⟩, ⟨a4, n4, k4⟩⟩ := q
  obtain rfl : fr = c.fr := hS.fr
  obtain rfl : sw = c.sw := hS.sw
  have HSS := hid hS
  obtain ⟨qs, hq, hln, hpt⟩ := hS.pa
  obtain ⟨al2, cl2, hv2, hl2, hm2, hlc2⟩ := hq.form
  simp only [Sl.val, Value.slice.injEq] at hv2
  obtain ⟨rfl, hn2, rfl⟩ := hv2
  rw [← hn2] at hl2 hlc2
  have HN2 := hid (show n2 = c.pa.length by omega)
  have HC2 := hid hlc2
  have HPT := hid (show ∀ i, i < n2 → PtAt w (qs.getD i Pv.zero) (c.pa.getD i Pt.zero) from fun i hi => hpt i (by omega))
  unfold maxLen at hm2
  obtain ⟨al3, cl3, hv3, hl3, hm3, hlc3⟩ := hS.wi.form
  simp only [Sl.val, Value.slice.injEq] at hv3
  obtain ⟨rfl, hn3, rfl⟩ := hv3
  rw [← hn3] at hl3
  have HN3 := hid hn3
  have HC3 := hid hlc3
  unfold maxLen at hm3
  obtain ⟨al4, cl4, hv4, hl4, hm4, hlc4⟩ := hS.ch.form
  simp only [Sl.val, Value.slice.injEq] at hv4
  obtain ⟨rfl, hn4, rfl⟩ := hv4
  rw [← hn4] at hl4
  have HN4 := hid hn4
  have HC4 := hid hlc4
  unfold maxLen at hm4
  have HF := hid hf
  clear hS hf hq hln hpt hn2 hn3 hn4 hlc2 hlc3 hlc4
  unfold Cv.val
  simp only
  go_enter Try.func18, Try.ntmps18
  go_wp2_with fail
  refine (rmayc_any ⟨c.fr, c.sw, ⟨a1, n1, k1⟩, ⟨a2, n2, k2⟩, ⟨a3, n3, k3⟩, ⟨a4, n4, k4⟩⟩ c _ (HSS.out.below ((Below.refl _ _).alloc (Nat.le_refl _) _)) HF.out).mono ?_
  rintro e w0 ⟨rfl, hb0⟩
  have HX := hid (show BoxAt w0 w.heap.size 27 #[.int .i64 c.fr, .int .i64 c.sw, .slice a1 n1 k1, .slice a2 n2 k2, .slice a3 n3 k3, .slice a4 n4 k4] from (BoxAt.new w _ _).belowAll hb0)
  have hB : Below w.heap.size w w0 := ((Below.refl _ _).alloc (Nat.le_refl _) _).trans (hb0.mono (by simp))
  have HB := hid hB
  have hz0 : w.heap.size < w0.heap.size := by have := hb0.size; simp at this; omega
  clear hb0 hB
  rcases hm : mayC c
  · have HE1 := hid (show encE c = 1 by simp [encE, hm])
    have HE2 := hid (show encB c = [] by simp [encB, hm])
    clear HC2 HC3 HC4 HPT HSS
    go_wp2
    go_ret2
    exact ⟨_, by rw [HE1.out]; rfl, by rw [HE2.out]; exact World.ownsRow_nil _ _ _ _, HB.out⟩
  have HE1 := hid (show encE c = paE (flCf c) by simp [encE, hm])
  have HE2 := hid (show encB c = paB (flCf c) by simp [encB, hm])
  have hfw := mayC_few hm
  have HPF := hid (show ∀ i, i < n2 → (c.pa.getD i Pt.zero).few ∧ (flPt (c.pa.getD i Pt.zero)).length ≤ 200 from fun i hi => by
    unfold mayC at hm
    simp only [Bool.and_eq_true] at hm
    exact partB_few ((allN_iff _ _).1 hm.1.1.1.1.1.2.2 i (by rw [← HN2.out]; exact hi)))
  have HQ := hid hfw
  have q2 : n2 ≤ 1000 := by rw [HN2.out]; exact hfw.1.2.1
  have q3 : n3 ≤ 1000 := by rw [HN3.out]; exact hfw.1.2.2.1
  have q4 : n4 ≤ 1000 := by rw [HN4.out]; exact hfw.1.2.2.2.1
  clear hfw hm HF
  have e0 := (HX.out.cell 0).trans rfl
  have e1 := (HX.out.cell 1).trans rfl
  obtain ⟨L1, hL1⟩ : ∃ N, N = [c.fr, c.sw] := ⟨_, rfl⟩
  have HO := hid (show OI (w0.alloc (.cells #[.int .i64 c.fr, .int .i64 c.sw] 3)) w0.heap.size (.slice (some ⟨w0.heap.size, 0, none⟩) 2 2) [c.fr, c.sw] from OI.made (t := 3) (ys := [c.fr, c.sw]) (BoxAt.new w0 _ _) (Nat.le_refl _) (by simp))
  rw [← hL1] at HO
  have HEL1 := hid hL1
  have hLbL1 : L1.length ≤ 2 := by rw [hL1]; simp
  have HOL1 := HO
  have hbL1 : Below w0.heap.size w0 (w0.alloc (.cells #[.int .i64 c.fr, .int .i64 c.sw] 3)) := (Below.refl _ _).alloc (Nat.le_refl _) _
  clear hL1 HO
  have e2 := ((HX.out.belowAll hbL1).cell 2).trans rfl
  go_wp2_with fail
  refine (rcounted_any _ c.li _ ((HSS.out.below (HB.out.trans (hbL1.mono HB.out.size))).li) (by have := HQ.out.1.1; omega)).mono ?_
  rintro e wq ⟨u, rfl, hou, hbu⟩
  have HLx := hid (HOL1.out.below hbu)
  have HSx := hid hou.sees
  have hbx := hbL1.trans (hbu.mono hbL1.size)
  have hqx : c.li.length ≤ 1000 := HQ.out.1.1
  have HMx := hid (show L1.length + (cntF one1 c.li).length ≤ 1000000 by rw [cnt1_len]; omega)
  have hcl : (cntF one1 c.li).length ≤ 10001 := by rw [cnt1_len]; omega
  clear hqx
  go_wp2_with (at_builtin; refine app_ints rfl _ _ rfl w0.heap.size _ L1 rfl HLx.out _ (cntF one1 c.li) rfl HSx.out HMx.out hbx.size ?_)
  intro vL2 wL2 ho hg hb
  obtain ⟨L2, hN⟩ : ∃ N, N = L1 ++ cntF one1 c.li := ⟨_, rfl⟩
  rw [← hN] at ho
  have HEL2 := hid hN
  have hLbL2 : L2.length ≤ L1.length + 10001 := by rw [hN, List.length_append]; omega
  have HOL2 := hid ho
  have hbL2 := hbx.trans hb
  have HBL2 := hid hbL2
  clear ho hg hb hbx hou hbu hcl HLx HSx HMx hN HOL1 e2
  clear e0 e1
  have e3 := ((HX.out.belowAll hbL2).cell 3).trans rfl
  have HLx := hid (HOL2.out.below ((Below.refl _ _).alloc (Nat.le_refl _) (.cells #[.int .i64 (n2 : Int)] 3)))
  have HSx := hid (show Sees (wL2.alloc (.cells #[.int .i64 (n2 : Int)] 3)) .i64 (.slice (some ⟨wL2.heap.size, 0, none⟩) 1 1) [(n2 : Int)] from Sees.box (ys := [(n2 : Int)]) (BoxAt.new wL2 3 #[.int .i64 (n2 : Int)]) (by simp))
  have hbx := hbL2.alloc hbL2.size (.cells #[.int .i64 (n2 : Int)] 3)
  have HMx := hid (show L2.length + [(n2 : Int)].length ≤ 1000000 by simp only [List.length_cons, List.length_nil]; omega)
  go_wp2_with (at_builtin; refine app_ints rfl _ _ rfl w0.heap.size _ L2 rfl HLx.out _ [(n2 : Int)] rfl HSx.out HMx.out hbx.size ?_)
  intro vL3 wL3 ho hg hb
  obtain ⟨L3, hN⟩ : ∃ N, N = L2 ++ [(n2 : Int)] := ⟨_, rfl⟩
  rw [← hN] at ho
  have HEL3 := hid hN
  have hLbL3 : L3.length ≤ L2.length + 1 := by rw [hN, List.length_append]; simp
  have HOL3 := hid ho
  have hbL3 := hbx.trans hb
  have HBL3 := hid hbL3
  clear ho hg hb hbx HLx HSx HMx hN HOL2 e3 
  go_wp2
  go_loopw [5, 6] (fun s t wc => ∃ (i : Nat) (M : List Int), i ≤ n2 ∧ t = .int .i64 i ∧ OI wc w0.heap.size s M ∧ M = L3 ++ (c.pa.take i).flatMap flPt ∧ M.length ≤ L3.length + 200 * i ∧ Below w0.heap.size w0 wc) (fun _ t _ => n2 - (intOf t).toNat)
  case atStart => exact ⟨0, L3, by omega, rfl, HOL3.out, by simp, by simp, HBL3.out⟩
  case round =>
    obtain ⟨i, M, hi, rfl, hO, hM, hMl, hbel⟩ := hrel
    rename World => wrL3
    have HO := hid hO
    have HM := hid hM
    clear hO hM HOL3 HBL3
    have e3 := ((HX.out.belowAll hbel).cell 3).trans rfl
    by_cases hlt : i < n2
    · have hlt' : i < c.pa.length := by rw [← HN2.out]; exact hlt
      obtain ⟨bb, off, rfl, hbw, hcell⟩ := HC2.out (by omega)
      have HWr := hid (HB.out.trans (hbel.mono HB.out.size))
      have c0 := (HWr.out.cell (by exact hbw)).trans (hcell i hlt 0 (by decide))
      have c1 := (HWr.out.cell (by exact hbw)).trans (hcell i hlt 1 (by decide))
      have c2 := (HWr.out.cell (by exact hbw)).trans (hcell i hlt 2 (by decide))
      have c3 := (HWr.out.cell (by exact hbw)).trans (hcell i hlt 3 (by decide))
      have c4 := (HWr.out.cell (by exact hbw)).trans (hcell i hlt 4 (by decide))
      have c5 := (HWr.out.cell (by exact hbw)).trans (hcell i hlt 5 (by decide))
      have c6 := (HWr.out.cell (by exact hbw)).trans (hcell i hlt 6 (by decide))
      have c7 := (HWr.out.cell (by exact hbw)).trans (hcell i hlt 7 (by decide))
      have c8 := (HWr.out.cell (by exact hbw)).trans (hcell i hlt 8 (by decide))
      have c9 := (HWr.out.cell (by exact hbw)).trans (hcell i hlt 9 (by decide))
      have c10 := (HWr.out.cell (by exact hbw)).trans (hcell i hlt 10 (by decide))
      have HPi := hid ((HPT.out i hlt).below HWr.out)
      have HFi := hid (HPF.out i hlt)
      have HS := hid (flat_snoc flPt Pt.zero c.pa i hlt')
      clear hcell hlt'
      generalize qs.getD i Pv.zero = x at *
      generalize c.pa.getD i Pt.zero = y at *
      obtain ⟨v0, ⟨v1a, v1n, v1c⟩, ⟨v2a, v2n, v2c⟩, v3, ⟨v4a, v4n, v4c⟩, ⟨v5a, v5n, v5c⟩, v6, ⟨v7a, v7n, v7c⟩, ⟨v8a, v8n, v8c⟩, v9, ⟨v10a, v10n, v10c⟩⟩ := x
      simp only [Pv.cells, List.getD_cons_zero, List.getD_cons_succ, Nat.add_zero] at c0 c1 c2 c3 c4 c5 c6 c7 c8 c9 c10
      go_wp2_with fail
      refine (rlay_any ⟨v0, ⟨v1a, v1n, v1c⟩, ⟨v2a, v2n, v2c⟩, v3, ⟨v4a, v4n, v4c⟩, ⟨v5a, v5n, v5c⟩, v6, ⟨v7a, v7n, v7c⟩, ⟨v8a, v8n, v8c⟩, v9, ⟨v10a, v10n, v10c⟩⟩ y _ HPi.out HFi.out.1).mono ?_
      rintro e wq ⟨u, rfl, hou, hbu⟩
      have HLx := hid (HO.out.below hbu)
      have HSx := hid hou.sees
      have hbx := hbel.trans (hbu.mono hbel.size)
      have hql := HFi.out.2
      have HMx := hid (show M.length + (flPt y).length ≤ 1000000 by omega)
      have HNL := hid (show (M ++ flPt y).length ≤ L3.length + 200 * (i + 1) by rw [List.length_append]; omega)
      have HNM := hid (show M ++ flPt y = L3 ++ (c.pa.take (i + 1)).flatMap flPt by rw [HM.out, HS.out, List.append_assoc])
      clear hou hbu hql HM HS HO c0 c1 c2 c3 c4 c5 c6 c7 c8 c9 c10
      go_wp2_with (at_builtin; refine app_ints rfl _ _ rfl w0.heap.size _ M rfl HLx.out _ (flPt y) rfl HSx.out HMx.out hbx.size ?_)
      intro v2 w2 ho hg hb
      have HO2 := hid ho
      have hbw2 := hbx.trans hb
      clear ho hg hb hbx HLx HSx HMx
      go_wp2
      go_roundw
      case rel => exact ⟨i + 1, _, by omega, by go_num, HO2.out, HNM.out, HNL.out, hbw2⟩
      case measure => simp [intOf]; omega
    · have hMe : M = L3 ++ c.pa.flatMap flPt := by rw [HM.out, List.take_of_length_le (by rw [← HN2.out]; omega)]
      have HEL4 := hid hMe
      have hLbL4 : M.length ≤ L3.length + 200 * n2 := Nat.le_trans hMl (Nat.add_le_add_left (Nat.mul_le_mul_left _ hi) _)
      have HOL4 := HO
      have HBL4 := hid hbel
      clear HM HO hMe hMl
      rename List Int => L4
      have e4 := ((HX.out.belowAll hbel).cell 4).trans rfl
      have HLx := hid (HOL4.out.below ((Below.refl _ _).alloc (Nat.le_refl _) (.cells #[.int .i64 (n3 : Int)] 3)))
      have HSx := hid (show Sees (wrL3.alloc (.cells #[.int .i64 (n3 : Int)] 3)) .i64 (.slice (some ⟨wrL3.heap.size, 0, none⟩) 1 1) [(n3 : Int)] from Sees.box (ys := [(n3 : Int)]) (BoxAt.new wrL3 3 #[.int .i64 (n3 : Int)]) (by simp))
      have hbx := hbel.alloc hbel.size (.cells #[.int .i64 (n3 : Int)] 3)
      have HMx := hid (show L4.length + [(n3 : Int)].length ≤ 1000000 by simp only [List.length_cons, List.length_nil]; omega)
      go_wp2_with (at_builtin; refine app_ints rfl _ _ rfl w0.heap.size _ L4 rfl HLx.out _ [(n3 : Int)] rfl HSx.out HMx.out hbx.size ?_)
      intro vL5 wL5 ho hg hb
      obtain ⟨L5, hN⟩ : ∃ N, N = L4 ++ [(n3 : Int)] := ⟨_, rfl⟩
      rw [← hN] at ho
      have HEL5 := hid hN
      have hLbL5 : L5.length ≤ L4.length + 1 := by rw [hN, List.length_append]; simp
      have HOL5 := hid ho
      have hbL5 := hbx.trans hb
      have HBL5 := hid hbL5
      clear ho hg hb hbx HLx HSx HMx hN HOL4 e4 hlt hi
      go_wp2
      go_loopw [5, 7] (fun s t wc => ∃ (i : Nat) (M : List Int), i ≤ n3 ∧ t = .int .i64 i ∧ OI wc w0.heap.size s M ∧ M = L5 ++ (c.wi.take i).flatMap flWn ∧ M.length = L5.length + 3 * i ∧ Below w0.heap.size w0 wc) (fun _ t _ => n3 - (intOf t).toNat)
      case atStart => exact ⟨0, L5, by omega, rfl, HOL5.out, by simp, by simp, HBL5.out⟩
      case round =>
        obtain ⟨i, M, hi, rfl, hO, hM, hMl, hbel⟩ := hrel
        rename World => wrL5
        have HO := hid hO
        have HM := hid hM
        clear hO hM HOL5 HBL5
        have e4 := ((HX.out.belowAll hbel).cell 4).trans rfl
        by_cases hlt : i < n3
        · have hlt' : i < c.wi.length := by rw [← HN3.out]; exact hlt
          obtain ⟨bb, off, rfl, hbw, hcell⟩ := HC3.out (by omega)
          have hc0 := hcell i hlt' 0 (by decide)
          have hc1 := hcell i hlt' 1 (by decide)
          have hc2 := hcell i hlt' 2 (by decide)
          have HS := hid (flat_snoc flWn Wn.zero c.wi i hlt')
          clear hcell hlt'
          generalize c.wi.getD i Wn.zero = x at *
          obtain ⟨x0, x1, x2⟩ := x
          simp only [Wn.cells, List.getD_cons_zero, List.getD_cons_succ, Nat.add_zero] at hc0 hc1 hc2
          have hblt : bb < w0.heap.size := by have := HB.out.size; omega
          have MK := hid (show ∀ w', Below w0.heap.size w0 w' → w'.cell? ⟨w.heap.size, 4, none⟩ = some (.slice (some ⟨bb, off, none⟩) n3 k3) ∧ w'.cell? ⟨bb, off + i * 3, none⟩ = some (.int .i64 x0) ∧ w'.cell? ⟨bb, off + i * 3 + 1, none⟩ = some (.int .i64 x1) ∧ w'.cell? ⟨bb, off + i * 3 + 2, none⟩ = some (.int .i64 x2) from
            fun w' h => ⟨((HX.out.belowAll h).cell 4).trans rfl, ((HB.out.trans (h.mono HB.out.size)).cell (by exact hbw)).trans hc0, ((HB.out.trans (h.mono HB.out.size)).cell (by exact hbw)).trans hc1, ((HB.out.trans (h.mono HB.out.size)).cell (by exact hbw)).trans hc2⟩)
          have hMb : M.length + [x0, x1, x2].length ≤ 1000000 := by simp only [List.length_cons, List.length_nil]; omega
          have HMB := hid hMb
          clear hMb hc0 hc1 hc2
          go_wp2_with fail
          refine wp_region_held_drew (S := (fun w' => w'.cell? ⟨w.heap.size, 4, none⟩ = some (.slice (some ⟨bb, off, none⟩) n3 k3) ∧ w'.cell? ⟨bb, off + i * 3, none⟩ = some (.int .i64 x0) ∧ w'.cell? ⟨bb, off + i * 3 + 1, none⟩ = some (.int .i64 x1) ∧ w'.cell? ⟨bb, off + i * 3 + 2, none⟩ = some (.int .i64 x2))) (by kernel_rfl) (MK.out _ hbel.drew) (fun hHeld => ?_)
          refine wpAnyH_take (i := 0) (oi := { dst := some 60, op := Op.move (Operand.tmp 5), type := 22, pos := "ref.go:212", after := #[], guard := none }) (v := ?_) rfl (by kernel_rfl) (by kernel_rfl) (by kernel_rfl) (fun _ _ _ h => h) (Or.inl ⟨by rfl, ?_⟩) (by assumption) ?_
          rotate_left
          · (intro w hSw; (try dsimp only at hSw); go_simp; try with_reducible rfl)
          simp only [Act.put, List.setIfInBounds_toArray, List.set_cons_zero, List.set_cons_succ]
          refine wpAnyH_take (i := 1) (oi := { dst := some 61, op := Op.fieldAddr 27 (Operand.tmp 1) 4, type := 0, pos := "ref.go:212", after := #[], guard := none }) (v := ?_) rfl (by kernel_rfl) (by kernel_rfl) (by kernel_rfl) (fun _ _ _ h => h) (Or.inl ⟨by rfl, ?_⟩) (by assumption) ?_
          rotate_left
          · (intro w hSw; (try dsimp only at hSw); go_simp; try with_reducible rfl)
          simp only [Act.put, List.setIfInBounds_toArray, List.set_cons_zero, List.set_cons_succ]
          refine wpAnyH_take (i := 2) (oi := { dst := some 62, op := Op.load 24 (Operand.tmp 61), type := 24, pos := "ref.go:212", after := #[{ on := 1, ground := Ground.data }], guard := none }) (v := ?_) rfl (by kernel_rfl) (by kernel_rfl) (by kernel_rfl) (fun _ _ _ h => h) (Or.inl ⟨by rfl, ?_⟩) (by assumption) ?_
          rotate_left
          · (intro w hSw; (try dsimp only at hSw); go_simp; try with_reducible rfl)
          simp only [Act.put, List.setIfInBounds_toArray, List.set_cons_zero, List.set_cons_succ]
          refine wpAnyH_take (i := 3) (oi := { dst := some 63, op := Op.move (Operand.tmp 7), type := 3, pos := "ref.go:212", after := #[], guard := none }) (v := ?_) rfl (by kernel_rfl) (by kernel_rfl) (by kernel_rfl) (fun _ _ _ h => h) (Or.inl ⟨by rfl, ?_⟩) (by assumption) ?_
          rotate_left
          · (intro w hSw; (try dsimp only at hSw); go_simp; try with_reducible rfl)
          simp only [Act.put, List.setIfInBounds_toArray, List.set_cons_zero, List.set_cons_succ]
          refine wpAnyH_take (i := 4) (oi := { dst := some 64, op := Op.indexAddr 24 (Operand.tmp 62) (Operand.tmp 63), type := 0, pos := "ref.go:212", after := #[{ on := 2, ground := Ground.data }, { on := 3, ground := Ground.data }], guard := none }) (v := ?_) rfl (by kernel_rfl) (by kernel_rfl) (by kernel_rfl) (fun _ _ _ h => h) (Or.inl ⟨by rfl, ?_⟩) (by assumption) ?_
          rotate_left
          · (intro w hSw; (try dsimp only at hSw); go_simp; try with_reducible rfl)
          simp only [Act.put, List.setIfInBounds_toArray, List.set_cons_zero, List.set_cons_succ]
          refine wpAnyH_take (i := 5) (oi := { dst := some 65, op := Op.fieldAddr 39 (Operand.tmp 64) 0, type := 0, pos := "ref.go:212", after := #[{ on := 4, ground := Ground.data }], guard := none }) (v := ?_) rfl (by kernel_rfl) (by kernel_rfl) (by kernel_rfl) (fun _ _ _ h => h) (Or.inl ⟨by rfl, ?_⟩) (by assumption) ?_
          rotate_left
          · (intro w hSw; (try dsimp only at hSw); go_simp; try with_reducible rfl)
          simp only [Act.put, List.setIfInBounds_toArray, List.set_cons_zero, List.set_cons_succ]
          refine wpAnyH_take (i := 6) (oi := { dst := some 66, op := Op.load 3 (Operand.tmp 65), type := 3, pos := "ref.go:212", after := #[{ on := 5, ground := Ground.data }], guard := none }) (v := ?_) rfl (by kernel_rfl) (by kernel_rfl) (by kernel_rfl) (fun _ _ _ h => h) (Or.inl ⟨by rfl, ?_⟩) (by assumption) ?_
          rotate_left
          · (intro w hSw; (try dsimp only at hSw); go_simp; try with_reducible rfl)
          simp only [Act.put, List.setIfInBounds_toArray, List.set_cons_zero, List.set_cons_succ]
          refine wpAnyH_take (i := 7) (oi := { dst := some 67, op := Op.fieldAddr 27 (Operand.tmp 1) 4, type := 0, pos := "ref.go:212", after := #[], guard := none }) (v := ?_) rfl (by kernel_rfl) (by kernel_rfl) (by kernel_rfl) (fun _ _ _ h => h) (Or.inl ⟨by rfl, ?_⟩) (by assumption) ?_
          rotate_left
          · (intro w hSw; (try dsimp only at hSw); go_simp; try with_reducible rfl)
          simp only [Act.put, List.setIfInBounds_toArray, List.set_cons_zero, List.set_cons_succ]
          refine wpAnyH_take (i := 8) (oi := { dst := some 68, op := Op.load 24 (Operand.tmp 67), type := 24, pos := "ref.go:212", after := #[{ on := 7, ground := Ground.data }], guard := none }) (v := ?_) rfl (by kernel_rfl) (by kernel_rfl) (by kernel_rfl) (fun _ _ _ h => h) (Or.inl ⟨by rfl, ?_⟩) (by assumption) ?_
          rotate_left
          · (intro w hSw; (try dsimp only at hSw); go_simp; try with_reducible rfl)
          simp only [Act.put, List.setIfInBounds_toArray, List.set_cons_zero, List.set_cons_succ]
          refine wpAnyH_take (i := 9) (oi := { dst := some 69, op := Op.move (Operand.tmp 7), type := 3, pos := "ref.go:212", after := #[], guard := none }) (v := ?_) rfl (by kernel_rfl) (by kernel_rfl) (by kernel_rfl) (fun _ _ _ h => h) (Or.inl ⟨by rfl, ?_⟩) (by assumption) ?_
          rotate_left
          · (intro w hSw; (try dsimp only at hSw); go_simp; try with_reducible rfl)
          simp only [Act.put, List.setIfInBounds_toArray, List.set_cons_zero, List.set_cons_succ]
          refine wpAnyH_take (i := 10) (oi := { dst := some 70, op := Op.indexAddr 24 (Operand.tmp 68) (Operand.tmp 69), type := 0, pos := "ref.go:212", after := #[{ on := 8, ground := Ground.data }, { on := 9, ground := Ground.data }], guard := none }) (v := ?_) rfl (by kernel_rfl) (by kernel_rfl) (by kernel_rfl) (fun _ _ _ h => h) (Or.inl ⟨by rfl, ?_⟩) (by assumption) ?_
          rotate_left
          · (intro w hSw; (try dsimp only at hSw); go_simp; try with_reducible rfl)
          simp only [Act.put, List.setIfInBounds_toArray, List.set_cons_zero, List.set_cons_succ]
          refine wpAnyH_take (i := 11) (oi := { dst := some 71, op := Op.fieldAddr 39 (Operand.tmp 70) 1, type := 0, pos := "ref.go:212", after := #[{ on := 10, ground := Ground.data }], guard := none }) (v := ?_) rfl (by kernel_rfl) (by kernel_rfl) (by kernel_rfl) (fun _ _ _ h => h) (Or.inl ⟨by rfl, ?_⟩) (by assumption) ?_
          rotate_left
          · (intro w hSw; (try dsimp only at hSw); go_simp; try with_reducible rfl)
          simp only [Act.put, List.setIfInBounds_toArray, List.set_cons_zero, List.set_cons_succ]
          refine wpAnyH_take (i := 12) (oi := { dst := some 72, op := Op.load 3 (Operand.tmp 71), type := 3, pos := "ref.go:212", after := #[{ on := 11, ground := Ground.data }], guard := none }) (v := ?_) rfl (by kernel_rfl) (by kernel_rfl) (by kernel_rfl) (fun _ _ _ h => h) (Or.inl ⟨by rfl, ?_⟩) (by assumption) ?_
          rotate_left
          · (intro w hSw; (try dsimp only at hSw); go_simp; try with_reducible rfl)
          simp only [Act.put, List.setIfInBounds_toArray, List.set_cons_zero, List.set_cons_succ]
          refine wpAnyH_take (i := 13) (oi := { dst := some 73, op := Op.fieldAddr 27 (Operand.tmp 1) 4, type := 0, pos := "ref.go:212", after := #[], guard := none }) (v := ?_) rfl (by kernel_rfl) (by kernel_rfl) (by kernel_rfl) (fun _ _ _ h => h) (Or.inl ⟨by rfl, ?_⟩) (by assumption) ?_
          rotate_left
          · (intro w hSw; (try dsimp only at hSw); go_simp; try with_reducible rfl)
          simp only [Act.put, List.setIfInBounds_toArray, List.set_cons_zero, List.set_cons_succ]
          refine wpAnyH_take (i := 14) (oi := { dst := some 74, op := Op.load 24 (Operand.tmp 73), type := 24, pos := "ref.go:212", after := #[{ on := 13, ground := Ground.data }], guard := none }) (v := ?_) rfl (by kernel_rfl) (by kernel_rfl) (by kernel_rfl) (fun _ _ _ h => h) (Or.inl ⟨by rfl, ?_⟩) (by assumption) ?_
          rotate_left
          · (intro w hSw; (try dsimp only at hSw); go_simp; try with_reducible rfl)
          simp only [Act.put, List.setIfInBounds_toArray, List.set_cons_zero, List.set_cons_succ]
          refine wpAnyH_take (i := 15) (oi := { dst := some 75, op := Op.move (Operand.tmp 7), type := 3, pos := "ref.go:212", after := #[], guard := none }) (v := ?_) rfl (by kernel_rfl) (by kernel_rfl) (by kernel_rfl) (fun _ _ _ h => h) (Or.inl ⟨by rfl, ?_⟩) (by assumption) ?_
          rotate_left
          · (intro w hSw; (try dsimp only at hSw); go_simp; try with_reducible rfl)
          simp only [Act.put, List.setIfInBounds_toArray, List.set_cons_zero, List.set_cons_succ]
          refine wpAnyH_take (i := 16) (oi := { dst := some 76, op := Op.indexAddr 24 (Operand.tmp 74) (Operand.tmp 75), type := 0, pos := "ref.go:212", after := #[{ on := 14, ground := Ground.data }, { on := 15, ground := Ground.data }], guard := none }) (v := ?_) rfl (by kernel_rfl) (by kernel_rfl) (by kernel_rfl) (fun _ _ _ h => h) (Or.inl ⟨by rfl, ?_⟩) (by assumption) ?_
          rotate_left
          · (intro w hSw; (try dsimp only at hSw); go_simp; try with_reducible rfl)
          simp only [Act.put, List.setIfInBounds_toArray, List.set_cons_zero, List.set_cons_succ]
          refine wpAnyH_take (i := 17) (oi := { dst := some 77, op := Op.fieldAddr 39 (Operand.tmp 76) 2, type := 0, pos := "ref.go:212", after := #[{ on := 16, ground := Ground.data }], guard := none }) (v := ?_) rfl (by kernel_rfl) (by kernel_rfl) (by kernel_rfl) (fun _ _ _ h => h) (Or.inl ⟨by rfl, ?_⟩) (by assumption) ?_
          rotate_left
          · (intro w hSw; (try dsimp only at hSw); go_simp; try with_reducible rfl)
          simp only [Act.put, List.setIfInBounds_toArray, List.set_cons_zero, List.set_cons_succ]
          refine wpAnyH_take (i := 18) (oi := { dst := some 78, op := Op.load 3 (Operand.tmp 77), type := 3, pos := "ref.go:212", after := #[{ on := 17, ground := Ground.data }], guard := none }) (v := ?_) rfl (by kernel_rfl) (by kernel_rfl) (by kernel_rfl) (fun _ _ _ h => h) (Or.inl ⟨by rfl, ?_⟩) (by assumption) ?_
          rotate_left
          · (intro w hSw; (try dsimp only at hSw); go_simp; try with_reducible rfl)
          simp only [Act.put, List.setIfInBounds_toArray, List.set_cons_zero, List.set_cons_succ]
          refine wpAnyH_ready (rs := [19]) (by kernel_rfl) (by simp) (AllReadyH.cons (o := { dst := some 79, op := Op.buildSlice 22 3 #[(0, Operand.tmp 66), (1, Operand.tmp 72), (2, Operand.tmp 78)], type := 22, pos := "ref.go:212", after := #[{ on := 6, ground := Ground.data }, { on := 12, ground := Ground.data }, { on := 18, ground := Ground.data }], guard := none }) rfl (fun K5020 hK5020 => ?_) AllReadyH.nil)
          go_simp
          have hk1 : Below wrL5.heap.size wrL5 (wrL5.drew.alloc (.cells #[.int .i64 x0, .int .i64 x1, .int .i64 x2] 3)) := (Below.refl _ _).drew.alloc (Nat.le_refl _) _
          have hb1 : Below w0.heap.size w0 (wrL5.drew.alloc (.cells #[.int .i64 x0, .int .i64 x1, .int .i64 x2] 3)) := hbel.trans (hk1.mono hbel.size)
          have HO1 := hid (HO.out.below hk1)
          have HS1 := hid (show Sees (wrL5.drew.alloc (.cells #[.int .i64 x0, .int .i64 x1, .int .i64 x2] 3)) .i64 (.slice (some ⟨wrL5.heap.size, 0, none⟩) 3 3) [x0, x1, x2] from Sees.box (ys := [x0, x1, x2]) (BoxAt.new wrL5.drew 3 #[.int .i64 x0, .int .i64 x1, .int .i64 x2]) (by simp))
          refine hK5020.out _ _ (MK.out _ hb1) (fun hHeld5020 => ?_)
          clear hK5020 K5020
          try simp only [Act.put, List.setIfInBounds_toArray, List.set_cons_zero, List.set_cons_succ]
          refine wpAnyH_ready (rs := [20]) (by kernel_rfl) (by simp) (AllReadyH.cons (o := { dst := some 80, op := Op.call { callee := Callee.builtin Builtin.append, args := #[Operand.tmp 60, Operand.tmp 79], argTypes := #[22, 22] }, type := 22, pos := "ref.go:212", after := #[{ on := 0, ground := Ground.data }, { on := 19, ground := Ground.data }], guard := none }) rfl (fun K5021 hK5021 => ?_) AllReadyH.nil)
          refine step_app_ints rfl (.tmp 60) (.tmp 79) rfl w0.heap.size _ M rfl HO1.out _ [x0, x1, x2] rfl HS1.out HMB.out hb1.size ?_
          intro v2 w2 ho2 hg2 hb2
          have hbw2 := hb1.trans hb2
          have HO2 := hid ho2
          clear ho2 hg2 hb2 hb1 HO1 HS1 hk1
          refine hK5021.out _ _ (MK.out _ hbw2) (fun hHeld5021 => ?_)
          clear hK5021 K5021
          try simp only [Act.put, List.setIfInBounds_toArray, List.set_cons_zero, List.set_cons_succ]
          refine wpAnyH_take (i := 21) (oi := { dst := some 5, op := Op.assign (Operand.tmp 80), type := 22, pos := "ref.go:212", after := #[{ on := 20, ground := Ground.data }, { on := 20, ground := Ground.chain }, { on := 0, ground := Ground.phase }, { on := 1, ground := Ground.phase }, { on := 2, ground := Ground.phase }, { on := 3, ground := Ground.phase }, { on := 4, ground := Ground.phase }, { on := 5, ground := Ground.phase }, { on := 6, ground := Ground.phase }, { on := 7, ground := Ground.phase }, { on := 8, ground := Ground.phase }, { on := 9, ground := Ground.phase }, { on := 10, ground := Ground.phase }, { on := 11, ground := Ground.phase }, { on := 12, ground := Ground.phase }, { on := 13, ground := Ground.phase }, { on := 14, ground := Ground.phase }, { on := 15, ground := Ground.phase }, { on := 16, ground := Ground.phase }, { on := 17, ground := Ground.phase }, { on := 18, ground := Ground.phase }, { on := 19, ground := Ground.phase }, { on := 20, ground := Ground.phase }], guard := none }) (v := ?_) rfl (by kernel_rfl) (by kernel_rfl) (by kernel_rfl) (fun _ _ _ h => h) (Or.inl ⟨by rfl, ?_⟩) (by assumption) ?_
          rotate_left
          · (intro w hSw; (try dsimp only at hSw); go_simp; try with_reducible rfl)
          simp only [Act.put, List.setIfInBounds_toArray, List.set_cons_zero, List.set_cons_succ]
          refine wpAnyH_done (by kernel_rfl) ?_ _
          clear hHeld hHeld5020 hHeld5021
          have HNM := hid (show M ++ [x0, x1, x2] = L5 ++ (c.wi.take (i + 1)).flatMap flWn by rw [HM.out, HS.out, List.append_assoc]; rfl)
          have HNL := hid (show (M ++ [x0, x1, x2]).length = L5.length + 3 * (i + 1) by rw [List.length_append, hMl]; simp only [List.length_cons, List.length_nil]; omega)
          clear MK HM HS HO
          go_wp2
          go_roundw
          case rel => exact ⟨i + 1, _, by omega, by go_num, HO2.out, HNM.out, HNL.out, hbw2⟩
          case measure => simp [intOf]; omega
        · have hMe : M = L5 ++ c.wi.flatMap flWn := by rw [HM.out, List.take_of_length_le (by rw [← HN3.out]; omega)]
          have HEL6 := hid hMe
          have hLbL6 : M.length ≤ L5.length + 3 * n3 := by rw [hMl]; exact Nat.add_le_add_left (Nat.mul_le_mul_left _ hi) _
          have HOL6 := HO
          have HBL6 := hid hbel
          clear HM HO hMe hMl
          rename List Int => L6
          have e5 := ((HX.out.belowAll hbel).cell 5).trans rfl
          have HLx := hid (HOL6.out.below ((Below.refl _ _).alloc (Nat.le_refl _) (.cells #[.int .i64 (n4 : Int)] 3)))
          have HSx := hid (show Sees (wrL5.alloc (.cells #[.int .i64 (n4 : Int)] 3)) .i64 (.slice (some ⟨wrL5.heap.size, 0, none⟩) 1 1) [(n4 : Int)] from Sees.box (ys := [(n4 : Int)]) (BoxAt.new wrL5 3 #[.int .i64 (n4 : Int)]) (by simp))
          have hbx := hbel.alloc hbel.size (.cells #[.int .i64 (n4 : Int)] 3)
          have HMx := hid (show L6.length + [(n4 : Int)].length ≤ 1000000 by simp only [List.length_cons, List.length_nil]; omega)
          go_wp2_with (at_builtin; refine app_ints rfl _ _ rfl w0.heap.size _ L6 rfl HLx.out _ [(n4 : Int)] rfl HSx.out HMx.out hbx.size ?_)
          intro vL7 wL7 ho hg hb
          obtain ⟨L7, hN⟩ : ∃ N, N = L6 ++ [(n4 : Int)] := ⟨_, rfl⟩
          rw [← hN] at ho
          have HEL7 := hid hN
          have hLbL7 : L7.length ≤ L6.length + 1 := by rw [hN, List.length_append]; simp
          have HOL7 := hid ho
          have hbL7 := hbx.trans hb
          have HBL7 := hid hbL7
          clear ho hg hb hbx HLx HSx HMx hN HOL6 e5 hlt hi
          go_wp2
          go_loopw [5, 8] (fun s t wc => ∃ (i : Nat) (M : List Int), i ≤ n4 ∧ t = .int .i64 i ∧ OI wc w0.heap.size s M ∧ M = L7 ++ (c.ch.take i).flatMap flCh ∧ M.length = L7.length + 5 * i ∧ Below w0.heap.size w0 wc) (fun _ t _ => n4 - (intOf t).toNat)
          case atStart => exact ⟨0, L7, by omega, rfl, HOL7.out, by simp, by simp, HBL7.out⟩
          case round =>
            obtain ⟨i, M, hi, rfl, hO, hM, hMl, hbel⟩ := hrel
            rename World => wrL7
            have HO := hid hO
            have HM := hid hM
            clear hO hM HOL7 HBL7
            have e5 := ((HX.out.belowAll hbel).cell 5).trans rfl
            by_cases hlt : i < n4
            · have hlt' : i < c.ch.length := by rw [← HN4.out]; exact hlt
              obtain ⟨bb, off, rfl, hbw, hcell⟩ := HC4.out (by omega)
              have hc0 := hcell i hlt' 0 (by decide)
              have hc1 := hcell i hlt' 1 (by decide)
              have hc2 := hcell i hlt' 2 (by decide)
              have hc3 := hcell i hlt' 3 (by decide)
              have hc4 := hcell i hlt' 4 (by decide)
              have HS := hid (flat_snoc flCh Ch.zero c.ch i hlt')
              clear hcell hlt'
              generalize c.ch.getD i Ch.zero = x at *
              obtain ⟨x0, x1, x2, x3, x4⟩ := x
              simp only [Ch.cells, List.getD_cons_zero, List.getD_cons_succ, Nat.add_zero] at hc0 hc1 hc2 hc3 hc4
              have hblt : bb < w0.heap.size := by have := HB.out.size; omega
              have MK := hid (show ∀ w', Below w0.heap.size w0 w' → w'.cell? ⟨w.heap.size, 5, none⟩ = some (.slice (some ⟨bb, off, none⟩) n4 k4) ∧ w'.cell? ⟨bb, off + i * 5, none⟩ = some (.bool x0) ∧ w'.cell? ⟨bb, off + i * 5 + 1, none⟩ = some (.int .i64 x1) ∧ w'.cell? ⟨bb, off + i * 5 + 2, none⟩ = some (.int .i64 x2) ∧ w'.cell? ⟨bb, off + i * 5 + 3, none⟩ = some (.int .i64 x3) ∧ w'.cell? ⟨bb, off + i * 5 + 4, none⟩ = some (.int .i64 x4) from
                fun w' h => ⟨((HX.out.belowAll h).cell 5).trans rfl, ((HB.out.trans (h.mono HB.out.size)).cell (by exact hbw)).trans hc0, ((HB.out.trans (h.mono HB.out.size)).cell (by exact hbw)).trans hc1, ((HB.out.trans (h.mono HB.out.size)).cell (by exact hbw)).trans hc2, ((HB.out.trans (h.mono HB.out.size)).cell (by exact hbw)).trans hc3, ((HB.out.trans (h.mono HB.out.size)).cell (by exact hbw)).trans hc4⟩)
              have hMb : M.length + [bitI x0, x1, x2, x3, x4].length ≤ 1000000 := by simp only [List.length_cons, List.length_nil]; omega
              have HMB := hid hMb
              clear hMb hc0 hc1 hc2 hc3 hc4
              have g0 := (MK.out _ hbel).2.1
              have g1 := (MK.out _ hbel).2.2.1
              have g2 := (MK.out _ hbel).2.2.2.1
              have g3 := (MK.out _ hbel).2.2.2.2.1
              have g4 := (MK.out _ hbel).2.2.2.2.2
              go_wp2_with fail
              clear g0 g1 g2 g3 g4
              have BX := hid (BoxAt.new wrL7 41 #[.bool x0, .int .i64 x1, .int .i64 x2, .int .i64 x3, .int .i64 x4])
              have hb9 : Below w0.heap.size w0 (wrL7.alloc (.cells #[.bool x0, .int .i64 x1, .int .i64 x2, .int .i64 x3, .int .i64 x4] 41)) := hbel.alloc hbel.size _
              have hk9 : Below wrL7.heap.size wrL7 (wrL7.alloc (.cells #[.bool x0, .int .i64 x1, .int .i64 x2, .int .i64 x3, .int .i64 x4] 41)) := (Below.refl _ _).alloc (Nat.le_refl _) _
              have HO9 := hid (HO.out.below hk9)
              have HLT := hid (fun k hk => (HO.out.lt k hk).2)
              generalize hW9 : wrL7.alloc (.cells #[.bool x0, .int .i64 x1, .int .i64 x2, .int .i64 x3, .int .i64 x4] 41) = W9 at *
              have hz9 : wrL7.heap.size < W9.heap.size := by rw [← hW9]; simp
              clear hW9
              have MB := hid (show ∀ w', BoxAt w' wrL7.heap.size 41 #[.bool x0, .int .i64 x1, .int .i64 x2, .int .i64 x3, .int .i64 x4] → w'.cell? ⟨wrL7.heap.size, 0, none⟩ = some (.bool x0) ∧ w'.cell? ⟨wrL7.heap.size, 1, none⟩ = some (.int .i64 x1) ∧ w'.cell? ⟨wrL7.heap.size, 2, none⟩ = some (.int .i64 x2) ∧ w'.cell? ⟨wrL7.heap.size, 3, none⟩ = some (.int .i64 x3) ∧ w'.cell? ⟨wrL7.heap.size, 4, none⟩ = some (.int .i64 x4) from fun w' h => ⟨(h.cell 0).trans rfl, (h.cell 1).trans rfl, (h.cell 2).trans rfl, (h.cell 3).trans rfl, (h.cell 4).trans rfl⟩)
              refine wp_region_held_drew (S := (fun w' => w'.cell? ⟨wrL7.heap.size, 0, none⟩ = some (.bool x0) ∧ w'.cell? ⟨wrL7.heap.size, 1, none⟩ = some (.int .i64 x1) ∧ w'.cell? ⟨wrL7.heap.size, 2, none⟩ = some (.int .i64 x2) ∧ w'.cell? ⟨wrL7.heap.size, 3, none⟩ = some (.int .i64 x3) ∧ w'.cell? ⟨wrL7.heap.size, 4, none⟩ = some (.int .i64 x4))) (by kernel_rfl) (MB.out _ BX.out.drew) (fun hHeld => ?_)
              refine wpAnyH_take (i := 0) (oi := { dst := some 99, op := Op.move (Operand.tmp 5), type := 22, pos := "ref.go:217", after := #[], guard := none }) (v := ?_) rfl (by kernel_rfl) (by kernel_rfl) (by kernel_rfl) (fun _ _ _ h => h) (Or.inl ⟨by rfl, ?_⟩) (by assumption) ?_
              rotate_left
              · (intro w hSw; (try dsimp only at hSw); go_simp; try with_reducible rfl)
              simp only [Act.put, List.setIfInBounds_toArray, List.set_cons_zero, List.set_cons_succ]
              refine wpAnyH_take (i := 1) (oi := { dst := some 100, op := Op.fieldAddr 41 (Operand.tmp 9) 0, type := 0, pos := "ref.go:217", after := #[], guard := none }) (v := ?_) rfl (by kernel_rfl) (by kernel_rfl) (by kernel_rfl) (fun _ _ _ h => h) (Or.inl ⟨by rfl, ?_⟩) (by assumption) ?_
              rotate_left
              · (intro w hSw; (try dsimp only at hSw); go_simp; try with_reducible rfl)
              simp only [Act.put, List.setIfInBounds_toArray, List.set_cons_zero, List.set_cons_succ]
              refine wpAnyH_take (i := 2) (oi := { dst := some 101, op := Op.load 4 (Operand.tmp 100), type := 4, pos := "ref.go:217", after := #[{ on := 1, ground := Ground.data }], guard := none }) (v := ?_) rfl (by kernel_rfl) (by kernel_rfl) (by kernel_rfl) (fun _ _ _ h => h) (Or.inl ⟨by rfl, ?_⟩) (by assumption) ?_
              rotate_left
              · (intro w hSw; (try dsimp only at hSw); go_simp; try with_reducible rfl)
              simp only [Act.put, List.setIfInBounds_toArray, List.set_cons_zero, List.set_cons_succ]
              refine wpAnyH_take (i := 4) (oi := { dst := some 103, op := Op.fieldAddr 41 (Operand.tmp 9) 1, type := 0, pos := "ref.go:217", after := #[], guard := none }) (v := ?_) rfl (by kernel_rfl) (by kernel_rfl) (by kernel_rfl) (fun _ _ _ h => h) (Or.inl ⟨by rfl, ?_⟩) (by assumption) ?_
              rotate_left
              · (intro w hSw; (try dsimp only at hSw); go_simp; try with_reducible rfl)
              simp only [Act.put, List.setIfInBounds_toArray, List.set_cons_zero, List.set_cons_succ]
              refine wpAnyH_take (i := 5) (oi := { dst := some 104, op := Op.load 3 (Operand.tmp 103), type := 3, pos := "ref.go:217", after := #[{ on := 4, ground := Ground.data }], guard := none }) (v := ?_) rfl (by kernel_rfl) (by kernel_rfl) (by kernel_rfl) (fun _ _ _ h => h) (Or.inl ⟨by rfl, ?_⟩) (by assumption) ?_
              rotate_left
              · (intro w hSw; (try dsimp only at hSw); go_simp; try with_reducible rfl)
              simp only [Act.put, List.setIfInBounds_toArray, List.set_cons_zero, List.set_cons_succ]
              refine wpAnyH_take (i := 6) (oi := { dst := some 105, op := Op.fieldAddr 41 (Operand.tmp 9) 2, type := 0, pos := "ref.go:217", after := #[], guard := none }) (v := ?_) rfl (by kernel_rfl) (by kernel_rfl) (by kernel_rfl) (fun _ _ _ h => h) (Or.inl ⟨by rfl, ?_⟩) (by assumption) ?_
              rotate_left
              · (intro w hSw; (try dsimp only at hSw); go_simp; try with_reducible rfl)
              simp only [Act.put, List.setIfInBounds_toArray, List.set_cons_zero, List.set_cons_succ]
              refine wpAnyH_take (i := 7) (oi := { dst := some 106, op := Op.load 3 (Operand.tmp 105), type := 3, pos := "ref.go:217", after := #[{ on := 6, ground := Ground.data }], guard := none }) (v := ?_) rfl (by kernel_rfl) (by kernel_rfl) (by kernel_rfl) (fun _ _ _ h => h) (Or.inl ⟨by rfl, ?_⟩) (by assumption) ?_
              rotate_left
              · (intro w hSw; (try dsimp only at hSw); go_simp; try with_reducible rfl)
              simp only [Act.put, List.setIfInBounds_toArray, List.set_cons_zero, List.set_cons_succ]
              refine wpAnyH_take (i := 8) (oi := { dst := some 107, op := Op.fieldAddr 41 (Operand.tmp 9) 3, type := 0, pos := "ref.go:217", after := #[], guard := none }) (v := ?_) rfl (by kernel_rfl) (by kernel_rfl) (by kernel_rfl) (fun _ _ _ h => h) (Or.inl ⟨by rfl, ?_⟩) (by assumption) ?_
              rotate_left
              · (intro w hSw; (try dsimp only at hSw); go_simp; try with_reducible rfl)
              simp only [Act.put, List.setIfInBounds_toArray, List.set_cons_zero, List.set_cons_succ]
              refine wpAnyH_take (i := 9) (oi := { dst := some 108, op := Op.load 3 (Operand.tmp 107), type := 3, pos := "ref.go:217", after := #[{ on := 8, ground := Ground.data }], guard := none }) (v := ?_) rfl (by kernel_rfl) (by kernel_rfl) (by kernel_rfl) (fun _ _ _ h => h) (Or.inl ⟨by rfl, ?_⟩) (by assumption) ?_
              rotate_left
              · (intro w hSw; (try dsimp only at hSw); go_simp; try with_reducible rfl)
              simp only [Act.put, List.setIfInBounds_toArray, List.set_cons_zero, List.set_cons_succ]
              refine wpAnyH_take (i := 10) (oi := { dst := some 109, op := Op.fieldAddr 41 (Operand.tmp 9) 4, type := 0, pos := "ref.go:217", after := #[], guard := none }) (v := ?_) rfl (by kernel_rfl) (by kernel_rfl) (by kernel_rfl) (fun _ _ _ h => h) (Or.inl ⟨by rfl, ?_⟩) (by assumption) ?_
              rotate_left
              · (intro w hSw; (try dsimp only at hSw); go_simp; try with_reducible rfl)
              simp only [Act.put, List.setIfInBounds_toArray, List.set_cons_zero, List.set_cons_succ]
              refine wpAnyH_take (i := 11) (oi := { dst := some 110, op := Op.load 3 (Operand.tmp 109), type := 3, pos := "ref.go:217", after := #[{ on := 10, ground := Ground.data }], guard := none }) (v := ?_) rfl (by kernel_rfl) (by kernel_rfl) (by kernel_rfl) (fun _ _ _ h => h) (Or.inl ⟨by rfl, ?_⟩) (by assumption) ?_
              rotate_left
              · (intro w hSw; (try dsimp only at hSw); go_simp; try with_reducible rfl)
              simp only [Act.put, List.setIfInBounds_toArray, List.set_cons_zero, List.set_cons_succ]
              refine wpAnyH_ready (rs := [3]) (by kernel_rfl) (by simp) (AllReadyH.cons (o := { dst := some 102, op := Op.call { callee := Callee.value (Operand.func 35), args := #[Operand.tmp 101], argTypes := #[4] }, type := 3, pos := "ref.go:217", after := #[{ on := 2, ground := Ground.data }], guard := none }) rfl (fun K6012 hK6012 => ?_) AllReadyH.nil)
              go_simp
              refine (rbit_any x0 _).mono ?_
              rintro _ _ ⟨rfl, rfl⟩
              refine hK6012.out _ _ (hHeld) (fun hHeld6012 => ?_)
              clear hK6012 K6012
              try simp only [Act.put, List.setIfInBounds_toArray, List.set_cons_zero, List.set_cons_succ]
              refine wpAnyH_ready (rs := [12]) (by kernel_rfl) (by simp) (AllReadyH.cons (o := { dst := some 111, op := Op.buildSlice 22 5 #[(0, Operand.tmp 102), (1, Operand.tmp 104), (2, Operand.tmp 106), (3, Operand.tmp 108), (4, Operand.tmp 110)], type := 22, pos := "ref.go:217", after := #[{ on := 3, ground := Ground.data }, { on := 5, ground := Ground.data }, { on := 7, ground := Ground.data }, { on := 9, ground := Ground.data }, { on := 11, ground := Ground.data }], guard := none }) rfl (fun K6013 hK6013 => ?_) AllReadyH.nil)
              go_simp
              have hk1 : Below W9.heap.size W9 (W9.drew.alloc (.cells #[.int .i64 (bitI x0), .int .i64 x1, .int .i64 x2, .int .i64 x3, .int .i64 x4] 3)) := (Below.refl _ _).drew.alloc (Nat.le_refl _) _
              have hb1 : Below w0.heap.size w0 (W9.drew.alloc (.cells #[.int .i64 (bitI x0), .int .i64 x1, .int .i64 x2, .int .i64 x3, .int .i64 x4] 3)) := hb9.trans (hk1.mono hb9.size)
              have HO1 := hid (HO9.out.below hk1)
              have HS1 := hid (show Sees (W9.drew.alloc (.cells #[.int .i64 (bitI x0), .int .i64 x1, .int .i64 x2, .int .i64 x3, .int .i64 x4] 3)) .i64 (.slice (some ⟨W9.heap.size, 0, none⟩) 5 5) [bitI x0, x1, x2, x3, x4] from Sees.box (ys := [bitI x0, x1, x2, x3, x4]) (BoxAt.new W9.drew 3 #[.int .i64 (bitI x0), .int .i64 x1, .int .i64 x2, .int .i64 x3, .int .i64 x4]) (by simp))
              have BX1 := hid (BX.out.belowAll hk1)
              refine hK6013.out _ _ (MB.out _ BX1.out) (fun hHeld6013 => ?_)
              clear hK6013 K6013
              try simp only [Act.put, List.setIfInBounds_toArray, List.set_cons_zero, List.set_cons_succ]
              refine wpAnyH_ready (rs := [13]) (by kernel_rfl) (by simp) (AllReadyH.cons (o := { dst := some 112, op := Op.call { callee := Callee.builtin Builtin.append, args := #[Operand.tmp 99, Operand.tmp 111], argTypes := #[22, 22] }, type := 22, pos := "ref.go:217", after := #[{ on := 0, ground := Ground.data }, { on := 12, ground := Ground.data }, { on := 3, ground := Ground.chain }], guard := none }) rfl (fun K6014 hK6014 => ?_) AllReadyH.nil)
              refine step_app_ints rfl (.tmp 99) (.tmp 111) rfl w0.heap.size _ M rfl HO1.out _ [bitI x0, x1, x2, x3, x4] rfl HS1.out HMB.out hb1.size ?_
              intro v2 w2 ho2 hg2 hb2
              have hbw2 := hb1.trans hb2
              have HO2 := hid ho2
              have BX2 := hid (BX1.out.grown hg2 (fun e => by have := HLT.out _ e.symm; omega))
              clear ho2 hg2 hb2 hb1 HO1 HS1 hk1
              refine hK6014.out _ _ (MB.out _ BX2.out) (fun hHeld6014 => ?_)
              clear hK6014 K6014
              try simp only [Act.put, List.setIfInBounds_toArray, List.set_cons_zero, List.set_cons_succ]
              refine wpAnyH_take (i := 14) (oi := { dst := some 5, op := Op.assign (Operand.tmp 112), type := 22, pos := "ref.go:217", after := #[{ on := 13, ground := Ground.data }, { on := 13, ground := Ground.chain }, { on := 0, ground := Ground.phase }, { on := 1, ground := Ground.phase }, { on := 2, ground := Ground.phase }, { on := 3, ground := Ground.phase }, { on := 4, ground := Ground.phase }, { on := 5, ground := Ground.phase }, { on := 6, ground := Ground.phase }, { on := 7, ground := Ground.phase }, { on := 8, ground := Ground.phase }, { on := 9, ground := Ground.phase }, { on := 10, ground := Ground.phase }, { on := 11, ground := Ground.phase }, { on := 12, ground := Ground.phase }, { on := 13, ground := Ground.phase }], guard := none }) (v := ?_) rfl (by kernel_rfl) (by kernel_rfl) (by kernel_rfl) (fun _ _ _ h => h) (Or.inl ⟨by rfl, ?_⟩) (by assumption) ?_
              rotate_left
              · (intro w hSw; (try dsimp only at hSw); go_simp; try with_reducible rfl)
              simp only [Act.put, List.setIfInBounds_toArray, List.set_cons_zero, List.set_cons_succ]
              refine wpAnyH_done (by kernel_rfl) ?_ _
              clear hHeld hHeld6012 hHeld6013 hHeld6014
              have HNM := hid (show M ++ [bitI x0, x1, x2, x3, x4] = L7 ++ (c.ch.take (i + 1)).flatMap flCh by rw [HM.out, HS.out, List.append_assoc]; rfl)
              have HNL := hid (show (M ++ [bitI x0, x1, x2, x3, x4]).length = L7.length + 5 * (i + 1) by rw [List.length_append, hMl]; simp only [List.length_cons, List.length_nil]; omega)
              clear MK HM HS HO
              go_wp2
              go_roundw
              case rel => exact ⟨i + 1, _, by omega, by go_num, HO2.out, HNM.out, HNL.out, hbw2⟩
              case measure => simp [intOf]; omega
            · have hMe : M = L7 ++ c.ch.flatMap flCh := by rw [HM.out, List.take_of_length_le (by rw [← HN4.out]; omega)]
              have HEL8 := hid hMe
              have hLbL8 : M.length ≤ L7.length + 5 * n4 := by rw [hMl]; exact Nat.add_le_add_left (Nat.mul_le_mul_left _ hi) _
              have HOL8 := HO
              have HBL8 := hid hbel
              clear HM HO hMe hMl
              rename List Int => L8
              have HFL := hid (show L8 = flCf c by rw [HEL8.out, HEL7.out, HEL6.out, HEL5.out, HEL4.out, HEL3.out, HEL2.out, HEL1.out, HN2.out, HN3.out, HN4.out]; simp only [flCf, cntF, List.append_assoc, List.cons_append, List.nil_append])
              have HOF := hid (show Sees wrL7 .i64 _ (flCf c) by have h := HOL8.out; rw [HFL.out] at h; exact h.sees)
              go_wp2_with fail
              refine (rputAll_any _ (flCf c) _ HOF.out (by have := HQ.out.2; omega)).mono ?_
              rintro e w9 ⟨u, rfl, hown, hb9⟩
              have HR := hid (show w9.ownsRow w.heap.size 5 1 u (encB c).length ((encB c).map (Value.int .u8)) by rw [HE2.out]; exact World.ownsRow.mono hown (by have := hbel.size; omega))
              have HRB := hid (HB.out.trans ((hbel.trans (hb9.mono hbel.size)).mono HB.out.size))
              rw [← HE1.out]
              clear hown hb9 HOF HFL
              go_wp2
              go_ret2
              exact ⟨_, rfl, HR.out, HRB.out⟩

set_option maxRecDepth 100000 in
set_option maxHeartbeats 1600000 in
theorem rsame_true (q q2 : Cv) (c d : Cf) (w : World) (hS : CfAt w q c) (hD : CfAt w q2 d) (hf : c.fit) (hg : d.fit) (h1 : encE c = encE d) (h2 : encB c = encB d) :
    Calls Try.prog 22 #[q.val, q2.val] w fun e w' => e = .returned (.bool true) ∧ Below w.heap.size w w' := by
  obtain ⟨fr, sw, ⟨a1, n1, k1⟩, ⟨a2, n2, k2⟩, ⟨a3, n3, k3⟩, ⟨a4, n4, k4⟩⟩ := q
  obtain ⟨gr, gw, ⟨b1, m1, j1⟩, ⟨b2, m2, j2⟩, ⟨b3, m3, j3⟩, ⟨b4, m4, j4⟩⟩ := q2
  have hB : Below w.heap.size w ((w.alloc (.cells #[.int .i64 fr, .int .i64 sw, .slice a1 n1 k1, .slice a2 n2 k2, .slice a3 n3 k3, .slice a4 n4 k4] 27)).alloc (.cells #[.int .i64 gr, .int .i64 gw, .slice b1 m1 j1, .slice b2 m2 j2, .slice b3 m3 j3, .slice b4 m4 j4] 27)) := ((Below.refl _ _).alloc (Nat.le_refl _) _).alloc (by simp) _
  have HB := hid hB
  have HX := hid ((BoxAt.new w 27 #[.int .i64 fr, .int .i64 sw, .slice a1 n1 k1, .slice a2 n2 k2, .slice a3 n3 k3, .slice a4 n4 k4]).alloc (.cells #[.int .i64 gr, .int .i64 gw, .slice b1 m1 j1, .slice b2 m2 j2, .slice b3 m3 j3, .slice b4 m4 j4] 27))
  have HY := hid (show BoxAt ((w.alloc (.cells #[.int .i64 fr, .int .i64 sw, .slice a1 n1 k1, .slice a2 n2 k2, .slice a3 n3 k3, .slice a4 n4 k4] 27)).alloc (.cells #[.int .i64 gr, .int .i64 gw, .slice b1 m1 j1, .slice b2 m2 j2, .slice b3 m3 j3, .slice b4 m4 j4] 27)) (w.heap.size + 1) 27 #[.int .i64 gr, .int .i64 gw, .slice b1 m1 j1, .slice b2 m2 j2, .slice b3 m3 j3, .slice b4 m4 j4] by
    have := BoxAt.new (w.alloc (.cells #[.int .i64 fr, .int .i64 sw, .slice a1 n1 k1, .slice a2 n2 k2, .slice a3 n3 k3, .slice a4 n4 k4] 27)) 27 #[.int .i64 gr, .int .i64 gw, .slice b1 m1 j1, .slice b2 m2 j2, .slice b3 m3 j3, .slice b4 m4 j4]
    simpa using this)
  have HS := hid (hS.below hB)
  have HD := hid (hD.below hB)
  have HF := hid (And.intro hf (And.intro hg (And.intro h1 h2)))
  clear hB hS hD hf hg h1 h2
  unfold Cv.val
  simp only
  go_enter Try.func22, Try.ntmps22
  go_wp2_with fail
  refine (renc_any ⟨fr, sw, ⟨a1, n1, k1⟩, ⟨a2, n2, k2⟩, ⟨a3, n3, k3⟩, ⟨a4, n4, k4⟩⟩ c _ HS.out HF.out.1).mono ?_
  rintro e w1 ⟨u, rfl, ho1, hb1⟩
  have c0 := ((HY.out.belowAll hb1).cell 0).trans rfl
  have c1 := ((HY.out.belowAll hb1).cell 1).trans rfl
  have c2 := ((HY.out.belowAll hb1).cell 2).trans rfl
  have c3 := ((HY.out.belowAll hb1).cell 3).trans rfl
  have c4 := ((HY.out.belowAll hb1).cell 4).trans rfl
  have c5 := ((HY.out.belowAll hb1).cell 5).trans rfl
  have HO1 := hid ho1
  have HB1 := hid hb1
  clear ho1 hb1
  rw [HF.out.2.2.1]
  obtain ⟨ee, hee⟩ : ∃ x, encE d = x := ⟨_, rfl⟩
  rw [hee]
  have HE := hid hee
  clear hee
  go_wp2_with fail
  refine (renc_any ⟨gr, gw, ⟨b1, m1, j1⟩, ⟨b2, m2, j2⟩, ⟨b3, m3, j3⟩, ⟨b4, m4, j4⟩⟩ d _ (HD.out.below HB1.out) HF.out.2.1).mono ?_
  rintro e w2 ⟨u2, rfl, ho2, hb2⟩
  have ho1 := owns_below HO1.out hb2
  rw [HF.out.2.2.2] at ho1
  have s1 : (convert 30 9 u).run Try.prog w2 = .ok (.string (strOfNums (encB d))) w2 := (Sees.of_owns ho1).str _ _ _ Try.underlying30 Try.underlying5 Try.underlying9
  have s2 : (convert 30 9 u2).run Try.prog w2 = .ok (.string (strOfNums (encB d))) w2 := (Sees.of_owns ho2).str _ _ _ Try.underlying30 Try.underlying5 Try.underlying9
  have HR := hid (show Below w.heap.size w w2 from HB.out.trans ((HB1.out.trans (hb2.mono HB1.out.size)).mono HB.out.size))
  clear ho1 ho2 hb2 HO1 HB1 HX HY HS HD c0 c1 c2 c3 c4 c5
  generalize strOfNums (encB d) = ss at *
  have he := HE.out
  rw [he]
  clear he
  go_wp2
  go_ret
  exact ⟨rfl, HR.out⟩
end Go.Proofs.Ytfdoejdnhogepaa
