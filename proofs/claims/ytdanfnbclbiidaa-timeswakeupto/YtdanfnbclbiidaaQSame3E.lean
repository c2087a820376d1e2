/-
  What the document's Same returns: that there is an answer, and that it is yes where two partitions are the same.
-/
import Derived.Test.YtdanfnbclbiidaaQSame2E
import Derived.BigQuiet
import Derived.Deep.RegionHeld3
namespace Go.Proofs.Ytdanfnbclbiidaa
open Go.RowKit
set_option linter.unusedVariables false


set_option maxRecDepth 100000 in
set_option maxHeartbeats 6400000 in
theorem same_eq {q1 q2 : PaV} {c1 : Pa} {w : World} (h1 : PaAt w q1 c1) (h2 : PaAt w q2 c1) :
    Calls Try.prog 11 #[q1.val, q2.val] w fun e w' => e = .returned (.bool true) ∧ Below w.heap.size w w' := by
  have H1 := hid h1
  have H2 := hid h2
  clear h1 h2
  obtain ⟨apr1, cppr1, hvpr1, hcpr1, hmpr1, hepr1⟩ := (H1.out).pr.form
  unfold maxLen at hmpr1
  have HVpr1 := hid hvpr1
  have HEpr1 := hid hepr1
  have hbpr1 : c1.pr.length ≤ 9223372036854775807 := by omega
  clear hvpr1 hepr1 hcpr1 hmpr1
  obtain ⟨apr2, cppr2, hvpr2, hcpr2, hmpr2, hepr2⟩ := (H2.out).pr.form
  unfold maxLen at hmpr2
  have HVpr2 := hid hvpr2
  have HEpr2 := hid hepr2
  have hbpr2 : c1.pr.length ≤ 9223372036854775807 := by omega
  clear hvpr2 hepr2 hcpr2 hmpr2
  obtain ⟨asa1, cpsa1, hvsa1, hcsa1, hmsa1, hesa1⟩ := (H1.out).sa.form
  unfold maxLen at hmsa1
  have HVsa1 := hid hvsa1
  have HEsa1 := hid hesa1
  have hbsa1 : c1.sa.length ≤ 9223372036854775807 := by omega
  clear hvsa1 hesa1 hcsa1 hmsa1
  obtain ⟨asa2, cpsa2, hvsa2, hcsa2, hmsa2, hesa2⟩ := (H2.out).sa.form
  unfold maxLen at hmsa2
  have HVsa2 := hid hvsa2
  have HEsa2 := hid hesa2
  have hbsa2 : c1.sa.length ≤ 9223372036854775807 := by omega
  clear hvsa2 hesa2 hcsa2 hmsa2
  obtain ⟨rsqu1, hsqu1, hnqu1, hatqu1⟩ := (H1.out).qu
  obtain ⟨aqu1, cpqu1, hvqu1, hcqu1, hmqu1, hequ1⟩ := hsqu1.form
  unfold maxLen at hmqu1
  have HVqu1 := hid hvqu1
  have HEqu1 := hid hequ1
  have HAqu1 := hid hatqu1
  have HNqu1 := hid hnqu1
  clear hsqu1 hnqu1 hatqu1
  have hbqu1 : rsqu1.length ≤ 9223372036854775807 := by omega
  clear hvqu1 hequ1 hcqu1 hmqu1
  obtain ⟨rsqu2, hsqu2, hnqu2, hatqu2⟩ := (H2.out).qu
  obtain ⟨aqu2, cpqu2, hvqu2, hcqu2, hmqu2, hequ2⟩ := hsqu2.form
  unfold maxLen at hmqu2
  have HVqu2 := hid hvqu2
  have HEqu2 := hid hequ2
  have HAqu2 := hid hatqu2
  have HNqu2 := hid hnqu2
  clear hsqu2 hnqu2 hatqu2
  have hbqu2 : rsqu2.length ≤ 9223372036854775807 := by omega
  clear hvqu2 hequ2 hcqu2 hmqu2
  have hcb0 : (q1.md != q2.md) = false := by rw [show q1.md = q2.md by rw [H1.out.md, H2.out.md]]; simp
  have hcb1 : (q1.bg != q2.bg) = false := by rw [show q1.bg = q2.bg by rw [H1.out.bg, H2.out.bg]]; simp
  have hcb2 : (q1.nx != q2.nx) = false := by rw [show q1.nx = q2.nx by rw [H1.out.nx, H2.out.nx]]; simp
  have hc3 : c1.pr.length = c1.pr.length := rfl
  have hcb3 : ((c1.pr.length : Int) != (c1.pr.length : Int)) = false := by simp
  have hc4 : c1.sa.length = c1.sa.length := rfl
  have hcb4 : ((c1.sa.length : Int) != (c1.sa.length : Int)) = false := by simp
  have hc5 : rsqu1.length = rsqu2.length := by have h1 := HNqu1.out; have h2 := HNqu2.out; omega
  have hcb5 : ((rsqu1.length : Int) != (rsqu2.length : Int)) = false := by simp; omega
  have HLpr := hid hc3
  clear hc3
  have HLsa := hid hc4
  clear hc4
  have HLqu := hid hc5
  clear hc5
  go_enter Try.func11, Try.ntmps11
  go_wp2_with (first
  | (refine wpList_box rfl 39 (.tmp 0) rfl q1.cells.toArray rfl ?_
     intro w1 b1 h1 z1
     have B1 := hid (show PaB w1 w.heap.size q1 from b1)
     have HBc := hid h1
     clear b1 h1)
  | (refine wpList_box rfl 39 (.tmp 1) rfl q2.cells.toArray rfl ?_
     intro w2 b2 h2 z2
     rw [z1] at b2
     have B2 := hid (show PaB w2 (w.heap.size + 1) q2 from b2)
     have B1 := hid (show PaB w2 w.heap.size q1 from BoxAt.belowAll B1.out h2)
     have HB2 := hid (HBc.out.trans (h2.mono (by omega)))
     have HW := hid (Below.refl w2.heap.size w2)
     have HHpr1 := hid (show ∀ W, Below w2.heap.size w2 W → W.cell? ⟨w.heap.size, 4, none⟩ = some (.slice apr1 c1.pr.length cppr1) from fun W hW => (BoxAt.cell (BoxAt.belowAll B1.out hW) 4).trans (by show some q1.pr.val = _; rw [HVpr1.out]))
     have kzpr1 := HHpr1.out w2 (Below.refl _ _)
     have HHpr2 := hid (show ∀ W, Below w2.heap.size w2 W → W.cell? ⟨(w.heap.size + 1), 4, none⟩ = some (.slice apr2 c1.pr.length cppr2) from fun W hW => (BoxAt.cell (BoxAt.belowAll B2.out hW) 4).trans (by show some q2.pr.val = _; rw [HVpr2.out]))
     have kzpr2 := HHpr2.out w2 (Below.refl _ _)
     have HHsa1 := hid (show ∀ W, Below w2.heap.size w2 W → W.cell? ⟨w.heap.size, 9, none⟩ = some (.slice asa1 c1.sa.length cpsa1) from fun W hW => (BoxAt.cell (BoxAt.belowAll B1.out hW) 9).trans (by show some q1.sa.val = _; rw [HVsa1.out]))
     have kzsa1 := HHsa1.out w2 (Below.refl _ _)
     have HHsa2 := hid (show ∀ W, Below w2.heap.size w2 W → W.cell? ⟨(w.heap.size + 1), 9, none⟩ = some (.slice asa2 c1.sa.length cpsa2) from fun W hW => (BoxAt.cell (BoxAt.belowAll B2.out hW) 9).trans (by show some q2.sa.val = _; rw [HVsa2.out]))
     have kzsa2 := HHsa2.out w2 (Below.refl _ _)
     have HHqu1 := hid (show ∀ W, Below w2.heap.size w2 W → W.cell? ⟨w.heap.size, 10, none⟩ = some (.slice aqu1 rsqu1.length cpqu1) from fun W hW => (BoxAt.cell (BoxAt.belowAll B1.out hW) 10).trans (by show some q1.qu.val = _; rw [HVqu1.out]))
     have kzqu1 := HHqu1.out w2 (Below.refl _ _)
     have HHqu2 := hid (show ∀ W, Below w2.heap.size w2 W → W.cell? ⟨(w.heap.size + 1), 10, none⟩ = some (.slice aqu2 rsqu2.length cpqu2) from fun W hW => (BoxAt.cell (BoxAt.belowAll B2.out hW) 10).trans (by show some q2.qu.val = _; rw [HVqu2.out]))
     have kzqu2 := HHqu2.out w2 (Below.refl _ _)
     have ksmd1 : w2.cell? ⟨w.heap.size, 0, none⟩ = some (.int .i64 q1.md) := (BoxAt.cell B1.out 0).trans rfl
     have ksmd2 : w2.cell? ⟨(w.heap.size + 1), 0, none⟩ = some (.int .i64 q2.md) := (BoxAt.cell B2.out 0).trans rfl
     have ksbg1 : w2.cell? ⟨w.heap.size, 1, none⟩ = some (.int .i64 q1.bg) := (BoxAt.cell B1.out 1).trans rfl
     have ksbg2 : w2.cell? ⟨(w.heap.size + 1), 1, none⟩ = some (.int .i64 q2.bg) := (BoxAt.cell B2.out 1).trans rfl
     have ksnx1 : w2.cell? ⟨w.heap.size, 2, none⟩ = some (.int .i64 q1.nx) := (BoxAt.cell B1.out 2).trans rfl
     have ksnx2 : w2.cell? ⟨(w.heap.size + 1), 2, none⟩ = some (.int .i64 q2.nx) := (BoxAt.cell B2.out 2).trans rfl
     clear b2 h2))
  go_loopw [5] (fun i wr => ∃ k : Nat, k ≤ c1.pr.length ∧ i = .int .i64 k ∧ Below w2.heap.size w2 wr) (fun i _ => c1.pr.length - (intOf i).toNat)
  case atStart => exact ⟨0, by omega, rfl, HW.out⟩
  case round =>
    obtain ⟨k, hk, rfl, hbel⟩ := hrel
    have kh1 := HHpr1.out wr hbel
    have kh2 := HHpr2.out wr hbel
    by_cases hlt : k < c1.pr.length
    · have hlt2 : k < c1.pr.length := by have := HLpr.out; omega
      have HLt := hid hlt
      obtain ⟨b1, o1, rfl, hw1, hce1⟩ := HEpr1.out (by omega)
      have HX1 := hid (show ∀ W, Below w2.heap.size w2 W → W.rangeAt b1 (o1 + k * 18) (c1.pr.getD k Px.zero).cells from fun W hW => range_of2 _ fun j hj => ((HB2.out.trans (hW.mono HB2.out.size)).cell (by exact hw1)).trans (hce1 k hlt j hj))
      have HY1 := HHpr1
      obtain ⟨b2, o2, rfl, hw2, hce2⟩ := HEpr2.out (by omega)
      have HX2 := hid (show ∀ W, Below w2.heap.size w2 W → W.rangeAt b2 (o2 + k * 18) (c1.pr.getD k Px.zero).cells from fun W hW => range_of2 _ fun j hj => ((HB2.out.trans (hW.mono HB2.out.size)).cell (by exact hw2)).trans (hce2 k hlt2 j hj))
      have HY2 := HHpr2
      clear hce1 hce2
      generalize c1.pr.getD k Px.zero = x at HX1 HX2
      obtain ⟨B, hnq, hB⟩ := eq_Px x x
      obtain rfl : B = true := hB rfl
      have HNq := hid hnq
      clear hnq hB
      go_wp2_with fail
      refine wp_region_held_drew (S := (fun W => Below w2.heap.size w2 W)) (by kernel_rfl) (Below.drew hbel) (fun hHeld => ?_)
      refine wpAnyH_take (i := 0) (oi := { dst := some 66, op := Op.fieldAddr 39 (Operand.tmp 2) 4, type := 0, pos := "ref.go:270", after := #[], guard := none }) (v := ?v2801) rfl (by kernel_rfl) (by kernel_rfl) (by kernel_rfl) (fun _ _ _ h => h) (Or.inl ⟨by rfl, ?hy2801⟩) (by assumption) ?rest2801
      case hy2801 => (intro w hSw; (try dsimp only at hSw); go_simp; try with_reducible rfl)
      simp only [Act.put, List.setIfInBounds_toArray, List.set_cons_zero, List.set_cons_succ]
      refine wpAnyH_take (i := 1) (oi := { dst := some 67, op := Op.load 29 (Operand.tmp 66), type := 29, pos := "ref.go:270", after := #[{ on := 0, ground := Ground.data }], guard := none }) (v := ?v2802) rfl (by kernel_rfl) (by kernel_rfl) (by kernel_rfl) (fun _ _ _ h => h) (Or.inl ⟨by rfl, ?hy2802⟩) (by assumption) ?rest2802
      case hy2802 => (intro W hSw; (try dsimp only at hSw); have e1 := HY1.out W hSw; have e2 := HY2.out W hSw; go_simp; try with_reducible rfl)
      simp only [Act.put, List.setIfInBounds_toArray, List.set_cons_zero, List.set_cons_succ]
      refine wpAnyH_take (i := 2) (oi := { dst := some 68, op := Op.move (Operand.tmp 5), type := 3, pos := "ref.go:270", after := #[], guard := none }) (v := ?v2803) rfl (by kernel_rfl) (by kernel_rfl) (by kernel_rfl) (fun _ _ _ h => h) (Or.inl ⟨by rfl, ?hy2803⟩) (by assumption) ?rest2803
      case hy2803 => (intro w hSw; (try dsimp only at hSw); go_simp; try with_reducible rfl)
      simp only [Act.put, List.setIfInBounds_toArray, List.set_cons_zero, List.set_cons_succ]
      refine wpAnyH_take (i := 3) (oi := { dst := some 69, op := Op.indexAddr 29 (Operand.tmp 67) (Operand.tmp 68), type := 0, pos := "ref.go:270", after := #[{ on := 1, ground := Ground.data }, { on := 2, ground := Ground.data }], guard := none }) (v := ?v2804) rfl (by kernel_rfl) (by kernel_rfl) (by kernel_rfl) (fun _ _ _ h => h) (Or.inl ⟨by rfl, ?hy2804⟩) (by assumption) ?rest2804
      case hy2804 => (intro w hSw; (try dsimp only at hSw); go_simp; try with_reducible rfl)
      simp only [Act.put, List.setIfInBounds_toArray, List.set_cons_zero, List.set_cons_succ]
      refine wpAnyH_take (i := 4) (oi := { dst := some 70, op := Op.load 57 (Operand.tmp 69), type := 57, pos := "ref.go:270", after := #[{ on := 3, ground := Ground.data }], guard := none }) (v := ?v2805) rfl (by kernel_rfl) (by kernel_rfl) (by kernel_rfl) (fun _ _ _ h => h) (Or.inl ⟨by rfl, ?hy2805⟩) (by assumption) ?rest2805
      case hy2805 => (intro W hSw; refine el_yields 57 (.tmp 69) ?_ b1 (o1 + k * 18) ?_ x.cells _ Try.underlying57 Try.infoPx (HX1.out W hSw) <;> rfl)
      simp only [Act.put, List.setIfInBounds_toArray, List.set_cons_zero, List.set_cons_succ]
      refine wpAnyH_take (i := 5) (oi := { dst := some 71, op := Op.fieldAddr 39 (Operand.tmp 3) 4, type := 0, pos := "ref.go:270", after := #[], guard := none }) (v := ?v2806) rfl (by kernel_rfl) (by kernel_rfl) (by kernel_rfl) (fun _ _ _ h => h) (Or.inl ⟨by rfl, ?hy2806⟩) (by assumption) ?rest2806
      case hy2806 => (intro w hSw; (try dsimp only at hSw); go_simp; try with_reducible rfl)
      simp only [Act.put, List.setIfInBounds_toArray, List.set_cons_zero, List.set_cons_succ]
      refine wpAnyH_take (i := 6) (oi := { dst := some 72, op := Op.load 29 (Operand.tmp 71), type := 29, pos := "ref.go:270", after := #[{ on := 5, ground := Ground.data }], guard := none }) (v := ?v2807) rfl (by kernel_rfl) (by kernel_rfl) (by kernel_rfl) (fun _ _ _ h => h) (Or.inl ⟨by rfl, ?hy2807⟩) (by assumption) ?rest2807
      case hy2807 => (intro W hSw; (try dsimp only at hSw); have e1 := HY1.out W hSw; have e2 := HY2.out W hSw; go_simp; try with_reducible rfl)
      simp only [Act.put, List.setIfInBounds_toArray, List.set_cons_zero, List.set_cons_succ]
      refine wpAnyH_take (i := 7) (oi := { dst := some 73, op := Op.move (Operand.tmp 5), type := 3, pos := "ref.go:270", after := #[], guard := none }) (v := ?v2808) rfl (by kernel_rfl) (by kernel_rfl) (by kernel_rfl) (fun _ _ _ h => h) (Or.inl ⟨by rfl, ?hy2808⟩) (by assumption) ?rest2808
      case hy2808 => (intro w hSw; (try dsimp only at hSw); go_simp; try with_reducible rfl)
      simp only [Act.put, List.setIfInBounds_toArray, List.set_cons_zero, List.set_cons_succ]
      refine wpAnyH_take (i := 8) (oi := { dst := some 74, op := Op.indexAddr 29 (Operand.tmp 72) (Operand.tmp 73), type := 0, pos := "ref.go:270", after := #[{ on := 6, ground := Ground.data }, { on := 7, ground := Ground.data }], guard := none }) (v := ?v2809) rfl (by kernel_rfl) (by kernel_rfl) (by kernel_rfl) (fun _ _ _ h => h) (Or.inl ⟨by rfl, ?hy2809⟩) (by assumption) ?rest2809
      case hy2809 => (intro w hSw; (try dsimp only at hSw); go_simp; try with_reducible rfl)
      simp only [Act.put, List.setIfInBounds_toArray, List.set_cons_zero, List.set_cons_succ]
      refine wpAnyH_take (i := 9) (oi := { dst := some 75, op := Op.load 57 (Operand.tmp 74), type := 57, pos := "ref.go:270", after := #[{ on := 8, ground := Ground.data }], guard := none }) (v := ?v2810) rfl (by kernel_rfl) (by kernel_rfl) (by kernel_rfl) (fun _ _ _ h => h) (Or.inl ⟨by rfl, ?hy2810⟩) (by assumption) ?rest2810
      case hy2810 => (intro W hSw; refine el_yields 57 (.tmp 74) ?_ b2 (o2 + k * 18) ?_ x.cells _ Try.underlying57 Try.infoPx (HX2.out W hSw) <;> rfl)
      simp only [Act.put, List.setIfInBounds_toArray, List.set_cons_zero, List.set_cons_succ]
      refine wpAnyH_take (i := 10) (oi := { dst := some 76, op := Op.binOp BinOp.neq 57 (Operand.tmp 70) (Operand.tmp 75) 57, type := 4, pos := "ref.go:270", after := #[{ on := 4, ground := Ground.data }, { on := 9, ground := Ground.data }], guard := none }) (v := ?v2811) rfl (by kernel_rfl) (by kernel_rfl) (by kernel_rfl) (fun _ _ _ h => h) (Or.inl ⟨by rfl, ?hy2811⟩) (by assumption) ?rest2811
      case hy2811 => (intro W hSw; refine neq_yields 57 57 (.tmp 70) (.tmp 75) ?_ x.cells.toArray x.cells.toArray ?_ ?_ true HNq.out (by kernel_rfl) W <;> rfl)
      simp only [Act.put, List.setIfInBounds_toArray, List.set_cons_zero, List.set_cons_succ]
      refine wpAnyH_done (by kernel_rfl) ?_ _
      go_wp2
      go_roundw
      case rel => exact ⟨k + 1, by have h9 := HLt.out; omega, by go_num, hHeld⟩
      case measure => have h9 := HLt.out; simp [intOf]; omega
    · have HW := hid hbel
      clear hbel
      go_wp2
      go_loopw [6] (fun i wr => ∃ k : Nat, k ≤ c1.sa.length ∧ i = .int .i64 k ∧ Below w2.heap.size w2 wr) (fun i _ => c1.sa.length - (intOf i).toNat)
      case atStart => exact ⟨0, by omega, rfl, HW.out⟩
      case round =>
        obtain ⟨k, hk, rfl, hbel⟩ := hrel
        have kh1 := HHsa1.out wr hbel
        have kh2 := HHsa2.out wr hbel
        by_cases hlt : k < c1.sa.length
        · have hlt2 : k < c1.sa.length := by have := HLsa.out; omega
          have HLt := hid hlt
          obtain ⟨b1, o1, rfl, hw1, hce1⟩ := HEsa1.out (by omega)
          have HX1 := hid (show ∀ W, Below w2.heap.size w2 W → W.rangeAt b1 (o1 + k * 3) (c1.sa.getD k Sp.zero).cells from fun W hW => range_of2 _ fun j hj => ((HB2.out.trans (hW.mono HB2.out.size)).cell (by exact hw1)).trans (hce1 k hlt j hj))
          have HY1 := HHsa1
          obtain ⟨b2, o2, rfl, hw2, hce2⟩ := HEsa2.out (by omega)
          have HX2 := hid (show ∀ W, Below w2.heap.size w2 W → W.rangeAt b2 (o2 + k * 3) (c1.sa.getD k Sp.zero).cells from fun W hW => range_of2 _ fun j hj => ((HB2.out.trans (hW.mono HB2.out.size)).cell (by exact hw2)).trans (hce2 k hlt2 j hj))
          have HY2 := HHsa2
          clear hce1 hce2
          generalize c1.sa.getD k Sp.zero = x at HX1 HX2
          obtain ⟨B, hnq, hB⟩ := eq_Sp x x
          obtain rfl : B = true := hB rfl
          have HNq := hid hnq
          clear hnq hB
          go_wp2_with fail
          refine wp_region_held_drew (S := (fun W => Below w2.heap.size w2 W)) (by kernel_rfl) (Below.drew hbel) (fun hHeld => ?_)
          refine wpAnyH_take (i := 0) (oi := { dst := some 84, op := Op.fieldAddr 39 (Operand.tmp 2) 9, type := 0, pos := "ref.go:275", after := #[], guard := none }) (v := ?v2601) rfl (by kernel_rfl) (by kernel_rfl) (by kernel_rfl) (fun _ _ _ h => h) (Or.inl ⟨by rfl, ?hy2601⟩) (by assumption) ?rest2601
          case hy2601 => (intro w hSw; (try dsimp only at hSw); go_simp; try with_reducible rfl)
          simp only [Act.put, List.setIfInBounds_toArray, List.set_cons_zero, List.set_cons_succ]
          refine wpAnyH_take (i := 1) (oi := { dst := some 85, op := Op.load 34 (Operand.tmp 84), type := 34, pos := "ref.go:275", after := #[{ on := 0, ground := Ground.data }], guard := none }) (v := ?v2602) rfl (by kernel_rfl) (by kernel_rfl) (by kernel_rfl) (fun _ _ _ h => h) (Or.inl ⟨by rfl, ?hy2602⟩) (by assumption) ?rest2602
          case hy2602 => (intro W hSw; (try dsimp only at hSw); have e1 := HY1.out W hSw; have e2 := HY2.out W hSw; go_simp; try with_reducible rfl)
          simp only [Act.put, List.setIfInBounds_toArray, List.set_cons_zero, List.set_cons_succ]
          refine wpAnyH_take (i := 2) (oi := { dst := some 86, op := Op.move (Operand.tmp 6), type := 3, pos := "ref.go:275", after := #[], guard := none }) (v := ?v2603) rfl (by kernel_rfl) (by kernel_rfl) (by kernel_rfl) (fun _ _ _ h => h) (Or.inl ⟨by rfl, ?hy2603⟩) (by assumption) ?rest2603
          case hy2603 => (intro w hSw; (try dsimp only at hSw); go_simp; try with_reducible rfl)
          simp only [Act.put, List.setIfInBounds_toArray, List.set_cons_zero, List.set_cons_succ]
          refine wpAnyH_take (i := 3) (oi := { dst := some 87, op := Op.indexAddr 34 (Operand.tmp 85) (Operand.tmp 86), type := 0, pos := "ref.go:275", after := #[{ on := 1, ground := Ground.data }, { on := 2, ground := Ground.data }], guard := none }) (v := ?v2604) rfl (by kernel_rfl) (by kernel_rfl) (by kernel_rfl) (fun _ _ _ h => h) (Or.inl ⟨by rfl, ?hy2604⟩) (by assumption) ?rest2604
          case hy2604 => (intro w hSw; (try dsimp only at hSw); go_simp; try with_reducible rfl)
          simp only [Act.put, List.setIfInBounds_toArray, List.set_cons_zero, List.set_cons_succ]
          refine wpAnyH_take (i := 4) (oi := { dst := some 88, op := Op.load 78 (Operand.tmp 87), type := 78, pos := "ref.go:275", after := #[{ on := 3, ground := Ground.data }], guard := none }) (v := ?v2605) rfl (by kernel_rfl) (by kernel_rfl) (by kernel_rfl) (fun _ _ _ h => h) (Or.inl ⟨by rfl, ?hy2605⟩) (by assumption) ?rest2605
          case hy2605 => (intro W hSw; refine el_yields 78 (.tmp 87) ?_ b1 (o1 + k * 3) ?_ x.cells _ Try.underlying78 Try.infoSp1 (HX1.out W hSw) <;> rfl)
          simp only [Act.put, List.setIfInBounds_toArray, List.set_cons_zero, List.set_cons_succ]
          refine wpAnyH_take (i := 5) (oi := { dst := some 89, op := Op.fieldAddr 39 (Operand.tmp 3) 9, type := 0, pos := "ref.go:275", after := #[], guard := none }) (v := ?v2606) rfl (by kernel_rfl) (by kernel_rfl) (by kernel_rfl) (fun _ _ _ h => h) (Or.inl ⟨by rfl, ?hy2606⟩) (by assumption) ?rest2606
          case hy2606 => (intro w hSw; (try dsimp only at hSw); go_simp; try with_reducible rfl)
          simp only [Act.put, List.setIfInBounds_toArray, List.set_cons_zero, List.set_cons_succ]
          refine wpAnyH_take (i := 6) (oi := { dst := some 90, op := Op.load 34 (Operand.tmp 89), type := 34, pos := "ref.go:275", after := #[{ on := 5, ground := Ground.data }], guard := none }) (v := ?v2607) rfl (by kernel_rfl) (by kernel_rfl) (by kernel_rfl) (fun _ _ _ h => h) (Or.inl ⟨by rfl, ?hy2607⟩) (by assumption) ?rest2607
          case hy2607 => (intro W hSw; (try dsimp only at hSw); have e1 := HY1.out W hSw; have e2 := HY2.out W hSw; go_simp; try with_reducible rfl)
          simp only [Act.put, List.setIfInBounds_toArray, List.set_cons_zero, List.set_cons_succ]
          refine wpAnyH_take (i := 7) (oi := { dst := some 91, op := Op.move (Operand.tmp 6), type := 3, pos := "ref.go:275", after := #[], guard := none }) (v := ?v2608) rfl (by kernel_rfl) (by kernel_rfl) (by kernel_rfl) (fun _ _ _ h => h) (Or.inl ⟨by rfl, ?hy2608⟩) (by assumption) ?rest2608
          case hy2608 => (intro w hSw; (try dsimp only at hSw); go_simp; try with_reducible rfl)
          simp only [Act.put, List.setIfInBounds_toArray, List.set_cons_zero, List.set_cons_succ]
          refine wpAnyH_take (i := 8) (oi := { dst := some 92, op := Op.indexAddr 34 (Operand.tmp 90) (Operand.tmp 91), type := 0, pos := "ref.go:275", after := #[{ on := 6, ground := Ground.data }, { on := 7, ground := Ground.data }], guard := none }) (v := ?v2609) rfl (by kernel_rfl) (by kernel_rfl) (by kernel_rfl) (fun _ _ _ h => h) (Or.inl ⟨by rfl, ?hy2609⟩) (by assumption) ?rest2609
          case hy2609 => (intro w hSw; (try dsimp only at hSw); go_simp; try with_reducible rfl)
          simp only [Act.put, List.setIfInBounds_toArray, List.set_cons_zero, List.set_cons_succ]
          refine wpAnyH_take (i := 9) (oi := { dst := some 93, op := Op.load 78 (Operand.tmp 92), type := 78, pos := "ref.go:275", after := #[{ on := 8, ground := Ground.data }], guard := none }) (v := ?v2610) rfl (by kernel_rfl) (by kernel_rfl) (by kernel_rfl) (fun _ _ _ h => h) (Or.inl ⟨by rfl, ?hy2610⟩) (by assumption) ?rest2610
          case hy2610 => (intro W hSw; refine el_yields 78 (.tmp 92) ?_ b2 (o2 + k * 3) ?_ x.cells _ Try.underlying78 Try.infoSp1 (HX2.out W hSw) <;> rfl)
          simp only [Act.put, List.setIfInBounds_toArray, List.set_cons_zero, List.set_cons_succ]
          refine wpAnyH_take (i := 10) (oi := { dst := some 94, op := Op.binOp BinOp.neq 78 (Operand.tmp 88) (Operand.tmp 93) 78, type := 4, pos := "ref.go:275", after := #[{ on := 4, ground := Ground.data }, { on := 9, ground := Ground.data }], guard := none }) (v := ?v2611) rfl (by kernel_rfl) (by kernel_rfl) (by kernel_rfl) (fun _ _ _ h => h) (Or.inl ⟨by rfl, ?hy2611⟩) (by assumption) ?rest2611
          case hy2611 => (intro W hSw; refine neq_yields 78 78 (.tmp 88) (.tmp 93) ?_ x.cells.toArray x.cells.toArray ?_ ?_ true HNq.out (by kernel_rfl) W <;> rfl)
          simp only [Act.put, List.setIfInBounds_toArray, List.set_cons_zero, List.set_cons_succ]
          refine wpAnyH_done (by kernel_rfl) ?_ _
          go_wp2
          go_roundw
          case rel => exact ⟨k + 1, by have h9 := HLt.out; omega, by go_num, hHeld⟩
          case measure => have h9 := HLt.out; simp [intOf]; omega
        · have HW := hid hbel
          clear hbel
          go_wp2
          go_loopw [7] (fun i wr => ∃ k : Nat, k ≤ rsqu1.length ∧ i = .int .i64 k ∧ Below w2.heap.size w2 wr) (fun i _ => rsqu1.length - (intOf i).toNat)
          case atStart => exact ⟨0, by omega, rfl, HW.out⟩
          case round =>
            obtain ⟨k, hk, rfl, hbel⟩ := hrel
            have kh1 := HHqu1.out wr hbel
            have kh2 := HHqu2.out wr hbel
            by_cases hlt : k < rsqu1.length
            · have hlt2 : k < rsqu2.length := by have := HLqu.out; omega
              have HLt := hid hlt
              obtain ⟨b1, o1, rfl, hw1, hce1⟩ := HEqu1.out (by omega)
              have HX1 := hid (show ∀ W, Below w2.heap.size w2 W → ∀ j, j < 3 → W.cell? ⟨b1, o1 + k * 3 + j, none⟩ = some ((rsqu1.getD k QuV.zero).cells.getD j .nilIface) from fun W hW j hj => ((HB2.out.trans (hW.mono HB2.out.size)).cell (by exact hw1)).trans (hce1 k hlt j hj))
              have HQ1 := hid (HAqu1.out k hlt)
              have HY1 := HHqu1
              obtain ⟨b2, o2, rfl, hw2, hce2⟩ := HEqu2.out (by omega)
              have HX2 := hid (show ∀ W, Below w2.heap.size w2 W → ∀ j, j < 3 → W.cell? ⟨b2, o2 + k * 3 + j, none⟩ = some ((rsqu2.getD k QuV.zero).cells.getD j .nilIface) from fun W hW j hj => ((HB2.out.trans (hW.mono HB2.out.size)).cell (by exact hw2)).trans (hce2 k hlt2 j hj))
              have HQ2 := hid (HAqu2.out k hlt2)
              have HY2 := HHqu2
              clear hce1 hce2
              generalize c1.qu.getD k Qu.zero = x at HQ1 HQ2
              generalize rsqu1.getD k QuV.zero = q at HX1 HQ1
              generalize rsqu2.getD k QuV.zero = p at HX2 HQ2
              obtain ⟨qx0, ⟨qa1, qn1, qc1⟩, qx2⟩ := q
              obtain ⟨px0, ⟨pa1, pn1, pc1⟩, px2⟩ := p
              have HC10 := hid (show ∀ W, Below w2.heap.size w2 W → W.cell? ⟨b1, o1 + k * 3, none⟩ = some (.int .i64 qx0) from fun W hW => (HX1.out W hW 0 (by decide)).trans rfl)
              have HC11 := hid (show ∀ W, Below w2.heap.size w2 W → W.cell? ⟨b1, o1 + k * 3 + 1, none⟩ = some (.slice qa1 qn1 qc1) from fun W hW => (HX1.out W hW 1 (by decide)).trans rfl)
              have HC12 := hid (show ∀ W, Below w2.heap.size w2 W → W.cell? ⟨b1, o1 + k * 3 + 2, none⟩ = some (.int .i64 qx2) from fun W hW => (HX1.out W hW 2 (by decide)).trans rfl)
              have HC20 := hid (show ∀ W, Below w2.heap.size w2 W → W.cell? ⟨b2, o2 + k * 3, none⟩ = some (.int .i64 px0) from fun W hW => (HX2.out W hW 0 (by decide)).trans rfl)
              have HC21 := hid (show ∀ W, Below w2.heap.size w2 W → W.cell? ⟨b2, o2 + k * 3 + 1, none⟩ = some (.slice pa1 pn1 pc1) from fun W hW => (HX2.out W hW 1 (by decide)).trans rfl)
              have HC22 := hid (show ∀ W, Below w2.heap.size w2 W → W.cell? ⟨b2, o2 + k * 3 + 2, none⟩ = some (.int .i64 px2) from fun W hW => (HX2.out W hW 2 (by decide)).trans rfl)
              clear HX1 HX2
              go_wp2_with fail
              refine wp_region_held_drew (S := (fun W => Below w2.heap.size w2 W)) (by kernel_rfl) (Below.drew hbel) (fun hh0_ => ?_)
              refine wpAnyH_take (i := 0) (oi := { dst := some 102, op := Op.fieldAddr 39 (Operand.tmp 2) 10, type := 0, pos := "ref.go:280", after := #[], guard := none }) (v := ?v2201) rfl (by kernel_rfl) (by kernel_rfl) (by kernel_rfl) (fun _ _ _ h => h) (Or.inl ⟨by rfl, ?hy2201⟩) (by assumption) ?rest2201
              case hy2201 => (intro w hSw; (try dsimp only at hSw); go_simp; try with_reducible rfl)
              simp only [Act.put, List.setIfInBounds_toArray, List.set_cons_zero, List.set_cons_succ]
              refine wpAnyH_take (i := 1) (oi := { dst := some 103, op := Op.load 35 (Operand.tmp 102), type := 35, pos := "ref.go:280", after := #[{ on := 0, ground := Ground.data }], guard := none }) (v := ?v2202) rfl (by kernel_rfl) (by kernel_rfl) (by kernel_rfl) (fun _ _ _ h => h) (Or.inl ⟨by rfl, ?hy2202⟩) (by assumption) ?rest2202
              case hy2202 => (intro W hSw; (try dsimp only at hSw); have e1 := HY1.out W hSw; have e2 := HY2.out W hSw; have f10 := HC10.out W hSw; have f11 := HC11.out W hSw; have f12 := HC12.out W hSw; have f20 := HC20.out W hSw; have f21 := HC21.out W hSw; have f22 := HC22.out W hSw; go_simp; try with_reducible rfl)
              simp only [Act.put, List.setIfInBounds_toArray, List.set_cons_zero, List.set_cons_succ]
              refine wpAnyH_take (i := 2) (oi := { dst := some 104, op := Op.move (Operand.tmp 7), type := 3, pos := "ref.go:280", after := #[], guard := none }) (v := ?v2203) rfl (by kernel_rfl) (by kernel_rfl) (by kernel_rfl) (fun _ _ _ h => h) (Or.inl ⟨by rfl, ?hy2203⟩) (by assumption) ?rest2203
              case hy2203 => (intro w hSw; (try dsimp only at hSw); go_simp; try with_reducible rfl)
              simp only [Act.put, List.setIfInBounds_toArray, List.set_cons_zero, List.set_cons_succ]
              refine wpAnyH_take (i := 3) (oi := { dst := some 105, op := Op.indexAddr 35 (Operand.tmp 103) (Operand.tmp 104), type := 0, pos := "ref.go:280", after := #[{ on := 1, ground := Ground.data }, { on := 2, ground := Ground.data }], guard := none }) (v := ?v2204) rfl (by kernel_rfl) (by kernel_rfl) (by kernel_rfl) (fun _ _ _ h => h) (Or.inl ⟨by rfl, ?hy2204⟩) (by assumption) ?rest2204
              case hy2204 => (intro w hSw; (try dsimp only at hSw); go_simp; try with_reducible rfl)
              simp only [Act.put, List.setIfInBounds_toArray, List.set_cons_zero, List.set_cons_succ]
              refine wpAnyH_take (i := 4) (oi := { dst := some 106, op := Op.fieldAddr 75 (Operand.tmp 105) 1, type := 0, pos := "ref.go:280", after := #[{ on := 3, ground := Ground.data }], guard := none }) (v := ?v2205) rfl (by kernel_rfl) (by kernel_rfl) (by kernel_rfl) (fun _ _ _ h => h) (Or.inl ⟨by rfl, ?hy2205⟩) (by assumption) ?rest2205
              case hy2205 => (intro w hSw; (try dsimp only at hSw); go_simp; try with_reducible rfl)
              simp only [Act.put, List.setIfInBounds_toArray, List.set_cons_zero, List.set_cons_succ]
              refine wpAnyH_take (i := 5) (oi := { dst := some 107, op := Op.load 26 (Operand.tmp 106), type := 26, pos := "ref.go:280", after := #[{ on := 4, ground := Ground.data }], guard := none }) (v := ?v2206) rfl (by kernel_rfl) (by kernel_rfl) (by kernel_rfl) (fun _ _ _ h => h) (Or.inl ⟨by rfl, ?hy2206⟩) (by assumption) ?rest2206
              case hy2206 => (intro W hSw; (try dsimp only at hSw); have e1 := HY1.out W hSw; have e2 := HY2.out W hSw; have f10 := HC10.out W hSw; have f11 := HC11.out W hSw; have f12 := HC12.out W hSw; have f20 := HC20.out W hSw; have f21 := HC21.out W hSw; have f22 := HC22.out W hSw; go_simp; try with_reducible rfl)
              simp only [Act.put, List.setIfInBounds_toArray, List.set_cons_zero, List.set_cons_succ]
              refine wpAnyH_take (i := 6) (oi := { dst := some 108, op := Op.fieldAddr 39 (Operand.tmp 3) 10, type := 0, pos := "ref.go:280", after := #[], guard := none }) (v := ?v2207) rfl (by kernel_rfl) (by kernel_rfl) (by kernel_rfl) (fun _ _ _ h => h) (Or.inl ⟨by rfl, ?hy2207⟩) (by assumption) ?rest2207
              case hy2207 => (intro w hSw; (try dsimp only at hSw); go_simp; try with_reducible rfl)
              simp only [Act.put, List.setIfInBounds_toArray, List.set_cons_zero, List.set_cons_succ]
              refine wpAnyH_take (i := 7) (oi := { dst := some 109, op := Op.load 35 (Operand.tmp 108), type := 35, pos := "ref.go:280", after := #[{ on := 6, ground := Ground.data }], guard := none }) (v := ?v2208) rfl (by kernel_rfl) (by kernel_rfl) (by kernel_rfl) (fun _ _ _ h => h) (Or.inl ⟨by rfl, ?hy2208⟩) (by assumption) ?rest2208
              case hy2208 => (intro W hSw; (try dsimp only at hSw); have e1 := HY1.out W hSw; have e2 := HY2.out W hSw; have f10 := HC10.out W hSw; have f11 := HC11.out W hSw; have f12 := HC12.out W hSw; have f20 := HC20.out W hSw; have f21 := HC21.out W hSw; have f22 := HC22.out W hSw; go_simp; try with_reducible rfl)
              simp only [Act.put, List.setIfInBounds_toArray, List.set_cons_zero, List.set_cons_succ]
              refine wpAnyH_take (i := 8) (oi := { dst := some 110, op := Op.move (Operand.tmp 7), type := 3, pos := "ref.go:280", after := #[], guard := none }) (v := ?v2209) rfl (by kernel_rfl) (by kernel_rfl) (by kernel_rfl) (fun _ _ _ h => h) (Or.inl ⟨by rfl, ?hy2209⟩) (by assumption) ?rest2209
              case hy2209 => (intro w hSw; (try dsimp only at hSw); go_simp; try with_reducible rfl)
              simp only [Act.put, List.setIfInBounds_toArray, List.set_cons_zero, List.set_cons_succ]
              refine wpAnyH_take (i := 9) (oi := { dst := some 111, op := Op.indexAddr 35 (Operand.tmp 109) (Operand.tmp 110), type := 0, pos := "ref.go:280", after := #[{ on := 7, ground := Ground.data }, { on := 8, ground := Ground.data }], guard := none }) (v := ?v2210) rfl (by kernel_rfl) (by kernel_rfl) (by kernel_rfl) (fun _ _ _ h => h) (Or.inl ⟨by rfl, ?hy2210⟩) (by assumption) ?rest2210
              case hy2210 => (intro w hSw; (try dsimp only at hSw); go_simp; try with_reducible rfl)
              simp only [Act.put, List.setIfInBounds_toArray, List.set_cons_zero, List.set_cons_succ]
              refine wpAnyH_take (i := 10) (oi := { dst := some 112, op := Op.fieldAddr 75 (Operand.tmp 111) 1, type := 0, pos := "ref.go:280", after := #[{ on := 9, ground := Ground.data }], guard := none }) (v := ?v2211) rfl (by kernel_rfl) (by kernel_rfl) (by kernel_rfl) (fun _ _ _ h => h) (Or.inl ⟨by rfl, ?hy2211⟩) (by assumption) ?rest2211
              case hy2211 => (intro w hSw; (try dsimp only at hSw); go_simp; try with_reducible rfl)
              simp only [Act.put, List.setIfInBounds_toArray, List.set_cons_zero, List.set_cons_succ]
              refine wpAnyH_take (i := 11) (oi := { dst := some 113, op := Op.load 26 (Operand.tmp 112), type := 26, pos := "ref.go:280", after := #[{ on := 10, ground := Ground.data }], guard := none }) (v := ?v2212) rfl (by kernel_rfl) (by kernel_rfl) (by kernel_rfl) (fun _ _ _ h => h) (Or.inl ⟨by rfl, ?hy2212⟩) (by assumption) ?rest2212
              case hy2212 => (intro W hSw; (try dsimp only at hSw); have e1 := HY1.out W hSw; have e2 := HY2.out W hSw; have f10 := HC10.out W hSw; have f11 := HC11.out W hSw; have f12 := HC12.out W hSw; have f20 := HC20.out W hSw; have f21 := HC21.out W hSw; have f22 := HC22.out W hSw; go_simp; try with_reducible rfl)
              simp only [Act.put, List.setIfInBounds_toArray, List.set_cons_zero, List.set_cons_succ]
              refine wpAnyH_ready (rs := [12]) (by kernel_rfl) (by simp) (AllReadyH.cons (o := { dst := some 114, op := Op.call { callee := Callee.value (Operand.func 26), args := #[Operand.tmp 107, Operand.tmp 113], argTypes := #[26, 26] }, type := 4, pos := "ref.go:280", after := #[{ on := 5, ground := Ground.data }, { on := 11, ground := Ground.data }], guard := none }) rfl (fun K2213 hK2213 => ?_) AllReadyH.nil)
              go_simp
              refine (ints_tot _ _ x.vs x.vs _ (HQ1.out.vs.below (HB2.out.trans (Below.mono hh0_ HB2.out.size))) (HQ2.out.vs.below (HB2.out.trans (Below.mono hh0_ HB2.out.size)))).mono ?_
              rintro e wq0 ⟨⟨d0, rfl, hd0⟩, hbl0⟩
              obtain rfl : d0 = true := hd0 rfl
              clear hd0
              refine hK2213.out _ _ (Below.trans hh0_ (hbl0.mono (Below.size hh0_))) (fun hh0_2213 => ?_)
              clear hK2213 K2213
              try simp only [Act.put, List.setIfInBounds_toArray, List.set_cons_zero, List.set_cons_succ]
              refine wpAnyH_take (i := 13) (oi := { dst := some 8, op := Op.assign (Operand.tmp 114), type := 4, pos := "ref.go:280", after := #[{ on := 12, ground := Ground.data }, { on := 12, ground := Ground.chain }, { on := 0, ground := Ground.phase }, { on := 1, ground := Ground.phase }, { on := 2, ground := Ground.phase }, { on := 3, ground := Ground.phase }, { on := 4, ground := Ground.phase }, { on := 5, ground := Ground.phase }, { on := 6, ground := Ground.phase }, { on := 7, ground := Ground.phase }, { on := 8, ground := Ground.phase }, { on := 9, ground := Ground.phase }, { on := 10, ground := Ground.phase }, { on := 11, ground := Ground.phase }, { on := 12, ground := Ground.phase }], guard := none }) (v := ?v2214) rfl (by kernel_rfl) (by kernel_rfl) (by kernel_rfl) (fun _ _ _ h => h) (Or.inl ⟨by rfl, ?hy2214⟩) (by assumption) ?rest2214
              case hy2214 => (intro w hSw; (try dsimp only at hSw); go_simp; try with_reducible rfl)
              simp only [Act.put, List.setIfInBounds_toArray, List.set_cons_zero, List.set_cons_succ]
              refine wpAnyH_done (by kernel_rfl) ?_ _
              have HW0 := hid hh0_2213
              obtain rfl : qx0 = px0 := by have h1 := HQ1.out.d; have h2 := HQ2.out.d; simp only at h1 h2; exact h1.trans h2.symm
              obtain rfl : qx2 = px2 := by have h1 := HQ1.out.x; have h2 := HQ2.out.x; simp only at h1 h2; exact h1.trans h2.symm
              go_wp2_with fail
              refine wp_region_held_drew (S := (fun W => Below w2.heap.size w2 W)) (by kernel_rfl) (Below.drew HW0.out) (fun ht_ => ?_)
              refine wpAnyH_take (i := 0) (oi := { dst := some 115, op := Op.move (Operand.tmp 8), type := 4, pos := "ref.go:281", after := #[], guard := none }) (v := ?v2401) rfl (by kernel_rfl) (by kernel_rfl) (by kernel_rfl) (fun _ _ _ h => h) (Or.inl ⟨by rfl, ?hy2401⟩) (by assumption) ?rest2401
              case hy2401 => (intro w hSw; (try dsimp only at hSw); go_simp; try with_reducible rfl)
              simp only [Act.put, List.setIfInBounds_toArray, List.set_cons_zero, List.set_cons_succ]
              refine wpAnyH_take (i := 1) (oi := { dst := some 116, op := Op.unOp UnOp.not 4 (Operand.tmp 115), type := 4, pos := "ref.go:281", after := #[{ on := 0, ground := Ground.data }], guard := none }) (v := ?v2402) rfl (by kernel_rfl) (by kernel_rfl) (by kernel_rfl) (fun _ _ _ h => h) (Or.inl ⟨by rfl, ?hy2402⟩) (by assumption) ?rest2402
              case hy2402 => (intro w hSw; (try dsimp only at hSw); go_simp; try with_reducible rfl)
              simp only [Act.put, List.setIfInBounds_toArray, List.set_cons_zero, List.set_cons_succ]
              refine wpAnyH_take (i := 2) (oi := { dst := some 117, op := Op.move (Operand.tmp 116), type := 4, pos := "ref.go:281", after := #[{ on := 1, ground := Ground.data }], guard := none }) (v := ?v2403) rfl (by kernel_rfl) (by kernel_rfl) (by kernel_rfl) (fun _ _ _ h => h) (Or.inl ⟨by rfl, ?hy2403⟩) (by assumption) ?rest2403
              case hy2403 => (intro w hSw; (try dsimp only at hSw); go_simp; try with_reducible rfl)
              simp only [Act.put, List.setIfInBounds_toArray, List.set_cons_zero, List.set_cons_succ]
              refine wpAnyH_take (i := 3) (oi := { dst := some 118, op := Op.fieldAddr 39 (Operand.tmp 2) 10, type := 0, pos := "ref.go:281", after := #[{ on := 2, ground := Ground.guard }], guard := some (2, false) }) (v := ?v2404) rfl (by kernel_rfl) (by kernel_rfl) (by kernel_rfl) (fun _ _ _ h => h) (Or.inl ⟨by rfl, ?hy2404⟩) (by assumption) ?rest2404
              case hy2404 => (intro w hSw; (try dsimp only at hSw); go_simp; try with_reducible rfl)
              simp only [Act.put, List.setIfInBounds_toArray, List.set_cons_zero, List.set_cons_succ]
              refine wpAnyH_take (i := 4) (oi := { dst := some 119, op := Op.load 35 (Operand.tmp 118), type := 35, pos := "ref.go:281", after := #[{ on := 3, ground := Ground.data }, { on := 2, ground := Ground.guard }], guard := some (2, false) }) (v := ?v2405) rfl (by kernel_rfl) (by kernel_rfl) (by kernel_rfl) (fun _ _ _ h => h) (Or.inl ⟨by rfl, ?hy2405⟩) (by assumption) ?rest2405
              case hy2405 => (intro W hSw; (try dsimp only at hSw); have e1 := HY1.out W hSw; have e2 := HY2.out W hSw; have f10 := HC10.out W hSw; have f11 := HC11.out W hSw; have f12 := HC12.out W hSw; have f20 := HC20.out W hSw; have f21 := HC21.out W hSw; have f22 := HC22.out W hSw; go_simp; try with_reducible rfl)
              simp only [Act.put, List.setIfInBounds_toArray, List.set_cons_zero, List.set_cons_succ]
              refine wpAnyH_take (i := 5) (oi := { dst := some 120, op := Op.move (Operand.tmp 7), type := 3, pos := "ref.go:281", after := #[{ on := 2, ground := Ground.guard }], guard := some (2, false) }) (v := ?v2406) rfl (by kernel_rfl) (by kernel_rfl) (by kernel_rfl) (fun _ _ _ h => h) (Or.inl ⟨by rfl, ?hy2406⟩) (by assumption) ?rest2406
              case hy2406 => (intro w hSw; (try dsimp only at hSw); go_simp; try with_reducible rfl)
              simp only [Act.put, List.setIfInBounds_toArray, List.set_cons_zero, List.set_cons_succ]
              refine wpAnyH_take (i := 6) (oi := { dst := some 121, op := Op.indexAddr 35 (Operand.tmp 119) (Operand.tmp 120), type := 0, pos := "ref.go:281", after := #[{ on := 4, ground := Ground.data }, { on := 5, ground := Ground.data }, { on := 2, ground := Ground.guard }], guard := some (2, false) }) (v := ?v2407) rfl (by kernel_rfl) (by kernel_rfl) (by kernel_rfl) (fun _ _ _ h => h) (Or.inl ⟨by rfl, ?hy2407⟩) (by assumption) ?rest2407
              case hy2407 => (intro w hSw; (try dsimp only at hSw); go_simp; try with_reducible rfl)
              simp only [Act.put, List.setIfInBounds_toArray, List.set_cons_zero, List.set_cons_succ]
              refine wpAnyH_take (i := 7) (oi := { dst := some 122, op := Op.fieldAddr 75 (Operand.tmp 121) 0, type := 0, pos := "ref.go:281", after := #[{ on := 6, ground := Ground.data }, { on := 2, ground := Ground.guard }], guard := some (2, false) }) (v := ?v2408) rfl (by kernel_rfl) (by kernel_rfl) (by kernel_rfl) (fun _ _ _ h => h) (Or.inl ⟨by rfl, ?hy2408⟩) (by assumption) ?rest2408
              case hy2408 => (intro w hSw; (try dsimp only at hSw); go_simp; try with_reducible rfl)
              simp only [Act.put, List.setIfInBounds_toArray, List.set_cons_zero, List.set_cons_succ]
              refine wpAnyH_take (i := 8) (oi := { dst := some 123, op := Op.load 3 (Operand.tmp 122), type := 3, pos := "ref.go:281", after := #[{ on := 7, ground := Ground.data }, { on := 2, ground := Ground.guard }], guard := some (2, false) }) (v := ?v2409) rfl (by kernel_rfl) (by kernel_rfl) (by kernel_rfl) (fun _ _ _ h => h) (Or.inl ⟨by rfl, ?hy2409⟩) (by assumption) ?rest2409
              case hy2409 => (intro W hSw; (try dsimp only at hSw); have e1 := HY1.out W hSw; have e2 := HY2.out W hSw; have f10 := HC10.out W hSw; have f11 := HC11.out W hSw; have f12 := HC12.out W hSw; have f20 := HC20.out W hSw; have f21 := HC21.out W hSw; have f22 := HC22.out W hSw; go_simp; try with_reducible rfl)
              simp only [Act.put, List.setIfInBounds_toArray, List.set_cons_zero, List.set_cons_succ]
              refine wpAnyH_take (i := 9) (oi := { dst := some 124, op := Op.fieldAddr 39 (Operand.tmp 3) 10, type := 0, pos := "ref.go:281", after := #[{ on := 2, ground := Ground.guard }], guard := some (2, false) }) (v := ?v2410) rfl (by kernel_rfl) (by kernel_rfl) (by kernel_rfl) (fun _ _ _ h => h) (Or.inl ⟨by rfl, ?hy2410⟩) (by assumption) ?rest2410
              case hy2410 => (intro w hSw; (try dsimp only at hSw); go_simp; try with_reducible rfl)
              simp only [Act.put, List.setIfInBounds_toArray, List.set_cons_zero, List.set_cons_succ]
              refine wpAnyH_take (i := 10) (oi := { dst := some 125, op := Op.load 35 (Operand.tmp 124), type := 35, pos := "ref.go:281", after := #[{ on := 9, ground := Ground.data }, { on := 2, ground := Ground.guard }], guard := some (2, false) }) (v := ?v2411) rfl (by kernel_rfl) (by kernel_rfl) (by kernel_rfl) (fun _ _ _ h => h) (Or.inl ⟨by rfl, ?hy2411⟩) (by assumption) ?rest2411
              case hy2411 => (intro W hSw; (try dsimp only at hSw); have e1 := HY1.out W hSw; have e2 := HY2.out W hSw; have f10 := HC10.out W hSw; have f11 := HC11.out W hSw; have f12 := HC12.out W hSw; have f20 := HC20.out W hSw; have f21 := HC21.out W hSw; have f22 := HC22.out W hSw; go_simp; try with_reducible rfl)
              simp only [Act.put, List.setIfInBounds_toArray, List.set_cons_zero, List.set_cons_succ]
              refine wpAnyH_take (i := 11) (oi := { dst := some 126, op := Op.move (Operand.tmp 7), type := 3, pos := "ref.go:281", after := #[{ on := 2, ground := Ground.guard }], guard := some (2, false) }) (v := ?v2412) rfl (by kernel_rfl) (by kernel_rfl) (by kernel_rfl) (fun _ _ _ h => h) (Or.inl ⟨by rfl, ?hy2412⟩) (by assumption) ?rest2412
              case hy2412 => (intro w hSw; (try dsimp only at hSw); go_simp; try with_reducible rfl)
              simp only [Act.put, List.setIfInBounds_toArray, List.set_cons_zero, List.set_cons_succ]
              refine wpAnyH_take (i := 12) (oi := { dst := some 127, op := Op.indexAddr 35 (Operand.tmp 125) (Operand.tmp 126), type := 0, pos := "ref.go:281", after := #[{ on := 10, ground := Ground.data }, { on := 11, ground := Ground.data }, { on := 2, ground := Ground.guard }], guard := some (2, false) }) (v := ?v2413) rfl (by kernel_rfl) (by kernel_rfl) (by kernel_rfl) (fun _ _ _ h => h) (Or.inl ⟨by rfl, ?hy2413⟩) (by assumption) ?rest2413
              case hy2413 => (intro w hSw; (try dsimp only at hSw); go_simp; try with_reducible rfl)
              simp only [Act.put, List.setIfInBounds_toArray, List.set_cons_zero, List.set_cons_succ]
              refine wpAnyH_take (i := 13) (oi := { dst := some 128, op := Op.fieldAddr 75 (Operand.tmp 127) 0, type := 0, pos := "ref.go:281", after := #[{ on := 12, ground := Ground.data }, { on := 2, ground := Ground.guard }], guard := some (2, false) }) (v := ?v2414) rfl (by kernel_rfl) (by kernel_rfl) (by kernel_rfl) (fun _ _ _ h => h) (Or.inl ⟨by rfl, ?hy2414⟩) (by assumption) ?rest2414
              case hy2414 => (intro w hSw; (try dsimp only at hSw); go_simp; try with_reducible rfl)
              simp only [Act.put, List.setIfInBounds_toArray, List.set_cons_zero, List.set_cons_succ]
              refine wpAnyH_take (i := 14) (oi := { dst := some 129, op := Op.load 3 (Operand.tmp 128), type := 3, pos := "ref.go:281", after := #[{ on := 13, ground := Ground.data }, { on := 2, ground := Ground.guard }], guard := some (2, false) }) (v := ?v2415) rfl (by kernel_rfl) (by kernel_rfl) (by kernel_rfl) (fun _ _ _ h => h) (Or.inl ⟨by rfl, ?hy2415⟩) (by assumption) ?rest2415
              case hy2415 => (intro W hSw; (try dsimp only at hSw); have e1 := HY1.out W hSw; have e2 := HY2.out W hSw; have f10 := HC10.out W hSw; have f11 := HC11.out W hSw; have f12 := HC12.out W hSw; have f20 := HC20.out W hSw; have f21 := HC21.out W hSw; have f22 := HC22.out W hSw; go_simp; try with_reducible rfl)
              simp only [Act.put, List.setIfInBounds_toArray, List.set_cons_zero, List.set_cons_succ]
              refine wpAnyH_take (i := 15) (oi := { dst := some 130, op := Op.binOp BinOp.neq 3 (Operand.tmp 123) (Operand.tmp 129) 3, type := 4, pos := "ref.go:281", after := #[{ on := 8, ground := Ground.data }, { on := 14, ground := Ground.data }, { on := 2, ground := Ground.guard }], guard := some (2, false) }) (v := ?v2416) rfl (by kernel_rfl) (by kernel_rfl) (by kernel_rfl) (fun _ _ _ h => h) (Or.inl ⟨by rfl, ?hy2416⟩) (by assumption) ?rest2416
              case hy2416 => (intro w hSw; (try dsimp only at hSw); go_simp; try with_reducible rfl)
              simp only [Act.put, List.setIfInBounds_toArray, List.set_cons_zero, List.set_cons_succ]
              refine wpAnyH_take (i := 16) (oi := { dst := some 131, op := Op.pick (Operand.tmp 117) (Operand.const (Value.bool true)) (Operand.tmp 130), type := 4, pos := "ref.go:281", after := #[{ on := 2, ground := Ground.data }, { on := 15, ground := Ground.data }], guard := none }) (v := ?v2417) rfl (by kernel_rfl) (by kernel_rfl) (by kernel_rfl) (fun _ _ _ h => h) (Or.inl ⟨by rfl, ?hy2417⟩) (by assumption) ?rest2417
              case hy2417 => (intro w hSw; (try dsimp only at hSw); go_simp; try with_reducible rfl)
              simp only [Act.put, List.setIfInBounds_toArray, List.set_cons_zero, List.set_cons_succ]
              refine wpAnyH_take (i := 17) (oi := { dst := some 132, op := Op.move (Operand.tmp 131), type := 4, pos := "ref.go:281", after := #[{ on := 16, ground := Ground.data }, { on := 2, ground := Ground.chain }], guard := none }) (v := ?v2418) rfl (by kernel_rfl) (by kernel_rfl) (by kernel_rfl) (fun _ _ _ h => h) (Or.inl ⟨by rfl, ?hy2418⟩) (by assumption) ?rest2418
              case hy2418 => (intro w hSw; (try dsimp only at hSw); go_simp; try with_reducible rfl)
              simp only [Act.put, List.setIfInBounds_toArray, List.set_cons_zero, List.set_cons_succ]
              refine wpAnyH_take (i := 18) (oi := { dst := some 133, op := Op.fieldAddr 39 (Operand.tmp 2) 10, type := 0, pos := "ref.go:281", after := #[{ on := 17, ground := Ground.guard }], guard := some (17, false) }) (v := ?v2419) rfl (by kernel_rfl) (by kernel_rfl) (by kernel_rfl) (fun _ _ _ h => h) (Or.inl ⟨by rfl, ?hy2419⟩) (by assumption) ?rest2419
              case hy2419 => (intro w hSw; (try dsimp only at hSw); go_simp; try with_reducible rfl)
              simp only [Act.put, List.setIfInBounds_toArray, List.set_cons_zero, List.set_cons_succ]
              refine wpAnyH_take (i := 19) (oi := { dst := some 134, op := Op.load 35 (Operand.tmp 133), type := 35, pos := "ref.go:281", after := #[{ on := 18, ground := Ground.data }, { on := 17, ground := Ground.guard }], guard := some (17, false) }) (v := ?v2420) rfl (by kernel_rfl) (by kernel_rfl) (by kernel_rfl) (fun _ _ _ h => h) (Or.inl ⟨by rfl, ?hy2420⟩) (by assumption) ?rest2420
              case hy2420 => (intro W hSw; (try dsimp only at hSw); have e1 := HY1.out W hSw; have e2 := HY2.out W hSw; have f10 := HC10.out W hSw; have f11 := HC11.out W hSw; have f12 := HC12.out W hSw; have f20 := HC20.out W hSw; have f21 := HC21.out W hSw; have f22 := HC22.out W hSw; go_simp; try with_reducible rfl)
              simp only [Act.put, List.setIfInBounds_toArray, List.set_cons_zero, List.set_cons_succ]
              refine wpAnyH_take (i := 20) (oi := { dst := some 135, op := Op.move (Operand.tmp 7), type := 3, pos := "ref.go:281", after := #[{ on := 17, ground := Ground.guard }], guard := some (17, false) }) (v := ?v2421) rfl (by kernel_rfl) (by kernel_rfl) (by kernel_rfl) (fun _ _ _ h => h) (Or.inl ⟨by rfl, ?hy2421⟩) (by assumption) ?rest2421
              case hy2421 => (intro w hSw; (try dsimp only at hSw); go_simp; try with_reducible rfl)
              simp only [Act.put, List.setIfInBounds_toArray, List.set_cons_zero, List.set_cons_succ]
              refine wpAnyH_take (i := 21) (oi := { dst := some 136, op := Op.indexAddr 35 (Operand.tmp 134) (Operand.tmp 135), type := 0, pos := "ref.go:281", after := #[{ on := 19, ground := Ground.data }, { on := 20, ground := Ground.data }, { on := 17, ground := Ground.guard }], guard := some (17, false) }) (v := ?v2422) rfl (by kernel_rfl) (by kernel_rfl) (by kernel_rfl) (fun _ _ _ h => h) (Or.inl ⟨by rfl, ?hy2422⟩) (by assumption) ?rest2422
              case hy2422 => (intro w hSw; (try dsimp only at hSw); go_simp; try with_reducible rfl)
              simp only [Act.put, List.setIfInBounds_toArray, List.set_cons_zero, List.set_cons_succ]
              refine wpAnyH_take (i := 22) (oi := { dst := some 137, op := Op.fieldAddr 75 (Operand.tmp 136) 2, type := 0, pos := "ref.go:281", after := #[{ on := 21, ground := Ground.data }, { on := 17, ground := Ground.guard }], guard := some (17, false) }) (v := ?v2423) rfl (by kernel_rfl) (by kernel_rfl) (by kernel_rfl) (fun _ _ _ h => h) (Or.inl ⟨by rfl, ?hy2423⟩) (by assumption) ?rest2423
              case hy2423 => (intro w hSw; (try dsimp only at hSw); go_simp; try with_reducible rfl)
              simp only [Act.put, List.setIfInBounds_toArray, List.set_cons_zero, List.set_cons_succ]
              refine wpAnyH_take (i := 23) (oi := { dst := some 138, op := Op.load 3 (Operand.tmp 137), type := 3, pos := "ref.go:281", after := #[{ on := 22, ground := Ground.data }, { on := 17, ground := Ground.guard }], guard := some (17, false) }) (v := ?v2424) rfl (by kernel_rfl) (by kernel_rfl) (by kernel_rfl) (fun _ _ _ h => h) (Or.inl ⟨by rfl, ?hy2424⟩) (by assumption) ?rest2424
              case hy2424 => (intro W hSw; (try dsimp only at hSw); have e1 := HY1.out W hSw; have e2 := HY2.out W hSw; have f10 := HC10.out W hSw; have f11 := HC11.out W hSw; have f12 := HC12.out W hSw; have f20 := HC20.out W hSw; have f21 := HC21.out W hSw; have f22 := HC22.out W hSw; go_simp; try with_reducible rfl)
              simp only [Act.put, List.setIfInBounds_toArray, List.set_cons_zero, List.set_cons_succ]
              refine wpAnyH_take (i := 24) (oi := { dst := some 139, op := Op.fieldAddr 39 (Operand.tmp 3) 10, type := 0, pos := "ref.go:281", after := #[{ on := 17, ground := Ground.guard }], guard := some (17, false) }) (v := ?v2425) rfl (by kernel_rfl) (by kernel_rfl) (by kernel_rfl) (fun _ _ _ h => h) (Or.inl ⟨by rfl, ?hy2425⟩) (by assumption) ?rest2425
              case hy2425 => (intro w hSw; (try dsimp only at hSw); go_simp; try with_reducible rfl)
              simp only [Act.put, List.setIfInBounds_toArray, List.set_cons_zero, List.set_cons_succ]
              refine wpAnyH_take (i := 25) (oi := { dst := some 140, op := Op.load 35 (Operand.tmp 139), type := 35, pos := "ref.go:281", after := #[{ on := 24, ground := Ground.data }, { on := 17, ground := Ground.guard }], guard := some (17, false) }) (v := ?v2426) rfl (by kernel_rfl) (by kernel_rfl) (by kernel_rfl) (fun _ _ _ h => h) (Or.inl ⟨by rfl, ?hy2426⟩) (by assumption) ?rest2426
              case hy2426 => (intro W hSw; (try dsimp only at hSw); have e1 := HY1.out W hSw; have e2 := HY2.out W hSw; have f10 := HC10.out W hSw; have f11 := HC11.out W hSw; have f12 := HC12.out W hSw; have f20 := HC20.out W hSw; have f21 := HC21.out W hSw; have f22 := HC22.out W hSw; go_simp; try with_reducible rfl)
              simp only [Act.put, List.setIfInBounds_toArray, List.set_cons_zero, List.set_cons_succ]
              refine wpAnyH_take (i := 26) (oi := { dst := some 141, op := Op.move (Operand.tmp 7), type := 3, pos := "ref.go:281", after := #[{ on := 17, ground := Ground.guard }], guard := some (17, false) }) (v := ?v2427) rfl (by kernel_rfl) (by kernel_rfl) (by kernel_rfl) (fun _ _ _ h => h) (Or.inl ⟨by rfl, ?hy2427⟩) (by assumption) ?rest2427
              case hy2427 => (intro w hSw; (try dsimp only at hSw); go_simp; try with_reducible rfl)
              simp only [Act.put, List.setIfInBounds_toArray, List.set_cons_zero, List.set_cons_succ]
              refine wpAnyH_take (i := 27) (oi := { dst := some 142, op := Op.indexAddr 35 (Operand.tmp 140) (Operand.tmp 141), type := 0, pos := "ref.go:281", after := #[{ on := 25, ground := Ground.data }, { on := 26, ground := Ground.data }, { on := 17, ground := Ground.guard }], guard := some (17, false) }) (v := ?v2428) rfl (by kernel_rfl) (by kernel_rfl) (by kernel_rfl) (fun _ _ _ h => h) (Or.inl ⟨by rfl, ?hy2428⟩) (by assumption) ?rest2428
              case hy2428 => (intro w hSw; (try dsimp only at hSw); go_simp; try with_reducible rfl)
              simp only [Act.put, List.setIfInBounds_toArray, List.set_cons_zero, List.set_cons_succ]
              refine wpAnyH_take (i := 28) (oi := { dst := some 143, op := Op.fieldAddr 75 (Operand.tmp 142) 2, type := 0, pos := "ref.go:281", after := #[{ on := 27, ground := Ground.data }, { on := 17, ground := Ground.guard }], guard := some (17, false) }) (v := ?v2429) rfl (by kernel_rfl) (by kernel_rfl) (by kernel_rfl) (fun _ _ _ h => h) (Or.inl ⟨by rfl, ?hy2429⟩) (by assumption) ?rest2429
              case hy2429 => (intro w hSw; (try dsimp only at hSw); go_simp; try with_reducible rfl)
              simp only [Act.put, List.setIfInBounds_toArray, List.set_cons_zero, List.set_cons_succ]
              refine wpAnyH_take (i := 29) (oi := { dst := some 144, op := Op.load 3 (Operand.tmp 143), type := 3, pos := "ref.go:281", after := #[{ on := 28, ground := Ground.data }, { on := 17, ground := Ground.guard }], guard := some (17, false) }) (v := ?v2430) rfl (by kernel_rfl) (by kernel_rfl) (by kernel_rfl) (fun _ _ _ h => h) (Or.inl ⟨by rfl, ?hy2430⟩) (by assumption) ?rest2430
              case hy2430 => (intro W hSw; (try dsimp only at hSw); have e1 := HY1.out W hSw; have e2 := HY2.out W hSw; have f10 := HC10.out W hSw; have f11 := HC11.out W hSw; have f12 := HC12.out W hSw; have f20 := HC20.out W hSw; have f21 := HC21.out W hSw; have f22 := HC22.out W hSw; go_simp; try with_reducible rfl)
              simp only [Act.put, List.setIfInBounds_toArray, List.set_cons_zero, List.set_cons_succ]
              refine wpAnyH_take (i := 30) (oi := { dst := some 145, op := Op.binOp BinOp.neq 3 (Operand.tmp 138) (Operand.tmp 144) 3, type := 4, pos := "ref.go:281", after := #[{ on := 23, ground := Ground.data }, { on := 29, ground := Ground.data }, { on := 17, ground := Ground.guard }], guard := some (17, false) }) (v := ?v2431) rfl (by kernel_rfl) (by kernel_rfl) (by kernel_rfl) (fun _ _ _ h => h) (Or.inl ⟨by rfl, ?hy2431⟩) (by assumption) ?rest2431
              case hy2431 => (intro w hSw; (try dsimp only at hSw); go_simp; try with_reducible rfl)
              simp only [Act.put, List.setIfInBounds_toArray, List.set_cons_zero, List.set_cons_succ]
              refine wpAnyH_take (i := 31) (oi := { dst := some 146, op := Op.pick (Operand.tmp 132) (Operand.const (Value.bool true)) (Operand.tmp 145), type := 4, pos := "ref.go:281", after := #[{ on := 17, ground := Ground.data }, { on := 30, ground := Ground.data }], guard := none }) (v := ?v2432) rfl (by kernel_rfl) (by kernel_rfl) (by kernel_rfl) (fun _ _ _ h => h) (Or.inl ⟨by rfl, ?hy2432⟩) (by assumption) ?rest2432
              case hy2432 => (intro w hSw; (try dsimp only at hSw); go_simp; try with_reducible rfl)
              simp only [Act.put, List.setIfInBounds_toArray, List.set_cons_zero, List.set_cons_succ]
              refine wpAnyH_done (by kernel_rfl) ?_ _
              go_wp2
              go_roundw
              case rel => exact ⟨k + 1, by have h9 := HLt.out; omega, by go_num, ht_⟩
              case measure => have h9 := HLt.out; simp [intOf]; omega
            · have HW := hid hbel
              clear hbel
              have kme1 : wr.cell? ⟨w.heap.size, 3, none⟩ = some (.slice q1.me.a q1.me.n q1.me.c) := (BoxAt.cell (BoxAt.belowAll B1.out HW.out) 3).trans rfl
              have kme2 : wr.cell? ⟨(w.heap.size + 1), 3, none⟩ = some (.slice q2.me.a q2.me.n q2.me.c) := (BoxAt.cell (BoxAt.belowAll B2.out HW.out) 3).trans rfl
              go_wp2_with fail
              refine (ints_tot _ _ c1.me c1.me _ (H1.out.me.below (HB2.out.trans (HW.out.mono HB2.out.size))) (H2.out.me.below (HB2.out.trans (HW.out.mono HB2.out.size)))).mono ?_
              rintro e v1 ⟨⟨d1, rfl, hd1⟩, hbl⟩
              have HW := hid (HW.out.trans (hbl.mono HW.out.size))
              obtain rfl : d1 = true := hd1 rfl
              clear hbl hd1
              go_wp2_with (first
                | (refine wpList_load_box rfl 39 _ rfl w.heap.size rfl _ _ (BoxAt.belowAll B1.out HW.out) _ Try.underlying39 Try.infoPa ?_)
                | (refine wpList_load_box rfl 39 _ rfl (w.heap.size + 1) rfl _ _ (BoxAt.belowAll B2.out HW.out) _ Try.underlying39 Try.infoPa ?_)
                | fail)
              refine (objects_eq (H1.out.below (HB2.out.trans (HW.out.mono HB2.out.size))) (H2.out.below (HB2.out.trans (HW.out.mono HB2.out.size)))).mono ?_
              rintro e v2 ⟨rfl, hbl⟩
              have HW := hid (HW.out.trans (hbl.mono HW.out.size))
              clear hbl
              have kll1 : v2.cell? ⟨w.heap.size, 12, none⟩ = some (.slice q1.ll.a q1.ll.n q1.ll.c) := (BoxAt.cell (BoxAt.belowAll B1.out HW.out) 12).trans rfl
              have kll2 : v2.cell? ⟨(w.heap.size + 1), 12, none⟩ = some (.slice q2.ll.a q2.ll.n q2.ll.c) := (BoxAt.cell (BoxAt.belowAll B2.out HW.out) 12).trans rfl
              go_wp2_with fail
              refine (ints_tot _ _ c1.ll c1.ll _ (H1.out.ll.below (HB2.out.trans (HW.out.mono HB2.out.size))) (H2.out.ll.below (HB2.out.trans (HW.out.mono HB2.out.size)))).mono ?_
              rintro e v3 ⟨⟨d3, rfl, hd3⟩, hbl⟩
              have HW := hid (HW.out.trans (hbl.mono HW.out.size))
              obtain rfl : d3 = true := hd3 rfl
              clear hbl hd3
              have kgi1 : v3.cell? ⟨w.heap.size, 14, none⟩ = some (.slice q1.gi.a q1.gi.n q1.gi.c) := (BoxAt.cell (BoxAt.belowAll B1.out HW.out) 14).trans rfl
              have kgi2 : v3.cell? ⟨(w.heap.size + 1), 14, none⟩ = some (.slice q2.gi.a q2.gi.n q2.gi.c) := (BoxAt.cell (BoxAt.belowAll B2.out HW.out) 14).trans rfl
              go_wp2_with fail
              refine (ints_tot _ _ c1.gi c1.gi _ (H1.out.gi.below (HB2.out.trans (HW.out.mono HB2.out.size))) (H2.out.gi.below (HB2.out.trans (HW.out.mono HB2.out.size)))).mono ?_
              rintro e v4 ⟨⟨d4, rfl, hd4⟩, hbl⟩
              have HW := hid (HW.out.trans (hbl.mono HW.out.size))
              obtain rfl : d4 = true := hd4 rfl
              clear hbl hd4
              have kld1 : v4.cell? ⟨w.heap.size, 11, none⟩ = some (.int .i64 q1.ld) := (BoxAt.cell (BoxAt.belowAll B1.out HW.out) 11).trans rfl
              have klx1 : v4.cell? ⟨w.heap.size, 13, none⟩ = some (.int .i64 q1.lx) := (BoxAt.cell (BoxAt.belowAll B1.out HW.out) 13).trans rfl
              have kld2 : v4.cell? ⟨(w.heap.size + 1), 11, none⟩ = some (.int .i64 q2.ld) := (BoxAt.cell (BoxAt.belowAll B2.out HW.out) 11).trans rfl
              have klx2 : v4.cell? ⟨(w.heap.size + 1), 13, none⟩ = some (.int .i64 q2.lx) := (BoxAt.cell (BoxAt.belowAll B2.out HW.out) 13).trans rfl
              have hf5 : (q1.ld == q2.ld) = true := by rw [H1.out.ld, H2.out.ld]; simp
              have hf6 : (q1.lx == q2.lx) = true := by rw [H1.out.lx, H2.out.lx]; simp
              go_wp2
              go_ret
              exact ⟨rfl, HB2.out.trans (Below.mono HW.out HB2.out.size)⟩

end Go.Proofs.Ytdanfnbclbiidaa
