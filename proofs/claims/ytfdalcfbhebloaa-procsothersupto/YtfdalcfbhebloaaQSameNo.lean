/-
  What the document's Same returns of two partitions that differ in what is next, or in a process.
-/
import Derived.Test.YtfdalcfbhebloaaQSame3E
namespace Go.Proofs.Ytfdalcfbhebloaa
open Go.RowKit
set_option linter.unusedVariables false

theorem fields_no3 {P : Program} (d : Nat) (xs ys : Array Value) (f0 f1 f2 : Field) (rest : List Field) (n0 : f0.name ≠ "_") (n1 : f1.name ≠ "_") (n2 : f2.name ≠ "_") (a0 b0 a1 b1 a2 b2 : Value) (r0 r1 r2 : Bool)
    (pa0 : ∀ w, (part f0.type xs f0.offset).run P w = .ok a0 w) (pb0 : ∀ w, (part f0.type ys f0.offset).run P w = .ok b0 w) (e0 : ∀ w, (Op.equalIn d f0.type a0 b0).run P w = .ok r0 w)
    (pa1 : ∀ w, (part f1.type xs f1.offset).run P w = .ok a1 w) (pb1 : ∀ w, (part f1.type ys f1.offset).run P w = .ok b1 w) (e1 : ∀ w, (Op.equalIn d f1.type a1 b1).run P w = .ok r1 w)
    (pa2 : ∀ w, (part f2.type xs f2.offset).run P w = .ok a2 w) (pb2 : ∀ w, (part f2.type ys f2.offset).run P w = .ok b2 w) (e2 : ∀ w, (Op.equalIn d f2.type a2 b2).run P w = .ok r2 w)
    (h : (r0 && (r1 && r2)) = false) (w : World) : (Op.eqFields d xs ys (f0 :: f1 :: f2 :: rest)).run P w = .ok false w := by
  rcases r0 with _ | _
  · simp only [Op.eqFields, if_pos n0, Sem.run_bind, pa0, pb0, e0, Result.andThen_ok, Bool.not_false, if_true, Sem.run_pure]
  rcases r1 with _ | _
  · simp only [Op.eqFields, if_pos n0, if_pos n1, Sem.run_bind, pa0, pb0, e0, pa1, pb1, e1, Result.andThen_ok, Bool.not_true, Bool.not_false, Bool.false_eq_true, if_false, if_true, Sem.run_pure]
  rcases r2 with _ | _
  · simp only [Op.eqFields, if_pos n0, if_pos n1, if_pos n2, Sem.run_bind, pa0, pb0, e0, pa1, pb1, e1, pa2, pb2, e2, Result.andThen_ok, Bool.not_true, Bool.not_false, Bool.false_eq_true, if_false, if_true, Sem.run_pure]
  · simp at h
/-- Two processes that differ in their state, their priority, or whether they are suspended. -/
def Px.apart (x y : Px) : Prop := ¬ (x.st = y.st ∧ x.pr = y.pr ∧ x.su = y.su)
theorem struct_no {P : Program} (d : Nat) (t : TypeId) (xs ys : Array Value) {fs : Array Field} (hu : P.underlying t = some (.struct fs)) (hp : P.stoodInHeld t = false) (h : ∀ w, (Op.eqFields d xs ys fs.toList).run P w = .ok false w) (w : World) : (Op.equalIn (d + 1) t (.agg xs) (.agg ys)).run P w = .ok false w := by
  have hf : P.fieldsOf t = fs := by unfold Program.fieldsOf; rw [hu]
  rw [run_equalIn_struct w d t xs ys (by rw [hf]; exact hu) hp, hf]
  exact h w
set_option maxRecDepth 100000 in
theorem eq_Px_no {x y : Px} (h : Px.apart x y) (w : World) : (Op.equalIn 10000 58 (.agg x.cells.toArray) (.agg y.cells.toArray)).run Try.prog w = .ok false w := by
  have hb : ((x.st == y.st) && ((x.pr == y.pr) && (x.su == y.su))) = false := by
    unfold Px.apart at h
    by_cases h0 : x.st = y.st
    · by_cases h1 : x.pr = y.pr
      · by_cases h2 : x.su = y.su
        · exact absurd ⟨h0, h1, h2⟩ h
        · simp [h2]
      · simp [h1]
    · simp [h0]
  have hh := struct_no (P := Try.prog) 9999 58 x.cells.toArray y.cells.toArray Try.underlying58 (by kernel_rfl)
    (fields_no3 9999 x.cells.toArray y.cells.toArray _ _ _ _ (by decide) (by decide) (by decide) _ _ _ _ _ _ (x.st == y.st) (x.pr == y.pr) (x.su == y.su)
      (part_one _ Try.underlying3 rfl rfl) (part_one _ Try.underlying3 rfl rfl) (eq_int 9998 x.st y.st)
      (part_one _ Try.underlying3 rfl rfl) (part_one _ Try.underlying3 rfl rfl) (eq_int 9998 x.pr y.pr)
      (part_one _ Try.underlying4 rfl rfl) (part_one _ Try.underlying4 rfl rfl) (eq_bool 9998 x.su y.su) hb)
  exact hh w

set_option maxRecDepth 100000 in
set_option maxHeartbeats 3200000 in
theorem same_nx {q1 q2 : PaV} {c1 c2 : Pa} {w : World} (h1 : PaAt w q1 c1) (h2 : PaAt w q2 c2) (hmd : c1.md = c2.md) (hbg : c1.bg = c2.bg) (hnx : c1.nx ≠ c2.nx) :
    Calls Try.prog 14 #[q1.val, q2.val] w fun e w' => e = .returned (.bool false) ∧ Below w.heap.size w w' := by
  have hcb0 : (q1.md != q2.md) = false := by rw [show q1.md = q2.md by rw [h1.md, h2.md, hmd]]; simp
  have hcb1 : (q1.bg != q2.bg) = false := by rw [show q1.bg = q2.bg by rw [h1.bg, h2.bg, hbg]]; simp
  have hcb2 : (q1.nx != q2.nx) = true := by rw [h1.nx, h2.nx]; simpa using hnx
  clear h1 h2 hmd hbg hnx
  go_enter Try.func14, Try.ntmps14
  go_wp2_with (first
  | (refine wpList_box rfl 39 (.tmp 0) rfl q1.cells.toArray rfl ?_
     intro w1 b1 h1 z1
     have B1 := hid (show PaB w1 w.heap.size q1 from b1)
     have HBc := hid h1
     clear b1 h1)
  | (refine wpList_box rfl 39 (.tmp 1) rfl q2.cells.toArray rfl ?_
     intro w2 b2 h2 z2
     rw [z1] at b2
     have B2 := hid (show PaB w2 (w.heap.size + 1) q2 from b2)
     have B1 := hid (show PaB w2 w.heap.size q1 from BoxAt.belowAll B1.out h2)
     have HB2 := hid (HBc.out.trans (h2.mono (by omega)))
     have ksmd1 : w2.cell? ⟨w.heap.size, 0, none⟩ = some (.int .i64 q1.md) := (BoxAt.cell B1.out 0).trans rfl
     have ksmd2 : w2.cell? ⟨(w.heap.size + 1), 0, none⟩ = some (.int .i64 q2.md) := (BoxAt.cell B2.out 0).trans rfl
     have ksbg1 : w2.cell? ⟨w.heap.size, 1, none⟩ = some (.int .i64 q1.bg) := (BoxAt.cell B1.out 1).trans rfl
     have ksbg2 : w2.cell? ⟨(w.heap.size + 1), 1, none⟩ = some (.int .i64 q2.bg) := (BoxAt.cell B2.out 1).trans rfl
     have ksnx1 : w2.cell? ⟨w.heap.size, 2, none⟩ = some (.int .i64 q1.nx) := (BoxAt.cell B1.out 2).trans rfl
     have ksnx2 : w2.cell? ⟨(w.heap.size + 1), 2, none⟩ = some (.int .i64 q2.nx) := (BoxAt.cell B2.out 2).trans rfl
     clear b2 h2
     refine Hid.out ?_))
  refine hid ?_
  go_wp2_with fail
  go_ret
  exact ⟨rfl, HB2.out⟩

set_option maxRecDepth 100000 in
set_option maxHeartbeats 6400000 in
theorem same_pr {q1 q2 : PaV} {c1 c2 : Pa} {w : World} (h1 : PaAt w q1 c1) (h2 : PaAt w q2 c2) (hmd : c1.md = c2.md) (hbg : c1.bg = c2.bg) (hnx : c1.nx = c2.nx) (hlp : c1.pr.length = c2.pr.length) (hls : c1.sa.length = c2.sa.length) (hlq : c1.qu.length = c2.qu.length)
    (i0 : Nat) (hi0 : i0 < c1.pr.length) (hsame : ∀ j, j < i0 → c2.pr.getD j Px.zero = c1.pr.getD j Px.zero) (hap : Px.apart (c1.pr.getD i0 Px.zero) (c2.pr.getD i0 Px.zero)) :
    Calls Try.prog 14 #[q1.val, q2.val] w fun e w' => e = .returned (.bool false) ∧ Below w.heap.size w w' := by
  have HSa := hid hsame
  have HAp := hid hap
  have HI0 := hid hi0
  clear hsame hap
  have H1 := hid h1
  have H2 := hid h2
  clear h1 h2
  obtain ⟨apr1, cppr1, hvpr1, hcpr1, hmpr1, hepr1⟩ := (H1.out).pr.form
  unfold maxLen at hmpr1
  have HVpr1 := hid hvpr1
  have HEpr1 := hid hepr1
  have hbpr1 : c1.pr.length ≤ 9223372036854775807 := by omega
  clear hvpr1 hepr1 hcpr1 hmpr1
  obtain ⟨apr2, cppr2, hvpr2, hcpr2, hmpr2, hepr2⟩ := (H2.out).pr.form
  unfold maxLen at hmpr2
  rw [← hlp] at hvpr2 hcpr2 hepr2
  have HVpr2 := hid hvpr2
  have HEpr2 := hid hepr2
  have hbpr2 : c1.pr.length ≤ 9223372036854775807 := by omega
  clear hvpr2 hepr2 hcpr2 hmpr2
  obtain ⟨asa1, cpsa1, hvsa1, hcsa1, hmsa1, hesa1⟩ := (H1.out).sa.form
  unfold maxLen at hmsa1
  have HVsa1 := hid hvsa1
  have HEsa1 := hid hesa1
  have hbsa1 : c1.sa.length ≤ 9223372036854775807 := by omega
  clear hvsa1 hesa1 hcsa1 hmsa1
  obtain ⟨asa2, cpsa2, hvsa2, hcsa2, hmsa2, hesa2⟩ := (H2.out).sa.form
  unfold maxLen at hmsa2
  rw [← hls] at hvsa2 hcsa2 hesa2
  have HVsa2 := hid hvsa2
  have HEsa2 := hid hesa2
  have hbsa2 : c1.sa.length ≤ 9223372036854775807 := by omega
  clear hvsa2 hesa2 hcsa2 hmsa2
  obtain ⟨rsqu1, hsqu1, hnqu1, hatqu1⟩ := (H1.out).qu
  obtain ⟨aqu1, cpqu1, hvqu1, hcqu1, hmqu1, hequ1⟩ := hsqu1.form
  unfold maxLen at hmqu1
  have HVqu1 := hid hvqu1
  have HEqu1 := hid hequ1
  have HAqu1 := hid hatqu1
  have HNqu1 := hid hnqu1
  clear hsqu1 hnqu1 hatqu1
  have hbqu1 : rsqu1.length ≤ 9223372036854775807 := by omega
  clear hvqu1 hequ1 hcqu1 hmqu1
  obtain ⟨rsqu2, hsqu2, hnqu2, hatqu2⟩ := (H2.out).qu
  obtain ⟨aqu2, cpqu2, hvqu2, hcqu2, hmqu2, hequ2⟩ := hsqu2.form
  unfold maxLen at hmqu2
  have HVqu2 := hid hvqu2
  have HEqu2 := hid hequ2
  have HAqu2 := hid hatqu2
  have HNqu2 := hid hnqu2
  clear hsqu2 hnqu2 hatqu2
  have hbqu2 : rsqu2.length ≤ 9223372036854775807 := by omega
  clear hvqu2 hequ2 hcqu2 hmqu2
  have hcb0 : (q1.md != q2.md) = false := by rw [show q1.md = q2.md by rw [H1.out.md, H2.out.md, hmd]]; simp
  have hcb1 : (q1.bg != q2.bg) = false := by rw [show q1.bg = q2.bg by rw [H1.out.bg, H2.out.bg, hbg]]; simp
  have hcb2 : (q1.nx != q2.nx) = false := by rw [show q1.nx = q2.nx by rw [H1.out.nx, H2.out.nx, hnx]]; simp
  have hc3 : c1.pr.length = c1.pr.length := rfl
  have hcb3 : ((c1.pr.length : Int) != (c1.pr.length : Int)) = false := by simp
  have hc4 : c1.sa.length = c1.sa.length := rfl
  have hcb4 : ((c1.sa.length : Int) != (c1.sa.length : Int)) = false := by simp
  have hc5 : rsqu1.length = rsqu2.length := by have h1 := HNqu1.out; have h2 := HNqu2.out; omega
  have hcb5 : ((rsqu1.length : Int) != (rsqu2.length : Int)) = false := by simp; omega
  have HLpr := hid hc3
  clear hc3
  have HLsa := hid hc4
  clear hc4
  have HLqu := hid hc5
  clear hc5
  clear hmd hbg hnx hlp hls hlq
  go_enter Try.func14, Try.ntmps14
  go_wp2_with (first
  | (refine wpList_box rfl 39 (.tmp 0) rfl q1.cells.toArray rfl ?_
     intro w1 b1 h1 z1
     have B1 := hid (show PaB w1 w.heap.size q1 from b1)
     have HBc := hid h1
     clear b1 h1)
  | (refine wpList_box rfl 39 (.tmp 1) rfl q2.cells.toArray rfl ?_
     intro w2 b2 h2 z2
     rw [z1] at b2
     have B2 := hid (show PaB w2 (w.heap.size + 1) q2 from b2)
     have B1 := hid (show PaB w2 w.heap.size q1 from BoxAt.belowAll B1.out h2)
     have HB2 := hid (HBc.out.trans (h2.mono (by omega)))
     have HW := hid (Below.refl w2.heap.size w2)
     have HHpr1 := hid (show ∀ W, Below w2.heap.size w2 W → W.cell? ⟨w.heap.size, 4, none⟩ = some (.slice apr1 c1.pr.length cppr1) from fun W hW => (BoxAt.cell (BoxAt.belowAll B1.out hW) 4).trans (by show some q1.pr.val = _; rw [HVpr1.out]))
     have kzpr1 := HHpr1.out w2 (Below.refl _ _)
     have HHpr2 := hid (show ∀ W, Below w2.heap.size w2 W → W.cell? ⟨(w.heap.size + 1), 4, none⟩ = some (.slice apr2 c1.pr.length cppr2) from fun W hW => (BoxAt.cell (BoxAt.belowAll B2.out hW) 4).trans (by show some q2.pr.val = _; rw [HVpr2.out]))
     have kzpr2 := HHpr2.out w2 (Below.refl _ _)
     have HHsa1 := hid (show ∀ W, Below w2.heap.size w2 W → W.cell? ⟨w.heap.size, 9, none⟩ = some (.slice asa1 c1.sa.length cpsa1) from fun W hW => (BoxAt.cell (BoxAt.belowAll B1.out hW) 9).trans (by show some q1.sa.val = _; rw [HVsa1.out]))
     have kzsa1 := HHsa1.out w2 (Below.refl _ _)
     have HHsa2 := hid (show ∀ W, Below w2.heap.size w2 W → W.cell? ⟨(w.heap.size + 1), 9, none⟩ = some (.slice asa2 c1.sa.length cpsa2) from fun W hW => (BoxAt.cell (BoxAt.belowAll B2.out hW) 9).trans (by show some q2.sa.val = _; rw [HVsa2.out]))
     have kzsa2 := HHsa2.out w2 (Below.refl _ _)
     have HHqu1 := hid (show ∀ W, Below w2.heap.size w2 W → W.cell? ⟨w.heap.size, 10, none⟩ = some (.slice aqu1 rsqu1.length cpqu1) from fun W hW => (BoxAt.cell (BoxAt.belowAll B1.out hW) 10).trans (by show some q1.qu.val = _; rw [HVqu1.out]))
     have kzqu1 := HHqu1.out w2 (Below.refl _ _)
     have HHqu2 := hid (show ∀ W, Below w2.heap.size w2 W → W.cell? ⟨(w.heap.size + 1), 10, none⟩ = some (.slice aqu2 rsqu2.length cpqu2) from fun W hW => (BoxAt.cell (BoxAt.belowAll B2.out hW) 10).trans (by show some q2.qu.val = _; rw [HVqu2.out]))
     have kzqu2 := HHqu2.out w2 (Below.refl _ _)
     have ksmd1 : w2.cell? ⟨w.heap.size, 0, none⟩ = some (.int .i64 q1.md) := (BoxAt.cell B1.out 0).trans rfl
     have ksmd2 : w2.cell? ⟨(w.heap.size + 1), 0, none⟩ = some (.int .i64 q2.md) := (BoxAt.cell B2.out 0).trans rfl
     have ksbg1 : w2.cell? ⟨w.heap.size, 1, none⟩ = some (.int .i64 q1.bg) := (BoxAt.cell B1.out 1).trans rfl
     have ksbg2 : w2.cell? ⟨(w.heap.size + 1), 1, none⟩ = some (.int .i64 q2.bg) := (BoxAt.cell B2.out 1).trans rfl
     have ksnx1 : w2.cell? ⟨w.heap.size, 2, none⟩ = some (.int .i64 q1.nx) := (BoxAt.cell B1.out 2).trans rfl
     have ksnx2 : w2.cell? ⟨(w.heap.size + 1), 2, none⟩ = some (.int .i64 q2.nx) := (BoxAt.cell B2.out 2).trans rfl
     clear b2 h2
     refine Hid.out ?_))
  refine hid ?_
  go_wp2_with fail
  clear hi0
  go_loopw [5] (fun i wr => ∃ k : Nat, k ≤ i0 ∧ i = .int .i64 k ∧ Below w2.heap.size w2 wr) (fun i _ => c1.pr.length - (intOf i).toNat)
  case atStart => exact ⟨0, by omega, rfl, HW.out⟩
  case round =>
    obtain ⟨k, hk, rfl, hbel⟩ := hrel
    have kh1 := HHpr1.out wr hbel
    have kh2 := HHpr2.out wr hbel
    have hlt : k < c1.pr.length := by have := HI0.out; omega
    have HLt := hid hlt
    obtain ⟨b1, o1, rfl, hw1, hce1⟩ := HEpr1.out (by omega)
    have HX1 := hid (show ∀ W, Below w2.heap.size w2 W → W.rangeAt b1 (o1 + k * 18) (c1.pr.getD k Px.zero).cells from fun W hW => range_of2 _ fun j hj => ((HB2.out.trans (hW.mono HB2.out.size)).cell (by exact hw1)).trans (hce1 k hlt j hj))
    have HY1 := HHpr1
    obtain ⟨b2, o2, rfl, hw2, hce2⟩ := HEpr2.out (by omega)
    have HX2 := hid (show ∀ W, Below w2.heap.size w2 W → W.rangeAt b2 (o2 + k * 18) (c2.pr.getD k Px.zero).cells from fun W hW => range_of2 _ fun j hj => ((HB2.out.trans (hW.mono HB2.out.size)).cell (by exact hw2)).trans (hce2 k hlt j hj))
    have HY2 := HHpr2
    clear hce1 hce2
    by_cases hki : k = i0
    · have hnq := fun W => eq_Px_no (x := c1.pr.getD k Px.zero) (y := c2.pr.getD k Px.zero) (by rw [hki]; exact HAp.out) W
      clear hki hk
      generalize c1.pr.getD k Px.zero = x at HX1 hnq
      generalize c2.pr.getD k Px.zero = y at HX2 hnq
      have HNq := hid hnq
      clear hnq
      go_wp2_with fail
      refine wp_region_held_drew (S := (fun W => Below w2.heap.size w2 W)) (by kernel_rfl) (Below.drew hbel) (fun hHeld => ?_)
      refine wpAnyH_take (i := 0) (oi := { dst := some 66, op := Op.fieldAddr 39 (Operand.tmp 2) 4, type := 0, pos := "ref.go:270", after := #[], guard := none }) (v := ?v4801) rfl (by kernel_rfl) (by kernel_rfl) (by kernel_rfl) (fun _ _ _ h => h) (Or.inl ⟨by rfl, ?hy4801⟩) (by assumption) ?rest4801
      case hy4801 => (intro w hSw; (try dsimp only at hSw); go_simp; try with_reducible rfl)
      simp only [Act.put, List.setIfInBounds_toArray, List.set_cons_zero, List.set_cons_succ]
      refine wpAnyH_take (i := 1) (oi := { dst := some 67, op := Op.load 29 (Operand.tmp 66), type := 29, pos := "ref.go:270", after := #[{ on := 0, ground := Ground.data }], guard := none }) (v := ?v4802) rfl (by kernel_rfl) (by kernel_rfl) (by kernel_rfl) (fun _ _ _ h => h) (Or.inl ⟨by rfl, ?hy4802⟩) (by assumption) ?rest4802
      case hy4802 => (intro W hSw; (try dsimp only at hSw); have e1 := HY1.out W hSw; have e2 := HY2.out W hSw; go_simp; try with_reducible rfl)
      simp only [Act.put, List.setIfInBounds_toArray, List.set_cons_zero, List.set_cons_succ]
      refine wpAnyH_take (i := 2) (oi := { dst := some 68, op := Op.move (Operand.tmp 5), type := 3, pos := "ref.go:270", after := #[], guard := none }) (v := ?v4803) rfl (by kernel_rfl) (by kernel_rfl) (by kernel_rfl) (fun _ _ _ h => h) (Or.inl ⟨by rfl, ?hy4803⟩) (by assumption) ?rest4803
      case hy4803 => (intro w hSw; (try dsimp only at hSw); go_simp; try with_reducible rfl)
      simp only [Act.put, List.setIfInBounds_toArray, List.set_cons_zero, List.set_cons_succ]
      refine wpAnyH_take (i := 3) (oi := { dst := some 69, op := Op.indexAddr 29 (Operand.tmp 67) (Operand.tmp 68), type := 0, pos := "ref.go:270", after := #[{ on := 1, ground := Ground.data }, { on := 2, ground := Ground.data }], guard := none }) (v := ?v4804) rfl (by kernel_rfl) (by kernel_rfl) (by kernel_rfl) (fun _ _ _ h => h) (Or.inl ⟨by rfl, ?hy4804⟩) (by assumption) ?rest4804
      case hy4804 => (intro w hSw; (try dsimp only at hSw); go_simp; try with_reducible rfl)
      simp only [Act.put, List.setIfInBounds_toArray, List.set_cons_zero, List.set_cons_succ]
      refine wpAnyH_take (i := 4) (oi := { dst := some 70, op := Op.load 58 (Operand.tmp 69), type := 58, pos := "ref.go:270", after := #[{ on := 3, ground := Ground.data }], guard := none }) (v := ?v4805) rfl (by kernel_rfl) (by kernel_rfl) (by kernel_rfl) (fun _ _ _ h => h) (Or.inl ⟨by rfl, ?hy4805⟩) (by assumption) ?rest4805
      case hy4805 => (intro W hSw; refine el_yields 58 (.tmp 69) ?_ b1 (o1 + k * 18) ?_ x.cells _ Try.underlying58 Try.infoPx (HX1.out W hSw) <;> rfl)
      simp only [Act.put, List.setIfInBounds_toArray, List.set_cons_zero, List.set_cons_succ]
      refine wpAnyH_take (i := 5) (oi := { dst := some 71, op := Op.fieldAddr 39 (Operand.tmp 3) 4, type := 0, pos := "ref.go:270", after := #[], guard := none }) (v := ?v4806) rfl (by kernel_rfl) (by kernel_rfl) (by kernel_rfl) (fun _ _ _ h => h) (Or.inl ⟨by rfl, ?hy4806⟩) (by assumption) ?rest4806
      case hy4806 => (intro w hSw; (try dsimp only at hSw); go_simp; try with_reducible rfl)
      simp only [Act.put, List.setIfInBounds_toArray, List.set_cons_zero, List.set_cons_succ]
      refine wpAnyH_take (i := 6) (oi := { dst := some 72, op := Op.load 29 (Operand.tmp 71), type := 29, pos := "ref.go:270", after := #[{ on := 5, ground := Ground.data }], guard := none }) (v := ?v4807) rfl (by kernel_rfl) (by kernel_rfl) (by kernel_rfl) (fun _ _ _ h => h) (Or.inl ⟨by rfl, ?hy4807⟩) (by assumption) ?rest4807
      case hy4807 => (intro W hSw; (try dsimp only at hSw); have e1 := HY1.out W hSw; have e2 := HY2.out W hSw; go_simp; try with_reducible rfl)
      simp only [Act.put, List.setIfInBounds_toArray, List.set_cons_zero, List.set_cons_succ]
      refine wpAnyH_take (i := 7) (oi := { dst := some 73, op := Op.move (Operand.tmp 5), type := 3, pos := "ref.go:270", after := #[], guard := none }) (v := ?v4808) rfl (by kernel_rfl) (by kernel_rfl) (by kernel_rfl) (fun _ _ _ h => h) (Or.inl ⟨by rfl, ?hy4808⟩) (by assumption) ?rest4808
      case hy4808 => (intro w hSw; (try dsimp only at hSw); go_simp; try with_reducible rfl)
      simp only [Act.put, List.setIfInBounds_toArray, List.set_cons_zero, List.set_cons_succ]
      refine wpAnyH_take (i := 8) (oi := { dst := some 74, op := Op.indexAddr 29 (Operand.tmp 72) (Operand.tmp 73), type := 0, pos := "ref.go:270", after := #[{ on := 6, ground := Ground.data }, { on := 7, ground := Ground.data }], guard := none }) (v := ?v4809) rfl (by kernel_rfl) (by kernel_rfl) (by kernel_rfl) (fun _ _ _ h => h) (Or.inl ⟨by rfl, ?hy4809⟩) (by assumption) ?rest4809
      case hy4809 => (intro w hSw; (try dsimp only at hSw); go_simp; try with_reducible rfl)
      simp only [Act.put, List.setIfInBounds_toArray, List.set_cons_zero, List.set_cons_succ]
      refine wpAnyH_take (i := 9) (oi := { dst := some 75, op := Op.load 58 (Operand.tmp 74), type := 58, pos := "ref.go:270", after := #[{ on := 8, ground := Ground.data }], guard := none }) (v := ?v4810) rfl (by kernel_rfl) (by kernel_rfl) (by kernel_rfl) (fun _ _ _ h => h) (Or.inl ⟨by rfl, ?hy4810⟩) (by assumption) ?rest4810
      case hy4810 => (intro W hSw; refine el_yields 58 (.tmp 74) ?_ b2 (o2 + k * 18) ?_ y.cells _ Try.underlying58 Try.infoPx (HX2.out W hSw) <;> rfl)
      simp only [Act.put, List.setIfInBounds_toArray, List.set_cons_zero, List.set_cons_succ]
      refine wpAnyH_take (i := 10) (oi := { dst := some 76, op := Op.binOp BinOp.neq 58 (Operand.tmp 70) (Operand.tmp 75) 58, type := 4, pos := "ref.go:270", after := #[{ on := 4, ground := Ground.data }, { on := 9, ground := Ground.data }], guard := none }) (v := ?v4811) rfl (by kernel_rfl) (by kernel_rfl) (by kernel_rfl) (fun _ _ _ h => h) (Or.inl ⟨by rfl, ?hy4811⟩) (by assumption) ?rest4811
      case hy4811 => (intro W hSw; refine neq_yields 58 58 (.tmp 70) (.tmp 75) ?_ x.cells.toArray y.cells.toArray ?_ ?_ false HNq.out (by kernel_rfl) W <;> rfl)
      simp only [Act.put, List.setIfInBounds_toArray, List.set_cons_zero, List.set_cons_succ]
      refine wpAnyH_done (by kernel_rfl) ?_ _
      go_wp2
      go_ret
      exact ⟨rfl, HB2.out.trans (hHeld.mono HB2.out.size)⟩
    · have HKi := hid hki
      have HKk := hid hk
      rw [HSa.out k (by omega)] at HX2
      clear hki hk
      generalize c1.pr.getD k Px.zero = x at HX1 HX2
      obtain ⟨B, hnq, hB⟩ := eq_Px x x
      obtain rfl : B = true := hB rfl
      have HNq := hid hnq
      clear hnq hB
      go_wp2_with fail
      refine wp_region_held_drew (S := (fun W => Below w2.heap.size w2 W)) (by kernel_rfl) (Below.drew hbel) (fun hHeld => ?_)
      refine wpAnyH_take (i := 0) (oi := { dst := some 66, op := Op.fieldAddr 39 (Operand.tmp 2) 4, type := 0, pos := "ref.go:270", after := #[], guard := none }) (v := ?v5801) rfl (by kernel_rfl) (by kernel_rfl) (by kernel_rfl) (fun _ _ _ h => h) (Or.inl ⟨by rfl, ?hy5801⟩) (by assumption) ?rest5801
      case hy5801 => (intro w hSw; (try dsimp only at hSw); go_simp; try with_reducible rfl)
      simp only [Act.put, List.setIfInBounds_toArray, List.set_cons_zero, List.set_cons_succ]
      refine wpAnyH_take (i := 1) (oi := { dst := some 67, op := Op.load 29 (Operand.tmp 66), type := 29, pos := "ref.go:270", after := #[{ on := 0, ground := Ground.data }], guard := none }) (v := ?v5802) rfl (by kernel_rfl) (by kernel_rfl) (by kernel_rfl) (fun _ _ _ h => h) (Or.inl ⟨by rfl, ?hy5802⟩) (by assumption) ?rest5802
      case hy5802 => (intro W hSw; (try dsimp only at hSw); have e1 := HY1.out W hSw; have e2 := HY2.out W hSw; go_simp; try with_reducible rfl)
      simp only [Act.put, List.setIfInBounds_toArray, List.set_cons_zero, List.set_cons_succ]
      refine wpAnyH_take (i := 2) (oi := { dst := some 68, op := Op.move (Operand.tmp 5), type := 3, pos := "ref.go:270", after := #[], guard := none }) (v := ?v5803) rfl (by kernel_rfl) (by kernel_rfl) (by kernel_rfl) (fun _ _ _ h => h) (Or.inl ⟨by rfl, ?hy5803⟩) (by assumption) ?rest5803
      case hy5803 => (intro w hSw; (try dsimp only at hSw); go_simp; try with_reducible rfl)
      simp only [Act.put, List.setIfInBounds_toArray, List.set_cons_zero, List.set_cons_succ]
      refine wpAnyH_take (i := 3) (oi := { dst := some 69, op := Op.indexAddr 29 (Operand.tmp 67) (Operand.tmp 68), type := 0, pos := "ref.go:270", after := #[{ on := 1, ground := Ground.data }, { on := 2, ground := Ground.data }], guard := none }) (v := ?v5804) rfl (by kernel_rfl) (by kernel_rfl) (by kernel_rfl) (fun _ _ _ h => h) (Or.inl ⟨by rfl, ?hy5804⟩) (by assumption) ?rest5804
      case hy5804 => (intro w hSw; (try dsimp only at hSw); go_simp; try with_reducible rfl)
      simp only [Act.put, List.setIfInBounds_toArray, List.set_cons_zero, List.set_cons_succ]
      refine wpAnyH_take (i := 4) (oi := { dst := some 70, op := Op.load 58 (Operand.tmp 69), type := 58, pos := "ref.go:270", after := #[{ on := 3, ground := Ground.data }], guard := none }) (v := ?v5805) rfl (by kernel_rfl) (by kernel_rfl) (by kernel_rfl) (fun _ _ _ h => h) (Or.inl ⟨by rfl, ?hy5805⟩) (by assumption) ?rest5805
      case hy5805 => (intro W hSw; refine el_yields 58 (.tmp 69) ?_ b1 (o1 + k * 18) ?_ x.cells _ Try.underlying58 Try.infoPx (HX1.out W hSw) <;> rfl)
      simp only [Act.put, List.setIfInBounds_toArray, List.set_cons_zero, List.set_cons_succ]
      refine wpAnyH_take (i := 5) (oi := { dst := some 71, op := Op.fieldAddr 39 (Operand.tmp 3) 4, type := 0, pos := "ref.go:270", after := #[], guard := none }) (v := ?v5806) rfl (by kernel_rfl) (by kernel_rfl) (by kernel_rfl) (fun _ _ _ h => h) (Or.inl ⟨by rfl, ?hy5806⟩) (by assumption) ?rest5806
      case hy5806 => (intro w hSw; (try dsimp only at hSw); go_simp; try with_reducible rfl)
      simp only [Act.put, List.setIfInBounds_toArray, List.set_cons_zero, List.set_cons_succ]
      refine wpAnyH_take (i := 6) (oi := { dst := some 72, op := Op.load 29 (Operand.tmp 71), type := 29, pos := "ref.go:270", after := #[{ on := 5, ground := Ground.data }], guard := none }) (v := ?v5807) rfl (by kernel_rfl) (by kernel_rfl) (by kernel_rfl) (fun _ _ _ h => h) (Or.inl ⟨by rfl, ?hy5807⟩) (by assumption) ?rest5807
      case hy5807 => (intro W hSw; (try dsimp only at hSw); have e1 := HY1.out W hSw; have e2 := HY2.out W hSw; go_simp; try with_reducible rfl)
      simp only [Act.put, List.setIfInBounds_toArray, List.set_cons_zero, List.set_cons_succ]
      refine wpAnyH_take (i := 7) (oi := { dst := some 73, op := Op.move (Operand.tmp 5), type := 3, pos := "ref.go:270", after := #[], guard := none }) (v := ?v5808) rfl (by kernel_rfl) (by kernel_rfl) (by kernel_rfl) (fun _ _ _ h => h) (Or.inl ⟨by rfl, ?hy5808⟩) (by assumption) ?rest5808
      case hy5808 => (intro w hSw; (try dsimp only at hSw); go_simp; try with_reducible rfl)
      simp only [Act.put, List.setIfInBounds_toArray, List.set_cons_zero, List.set_cons_succ]
      refine wpAnyH_take (i := 8) (oi := { dst := some 74, op := Op.indexAddr 29 (Operand.tmp 72) (Operand.tmp 73), type := 0, pos := "ref.go:270", after := #[{ on := 6, ground := Ground.data }, { on := 7, ground := Ground.data }], guard := none }) (v := ?v5809) rfl (by kernel_rfl) (by kernel_rfl) (by kernel_rfl) (fun _ _ _ h => h) (Or.inl ⟨by rfl, ?hy5809⟩) (by assumption) ?rest5809
      case hy5809 => (intro w hSw; (try dsimp only at hSw); go_simp; try with_reducible rfl)
      simp only [Act.put, List.setIfInBounds_toArray, List.set_cons_zero, List.set_cons_succ]
      refine wpAnyH_take (i := 9) (oi := { dst := some 75, op := Op.load 58 (Operand.tmp 74), type := 58, pos := "ref.go:270", after := #[{ on := 8, ground := Ground.data }], guard := none }) (v := ?v5810) rfl (by kernel_rfl) (by kernel_rfl) (by kernel_rfl) (fun _ _ _ h => h) (Or.inl ⟨by rfl, ?hy5810⟩) (by assumption) ?rest5810
      case hy5810 => (intro W hSw; refine el_yields 58 (.tmp 74) ?_ b2 (o2 + k * 18) ?_ x.cells _ Try.underlying58 Try.infoPx (HX2.out W hSw) <;> rfl)
      simp only [Act.put, List.setIfInBounds_toArray, List.set_cons_zero, List.set_cons_succ]
      refine wpAnyH_take (i := 10) (oi := { dst := some 76, op := Op.binOp BinOp.neq 58 (Operand.tmp 70) (Operand.tmp 75) 58, type := 4, pos := "ref.go:270", after := #[{ on := 4, ground := Ground.data }, { on := 9, ground := Ground.data }], guard := none }) (v := ?v5811) rfl (by kernel_rfl) (by kernel_rfl) (by kernel_rfl) (fun _ _ _ h => h) (Or.inl ⟨by rfl, ?hy5811⟩) (by assumption) ?rest5811
      case hy5811 => (intro W hSw; refine neq_yields 58 58 (.tmp 70) (.tmp 75) ?_ x.cells.toArray x.cells.toArray ?_ ?_ true HNq.out (by kernel_rfl) W <;> rfl)
      simp only [Act.put, List.setIfInBounds_toArray, List.set_cons_zero, List.set_cons_succ]
      refine wpAnyH_done (by kernel_rfl) ?_ _
      go_wp2
      go_roundw
      case rel => exact ⟨k + 1, by have h8 := HKk.out; have h9 := HKi.out; omega, by go_num, hHeld⟩
      case measure => have h9 := HLt.out; simp [intOf]; omega
end Go.Proofs.Ytfdalcfbhebloaa
