/-
  What the document's waits, objects return: that there is an answer, and that it is yes where these are the same.
-/
import Derived.Test.YtdanfnbclbiidaaQSame1
import Derived.BigQuiet
import Derived.Deep.RegionHeld3
namespace Go.Proofs.Ytdanfnbclbiidaa
open Go.RowKit
set_option linter.unusedVariables false


theorem el_yields {o : Oper} {a : Act} (T : TypeId) (x : Operand) (ho : o.op = .load T x) (b off : Nat) (hx : a.eval x = .pointer (some ⟨b, off, none⟩)) (cs : List Value) (fs : Array Field) (hu : Try.prog.underlying T = some (.struct fs)) (hi : (Try.prog.info? T).map (·.size) = some cs.length) {w : World} (hc : w.rangeAt b off cs) :
    (execOp a.eval o).run Try.prog w = .ok (.value (.agg cs.toArray)) w := by
  unfold execOp
  simp only [ho, hx, Instr.loadAt, Instr.sureAddr, Sem.run_bind, Sem.run_pure, Result.andThen_ok, run_loadVar_mid w b off T cs _ hc hu rfl hi]
theorem range_of2 {w : World} {b o : Nat} (cs : List Value) (h : ∀ j, j < cs.length → w.cell? ⟨b, o + j, none⟩ = some (cs.getD j .nilIface)) : w.rangeAt b o cs := fun j v hj => by
  have hl : j < cs.length := (List.getElem?_eq_some_iff.1 hj).1
  rw [h j hl, ← hj]
  simp [List.getD, List.getElem?_eq_getElem hl]
theorem Try.infoWt1 : (Try.prog.info? 104).map (·.size) = some 3 := by kernel_rfl
theorem Try.infoSp1 : (Try.prog.info? 78).map (·.size) = some 3 := by kernel_rfl

set_option maxRecDepth 100000 in
set_option maxHeartbeats 800000 in
theorem waits_tot (va vb : Value) (xs ys : List Wt) (w : World) (ha : SeesWt w va xs) (hb : SeesWt w vb ys) :
    Calls Try.prog 48 #[va, vb] w fun e w' => IsT (xs = ys) e ∧ Below w.heap.size w w' := by
  obtain ⟨a, ca, rfl, ha1, ha2, hac⟩ := ha.form
  obtain ⟨b, cb, rfl, hb1, hb2, hbc⟩ := hb.form
  unfold maxLen at ha2 hb2
  have HA := hid hac
  have HB := hid hbc
  clear ha hb hac hbc
  by_cases hl : xs.length = ys.length
  · have hlb : ((xs.length : Int) != (ys.length : Int)) = false := by simp [hl]
    have HL := hid hl
    clear hl
    go_enter Try.func48, Try.ntmps48
    go_wp2
    go_loopw [5] (fun i wr => ∃ k : Nat, k ≤ xs.length ∧ i = .int .i64 k ∧ Below w.heap.size w wr) (fun i _ => xs.length - (intOf i).toNat)
    case atStart => exact ⟨0, by omega, rfl, Below.refl _ _⟩
    case round =>
      obtain ⟨k, hk, rfl, hbel⟩ := hrel
      by_cases hlt : k < xs.length
      · have hlt2 : k < ys.length := by rw [← HL.out]; exact hlt
        obtain ⟨b1, o1, rfl, hw1, hc1⟩ := HA.out (by omega)
        obtain ⟨b2, o2, rfl, hw2, hc2⟩ := HB.out (by omega)
        have HE1 := hid (show ∀ W, Below w.heap.size w W → W.rangeAt b1 (o1 + k * 3) (xs.getD k Wt.zero).cells from fun W hW => range_of2 _ fun j hj => (hW.cell (by exact hw1)).trans (hc1 k hlt j hj))
        have HE2 := hid (show ∀ W, Below w.heap.size w W → W.rangeAt b2 (o2 + k * 3) (ys.getD k Wt.zero).cells from fun W hW => range_of2 _ fun j hj => (hW.cell (by exact hw2)).trans (hc2 k hlt2 j hj))
        have HN := hid (show xs = ys → xs.getD k Wt.zero = ys.getD k Wt.zero from fun e => by rw [e])
        clear hc1 hc2 HA HB
        generalize xs.getD k Wt.zero = x at *
        generalize ys.getD k Wt.zero = y at *
        obtain ⟨B, hnq, hB⟩ := eq_Wt x y
        have HNq := hid hnq
        have HBq := hid hB
        clear hnq hB
        go_wp2_with fail
        refine wp_region_held_drew (S := (fun W => Below w.heap.size w W)) (by kernel_rfl) (hbel.drew) (fun hHeld => ?_)
        refine wpAnyH_take (i := 0) (oi := { dst := some 17, op := Op.move (Operand.tmp 0), type := 65, pos := "ref.go:211", after := #[], guard := none }) (v := ?v201) rfl (by kernel_rfl) (by kernel_rfl) (by kernel_rfl) (fun _ _ _ h => h) (Or.inl ⟨by rfl, ?hy201⟩) (by assumption) ?rest201
        case hy201 => (intro w hSw; (try dsimp only at hSw); go_simp; try with_reducible rfl)
        simp only [Act.put, List.setIfInBounds_toArray, List.set_cons_zero, List.set_cons_succ]
        refine wpAnyH_take (i := 1) (oi := { dst := some 18, op := Op.move (Operand.tmp 5), type := 3, pos := "ref.go:211", after := #[], guard := none }) (v := ?v202) rfl (by kernel_rfl) (by kernel_rfl) (by kernel_rfl) (fun _ _ _ h => h) (Or.inl ⟨by rfl, ?hy202⟩) (by assumption) ?rest202
        case hy202 => (intro w hSw; (try dsimp only at hSw); go_simp; try with_reducible rfl)
        simp only [Act.put, List.setIfInBounds_toArray, List.set_cons_zero, List.set_cons_succ]
        refine wpAnyH_take (i := 2) (oi := { dst := some 19, op := Op.indexAddr 65 (Operand.tmp 17) (Operand.tmp 18), type := 0, pos := "ref.go:211", after := #[{ on := 0, ground := Ground.data }, { on := 1, ground := Ground.data }], guard := none }) (v := ?v203) rfl (by kernel_rfl) (by kernel_rfl) (by kernel_rfl) (fun _ _ _ h => h) (Or.inl ⟨by rfl, ?hy203⟩) (by assumption) ?rest203
        case hy203 => (intro w hSw; (try dsimp only at hSw); go_simp; try with_reducible rfl)
        simp only [Act.put, List.setIfInBounds_toArray, List.set_cons_zero, List.set_cons_succ]
        refine wpAnyH_take (i := 3) (oi := { dst := some 20, op := Op.load 104 (Operand.tmp 19), type := 104, pos := "ref.go:211", after := #[{ on := 2, ground := Ground.data }], guard := none }) (v := ?v204) rfl (by kernel_rfl) (by kernel_rfl) (by kernel_rfl) (fun _ _ _ h => h) (Or.inl ⟨by rfl, ?hy204⟩) (by assumption) ?rest204
        case hy204 => (intro W hSw; refine el_yields 104 (.tmp 19) ?_ b1 (o1 + k * 3) ?_ x.cells _ Try.underlying104 Try.infoWt1 (HE1.out W hSw) <;> rfl)
        simp only [Act.put, List.setIfInBounds_toArray, List.set_cons_zero, List.set_cons_succ]
        refine wpAnyH_take (i := 4) (oi := { dst := some 21, op := Op.move (Operand.tmp 1), type := 65, pos := "ref.go:211", after := #[], guard := none }) (v := ?v205) rfl (by kernel_rfl) (by kernel_rfl) (by kernel_rfl) (fun _ _ _ h => h) (Or.inl ⟨by rfl, ?hy205⟩) (by assumption) ?rest205
        case hy205 => (intro w hSw; (try dsimp only at hSw); go_simp; try with_reducible rfl)
        simp only [Act.put, List.setIfInBounds_toArray, List.set_cons_zero, List.set_cons_succ]
        refine wpAnyH_take (i := 5) (oi := { dst := some 22, op := Op.move (Operand.tmp 5), type := 3, pos := "ref.go:211", after := #[], guard := none }) (v := ?v206) rfl (by kernel_rfl) (by kernel_rfl) (by kernel_rfl) (fun _ _ _ h => h) (Or.inl ⟨by rfl, ?hy206⟩) (by assumption) ?rest206
        case hy206 => (intro w hSw; (try dsimp only at hSw); go_simp; try with_reducible rfl)
        simp only [Act.put, List.setIfInBounds_toArray, List.set_cons_zero, List.set_cons_succ]
        refine wpAnyH_take (i := 6) (oi := { dst := some 23, op := Op.indexAddr 65 (Operand.tmp 21) (Operand.tmp 22), type := 0, pos := "ref.go:211", after := #[{ on := 4, ground := Ground.data }, { on := 5, ground := Ground.data }], guard := none }) (v := ?v207) rfl (by kernel_rfl) (by kernel_rfl) (by kernel_rfl) (fun _ _ _ h => h) (Or.inl ⟨by rfl, ?hy207⟩) (by assumption) ?rest207
        case hy207 => (intro w hSw; (try dsimp only at hSw); go_simp; try with_reducible rfl)
        simp only [Act.put, List.setIfInBounds_toArray, List.set_cons_zero, List.set_cons_succ]
        refine wpAnyH_take (i := 7) (oi := { dst := some 24, op := Op.load 104 (Operand.tmp 23), type := 104, pos := "ref.go:211", after := #[{ on := 6, ground := Ground.data }], guard := none }) (v := ?v208) rfl (by kernel_rfl) (by kernel_rfl) (by kernel_rfl) (fun _ _ _ h => h) (Or.inl ⟨by rfl, ?hy208⟩) (by assumption) ?rest208
        case hy208 => (intro W hSw; refine el_yields 104 (.tmp 23) ?_ b2 (o2 + k * 3) ?_ y.cells _ Try.underlying104 Try.infoWt1 (HE2.out W hSw) <;> rfl)
        simp only [Act.put, List.setIfInBounds_toArray, List.set_cons_zero, List.set_cons_succ]
        refine wpAnyH_take (i := 8) (oi := { dst := some 25, op := Op.binOp BinOp.neq 104 (Operand.tmp 20) (Operand.tmp 24) 104, type := 4, pos := "ref.go:211", after := #[{ on := 3, ground := Ground.data }, { on := 7, ground := Ground.data }], guard := none }) (v := ?v209) rfl (by kernel_rfl) (by kernel_rfl) (by kernel_rfl) (fun _ _ _ h => h) (Or.inl ⟨by rfl, ?hy209⟩) (by assumption) ?rest209
        case hy209 => (intro W hSw; refine neq_yields 104 104 (.tmp 20) (.tmp 24) ?_ x.cells.toArray y.cells.toArray ?_ ?_ B HNq.out (by kernel_rfl) W <;> rfl)
        simp only [Act.put, List.setIfInBounds_toArray, List.set_cons_zero, List.set_cons_succ]
        refine wpAnyH_done (by kernel_rfl) ?_ _
        rcases B with _ | _
        · go_wp2
          go_ret
          exact ⟨IsT.no (fun e => by have h := HBq.out (HN.out e); cases h), hHeld⟩
        · go_wp2
          go_roundw
          case rel => exact ⟨k + 1, by omega, by go_num, hHeld⟩
          case measure => simp [intOf]; omega
      · go_wp2
        go_ret
        exact ⟨IsT.yes _, hbel⟩
  · have hlb : ((xs.length : Int) != (ys.length : Int)) = true := by simp; omega
    have hn : ¬ xs = ys := fun h => hl (by rw [h])
    have HN := hid hn
    clear hl hn
    go_enter Try.func48, Try.ntmps48
    go_wp2
    go_ret
    exact ⟨IsT.no HN.out, Below.refl _ _⟩

set_option maxRecDepth 100000 in
set_option maxHeartbeats 6400000 in
theorem objects_eq {q1 q2 : PaV} {c1 : Pa} {w : World} (h1 : PaAt w q1 c1) (h2 : PaAt w q2 c1) :
    Calls Try.prog 27 #[q1.val, q2.val] w fun e w' => e = .returned (.bool true) ∧ Below w.heap.size w w' := by
  have H1 := hid h1
  have H2 := hid h2
  clear h1 h2
  obtain ⟨rsbo1, hsbo1, hnbo1, hatbo1⟩ := (H1.out).bo
  obtain ⟨abo1, cpbo1, hvbo1, hcbo1, hmbo1, hebo1⟩ := hsbo1.form
  unfold maxLen at hmbo1
  have HVbo1 := hid hvbo1
  have HEbo1 := hid hebo1
  have HAbo1 := hid hatbo1
  have HNbo1 := hid hnbo1
  clear hsbo1 hnbo1 hatbo1
  have hbbo1 : rsbo1.length ≤ 9223372036854775807 := by omega
  clear hvbo1 hebo1 hcbo1 hmbo1
  obtain ⟨rsbo2, hsbo2, hnbo2, hatbo2⟩ := (H2.out).bo
  obtain ⟨abo2, cpbo2, hvbo2, hcbo2, hmbo2, hebo2⟩ := hsbo2.form
  unfold maxLen at hmbo2
  have HVbo2 := hid hvbo2
  have HEbo2 := hid hebo2
  have HAbo2 := hid hatbo2
  have HNbo2 := hid hnbo2
  clear hsbo2 hnbo2 hatbo2
  have hbbo2 : rsbo2.length ≤ 9223372036854775807 := by omega
  clear hvbo2 hebo2 hcbo2 hmbo2
  obtain ⟨rsbu1, hsbu1, hnbu1, hatbu1⟩ := (H1.out).bu
  obtain ⟨abu1, cpbu1, hvbu1, hcbu1, hmbu1, hebu1⟩ := hsbu1.form
  unfold maxLen at hmbu1
  have HVbu1 := hid hvbu1
  have HEbu1 := hid hebu1
  have HAbu1 := hid hatbu1
  have HNbu1 := hid hnbu1
  clear hsbu1 hnbu1 hatbu1
  have hbbu1 : rsbu1.length ≤ 9223372036854775807 := by omega
  clear hvbu1 hebu1 hcbu1 hmbu1
  obtain ⟨rsbu2, hsbu2, hnbu2, hatbu2⟩ := (H2.out).bu
  obtain ⟨abu2, cpbu2, hvbu2, hcbu2, hmbu2, hebu2⟩ := hsbu2.form
  unfold maxLen at hmbu2
  have HVbu2 := hid hvbu2
  have HEbu2 := hid hebu2
  have HAbu2 := hid hatbu2
  have HNbu2 := hid hnbu2
  clear hsbu2 hnbu2 hatbu2
  have hbbu2 : rsbu2.length ≤ 9223372036854775807 := by omega
  clear hvbu2 hebu2 hcbu2 hmbu2
  obtain ⟨rsse1, hsse1, hnse1, hatse1⟩ := (H1.out).se
  obtain ⟨ase1, cpse1, hvse1, hcse1, hmse1, hese1⟩ := hsse1.form
  unfold maxLen at hmse1
  have HVse1 := hid hvse1
  have HEse1 := hid hese1
  have HAse1 := hid hatse1
  have HNse1 := hid hnse1
  clear hsse1 hnse1 hatse1
  have hbse1 : rsse1.length ≤ 9223372036854775807 := by omega
  clear hvse1 hese1 hcse1 hmse1
  obtain ⟨rsse2, hsse2, hnse2, hatse2⟩ := (H2.out).se
  obtain ⟨ase2, cpse2, hvse2, hcse2, hmse2, hese2⟩ := hsse2.form
  unfold maxLen at hmse2
  have HVse2 := hid hvse2
  have HEse2 := hid hese2
  have HAse2 := hid hatse2
  have HNse2 := hid hnse2
  clear hsse2 hnse2 hatse2
  have hbse2 : rsse2.length ≤ 9223372036854775807 := by omega
  clear hvse2 hese2 hcse2 hmse2
  obtain ⟨rsev1, hsev1, hnev1, hatev1⟩ := (H1.out).ev
  obtain ⟨aev1, cpev1, hvev1, hcev1, hmev1, heev1⟩ := hsev1.form
  unfold maxLen at hmev1
  have HVev1 := hid hvev1
  have HEev1 := hid heev1
  have HAev1 := hid hatev1
  have HNev1 := hid hnev1
  clear hsev1 hnev1 hatev1
  have hbev1 : rsev1.length ≤ 9223372036854775807 := by omega
  clear hvev1 heev1 hcev1 hmev1
  obtain ⟨rsev2, hsev2, hnev2, hatev2⟩ := (H2.out).ev
  obtain ⟨aev2, cpev2, hvev2, hcev2, hmev2, heev2⟩ := hsev2.form
  unfold maxLen at hmev2
  have HVev2 := hid hvev2
  have HEev2 := hid heev2
  have HAev2 := hid hatev2
  have HNev2 := hid hnev2
  clear hsev2 hnev2 hatev2
  have hbev2 : rsev2.length ≤ 9223372036854775807 := by omega
  clear hvev2 heev2 hcev2 hmev2
  have hc0 : rsbo1.length = rsbo2.length := by have h1 := HNbo1.out; have h2 := HNbo2.out; omega
  have hcb0 : ((rsbo1.length : Int) != (rsbo2.length : Int)) = false := by simp; omega
  have hc1 : rsbu1.length = rsbu2.length := by have h1 := HNbu1.out; have h2 := HNbu2.out; omega
  have hcb1 : ((rsbu1.length : Int) != (rsbu2.length : Int)) = false := by simp; omega
  have hc2 : rsse1.length = rsse2.length := by have h1 := HNse1.out; have h2 := HNse2.out; omega
  have hcb2 : ((rsse1.length : Int) != (rsse2.length : Int)) = false := by simp; omega
  have hc3 : rsev1.length = rsev2.length := by have h1 := HNev1.out; have h2 := HNev2.out; omega
  have hcb3 : ((rsev1.length : Int) != (rsev2.length : Int)) = false := by simp; omega
  have HLbo := hid hc0
  clear hc0
  have HLbu := hid hc1
  clear hc1
  have HLse := hid hc2
  clear hc2
  have HLev := hid hc3
  clear hc3
  go_enter Try.func27, Try.ntmps27
  go_wp2_with (first
  | (refine wpList_box rfl 39 (.tmp 0) rfl q1.cells.toArray rfl ?_
     intro w1 b1 h1 z1
     have B1 := hid (show PaB w1 w.heap.size q1 from b1)
     have HBc := hid h1
     clear b1 h1)
  | (refine wpList_box rfl 39 (.tmp 1) rfl q2.cells.toArray rfl ?_
     intro w2 b2 h2 z2
     rw [z1] at b2
     have B2 := hid (show PaB w2 (w.heap.size + 1) q2 from b2)
     have B1 := hid (show PaB w2 w.heap.size q1 from BoxAt.belowAll B1.out h2)
     have HB2 := hid (HBc.out.trans (h2.mono (by omega)))
     have HW := hid (Below.refl w2.heap.size w2)
     have HHbo1 := hid (show ∀ W, Below w2.heap.size w2 W → W.cell? ⟨w.heap.size, 5, none⟩ = some (.slice abo1 rsbo1.length cpbo1) from fun W hW => (BoxAt.cell (BoxAt.belowAll B1.out hW) 5).trans (by show some q1.bo.val = _; rw [HVbo1.out]))
     have kzbo1 := HHbo1.out w2 (Below.refl _ _)
     have HHbo2 := hid (show ∀ W, Below w2.heap.size w2 W → W.cell? ⟨(w.heap.size + 1), 5, none⟩ = some (.slice abo2 rsbo2.length cpbo2) from fun W hW => (BoxAt.cell (BoxAt.belowAll B2.out hW) 5).trans (by show some q2.bo.val = _; rw [HVbo2.out]))
     have kzbo2 := HHbo2.out w2 (Below.refl _ _)
     have HHbu1 := hid (show ∀ W, Below w2.heap.size w2 W → W.cell? ⟨w.heap.size, 6, none⟩ = some (.slice abu1 rsbu1.length cpbu1) from fun W hW => (BoxAt.cell (BoxAt.belowAll B1.out hW) 6).trans (by show some q1.bu.val = _; rw [HVbu1.out]))
     have kzbu1 := HHbu1.out w2 (Below.refl _ _)
     have HHbu2 := hid (show ∀ W, Below w2.heap.size w2 W → W.cell? ⟨(w.heap.size + 1), 6, none⟩ = some (.slice abu2 rsbu2.length cpbu2) from fun W hW => (BoxAt.cell (BoxAt.belowAll B2.out hW) 6).trans (by show some q2.bu.val = _; rw [HVbu2.out]))
     have kzbu2 := HHbu2.out w2 (Below.refl _ _)
     have HHse1 := hid (show ∀ W, Below w2.heap.size w2 W → W.cell? ⟨w.heap.size, 7, none⟩ = some (.slice ase1 rsse1.length cpse1) from fun W hW => (BoxAt.cell (BoxAt.belowAll B1.out hW) 7).trans (by show some q1.se.val = _; rw [HVse1.out]))
     have kzse1 := HHse1.out w2 (Below.refl _ _)
     have HHse2 := hid (show ∀ W, Below w2.heap.size w2 W → W.cell? ⟨(w.heap.size + 1), 7, none⟩ = some (.slice ase2 rsse2.length cpse2) from fun W hW => (BoxAt.cell (BoxAt.belowAll B2.out hW) 7).trans (by show some q2.se.val = _; rw [HVse2.out]))
     have kzse2 := HHse2.out w2 (Below.refl _ _)
     have HHev1 := hid (show ∀ W, Below w2.heap.size w2 W → W.cell? ⟨w.heap.size, 8, none⟩ = some (.slice aev1 rsev1.length cpev1) from fun W hW => (BoxAt.cell (BoxAt.belowAll B1.out hW) 8).trans (by show some q1.ev.val = _; rw [HVev1.out]))
     have kzev1 := HHev1.out w2 (Below.refl _ _)
     have HHev2 := hid (show ∀ W, Below w2.heap.size w2 W → W.cell? ⟨(w.heap.size + 1), 8, none⟩ = some (.slice aev2 rsev2.length cpev2) from fun W hW => (BoxAt.cell (BoxAt.belowAll B2.out hW) 8).trans (by show some q2.ev.val = _; rw [HVev2.out]))
     have kzev2 := HHev2.out w2 (Below.refl _ _)
     clear b2 h2))
  go_loopw [5] (fun i wr => ∃ k : Nat, k ≤ rsbo1.length ∧ i = .int .i64 k ∧ Below w2.heap.size w2 wr) (fun i _ => rsbo1.length - (intOf i).toNat)
  case atStart => exact ⟨0, by omega, rfl, HW.out⟩
  case round =>
    obtain ⟨k, hk, rfl, hbel⟩ := hrel
    have kh1 := HHbo1.out wr hbel
    have kh2 := HHbo2.out wr hbel
    by_cases hlt : k < rsbo1.length
    · have hlt2 : k < rsbo2.length := by have := HLbo.out; omega
      have HLt := hid hlt
      obtain ⟨b1, o1, rfl, hw1, hce1⟩ := HEbo1.out (by omega)
      have HX1 := hid (show ∀ W, Below w2.heap.size w2 W → ∀ j, j < 3 → W.cell? ⟨b1, o1 + k * 3 + j, none⟩ = some ((rsbo1.getD k BdV.zero).cells.getD j .nilIface) from fun W hW j hj => ((HB2.out.trans (hW.mono HB2.out.size)).cell (by exact hw1)).trans (hce1 k hlt j hj))
      have HQ1 := hid (HAbo1.out k hlt)
      have HY1 := HHbo1
      obtain ⟨b2, o2, rfl, hw2, hce2⟩ := HEbo2.out (by omega)
      have HX2 := hid (show ∀ W, Below w2.heap.size w2 W → ∀ j, j < 3 → W.cell? ⟨b2, o2 + k * 3 + j, none⟩ = some ((rsbo2.getD k BdV.zero).cells.getD j .nilIface) from fun W hW j hj => ((HB2.out.trans (hW.mono HB2.out.size)).cell (by exact hw2)).trans (hce2 k hlt2 j hj))
      have HQ2 := hid (HAbo2.out k hlt2)
      have HY2 := HHbo2
      clear hce1 hce2
      generalize c1.bo.getD k Bd.zero = x at HQ1 HQ2
      generalize rsbo1.getD k BdV.zero = q at HX1 HQ1
      generalize rsbo2.getD k BdV.zero = p at HX2 HQ2
      obtain ⟨qx0, qx1, ⟨qa2, qn2, qc2⟩⟩ := q
      obtain ⟨px0, px1, ⟨pa2, pn2, pc2⟩⟩ := p
      have HC10 := hid (show ∀ W, Below w2.heap.size w2 W → W.cell? ⟨b1, o1 + k * 3, none⟩ = some (.bool qx0) from fun W hW => (HX1.out W hW 0 (by decide)).trans rfl)
      have HC11 := hid (show ∀ W, Below w2.heap.size w2 W → W.cell? ⟨b1, o1 + k * 3 + 1, none⟩ = some (.int .i64 qx1) from fun W hW => (HX1.out W hW 1 (by decide)).trans rfl)
      have HC12 := hid (show ∀ W, Below w2.heap.size w2 W → W.cell? ⟨b1, o1 + k * 3 + 2, none⟩ = some (.slice qa2 qn2 qc2) from fun W hW => (HX1.out W hW 2 (by decide)).trans rfl)
      have HC20 := hid (show ∀ W, Below w2.heap.size w2 W → W.cell? ⟨b2, o2 + k * 3, none⟩ = some (.bool px0) from fun W hW => (HX2.out W hW 0 (by decide)).trans rfl)
      have HC21 := hid (show ∀ W, Below w2.heap.size w2 W → W.cell? ⟨b2, o2 + k * 3 + 1, none⟩ = some (.int .i64 px1) from fun W hW => (HX2.out W hW 1 (by decide)).trans rfl)
      have HC22 := hid (show ∀ W, Below w2.heap.size w2 W → W.cell? ⟨b2, o2 + k * 3 + 2, none⟩ = some (.slice pa2 pn2 pc2) from fun W hW => (HX2.out W hW 2 (by decide)).trans rfl)
      clear HX1 HX2
      go_wp2_with fail
      refine wp_region_held_drew (S := (fun W => Below w2.heap.size w2 W)) (by kernel_rfl) (Below.drew hbel) (fun hh0_ => ?_)
      refine wpAnyH_take (i := 0) (oi := { dst := some 55, op := Op.fieldAddr 39 (Operand.tmp 2) 5, type := 0, pos := "ref.go:237", after := #[], guard := none }) (v := ?v1801) rfl (by kernel_rfl) (by kernel_rfl) (by kernel_rfl) (fun _ _ _ h => h) (Or.inl ⟨by rfl, ?hy1801⟩) (by assumption) ?rest1801
      case hy1801 => (intro w hSw; (try dsimp only at hSw); go_simp; try with_reducible rfl)
      simp only [Act.put, List.setIfInBounds_toArray, List.set_cons_zero, List.set_cons_succ]
      refine wpAnyH_take (i := 1) (oi := { dst := some 56, op := Op.load 30 (Operand.tmp 55), type := 30, pos := "ref.go:237", after := #[{ on := 0, ground := Ground.data }], guard := none }) (v := ?v1802) rfl (by kernel_rfl) (by kernel_rfl) (by kernel_rfl) (fun _ _ _ h => h) (Or.inl ⟨by rfl, ?hy1802⟩) (by assumption) ?rest1802
      case hy1802 => (intro W hSw; (try dsimp only at hSw); have e1 := HY1.out W hSw; have e2 := HY2.out W hSw; have f10 := HC10.out W hSw; have f11 := HC11.out W hSw; have f12 := HC12.out W hSw; have f20 := HC20.out W hSw; have f21 := HC21.out W hSw; have f22 := HC22.out W hSw; go_simp; try with_reducible rfl)
      simp only [Act.put, List.setIfInBounds_toArray, List.set_cons_zero, List.set_cons_succ]
      refine wpAnyH_take (i := 2) (oi := { dst := some 57, op := Op.move (Operand.tmp 5), type := 3, pos := "ref.go:237", after := #[], guard := none }) (v := ?v1803) rfl (by kernel_rfl) (by kernel_rfl) (by kernel_rfl) (fun _ _ _ h => h) (Or.inl ⟨by rfl, ?hy1803⟩) (by assumption) ?rest1803
      case hy1803 => (intro w hSw; (try dsimp only at hSw); go_simp; try with_reducible rfl)
      simp only [Act.put, List.setIfInBounds_toArray, List.set_cons_zero, List.set_cons_succ]
      refine wpAnyH_take (i := 3) (oi := { dst := some 58, op := Op.indexAddr 30 (Operand.tmp 56) (Operand.tmp 57), type := 0, pos := "ref.go:237", after := #[{ on := 1, ground := Ground.data }, { on := 2, ground := Ground.data }], guard := none }) (v := ?v1804) rfl (by kernel_rfl) (by kernel_rfl) (by kernel_rfl) (fun _ _ _ h => h) (Or.inl ⟨by rfl, ?hy1804⟩) (by assumption) ?rest1804
      case hy1804 => (intro w hSw; (try dsimp only at hSw); go_simp; try with_reducible rfl)
      simp only [Act.put, List.setIfInBounds_toArray, List.set_cons_zero, List.set_cons_succ]
      refine wpAnyH_take (i := 4) (oi := { dst := some 59, op := Op.fieldAddr 67 (Operand.tmp 58) 2, type := 0, pos := "ref.go:237", after := #[{ on := 3, ground := Ground.data }], guard := none }) (v := ?v1805) rfl (by kernel_rfl) (by kernel_rfl) (by kernel_rfl) (fun _ _ _ h => h) (Or.inl ⟨by rfl, ?hy1805⟩) (by assumption) ?rest1805
      case hy1805 => (intro w hSw; (try dsimp only at hSw); go_simp; try with_reducible rfl)
      simp only [Act.put, List.setIfInBounds_toArray, List.set_cons_zero, List.set_cons_succ]
      refine wpAnyH_take (i := 5) (oi := { dst := some 60, op := Op.load 65 (Operand.tmp 59), type := 65, pos := "ref.go:237", after := #[{ on := 4, ground := Ground.data }], guard := none }) (v := ?v1806) rfl (by kernel_rfl) (by kernel_rfl) (by kernel_rfl) (fun _ _ _ h => h) (Or.inl ⟨by rfl, ?hy1806⟩) (by assumption) ?rest1806
      case hy1806 => (intro W hSw; (try dsimp only at hSw); have e1 := HY1.out W hSw; have e2 := HY2.out W hSw; have f10 := HC10.out W hSw; have f11 := HC11.out W hSw; have f12 := HC12.out W hSw; have f20 := HC20.out W hSw; have f21 := HC21.out W hSw; have f22 := HC22.out W hSw; go_simp; try with_reducible rfl)
      simp only [Act.put, List.setIfInBounds_toArray, List.set_cons_zero, List.set_cons_succ]
      refine wpAnyH_take (i := 6) (oi := { dst := some 61, op := Op.fieldAddr 39 (Operand.tmp 3) 5, type := 0, pos := "ref.go:237", after := #[], guard := none }) (v := ?v1807) rfl (by kernel_rfl) (by kernel_rfl) (by kernel_rfl) (fun _ _ _ h => h) (Or.inl ⟨by rfl, ?hy1807⟩) (by assumption) ?rest1807
      case hy1807 => (intro w hSw; (try dsimp only at hSw); go_simp; try with_reducible rfl)
      simp only [Act.put, List.setIfInBounds_toArray, List.set_cons_zero, List.set_cons_succ]
      refine wpAnyH_take (i := 7) (oi := { dst := some 62, op := Op.load 30 (Operand.tmp 61), type := 30, pos := "ref.go:237", after := #[{ on := 6, ground := Ground.data }], guard := none }) (v := ?v1808) rfl (by kernel_rfl) (by kernel_rfl) (by kernel_rfl) (fun _ _ _ h => h) (Or.inl ⟨by rfl, ?hy1808⟩) (by assumption) ?rest1808
      case hy1808 => (intro W hSw; (try dsimp only at hSw); have e1 := HY1.out W hSw; have e2 := HY2.out W hSw; have f10 := HC10.out W hSw; have f11 := HC11.out W hSw; have f12 := HC12.out W hSw; have f20 := HC20.out W hSw; have f21 := HC21.out W hSw; have f22 := HC22.out W hSw; go_simp; try with_reducible rfl)
      simp only [Act.put, List.setIfInBounds_toArray, List.set_cons_zero, List.set_cons_succ]
      refine wpAnyH_take (i := 8) (oi := { dst := some 63, op := Op.move (Operand.tmp 5), type := 3, pos := "ref.go:237", after := #[], guard := none }) (v := ?v1809) rfl (by kernel_rfl) (by kernel_rfl) (by kernel_rfl) (fun _ _ _ h => h) (Or.inl ⟨by rfl, ?hy1809⟩) (by assumption) ?rest1809
      case hy1809 => (intro w hSw; (try dsimp only at hSw); go_simp; try with_reducible rfl)
      simp only [Act.put, List.setIfInBounds_toArray, List.set_cons_zero, List.set_cons_succ]
      refine wpAnyH_take (i := 9) (oi := { dst := some 64, op := Op.indexAddr 30 (Operand.tmp 62) (Operand.tmp 63), type := 0, pos := "ref.go:237", after := #[{ on := 7, ground := Ground.data }, { on := 8, ground := Ground.data }], guard := none }) (v := ?v1810) rfl (by kernel_rfl) (by kernel_rfl) (by kernel_rfl) (fun _ _ _ h => h) (Or.inl ⟨by rfl, ?hy1810⟩) (by assumption) ?rest1810
      case hy1810 => (intro w hSw; (try dsimp only at hSw); go_simp; try with_reducible rfl)
      simp only [Act.put, List.setIfInBounds_toArray, List.set_cons_zero, List.set_cons_succ]
      refine wpAnyH_take (i := 10) (oi := { dst := some 65, op := Op.fieldAddr 67 (Operand.tmp 64) 2, type := 0, pos := "ref.go:237", after := #[{ on := 9, ground := Ground.data }], guard := none }) (v := ?v1811) rfl (by kernel_rfl) (by kernel_rfl) (by kernel_rfl) (fun _ _ _ h => h) (Or.inl ⟨by rfl, ?hy1811⟩) (by assumption) ?rest1811
      case hy1811 => (intro w hSw; (try dsimp only at hSw); go_simp; try with_reducible rfl)
      simp only [Act.put, List.setIfInBounds_toArray, List.set_cons_zero, List.set_cons_succ]
      refine wpAnyH_take (i := 11) (oi := { dst := some 66, op := Op.load 65 (Operand.tmp 65), type := 65, pos := "ref.go:237", after := #[{ on := 10, ground := Ground.data }], guard := none }) (v := ?v1812) rfl (by kernel_rfl) (by kernel_rfl) (by kernel_rfl) (fun _ _ _ h => h) (Or.inl ⟨by rfl, ?hy1812⟩) (by assumption) ?rest1812
      case hy1812 => (intro W hSw; (try dsimp only at hSw); have e1 := HY1.out W hSw; have e2 := HY2.out W hSw; have f10 := HC10.out W hSw; have f11 := HC11.out W hSw; have f12 := HC12.out W hSw; have f20 := HC20.out W hSw; have f21 := HC21.out W hSw; have f22 := HC22.out W hSw; go_simp; try with_reducible rfl)
      simp only [Act.put, List.setIfInBounds_toArray, List.set_cons_zero, List.set_cons_succ]
      refine wpAnyH_ready (rs := [12]) (by kernel_rfl) (by simp) (AllReadyH.cons (o := { dst := some 67, op := Op.call { callee := Callee.value (Operand.func 48), args := #[Operand.tmp 60, Operand.tmp 66], argTypes := #[65, 65] }, type := 4, pos := "ref.go:237", after := #[{ on := 5, ground := Ground.data }, { on := 11, ground := Ground.data }], guard := none }) rfl (fun K1813 hK1813 => ?_) AllReadyH.nil)
      go_simp
      refine (waits_tot _ _ x.l x.l _ (HQ1.out.l.below (HB2.out.trans (Below.mono hh0_ HB2.out.size))) (HQ2.out.l.below (HB2.out.trans (Below.mono hh0_ HB2.out.size)))).mono ?_
      rintro e wq0 ⟨⟨d0, rfl, hd0⟩, hbl0⟩
      obtain rfl : d0 = true := hd0 rfl
      clear hd0
      refine hK1813.out _ _ (Below.trans hh0_ (hbl0.mono (Below.size hh0_))) (fun hh0_1813 => ?_)
      clear hK1813 K1813
      try simp only [Act.put, List.setIfInBounds_toArray, List.set_cons_zero, List.set_cons_succ]
      refine wpAnyH_take (i := 13) (oi := { dst := some 6, op := Op.assign (Operand.tmp 67), type := 4, pos := "ref.go:237", after := #[{ on := 12, ground := Ground.data }, { on := 12, ground := Ground.chain }, { on := 0, ground := Ground.phase }, { on := 1, ground := Ground.phase }, { on := 2, ground := Ground.phase }, { on := 3, ground := Ground.phase }, { on := 4, ground := Ground.phase }, { on := 5, ground := Ground.phase }, { on := 6, ground := Ground.phase }, { on := 7, ground := Ground.phase }, { on := 8, ground := Ground.phase }, { on := 9, ground := Ground.phase }, { on := 10, ground := Ground.phase }, { on := 11, ground := Ground.phase }, { on := 12, ground := Ground.phase }], guard := none }) (v := ?v1814) rfl (by kernel_rfl) (by kernel_rfl) (by kernel_rfl) (fun _ _ _ h => h) (Or.inl ⟨by rfl, ?hy1814⟩) (by assumption) ?rest1814
      case hy1814 => (intro w hSw; (try dsimp only at hSw); go_simp; try with_reducible rfl)
      simp only [Act.put, List.setIfInBounds_toArray, List.set_cons_zero, List.set_cons_succ]
      refine wpAnyH_done (by kernel_rfl) ?_ _
      have HW0 := hid hh0_1813
      obtain rfl : qx0 = px0 := by have h1 := HQ1.out.is; have h2 := HQ2.out.is; simp only at h1 h2; exact h1.trans h2.symm
      obtain rfl : qx1 = px1 := by have h1 := HQ1.out.v; have h2 := HQ2.out.v; simp only at h1 h2; exact h1.trans h2.symm
      go_wp2_with fail
      refine wp_region_held_drew (S := (fun W => Below w2.heap.size w2 W)) (by kernel_rfl) (Below.drew HW0.out) (fun ht_ => ?_)
      refine wpAnyH_take (i := 0) (oi := { dst := some 68, op := Op.move (Operand.tmp 6), type := 4, pos := "ref.go:238", after := #[], guard := none }) (v := ?v2001) rfl (by kernel_rfl) (by kernel_rfl) (by kernel_rfl) (fun _ _ _ h => h) (Or.inl ⟨by rfl, ?hy2001⟩) (by assumption) ?rest2001
      case hy2001 => (intro w hSw; (try dsimp only at hSw); go_simp; try with_reducible rfl)
      simp only [Act.put, List.setIfInBounds_toArray, List.set_cons_zero, List.set_cons_succ]
      refine wpAnyH_take (i := 1) (oi := { dst := some 69, op := Op.unOp UnOp.not 4 (Operand.tmp 68), type := 4, pos := "ref.go:238", after := #[{ on := 0, ground := Ground.data }], guard := none }) (v := ?v2002) rfl (by kernel_rfl) (by kernel_rfl) (by kernel_rfl) (fun _ _ _ h => h) (Or.inl ⟨by rfl, ?hy2002⟩) (by assumption) ?rest2002
      case hy2002 => (intro w hSw; (try dsimp only at hSw); go_simp; try with_reducible rfl)
      simp only [Act.put, List.setIfInBounds_toArray, List.set_cons_zero, List.set_cons_succ]
      refine wpAnyH_take (i := 2) (oi := { dst := some 70, op := Op.move (Operand.tmp 69), type := 4, pos := "ref.go:238", after := #[{ on := 1, ground := Ground.data }], guard := none }) (v := ?v2003) rfl (by kernel_rfl) (by kernel_rfl) (by kernel_rfl) (fun _ _ _ h => h) (Or.inl ⟨by rfl, ?hy2003⟩) (by assumption) ?rest2003
      case hy2003 => (intro w hSw; (try dsimp only at hSw); go_simp; try with_reducible rfl)
      simp only [Act.put, List.setIfInBounds_toArray, List.set_cons_zero, List.set_cons_succ]
      refine wpAnyH_take (i := 3) (oi := { dst := some 71, op := Op.fieldAddr 39 (Operand.tmp 2) 5, type := 0, pos := "ref.go:238", after := #[{ on := 2, ground := Ground.guard }], guard := some (2, false) }) (v := ?v2004) rfl (by kernel_rfl) (by kernel_rfl) (by kernel_rfl) (fun _ _ _ h => h) (Or.inl ⟨by rfl, ?hy2004⟩) (by assumption) ?rest2004
      case hy2004 => (intro w hSw; (try dsimp only at hSw); go_simp; try with_reducible rfl)
      simp only [Act.put, List.setIfInBounds_toArray, List.set_cons_zero, List.set_cons_succ]
      refine wpAnyH_take (i := 4) (oi := { dst := some 72, op := Op.load 30 (Operand.tmp 71), type := 30, pos := "ref.go:238", after := #[{ on := 3, ground := Ground.data }, { on := 2, ground := Ground.guard }], guard := some (2, false) }) (v := ?v2005) rfl (by kernel_rfl) (by kernel_rfl) (by kernel_rfl) (fun _ _ _ h => h) (Or.inl ⟨by rfl, ?hy2005⟩) (by assumption) ?rest2005
      case hy2005 => (intro W hSw; (try dsimp only at hSw); have e1 := HY1.out W hSw; have e2 := HY2.out W hSw; have f10 := HC10.out W hSw; have f11 := HC11.out W hSw; have f12 := HC12.out W hSw; have f20 := HC20.out W hSw; have f21 := HC21.out W hSw; have f22 := HC22.out W hSw; go_simp; try with_reducible rfl)
      simp only [Act.put, List.setIfInBounds_toArray, List.set_cons_zero, List.set_cons_succ]
      refine wpAnyH_take (i := 5) (oi := { dst := some 73, op := Op.move (Operand.tmp 5), type := 3, pos := "ref.go:238", after := #[{ on := 2, ground := Ground.guard }], guard := some (2, false) }) (v := ?v2006) rfl (by kernel_rfl) (by kernel_rfl) (by kernel_rfl) (fun _ _ _ h => h) (Or.inl ⟨by rfl, ?hy2006⟩) (by assumption) ?rest2006
      case hy2006 => (intro w hSw; (try dsimp only at hSw); go_simp; try with_reducible rfl)
      simp only [Act.put, List.setIfInBounds_toArray, List.set_cons_zero, List.set_cons_succ]
      refine wpAnyH_take (i := 6) (oi := { dst := some 74, op := Op.indexAddr 30 (Operand.tmp 72) (Operand.tmp 73), type := 0, pos := "ref.go:238", after := #[{ on := 4, ground := Ground.data }, { on := 5, ground := Ground.data }, { on := 2, ground := Ground.guard }], guard := some (2, false) }) (v := ?v2007) rfl (by kernel_rfl) (by kernel_rfl) (by kernel_rfl) (fun _ _ _ h => h) (Or.inl ⟨by rfl, ?hy2007⟩) (by assumption) ?rest2007
      case hy2007 => (intro w hSw; (try dsimp only at hSw); go_simp; try with_reducible rfl)
      simp only [Act.put, List.setIfInBounds_toArray, List.set_cons_zero, List.set_cons_succ]
      refine wpAnyH_take (i := 7) (oi := { dst := some 75, op := Op.fieldAddr 67 (Operand.tmp 74) 0, type := 0, pos := "ref.go:238", after := #[{ on := 6, ground := Ground.data }, { on := 2, ground := Ground.guard }], guard := some (2, false) }) (v := ?v2008) rfl (by kernel_rfl) (by kernel_rfl) (by kernel_rfl) (fun _ _ _ h => h) (Or.inl ⟨by rfl, ?hy2008⟩) (by assumption) ?rest2008
      case hy2008 => (intro w hSw; (try dsimp only at hSw); go_simp; try with_reducible rfl)
      simp only [Act.put, List.setIfInBounds_toArray, List.set_cons_zero, List.set_cons_succ]
      refine wpAnyH_take (i := 8) (oi := { dst := some 76, op := Op.load 4 (Operand.tmp 75), type := 4, pos := "ref.go:238", after := #[{ on := 7, ground := Ground.data }, { on := 2, ground := Ground.guard }], guard := some (2, false) }) (v := ?v2009) rfl (by kernel_rfl) (by kernel_rfl) (by kernel_rfl) (fun _ _ _ h => h) (Or.inl ⟨by rfl, ?hy2009⟩) (by assumption) ?rest2009
      case hy2009 => (intro W hSw; (try dsimp only at hSw); have e1 := HY1.out W hSw; have e2 := HY2.out W hSw; have f10 := HC10.out W hSw; have f11 := HC11.out W hSw; have f12 := HC12.out W hSw; have f20 := HC20.out W hSw; have f21 := HC21.out W hSw; have f22 := HC22.out W hSw; go_simp; try with_reducible rfl)
      simp only [Act.put, List.setIfInBounds_toArray, List.set_cons_zero, List.set_cons_succ]
      refine wpAnyH_take (i := 9) (oi := { dst := some 77, op := Op.fieldAddr 39 (Operand.tmp 3) 5, type := 0, pos := "ref.go:238", after := #[{ on := 2, ground := Ground.guard }], guard := some (2, false) }) (v := ?v2010) rfl (by kernel_rfl) (by kernel_rfl) (by kernel_rfl) (fun _ _ _ h => h) (Or.inl ⟨by rfl, ?hy2010⟩) (by assumption) ?rest2010
      case hy2010 => (intro w hSw; (try dsimp only at hSw); go_simp; try with_reducible rfl)
      simp only [Act.put, List.setIfInBounds_toArray, List.set_cons_zero, List.set_cons_succ]
      refine wpAnyH_take (i := 10) (oi := { dst := some 78, op := Op.load 30 (Operand.tmp 77), type := 30, pos := "ref.go:238", after := #[{ on := 9, ground := Ground.data }, { on := 2, ground := Ground.guard }], guard := some (2, false) }) (v := ?v2011) rfl (by kernel_rfl) (by kernel_rfl) (by kernel_rfl) (fun _ _ _ h => h) (Or.inl ⟨by rfl, ?hy2011⟩) (by assumption) ?rest2011
      case hy2011 => (intro W hSw; (try dsimp only at hSw); have e1 := HY1.out W hSw; have e2 := HY2.out W hSw; have f10 := HC10.out W hSw; have f11 := HC11.out W hSw; have f12 := HC12.out W hSw; have f20 := HC20.out W hSw; have f21 := HC21.out W hSw; have f22 := HC22.out W hSw; go_simp; try with_reducible rfl)
      simp only [Act.put, List.setIfInBounds_toArray, List.set_cons_zero, List.set_cons_succ]
      refine wpAnyH_take (i := 11) (oi := { dst := some 79, op := Op.move (Operand.tmp 5), type := 3, pos := "ref.go:238", after := #[{ on := 2, ground := Ground.guard }], guard := some (2, false) }) (v := ?v2012) rfl (by kernel_rfl) (by kernel_rfl) (by kernel_rfl) (fun _ _ _ h => h) (Or.inl ⟨by rfl, ?hy2012⟩) (by assumption) ?rest2012
      case hy2012 => (intro w hSw; (try dsimp only at hSw); go_simp; try with_reducible rfl)
      simp only [Act.put, List.setIfInBounds_toArray, List.set_cons_zero, List.set_cons_succ]
      refine wpAnyH_take (i := 12) (oi := { dst := some 80, op := Op.indexAddr 30 (Operand.tmp 78) (Operand.tmp 79), type := 0, pos := "ref.go:238", after := #[{ on := 10, ground := Ground.data }, { on := 11, ground := Ground.data }, { on := 2, ground := Ground.guard }], guard := some (2, false) }) (v := ?v2013) rfl (by kernel_rfl) (by kernel_rfl) (by kernel_rfl) (fun _ _ _ h => h) (Or.inl ⟨by rfl, ?hy2013⟩) (by assumption) ?rest2013
      case hy2013 => (intro w hSw; (try dsimp only at hSw); go_simp; try with_reducible rfl)
      simp only [Act.put, List.setIfInBounds_toArray, List.set_cons_zero, List.set_cons_succ]
      refine wpAnyH_take (i := 13) (oi := { dst := some 81, op := Op.fieldAddr 67 (Operand.tmp 80) 0, type := 0, pos := "ref.go:238", after := #[{ on := 12, ground := Ground.data }, { on := 2, ground := Ground.guard }], guard := some (2, false) }) (v := ?v2014) rfl (by kernel_rfl) (by kernel_rfl) (by kernel_rfl) (fun _ _ _ h => h) (Or.inl ⟨by rfl, ?hy2014⟩) (by assumption) ?rest2014
      case hy2014 => (intro w hSw; (try dsimp only at hSw); go_simp; try with_reducible rfl)
      simp only [Act.put, List.setIfInBounds_toArray, List.set_cons_zero, List.set_cons_succ]
      refine wpAnyH_take (i := 14) (oi := { dst := some 82, op := Op.load 4 (Operand.tmp 81), type := 4, pos := "ref.go:238", after := #[{ on := 13, ground := Ground.data }, { on := 2, ground := Ground.guard }], guard := some (2, false) }) (v := ?v2015) rfl (by kernel_rfl) (by kernel_rfl) (by kernel_rfl) (fun _ _ _ h => h) (Or.inl ⟨by rfl, ?hy2015⟩) (by assumption) ?rest2015
      case hy2015 => (intro W hSw; (try dsimp only at hSw); have e1 := HY1.out W hSw; have e2 := HY2.out W hSw; have f10 := HC10.out W hSw; have f11 := HC11.out W hSw; have f12 := HC12.out W hSw; have f20 := HC20.out W hSw; have f21 := HC21.out W hSw; have f22 := HC22.out W hSw; go_simp; try with_reducible rfl)
      simp only [Act.put, List.setIfInBounds_toArray, List.set_cons_zero, List.set_cons_succ]
      refine wpAnyH_take (i := 15) (oi := { dst := some 83, op := Op.binOp BinOp.neq 4 (Operand.tmp 76) (Operand.tmp 82) 4, type := 4, pos := "ref.go:238", after := #[{ on := 8, ground := Ground.data }, { on := 14, ground := Ground.data }, { on := 2, ground := Ground.guard }], guard := some (2, false) }) (v := ?v2016) rfl (by kernel_rfl) (by kernel_rfl) (by kernel_rfl) (fun _ _ _ h => h) (Or.inl ⟨by rfl, ?hy2016⟩) (by assumption) ?rest2016
      case hy2016 => (intro w hSw; (try dsimp only at hSw); go_simp; try with_reducible rfl)
      simp only [Act.put, List.setIfInBounds_toArray, List.set_cons_zero, List.set_cons_succ]
      refine wpAnyH_take (i := 16) (oi := { dst := some 84, op := Op.pick (Operand.tmp 70) (Operand.const (Value.bool true)) (Operand.tmp 83), type := 4, pos := "ref.go:238", after := #[{ on := 2, ground := Ground.data }, { on := 15, ground := Ground.data }], guard := none }) (v := ?v2017) rfl (by kernel_rfl) (by kernel_rfl) (by kernel_rfl) (fun _ _ _ h => h) (Or.inl ⟨by rfl, ?hy2017⟩) (by assumption) ?rest2017
      case hy2017 => (intro w hSw; (try dsimp only at hSw); go_simp; try with_reducible rfl)
      simp only [Act.put, List.setIfInBounds_toArray, List.set_cons_zero, List.set_cons_succ]
      refine wpAnyH_take (i := 17) (oi := { dst := some 85, op := Op.move (Operand.tmp 84), type := 4, pos := "ref.go:238", after := #[{ on := 16, ground := Ground.data }, { on := 2, ground := Ground.chain }], guard := none }) (v := ?v2018) rfl (by kernel_rfl) (by kernel_rfl) (by kernel_rfl) (fun _ _ _ h => h) (Or.inl ⟨by rfl, ?hy2018⟩) (by assumption) ?rest2018
      case hy2018 => (intro w hSw; (try dsimp only at hSw); go_simp; try with_reducible rfl)
      simp only [Act.put, List.setIfInBounds_toArray, List.set_cons_zero, List.set_cons_succ]
      refine wpAnyH_take (i := 18) (oi := { dst := some 86, op := Op.fieldAddr 39 (Operand.tmp 2) 5, type := 0, pos := "ref.go:238", after := #[{ on := 17, ground := Ground.guard }], guard := some (17, false) }) (v := ?v2019) rfl (by kernel_rfl) (by kernel_rfl) (by kernel_rfl) (fun _ _ _ h => h) (Or.inl ⟨by rfl, ?hy2019⟩) (by assumption) ?rest2019
      case hy2019 => (intro w hSw; (try dsimp only at hSw); go_simp; try with_reducible rfl)
      simp only [Act.put, List.setIfInBounds_toArray, List.set_cons_zero, List.set_cons_succ]
      refine wpAnyH_take (i := 19) (oi := { dst := some 87, op := Op.load 30 (Operand.tmp 86), type := 30, pos := "ref.go:238", after := #[{ on := 18, ground := Ground.data }, { on := 17, ground := Ground.guard }], guard := some (17, false) }) (v := ?v2020) rfl (by kernel_rfl) (by kernel_rfl) (by kernel_rfl) (fun _ _ _ h => h) (Or.inl ⟨by rfl, ?hy2020⟩) (by assumption) ?rest2020
      case hy2020 => (intro W hSw; (try dsimp only at hSw); have e1 := HY1.out W hSw; have e2 := HY2.out W hSw; have f10 := HC10.out W hSw; have f11 := HC11.out W hSw; have f12 := HC12.out W hSw; have f20 := HC20.out W hSw; have f21 := HC21.out W hSw; have f22 := HC22.out W hSw; go_simp; try with_reducible rfl)
      simp only [Act.put, List.setIfInBounds_toArray, List.set_cons_zero, List.set_cons_succ]
      refine wpAnyH_take (i := 20) (oi := { dst := some 88, op := Op.move (Operand.tmp 5), type := 3, pos := "ref.go:238", after := #[{ on := 17, ground := Ground.guard }], guard := some (17, false) }) (v := ?v2021) rfl (by kernel_rfl) (by kernel_rfl) (by kernel_rfl) (fun _ _ _ h => h) (Or.inl ⟨by rfl, ?hy2021⟩) (by assumption) ?rest2021
      case hy2021 => (intro w hSw; (try dsimp only at hSw); go_simp; try with_reducible rfl)
      simp only [Act.put, List.setIfInBounds_toArray, List.set_cons_zero, List.set_cons_succ]
      refine wpAnyH_take (i := 21) (oi := { dst := some 89, op := Op.indexAddr 30 (Operand.tmp 87) (Operand.tmp 88), type := 0, pos := "ref.go:238", after := #[{ on := 19, ground := Ground.data }, { on := 20, ground := Ground.data }, { on := 17, ground := Ground.guard }], guard := some (17, false) }) (v := ?v2022) rfl (by kernel_rfl) (by kernel_rfl) (by kernel_rfl) (fun _ _ _ h => h) (Or.inl ⟨by rfl, ?hy2022⟩) (by assumption) ?rest2022
      case hy2022 => (intro w hSw; (try dsimp only at hSw); go_simp; try with_reducible rfl)
      simp only [Act.put, List.setIfInBounds_toArray, List.set_cons_zero, List.set_cons_succ]
      refine wpAnyH_take (i := 22) (oi := { dst := some 90, op := Op.fieldAddr 67 (Operand.tmp 89) 1, type := 0, pos := "ref.go:238", after := #[{ on := 21, ground := Ground.data }, { on := 17, ground := Ground.guard }], guard := some (17, false) }) (v := ?v2023) rfl (by kernel_rfl) (by kernel_rfl) (by kernel_rfl) (fun _ _ _ h => h) (Or.inl ⟨by rfl, ?hy2023⟩) (by assumption) ?rest2023
      case hy2023 => (intro w hSw; (try dsimp only at hSw); go_simp; try with_reducible rfl)
      simp only [Act.put, List.setIfInBounds_toArray, List.set_cons_zero, List.set_cons_succ]
      refine wpAnyH_take (i := 23) (oi := { dst := some 91, op := Op.load 3 (Operand.tmp 90), type := 3, pos := "ref.go:238", after := #[{ on := 22, ground := Ground.data }, { on := 17, ground := Ground.guard }], guard := some (17, false) }) (v := ?v2024) rfl (by kernel_rfl) (by kernel_rfl) (by kernel_rfl) (fun _ _ _ h => h) (Or.inl ⟨by rfl, ?hy2024⟩) (by assumption) ?rest2024
      case hy2024 => (intro W hSw; (try dsimp only at hSw); have e1 := HY1.out W hSw; have e2 := HY2.out W hSw; have f10 := HC10.out W hSw; have f11 := HC11.out W hSw; have f12 := HC12.out W hSw; have f20 := HC20.out W hSw; have f21 := HC21.out W hSw; have f22 := HC22.out W hSw; go_simp; try with_reducible rfl)
      simp only [Act.put, List.setIfInBounds_toArray, List.set_cons_zero, List.set_cons_succ]
      refine wpAnyH_take (i := 24) (oi := { dst := some 92, op := Op.fieldAddr 39 (Operand.tmp 3) 5, type := 0, pos := "ref.go:238", after := #[{ on := 17, ground := Ground.guard }], guard := some (17, false) }) (v := ?v2025) rfl (by kernel_rfl) (by kernel_rfl) (by kernel_rfl) (fun _ _ _ h => h) (Or.inl ⟨by rfl, ?hy2025⟩) (by assumption) ?rest2025
      case hy2025 => (intro w hSw; (try dsimp only at hSw); go_simp; try with_reducible rfl)
      simp only [Act.put, List.setIfInBounds_toArray, List.set_cons_zero, List.set_cons_succ]
      refine wpAnyH_take (i := 25) (oi := { dst := some 93, op := Op.load 30 (Operand.tmp 92), type := 30, pos := "ref.go:238", after := #[{ on := 24, ground := Ground.data }, { on := 17, ground := Ground.guard }], guard := some (17, false) }) (v := ?v2026) rfl (by kernel_rfl) (by kernel_rfl) (by kernel_rfl) (fun _ _ _ h => h) (Or.inl ⟨by rfl, ?hy2026⟩) (by assumption) ?rest2026
      case hy2026 => (intro W hSw; (try dsimp only at hSw); have e1 := HY1.out W hSw; have e2 := HY2.out W hSw; have f10 := HC10.out W hSw; have f11 := HC11.out W hSw; have f12 := HC12.out W hSw; have f20 := HC20.out W hSw; have f21 := HC21.out W hSw; have f22 := HC22.out W hSw; go_simp; try with_reducible rfl)
      simp only [Act.put, List.setIfInBounds_toArray, List.set_cons_zero, List.set_cons_succ]
      refine wpAnyH_take (i := 26) (oi := { dst := some 94, op := Op.move (Operand.tmp 5), type := 3, pos := "ref.go:238", after := #[{ on := 17, ground := Ground.guard }], guard := some (17, false) }) (v := ?v2027) rfl (by kernel_rfl) (by kernel_rfl) (by kernel_rfl) (fun _ _ _ h => h) (Or.inl ⟨by rfl, ?hy2027⟩) (by assumption) ?rest2027
      case hy2027 => (intro w hSw; (try dsimp only at hSw); go_simp; try with_reducible rfl)
      simp only [Act.put, List.setIfInBounds_toArray, List.set_cons_zero, List.set_cons_succ]
      refine wpAnyH_take (i := 27) (oi := { dst := some 95, op := Op.indexAddr 30 (Operand.tmp 93) (Operand.tmp 94), type := 0, pos := "ref.go:238", after := #[{ on := 25, ground := Ground.data }, { on := 26, ground := Ground.data }, { on := 17, ground := Ground.guard }], guard := some (17, false) }) (v := ?v2028) rfl (by kernel_rfl) (by kernel_rfl) (by kernel_rfl) (fun _ _ _ h => h) (Or.inl ⟨by rfl, ?hy2028⟩) (by assumption) ?rest2028
      case hy2028 => (intro w hSw; (try dsimp only at hSw); go_simp; try with_reducible rfl)
      simp only [Act.put, List.setIfInBounds_toArray, List.set_cons_zero, List.set_cons_succ]
      refine wpAnyH_take (i := 28) (oi := { dst := some 96, op := Op.fieldAddr 67 (Operand.tmp 95) 1, type := 0, pos := "ref.go:238", after := #[{ on := 27, ground := Ground.data }, { on := 17, ground := Ground.guard }], guard := some (17, false) }) (v := ?v2029) rfl (by kernel_rfl) (by kernel_rfl) (by kernel_rfl) (fun _ _ _ h => h) (Or.inl ⟨by rfl, ?hy2029⟩) (by assumption) ?rest2029
      case hy2029 => (intro w hSw; (try dsimp only at hSw); go_simp; try with_reducible rfl)
      simp only [Act.put, List.setIfInBounds_toArray, List.set_cons_zero, List.set_cons_succ]
      refine wpAnyH_take (i := 29) (oi := { dst := some 97, op := Op.load 3 (Operand.tmp 96), type := 3, pos := "ref.go:238", after := #[{ on := 28, ground := Ground.data }, { on := 17, ground := Ground.guard }], guard := some (17, false) }) (v := ?v2030) rfl (by kernel_rfl) (by kernel_rfl) (by kernel_rfl) (fun _ _ _ h => h) (Or.inl ⟨by rfl, ?hy2030⟩) (by assumption) ?rest2030
      case hy2030 => (intro W hSw; (try dsimp only at hSw); have e1 := HY1.out W hSw; have e2 := HY2.out W hSw; have f10 := HC10.out W hSw; have f11 := HC11.out W hSw; have f12 := HC12.out W hSw; have f20 := HC20.out W hSw; have f21 := HC21.out W hSw; have f22 := HC22.out W hSw; go_simp; try with_reducible rfl)
      simp only [Act.put, List.setIfInBounds_toArray, List.set_cons_zero, List.set_cons_succ]
      refine wpAnyH_take (i := 30) (oi := { dst := some 98, op := Op.binOp BinOp.neq 3 (Operand.tmp 91) (Operand.tmp 97) 3, type := 4, pos := "ref.go:238", after := #[{ on := 23, ground := Ground.data }, { on := 29, ground := Ground.data }, { on := 17, ground := Ground.guard }], guard := some (17, false) }) (v := ?v2031) rfl (by kernel_rfl) (by kernel_rfl) (by kernel_rfl) (fun _ _ _ h => h) (Or.inl ⟨by rfl, ?hy2031⟩) (by assumption) ?rest2031
      case hy2031 => (intro w hSw; (try dsimp only at hSw); go_simp; try with_reducible rfl)
      simp only [Act.put, List.setIfInBounds_toArray, List.set_cons_zero, List.set_cons_succ]
      refine wpAnyH_take (i := 31) (oi := { dst := some 99, op := Op.pick (Operand.tmp 85) (Operand.const (Value.bool true)) (Operand.tmp 98), type := 4, pos := "ref.go:238", after := #[{ on := 17, ground := Ground.data }, { on := 30, ground := Ground.data }], guard := none }) (v := ?v2032) rfl (by kernel_rfl) (by kernel_rfl) (by kernel_rfl) (fun _ _ _ h => h) (Or.inl ⟨by rfl, ?hy2032⟩) (by assumption) ?rest2032
      case hy2032 => (intro w hSw; (try dsimp only at hSw); go_simp; try with_reducible rfl)
      simp only [Act.put, List.setIfInBounds_toArray, List.set_cons_zero, List.set_cons_succ]
      refine wpAnyH_done (by kernel_rfl) ?_ _
      go_wp2
      go_roundw
      case rel => exact ⟨k + 1, by have h9 := HLt.out; omega, by go_num, ht_⟩
      case measure => have h9 := HLt.out; simp [intOf]; omega
    · have HW := hid hbel
      clear hbel
      go_wp2
      go_loopw [7] (fun i wr => ∃ k : Nat, k ≤ rsbu1.length ∧ i = .int .i64 k ∧ Below w2.heap.size w2 wr) (fun i _ => rsbu1.length - (intOf i).toNat)
      case atStart => exact ⟨0, by omega, rfl, HW.out⟩
      case round =>
        obtain ⟨k, hk, rfl, hbel⟩ := hrel
        have kh1 := HHbu1.out wr hbel
        have kh2 := HHbu2.out wr hbel
        by_cases hlt : k < rsbu1.length
        · have hlt2 : k < rsbu2.length := by have := HLbu.out; omega
          have HLt := hid hlt
          obtain ⟨b1, o1, rfl, hw1, hce1⟩ := HEbu1.out (by omega)
          have HX1 := hid (show ∀ W, Below w2.heap.size w2 W → ∀ j, j < 4 → W.cell? ⟨b1, o1 + k * 4 + j, none⟩ = some ((rsbu1.getD k BfV.zero).cells.getD j .nilIface) from fun W hW j hj => ((HB2.out.trans (hW.mono HB2.out.size)).cell (by exact hw1)).trans (hce1 k hlt j hj))
          have HQ1 := hid (HAbu1.out k hlt)
          have HY1 := HHbu1
          obtain ⟨b2, o2, rfl, hw2, hce2⟩ := HEbu2.out (by omega)
          have HX2 := hid (show ∀ W, Below w2.heap.size w2 W → ∀ j, j < 4 → W.cell? ⟨b2, o2 + k * 4 + j, none⟩ = some ((rsbu2.getD k BfV.zero).cells.getD j .nilIface) from fun W hW j hj => ((HB2.out.trans (hW.mono HB2.out.size)).cell (by exact hw2)).trans (hce2 k hlt2 j hj))
          have HQ2 := hid (HAbu2.out k hlt2)
          have HY2 := HHbu2
          clear hce1 hce2
          generalize c1.bu.getD k Bf.zero = x at HQ1 HQ2
          generalize rsbu1.getD k BfV.zero = q at HX1 HQ1
          generalize rsbu2.getD k BfV.zero = p at HX2 HQ2
          obtain ⟨qx0, qx1, ⟨qa2, qn2, qc2⟩, ⟨qa3, qn3, qc3⟩⟩ := q
          obtain ⟨px0, px1, ⟨pa2, pn2, pc2⟩, ⟨pa3, pn3, pc3⟩⟩ := p
          have HC10 := hid (show ∀ W, Below w2.heap.size w2 W → W.cell? ⟨b1, o1 + k * 4, none⟩ = some (.int .i64 qx0) from fun W hW => (HX1.out W hW 0 (by decide)).trans rfl)
          have HC11 := hid (show ∀ W, Below w2.heap.size w2 W → W.cell? ⟨b1, o1 + k * 4 + 1, none⟩ = some (.bool qx1) from fun W hW => (HX1.out W hW 1 (by decide)).trans rfl)
          have HC12 := hid (show ∀ W, Below w2.heap.size w2 W → W.cell? ⟨b1, o1 + k * 4 + 2, none⟩ = some (.slice qa2 qn2 qc2) from fun W hW => (HX1.out W hW 2 (by decide)).trans rfl)
          have HC13 := hid (show ∀ W, Below w2.heap.size w2 W → W.cell? ⟨b1, o1 + k * 4 + 3, none⟩ = some (.slice qa3 qn3 qc3) from fun W hW => (HX1.out W hW 3 (by decide)).trans rfl)
          have HC20 := hid (show ∀ W, Below w2.heap.size w2 W → W.cell? ⟨b2, o2 + k * 4, none⟩ = some (.int .i64 px0) from fun W hW => (HX2.out W hW 0 (by decide)).trans rfl)
          have HC21 := hid (show ∀ W, Below w2.heap.size w2 W → W.cell? ⟨b2, o2 + k * 4 + 1, none⟩ = some (.bool px1) from fun W hW => (HX2.out W hW 1 (by decide)).trans rfl)
          have HC22 := hid (show ∀ W, Below w2.heap.size w2 W → W.cell? ⟨b2, o2 + k * 4 + 2, none⟩ = some (.slice pa2 pn2 pc2) from fun W hW => (HX2.out W hW 2 (by decide)).trans rfl)
          have HC23 := hid (show ∀ W, Below w2.heap.size w2 W → W.cell? ⟨b2, o2 + k * 4 + 3, none⟩ = some (.slice pa3 pn3 pc3) from fun W hW => (HX2.out W hW 3 (by decide)).trans rfl)
          clear HX1 HX2
          go_wp2_with fail
          refine wp_region_held_drew (S := (fun W => Below w2.heap.size w2 W)) (by kernel_rfl) (Below.drew hbel) (fun hh0_ => ?_)
          refine wpAnyH_take (i := 0) (oi := { dst := some 107, op := Op.fieldAddr 39 (Operand.tmp 2) 6, type := 0, pos := "ref.go:243", after := #[], guard := none }) (v := ?v1201) rfl (by kernel_rfl) (by kernel_rfl) (by kernel_rfl) (fun _ _ _ h => h) (Or.inl ⟨by rfl, ?hy1201⟩) (by assumption) ?rest1201
          case hy1201 => (intro w hSw; (try dsimp only at hSw); go_simp; try with_reducible rfl)
          simp only [Act.put, List.setIfInBounds_toArray, List.set_cons_zero, List.set_cons_succ]
          refine wpAnyH_take (i := 1) (oi := { dst := some 108, op := Op.load 31 (Operand.tmp 107), type := 31, pos := "ref.go:243", after := #[{ on := 0, ground := Ground.data }], guard := none }) (v := ?v1202) rfl (by kernel_rfl) (by kernel_rfl) (by kernel_rfl) (fun _ _ _ h => h) (Or.inl ⟨by rfl, ?hy1202⟩) (by assumption) ?rest1202
          case hy1202 => (intro W hSw; (try dsimp only at hSw); have e1 := HY1.out W hSw; have e2 := HY2.out W hSw; have f10 := HC10.out W hSw; have f11 := HC11.out W hSw; have f12 := HC12.out W hSw; have f13 := HC13.out W hSw; have f20 := HC20.out W hSw; have f21 := HC21.out W hSw; have f22 := HC22.out W hSw; have f23 := HC23.out W hSw; go_simp; try with_reducible rfl)
          simp only [Act.put, List.setIfInBounds_toArray, List.set_cons_zero, List.set_cons_succ]
          refine wpAnyH_take (i := 2) (oi := { dst := some 109, op := Op.move (Operand.tmp 7), type := 3, pos := "ref.go:243", after := #[], guard := none }) (v := ?v1203) rfl (by kernel_rfl) (by kernel_rfl) (by kernel_rfl) (fun _ _ _ h => h) (Or.inl ⟨by rfl, ?hy1203⟩) (by assumption) ?rest1203
          case hy1203 => (intro w hSw; (try dsimp only at hSw); go_simp; try with_reducible rfl)
          simp only [Act.put, List.setIfInBounds_toArray, List.set_cons_zero, List.set_cons_succ]
          refine wpAnyH_take (i := 3) (oi := { dst := some 110, op := Op.indexAddr 31 (Operand.tmp 108) (Operand.tmp 109), type := 0, pos := "ref.go:243", after := #[{ on := 1, ground := Ground.data }, { on := 2, ground := Ground.data }], guard := none }) (v := ?v1204) rfl (by kernel_rfl) (by kernel_rfl) (by kernel_rfl) (fun _ _ _ h => h) (Or.inl ⟨by rfl, ?hy1204⟩) (by assumption) ?rest1204
          case hy1204 => (intro w hSw; (try dsimp only at hSw); go_simp; try with_reducible rfl)
          simp only [Act.put, List.setIfInBounds_toArray, List.set_cons_zero, List.set_cons_succ]
          refine wpAnyH_take (i := 4) (oi := { dst := some 111, op := Op.fieldAddr 69 (Operand.tmp 110) 3, type := 0, pos := "ref.go:243", after := #[{ on := 3, ground := Ground.data }], guard := none }) (v := ?v1205) rfl (by kernel_rfl) (by kernel_rfl) (by kernel_rfl) (fun _ _ _ h => h) (Or.inl ⟨by rfl, ?hy1205⟩) (by assumption) ?rest1205
          case hy1205 => (intro w hSw; (try dsimp only at hSw); go_simp; try with_reducible rfl)
          simp only [Act.put, List.setIfInBounds_toArray, List.set_cons_zero, List.set_cons_succ]
          refine wpAnyH_take (i := 5) (oi := { dst := some 112, op := Op.load 65 (Operand.tmp 111), type := 65, pos := "ref.go:243", after := #[{ on := 4, ground := Ground.data }], guard := none }) (v := ?v1206) rfl (by kernel_rfl) (by kernel_rfl) (by kernel_rfl) (fun _ _ _ h => h) (Or.inl ⟨by rfl, ?hy1206⟩) (by assumption) ?rest1206
          case hy1206 => (intro W hSw; (try dsimp only at hSw); have e1 := HY1.out W hSw; have e2 := HY2.out W hSw; have f10 := HC10.out W hSw; have f11 := HC11.out W hSw; have f12 := HC12.out W hSw; have f13 := HC13.out W hSw; have f20 := HC20.out W hSw; have f21 := HC21.out W hSw; have f22 := HC22.out W hSw; have f23 := HC23.out W hSw; go_simp; try with_reducible rfl)
          simp only [Act.put, List.setIfInBounds_toArray, List.set_cons_zero, List.set_cons_succ]
          refine wpAnyH_take (i := 6) (oi := { dst := some 113, op := Op.fieldAddr 39 (Operand.tmp 3) 6, type := 0, pos := "ref.go:243", after := #[], guard := none }) (v := ?v1207) rfl (by kernel_rfl) (by kernel_rfl) (by kernel_rfl) (fun _ _ _ h => h) (Or.inl ⟨by rfl, ?hy1207⟩) (by assumption) ?rest1207
          case hy1207 => (intro w hSw; (try dsimp only at hSw); go_simp; try with_reducible rfl)
          simp only [Act.put, List.setIfInBounds_toArray, List.set_cons_zero, List.set_cons_succ]
          refine wpAnyH_take (i := 7) (oi := { dst := some 114, op := Op.load 31 (Operand.tmp 113), type := 31, pos := "ref.go:243", after := #[{ on := 6, ground := Ground.data }], guard := none }) (v := ?v1208) rfl (by kernel_rfl) (by kernel_rfl) (by kernel_rfl) (fun _ _ _ h => h) (Or.inl ⟨by rfl, ?hy1208⟩) (by assumption) ?rest1208
          case hy1208 => (intro W hSw; (try dsimp only at hSw); have e1 := HY1.out W hSw; have e2 := HY2.out W hSw; have f10 := HC10.out W hSw; have f11 := HC11.out W hSw; have f12 := HC12.out W hSw; have f13 := HC13.out W hSw; have f20 := HC20.out W hSw; have f21 := HC21.out W hSw; have f22 := HC22.out W hSw; have f23 := HC23.out W hSw; go_simp; try with_reducible rfl)
          simp only [Act.put, List.setIfInBounds_toArray, List.set_cons_zero, List.set_cons_succ]
          refine wpAnyH_take (i := 8) (oi := { dst := some 115, op := Op.move (Operand.tmp 7), type := 3, pos := "ref.go:243", after := #[], guard := none }) (v := ?v1209) rfl (by kernel_rfl) (by kernel_rfl) (by kernel_rfl) (fun _ _ _ h => h) (Or.inl ⟨by rfl, ?hy1209⟩) (by assumption) ?rest1209
          case hy1209 => (intro w hSw; (try dsimp only at hSw); go_simp; try with_reducible rfl)
          simp only [Act.put, List.setIfInBounds_toArray, List.set_cons_zero, List.set_cons_succ]
          refine wpAnyH_take (i := 9) (oi := { dst := some 116, op := Op.indexAddr 31 (Operand.tmp 114) (Operand.tmp 115), type := 0, pos := "ref.go:243", after := #[{ on := 7, ground := Ground.data }, { on := 8, ground := Ground.data }], guard := none }) (v := ?v1210) rfl (by kernel_rfl) (by kernel_rfl) (by kernel_rfl) (fun _ _ _ h => h) (Or.inl ⟨by rfl, ?hy1210⟩) (by assumption) ?rest1210
          case hy1210 => (intro w hSw; (try dsimp only at hSw); go_simp; try with_reducible rfl)
          simp only [Act.put, List.setIfInBounds_toArray, List.set_cons_zero, List.set_cons_succ]
          refine wpAnyH_take (i := 10) (oi := { dst := some 117, op := Op.fieldAddr 69 (Operand.tmp 116) 3, type := 0, pos := "ref.go:243", after := #[{ on := 9, ground := Ground.data }], guard := none }) (v := ?v1211) rfl (by kernel_rfl) (by kernel_rfl) (by kernel_rfl) (fun _ _ _ h => h) (Or.inl ⟨by rfl, ?hy1211⟩) (by assumption) ?rest1211
          case hy1211 => (intro w hSw; (try dsimp only at hSw); go_simp; try with_reducible rfl)
          simp only [Act.put, List.setIfInBounds_toArray, List.set_cons_zero, List.set_cons_succ]
          refine wpAnyH_take (i := 11) (oi := { dst := some 118, op := Op.load 65 (Operand.tmp 117), type := 65, pos := "ref.go:243", after := #[{ on := 10, ground := Ground.data }], guard := none }) (v := ?v1212) rfl (by kernel_rfl) (by kernel_rfl) (by kernel_rfl) (fun _ _ _ h => h) (Or.inl ⟨by rfl, ?hy1212⟩) (by assumption) ?rest1212
          case hy1212 => (intro W hSw; (try dsimp only at hSw); have e1 := HY1.out W hSw; have e2 := HY2.out W hSw; have f10 := HC10.out W hSw; have f11 := HC11.out W hSw; have f12 := HC12.out W hSw; have f13 := HC13.out W hSw; have f20 := HC20.out W hSw; have f21 := HC21.out W hSw; have f22 := HC22.out W hSw; have f23 := HC23.out W hSw; go_simp; try with_reducible rfl)
          simp only [Act.put, List.setIfInBounds_toArray, List.set_cons_zero, List.set_cons_succ]
          refine wpAnyH_ready (rs := [12]) (by kernel_rfl) (by simp) (AllReadyH.cons (o := { dst := some 119, op := Op.call { callee := Callee.value (Operand.func 48), args := #[Operand.tmp 112, Operand.tmp 118], argTypes := #[65, 65] }, type := 4, pos := "ref.go:243", after := #[{ on := 5, ground := Ground.data }, { on := 11, ground := Ground.data }], guard := none }) rfl (fun K1213 hK1213 => ?_) AllReadyH.nil)
          go_simp
          refine (waits_tot _ _ x.l x.l _ (HQ1.out.l.below (HB2.out.trans (Below.mono hh0_ HB2.out.size))) (HQ2.out.l.below (HB2.out.trans (Below.mono hh0_ HB2.out.size)))).mono ?_
          rintro e wq0 ⟨⟨d0, rfl, hd0⟩, hbl0⟩
          obtain rfl : d0 = true := hd0 rfl
          clear hd0
          refine hK1213.out _ _ (Below.trans hh0_ (hbl0.mono (Below.size hh0_))) (fun hh0_1213 => ?_)
          clear hK1213 K1213
          try simp only [Act.put, List.setIfInBounds_toArray, List.set_cons_zero, List.set_cons_succ]
          refine wpAnyH_take (i := 13) (oi := { dst := some 8, op := Op.assign (Operand.tmp 119), type := 4, pos := "ref.go:243", after := #[{ on := 12, ground := Ground.data }, { on := 12, ground := Ground.chain }, { on := 0, ground := Ground.phase }, { on := 1, ground := Ground.phase }, { on := 2, ground := Ground.phase }, { on := 3, ground := Ground.phase }, { on := 4, ground := Ground.phase }, { on := 5, ground := Ground.phase }, { on := 6, ground := Ground.phase }, { on := 7, ground := Ground.phase }, { on := 8, ground := Ground.phase }, { on := 9, ground := Ground.phase }, { on := 10, ground := Ground.phase }, { on := 11, ground := Ground.phase }, { on := 12, ground := Ground.phase }], guard := none }) (v := ?v1214) rfl (by kernel_rfl) (by kernel_rfl) (by kernel_rfl) (fun _ _ _ h => h) (Or.inl ⟨by rfl, ?hy1214⟩) (by assumption) ?rest1214
          case hy1214 => (intro w hSw; (try dsimp only at hSw); go_simp; try with_reducible rfl)
          simp only [Act.put, List.setIfInBounds_toArray, List.set_cons_zero, List.set_cons_succ]
          refine wpAnyH_done (by kernel_rfl) ?_ _
          have HW0 := hid hh0_1213
          go_wp2_with fail
          refine wp_region_held_drew (S := (fun W => Below w2.heap.size w2 W)) (by kernel_rfl) (Below.drew HW0.out) (fun hh1_ => ?_)
          refine wpAnyH_take (i := 0) (oi := { dst := some 120, op := Op.fieldAddr 39 (Operand.tmp 2) 6, type := 0, pos := "ref.go:244", after := #[], guard := none }) (v := ?v1401) rfl (by kernel_rfl) (by kernel_rfl) (by kernel_rfl) (fun _ _ _ h => h) (Or.inl ⟨by rfl, ?hy1401⟩) (by assumption) ?rest1401
          case hy1401 => (intro w hSw; (try dsimp only at hSw); go_simp; try with_reducible rfl)
          simp only [Act.put, List.setIfInBounds_toArray, List.set_cons_zero, List.set_cons_succ]
          refine wpAnyH_take (i := 1) (oi := { dst := some 121, op := Op.load 31 (Operand.tmp 120), type := 31, pos := "ref.go:244", after := #[{ on := 0, ground := Ground.data }], guard := none }) (v := ?v1402) rfl (by kernel_rfl) (by kernel_rfl) (by kernel_rfl) (fun _ _ _ h => h) (Or.inl ⟨by rfl, ?hy1402⟩) (by assumption) ?rest1402
          case hy1402 => (intro W hSw; (try dsimp only at hSw); have e1 := HY1.out W hSw; have e2 := HY2.out W hSw; have f10 := HC10.out W hSw; have f11 := HC11.out W hSw; have f12 := HC12.out W hSw; have f13 := HC13.out W hSw; have f20 := HC20.out W hSw; have f21 := HC21.out W hSw; have f22 := HC22.out W hSw; have f23 := HC23.out W hSw; go_simp; try with_reducible rfl)
          simp only [Act.put, List.setIfInBounds_toArray, List.set_cons_zero, List.set_cons_succ]
          refine wpAnyH_take (i := 2) (oi := { dst := some 122, op := Op.move (Operand.tmp 7), type := 3, pos := "ref.go:244", after := #[], guard := none }) (v := ?v1403) rfl (by kernel_rfl) (by kernel_rfl) (by kernel_rfl) (fun _ _ _ h => h) (Or.inl ⟨by rfl, ?hy1403⟩) (by assumption) ?rest1403
          case hy1403 => (intro w hSw; (try dsimp only at hSw); go_simp; try with_reducible rfl)
          simp only [Act.put, List.setIfInBounds_toArray, List.set_cons_zero, List.set_cons_succ]
          refine wpAnyH_take (i := 3) (oi := { dst := some 123, op := Op.indexAddr 31 (Operand.tmp 121) (Operand.tmp 122), type := 0, pos := "ref.go:244", after := #[{ on := 1, ground := Ground.data }, { on := 2, ground := Ground.data }], guard := none }) (v := ?v1404) rfl (by kernel_rfl) (by kernel_rfl) (by kernel_rfl) (fun _ _ _ h => h) (Or.inl ⟨by rfl, ?hy1404⟩) (by assumption) ?rest1404
          case hy1404 => (intro w hSw; (try dsimp only at hSw); go_simp; try with_reducible rfl)
          simp only [Act.put, List.setIfInBounds_toArray, List.set_cons_zero, List.set_cons_succ]
          refine wpAnyH_take (i := 4) (oi := { dst := some 124, op := Op.fieldAddr 69 (Operand.tmp 123) 2, type := 0, pos := "ref.go:244", after := #[{ on := 3, ground := Ground.data }], guard := none }) (v := ?v1405) rfl (by kernel_rfl) (by kernel_rfl) (by kernel_rfl) (fun _ _ _ h => h) (Or.inl ⟨by rfl, ?hy1405⟩) (by assumption) ?rest1405
          case hy1405 => (intro w hSw; (try dsimp only at hSw); go_simp; try with_reducible rfl)
          simp only [Act.put, List.setIfInBounds_toArray, List.set_cons_zero, List.set_cons_succ]
          refine wpAnyH_take (i := 5) (oi := { dst := some 125, op := Op.load 26 (Operand.tmp 124), type := 26, pos := "ref.go:244", after := #[{ on := 4, ground := Ground.data }], guard := none }) (v := ?v1406) rfl (by kernel_rfl) (by kernel_rfl) (by kernel_rfl) (fun _ _ _ h => h) (Or.inl ⟨by rfl, ?hy1406⟩) (by assumption) ?rest1406
          case hy1406 => (intro W hSw; (try dsimp only at hSw); have e1 := HY1.out W hSw; have e2 := HY2.out W hSw; have f10 := HC10.out W hSw; have f11 := HC11.out W hSw; have f12 := HC12.out W hSw; have f13 := HC13.out W hSw; have f20 := HC20.out W hSw; have f21 := HC21.out W hSw; have f22 := HC22.out W hSw; have f23 := HC23.out W hSw; go_simp; try with_reducible rfl)
          simp only [Act.put, List.setIfInBounds_toArray, List.set_cons_zero, List.set_cons_succ]
          refine wpAnyH_take (i := 6) (oi := { dst := some 126, op := Op.fieldAddr 39 (Operand.tmp 3) 6, type := 0, pos := "ref.go:244", after := #[], guard := none }) (v := ?v1407) rfl (by kernel_rfl) (by kernel_rfl) (by kernel_rfl) (fun _ _ _ h => h) (Or.inl ⟨by rfl, ?hy1407⟩) (by assumption) ?rest1407
          case hy1407 => (intro w hSw; (try dsimp only at hSw); go_simp; try with_reducible rfl)
          simp only [Act.put, List.setIfInBounds_toArray, List.set_cons_zero, List.set_cons_succ]
          refine wpAnyH_take (i := 7) (oi := { dst := some 127, op := Op.load 31 (Operand.tmp 126), type := 31, pos := "ref.go:244", after := #[{ on := 6, ground := Ground.data }], guard := none }) (v := ?v1408) rfl (by kernel_rfl) (by kernel_rfl) (by kernel_rfl) (fun _ _ _ h => h) (Or.inl ⟨by rfl, ?hy1408⟩) (by assumption) ?rest1408
          case hy1408 => (intro W hSw; (try dsimp only at hSw); have e1 := HY1.out W hSw; have e2 := HY2.out W hSw; have f10 := HC10.out W hSw; have f11 := HC11.out W hSw; have f12 := HC12.out W hSw; have f13 := HC13.out W hSw; have f20 := HC20.out W hSw; have f21 := HC21.out W hSw; have f22 := HC22.out W hSw; have f23 := HC23.out W hSw; go_simp; try with_reducible rfl)
          simp only [Act.put, List.setIfInBounds_toArray, List.set_cons_zero, List.set_cons_succ]
          refine wpAnyH_take (i := 8) (oi := { dst := some 128, op := Op.move (Operand.tmp 7), type := 3, pos := "ref.go:244", after := #[], guard := none }) (v := ?v1409) rfl (by kernel_rfl) (by kernel_rfl) (by kernel_rfl) (fun _ _ _ h => h) (Or.inl ⟨by rfl, ?hy1409⟩) (by assumption) ?rest1409
          case hy1409 => (intro w hSw; (try dsimp only at hSw); go_simp; try with_reducible rfl)
          simp only [Act.put, List.setIfInBounds_toArray, List.set_cons_zero, List.set_cons_succ]
          refine wpAnyH_take (i := 9) (oi := { dst := some 129, op := Op.indexAddr 31 (Operand.tmp 127) (Operand.tmp 128), type := 0, pos := "ref.go:244", after := #[{ on := 7, ground := Ground.data }, { on := 8, ground := Ground.data }], guard := none }) (v := ?v1410) rfl (by kernel_rfl) (by kernel_rfl) (by kernel_rfl) (fun _ _ _ h => h) (Or.inl ⟨by rfl, ?hy1410⟩) (by assumption) ?rest1410
          case hy1410 => (intro w hSw; (try dsimp only at hSw); go_simp; try with_reducible rfl)
          simp only [Act.put, List.setIfInBounds_toArray, List.set_cons_zero, List.set_cons_succ]
          refine wpAnyH_take (i := 10) (oi := { dst := some 130, op := Op.fieldAddr 69 (Operand.tmp 129) 2, type := 0, pos := "ref.go:244", after := #[{ on := 9, ground := Ground.data }], guard := none }) (v := ?v1411) rfl (by kernel_rfl) (by kernel_rfl) (by kernel_rfl) (fun _ _ _ h => h) (Or.inl ⟨by rfl, ?hy1411⟩) (by assumption) ?rest1411
          case hy1411 => (intro w hSw; (try dsimp only at hSw); go_simp; try with_reducible rfl)
          simp only [Act.put, List.setIfInBounds_toArray, List.set_cons_zero, List.set_cons_succ]
          refine wpAnyH_take (i := 11) (oi := { dst := some 131, op := Op.load 26 (Operand.tmp 130), type := 26, pos := "ref.go:244", after := #[{ on := 10, ground := Ground.data }], guard := none }) (v := ?v1412) rfl (by kernel_rfl) (by kernel_rfl) (by kernel_rfl) (fun _ _ _ h => h) (Or.inl ⟨by rfl, ?hy1412⟩) (by assumption) ?rest1412
          case hy1412 => (intro W hSw; (try dsimp only at hSw); have e1 := HY1.out W hSw; have e2 := HY2.out W hSw; have f10 := HC10.out W hSw; have f11 := HC11.out W hSw; have f12 := HC12.out W hSw; have f13 := HC13.out W hSw; have f20 := HC20.out W hSw; have f21 := HC21.out W hSw; have f22 := HC22.out W hSw; have f23 := HC23.out W hSw; go_simp; try with_reducible rfl)
          simp only [Act.put, List.setIfInBounds_toArray, List.set_cons_zero, List.set_cons_succ]
          refine wpAnyH_ready (rs := [12]) (by kernel_rfl) (by simp) (AllReadyH.cons (o := { dst := some 132, op := Op.call { callee := Callee.value (Operand.func 26), args := #[Operand.tmp 125, Operand.tmp 131], argTypes := #[26, 26] }, type := 4, pos := "ref.go:244", after := #[{ on := 5, ground := Ground.data }, { on := 11, ground := Ground.data }], guard := none }) rfl (fun K1413 hK1413 => ?_) AllReadyH.nil)
          go_simp
          refine (ints_tot _ _ x.vs x.vs _ (HQ1.out.vs.below (HB2.out.trans (Below.mono hh1_ HB2.out.size))) (HQ2.out.vs.below (HB2.out.trans (Below.mono hh1_ HB2.out.size)))).mono ?_
          rintro e wq1 ⟨⟨d1, rfl, hd1⟩, hbl1⟩
          obtain rfl : d1 = true := hd1 rfl
          clear hd1
          refine hK1413.out _ _ (Below.trans hh1_ (hbl1.mono (Below.size hh1_))) (fun hh1_1413 => ?_)
          clear hK1413 K1413
          try simp only [Act.put, List.setIfInBounds_toArray, List.set_cons_zero, List.set_cons_succ]
          refine wpAnyH_take (i := 13) (oi := { dst := some 9, op := Op.assign (Operand.tmp 132), type := 4, pos := "ref.go:244", after := #[{ on := 12, ground := Ground.data }, { on := 12, ground := Ground.chain }, { on := 0, ground := Ground.phase }, { on := 1, ground := Ground.phase }, { on := 2, ground := Ground.phase }, { on := 3, ground := Ground.phase }, { on := 4, ground := Ground.phase }, { on := 5, ground := Ground.phase }, { on := 6, ground := Ground.phase }, { on := 7, ground := Ground.phase }, { on := 8, ground := Ground.phase }, { on := 9, ground := Ground.phase }, { on := 10, ground := Ground.phase }, { on := 11, ground := Ground.phase }, { on := 12, ground := Ground.phase }], guard := none }) (v := ?v1414) rfl (by kernel_rfl) (by kernel_rfl) (by kernel_rfl) (fun _ _ _ h => h) (Or.inl ⟨by rfl, ?hy1414⟩) (by assumption) ?rest1414
          case hy1414 => (intro w hSw; (try dsimp only at hSw); go_simp; try with_reducible rfl)
          simp only [Act.put, List.setIfInBounds_toArray, List.set_cons_zero, List.set_cons_succ]
          refine wpAnyH_done (by kernel_rfl) ?_ _
          have HW1 := hid hh1_1413
          obtain rfl : qx0 = px0 := by have h1 := HQ1.out.d; have h2 := HQ2.out.d; simp only at h1 h2; exact h1.trans h2.symm
          obtain rfl : qx1 = px1 := by have h1 := HQ1.out.k; have h2 := HQ2.out.k; simp only at h1 h2; exact h1.trans h2.symm
          go_wp2_with fail
          refine wp_region_held_drew (S := (fun W => Below w2.heap.size w2 W)) (by kernel_rfl) (Below.drew HW1.out) (fun ht_ => ?_)
          refine wpAnyH_take (i := 0) (oi := { dst := some 133, op := Op.move (Operand.tmp 8), type := 4, pos := "ref.go:245", after := #[], guard := none }) (v := ?v1601) rfl (by kernel_rfl) (by kernel_rfl) (by kernel_rfl) (fun _ _ _ h => h) (Or.inl ⟨by rfl, ?hy1601⟩) (by assumption) ?rest1601
          case hy1601 => (intro w hSw; (try dsimp only at hSw); go_simp; try with_reducible rfl)
          simp only [Act.put, List.setIfInBounds_toArray, List.set_cons_zero, List.set_cons_succ]
          refine wpAnyH_take (i := 1) (oi := { dst := some 134, op := Op.unOp UnOp.not 4 (Operand.tmp 133), type := 4, pos := "ref.go:245", after := #[{ on := 0, ground := Ground.data }], guard := none }) (v := ?v1602) rfl (by kernel_rfl) (by kernel_rfl) (by kernel_rfl) (fun _ _ _ h => h) (Or.inl ⟨by rfl, ?hy1602⟩) (by assumption) ?rest1602
          case hy1602 => (intro w hSw; (try dsimp only at hSw); go_simp; try with_reducible rfl)
          simp only [Act.put, List.setIfInBounds_toArray, List.set_cons_zero, List.set_cons_succ]
          refine wpAnyH_take (i := 2) (oi := { dst := some 135, op := Op.move (Operand.tmp 134), type := 4, pos := "ref.go:245", after := #[{ on := 1, ground := Ground.data }], guard := none }) (v := ?v1603) rfl (by kernel_rfl) (by kernel_rfl) (by kernel_rfl) (fun _ _ _ h => h) (Or.inl ⟨by rfl, ?hy1603⟩) (by assumption) ?rest1603
          case hy1603 => (intro w hSw; (try dsimp only at hSw); go_simp; try with_reducible rfl)
          simp only [Act.put, List.setIfInBounds_toArray, List.set_cons_zero, List.set_cons_succ]
          refine wpAnyH_take (i := 3) (oi := { dst := some 136, op := Op.move (Operand.tmp 9), type := 4, pos := "ref.go:245", after := #[{ on := 2, ground := Ground.guard }], guard := some (2, false) }) (v := ?v1604) rfl (by kernel_rfl) (by kernel_rfl) (by kernel_rfl) (fun _ _ _ h => h) (Or.inl ⟨by rfl, ?hy1604⟩) (by assumption) ?rest1604
          case hy1604 => (intro w hSw; (try dsimp only at hSw); go_simp; try with_reducible rfl)
          simp only [Act.put, List.setIfInBounds_toArray, List.set_cons_zero, List.set_cons_succ]
          refine wpAnyH_take (i := 4) (oi := { dst := some 137, op := Op.unOp UnOp.not 4 (Operand.tmp 136), type := 4, pos := "ref.go:245", after := #[{ on := 3, ground := Ground.data }, { on := 2, ground := Ground.guard }], guard := some (2, false) }) (v := ?v1605) rfl (by kernel_rfl) (by kernel_rfl) (by kernel_rfl) (fun _ _ _ h => h) (Or.inl ⟨by rfl, ?hy1605⟩) (by assumption) ?rest1605
          case hy1605 => (intro w hSw; (try dsimp only at hSw); go_simp; try with_reducible rfl)
          simp only [Act.put, List.setIfInBounds_toArray, List.set_cons_zero, List.set_cons_succ]
          refine wpAnyH_take (i := 5) (oi := { dst := some 138, op := Op.pick (Operand.tmp 135) (Operand.const (Value.bool true)) (Operand.tmp 137), type := 4, pos := "ref.go:245", after := #[{ on := 2, ground := Ground.data }, { on := 4, ground := Ground.data }], guard := none }) (v := ?v1606) rfl (by kernel_rfl) (by kernel_rfl) (by kernel_rfl) (fun _ _ _ h => h) (Or.inl ⟨by rfl, ?hy1606⟩) (by assumption) ?rest1606
          case hy1606 => (intro w hSw; (try dsimp only at hSw); go_simp; try with_reducible rfl)
          simp only [Act.put, List.setIfInBounds_toArray, List.set_cons_zero, List.set_cons_succ]
          refine wpAnyH_take (i := 6) (oi := { dst := some 139, op := Op.move (Operand.tmp 138), type := 4, pos := "ref.go:245", after := #[{ on := 5, ground := Ground.data }, { on := 2, ground := Ground.chain }], guard := none }) (v := ?v1607) rfl (by kernel_rfl) (by kernel_rfl) (by kernel_rfl) (fun _ _ _ h => h) (Or.inl ⟨by rfl, ?hy1607⟩) (by assumption) ?rest1607
          case hy1607 => (intro w hSw; (try dsimp only at hSw); go_simp; try with_reducible rfl)
          simp only [Act.put, List.setIfInBounds_toArray, List.set_cons_zero, List.set_cons_succ]
          refine wpAnyH_take (i := 7) (oi := { dst := some 140, op := Op.fieldAddr 39 (Operand.tmp 2) 6, type := 0, pos := "ref.go:245", after := #[{ on := 6, ground := Ground.guard }], guard := some (6, false) }) (v := ?v1608) rfl (by kernel_rfl) (by kernel_rfl) (by kernel_rfl) (fun _ _ _ h => h) (Or.inl ⟨by rfl, ?hy1608⟩) (by assumption) ?rest1608
          case hy1608 => (intro w hSw; (try dsimp only at hSw); go_simp; try with_reducible rfl)
          simp only [Act.put, List.setIfInBounds_toArray, List.set_cons_zero, List.set_cons_succ]
          refine wpAnyH_take (i := 8) (oi := { dst := some 141, op := Op.load 31 (Operand.tmp 140), type := 31, pos := "ref.go:245", after := #[{ on := 7, ground := Ground.data }, { on := 6, ground := Ground.guard }], guard := some (6, false) }) (v := ?v1609) rfl (by kernel_rfl) (by kernel_rfl) (by kernel_rfl) (fun _ _ _ h => h) (Or.inl ⟨by rfl, ?hy1609⟩) (by assumption) ?rest1609
          case hy1609 => (intro W hSw; (try dsimp only at hSw); have e1 := HY1.out W hSw; have e2 := HY2.out W hSw; have f10 := HC10.out W hSw; have f11 := HC11.out W hSw; have f12 := HC12.out W hSw; have f13 := HC13.out W hSw; have f20 := HC20.out W hSw; have f21 := HC21.out W hSw; have f22 := HC22.out W hSw; have f23 := HC23.out W hSw; go_simp; try with_reducible rfl)
          simp only [Act.put, List.setIfInBounds_toArray, List.set_cons_zero, List.set_cons_succ]
          refine wpAnyH_take (i := 9) (oi := { dst := some 142, op := Op.move (Operand.tmp 7), type := 3, pos := "ref.go:245", after := #[{ on := 6, ground := Ground.guard }], guard := some (6, false) }) (v := ?v1610) rfl (by kernel_rfl) (by kernel_rfl) (by kernel_rfl) (fun _ _ _ h => h) (Or.inl ⟨by rfl, ?hy1610⟩) (by assumption) ?rest1610
          case hy1610 => (intro w hSw; (try dsimp only at hSw); go_simp; try with_reducible rfl)
          simp only [Act.put, List.setIfInBounds_toArray, List.set_cons_zero, List.set_cons_succ]
          refine wpAnyH_take (i := 10) (oi := { dst := some 143, op := Op.indexAddr 31 (Operand.tmp 141) (Operand.tmp 142), type := 0, pos := "ref.go:245", after := #[{ on := 8, ground := Ground.data }, { on := 9, ground := Ground.data }, { on := 6, ground := Ground.guard }], guard := some (6, false) }) (v := ?v1611) rfl (by kernel_rfl) (by kernel_rfl) (by kernel_rfl) (fun _ _ _ h => h) (Or.inl ⟨by rfl, ?hy1611⟩) (by assumption) ?rest1611
          case hy1611 => (intro w hSw; (try dsimp only at hSw); go_simp; try with_reducible rfl)
          simp only [Act.put, List.setIfInBounds_toArray, List.set_cons_zero, List.set_cons_succ]
          refine wpAnyH_take (i := 11) (oi := { dst := some 144, op := Op.fieldAddr 69 (Operand.tmp 143) 0, type := 0, pos := "ref.go:245", after := #[{ on := 10, ground := Ground.data }, { on := 6, ground := Ground.guard }], guard := some (6, false) }) (v := ?v1612) rfl (by kernel_rfl) (by kernel_rfl) (by kernel_rfl) (fun _ _ _ h => h) (Or.inl ⟨by rfl, ?hy1612⟩) (by assumption) ?rest1612
          case hy1612 => (intro w hSw; (try dsimp only at hSw); go_simp; try with_reducible rfl)
          simp only [Act.put, List.setIfInBounds_toArray, List.set_cons_zero, List.set_cons_succ]
          refine wpAnyH_take (i := 12) (oi := { dst := some 145, op := Op.load 3 (Operand.tmp 144), type := 3, pos := "ref.go:245", after := #[{ on := 11, ground := Ground.data }, { on := 6, ground := Ground.guard }], guard := some (6, false) }) (v := ?v1613) rfl (by kernel_rfl) (by kernel_rfl) (by kernel_rfl) (fun _ _ _ h => h) (Or.inl ⟨by rfl, ?hy1613⟩) (by assumption) ?rest1613
          case hy1613 => (intro W hSw; (try dsimp only at hSw); have e1 := HY1.out W hSw; have e2 := HY2.out W hSw; have f10 := HC10.out W hSw; have f11 := HC11.out W hSw; have f12 := HC12.out W hSw; have f13 := HC13.out W hSw; have f20 := HC20.out W hSw; have f21 := HC21.out W hSw; have f22 := HC22.out W hSw; have f23 := HC23.out W hSw; go_simp; try with_reducible rfl)
          simp only [Act.put, List.setIfInBounds_toArray, List.set_cons_zero, List.set_cons_succ]
          refine wpAnyH_take (i := 13) (oi := { dst := some 146, op := Op.fieldAddr 39 (Operand.tmp 3) 6, type := 0, pos := "ref.go:245", after := #[{ on := 6, ground := Ground.guard }], guard := some (6, false) }) (v := ?v1614) rfl (by kernel_rfl) (by kernel_rfl) (by kernel_rfl) (fun _ _ _ h => h) (Or.inl ⟨by rfl, ?hy1614⟩) (by assumption) ?rest1614
          case hy1614 => (intro w hSw; (try dsimp only at hSw); go_simp; try with_reducible rfl)
          simp only [Act.put, List.setIfInBounds_toArray, List.set_cons_zero, List.set_cons_succ]
          refine wpAnyH_take (i := 14) (oi := { dst := some 147, op := Op.load 31 (Operand.tmp 146), type := 31, pos := "ref.go:245", after := #[{ on := 13, ground := Ground.data }, { on := 6, ground := Ground.guard }], guard := some (6, false) }) (v := ?v1615) rfl (by kernel_rfl) (by kernel_rfl) (by kernel_rfl) (fun _ _ _ h => h) (Or.inl ⟨by rfl, ?hy1615⟩) (by assumption) ?rest1615
          case hy1615 => (intro W hSw; (try dsimp only at hSw); have e1 := HY1.out W hSw; have e2 := HY2.out W hSw; have f10 := HC10.out W hSw; have f11 := HC11.out W hSw; have f12 := HC12.out W hSw; have f13 := HC13.out W hSw; have f20 := HC20.out W hSw; have f21 := HC21.out W hSw; have f22 := HC22.out W hSw; have f23 := HC23.out W hSw; go_simp; try with_reducible rfl)
          simp only [Act.put, List.setIfInBounds_toArray, List.set_cons_zero, List.set_cons_succ]
          refine wpAnyH_take (i := 15) (oi := { dst := some 148, op := Op.move (Operand.tmp 7), type := 3, pos := "ref.go:245", after := #[{ on := 6, ground := Ground.guard }], guard := some (6, false) }) (v := ?v1616) rfl (by kernel_rfl) (by kernel_rfl) (by kernel_rfl) (fun _ _ _ h => h) (Or.inl ⟨by rfl, ?hy1616⟩) (by assumption) ?rest1616
          case hy1616 => (intro w hSw; (try dsimp only at hSw); go_simp; try with_reducible rfl)
          simp only [Act.put, List.setIfInBounds_toArray, List.set_cons_zero, List.set_cons_succ]
          refine wpAnyH_take (i := 16) (oi := { dst := some 149, op := Op.indexAddr 31 (Operand.tmp 147) (Operand.tmp 148), type := 0, pos := "ref.go:245", after := #[{ on := 14, ground := Ground.data }, { on := 15, ground := Ground.data }, { on := 6, ground := Ground.guard }], guard := some (6, false) }) (v := ?v1617) rfl (by kernel_rfl) (by kernel_rfl) (by kernel_rfl) (fun _ _ _ h => h) (Or.inl ⟨by rfl, ?hy1617⟩) (by assumption) ?rest1617
          case hy1617 => (intro w hSw; (try dsimp only at hSw); go_simp; try with_reducible rfl)
          simp only [Act.put, List.setIfInBounds_toArray, List.set_cons_zero, List.set_cons_succ]
          refine wpAnyH_take (i := 17) (oi := { dst := some 150, op := Op.fieldAddr 69 (Operand.tmp 149) 0, type := 0, pos := "ref.go:245", after := #[{ on := 16, ground := Ground.data }, { on := 6, ground := Ground.guard }], guard := some (6, false) }) (v := ?v1618) rfl (by kernel_rfl) (by kernel_rfl) (by kernel_rfl) (fun _ _ _ h => h) (Or.inl ⟨by rfl, ?hy1618⟩) (by assumption) ?rest1618
          case hy1618 => (intro w hSw; (try dsimp only at hSw); go_simp; try with_reducible rfl)
          simp only [Act.put, List.setIfInBounds_toArray, List.set_cons_zero, List.set_cons_succ]
          refine wpAnyH_take (i := 18) (oi := { dst := some 151, op := Op.load 3 (Operand.tmp 150), type := 3, pos := "ref.go:245", after := #[{ on := 17, ground := Ground.data }, { on := 6, ground := Ground.guard }], guard := some (6, false) }) (v := ?v1619) rfl (by kernel_rfl) (by kernel_rfl) (by kernel_rfl) (fun _ _ _ h => h) (Or.inl ⟨by rfl, ?hy1619⟩) (by assumption) ?rest1619
          case hy1619 => (intro W hSw; (try dsimp only at hSw); have e1 := HY1.out W hSw; have e2 := HY2.out W hSw; have f10 := HC10.out W hSw; have f11 := HC11.out W hSw; have f12 := HC12.out W hSw; have f13 := HC13.out W hSw; have f20 := HC20.out W hSw; have f21 := HC21.out W hSw; have f22 := HC22.out W hSw; have f23 := HC23.out W hSw; go_simp; try with_reducible rfl)
          simp only [Act.put, List.setIfInBounds_toArray, List.set_cons_zero, List.set_cons_succ]
          refine wpAnyH_take (i := 19) (oi := { dst := some 152, op := Op.binOp BinOp.neq 3 (Operand.tmp 145) (Operand.tmp 151) 3, type := 4, pos := "ref.go:245", after := #[{ on := 12, ground := Ground.data }, { on := 18, ground := Ground.data }, { on := 6, ground := Ground.guard }], guard := some (6, false) }) (v := ?v1620) rfl (by kernel_rfl) (by kernel_rfl) (by kernel_rfl) (fun _ _ _ h => h) (Or.inl ⟨by rfl, ?hy1620⟩) (by assumption) ?rest1620
          case hy1620 => (intro w hSw; (try dsimp only at hSw); go_simp; try with_reducible rfl)
          simp only [Act.put, List.setIfInBounds_toArray, List.set_cons_zero, List.set_cons_succ]
          refine wpAnyH_take (i := 20) (oi := { dst := some 153, op := Op.pick (Operand.tmp 139) (Operand.const (Value.bool true)) (Operand.tmp 152), type := 4, pos := "ref.go:245", after := #[{ on := 6, ground := Ground.data }, { on := 19, ground := Ground.data }], guard := none }) (v := ?v1621) rfl (by kernel_rfl) (by kernel_rfl) (by kernel_rfl) (fun _ _ _ h => h) (Or.inl ⟨by rfl, ?hy1621⟩) (by assumption) ?rest1621
          case hy1621 => (intro w hSw; (try dsimp only at hSw); go_simp; try with_reducible rfl)
          simp only [Act.put, List.setIfInBounds_toArray, List.set_cons_zero, List.set_cons_succ]
          refine wpAnyH_take (i := 21) (oi := { dst := some 154, op := Op.move (Operand.tmp 153), type := 4, pos := "ref.go:245", after := #[{ on := 20, ground := Ground.data }, { on := 6, ground := Ground.chain }], guard := none }) (v := ?v1622) rfl (by kernel_rfl) (by kernel_rfl) (by kernel_rfl) (fun _ _ _ h => h) (Or.inl ⟨by rfl, ?hy1622⟩) (by assumption) ?rest1622
          case hy1622 => (intro w hSw; (try dsimp only at hSw); go_simp; try with_reducible rfl)
          simp only [Act.put, List.setIfInBounds_toArray, List.set_cons_zero, List.set_cons_succ]
          refine wpAnyH_take (i := 22) (oi := { dst := some 155, op := Op.fieldAddr 39 (Operand.tmp 2) 6, type := 0, pos := "ref.go:245", after := #[{ on := 21, ground := Ground.guard }], guard := some (21, false) }) (v := ?v1623) rfl (by kernel_rfl) (by kernel_rfl) (by kernel_rfl) (fun _ _ _ h => h) (Or.inl ⟨by rfl, ?hy1623⟩) (by assumption) ?rest1623
          case hy1623 => (intro w hSw; (try dsimp only at hSw); go_simp; try with_reducible rfl)
          simp only [Act.put, List.setIfInBounds_toArray, List.set_cons_zero, List.set_cons_succ]
          refine wpAnyH_take (i := 23) (oi := { dst := some 156, op := Op.load 31 (Operand.tmp 155), type := 31, pos := "ref.go:245", after := #[{ on := 22, ground := Ground.data }, { on := 21, ground := Ground.guard }], guard := some (21, false) }) (v := ?v1624) rfl (by kernel_rfl) (by kernel_rfl) (by kernel_rfl) (fun _ _ _ h => h) (Or.inl ⟨by rfl, ?hy1624⟩) (by assumption) ?rest1624
          case hy1624 => (intro W hSw; (try dsimp only at hSw); have e1 := HY1.out W hSw; have e2 := HY2.out W hSw; have f10 := HC10.out W hSw; have f11 := HC11.out W hSw; have f12 := HC12.out W hSw; have f13 := HC13.out W hSw; have f20 := HC20.out W hSw; have f21 := HC21.out W hSw; have f22 := HC22.out W hSw; have f23 := HC23.out W hSw; go_simp; try with_reducible rfl)
          simp only [Act.put, List.setIfInBounds_toArray, List.set_cons_zero, List.set_cons_succ]
          refine wpAnyH_take (i := 24) (oi := { dst := some 157, op := Op.move (Operand.tmp 7), type := 3, pos := "ref.go:245", after := #[{ on := 21, ground := Ground.guard }], guard := some (21, false) }) (v := ?v1625) rfl (by kernel_rfl) (by kernel_rfl) (by kernel_rfl) (fun _ _ _ h => h) (Or.inl ⟨by rfl, ?hy1625⟩) (by assumption) ?rest1625
          case hy1625 => (intro w hSw; (try dsimp only at hSw); go_simp; try with_reducible rfl)
          simp only [Act.put, List.setIfInBounds_toArray, List.set_cons_zero, List.set_cons_succ]
          refine wpAnyH_take (i := 25) (oi := { dst := some 158, op := Op.indexAddr 31 (Operand.tmp 156) (Operand.tmp 157), type := 0, pos := "ref.go:245", after := #[{ on := 23, ground := Ground.data }, { on := 24, ground := Ground.data }, { on := 21, ground := Ground.guard }], guard := some (21, false) }) (v := ?v1626) rfl (by kernel_rfl) (by kernel_rfl) (by kernel_rfl) (fun _ _ _ h => h) (Or.inl ⟨by rfl, ?hy1626⟩) (by assumption) ?rest1626
          case hy1626 => (intro w hSw; (try dsimp only at hSw); go_simp; try with_reducible rfl)
          simp only [Act.put, List.setIfInBounds_toArray, List.set_cons_zero, List.set_cons_succ]
          refine wpAnyH_take (i := 26) (oi := { dst := some 159, op := Op.fieldAddr 69 (Operand.tmp 158) 1, type := 0, pos := "ref.go:245", after := #[{ on := 25, ground := Ground.data }, { on := 21, ground := Ground.guard }], guard := some (21, false) }) (v := ?v1627) rfl (by kernel_rfl) (by kernel_rfl) (by kernel_rfl) (fun _ _ _ h => h) (Or.inl ⟨by rfl, ?hy1627⟩) (by assumption) ?rest1627
          case hy1627 => (intro w hSw; (try dsimp only at hSw); go_simp; try with_reducible rfl)
          simp only [Act.put, List.setIfInBounds_toArray, List.set_cons_zero, List.set_cons_succ]
          refine wpAnyH_take (i := 27) (oi := { dst := some 160, op := Op.load 4 (Operand.tmp 159), type := 4, pos := "ref.go:245", after := #[{ on := 26, ground := Ground.data }, { on := 21, ground := Ground.guard }], guard := some (21, false) }) (v := ?v1628) rfl (by kernel_rfl) (by kernel_rfl) (by kernel_rfl) (fun _ _ _ h => h) (Or.inl ⟨by rfl, ?hy1628⟩) (by assumption) ?rest1628
          case hy1628 => (intro W hSw; (try dsimp only at hSw); have e1 := HY1.out W hSw; have e2 := HY2.out W hSw; have f10 := HC10.out W hSw; have f11 := HC11.out W hSw; have f12 := HC12.out W hSw; have f13 := HC13.out W hSw; have f20 := HC20.out W hSw; have f21 := HC21.out W hSw; have f22 := HC22.out W hSw; have f23 := HC23.out W hSw; go_simp; try with_reducible rfl)
          simp only [Act.put, List.setIfInBounds_toArray, List.set_cons_zero, List.set_cons_succ]
          refine wpAnyH_take (i := 28) (oi := { dst := some 161, op := Op.fieldAddr 39 (Operand.tmp 3) 6, type := 0, pos := "ref.go:245", after := #[{ on := 21, ground := Ground.guard }], guard := some (21, false) }) (v := ?v1629) rfl (by kernel_rfl) (by kernel_rfl) (by kernel_rfl) (fun _ _ _ h => h) (Or.inl ⟨by rfl, ?hy1629⟩) (by assumption) ?rest1629
          case hy1629 => (intro w hSw; (try dsimp only at hSw); go_simp; try with_reducible rfl)
          simp only [Act.put, List.setIfInBounds_toArray, List.set_cons_zero, List.set_cons_succ]
          refine wpAnyH_take (i := 29) (oi := { dst := some 162, op := Op.load 31 (Operand.tmp 161), type := 31, pos := "ref.go:245", after := #[{ on := 28, ground := Ground.data }, { on := 21, ground := Ground.guard }], guard := some (21, false) }) (v := ?v1630) rfl (by kernel_rfl) (by kernel_rfl) (by kernel_rfl) (fun _ _ _ h => h) (Or.inl ⟨by rfl, ?hy1630⟩) (by assumption) ?rest1630
          case hy1630 => (intro W hSw; (try dsimp only at hSw); have e1 := HY1.out W hSw; have e2 := HY2.out W hSw; have f10 := HC10.out W hSw; have f11 := HC11.out W hSw; have f12 := HC12.out W hSw; have f13 := HC13.out W hSw; have f20 := HC20.out W hSw; have f21 := HC21.out W hSw; have f22 := HC22.out W hSw; have f23 := HC23.out W hSw; go_simp; try with_reducible rfl)
          simp only [Act.put, List.setIfInBounds_toArray, List.set_cons_zero, List.set_cons_succ]
          refine wpAnyH_take (i := 30) (oi := { dst := some 163, op := Op.move (Operand.tmp 7), type := 3, pos := "ref.go:245", after := #[{ on := 21, ground := Ground.guard }], guard := some (21, false) }) (v := ?v1631) rfl (by kernel_rfl) (by kernel_rfl) (by kernel_rfl) (fun _ _ _ h => h) (Or.inl ⟨by rfl, ?hy1631⟩) (by assumption) ?rest1631
          case hy1631 => (intro w hSw; (try dsimp only at hSw); go_simp; try with_reducible rfl)
          simp only [Act.put, List.setIfInBounds_toArray, List.set_cons_zero, List.set_cons_succ]
          refine wpAnyH_take (i := 31) (oi := { dst := some 164, op := Op.indexAddr 31 (Operand.tmp 162) (Operand.tmp 163), type := 0, pos := "ref.go:245", after := #[{ on := 29, ground := Ground.data }, { on := 30, ground := Ground.data }, { on := 21, ground := Ground.guard }], guard := some (21, false) }) (v := ?v1632) rfl (by kernel_rfl) (by kernel_rfl) (by kernel_rfl) (fun _ _ _ h => h) (Or.inl ⟨by rfl, ?hy1632⟩) (by assumption) ?rest1632
          case hy1632 => (intro w hSw; (try dsimp only at hSw); go_simp; try with_reducible rfl)
          simp only [Act.put, List.setIfInBounds_toArray, List.set_cons_zero, List.set_cons_succ]
          refine wpAnyH_take (i := 32) (oi := { dst := some 165, op := Op.fieldAddr 69 (Operand.tmp 164) 1, type := 0, pos := "ref.go:245", after := #[{ on := 31, ground := Ground.data }, { on := 21, ground := Ground.guard }], guard := some (21, false) }) (v := ?v1633) rfl (by kernel_rfl) (by kernel_rfl) (by kernel_rfl) (fun _ _ _ h => h) (Or.inl ⟨by rfl, ?hy1633⟩) (by assumption) ?rest1633
          case hy1633 => (intro w hSw; (try dsimp only at hSw); go_simp; try with_reducible rfl)
          simp only [Act.put, List.setIfInBounds_toArray, List.set_cons_zero, List.set_cons_succ]
          refine wpAnyH_take (i := 33) (oi := { dst := some 166, op := Op.load 4 (Operand.tmp 165), type := 4, pos := "ref.go:245", after := #[{ on := 32, ground := Ground.data }, { on := 21, ground := Ground.guard }], guard := some (21, false) }) (v := ?v1634) rfl (by kernel_rfl) (by kernel_rfl) (by kernel_rfl) (fun _ _ _ h => h) (Or.inl ⟨by rfl, ?hy1634⟩) (by assumption) ?rest1634
          case hy1634 => (intro W hSw; (try dsimp only at hSw); have e1 := HY1.out W hSw; have e2 := HY2.out W hSw; have f10 := HC10.out W hSw; have f11 := HC11.out W hSw; have f12 := HC12.out W hSw; have f13 := HC13.out W hSw; have f20 := HC20.out W hSw; have f21 := HC21.out W hSw; have f22 := HC22.out W hSw; have f23 := HC23.out W hSw; go_simp; try with_reducible rfl)
          simp only [Act.put, List.setIfInBounds_toArray, List.set_cons_zero, List.set_cons_succ]
          refine wpAnyH_take (i := 34) (oi := { dst := some 167, op := Op.binOp BinOp.neq 4 (Operand.tmp 160) (Operand.tmp 166) 4, type := 4, pos := "ref.go:245", after := #[{ on := 27, ground := Ground.data }, { on := 33, ground := Ground.data }, { on := 21, ground := Ground.guard }], guard := some (21, false) }) (v := ?v1635) rfl (by kernel_rfl) (by kernel_rfl) (by kernel_rfl) (fun _ _ _ h => h) (Or.inl ⟨by rfl, ?hy1635⟩) (by assumption) ?rest1635
          case hy1635 => (intro w hSw; (try dsimp only at hSw); go_simp; try with_reducible rfl)
          simp only [Act.put, List.setIfInBounds_toArray, List.set_cons_zero, List.set_cons_succ]
          refine wpAnyH_take (i := 35) (oi := { dst := some 168, op := Op.pick (Operand.tmp 154) (Operand.const (Value.bool true)) (Operand.tmp 167), type := 4, pos := "ref.go:245", after := #[{ on := 21, ground := Ground.data }, { on := 34, ground := Ground.data }], guard := none }) (v := ?v1636) rfl (by kernel_rfl) (by kernel_rfl) (by kernel_rfl) (fun _ _ _ h => h) (Or.inl ⟨by rfl, ?hy1636⟩) (by assumption) ?rest1636
          case hy1636 => (intro w hSw; (try dsimp only at hSw); go_simp; try with_reducible rfl)
          simp only [Act.put, List.setIfInBounds_toArray, List.set_cons_zero, List.set_cons_succ]
          refine wpAnyH_done (by kernel_rfl) ?_ _
          go_wp2
          go_roundw
          case rel => exact ⟨k + 1, by have h9 := HLt.out; omega, by go_num, ht_⟩
          case measure => have h9 := HLt.out; simp [intOf]; omega
        · have HW := hid hbel
          clear hbel
          go_wp2
          go_loopw [10] (fun i wr => ∃ k : Nat, k ≤ rsse1.length ∧ i = .int .i64 k ∧ Below w2.heap.size w2 wr) (fun i _ => rsse1.length - (intOf i).toNat)
          case atStart => exact ⟨0, by omega, rfl, HW.out⟩
          case round =>
            obtain ⟨k, hk, rfl, hbel⟩ := hrel
            have kh1 := HHse1.out wr hbel
            have kh2 := HHse2.out wr hbel
            by_cases hlt : k < rsse1.length
            · have hlt2 : k < rsse2.length := by have := HLse.out; omega
              have HLt := hid hlt
              obtain ⟨b1, o1, rfl, hw1, hce1⟩ := HEse1.out (by omega)
              have HX1 := hid (show ∀ W, Below w2.heap.size w2 W → ∀ j, j < 4 → W.cell? ⟨b1, o1 + k * 4 + j, none⟩ = some ((rsse1.getD k SeV.zero).cells.getD j .nilIface) from fun W hW j hj => ((HB2.out.trans (hW.mono HB2.out.size)).cell (by exact hw1)).trans (hce1 k hlt j hj))
              have HQ1 := hid (HAse1.out k hlt)
              have HY1 := HHse1
              obtain ⟨b2, o2, rfl, hw2, hce2⟩ := HEse2.out (by omega)
              have HX2 := hid (show ∀ W, Below w2.heap.size w2 W → ∀ j, j < 4 → W.cell? ⟨b2, o2 + k * 4 + j, none⟩ = some ((rsse2.getD k SeV.zero).cells.getD j .nilIface) from fun W hW j hj => ((HB2.out.trans (hW.mono HB2.out.size)).cell (by exact hw2)).trans (hce2 k hlt2 j hj))
              have HQ2 := hid (HAse2.out k hlt2)
              have HY2 := HHse2
              clear hce1 hce2
              generalize c1.se.getD k Se.zero = x at HQ1 HQ2
              generalize rsse1.getD k SeV.zero = q at HX1 HQ1
              generalize rsse2.getD k SeV.zero = p at HX2 HQ2
              obtain ⟨qx0, qx1, qx2, ⟨qa3, qn3, qc3⟩⟩ := q
              obtain ⟨px0, px1, px2, ⟨pa3, pn3, pc3⟩⟩ := p
              have HC10 := hid (show ∀ W, Below w2.heap.size w2 W → W.cell? ⟨b1, o1 + k * 4, none⟩ = some (.int .i64 qx0) from fun W hW => (HX1.out W hW 0 (by decide)).trans rfl)
              have HC11 := hid (show ∀ W, Below w2.heap.size w2 W → W.cell? ⟨b1, o1 + k * 4 + 1, none⟩ = some (.int .i64 qx1) from fun W hW => (HX1.out W hW 1 (by decide)).trans rfl)
              have HC12 := hid (show ∀ W, Below w2.heap.size w2 W → W.cell? ⟨b1, o1 + k * 4 + 2, none⟩ = some (.bool qx2) from fun W hW => (HX1.out W hW 2 (by decide)).trans rfl)
              have HC13 := hid (show ∀ W, Below w2.heap.size w2 W → W.cell? ⟨b1, o1 + k * 4 + 3, none⟩ = some (.slice qa3 qn3 qc3) from fun W hW => (HX1.out W hW 3 (by decide)).trans rfl)
              have HC20 := hid (show ∀ W, Below w2.heap.size w2 W → W.cell? ⟨b2, o2 + k * 4, none⟩ = some (.int .i64 px0) from fun W hW => (HX2.out W hW 0 (by decide)).trans rfl)
              have HC21 := hid (show ∀ W, Below w2.heap.size w2 W → W.cell? ⟨b2, o2 + k * 4 + 1, none⟩ = some (.int .i64 px1) from fun W hW => (HX2.out W hW 1 (by decide)).trans rfl)
              have HC22 := hid (show ∀ W, Below w2.heap.size w2 W → W.cell? ⟨b2, o2 + k * 4 + 2, none⟩ = some (.bool px2) from fun W hW => (HX2.out W hW 2 (by decide)).trans rfl)
              have HC23 := hid (show ∀ W, Below w2.heap.size w2 W → W.cell? ⟨b2, o2 + k * 4 + 3, none⟩ = some (.slice pa3 pn3 pc3) from fun W hW => (HX2.out W hW 3 (by decide)).trans rfl)
              clear HX1 HX2
              go_wp2_with fail
              refine wp_region_held_drew (S := (fun W => Below w2.heap.size w2 W)) (by kernel_rfl) (Below.drew hbel) (fun hh0_ => ?_)
              refine wpAnyH_take (i := 0) (oi := { dst := some 176, op := Op.fieldAddr 39 (Operand.tmp 2) 7, type := 0, pos := "ref.go:250", after := #[], guard := none }) (v := ?v801) rfl (by kernel_rfl) (by kernel_rfl) (by kernel_rfl) (fun _ _ _ h => h) (Or.inl ⟨by rfl, ?hy801⟩) (by assumption) ?rest801
              case hy801 => (intro w hSw; (try dsimp only at hSw); go_simp; try with_reducible rfl)
              simp only [Act.put, List.setIfInBounds_toArray, List.set_cons_zero, List.set_cons_succ]
              refine wpAnyH_take (i := 1) (oi := { dst := some 177, op := Op.load 32 (Operand.tmp 176), type := 32, pos := "ref.go:250", after := #[{ on := 0, ground := Ground.data }], guard := none }) (v := ?v802) rfl (by kernel_rfl) (by kernel_rfl) (by kernel_rfl) (fun _ _ _ h => h) (Or.inl ⟨by rfl, ?hy802⟩) (by assumption) ?rest802
              case hy802 => (intro W hSw; (try dsimp only at hSw); have e1 := HY1.out W hSw; have e2 := HY2.out W hSw; have f10 := HC10.out W hSw; have f11 := HC11.out W hSw; have f12 := HC12.out W hSw; have f13 := HC13.out W hSw; have f20 := HC20.out W hSw; have f21 := HC21.out W hSw; have f22 := HC22.out W hSw; have f23 := HC23.out W hSw; go_simp; try with_reducible rfl)
              simp only [Act.put, List.setIfInBounds_toArray, List.set_cons_zero, List.set_cons_succ]
              refine wpAnyH_take (i := 2) (oi := { dst := some 178, op := Op.move (Operand.tmp 10), type := 3, pos := "ref.go:250", after := #[], guard := none }) (v := ?v803) rfl (by kernel_rfl) (by kernel_rfl) (by kernel_rfl) (fun _ _ _ h => h) (Or.inl ⟨by rfl, ?hy803⟩) (by assumption) ?rest803
              case hy803 => (intro w hSw; (try dsimp only at hSw); go_simp; try with_reducible rfl)
              simp only [Act.put, List.setIfInBounds_toArray, List.set_cons_zero, List.set_cons_succ]
              refine wpAnyH_take (i := 3) (oi := { dst := some 179, op := Op.indexAddr 32 (Operand.tmp 177) (Operand.tmp 178), type := 0, pos := "ref.go:250", after := #[{ on := 1, ground := Ground.data }, { on := 2, ground := Ground.data }], guard := none }) (v := ?v804) rfl (by kernel_rfl) (by kernel_rfl) (by kernel_rfl) (fun _ _ _ h => h) (Or.inl ⟨by rfl, ?hy804⟩) (by assumption) ?rest804
              case hy804 => (intro w hSw; (try dsimp only at hSw); go_simp; try with_reducible rfl)
              simp only [Act.put, List.setIfInBounds_toArray, List.set_cons_zero, List.set_cons_succ]
              refine wpAnyH_take (i := 4) (oi := { dst := some 180, op := Op.fieldAddr 71 (Operand.tmp 179) 3, type := 0, pos := "ref.go:250", after := #[{ on := 3, ground := Ground.data }], guard := none }) (v := ?v805) rfl (by kernel_rfl) (by kernel_rfl) (by kernel_rfl) (fun _ _ _ h => h) (Or.inl ⟨by rfl, ?hy805⟩) (by assumption) ?rest805
              case hy805 => (intro w hSw; (try dsimp only at hSw); go_simp; try with_reducible rfl)
              simp only [Act.put, List.setIfInBounds_toArray, List.set_cons_zero, List.set_cons_succ]
              refine wpAnyH_take (i := 5) (oi := { dst := some 181, op := Op.load 65 (Operand.tmp 180), type := 65, pos := "ref.go:250", after := #[{ on := 4, ground := Ground.data }], guard := none }) (v := ?v806) rfl (by kernel_rfl) (by kernel_rfl) (by kernel_rfl) (fun _ _ _ h => h) (Or.inl ⟨by rfl, ?hy806⟩) (by assumption) ?rest806
              case hy806 => (intro W hSw; (try dsimp only at hSw); have e1 := HY1.out W hSw; have e2 := HY2.out W hSw; have f10 := HC10.out W hSw; have f11 := HC11.out W hSw; have f12 := HC12.out W hSw; have f13 := HC13.out W hSw; have f20 := HC20.out W hSw; have f21 := HC21.out W hSw; have f22 := HC22.out W hSw; have f23 := HC23.out W hSw; go_simp; try with_reducible rfl)
              simp only [Act.put, List.setIfInBounds_toArray, List.set_cons_zero, List.set_cons_succ]
              refine wpAnyH_take (i := 6) (oi := { dst := some 182, op := Op.fieldAddr 39 (Operand.tmp 3) 7, type := 0, pos := "ref.go:250", after := #[], guard := none }) (v := ?v807) rfl (by kernel_rfl) (by kernel_rfl) (by kernel_rfl) (fun _ _ _ h => h) (Or.inl ⟨by rfl, ?hy807⟩) (by assumption) ?rest807
              case hy807 => (intro w hSw; (try dsimp only at hSw); go_simp; try with_reducible rfl)
              simp only [Act.put, List.setIfInBounds_toArray, List.set_cons_zero, List.set_cons_succ]
              refine wpAnyH_take (i := 7) (oi := { dst := some 183, op := Op.load 32 (Operand.tmp 182), type := 32, pos := "ref.go:250", after := #[{ on := 6, ground := Ground.data }], guard := none }) (v := ?v808) rfl (by kernel_rfl) (by kernel_rfl) (by kernel_rfl) (fun _ _ _ h => h) (Or.inl ⟨by rfl, ?hy808⟩) (by assumption) ?rest808
              case hy808 => (intro W hSw; (try dsimp only at hSw); have e1 := HY1.out W hSw; have e2 := HY2.out W hSw; have f10 := HC10.out W hSw; have f11 := HC11.out W hSw; have f12 := HC12.out W hSw; have f13 := HC13.out W hSw; have f20 := HC20.out W hSw; have f21 := HC21.out W hSw; have f22 := HC22.out W hSw; have f23 := HC23.out W hSw; go_simp; try with_reducible rfl)
              simp only [Act.put, List.setIfInBounds_toArray, List.set_cons_zero, List.set_cons_succ]
              refine wpAnyH_take (i := 8) (oi := { dst := some 184, op := Op.move (Operand.tmp 10), type := 3, pos := "ref.go:250", after := #[], guard := none }) (v := ?v809) rfl (by kernel_rfl) (by kernel_rfl) (by kernel_rfl) (fun _ _ _ h => h) (Or.inl ⟨by rfl, ?hy809⟩) (by assumption) ?rest809
              case hy809 => (intro w hSw; (try dsimp only at hSw); go_simp; try with_reducible rfl)
              simp only [Act.put, List.setIfInBounds_toArray, List.set_cons_zero, List.set_cons_succ]
              refine wpAnyH_take (i := 9) (oi := { dst := some 185, op := Op.indexAddr 32 (Operand.tmp 183) (Operand.tmp 184), type := 0, pos := "ref.go:250", after := #[{ on := 7, ground := Ground.data }, { on := 8, ground := Ground.data }], guard := none }) (v := ?v810) rfl (by kernel_rfl) (by kernel_rfl) (by kernel_rfl) (fun _ _ _ h => h) (Or.inl ⟨by rfl, ?hy810⟩) (by assumption) ?rest810
              case hy810 => (intro w hSw; (try dsimp only at hSw); go_simp; try with_reducible rfl)
              simp only [Act.put, List.setIfInBounds_toArray, List.set_cons_zero, List.set_cons_succ]
              refine wpAnyH_take (i := 10) (oi := { dst := some 186, op := Op.fieldAddr 71 (Operand.tmp 185) 3, type := 0, pos := "ref.go:250", after := #[{ on := 9, ground := Ground.data }], guard := none }) (v := ?v811) rfl (by kernel_rfl) (by kernel_rfl) (by kernel_rfl) (fun _ _ _ h => h) (Or.inl ⟨by rfl, ?hy811⟩) (by assumption) ?rest811
              case hy811 => (intro w hSw; (try dsimp only at hSw); go_simp; try with_reducible rfl)
              simp only [Act.put, List.setIfInBounds_toArray, List.set_cons_zero, List.set_cons_succ]
              refine wpAnyH_take (i := 11) (oi := { dst := some 187, op := Op.load 65 (Operand.tmp 186), type := 65, pos := "ref.go:250", after := #[{ on := 10, ground := Ground.data }], guard := none }) (v := ?v812) rfl (by kernel_rfl) (by kernel_rfl) (by kernel_rfl) (fun _ _ _ h => h) (Or.inl ⟨by rfl, ?hy812⟩) (by assumption) ?rest812
              case hy812 => (intro W hSw; (try dsimp only at hSw); have e1 := HY1.out W hSw; have e2 := HY2.out W hSw; have f10 := HC10.out W hSw; have f11 := HC11.out W hSw; have f12 := HC12.out W hSw; have f13 := HC13.out W hSw; have f20 := HC20.out W hSw; have f21 := HC21.out W hSw; have f22 := HC22.out W hSw; have f23 := HC23.out W hSw; go_simp; try with_reducible rfl)
              simp only [Act.put, List.setIfInBounds_toArray, List.set_cons_zero, List.set_cons_succ]
              refine wpAnyH_ready (rs := [12]) (by kernel_rfl) (by simp) (AllReadyH.cons (o := { dst := some 188, op := Op.call { callee := Callee.value (Operand.func 48), args := #[Operand.tmp 181, Operand.tmp 187], argTypes := #[65, 65] }, type := 4, pos := "ref.go:250", after := #[{ on := 5, ground := Ground.data }, { on := 11, ground := Ground.data }], guard := none }) rfl (fun K813 hK813 => ?_) AllReadyH.nil)
              go_simp
              refine (waits_tot _ _ x.l x.l _ (HQ1.out.l.below (HB2.out.trans (Below.mono hh0_ HB2.out.size))) (HQ2.out.l.below (HB2.out.trans (Below.mono hh0_ HB2.out.size)))).mono ?_
              rintro e wq0 ⟨⟨d0, rfl, hd0⟩, hbl0⟩
              obtain rfl : d0 = true := hd0 rfl
              clear hd0
              refine hK813.out _ _ (Below.trans hh0_ (hbl0.mono (Below.size hh0_))) (fun hh0_813 => ?_)
              clear hK813 K813
              try simp only [Act.put, List.setIfInBounds_toArray, List.set_cons_zero, List.set_cons_succ]
              refine wpAnyH_take (i := 13) (oi := { dst := some 11, op := Op.assign (Operand.tmp 188), type := 4, pos := "ref.go:250", after := #[{ on := 12, ground := Ground.data }, { on := 12, ground := Ground.chain }, { on := 0, ground := Ground.phase }, { on := 1, ground := Ground.phase }, { on := 2, ground := Ground.phase }, { on := 3, ground := Ground.phase }, { on := 4, ground := Ground.phase }, { on := 5, ground := Ground.phase }, { on := 6, ground := Ground.phase }, { on := 7, ground := Ground.phase }, { on := 8, ground := Ground.phase }, { on := 9, ground := Ground.phase }, { on := 10, ground := Ground.phase }, { on := 11, ground := Ground.phase }, { on := 12, ground := Ground.phase }], guard := none }) (v := ?v814) rfl (by kernel_rfl) (by kernel_rfl) (by kernel_rfl) (fun _ _ _ h => h) (Or.inl ⟨by rfl, ?hy814⟩) (by assumption) ?rest814
              case hy814 => (intro w hSw; (try dsimp only at hSw); go_simp; try with_reducible rfl)
              simp only [Act.put, List.setIfInBounds_toArray, List.set_cons_zero, List.set_cons_succ]
              refine wpAnyH_done (by kernel_rfl) ?_ _
              have HW0 := hid hh0_813
              obtain rfl : qx0 = px0 := by have h1 := HQ1.out.c; have h2 := HQ2.out.c; simp only at h1 h2; exact h1.trans h2.symm
              obtain rfl : qx1 = px1 := by have h1 := HQ1.out.m; have h2 := HQ2.out.m; simp only at h1 h2; exact h1.trans h2.symm
              obtain rfl : qx2 = px2 := by have h1 := HQ1.out.k; have h2 := HQ2.out.k; simp only at h1 h2; exact h1.trans h2.symm
              go_wp2_with fail
              refine wp_region_held_drew (S := (fun W => Below w2.heap.size w2 W)) (by kernel_rfl) (Below.drew HW0.out) (fun ht_ => ?_)
              refine wpAnyH_take (i := 0) (oi := { dst := some 189, op := Op.move (Operand.tmp 11), type := 4, pos := "ref.go:251", after := #[], guard := none }) (v := ?v1001) rfl (by kernel_rfl) (by kernel_rfl) (by kernel_rfl) (fun _ _ _ h => h) (Or.inl ⟨by rfl, ?hy1001⟩) (by assumption) ?rest1001
              case hy1001 => (intro w hSw; (try dsimp only at hSw); go_simp; try with_reducible rfl)
              simp only [Act.put, List.setIfInBounds_toArray, List.set_cons_zero, List.set_cons_succ]
              refine wpAnyH_take (i := 1) (oi := { dst := some 190, op := Op.unOp UnOp.not 4 (Operand.tmp 189), type := 4, pos := "ref.go:251", after := #[{ on := 0, ground := Ground.data }], guard := none }) (v := ?v1002) rfl (by kernel_rfl) (by kernel_rfl) (by kernel_rfl) (fun _ _ _ h => h) (Or.inl ⟨by rfl, ?hy1002⟩) (by assumption) ?rest1002
              case hy1002 => (intro w hSw; (try dsimp only at hSw); go_simp; try with_reducible rfl)
              simp only [Act.put, List.setIfInBounds_toArray, List.set_cons_zero, List.set_cons_succ]
              refine wpAnyH_take (i := 2) (oi := { dst := some 191, op := Op.move (Operand.tmp 190), type := 4, pos := "ref.go:251", after := #[{ on := 1, ground := Ground.data }], guard := none }) (v := ?v1003) rfl (by kernel_rfl) (by kernel_rfl) (by kernel_rfl) (fun _ _ _ h => h) (Or.inl ⟨by rfl, ?hy1003⟩) (by assumption) ?rest1003
              case hy1003 => (intro w hSw; (try dsimp only at hSw); go_simp; try with_reducible rfl)
              simp only [Act.put, List.setIfInBounds_toArray, List.set_cons_zero, List.set_cons_succ]
              refine wpAnyH_take (i := 3) (oi := { dst := some 192, op := Op.fieldAddr 39 (Operand.tmp 2) 7, type := 0, pos := "ref.go:251", after := #[{ on := 2, ground := Ground.guard }], guard := some (2, false) }) (v := ?v1004) rfl (by kernel_rfl) (by kernel_rfl) (by kernel_rfl) (fun _ _ _ h => h) (Or.inl ⟨by rfl, ?hy1004⟩) (by assumption) ?rest1004
              case hy1004 => (intro w hSw; (try dsimp only at hSw); go_simp; try with_reducible rfl)
              simp only [Act.put, List.setIfInBounds_toArray, List.set_cons_zero, List.set_cons_succ]
              refine wpAnyH_take (i := 4) (oi := { dst := some 193, op := Op.load 32 (Operand.tmp 192), type := 32, pos := "ref.go:251", after := #[{ on := 3, ground := Ground.data }, { on := 2, ground := Ground.guard }], guard := some (2, false) }) (v := ?v1005) rfl (by kernel_rfl) (by kernel_rfl) (by kernel_rfl) (fun _ _ _ h => h) (Or.inl ⟨by rfl, ?hy1005⟩) (by assumption) ?rest1005
              case hy1005 => (intro W hSw; (try dsimp only at hSw); have e1 := HY1.out W hSw; have e2 := HY2.out W hSw; have f10 := HC10.out W hSw; have f11 := HC11.out W hSw; have f12 := HC12.out W hSw; have f13 := HC13.out W hSw; have f20 := HC20.out W hSw; have f21 := HC21.out W hSw; have f22 := HC22.out W hSw; have f23 := HC23.out W hSw; go_simp; try with_reducible rfl)
              simp only [Act.put, List.setIfInBounds_toArray, List.set_cons_zero, List.set_cons_succ]
              refine wpAnyH_take (i := 5) (oi := { dst := some 194, op := Op.move (Operand.tmp 10), type := 3, pos := "ref.go:251", after := #[{ on := 2, ground := Ground.guard }], guard := some (2, false) }) (v := ?v1006) rfl (by kernel_rfl) (by kernel_rfl) (by kernel_rfl) (fun _ _ _ h => h) (Or.inl ⟨by rfl, ?hy1006⟩) (by assumption) ?rest1006
              case hy1006 => (intro w hSw; (try dsimp only at hSw); go_simp; try with_reducible rfl)
              simp only [Act.put, List.setIfInBounds_toArray, List.set_cons_zero, List.set_cons_succ]
              refine wpAnyH_take (i := 6) (oi := { dst := some 195, op := Op.indexAddr 32 (Operand.tmp 193) (Operand.tmp 194), type := 0, pos := "ref.go:251", after := #[{ on := 4, ground := Ground.data }, { on := 5, ground := Ground.data }, { on := 2, ground := Ground.guard }], guard := some (2, false) }) (v := ?v1007) rfl (by kernel_rfl) (by kernel_rfl) (by kernel_rfl) (fun _ _ _ h => h) (Or.inl ⟨by rfl, ?hy1007⟩) (by assumption) ?rest1007
              case hy1007 => (intro w hSw; (try dsimp only at hSw); go_simp; try with_reducible rfl)
              simp only [Act.put, List.setIfInBounds_toArray, List.set_cons_zero, List.set_cons_succ]
              refine wpAnyH_take (i := 7) (oi := { dst := some 196, op := Op.fieldAddr 71 (Operand.tmp 195) 0, type := 0, pos := "ref.go:251", after := #[{ on := 6, ground := Ground.data }, { on := 2, ground := Ground.guard }], guard := some (2, false) }) (v := ?v1008) rfl (by kernel_rfl) (by kernel_rfl) (by kernel_rfl) (fun _ _ _ h => h) (Or.inl ⟨by rfl, ?hy1008⟩) (by assumption) ?rest1008
              case hy1008 => (intro w hSw; (try dsimp only at hSw); go_simp; try with_reducible rfl)
              simp only [Act.put, List.setIfInBounds_toArray, List.set_cons_zero, List.set_cons_succ]
              refine wpAnyH_take (i := 8) (oi := { dst := some 197, op := Op.load 3 (Operand.tmp 196), type := 3, pos := "ref.go:251", after := #[{ on := 7, ground := Ground.data }, { on := 2, ground := Ground.guard }], guard := some (2, false) }) (v := ?v1009) rfl (by kernel_rfl) (by kernel_rfl) (by kernel_rfl) (fun _ _ _ h => h) (Or.inl ⟨by rfl, ?hy1009⟩) (by assumption) ?rest1009
              case hy1009 => (intro W hSw; (try dsimp only at hSw); have e1 := HY1.out W hSw; have e2 := HY2.out W hSw; have f10 := HC10.out W hSw; have f11 := HC11.out W hSw; have f12 := HC12.out W hSw; have f13 := HC13.out W hSw; have f20 := HC20.out W hSw; have f21 := HC21.out W hSw; have f22 := HC22.out W hSw; have f23 := HC23.out W hSw; go_simp; try with_reducible rfl)
              simp only [Act.put, List.setIfInBounds_toArray, List.set_cons_zero, List.set_cons_succ]
              refine wpAnyH_take (i := 9) (oi := { dst := some 198, op := Op.fieldAddr 39 (Operand.tmp 3) 7, type := 0, pos := "ref.go:251", after := #[{ on := 2, ground := Ground.guard }], guard := some (2, false) }) (v := ?v1010) rfl (by kernel_rfl) (by kernel_rfl) (by kernel_rfl) (fun _ _ _ h => h) (Or.inl ⟨by rfl, ?hy1010⟩) (by assumption) ?rest1010
              case hy1010 => (intro w hSw; (try dsimp only at hSw); go_simp; try with_reducible rfl)
              simp only [Act.put, List.setIfInBounds_toArray, List.set_cons_zero, List.set_cons_succ]
              refine wpAnyH_take (i := 10) (oi := { dst := some 199, op := Op.load 32 (Operand.tmp 198), type := 32, pos := "ref.go:251", after := #[{ on := 9, ground := Ground.data }, { on := 2, ground := Ground.guard }], guard := some (2, false) }) (v := ?v1011) rfl (by kernel_rfl) (by kernel_rfl) (by kernel_rfl) (fun _ _ _ h => h) (Or.inl ⟨by rfl, ?hy1011⟩) (by assumption) ?rest1011
              case hy1011 => (intro W hSw; (try dsimp only at hSw); have e1 := HY1.out W hSw; have e2 := HY2.out W hSw; have f10 := HC10.out W hSw; have f11 := HC11.out W hSw; have f12 := HC12.out W hSw; have f13 := HC13.out W hSw; have f20 := HC20.out W hSw; have f21 := HC21.out W hSw; have f22 := HC22.out W hSw; have f23 := HC23.out W hSw; go_simp; try with_reducible rfl)
              simp only [Act.put, List.setIfInBounds_toArray, List.set_cons_zero, List.set_cons_succ]
              refine wpAnyH_take (i := 11) (oi := { dst := some 200, op := Op.move (Operand.tmp 10), type := 3, pos := "ref.go:251", after := #[{ on := 2, ground := Ground.guard }], guard := some (2, false) }) (v := ?v1012) rfl (by kernel_rfl) (by kernel_rfl) (by kernel_rfl) (fun _ _ _ h => h) (Or.inl ⟨by rfl, ?hy1012⟩) (by assumption) ?rest1012
              case hy1012 => (intro w hSw; (try dsimp only at hSw); go_simp; try with_reducible rfl)
              simp only [Act.put, List.setIfInBounds_toArray, List.set_cons_zero, List.set_cons_succ]
              refine wpAnyH_take (i := 12) (oi := { dst := some 201, op := Op.indexAddr 32 (Operand.tmp 199) (Operand.tmp 200), type := 0, pos := "ref.go:251", after := #[{ on := 10, ground := Ground.data }, { on := 11, ground := Ground.data }, { on := 2, ground := Ground.guard }], guard := some (2, false) }) (v := ?v1013) rfl (by kernel_rfl) (by kernel_rfl) (by kernel_rfl) (fun _ _ _ h => h) (Or.inl ⟨by rfl, ?hy1013⟩) (by assumption) ?rest1013
              case hy1013 => (intro w hSw; (try dsimp only at hSw); go_simp; try with_reducible rfl)
              simp only [Act.put, List.setIfInBounds_toArray, List.set_cons_zero, List.set_cons_succ]
              refine wpAnyH_take (i := 13) (oi := { dst := some 202, op := Op.fieldAddr 71 (Operand.tmp 201) 0, type := 0, pos := "ref.go:251", after := #[{ on := 12, ground := Ground.data }, { on := 2, ground := Ground.guard }], guard := some (2, false) }) (v := ?v1014) rfl (by kernel_rfl) (by kernel_rfl) (by kernel_rfl) (fun _ _ _ h => h) (Or.inl ⟨by rfl, ?hy1014⟩) (by assumption) ?rest1014
              case hy1014 => (intro w hSw; (try dsimp only at hSw); go_simp; try with_reducible rfl)
              simp only [Act.put, List.setIfInBounds_toArray, List.set_cons_zero, List.set_cons_succ]
              refine wpAnyH_take (i := 14) (oi := { dst := some 203, op := Op.load 3 (Operand.tmp 202), type := 3, pos := "ref.go:251", after := #[{ on := 13, ground := Ground.data }, { on := 2, ground := Ground.guard }], guard := some (2, false) }) (v := ?v1015) rfl (by kernel_rfl) (by kernel_rfl) (by kernel_rfl) (fun _ _ _ h => h) (Or.inl ⟨by rfl, ?hy1015⟩) (by assumption) ?rest1015
              case hy1015 => (intro W hSw; (try dsimp only at hSw); have e1 := HY1.out W hSw; have e2 := HY2.out W hSw; have f10 := HC10.out W hSw; have f11 := HC11.out W hSw; have f12 := HC12.out W hSw; have f13 := HC13.out W hSw; have f20 := HC20.out W hSw; have f21 := HC21.out W hSw; have f22 := HC22.out W hSw; have f23 := HC23.out W hSw; go_simp; try with_reducible rfl)
              simp only [Act.put, List.setIfInBounds_toArray, List.set_cons_zero, List.set_cons_succ]
              refine wpAnyH_take (i := 15) (oi := { dst := some 204, op := Op.binOp BinOp.neq 3 (Operand.tmp 197) (Operand.tmp 203) 3, type := 4, pos := "ref.go:251", after := #[{ on := 8, ground := Ground.data }, { on := 14, ground := Ground.data }, { on := 2, ground := Ground.guard }], guard := some (2, false) }) (v := ?v1016) rfl (by kernel_rfl) (by kernel_rfl) (by kernel_rfl) (fun _ _ _ h => h) (Or.inl ⟨by rfl, ?hy1016⟩) (by assumption) ?rest1016
              case hy1016 => (intro w hSw; (try dsimp only at hSw); go_simp; try with_reducible rfl)
              simp only [Act.put, List.setIfInBounds_toArray, List.set_cons_zero, List.set_cons_succ]
              refine wpAnyH_take (i := 16) (oi := { dst := some 205, op := Op.pick (Operand.tmp 191) (Operand.const (Value.bool true)) (Operand.tmp 204), type := 4, pos := "ref.go:251", after := #[{ on := 2, ground := Ground.data }, { on := 15, ground := Ground.data }], guard := none }) (v := ?v1017) rfl (by kernel_rfl) (by kernel_rfl) (by kernel_rfl) (fun _ _ _ h => h) (Or.inl ⟨by rfl, ?hy1017⟩) (by assumption) ?rest1017
              case hy1017 => (intro w hSw; (try dsimp only at hSw); go_simp; try with_reducible rfl)
              simp only [Act.put, List.setIfInBounds_toArray, List.set_cons_zero, List.set_cons_succ]
              refine wpAnyH_take (i := 17) (oi := { dst := some 206, op := Op.move (Operand.tmp 205), type := 4, pos := "ref.go:251", after := #[{ on := 16, ground := Ground.data }, { on := 2, ground := Ground.chain }], guard := none }) (v := ?v1018) rfl (by kernel_rfl) (by kernel_rfl) (by kernel_rfl) (fun _ _ _ h => h) (Or.inl ⟨by rfl, ?hy1018⟩) (by assumption) ?rest1018
              case hy1018 => (intro w hSw; (try dsimp only at hSw); go_simp; try with_reducible rfl)
              simp only [Act.put, List.setIfInBounds_toArray, List.set_cons_zero, List.set_cons_succ]
              refine wpAnyH_take (i := 18) (oi := { dst := some 207, op := Op.fieldAddr 39 (Operand.tmp 2) 7, type := 0, pos := "ref.go:251", after := #[{ on := 17, ground := Ground.guard }], guard := some (17, false) }) (v := ?v1019) rfl (by kernel_rfl) (by kernel_rfl) (by kernel_rfl) (fun _ _ _ h => h) (Or.inl ⟨by rfl, ?hy1019⟩) (by assumption) ?rest1019
              case hy1019 => (intro w hSw; (try dsimp only at hSw); go_simp; try with_reducible rfl)
              simp only [Act.put, List.setIfInBounds_toArray, List.set_cons_zero, List.set_cons_succ]
              refine wpAnyH_take (i := 19) (oi := { dst := some 208, op := Op.load 32 (Operand.tmp 207), type := 32, pos := "ref.go:251", after := #[{ on := 18, ground := Ground.data }, { on := 17, ground := Ground.guard }], guard := some (17, false) }) (v := ?v1020) rfl (by kernel_rfl) (by kernel_rfl) (by kernel_rfl) (fun _ _ _ h => h) (Or.inl ⟨by rfl, ?hy1020⟩) (by assumption) ?rest1020
              case hy1020 => (intro W hSw; (try dsimp only at hSw); have e1 := HY1.out W hSw; have e2 := HY2.out W hSw; have f10 := HC10.out W hSw; have f11 := HC11.out W hSw; have f12 := HC12.out W hSw; have f13 := HC13.out W hSw; have f20 := HC20.out W hSw; have f21 := HC21.out W hSw; have f22 := HC22.out W hSw; have f23 := HC23.out W hSw; go_simp; try with_reducible rfl)
              simp only [Act.put, List.setIfInBounds_toArray, List.set_cons_zero, List.set_cons_succ]
              refine wpAnyH_take (i := 20) (oi := { dst := some 209, op := Op.move (Operand.tmp 10), type := 3, pos := "ref.go:251", after := #[{ on := 17, ground := Ground.guard }], guard := some (17, false) }) (v := ?v1021) rfl (by kernel_rfl) (by kernel_rfl) (by kernel_rfl) (fun _ _ _ h => h) (Or.inl ⟨by rfl, ?hy1021⟩) (by assumption) ?rest1021
              case hy1021 => (intro w hSw; (try dsimp only at hSw); go_simp; try with_reducible rfl)
              simp only [Act.put, List.setIfInBounds_toArray, List.set_cons_zero, List.set_cons_succ]
              refine wpAnyH_take (i := 21) (oi := { dst := some 210, op := Op.indexAddr 32 (Operand.tmp 208) (Operand.tmp 209), type := 0, pos := "ref.go:251", after := #[{ on := 19, ground := Ground.data }, { on := 20, ground := Ground.data }, { on := 17, ground := Ground.guard }], guard := some (17, false) }) (v := ?v1022) rfl (by kernel_rfl) (by kernel_rfl) (by kernel_rfl) (fun _ _ _ h => h) (Or.inl ⟨by rfl, ?hy1022⟩) (by assumption) ?rest1022
              case hy1022 => (intro w hSw; (try dsimp only at hSw); go_simp; try with_reducible rfl)
              simp only [Act.put, List.setIfInBounds_toArray, List.set_cons_zero, List.set_cons_succ]
              refine wpAnyH_take (i := 22) (oi := { dst := some 211, op := Op.fieldAddr 71 (Operand.tmp 210) 1, type := 0, pos := "ref.go:251", after := #[{ on := 21, ground := Ground.data }, { on := 17, ground := Ground.guard }], guard := some (17, false) }) (v := ?v1023) rfl (by kernel_rfl) (by kernel_rfl) (by kernel_rfl) (fun _ _ _ h => h) (Or.inl ⟨by rfl, ?hy1023⟩) (by assumption) ?rest1023
              case hy1023 => (intro w hSw; (try dsimp only at hSw); go_simp; try with_reducible rfl)
              simp only [Act.put, List.setIfInBounds_toArray, List.set_cons_zero, List.set_cons_succ]
              refine wpAnyH_take (i := 23) (oi := { dst := some 212, op := Op.load 3 (Operand.tmp 211), type := 3, pos := "ref.go:251", after := #[{ on := 22, ground := Ground.data }, { on := 17, ground := Ground.guard }], guard := some (17, false) }) (v := ?v1024) rfl (by kernel_rfl) (by kernel_rfl) (by kernel_rfl) (fun _ _ _ h => h) (Or.inl ⟨by rfl, ?hy1024⟩) (by assumption) ?rest1024
              case hy1024 => (intro W hSw; (try dsimp only at hSw); have e1 := HY1.out W hSw; have e2 := HY2.out W hSw; have f10 := HC10.out W hSw; have f11 := HC11.out W hSw; have f12 := HC12.out W hSw; have f13 := HC13.out W hSw; have f20 := HC20.out W hSw; have f21 := HC21.out W hSw; have f22 := HC22.out W hSw; have f23 := HC23.out W hSw; go_simp; try with_reducible rfl)
              simp only [Act.put, List.setIfInBounds_toArray, List.set_cons_zero, List.set_cons_succ]
              refine wpAnyH_take (i := 24) (oi := { dst := some 213, op := Op.fieldAddr 39 (Operand.tmp 3) 7, type := 0, pos := "ref.go:251", after := #[{ on := 17, ground := Ground.guard }], guard := some (17, false) }) (v := ?v1025) rfl (by kernel_rfl) (by kernel_rfl) (by kernel_rfl) (fun _ _ _ h => h) (Or.inl ⟨by rfl, ?hy1025⟩) (by assumption) ?rest1025
              case hy1025 => (intro w hSw; (try dsimp only at hSw); go_simp; try with_reducible rfl)
              simp only [Act.put, List.setIfInBounds_toArray, List.set_cons_zero, List.set_cons_succ]
              refine wpAnyH_take (i := 25) (oi := { dst := some 214, op := Op.load 32 (Operand.tmp 213), type := 32, pos := "ref.go:251", after := #[{ on := 24, ground := Ground.data }, { on := 17, ground := Ground.guard }], guard := some (17, false) }) (v := ?v1026) rfl (by kernel_rfl) (by kernel_rfl) (by kernel_rfl) (fun _ _ _ h => h) (Or.inl ⟨by rfl, ?hy1026⟩) (by assumption) ?rest1026
              case hy1026 => (intro W hSw; (try dsimp only at hSw); have e1 := HY1.out W hSw; have e2 := HY2.out W hSw; have f10 := HC10.out W hSw; have f11 := HC11.out W hSw; have f12 := HC12.out W hSw; have f13 := HC13.out W hSw; have f20 := HC20.out W hSw; have f21 := HC21.out W hSw; have f22 := HC22.out W hSw; have f23 := HC23.out W hSw; go_simp; try with_reducible rfl)
              simp only [Act.put, List.setIfInBounds_toArray, List.set_cons_zero, List.set_cons_succ]
              refine wpAnyH_take (i := 26) (oi := { dst := some 215, op := Op.move (Operand.tmp 10), type := 3, pos := "ref.go:251", after := #[{ on := 17, ground := Ground.guard }], guard := some (17, false) }) (v := ?v1027) rfl (by kernel_rfl) (by kernel_rfl) (by kernel_rfl) (fun _ _ _ h => h) (Or.inl ⟨by rfl, ?hy1027⟩) (by assumption) ?rest1027
              case hy1027 => (intro w hSw; (try dsimp only at hSw); go_simp; try with_reducible rfl)
              simp only [Act.put, List.setIfInBounds_toArray, List.set_cons_zero, List.set_cons_succ]
              refine wpAnyH_take (i := 27) (oi := { dst := some 216, op := Op.indexAddr 32 (Operand.tmp 214) (Operand.tmp 215), type := 0, pos := "ref.go:251", after := #[{ on := 25, ground := Ground.data }, { on := 26, ground := Ground.data }, { on := 17, ground := Ground.guard }], guard := some (17, false) }) (v := ?v1028) rfl (by kernel_rfl) (by kernel_rfl) (by kernel_rfl) (fun _ _ _ h => h) (Or.inl ⟨by rfl, ?hy1028⟩) (by assumption) ?rest1028
              case hy1028 => (intro w hSw; (try dsimp only at hSw); go_simp; try with_reducible rfl)
              simp only [Act.put, List.setIfInBounds_toArray, List.set_cons_zero, List.set_cons_succ]
              refine wpAnyH_take (i := 28) (oi := { dst := some 217, op := Op.fieldAddr 71 (Operand.tmp 216) 1, type := 0, pos := "ref.go:251", after := #[{ on := 27, ground := Ground.data }, { on := 17, ground := Ground.guard }], guard := some (17, false) }) (v := ?v1029) rfl (by kernel_rfl) (by kernel_rfl) (by kernel_rfl) (fun _ _ _ h => h) (Or.inl ⟨by rfl, ?hy1029⟩) (by assumption) ?rest1029
              case hy1029 => (intro w hSw; (try dsimp only at hSw); go_simp; try with_reducible rfl)
              simp only [Act.put, List.setIfInBounds_toArray, List.set_cons_zero, List.set_cons_succ]
              refine wpAnyH_take (i := 29) (oi := { dst := some 218, op := Op.load 3 (Operand.tmp 217), type := 3, pos := "ref.go:251", after := #[{ on := 28, ground := Ground.data }, { on := 17, ground := Ground.guard }], guard := some (17, false) }) (v := ?v1030) rfl (by kernel_rfl) (by kernel_rfl) (by kernel_rfl) (fun _ _ _ h => h) (Or.inl ⟨by rfl, ?hy1030⟩) (by assumption) ?rest1030
              case hy1030 => (intro W hSw; (try dsimp only at hSw); have e1 := HY1.out W hSw; have e2 := HY2.out W hSw; have f10 := HC10.out W hSw; have f11 := HC11.out W hSw; have f12 := HC12.out W hSw; have f13 := HC13.out W hSw; have f20 := HC20.out W hSw; have f21 := HC21.out W hSw; have f22 := HC22.out W hSw; have f23 := HC23.out W hSw; go_simp; try with_reducible rfl)
              simp only [Act.put, List.setIfInBounds_toArray, List.set_cons_zero, List.set_cons_succ]
              refine wpAnyH_take (i := 30) (oi := { dst := some 219, op := Op.binOp BinOp.neq 3 (Operand.tmp 212) (Operand.tmp 218) 3, type := 4, pos := "ref.go:251", after := #[{ on := 23, ground := Ground.data }, { on := 29, ground := Ground.data }, { on := 17, ground := Ground.guard }], guard := some (17, false) }) (v := ?v1031) rfl (by kernel_rfl) (by kernel_rfl) (by kernel_rfl) (fun _ _ _ h => h) (Or.inl ⟨by rfl, ?hy1031⟩) (by assumption) ?rest1031
              case hy1031 => (intro w hSw; (try dsimp only at hSw); go_simp; try with_reducible rfl)
              simp only [Act.put, List.setIfInBounds_toArray, List.set_cons_zero, List.set_cons_succ]
              refine wpAnyH_take (i := 31) (oi := { dst := some 220, op := Op.pick (Operand.tmp 206) (Operand.const (Value.bool true)) (Operand.tmp 219), type := 4, pos := "ref.go:251", after := #[{ on := 17, ground := Ground.data }, { on := 30, ground := Ground.data }], guard := none }) (v := ?v1032) rfl (by kernel_rfl) (by kernel_rfl) (by kernel_rfl) (fun _ _ _ h => h) (Or.inl ⟨by rfl, ?hy1032⟩) (by assumption) ?rest1032
              case hy1032 => (intro w hSw; (try dsimp only at hSw); go_simp; try with_reducible rfl)
              simp only [Act.put, List.setIfInBounds_toArray, List.set_cons_zero, List.set_cons_succ]
              refine wpAnyH_take (i := 32) (oi := { dst := some 221, op := Op.move (Operand.tmp 220), type := 4, pos := "ref.go:251", after := #[{ on := 31, ground := Ground.data }, { on := 17, ground := Ground.chain }], guard := none }) (v := ?v1033) rfl (by kernel_rfl) (by kernel_rfl) (by kernel_rfl) (fun _ _ _ h => h) (Or.inl ⟨by rfl, ?hy1033⟩) (by assumption) ?rest1033
              case hy1033 => (intro w hSw; (try dsimp only at hSw); go_simp; try with_reducible rfl)
              simp only [Act.put, List.setIfInBounds_toArray, List.set_cons_zero, List.set_cons_succ]
              refine wpAnyH_take (i := 33) (oi := { dst := some 222, op := Op.fieldAddr 39 (Operand.tmp 2) 7, type := 0, pos := "ref.go:251", after := #[{ on := 32, ground := Ground.guard }], guard := some (32, false) }) (v := ?v1034) rfl (by kernel_rfl) (by kernel_rfl) (by kernel_rfl) (fun _ _ _ h => h) (Or.inl ⟨by rfl, ?hy1034⟩) (by assumption) ?rest1034
              case hy1034 => (intro w hSw; (try dsimp only at hSw); go_simp; try with_reducible rfl)
              simp only [Act.put, List.setIfInBounds_toArray, List.set_cons_zero, List.set_cons_succ]
              refine wpAnyH_take (i := 34) (oi := { dst := some 223, op := Op.load 32 (Operand.tmp 222), type := 32, pos := "ref.go:251", after := #[{ on := 33, ground := Ground.data }, { on := 32, ground := Ground.guard }], guard := some (32, false) }) (v := ?v1035) rfl (by kernel_rfl) (by kernel_rfl) (by kernel_rfl) (fun _ _ _ h => h) (Or.inl ⟨by rfl, ?hy1035⟩) (by assumption) ?rest1035
              case hy1035 => (intro W hSw; (try dsimp only at hSw); have e1 := HY1.out W hSw; have e2 := HY2.out W hSw; have f10 := HC10.out W hSw; have f11 := HC11.out W hSw; have f12 := HC12.out W hSw; have f13 := HC13.out W hSw; have f20 := HC20.out W hSw; have f21 := HC21.out W hSw; have f22 := HC22.out W hSw; have f23 := HC23.out W hSw; go_simp; try with_reducible rfl)
              simp only [Act.put, List.setIfInBounds_toArray, List.set_cons_zero, List.set_cons_succ]
              refine wpAnyH_take (i := 35) (oi := { dst := some 224, op := Op.move (Operand.tmp 10), type := 3, pos := "ref.go:251", after := #[{ on := 32, ground := Ground.guard }], guard := some (32, false) }) (v := ?v1036) rfl (by kernel_rfl) (by kernel_rfl) (by kernel_rfl) (fun _ _ _ h => h) (Or.inl ⟨by rfl, ?hy1036⟩) (by assumption) ?rest1036
              case hy1036 => (intro w hSw; (try dsimp only at hSw); go_simp; try with_reducible rfl)
              simp only [Act.put, List.setIfInBounds_toArray, List.set_cons_zero, List.set_cons_succ]
              refine wpAnyH_take (i := 36) (oi := { dst := some 225, op := Op.indexAddr 32 (Operand.tmp 223) (Operand.tmp 224), type := 0, pos := "ref.go:251", after := #[{ on := 34, ground := Ground.data }, { on := 35, ground := Ground.data }, { on := 32, ground := Ground.guard }], guard := some (32, false) }) (v := ?v1037) rfl (by kernel_rfl) (by kernel_rfl) (by kernel_rfl) (fun _ _ _ h => h) (Or.inl ⟨by rfl, ?hy1037⟩) (by assumption) ?rest1037
              case hy1037 => (intro w hSw; (try dsimp only at hSw); go_simp; try with_reducible rfl)
              simp only [Act.put, List.setIfInBounds_toArray, List.set_cons_zero, List.set_cons_succ]
              refine wpAnyH_take (i := 37) (oi := { dst := some 226, op := Op.fieldAddr 71 (Operand.tmp 225) 2, type := 0, pos := "ref.go:251", after := #[{ on := 36, ground := Ground.data }, { on := 32, ground := Ground.guard }], guard := some (32, false) }) (v := ?v1038) rfl (by kernel_rfl) (by kernel_rfl) (by kernel_rfl) (fun _ _ _ h => h) (Or.inl ⟨by rfl, ?hy1038⟩) (by assumption) ?rest1038
              case hy1038 => (intro w hSw; (try dsimp only at hSw); go_simp; try with_reducible rfl)
              simp only [Act.put, List.setIfInBounds_toArray, List.set_cons_zero, List.set_cons_succ]
              refine wpAnyH_take (i := 38) (oi := { dst := some 227, op := Op.load 4 (Operand.tmp 226), type := 4, pos := "ref.go:251", after := #[{ on := 37, ground := Ground.data }, { on := 32, ground := Ground.guard }], guard := some (32, false) }) (v := ?v1039) rfl (by kernel_rfl) (by kernel_rfl) (by kernel_rfl) (fun _ _ _ h => h) (Or.inl ⟨by rfl, ?hy1039⟩) (by assumption) ?rest1039
              case hy1039 => (intro W hSw; (try dsimp only at hSw); have e1 := HY1.out W hSw; have e2 := HY2.out W hSw; have f10 := HC10.out W hSw; have f11 := HC11.out W hSw; have f12 := HC12.out W hSw; have f13 := HC13.out W hSw; have f20 := HC20.out W hSw; have f21 := HC21.out W hSw; have f22 := HC22.out W hSw; have f23 := HC23.out W hSw; go_simp; try with_reducible rfl)
              simp only [Act.put, List.setIfInBounds_toArray, List.set_cons_zero, List.set_cons_succ]
              refine wpAnyH_take (i := 39) (oi := { dst := some 228, op := Op.fieldAddr 39 (Operand.tmp 3) 7, type := 0, pos := "ref.go:251", after := #[{ on := 32, ground := Ground.guard }], guard := some (32, false) }) (v := ?v1040) rfl (by kernel_rfl) (by kernel_rfl) (by kernel_rfl) (fun _ _ _ h => h) (Or.inl ⟨by rfl, ?hy1040⟩) (by assumption) ?rest1040
              case hy1040 => (intro w hSw; (try dsimp only at hSw); go_simp; try with_reducible rfl)
              simp only [Act.put, List.setIfInBounds_toArray, List.set_cons_zero, List.set_cons_succ]
              refine wpAnyH_take (i := 40) (oi := { dst := some 229, op := Op.load 32 (Operand.tmp 228), type := 32, pos := "ref.go:251", after := #[{ on := 39, ground := Ground.data }, { on := 32, ground := Ground.guard }], guard := some (32, false) }) (v := ?v1041) rfl (by kernel_rfl) (by kernel_rfl) (by kernel_rfl) (fun _ _ _ h => h) (Or.inl ⟨by rfl, ?hy1041⟩) (by assumption) ?rest1041
              case hy1041 => (intro W hSw; (try dsimp only at hSw); have e1 := HY1.out W hSw; have e2 := HY2.out W hSw; have f10 := HC10.out W hSw; have f11 := HC11.out W hSw; have f12 := HC12.out W hSw; have f13 := HC13.out W hSw; have f20 := HC20.out W hSw; have f21 := HC21.out W hSw; have f22 := HC22.out W hSw; have f23 := HC23.out W hSw; go_simp; try with_reducible rfl)
              simp only [Act.put, List.setIfInBounds_toArray, List.set_cons_zero, List.set_cons_succ]
              refine wpAnyH_take (i := 41) (oi := { dst := some 230, op := Op.move (Operand.tmp 10), type := 3, pos := "ref.go:251", after := #[{ on := 32, ground := Ground.guard }], guard := some (32, false) }) (v := ?v1042) rfl (by kernel_rfl) (by kernel_rfl) (by kernel_rfl) (fun _ _ _ h => h) (Or.inl ⟨by rfl, ?hy1042⟩) (by assumption) ?rest1042
              case hy1042 => (intro w hSw; (try dsimp only at hSw); go_simp; try with_reducible rfl)
              simp only [Act.put, List.setIfInBounds_toArray, List.set_cons_zero, List.set_cons_succ]
              refine wpAnyH_take (i := 42) (oi := { dst := some 231, op := Op.indexAddr 32 (Operand.tmp 229) (Operand.tmp 230), type := 0, pos := "ref.go:251", after := #[{ on := 40, ground := Ground.data }, { on := 41, ground := Ground.data }, { on := 32, ground := Ground.guard }], guard := some (32, false) }) (v := ?v1043) rfl (by kernel_rfl) (by kernel_rfl) (by kernel_rfl) (fun _ _ _ h => h) (Or.inl ⟨by rfl, ?hy1043⟩) (by assumption) ?rest1043
              case hy1043 => (intro w hSw; (try dsimp only at hSw); go_simp; try with_reducible rfl)
              simp only [Act.put, List.setIfInBounds_toArray, List.set_cons_zero, List.set_cons_succ]
              refine wpAnyH_take (i := 43) (oi := { dst := some 232, op := Op.fieldAddr 71 (Operand.tmp 231) 2, type := 0, pos := "ref.go:251", after := #[{ on := 42, ground := Ground.data }, { on := 32, ground := Ground.guard }], guard := some (32, false) }) (v := ?v1044) rfl (by kernel_rfl) (by kernel_rfl) (by kernel_rfl) (fun _ _ _ h => h) (Or.inl ⟨by rfl, ?hy1044⟩) (by assumption) ?rest1044
              case hy1044 => (intro w hSw; (try dsimp only at hSw); go_simp; try with_reducible rfl)
              simp only [Act.put, List.setIfInBounds_toArray, List.set_cons_zero, List.set_cons_succ]
              refine wpAnyH_take (i := 44) (oi := { dst := some 233, op := Op.load 4 (Operand.tmp 232), type := 4, pos := "ref.go:251", after := #[{ on := 43, ground := Ground.data }, { on := 32, ground := Ground.guard }], guard := some (32, false) }) (v := ?v1045) rfl (by kernel_rfl) (by kernel_rfl) (by kernel_rfl) (fun _ _ _ h => h) (Or.inl ⟨by rfl, ?hy1045⟩) (by assumption) ?rest1045
              case hy1045 => (intro W hSw; (try dsimp only at hSw); have e1 := HY1.out W hSw; have e2 := HY2.out W hSw; have f10 := HC10.out W hSw; have f11 := HC11.out W hSw; have f12 := HC12.out W hSw; have f13 := HC13.out W hSw; have f20 := HC20.out W hSw; have f21 := HC21.out W hSw; have f22 := HC22.out W hSw; have f23 := HC23.out W hSw; go_simp; try with_reducible rfl)
              simp only [Act.put, List.setIfInBounds_toArray, List.set_cons_zero, List.set_cons_succ]
              refine wpAnyH_take (i := 45) (oi := { dst := some 234, op := Op.binOp BinOp.neq 4 (Operand.tmp 227) (Operand.tmp 233) 4, type := 4, pos := "ref.go:251", after := #[{ on := 38, ground := Ground.data }, { on := 44, ground := Ground.data }, { on := 32, ground := Ground.guard }], guard := some (32, false) }) (v := ?v1046) rfl (by kernel_rfl) (by kernel_rfl) (by kernel_rfl) (fun _ _ _ h => h) (Or.inl ⟨by rfl, ?hy1046⟩) (by assumption) ?rest1046
              case hy1046 => (intro w hSw; (try dsimp only at hSw); go_simp; try with_reducible rfl)
              simp only [Act.put, List.setIfInBounds_toArray, List.set_cons_zero, List.set_cons_succ]
              refine wpAnyH_take (i := 46) (oi := { dst := some 235, op := Op.pick (Operand.tmp 221) (Operand.const (Value.bool true)) (Operand.tmp 234), type := 4, pos := "ref.go:251", after := #[{ on := 32, ground := Ground.data }, { on := 45, ground := Ground.data }], guard := none }) (v := ?v1047) rfl (by kernel_rfl) (by kernel_rfl) (by kernel_rfl) (fun _ _ _ h => h) (Or.inl ⟨by rfl, ?hy1047⟩) (by assumption) ?rest1047
              case hy1047 => (intro w hSw; (try dsimp only at hSw); go_simp; try with_reducible rfl)
              simp only [Act.put, List.setIfInBounds_toArray, List.set_cons_zero, List.set_cons_succ]
              refine wpAnyH_done (by kernel_rfl) ?_ _
              go_wp2
              go_roundw
              case rel => exact ⟨k + 1, by have h9 := HLt.out; omega, by go_num, ht_⟩
              case measure => have h9 := HLt.out; simp [intOf]; omega
            · have HW := hid hbel
              clear hbel
              go_wp2
              go_loopw [12] (fun i wr => ∃ k : Nat, k ≤ rsev1.length ∧ i = .int .i64 k ∧ Below w2.heap.size w2 wr) (fun i _ => rsev1.length - (intOf i).toNat)
              case atStart => exact ⟨0, by omega, rfl, HW.out⟩
              case round =>
                obtain ⟨k, hk, rfl, hbel⟩ := hrel
                have kh1 := HHev1.out wr hbel
                have kh2 := HHev2.out wr hbel
                by_cases hlt : k < rsev1.length
                · have hlt2 : k < rsev2.length := by have := HLev.out; omega
                  have HLt := hid hlt
                  obtain ⟨b1, o1, rfl, hw1, hce1⟩ := HEev1.out (by omega)
                  have HX1 := hid (show ∀ W, Below w2.heap.size w2 W → ∀ j, j < 2 → W.cell? ⟨b1, o1 + k * 2 + j, none⟩ = some ((rsev1.getD k EvV.zero).cells.getD j .nilIface) from fun W hW j hj => ((HB2.out.trans (hW.mono HB2.out.size)).cell (by exact hw1)).trans (hce1 k hlt j hj))
                  have HQ1 := hid (HAev1.out k hlt)
                  have HY1 := HHev1
                  obtain ⟨b2, o2, rfl, hw2, hce2⟩ := HEev2.out (by omega)
                  have HX2 := hid (show ∀ W, Below w2.heap.size w2 W → ∀ j, j < 2 → W.cell? ⟨b2, o2 + k * 2 + j, none⟩ = some ((rsev2.getD k EvV.zero).cells.getD j .nilIface) from fun W hW j hj => ((HB2.out.trans (hW.mono HB2.out.size)).cell (by exact hw2)).trans (hce2 k hlt2 j hj))
                  have HQ2 := hid (HAev2.out k hlt2)
                  have HY2 := HHev2
                  clear hce1 hce2
                  generalize c1.ev.getD k Ev.zero = x at HQ1 HQ2
                  generalize rsev1.getD k EvV.zero = q at HX1 HQ1
                  generalize rsev2.getD k EvV.zero = p at HX2 HQ2
                  obtain ⟨qx0, ⟨qa1, qn1, qc1⟩⟩ := q
                  obtain ⟨px0, ⟨pa1, pn1, pc1⟩⟩ := p
                  have HC10 := hid (show ∀ W, Below w2.heap.size w2 W → W.cell? ⟨b1, o1 + k * 2, none⟩ = some (.bool qx0) from fun W hW => (HX1.out W hW 0 (by decide)).trans rfl)
                  have HC11 := hid (show ∀ W, Below w2.heap.size w2 W → W.cell? ⟨b1, o1 + k * 2 + 1, none⟩ = some (.slice qa1 qn1 qc1) from fun W hW => (HX1.out W hW 1 (by decide)).trans rfl)
                  have HC20 := hid (show ∀ W, Below w2.heap.size w2 W → W.cell? ⟨b2, o2 + k * 2, none⟩ = some (.bool px0) from fun W hW => (HX2.out W hW 0 (by decide)).trans rfl)
                  have HC21 := hid (show ∀ W, Below w2.heap.size w2 W → W.cell? ⟨b2, o2 + k * 2 + 1, none⟩ = some (.slice pa1 pn1 pc1) from fun W hW => (HX2.out W hW 1 (by decide)).trans rfl)
                  clear HX1 HX2
                  go_wp2_with fail
                  refine wp_region_held_drew (S := (fun W => Below w2.heap.size w2 W)) (by kernel_rfl) (Below.drew hbel) (fun hh0_ => ?_)
                  refine wpAnyH_take (i := 0) (oi := { dst := some 243, op := Op.fieldAddr 39 (Operand.tmp 2) 8, type := 0, pos := "ref.go:256", after := #[], guard := none }) (v := ?v401) rfl (by kernel_rfl) (by kernel_rfl) (by kernel_rfl) (fun _ _ _ h => h) (Or.inl ⟨by rfl, ?hy401⟩) (by assumption) ?rest401
                  case hy401 => (intro w hSw; (try dsimp only at hSw); go_simp; try with_reducible rfl)
                  simp only [Act.put, List.setIfInBounds_toArray, List.set_cons_zero, List.set_cons_succ]
                  refine wpAnyH_take (i := 1) (oi := { dst := some 244, op := Op.load 33 (Operand.tmp 243), type := 33, pos := "ref.go:256", after := #[{ on := 0, ground := Ground.data }], guard := none }) (v := ?v402) rfl (by kernel_rfl) (by kernel_rfl) (by kernel_rfl) (fun _ _ _ h => h) (Or.inl ⟨by rfl, ?hy402⟩) (by assumption) ?rest402
                  case hy402 => (intro W hSw; (try dsimp only at hSw); have e1 := HY1.out W hSw; have e2 := HY2.out W hSw; have f10 := HC10.out W hSw; have f11 := HC11.out W hSw; have f20 := HC20.out W hSw; have f21 := HC21.out W hSw; go_simp; try with_reducible rfl)
                  simp only [Act.put, List.setIfInBounds_toArray, List.set_cons_zero, List.set_cons_succ]
                  refine wpAnyH_take (i := 2) (oi := { dst := some 245, op := Op.move (Operand.tmp 12), type := 3, pos := "ref.go:256", after := #[], guard := none }) (v := ?v403) rfl (by kernel_rfl) (by kernel_rfl) (by kernel_rfl) (fun _ _ _ h => h) (Or.inl ⟨by rfl, ?hy403⟩) (by assumption) ?rest403
                  case hy403 => (intro w hSw; (try dsimp only at hSw); go_simp; try with_reducible rfl)
                  simp only [Act.put, List.setIfInBounds_toArray, List.set_cons_zero, List.set_cons_succ]
                  refine wpAnyH_take (i := 3) (oi := { dst := some 246, op := Op.indexAddr 33 (Operand.tmp 244) (Operand.tmp 245), type := 0, pos := "ref.go:256", after := #[{ on := 1, ground := Ground.data }, { on := 2, ground := Ground.data }], guard := none }) (v := ?v404) rfl (by kernel_rfl) (by kernel_rfl) (by kernel_rfl) (fun _ _ _ h => h) (Or.inl ⟨by rfl, ?hy404⟩) (by assumption) ?rest404
                  case hy404 => (intro w hSw; (try dsimp only at hSw); go_simp; try with_reducible rfl)
                  simp only [Act.put, List.setIfInBounds_toArray, List.set_cons_zero, List.set_cons_succ]
                  refine wpAnyH_take (i := 4) (oi := { dst := some 247, op := Op.fieldAddr 73 (Operand.tmp 246) 1, type := 0, pos := "ref.go:256", after := #[{ on := 3, ground := Ground.data }], guard := none }) (v := ?v405) rfl (by kernel_rfl) (by kernel_rfl) (by kernel_rfl) (fun _ _ _ h => h) (Or.inl ⟨by rfl, ?hy405⟩) (by assumption) ?rest405
                  case hy405 => (intro w hSw; (try dsimp only at hSw); go_simp; try with_reducible rfl)
                  simp only [Act.put, List.setIfInBounds_toArray, List.set_cons_zero, List.set_cons_succ]
                  refine wpAnyH_take (i := 5) (oi := { dst := some 248, op := Op.load 65 (Operand.tmp 247), type := 65, pos := "ref.go:256", after := #[{ on := 4, ground := Ground.data }], guard := none }) (v := ?v406) rfl (by kernel_rfl) (by kernel_rfl) (by kernel_rfl) (fun _ _ _ h => h) (Or.inl ⟨by rfl, ?hy406⟩) (by assumption) ?rest406
                  case hy406 => (intro W hSw; (try dsimp only at hSw); have e1 := HY1.out W hSw; have e2 := HY2.out W hSw; have f10 := HC10.out W hSw; have f11 := HC11.out W hSw; have f20 := HC20.out W hSw; have f21 := HC21.out W hSw; go_simp; try with_reducible rfl)
                  simp only [Act.put, List.setIfInBounds_toArray, List.set_cons_zero, List.set_cons_succ]
                  refine wpAnyH_take (i := 6) (oi := { dst := some 249, op := Op.fieldAddr 39 (Operand.tmp 3) 8, type := 0, pos := "ref.go:256", after := #[], guard := none }) (v := ?v407) rfl (by kernel_rfl) (by kernel_rfl) (by kernel_rfl) (fun _ _ _ h => h) (Or.inl ⟨by rfl, ?hy407⟩) (by assumption) ?rest407
                  case hy407 => (intro w hSw; (try dsimp only at hSw); go_simp; try with_reducible rfl)
                  simp only [Act.put, List.setIfInBounds_toArray, List.set_cons_zero, List.set_cons_succ]
                  refine wpAnyH_take (i := 7) (oi := { dst := some 250, op := Op.load 33 (Operand.tmp 249), type := 33, pos := "ref.go:256", after := #[{ on := 6, ground := Ground.data }], guard := none }) (v := ?v408) rfl (by kernel_rfl) (by kernel_rfl) (by kernel_rfl) (fun _ _ _ h => h) (Or.inl ⟨by rfl, ?hy408⟩) (by assumption) ?rest408
                  case hy408 => (intro W hSw; (try dsimp only at hSw); have e1 := HY1.out W hSw; have e2 := HY2.out W hSw; have f10 := HC10.out W hSw; have f11 := HC11.out W hSw; have f20 := HC20.out W hSw; have f21 := HC21.out W hSw; go_simp; try with_reducible rfl)
                  simp only [Act.put, List.setIfInBounds_toArray, List.set_cons_zero, List.set_cons_succ]
                  refine wpAnyH_take (i := 8) (oi := { dst := some 251, op := Op.move (Operand.tmp 12), type := 3, pos := "ref.go:256", after := #[], guard := none }) (v := ?v409) rfl (by kernel_rfl) (by kernel_rfl) (by kernel_rfl) (fun _ _ _ h => h) (Or.inl ⟨by rfl, ?hy409⟩) (by assumption) ?rest409
                  case hy409 => (intro w hSw; (try dsimp only at hSw); go_simp; try with_reducible rfl)
                  simp only [Act.put, List.setIfInBounds_toArray, List.set_cons_zero, List.set_cons_succ]
                  refine wpAnyH_take (i := 9) (oi := { dst := some 252, op := Op.indexAddr 33 (Operand.tmp 250) (Operand.tmp 251), type := 0, pos := "ref.go:256", after := #[{ on := 7, ground := Ground.data }, { on := 8, ground := Ground.data }], guard := none }) (v := ?v410) rfl (by kernel_rfl) (by kernel_rfl) (by kernel_rfl) (fun _ _ _ h => h) (Or.inl ⟨by rfl, ?hy410⟩) (by assumption) ?rest410
                  case hy410 => (intro w hSw; (try dsimp only at hSw); go_simp; try with_reducible rfl)
                  simp only [Act.put, List.setIfInBounds_toArray, List.set_cons_zero, List.set_cons_succ]
                  refine wpAnyH_take (i := 10) (oi := { dst := some 253, op := Op.fieldAddr 73 (Operand.tmp 252) 1, type := 0, pos := "ref.go:256", after := #[{ on := 9, ground := Ground.data }], guard := none }) (v := ?v411) rfl (by kernel_rfl) (by kernel_rfl) (by kernel_rfl) (fun _ _ _ h => h) (Or.inl ⟨by rfl, ?hy411⟩) (by assumption) ?rest411
                  case hy411 => (intro w hSw; (try dsimp only at hSw); go_simp; try with_reducible rfl)
                  simp only [Act.put, List.setIfInBounds_toArray, List.set_cons_zero, List.set_cons_succ]
                  refine wpAnyH_take (i := 11) (oi := { dst := some 254, op := Op.load 65 (Operand.tmp 253), type := 65, pos := "ref.go:256", after := #[{ on := 10, ground := Ground.data }], guard := none }) (v := ?v412) rfl (by kernel_rfl) (by kernel_rfl) (by kernel_rfl) (fun _ _ _ h => h) (Or.inl ⟨by rfl, ?hy412⟩) (by assumption) ?rest412
                  case hy412 => (intro W hSw; (try dsimp only at hSw); have e1 := HY1.out W hSw; have e2 := HY2.out W hSw; have f10 := HC10.out W hSw; have f11 := HC11.out W hSw; have f20 := HC20.out W hSw; have f21 := HC21.out W hSw; go_simp; try with_reducible rfl)
                  simp only [Act.put, List.setIfInBounds_toArray, List.set_cons_zero, List.set_cons_succ]
                  refine wpAnyH_ready (rs := [12]) (by kernel_rfl) (by simp) (AllReadyH.cons (o := { dst := some 255, op := Op.call { callee := Callee.value (Operand.func 48), args := #[Operand.tmp 248, Operand.tmp 254], argTypes := #[65, 65] }, type := 4, pos := "ref.go:256", after := #[{ on := 5, ground := Ground.data }, { on := 11, ground := Ground.data }], guard := none }) rfl (fun K413 hK413 => ?_) AllReadyH.nil)
                  go_simp
                  refine (waits_tot _ _ x.l x.l _ (HQ1.out.l.below (HB2.out.trans (Below.mono hh0_ HB2.out.size))) (HQ2.out.l.below (HB2.out.trans (Below.mono hh0_ HB2.out.size)))).mono ?_
                  rintro e wq0 ⟨⟨d0, rfl, hd0⟩, hbl0⟩
                  obtain rfl : d0 = true := hd0 rfl
                  clear hd0
                  refine hK413.out _ _ (Below.trans hh0_ (hbl0.mono (Below.size hh0_))) (fun hh0_413 => ?_)
                  clear hK413 K413
                  try simp only [Act.put, List.setIfInBounds_toArray, List.set_cons_zero, List.set_cons_succ]
                  refine wpAnyH_take (i := 13) (oi := { dst := some 13, op := Op.assign (Operand.tmp 255), type := 4, pos := "ref.go:256", after := #[{ on := 12, ground := Ground.data }, { on := 12, ground := Ground.chain }, { on := 0, ground := Ground.phase }, { on := 1, ground := Ground.phase }, { on := 2, ground := Ground.phase }, { on := 3, ground := Ground.phase }, { on := 4, ground := Ground.phase }, { on := 5, ground := Ground.phase }, { on := 6, ground := Ground.phase }, { on := 7, ground := Ground.phase }, { on := 8, ground := Ground.phase }, { on := 9, ground := Ground.phase }, { on := 10, ground := Ground.phase }, { on := 11, ground := Ground.phase }, { on := 12, ground := Ground.phase }], guard := none }) (v := ?v414) rfl (by kernel_rfl) (by kernel_rfl) (by kernel_rfl) (fun _ _ _ h => h) (Or.inl ⟨by rfl, ?hy414⟩) (by assumption) ?rest414
                  case hy414 => (intro w hSw; (try dsimp only at hSw); go_simp; try with_reducible rfl)
                  simp only [Act.put, List.setIfInBounds_toArray, List.set_cons_zero, List.set_cons_succ]
                  refine wpAnyH_done (by kernel_rfl) ?_ _
                  have HW0 := hid hh0_413
                  obtain rfl : qx0 = px0 := by have h1 := HQ1.out.u; have h2 := HQ2.out.u; simp only at h1 h2; exact h1.trans h2.symm
                  go_wp2_with fail
                  refine wp_region_held_drew (S := (fun W => Below w2.heap.size w2 W)) (by kernel_rfl) (Below.drew HW0.out) (fun ht_ => ?_)
                  refine wpAnyH_take (i := 0) (oi := { dst := some 256, op := Op.move (Operand.tmp 13), type := 4, pos := "ref.go:257", after := #[], guard := none }) (v := ?v601) rfl (by kernel_rfl) (by kernel_rfl) (by kernel_rfl) (fun _ _ _ h => h) (Or.inl ⟨by rfl, ?hy601⟩) (by assumption) ?rest601
                  case hy601 => (intro w hSw; (try dsimp only at hSw); go_simp; try with_reducible rfl)
                  simp only [Act.put, List.setIfInBounds_toArray, List.set_cons_zero, List.set_cons_succ]
                  refine wpAnyH_take (i := 1) (oi := { dst := some 257, op := Op.unOp UnOp.not 4 (Operand.tmp 256), type := 4, pos := "ref.go:257", after := #[{ on := 0, ground := Ground.data }], guard := none }) (v := ?v602) rfl (by kernel_rfl) (by kernel_rfl) (by kernel_rfl) (fun _ _ _ h => h) (Or.inl ⟨by rfl, ?hy602⟩) (by assumption) ?rest602
                  case hy602 => (intro w hSw; (try dsimp only at hSw); go_simp; try with_reducible rfl)
                  simp only [Act.put, List.setIfInBounds_toArray, List.set_cons_zero, List.set_cons_succ]
                  refine wpAnyH_take (i := 2) (oi := { dst := some 258, op := Op.move (Operand.tmp 257), type := 4, pos := "ref.go:257", after := #[{ on := 1, ground := Ground.data }], guard := none }) (v := ?v603) rfl (by kernel_rfl) (by kernel_rfl) (by kernel_rfl) (fun _ _ _ h => h) (Or.inl ⟨by rfl, ?hy603⟩) (by assumption) ?rest603
                  case hy603 => (intro w hSw; (try dsimp only at hSw); go_simp; try with_reducible rfl)
                  simp only [Act.put, List.setIfInBounds_toArray, List.set_cons_zero, List.set_cons_succ]
                  refine wpAnyH_take (i := 3) (oi := { dst := some 259, op := Op.fieldAddr 39 (Operand.tmp 2) 8, type := 0, pos := "ref.go:257", after := #[{ on := 2, ground := Ground.guard }], guard := some (2, false) }) (v := ?v604) rfl (by kernel_rfl) (by kernel_rfl) (by kernel_rfl) (fun _ _ _ h => h) (Or.inl ⟨by rfl, ?hy604⟩) (by assumption) ?rest604
                  case hy604 => (intro w hSw; (try dsimp only at hSw); go_simp; try with_reducible rfl)
                  simp only [Act.put, List.setIfInBounds_toArray, List.set_cons_zero, List.set_cons_succ]
                  refine wpAnyH_take (i := 4) (oi := { dst := some 260, op := Op.load 33 (Operand.tmp 259), type := 33, pos := "ref.go:257", after := #[{ on := 3, ground := Ground.data }, { on := 2, ground := Ground.guard }], guard := some (2, false) }) (v := ?v605) rfl (by kernel_rfl) (by kernel_rfl) (by kernel_rfl) (fun _ _ _ h => h) (Or.inl ⟨by rfl, ?hy605⟩) (by assumption) ?rest605
                  case hy605 => (intro W hSw; (try dsimp only at hSw); have e1 := HY1.out W hSw; have e2 := HY2.out W hSw; have f10 := HC10.out W hSw; have f11 := HC11.out W hSw; have f20 := HC20.out W hSw; have f21 := HC21.out W hSw; go_simp; try with_reducible rfl)
                  simp only [Act.put, List.setIfInBounds_toArray, List.set_cons_zero, List.set_cons_succ]
                  refine wpAnyH_take (i := 5) (oi := { dst := some 261, op := Op.move (Operand.tmp 12), type := 3, pos := "ref.go:257", after := #[{ on := 2, ground := Ground.guard }], guard := some (2, false) }) (v := ?v606) rfl (by kernel_rfl) (by kernel_rfl) (by kernel_rfl) (fun _ _ _ h => h) (Or.inl ⟨by rfl, ?hy606⟩) (by assumption) ?rest606
                  case hy606 => (intro w hSw; (try dsimp only at hSw); go_simp; try with_reducible rfl)
                  simp only [Act.put, List.setIfInBounds_toArray, List.set_cons_zero, List.set_cons_succ]
                  refine wpAnyH_take (i := 6) (oi := { dst := some 262, op := Op.indexAddr 33 (Operand.tmp 260) (Operand.tmp 261), type := 0, pos := "ref.go:257", after := #[{ on := 4, ground := Ground.data }, { on := 5, ground := Ground.data }, { on := 2, ground := Ground.guard }], guard := some (2, false) }) (v := ?v607) rfl (by kernel_rfl) (by kernel_rfl) (by kernel_rfl) (fun _ _ _ h => h) (Or.inl ⟨by rfl, ?hy607⟩) (by assumption) ?rest607
                  case hy607 => (intro w hSw; (try dsimp only at hSw); go_simp; try with_reducible rfl)
                  simp only [Act.put, List.setIfInBounds_toArray, List.set_cons_zero, List.set_cons_succ]
                  refine wpAnyH_take (i := 7) (oi := { dst := some 263, op := Op.fieldAddr 73 (Operand.tmp 262) 0, type := 0, pos := "ref.go:257", after := #[{ on := 6, ground := Ground.data }, { on := 2, ground := Ground.guard }], guard := some (2, false) }) (v := ?v608) rfl (by kernel_rfl) (by kernel_rfl) (by kernel_rfl) (fun _ _ _ h => h) (Or.inl ⟨by rfl, ?hy608⟩) (by assumption) ?rest608
                  case hy608 => (intro w hSw; (try dsimp only at hSw); go_simp; try with_reducible rfl)
                  simp only [Act.put, List.setIfInBounds_toArray, List.set_cons_zero, List.set_cons_succ]
                  refine wpAnyH_take (i := 8) (oi := { dst := some 264, op := Op.load 4 (Operand.tmp 263), type := 4, pos := "ref.go:257", after := #[{ on := 7, ground := Ground.data }, { on := 2, ground := Ground.guard }], guard := some (2, false) }) (v := ?v609) rfl (by kernel_rfl) (by kernel_rfl) (by kernel_rfl) (fun _ _ _ h => h) (Or.inl ⟨by rfl, ?hy609⟩) (by assumption) ?rest609
                  case hy609 => (intro W hSw; (try dsimp only at hSw); have e1 := HY1.out W hSw; have e2 := HY2.out W hSw; have f10 := HC10.out W hSw; have f11 := HC11.out W hSw; have f20 := HC20.out W hSw; have f21 := HC21.out W hSw; go_simp; try with_reducible rfl)
                  simp only [Act.put, List.setIfInBounds_toArray, List.set_cons_zero, List.set_cons_succ]
                  refine wpAnyH_take (i := 9) (oi := { dst := some 265, op := Op.fieldAddr 39 (Operand.tmp 3) 8, type := 0, pos := "ref.go:257", after := #[{ on := 2, ground := Ground.guard }], guard := some (2, false) }) (v := ?v610) rfl (by kernel_rfl) (by kernel_rfl) (by kernel_rfl) (fun _ _ _ h => h) (Or.inl ⟨by rfl, ?hy610⟩) (by assumption) ?rest610
                  case hy610 => (intro w hSw; (try dsimp only at hSw); go_simp; try with_reducible rfl)
                  simp only [Act.put, List.setIfInBounds_toArray, List.set_cons_zero, List.set_cons_succ]
                  refine wpAnyH_take (i := 10) (oi := { dst := some 266, op := Op.load 33 (Operand.tmp 265), type := 33, pos := "ref.go:257", after := #[{ on := 9, ground := Ground.data }, { on := 2, ground := Ground.guard }], guard := some (2, false) }) (v := ?v611) rfl (by kernel_rfl) (by kernel_rfl) (by kernel_rfl) (fun _ _ _ h => h) (Or.inl ⟨by rfl, ?hy611⟩) (by assumption) ?rest611
                  case hy611 => (intro W hSw; (try dsimp only at hSw); have e1 := HY1.out W hSw; have e2 := HY2.out W hSw; have f10 := HC10.out W hSw; have f11 := HC11.out W hSw; have f20 := HC20.out W hSw; have f21 := HC21.out W hSw; go_simp; try with_reducible rfl)
                  simp only [Act.put, List.setIfInBounds_toArray, List.set_cons_zero, List.set_cons_succ]
                  refine wpAnyH_take (i := 11) (oi := { dst := some 267, op := Op.move (Operand.tmp 12), type := 3, pos := "ref.go:257", after := #[{ on := 2, ground := Ground.guard }], guard := some (2, false) }) (v := ?v612) rfl (by kernel_rfl) (by kernel_rfl) (by kernel_rfl) (fun _ _ _ h => h) (Or.inl ⟨by rfl, ?hy612⟩) (by assumption) ?rest612
                  case hy612 => (intro w hSw; (try dsimp only at hSw); go_simp; try with_reducible rfl)
                  simp only [Act.put, List.setIfInBounds_toArray, List.set_cons_zero, List.set_cons_succ]
                  refine wpAnyH_take (i := 12) (oi := { dst := some 268, op := Op.indexAddr 33 (Operand.tmp 266) (Operand.tmp 267), type := 0, pos := "ref.go:257", after := #[{ on := 10, ground := Ground.data }, { on := 11, ground := Ground.data }, { on := 2, ground := Ground.guard }], guard := some (2, false) }) (v := ?v613) rfl (by kernel_rfl) (by kernel_rfl) (by kernel_rfl) (fun _ _ _ h => h) (Or.inl ⟨by rfl, ?hy613⟩) (by assumption) ?rest613
                  case hy613 => (intro w hSw; (try dsimp only at hSw); go_simp; try with_reducible rfl)
                  simp only [Act.put, List.setIfInBounds_toArray, List.set_cons_zero, List.set_cons_succ]
                  refine wpAnyH_take (i := 13) (oi := { dst := some 269, op := Op.fieldAddr 73 (Operand.tmp 268) 0, type := 0, pos := "ref.go:257", after := #[{ on := 12, ground := Ground.data }, { on := 2, ground := Ground.guard }], guard := some (2, false) }) (v := ?v614) rfl (by kernel_rfl) (by kernel_rfl) (by kernel_rfl) (fun _ _ _ h => h) (Or.inl ⟨by rfl, ?hy614⟩) (by assumption) ?rest614
                  case hy614 => (intro w hSw; (try dsimp only at hSw); go_simp; try with_reducible rfl)
                  simp only [Act.put, List.setIfInBounds_toArray, List.set_cons_zero, List.set_cons_succ]
                  refine wpAnyH_take (i := 14) (oi := { dst := some 270, op := Op.load 4 (Operand.tmp 269), type := 4, pos := "ref.go:257", after := #[{ on := 13, ground := Ground.data }, { on := 2, ground := Ground.guard }], guard := some (2, false) }) (v := ?v615) rfl (by kernel_rfl) (by kernel_rfl) (by kernel_rfl) (fun _ _ _ h => h) (Or.inl ⟨by rfl, ?hy615⟩) (by assumption) ?rest615
                  case hy615 => (intro W hSw; (try dsimp only at hSw); have e1 := HY1.out W hSw; have e2 := HY2.out W hSw; have f10 := HC10.out W hSw; have f11 := HC11.out W hSw; have f20 := HC20.out W hSw; have f21 := HC21.out W hSw; go_simp; try with_reducible rfl)
                  simp only [Act.put, List.setIfInBounds_toArray, List.set_cons_zero, List.set_cons_succ]
                  refine wpAnyH_take (i := 15) (oi := { dst := some 271, op := Op.binOp BinOp.neq 4 (Operand.tmp 264) (Operand.tmp 270) 4, type := 4, pos := "ref.go:257", after := #[{ on := 8, ground := Ground.data }, { on := 14, ground := Ground.data }, { on := 2, ground := Ground.guard }], guard := some (2, false) }) (v := ?v616) rfl (by kernel_rfl) (by kernel_rfl) (by kernel_rfl) (fun _ _ _ h => h) (Or.inl ⟨by rfl, ?hy616⟩) (by assumption) ?rest616
                  case hy616 => (intro w hSw; (try dsimp only at hSw); go_simp; try with_reducible rfl)
                  simp only [Act.put, List.setIfInBounds_toArray, List.set_cons_zero, List.set_cons_succ]
                  refine wpAnyH_take (i := 16) (oi := { dst := some 272, op := Op.pick (Operand.tmp 258) (Operand.const (Value.bool true)) (Operand.tmp 271), type := 4, pos := "ref.go:257", after := #[{ on := 2, ground := Ground.data }, { on := 15, ground := Ground.data }], guard := none }) (v := ?v617) rfl (by kernel_rfl) (by kernel_rfl) (by kernel_rfl) (fun _ _ _ h => h) (Or.inl ⟨by rfl, ?hy617⟩) (by assumption) ?rest617
                  case hy617 => (intro w hSw; (try dsimp only at hSw); go_simp; try with_reducible rfl)
                  simp only [Act.put, List.setIfInBounds_toArray, List.set_cons_zero, List.set_cons_succ]
                  refine wpAnyH_done (by kernel_rfl) ?_ _
                  go_wp2
                  go_roundw
                  case rel => exact ⟨k + 1, by have h9 := HLt.out; omega, by go_num, ht_⟩
                  case measure => have h9 := HLt.out; simp [intOf]; omega
                · have HW := hid hbel
                  clear hbel
                  go_wp2
                  go_ret
                  exact ⟨rfl, HB2.out.trans (Below.mono HW.out HB2.out.size)⟩

end Go.Proofs.Ytdanfnbclbiidaa
