/-
  FrameShares: the walk.
-/
import Derived.Test.YtnliodjappkdeaaFMath
import Derived.Test.YtnliodjappkdeaaFLaws1
namespace Go.Proofs.Ytnliodjappkdeaa
open Go.RowKit
set_option linter.unusedVariables false

set_option maxRecDepth 100000 in
set_option maxHeartbeats 3200000 in
theorem walk_FrameShares (w : World) (x : CfX) (hx : x.fit w) :
    Calls Try.prog 9 #[x.val] w fun e w' => e = .returned (.bool true) ∧ Below w.heap.size w w' := by
  obtain ⟨⟨fr, sw, ⟨a1, n1, k1⟩, ⟨a2, n2, k2⟩, ⟨a3, n3, k3⟩, ⟨a4, n4, k4⟩⟩, c⟩ := x
  obtain ⟨hS, hft, hw⟩ := hx
  simp only at hS hft hw
  have hfr : fr = c.fr := hS.fr
  have hsw : sw = c.sw := hS.sw
  have hwi : SeesWn w (.slice a3 n3 k3) c.wi := hS.wi
  obtain ⟨hw1, hw2, hw3⟩ := hw
  rw [← hfr] at hw1
  simp only [wide1] at hw1
  have hn3b : n3 ≤ 9223372036854775807 := by
    obtain ⟨_, _, hv, hl1, hl2, _⟩ := hwi.form
    simp only [Value.slice.injEq] at hv
    unfold maxLen at hl2
    omega
  have hfit : ∀ x ∈ c.wi, x.fit := fun v hv => (hw3 v hv).2.1.2
  rw [← hsw] at hw2
  simp only [wide1] at hw2
  have HM := hid (fun W (hW : Below w.heap.size w W) => tmay_any ⟨fr, sw, ⟨a1, n1, k1⟩, ⟨a2, n2, k2⟩, ⟨a3, n3, k3⟩, ⟨a4, n4, k4⟩⟩ c W (hS.below hW) hft)
  unfold Cv.val at HM
  simp only at HM
  have HFine := hid (show mayC c = true → Fine fr sw c.pa.length c.wi ∧ c.pa.length ≤ 4 by rw [hfr, hsw]; exact Fine.of)
  have hpl := hid (show n2 = c.pa.length by
    obtain ⟨qs, h1, h2, _⟩ := hS.pa
    obtain ⟨_, _, hv, _⟩ := h1.form
    simp only [Sl.val, Value.slice.injEq] at hv
    omega)
  have hwl := hid (show n3 = c.wi.length by
    obtain ⟨_, _, hv, _⟩ := hwi.form
    simp only [Value.slice.injEq] at hv
    exact hv.2.1)
  have HS := hid (fun p W (hW : Below w.heap.size w W) => share_any ⟨fr, sw, ⟨a1, n1, k1⟩, ⟨a2, n2, k2⟩, ⟨a3, n3, k3⟩, ⟨a4, n4, k4⟩⟩ c.wi p W (hwi.below hW) hw1 hfit)
  unfold Cv.val at HS
  simp only at HS
  have HWI := hid (show 0 < c.wi.length → ∃ b off, a3 = some ⟨b, off, none⟩ ∧ b < w.heap.size ∧ ∀ i, i < c.wi.length → ∀ j, j < 3 → w.cell? ⟨b, off + i * 3 + j, none⟩ = some ((c.wi.getD i Wn.zero).cells.getD j .nilIface) by
    obtain ⟨al, cl, hvl, _, _, hlc⟩ := hwi.form
    simp only [Value.slice.injEq] at hvl
    obtain ⟨rfl, _, _⟩ := hvl
    exact hlc)
  clear hS hft hw3 hfit hfr hsw hwi
  unfold CfX.val Cv.val
  go_enter Try.func9, Try.ntmps9
  go_wp2_with fail
  refine (fawake_any _).mono ?_
  rintro e w1 ⟨rfl, hb⟩
  have B1 := hid (show BoxAt w1 w.heap.size 27 #[.int .i64 fr, .int .i64 sw, .slice a1 n1 k1, .slice a2 n2 k2, .slice a3 n3 k3, .slice a4 n4 k4] from (BoxAt.new w _ _).belowAll hb)
  have hB : Below w.heap.size w w1 := ((Below.refl _ _).alloc (Nat.le_refl _) _).trans (hb.mono (by simp))
  have HB := hid hB
  clear hb hB
  have c0 := (B1.out.cell 0).trans rfl
  have c1 := (B1.out.cell 1).trans rfl
  have c2 := (B1.out.cell 2).trans rfl
  have c3 := (B1.out.cell 3).trans rfl
  have c4 := (B1.out.cell 4).trans rfl
  have c5 := (B1.out.cell 5).trans rfl
  go_wp2_with fail
  refine (HM.out _ HB.out).mono ?_
  rintro e w2 ⟨rfl, hb⟩
  clear HM c0 c1 c2 c3 c4 c5
  replace B1 := hid (B1.out.belowAll hb)
  replace HB := hid (HB.out.trans (hb.mono HB.out.size))
  clear hb
  rcases hmay : mayC c
  · clear HS HWI HFine B1
    go_wp2
    go_ret
    exact ⟨rfl, HB.out⟩
  have hfine := HFine.out hmay
  clear HFine
  obtain ⟨hfi, hpl4⟩ := hfine
  have f1 := hfi.fr1
  have f2 := hfi.fr2
  have f3 := hfi.sw1
  have f4 := hfi.sw2
  have hn2 : n2 ≤ 4 := by have := hpl.out; omega
  have K3 := hid hfi.win
  have K7 := hid hfi.shares
  have hk6 := hfi.len
  have K8 := hid (share_bound fr sw c.wi)
  rw [← hpl.out] at K7
  rw [← hwl.out] at K7 hk6
  clear hfi hpl4 hpl hmay
  generalize c.wi = l at *
  go_wp2
  go_loopw [4, 5] (fun a b wc => ∃ (i : Nat) (s : Int), i ≤ n2 ∧ b = .int .i64 i ∧ a = .int .i64 s ∧ s = sumZ (fun p => shareS fr sw l p) i ∧ 0 ≤ s ∧ s ≤ 4096 * i ∧ BoxAt wc w.heap.size 27 #[.int .i64 fr, .int .i64 sw, .slice a1 n1 k1, .slice a2 n2 k2, .slice a3 n3 k3, .slice a4 n4 k4] ∧ Below w.heap.size w wc) (fun _ b _ => n2 - (intOf b).toNat)
  case atStart => exact ⟨0, 0, by omega, rfl, rfl, rfl, by omega, by omega, B1.out, HB.out⟩
  case round =>
    clear B1 HB
    obtain ⟨i, s, hi, rfl, rfl, hs, hs0, hs1, b1, hbel⟩ := hrel
    have B1 := hid b1
    have HB := hid hbel
    have HSM := hid hs
    clear hs hbel
    have c0 := (b1.cell 0).trans rfl
    have c1 := (b1.cell 1).trans rfl
    have c2 := (b1.cell 2).trans rfl
    have c3 := (b1.cell 3).trans rfl
    have c4 := (b1.cell 4).trans rfl
    have c5 := (b1.cell 5).trans rfl
    clear b1
    by_cases hlt : i < n2
    · have hk8 := K8.out i
      have HN := hid (show s + shareS fr sw l i = sumZ (fun p => shareS fr sw l p) (i + 1) by rw [HSM.out]; rfl)
      have HSi := hid (HS.out i)
      clear HS HSM K3 K7 K8 HWI
      generalize shareS fr sw l i = d at *
      go_wp2_with fail
      refine (HSi.out _ HB.out).mono ?_
      rintro e w3 ⟨rfl, hb⟩
      clear c0 c1 c2 c3 c4 c5
      replace B1 := hid (B1.out.belowAll hb)
      replace HB := hid (HB.out.trans (hb.mono HB.out.size))
      clear hb
      go_wp2
      go_roundw
      case rel => exact ⟨i + 1, s + d, by omega, by go_num, by go_num, HN.out, by omega, by omega, B1.out, HB.out⟩
      case measure => simp [intOf]; omega
    · obtain rfl : n2 = i := by omega
      have HT := hid (show s = sumZ (fun i => gainW sw (l.getD i Wn.zero)) n3 by rw [HSM.out]; exact K7.out)
      clear HS HSM K7 K8
      go_wp2
      go_loopw [4, 6] (fun a b wc => ∃ (j : Nat) (u : Int), j ≤ n3 ∧ b = .int .i64 j ∧ a = .int .i64 u ∧ u = s - sumZ (fun i => gainW sw (l.getD i Wn.zero)) j ∧ -4096 * (j : Int) ≤ u ∧ u ≤ s ∧ BoxAt wc w.heap.size 27 #[.int .i64 fr, .int .i64 sw, .slice a1 n1 k1, .slice a2 n2 k2, .slice a3 n3 k3, .slice a4 n4 k4] ∧ Below w.heap.size w wc) (fun _ b _ => n3 - (intOf b).toNat)
      case atStart => exact ⟨0, s, by omega, rfl, rfl, by simp [sumZ], by omega, by omega, B1.out, HB.out⟩
      case round =>
        clear B1 HB c0 c1 c2 c3 c4 c5
        obtain ⟨j, u, hj, rfl, rfl, hu, hu0, hu1, b1, hbel⟩ := hrel
        have B1 := hid b1
        have HB := hid hbel
        have HU := hid hu
        clear hu hbel
        have c1 := (b1.cell 1).trans rfl
        have c4 := (b1.cell 4).trans rfl
        clear b1
        by_cases hlt2 : j < n3
        · have hll : j < l.length := by have := hwl.out; omega
          obtain ⟨b, off, rfl, hbw, hcell⟩ := HWI.out (by omega)
          have v2 := (HB.out.cell (by exact hbw)).trans (hcell j hll 2 (by decide))
          have hr := K3.out _ (getD_mem (d := Wn.zero) hll)
          have HN := hid (show u - gainW sw (l.getD j Wn.zero) = s - sumZ (fun i => gainW sw (l.getD i Wn.zero)) (j + 1) by rw [HU.out, sumZ]; omega)
          clear hcell HWI K3 hll HU
          generalize l.getD j Wn.zero = r at *
          obtain ⟨y0, y1, y2⟩ := r
          simp only [Wn.cells, List.getD_cons_zero, List.getD_cons_succ] at v2
          simp only at hr
          obtain ⟨hr1, hr2, hr3, _, _⟩ := hr
          rw [show gainW sw ⟨y0, y1, y2⟩ = (if sw < y2 then y2 - sw else 0) from rfl] at HN
          by_cases hg : sw < y2
          · have HN2 := hid (show u - y2 + sw = s - sumZ (fun i => gainW sw (l.getD i Wn.zero)) (j + 1) by have := HN.out; rw [if_pos hg] at this; omega)
            clear HN
            have hd : decide (sw < y2) = true := decide_eq_true hg
            go_wp2_with fail
            go_quiet (fail)
            go_wp2_with fail
            go_quiet (fail)
            go_wp2
            go_roundw
            case rel => exact ⟨j + 1, u - y2 + sw, by omega, by go_num, by go_num, HN2.out, by omega, by omega, B1.out, below_drewN HB.out _⟩
            case measure => simp [intOf]; omega
          · have HN2 := hid (show u = s - sumZ (fun i => gainW sw (l.getD i Wn.zero)) (j + 1) by have := HN.out; rw [if_neg hg] at this; omega)
            clear HN
            have hd : decide (sw < y2) = false := decide_eq_false hg
            go_wp2_with fail
            go_quiet (fail)
            go_wp2
            go_roundw
            case rel => exact ⟨j + 1, u, by omega, by go_num, by go_num, HN2.out, by omega, by omega, B1.out, below_drewN HB.out _⟩
            case measure => simp [intOf]; omega
        · obtain rfl : n3 = j := by omega
          obtain rfl : u = 0 := by rw [HU.out, HT.out]; omega
          clear HU HT
          go_wp2
          go_ret
          exact ⟨rfl, HB.out⟩
end Go.Proofs.Ytnliodjappkdeaa
