/-
  FrameOwns: the walk.
-/
import Derived.Test.YtnliodjappkdeaaFMath
import Derived.Test.YtnliodjappkdeaaFLaws1
namespace Go.Proofs.Ytnliodjappkdeaa
open Go.RowKit
set_option linter.unusedVariables false

set_option maxRecDepth 100000 in
set_option maxHeartbeats 3200000 in
theorem walk_FrameOwns (w : World) (x : CfX) (hx : x.fit w) (t : Int) (ht : (Lit.int .i64 t).wf = true) :
    Calls Try.prog 8 #[x.val, .int .i64 t] w fun e w' => e = .returned (.bool true) ∧ Below w.heap.size w w' := by
  obtain ⟨⟨fr, sw, ⟨a1, n1, k1⟩, ⟨a2, n2, k2⟩, ⟨a3, n3, k3⟩, ⟨a4, n4, k4⟩⟩, c⟩ := x
  obtain ⟨hS, hft, hw⟩ := hx
  simp only at hS hft hw
  obtain ⟨ht1, ht2⟩ := bounds_i64 ht
  clear ht
  have hfr : fr = c.fr := hS.fr
  have hsw : sw = c.sw := hS.sw
  have hwi : SeesWn w (.slice a3 n3 k3) c.wi := hS.wi
  obtain ⟨hw1, hw2, hw3⟩ := hw
  rw [← hfr] at hw1
  simp only [wide1] at hw1
  have hn3b : n3 ≤ 9223372036854775807 := by
    obtain ⟨_, _, hv, hl1, hl2, _⟩ := hwi.form
    simp only [Value.slice.injEq] at hv
    unfold maxLen at hl2
    omega
  have hfit : ∀ x ∈ c.wi, x.fit := fun v hv => (hw3 v hv).2.1.2
  rw [← hsw] at hw2
  simp only [wide1] at hw2
  have HM := hid (fun W (hW : Below w.heap.size w W) => tmay_any ⟨fr, sw, ⟨a1, n1, k1⟩, ⟨a2, n2, k2⟩, ⟨a3, n3, k3⟩, ⟨a4, n4, k4⟩⟩ c W (hS.below hW) hft)
  unfold Cv.val at HM
  simp only at HM
  have HFine := hid (show mayC c = true → Fine fr sw c.pa.length c.wi ∧ c.pa.length ≤ 4 by rw [hfr, hsw]; exact Fine.of)
  have hpl := hid (show n2 = c.pa.length by
    obtain ⟨qs, h1, h2, _⟩ := hS.pa
    obtain ⟨_, _, hv, _⟩ := h1.form
    simp only [Sl.val, Value.slice.injEq] at hv
    omega)
  have hwl := hid (show n3 = c.wi.length by
    obtain ⟨_, _, hv, _⟩ := hwi.form
    simp only [Value.slice.injEq] at hv
    exact hv.2.1)
  have HA := hid (fun W (hW : Below w.heap.size w W) => at_any ⟨fr, sw, ⟨a1, n1, k1⟩, ⟨a2, n2, k2⟩, ⟨a3, n3, k3⟩, ⟨a4, n4, k4⟩⟩ c.wi t W (hwi.below hW) ⟨ht1, ht2⟩ hw1 hfit)
  unfold Cv.val at HA
  simp only at HA
  have HWI := hid (show 0 < c.wi.length → ∃ b off, a3 = some ⟨b, off, none⟩ ∧ b < w.heap.size ∧ ∀ i, i < c.wi.length → ∀ j, j < 3 → w.cell? ⟨b, off + i * 3 + j, none⟩ = some ((c.wi.getD i Wn.zero).cells.getD j .nilIface) by
    obtain ⟨al, cl, hvl, _, _, hlc⟩ := hwi.form
    simp only [Value.slice.injEq] at hvl
    obtain ⟨rfl, _, _⟩ := hvl
    exact hlc)
  clear hS hft hw3 hfit hfr hsw hwi hpl
  unfold CfX.val Cv.val
  go_enter Try.func8, Try.ntmps8
  go_wp2_with fail
  refine (fawake_any _).mono ?_
  rintro e w1 ⟨rfl, hb⟩
  have B1 := hid (show BoxAt w1 w.heap.size 27 #[.int .i64 fr, .int .i64 sw, .slice a1 n1 k1, .slice a2 n2 k2, .slice a3 n3 k3, .slice a4 n4 k4] from (BoxAt.new w _ _).belowAll hb)
  have hB : Below w.heap.size w w1 := ((Below.refl _ _).alloc (Nat.le_refl _) _).trans (hb.mono (by simp))
  have HB := hid hB
  clear hb hB
  have c0 := (B1.out.cell 0).trans rfl
  have c1 := (B1.out.cell 1).trans rfl
  have c2 := (B1.out.cell 2).trans rfl
  have c3 := (B1.out.cell 3).trans rfl
  have c4 := (B1.out.cell 4).trans rfl
  have c5 := (B1.out.cell 5).trans rfl
  go_wp2_with fail
  refine (HM.out _ HB.out).mono ?_
  rintro e w2 ⟨rfl, hb⟩
  clear HM c0 c1 c2 c3 c4 c5
  replace B1 := hid (B1.out.belowAll hb)
  replace HB := hid (HB.out.trans (hb.mono HB.out.size))
  clear hb
  rcases hmay : mayC c
  · clear HA HWI HFine B1
    go_wp2
    go_ret
    exact ⟨rfl, HB.out⟩
  have hfine := HFine.out hmay
  clear HFine
  by_cases g1 : t < 0
  · clear HA HWI B1 hfine
    go_wp2
    go_ret
    exact ⟨rfl, HB.out⟩
  by_cases g2 : 1099511627776 < t
  · clear HA HWI B1 hfine
    go_wp2
    go_ret
    exact ⟨rfl, HB.out⟩
  obtain ⟨hfi, _⟩ := hfine
  have f1 := hfi.fr1
  have f2 := hfi.fr2
  have f3 := hfi.sw1
  have f4 := hfi.sw2
  have hp0 : 0 ≤ t % fr := Int.emod_nonneg _ (by omega)
  have hp1 : t % fr < fr := Int.emod_lt_of_pos _ (by omega)
  have K1 := hid (fun i hi => hfi.at_iff t (by omega) i hi)
  have K2 := hid (fun i hi => hfi.at_hit t (by omega) i hi)
  have K3 := hid hfi.win
  have K4 := hid (atS_wi fr sw c.wi t)
  have K5 := hid (at_no fr sw c.wi t)
  have K6 := hid hfi.len
  clear hfi
  generalize atS fr sw c.wi t = X at *
  obtain ⟨x0, x1, x2⟩ := X
  simp only [Slt.val] at HA
  simp only at K1 K4 K5
  generalize c.wi = l at *
  have c0 := (B1.out.cell 0).trans rfl
  have c1 := (B1.out.cell 1).trans rfl
  have c2 := (B1.out.cell 2).trans rfl
  have c3 := (B1.out.cell 3).trans rfl
  have c4 := (B1.out.cell 4).trans rfl
  have c5 := (B1.out.cell 5).trans rfl
  go_wp2_with fail
  refine (HA.out _ HB.out).mono ?_
  rintro e w3 ⟨rfl, hb⟩
  clear HA c0 c1 c2 c3 c4 c5
  replace B1 := hid ((B1.out.belowAll hb).alloc (.cells #[.int .i64 x0, .int .i64 x1, .bool x2] 48))
  have BS := hid (BoxAt.new w3 48 #[.int .i64 x0, .int .i64 x1, .bool x2])
  replace HB := hid ((HB.out.trans (hb.mono HB.out.size)).alloc (HB.out.trans (hb.mono HB.out.size)).size (.cells #[.int .i64 x0, .int .i64 x1, .bool x2] 48))
  clear hb
  have c0 := (B1.out.cell 0).trans rfl
  go_wp2
  generalize t % fr = pl at *
  clear c0
  have hk6 := K6.out
  go_loopw [8, 9] (fun a b wc => ∃ (i : Nat) (mi : Int), i ≤ n3 ∧ b = .int .i64 i ∧ a = .int .i64 mi ∧ (mi = if 0 ≤ x0 ∧ x0 < (i : Int) then 1 else 0) ∧ BoxAt wc w.heap.size 27 #[.int .i64 fr, .int .i64 sw, .slice a1 n1 k1, .slice a2 n2 k2, .slice a3 n3 k3, .slice a4 n4 k4] ∧ BoxAt wc w3.heap.size 48 #[.int .i64 x0, .int .i64 x1, .bool x2] ∧ Below w.heap.size w wc) (fun _ b _ => n3 - (intOf b).toNat)
  case atStart => exact ⟨0, 0, by omega, rfl, rfl, by rw [if_neg (by omega)], B1.out, BS.out, HB.out⟩
  case round =>
    clear B1 BS HB
    obtain ⟨i, mi, hi, rfl, rfl, hmi, b1, bs, hbel⟩ := hrel
    have B1 := hid b1
    have BS := hid bs
    have HB := hid hbel
    have HMI := hid hmi
    have hm01 : 0 ≤ mi ∧ mi ≤ 1 := by rw [hmi]; split <;> omega
    have c4 := (b1.cell 4).trans rfl
    have s0 := (bs.cell 0).trans rfl
    have s1 := (bs.cell 1).trans rfl
    have s2 := (bs.cell 2).trans rfl
    have hsz := bs.lt
    have hsz1 := b1.lt
    clear b1 bs hbel hmi
    by_cases hlt : i < n3
    · have hll : i < l.length := by have := hwl.out; omega
      obtain ⟨b, off, rfl, hbw, hcell⟩ := HWI.out (by omega)
      have v0 := (HB.out.cell (by exact hbw)).trans (hcell i hll 0 (by decide))
      have v1 := (HB.out.cell (by exact hbw)).trans (hcell i hll 1 (by decide))
      have v2 := (HB.out.cell (by exact hbw)).trans (hcell i hll 2 (by decide))
      have hr := K3.out _ (getD_mem (d := Wn.zero) hll)
      have hk1 := K1.out i hll
      have hk2 := K2.out i hll
      have sw1 := (B1.out.cell 1).trans rfl
      clear hcell HWI K1 K2 K3 K4 K5 K6 hk6 hll
      generalize l.getD i Wn.zero = r at *
      obtain ⟨y0, y1, y2⟩ := r
      simp only [Wn.cells, List.getD_cons_zero, List.getD_cons_succ, Nat.add_zero] at v0 v1 v2
      simp only [holdsW] at hk1 hk2
      simp only at hr
      obtain ⟨hr1, hr2, hr3, _, _⟩ := hr
      by_cases hh : y1 ≤ pl ∧ pl < y1 + y2
      · obtain ⟨ha, hb'⟩ := hh
        have hX := hk2 ⟨ha, hb'⟩
        simp only [Slt.mk.injEq] at hX
        obtain ⟨e0, e1, e2⟩ := hX
        have t0 : (x0 != (i : Int)) = false := by simp [e0]
        have t1 : (x1 != pl - y1) = false := by simp [e1]
        have HN := hid (show mi + 1 = if 0 ≤ x0 ∧ x0 < ((i + 1 : Nat) : Int) then 1 else 0 by
          rw [HMI.out, if_neg (by omega), if_pos (by omega)]; rfl)
        clear hk1 hk2 e0 e1 HMI
        by_cases h4 : y1 + sw ≤ pl
        · obtain rfl : x2 = true := by rw [e2]; exact decide_eq_true (by omega)
          clear e2
          go_wp2
          go_roundw
          case rel => exact ⟨i + 1, mi + 1, by omega, by go_num, by go_num, HN.out, B1.out.alloc _, BS.out.alloc _, HB.out.alloc HB.out.size _⟩
          case measure => simp [intOf]; omega
        · obtain rfl : x2 = false := by rw [e2]; exact decide_eq_false (by omega)
          clear e2
          go_wp2
          go_roundw
          case rel => exact ⟨i + 1, mi + 1, by omega, by go_num, by go_num, HN.out, B1.out.alloc _, BS.out.alloc _, HB.out.alloc HB.out.size _⟩
          case measure => simp [intOf]; omega
      · have hne : x0 ≠ i := fun e => hh (hk1.2 e)
        have HN := hid (show mi = if 0 ≤ x0 ∧ x0 < ((i + 1 : Nat) : Int) then 1 else 0 by
          rw [HMI.out]
          by_cases h5 : 0 ≤ x0 ∧ x0 < (i : Int)
          · rw [if_pos h5, if_pos (by omega)]
          · rw [if_neg h5, if_neg (by omega)])
        clear hk1 hk2 hne HMI
        by_cases ha : y1 ≤ pl
        · have hb' : ¬ pl < y1 + y2 := fun h => hh ⟨ha, h⟩
          clear hh
          go_wp2
          go_roundw
          case rel => exact ⟨i + 1, mi, by omega, by go_num, by go_num, HN.out, B1.out.alloc _, BS.out.alloc _, HB.out.alloc HB.out.size _⟩
          case measure => simp [intOf]; omega
        · clear hh
          go_wp2
          go_roundw
          case rel => exact ⟨i + 1, mi, by omega, by go_num, by go_num, HN.out, B1.out.alloc _, BS.out.alloc _, HB.out.alloc HB.out.size _⟩
          case measure => simp [intOf]; omega
    · have hl := hwl.out
      have hk4 := K4.out
      have hk5 := K5.out
      have hmi := HMI.out
      by_cases h0 : 0 ≤ x0
      · obtain rfl : mi = 1 := by rw [hmi, if_pos (by omega)]
        clear hl hk4 hk5 hmi HMI K1 K2 K3 K4 K5 K6 HWI hwl
        go_wp2
        go_ret
        exact ⟨rfl, HB.out⟩
      · obtain rfl : mi = 0 := by rw [hmi, if_neg (by omega)]
        obtain rfl : x2 = false := by
          have := hk5 (by omega)
          simp only [Slt.no, Slt.mk.injEq] at this
          exact this.2.2
        clear hl hk4 hk5 hmi HMI K1 K2 K3 K4 K5 K6 HWI hwl
        go_wp2
        go_ret
        exact ⟨rfl, HB.out⟩
end Go.Proofs.Ytnliodjappkdeaa
