/-
  FrameFirst: the walk.
-/
import Derived.Test.YtnliodjappkdeaaFMath
import Derived.Test.YtnliodjappkdeaaFLaws1
namespace Go.Proofs.Ytnliodjappkdeaa
open Go.RowKit
set_option linter.unusedVariables false

theorem first_facts {fr sw : Int} {np : Nat} {l : List Wn} {p t r : Int} (hfi : Fine fr sw np l) (ht : 0 ≤ t) (ht2 : t ≤ 1099511627776) (h : FirstIs fr sw l p t r) (hex : ∃ i, i < l.length ∧ (l.getD i Wn.zero).p = p) :
    ∃ k0 i0 : Nat, r = t + k0 ∧ (k0 : Int) < fr ∧ startS fr sw l r = i0 ∧ i0 < l.length ∧ (l.getD i0 Wn.zero).p = p ∧ ∀ j : Nat, j < k0 → begB fr sw l p (t + j) = false := by
  obtain ⟨i, hi, hip⟩ := hex
  obtain ⟨k, hk, hb⟩ := hfi.begins t ht i hi
  rw [hip] at hb
  have h1 := hfi.fr1
  have h2 := hfi.fr2
  obtain ⟨m, hm1, hm2, hm3⟩ := least_of (fun n => begB fr sw l p (t + n)) fr.toNat k (by omega) hb
  have hmax : max t 0 = t := by omega
  have hr := first_hit h m (by omega) h2 (by omega) (by rw [hmax]; exact hm2) (by rw [hmax]; exact hm3)
  rw [hmax] at hr
  subst hr
  have hb2 : ofB l (startS fr sw l (t + m)) p = true := hm2
  unfold ofB at hb2
  simp only [Bool.and_eq_true, decide_eq_true_eq] at hb2
  rcases startS_wi fr sw l (t + m) with h3 | h3
  · exact absurd h3 hb2.1
  · exact ⟨m, (startS fr sw l (t + m)).toNat, rfl, by omega, by omega, by omega, hb2.2, hm3⟩
theorem beg_out {fr sw : Int} {l : List Wn} {p t : Int} (h : begB fr sw l p t = false) : startS fr sw l t = -1 ∨ ∃ i : Nat, startS fr sw l t = i ∧ i < l.length ∧ (l.getD i Wn.zero).p ≠ p := by
  rcases startS_wi fr sw l t with h1 | h1
  · exact .inl h1
  · refine .inr ⟨(startS fr sw l t).toNat, by omega, by omega, fun hp => ?_⟩
    unfold begB ofB at h
    simp only [Bool.and_eq_false_iff, decide_eq_false_iff_not] at h
    rcases h with h | h
    · exact h (by omega)
    · exact h hp

set_option maxRecDepth 100000 in
set_option maxHeartbeats 3200000 in
theorem walk_FrameFirst (w : World) (x : CfX) (hx : x.fit w) (p : Int) (hp : (Lit.int .i64 p).wf = true) (t : Int) (ht : (Lit.int .i64 t).wf = true) :
    Calls Try.prog 10 #[x.val, .int .i64 p, .int .i64 t] w fun e w' => e = .returned (.bool true) ∧ Below w.heap.size w w' := by
  obtain ⟨⟨fr, sw, ⟨a1, n1, k1⟩, ⟨a2, n2, k2⟩, ⟨a3, n3, k3⟩, ⟨a4, n4, k4⟩⟩, c⟩ := x
  obtain ⟨hS, hft, hw⟩ := hx
  simp only at hS hft hw
  obtain ⟨ht1, ht2⟩ := bounds_i64 ht
  clear ht
  have hfr : fr = c.fr := hS.fr
  have hsw : sw = c.sw := hS.sw
  have hwi : SeesWn w (.slice a3 n3 k3) c.wi := hS.wi
  obtain ⟨hw1, hw2, hw3⟩ := hw
  rw [← hfr] at hw1
  simp only [wide1] at hw1
  have hn3b : n3 ≤ 9223372036854775807 := by
    obtain ⟨_, _, hv, hl1, hl2, _⟩ := hwi.form
    simp only [Value.slice.injEq] at hv
    unfold maxLen at hl2
    omega
  have hfit : ∀ x ∈ c.wi, x.fit := fun v hv => (hw3 v hv).2.1.2
  rw [← hsw] at hw2
  simp only [wide1] at hw2
  have HM := hid (fun W (hW : Below w.heap.size w W) => tmay_any ⟨fr, sw, ⟨a1, n1, k1⟩, ⟨a2, n2, k2⟩, ⟨a3, n3, k3⟩, ⟨a4, n4, k4⟩⟩ c W (hS.below hW) hft)
  unfold Cv.val at HM
  simp only at HM
  have HFine := hid (show mayC c = true → Fine fr sw c.pa.length c.wi ∧ c.pa.length ≤ 4 by rw [hfr, hsw]; exact Fine.of)
  have hpl := hid (show n2 = c.pa.length by
    obtain ⟨qs, h1, h2, _⟩ := hS.pa
    obtain ⟨_, _, hv, _⟩ := h1.form
    simp only [Sl.val, Value.slice.injEq] at hv
    omega)
  have hwl := hid (show n3 = c.wi.length by
    obtain ⟨_, _, hv, _⟩ := hwi.form
    simp only [Value.slice.injEq] at hv
    exact hv.2.1)
  clear hp
  have HF := hid (fun W (hW : Below w.heap.size w W) => first_any ⟨fr, sw, ⟨a1, n1, k1⟩, ⟨a2, n2, k2⟩, ⟨a3, n3, k3⟩, ⟨a4, n4, k4⟩⟩ c.wi p t W (hwi.below hW) ⟨ht1, ht2⟩ hw1 hfit)
  have HT := hid (fun T (hT : fitI T) W (hW : Below w.heap.size w W) => starts_any ⟨fr, sw, ⟨a1, n1, k1⟩, ⟨a2, n2, k2⟩, ⟨a3, n3, k3⟩, ⟨a4, n4, k4⟩⟩ c.wi T W (hwi.below hW) hT hw1 hfit)
  unfold Cv.val at HF HT
  simp only at HF HT
  have HWI := hid (show 0 < c.wi.length → ∃ b off, a3 = some ⟨b, off, none⟩ ∧ b < w.heap.size ∧ ∀ i, i < c.wi.length → ∀ j, j < 3 → w.cell? ⟨b, off + i * 3 + j, none⟩ = some ((c.wi.getD i Wn.zero).cells.getD j .nilIface) by
    obtain ⟨al, cl, hvl, _, _, hlc⟩ := hwi.form
    simp only [Value.slice.injEq] at hvl
    obtain ⟨rfl, _, _⟩ := hvl
    exact hlc)
  clear hS hft hw3 hfit hfr hsw hwi hpl
  unfold CfX.val Cv.val
  go_enter Try.func10, Try.ntmps10
  go_wp2_with fail
  refine (fawake_any _).mono ?_
  rintro e w1 ⟨rfl, hb⟩
  have B1 := hid (show BoxAt w1 w.heap.size 27 #[.int .i64 fr, .int .i64 sw, .slice a1 n1 k1, .slice a2 n2 k2, .slice a3 n3 k3, .slice a4 n4 k4] from (BoxAt.new w _ _).belowAll hb)
  have hB : Below w.heap.size w w1 := ((Below.refl _ _).alloc (Nat.le_refl _) _).trans (hb.mono (by simp))
  have HB := hid hB
  clear hb hB
  have c0 := (B1.out.cell 0).trans rfl
  have c1 := (B1.out.cell 1).trans rfl
  have c2 := (B1.out.cell 2).trans rfl
  have c3 := (B1.out.cell 3).trans rfl
  have c4 := (B1.out.cell 4).trans rfl
  have c5 := (B1.out.cell 5).trans rfl
  go_wp2_with fail
  refine (HM.out _ HB.out).mono ?_
  rintro e w2 ⟨rfl, hb⟩
  clear HM c0 c1 c2 c3 c4 c5
  replace B1 := hid (B1.out.belowAll hb)
  replace HB := hid (HB.out.trans (hb.mono HB.out.size))
  clear hb
  rcases hmay : mayC c
  · clear HF HT HWI HFine B1
    go_wp2
    go_ret
    exact ⟨rfl, HB.out⟩
  have hfine := HFine.out hmay
  clear HFine
  by_cases g1 : t < 0
  · clear HF HT HWI B1 hfine
    go_wp2
    go_ret
    exact ⟨rfl, HB.out⟩
  by_cases g2 : 1099511627776 < t
  · clear HF HT HWI B1 hfine
    go_wp2
    go_ret
    exact ⟨rfl, HB.out⟩
  obtain ⟨hfi, _⟩ := hfine
  have f1 := hfi.fr1
  have f2 := hfi.fr2
  have K := hid hfi
  have hk6 := hfi.len
  rw [← hwl.out] at hk6
  clear hfi hmay
  generalize c.wi = l at *
  go_wp2
  go_loopw [8, 9] (fun a b wc => ∃ (i : Nat) (s : Bool), i ≤ n3 ∧ b = .int .i64 i ∧ a = .bool s ∧ (s = true ↔ ∃ j, j < i ∧ (l.getD j Wn.zero).p = p) ∧ BoxAt wc w.heap.size 27 #[.int .i64 fr, .int .i64 sw, .slice a1 n1 k1, .slice a2 n2 k2, .slice a3 n3 k3, .slice a4 n4 k4] ∧ Below w.heap.size w wc) (fun _ b _ => n3 - (intOf b).toNat)
  case atStart => exact ⟨0, false, by omega, rfl, rfl, by simp, B1.out, HB.out⟩
  case round =>
    clear B1 HB
    obtain ⟨i, s, hi, rfl, rfl, hs, b1, hbel⟩ := hrel
    have B1 := hid b1
    have HB := hid hbel
    have HSM := hid hs
    clear hs hbel
    have c0 := (b1.cell 0).trans rfl
    have c1 := (b1.cell 1).trans rfl
    have c2 := (b1.cell 2).trans rfl
    have c3 := (b1.cell 3).trans rfl
    have c4 := (b1.cell 4).trans rfl
    have c5 := (b1.cell 5).trans rfl
    clear b1
    by_cases hlt : i < n3
    · have hll : i < l.length := by have := hwl.out; omega
      cases s
      · obtain ⟨b, off, rfl, hbw, hcell⟩ := HWI.out (by omega)
        have v0 := (HB.out.cell (by exact hbw)).trans (hcell i hll 0 (by decide))
        have HN := hid (show ∀ z : Bool, (z = true ↔ (l.getD i Wn.zero).p = p) → (z = true ↔ ∃ j, j < i + 1 ∧ (l.getD j Wn.zero).p = p) by
          intro z hz
          rw [hz]
          constructor
          · intro h; exact ⟨i, by omega, h⟩
          · rintro ⟨j, hj, h⟩
            by_cases hji : j = i
            · subst hji; exact h
            · exact absurd (HSM.out.2 ⟨j, by omega, h⟩) (by simp))
        clear hcell HWI HF HT K HSM hll
        generalize l.getD i Wn.zero = r at *
        obtain ⟨y0, y1, y2⟩ := r
        simp only [Wn.cells, List.getD_cons_zero, Nat.add_zero] at v0
        simp only at HN
        by_cases hy : y0 = p
        · have hyb : (y0 == p) = true := by simpa using hy
          have HN2 := hid (HN.out true (by simp [hy]))
          clear HN hy
          go_wp2
          go_roundw
          case rel => exact ⟨i + 1, true, by omega, by go_num, rfl, HN2.out, B1.out, HB.out⟩
          case measure => simp [intOf]; omega
        · have hyb : (y0 == p) = false := by simpa using hy
          have HN2 := hid (HN.out false (by simp [hy]))
          clear HN hy
          go_wp2
          go_roundw
          case rel => exact ⟨i + 1, false, by omega, by go_num, rfl, HN2.out, B1.out, HB.out⟩
          case measure => simp [intOf]; omega
      · have HN2 := hid (show true = true ↔ ∃ j, j < i + 1 ∧ (l.getD j Wn.zero).p = p from ⟨fun _ => by obtain ⟨j, hj, h⟩ := HSM.out.1 rfl; exact ⟨j, by omega, h⟩, fun _ => rfl⟩)
        clear HWI HF HT K HSM hll
        go_wp2
        go_roundw
        case rel => exact ⟨i + 1, true, by omega, by go_num, rfl, HN2.out, B1.out, HB.out⟩
        case measure => simp [intOf]; omega
    · obtain rfl : n3 = i := by omega
      go_wp2_with fail
      refine (HF.out _ HB.out).mono ?_
      rintro e w3 ⟨⟨r, rfl, hr⟩, hb⟩
      clear c0 c1 c2 c3 c4 c5 HF
      replace B1 := hid (B1.out.belowAll hb)
      replace HB := hid (HB.out.trans (hb.mono HB.out.size))
      clear hb
      have hnl := hwl.out
      cases s
      · obtain rfl : r = -1 := first_none hr (fun j hj => begB_no (fun v hv hvp => by
          obtain ⟨k, hk, rfl⟩ := mem_getD (d := Wn.zero) hv
          have := HSM.out.2 ⟨k, by omega, hvp⟩
          simp at this))
        clear hr HSM HWI HT K hnl
        go_wp2
        go_ret
        exact ⟨rfl, HB.out⟩
      · obtain ⟨k0, i0, rfl, hk0, hst, hi0, hip, hbe⟩ := first_facts K.out (by omega) (by omega) hr (by obtain ⟨j, hj, h⟩ := HSM.out.1 rfl; exact ⟨j, by omega, h⟩)
        have HT1 := hid (HT.out (t + k0) (by simp only [fitI]; omega))
        have HTk := hid (fun j : Nat => fun hj : j < k0 => HT.out (t + j) (by simp only [fitI]; omega))
        have HBE := hid (fun j hj => beg_out (hbe j hj))
        rw [hst] at HT1
        have hi03 : i0 < n3 := by omega
        have HV := hid (show ∃ b off, a3 = some ⟨b, off, none⟩ ∧ b < w.heap.size ∧ ∀ i, i < l.length → w.cell? ⟨b, off + i * 3, none⟩ = some (.int .i64 (l.getD i Wn.zero).p) by
          obtain ⟨b, off, h1, h2, h3⟩ := HWI.out (by omega)
          exact ⟨b, off, h1, h2, fun i hi => h3 i hi 0 (by decide)⟩)
        obtain ⟨b, off, rfl, hbw, hcell⟩ := HV.out
        have HC := hid hcell
        clear HV HWI hr HSM HT K hbe hst hcell hnl
        have c0 := (B1.out.cell 0).trans rfl
        have c1 := (B1.out.cell 1).trans rfl
        have c2 := (B1.out.cell 2).trans rfl
        have c3 := (B1.out.cell 3).trans rfl
        have c4 := (B1.out.cell 4).trans rfl
        have c5 := (B1.out.cell 5).trans rfl
        go_wp2_with fail
        refine (HT1.out _ HB.out).mono ?_
        rintro e w4 ⟨rfl, hb⟩
        clear c0 c1 c2 c3 c4 c5 HT1
        replace B1 := hid (B1.out.belowAll hb)
        replace HB := hid (HB.out.trans (hb.mono HB.out.size))
        clear hb
        have v0 := (HB.out.cell (by exact hbw)).trans (HC.out i0 hi0)
        rw [hip] at v0
        have c4 := (B1.out.cell 4).trans rfl
        have hpp : (p != p) = false := by simp
        clear hip
        go_wp2
        go_loopw [12, 13] (fun a _ wc => ∃ j : Nat, j ≤ k0 ∧ a = .int .i64 (t + j) ∧ BoxAt wc w.heap.size 27 #[.int .i64 fr, .int .i64 sw, .slice a1 n1 k1, .slice a2 n2 k2, .slice (some ⟨b, off, none⟩) n3 k3, .slice a4 n4 k4] ∧ Below w.heap.size w wc) (fun a _ _ => (t + k0 - intOf a).toNat)
        case atStart => exact ⟨0, by omega, by simp, B1.out, HB.out⟩
        case round =>
          rename 0 ≤ (i0 : Int) ∧ ¬ n3 ≤ i0 => hxx
          clear B1 HB c4 v0 hxx hi03
          obtain ⟨j, hj, rfl, b1, hbel⟩ := hrel
          have B1 := hid b1
          have HB := hid hbel
          clear hbel
          have c0 := (b1.cell 0).trans rfl
          have c1 := (b1.cell 1).trans rfl
          have c2 := (b1.cell 2).trans rfl
          have c3 := (b1.cell 3).trans rfl
          have c4 := (b1.cell 4).trans rfl
          have c5 := (b1.cell 5).trans rfl
          clear b1
          by_cases hlt2 : j < k0
          · have HTj := hid (HTk.out j hlt2)
            have hbo := HBE.out j hlt2
            generalize startS fr sw l (t + j) = st at *
            have HBO := hid hbo
            clear hbo HTk HBE
            go_wp2_with fail
            refine (HTj.out _ HB.out).mono ?_
            rintro e w5 ⟨rfl, hb⟩
            clear c0 c1 c2 c3 c4 c5 HTj
            replace B1 := hid (B1.out.belowAll hb)
            replace HB := hid (HB.out.trans (hb.mono HB.out.size))
            clear hb
            rcases HBO.out with rfl | ⟨i1, rfl, hi1, hne⟩
            · clear HBO
              go_wp2
              go_roundw
              case rel => exact ⟨j + 1, by omega, by go_num, B1.out, HB.out⟩
              case measure => simp [intOf]; omega
            · have v1 := (HB.out.cell (by exact hbw)).trans (HC.out i1 hi1)
              have hi13 : i1 < n3 := by have := hwl.out; omega
              have c4 := (B1.out.cell 4).trans rfl
              have hpe : ((l.getD i1 Wn.zero).p == p) = false := by simpa using hne
              generalize (l.getD i1 Wn.zero).p = y at *
              clear HBO hne
              go_wp2
              go_roundw
              case rel => exact ⟨j + 1, by omega, by go_num, B1.out, HB.out⟩
              case measure => simp [intOf]; omega
          · obtain rfl : k0 = j := by omega
            clear HTk HBE
            go_wp2
            go_ret
            exact ⟨rfl, HB.out⟩
end Go.Proofs.Ytnliodjappkdeaa
