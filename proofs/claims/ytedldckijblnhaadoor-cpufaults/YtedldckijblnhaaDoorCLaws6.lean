/-
  CpuFaults returns true, whatever it is given, and nothing that was there is written.
-/
import Derived.Test.YtedldckijblnhaaDoorCLaws1
import Derived.Test.YtedldckijblnhaaDoorCMath
namespace Go.Proofs.YtedldckijblnhaaDoor
open Go.RowKit
set_option linter.unusedVariables false

set_option maxRecDepth 100000 in
set_option maxHeartbeats 3200000 in
theorem walk_CpuFaults (w : World) (hL : Laid w) (vc : Value) (code : List In) (s0 : SeesI w vc code) (f0 : ∀ r ∈ code, r.fit) (c : Co) (f1 : c.fit) (vm : Value) (m : List Int) (s2 : Sees w .i64 vm m) (f2 : ∀ n ∈ m, (Lit.int .i64 n).wf = true)
    (vl : Value) (l : List Rg) (s3 : SeesR w vl l) (f3 : ∀ r ∈ l, r.fit) (now : Int) (w4 : (Lit.int .i64 now).wf = true) :
    Calls Tryd.prog 5 #[vc, c.val, vm, vl, .int .i64 now] w fun e w' => e = .returned (.bool true) ∧ Below w.heap.size w w' := by
  obtain ⟨⟨⟨p1, x0, x1, x2, x3⟩, m1, ⟨of, oc, oh, orr, ov⟩⟩, hR⟩ : ∃ R, stepS code c m l now = R := ⟨_, rfl⟩
  have hff := faults_facts code c m l now _ hR
  obtain ⟨p, r0, r1, r2, r3⟩ := c
  simp only at hff
  obtain ⟨hlen, hf0, hf7, hdiff, hch1, hcase⟩ := hff
  have hb0 := alloc_belowI w (.cells #[.int .i64 p, .int .i64 r0, .int .i64 r1, .int .i64 r2, .int .i64 r3] 25)
  have H1 : m.length ≤ 200 → ∀ w2, Below w.heap.size w w2 → Calls Tryd.prog 12 #[vc, .agg #[.int .i64 p, .int .i64 r0, .int .i64 r1, .int .i64 r2, .int .i64 r3], vm, vl, .int .i64 now] w2 fun e w' => ∃ u, e = .returned (.tuple #[.agg #[.int .i64 p1, .int .i64 x0, .int .i64 x1, .int .i64 x2, .int .i64 x3], u, .agg #[.int .i64 of, .int .i64 oc, .bool oh, .bool orr, .int .i64 ov]]) ∧ Sees w' .i64 u m1 ∧ Below w2.heap.size w2 w' := fun hm w2 h => by
    have := step_any vc vm vl code ⟨p, r0, r1, r2, r3⟩ m l now w2 (hL.below h) (s0.below h) (s2.below h) (s3.below h) f1 f3 (by omega)
    rw [hR] at this
    exact this
  have HA := hid (fun w2 h => cawake_any w2 (hL.below (w' := w2) h))
  have HS2 := hid s2
  have HS3 := hid s3
  have HF3 := hid f3
  obtain ⟨ac, cc, rfl, y1, y2, y3⟩ := s0.form
  obtain ⟨am, cm, rfl, z1, z2, z3⟩ := s2.form
  obtain ⟨al, cl, rfl, z4, z5, z6⟩ := s3.form
  have HZ3 := hid z3
  have HB0 := hid hb0
  have HH1 := hid H1
  have HDIFF := hid hdiff
  have HCH := hid hch1
  have HCASE := hid hcase
  have HLEN := hid hlen
  have F0 := five_new w (.int .i64 p) (.int .i64 r0) (.int .i64 r1) (.int .i64 r2) (.int .i64 r3) 25
  have HF0 := hid F0
  clear H1 hR hL s0 s2 s3 f0 f1 f2 f3 w4 hb0 F0 hdiff hch1 hcase y1 y2 y3 z1 z2 z3 z4 z5 z6 hlen
  rw [show Co.val ⟨p, r0, r1, r2, r3⟩ = .agg #[.int .i64 p, .int .i64 r0, .int .i64 r1, .int .i64 r2, .int .i64 r3] from rfl]
  obtain ⟨nc, hnc⟩ : ∃ n, code.length = n := ⟨_, rfl⟩
  obtain ⟨nm, hnm⟩ : ∃ n, m.length = n := ⟨_, rfl⟩
  obtain ⟨nl, hnl⟩ : ∃ n, l.length = n := ⟨_, rfl⟩
  rw [hnc, hnm, hnl]
  rw [hnm] at HS2 HZ3 HDIFF HCH HCASE HLEN
  rw [hnm, hnl, hnc] at HH1
  rw [hnl] at HS3
  have HNM := hid hnm
  clear hnc hnm hnl
  go_enter Tryd.func5, Tryd.ntmps5
  go_wp2_with fail
  refine (HA.out _ HB0.out).mono ?_
  rintro e w1 ⟨rfl, hb1⟩
  have HBW1 := hid (HB0.out.trans (hb1.mono HB0.out.size))
  have HF1 := hid (HF0.out.below hb1 HF0.out.1)
  clear hb1
  by_cases hg : nc ≤ 200 ∧ nm ≤ 200 ∧ nl ≤ 20
  · obtain ⟨g1, g2, g3⟩ := hg
    obtain ⟨_, _, a0, a1, a2, a3, a4⟩ := HF1.out
    go_wp2_with fail
    refine (HH1.out g2 _ HBW1.out).mono ?_
    rintro e w3 ⟨u1, rfl, hs1, hb3⟩
    have hbw3 := HBW1.out.trans (hb3.mono HBW1.out.size)
    obtain ⟨GA, hGA⟩ : ∃ g, w3.heap.size = g := ⟨_, rfl⟩
    obtain ⟨GO, hGO⟩ : ∃ g, w3.heap.size + 1 = g := ⟨_, rfl⟩
    have FA := (five_new w3 (.int .i64 p1) (.int .i64 x0) (.int .i64 x1) (.int .i64 x2) (.int .i64 x3) 25).alloc (o := .cells #[.int .i64 of, .int .i64 oc, .bool oh, .bool orr, .int .i64 ov] 31)
    have FO := five_new (w3.alloc (.cells #[.int .i64 p1, .int .i64 x0, .int .i64 x1, .int .i64 x2, .int .i64 x3] 25)) (.int .i64 of) (.int .i64 oc) (.bool oh) (.bool orr) (.int .i64 ov) 31
    rw [show (w3.alloc (.cells #[.int .i64 p1, .int .i64 x0, .int .i64 x1, .int .i64 x2, .int .i64 x3] 25)).heap.size = w3.heap.size + 1 by simp, hGO] at FO
    rw [hGA] at FA
    have FC := ((HF1.out.below hb3 HF1.out.1).alloc (o := .cells #[.int .i64 p1, .int .i64 x0, .int .i64 x1, .int .i64 x2, .int .i64 x3] 25)).alloc (o := .cells #[.int .i64 of, .int .i64 oc, .bool oh, .bool orr, .int .i64 ov] 31)
    obtain ⟨W, hW⟩ : ∃ W, (w3.alloc (.cells #[.int .i64 p1, .int .i64 x0, .int .i64 x1, .int .i64 x2, .int .i64 x3] 25)).alloc (.cells #[.int .i64 of, .int .i64 oc, .bool oh, .bool orr, .int .i64 ov] 31) = W := ⟨_, rfl⟩
    rw [hW] at FA FO FC
    have hb33 : Below w3.heap.size w3 W := by rw [← hW]; exact (alloc_belowI w3 (.cells #[.int .i64 p1, .int .i64 x0, .int .i64 x1, .int .i64 x2, .int .i64 x3] 25)).alloc (by simp) _
    have hsu := hs1.below hb33
    have HBW := hid (hbw3.trans (hb33.mono hbw3.size))
    obtain ⟨ua, uc, rfl, z1, z2, hcu⟩ := hsu.form
    rw [HLEN.out]
    rw [HLEN.out] at hcu
    have HCU := hid hcu
    have HFA := hid FA
    have HFO := hid FO
    have HFC := hid FC
    have HW := hid hW
    have HGA := hid hGA
    have HGO := hid hGO
    clear hb3 hbw3 hb33 hs1 hsu hcu FA FO FC hW hGA hGO z1 z2 a0 a1 a2 a3 a4 g1 g3
    go_wp2_with fail
    rw [HW.out, HGO.out, HGA.out]
    go_loopw [15, 16] (fun ch at' wr => ∃ j : Nat, j ≤ nm ∧ at' = Value.int .i64 (j : Int) ∧ ch = Value.int .i64 (chg m1 m j : Int) ∧ Below W.heap.size W wr) (fun _ at' _ => nm - (intOf at').toNat)
    case atStart => exact ⟨0, by omega, rfl, rfl, Below.refl _ _⟩
    case round =>
      obtain ⟨j, hj, rfl, rfl, hbr⟩ := hrel
      have hcj := chg_le m1 m j
      by_cases hlt : j < nm
      · obtain ⟨bm, om, rfl, hbm, hcm⟩ := HZ3.out (by omega)
        obtain ⟨bu, ou, rfl, hbu, hcu⟩ := HCU.out (by omega)
        have k1 := (hbr.cell (by exact hbu)).trans (hcu j hlt)
        have hmW := HBW.out.size
        have k2 := (hbr.cell (by show bm < W.heap.size; omega)).trans ((HBW.out.cell (by exact hbm)).trans (hcm j hlt))
        have HST := hid (fun w5 h h2 => store_any (.slice (some ⟨bm, om, none⟩) nm cm) (.slice al nl cl) m l j 0 w5 (HS2.out.below h) (HS3.out.below h) HF3.out ⟨by omega, by omega⟩ h2)
        have HNX := hid (show chg m1 m (j + 1) = chg m1 m j + if m1.getD j 0 = m.getD j 0 then 0 else 1 from rfl)
        have HDJ := hid (HDIFF.out j hlt)
        have HBR := hid hbr
        clear hcm hcu hbr hmW hbm hbu
        obtain ⟨ch, hch⟩ : ∃ n, chg m1 m j = n := ⟨_, rfl⟩
        rw [hch] at HNX hcj
        rw [hch]
        clear hch
        generalize m1.getD j 0 = mx at *
        generalize m.getD j 0 = my at *
        by_cases hxy : mx = my
        · subst hxy
          go_wp2_with fail
          go_quiet (fail)
          go_wp2
          go_roundw
          case rel => exact ⟨j + 1, by omega, by go_num, by rw [HNX.out]; simp, below_drewN HBR.out nq⟩
          case measure => simp [intOf]; omega
        · have hxb : (mx != my) = true := by simpa using hxy
          go_wp2_with fail
          go_quiet (fail)
          go_wp2_with fail
          refine (HST.out _ (HBW.out.trans ((below_drewN HBR.out nq).mono HBW.out.size)) (by have := HNM.out; omega)).mono ?_
          rintro e w6 ⟨u2, rfl, _, hb6⟩
          rw [HNM.out, HDJ.out hxy]
          have HB6 := hid ((below_drewN HBR.out nq).trans (hb6.mono (below_drewN HBR.out nq).size))
          clear hb6
          go_wp2
          go_roundw
          case rel => exact ⟨j + 1, by omega, by go_num, by rw [HNX.out, if_neg hxy]; go_num, HB6.out⟩
          case measure => simp [intOf]; omega
      · obtain rfl : j = nm := by omega
        obtain ⟨_, _, a0, a1, a2, a3, a4⟩ := HFC.out.below hbr HFC.out.1
        obtain ⟨_, _, b0, b1, b2, b3, b4⟩ := HFA.out.below hbr HFA.out.1
        obtain ⟨_, _, c0, c1, c2, c3, c4⟩ := HFO.out.below hbr HFO.out.1
        have HBE := hid (HBW.out.trans (hbr.mono HBW.out.size))
        have hch := HCH.out
        have hcs := HCASE.out
        clear hbr HCH HCASE hcj HDIFF
        generalize chg m1 m j = ch at *
        rcases hcs with ⟨hfn, hcore, hc0, hou⟩ | ⟨hfz, hh, hcore, hc0⟩ | ⟨hfz, hh⟩
        · simp only [Co.mk.injEq] at hcore
          obtain ⟨rfl, rfl, rfl, rfl, rfl⟩ := hcore
          simp only [faultO, Ou.mk.injEq] at hou
          obtain ⟨_, rfl, rfl, rfl, rfl⟩ := hou
          subst hc0
          have hfb : (of != 0) = true := by simpa using hfn
          have heq := fun w => arr_self w x0 x1 x2 x3
          go_wp2
          go_ret
          exact ⟨rfl, HBE.out⟩
        · simp only [Co.mk.injEq] at hcore
          obtain ⟨rfl, rfl, rfl, rfl, rfl⟩ := hcore
          subst hfz hh hc0
          have heq := fun w => arr_self w x0 x1 x2 x3
          go_wp2
          go_ret
          exact ⟨rfl, HBE.out⟩
        · subst hfz hh
          have hch' : (ch : Int) ≤ 1 := by omega
          go_wp2
          go_ret
          exact ⟨rfl, HBE.out⟩
  · have hc3 : 200 < nc ∨ (¬ (200 < nc) ∧ 200 < nm) ∨ (¬ (200 < nc) ∧ ¬ (200 < nm) ∧ 20 < nl) := by omega
    rcases hc3 with h | ⟨h, h'⟩ | ⟨h, h', h''⟩
    all_goals
      go_wp2
      go_ret
      exact ⟨rfl, HBW1.out⟩
end Go.Proofs.YtedldckijblnhaaDoor
