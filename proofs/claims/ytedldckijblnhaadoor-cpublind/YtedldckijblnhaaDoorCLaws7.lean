/-
  CpuBlind returns true, whatever it is given, and nothing that was there is written.
-/
import Derived.Test.YtedldckijblnhaaDoorCLaws1
import Derived.Test.YtedldckijblnhaaDoorCMath2
namespace Go.Proofs.YtedldckijblnhaaDoor
open Go.RowKit
set_option linter.unusedVariables false

set_option maxRecDepth 100000 in
set_option maxHeartbeats 3200000 in
theorem blind_in (w : World) (hL : Laid w) (vc : Value) (code : List In) (s0 : SeesI w vc code) (c : Co) (f1 : c.fit) (vm : Value) (m : List Int) (s2 : Sees w .i64 vm m)
    (vl : Value) (l : List Rg) (s3 : SeesR w vl l) (f3 : ∀ r ∈ l, r.fit) (now : Int) (a : Nat) (value : Int) (g0 : code.length ≤ 200) (g1 : m.length ≤ 200) (g2 : l.length ≤ 20) (ha : a < m.length) :
    Calls Tryd.prog 6 #[vc, c.val, vm, vl, .int .i64 now, .int .i64 a, .int .i64 value] w fun e w' => e = .returned (.bool true) ∧ Below w.heap.size w w' := by
  obtain ⟨p, r0, r1, r2, r3⟩ := c
  have HA := hid (fun w2 h => cawake_any w2 (hL.below (w' := w2) h))
  have HLD := hid (fun w2 h => load_any vm vl m l a w2 (s2.below (w' := w2) h) (s3.below h) f3 ⟨by omega, by omega⟩)
  have hb0 := alloc_belowI w (.cells #[.int .i64 p, .int .i64 r0, .int .i64 r1, .int .i64 r2, .int .i64 r3] 25)
  have F0 := five_new w (.int .i64 p) (.int .i64 r0) (.int .i64 r1) (.int .i64 r2) (.int .i64 r3) 25
  have HB0 := hid hb0
  have HF0 := hid F0
  obtain ⟨tt, htt⟩ : ∃ t, touchE m.length l a false = t := ⟨_, rfl⟩
  obtain ⟨lv, hlv⟩ : ∃ t, loadV m l a = t := ⟨_, rfl⟩
  rw [htt, hlv] at HLD
  have HBL := hid (show ¬ tt = 0 → Blind m a value (stepS code ⟨p, r0, r1, r2, r3⟩ m l now) (stepS code ⟨p, r0, r1, r2, r3⟩ (m.set a value) l now) from fun h => blindS code _ m l now a value ha (by rw [htt]; exact h))
  obtain ⟨⟨⟨p1, x0, x1, x2, x3⟩, m1, ⟨of, oc, oh, orr, ov⟩⟩, hR⟩ : ∃ R, stepS code ⟨p, r0, r1, r2, r3⟩ m l now = R := ⟨_, rfl⟩
  obtain ⟨⟨c2, m2, o2⟩, hR2⟩ : ∃ R, stepS code ⟨p, r0, r1, r2, r3⟩ (m.set a value) l now = R := ⟨_, rfl⟩
  rw [hR, hR2] at HBL
  have H1 : ∀ w2 v, Below w.heap.size w w2 → Sees w2 .i64 v m → Calls Tryd.prog 12 #[vc, .agg #[.int .i64 p, .int .i64 r0, .int .i64 r1, .int .i64 r2, .int .i64 r3], v, vl, .int .i64 now] w2 fun e w' => ∃ u, e = .returned (.tuple #[.agg #[.int .i64 p1, .int .i64 x0, .int .i64 x1, .int .i64 x2, .int .i64 x3], u, .agg #[.int .i64 of, .int .i64 oc, .bool oh, .bool orr, .int .i64 ov]]) ∧ Sees w' .i64 u m1 ∧ Below w2.heap.size w2 w' := fun w2 v h hs => by
    have := step_any vc v vl code ⟨p, r0, r1, r2, r3⟩ m l now w2 (hL.below h) (s0.below h) hs (s3.below h) f1 f3 (by omega)
    rw [hR] at this
    exact this
  have H2 : ∀ w2 v, Below w.heap.size w w2 → Sees w2 .i64 v (m.set a value) → Calls Tryd.prog 12 #[vc, .agg #[.int .i64 p, .int .i64 r0, .int .i64 r1, .int .i64 r2, .int .i64 r3], v, vl, .int .i64 now] w2 fun e w' => ∃ u, e = .returned (.tuple #[c2.val, u, o2.val]) ∧ Sees w' .i64 u m2 ∧ Below w2.heap.size w2 w' := fun w2 v h hs => by
    have := step_any vc v vl code ⟨p, r0, r1, r2, r3⟩ (m.set a value) l now w2 (hL.below h) (s0.below h) hs (s3.below h) f1 f3 (by simp; omega)
    rw [hR2] at this
    exact this
  have HH1 := hid H1
  have HH2 := hid H2
  have HS2 := hid s2
  obtain ⟨ac, cc, rfl, y1, y2, y3⟩ := s0.form
  obtain ⟨am, cm, rfl, z1, z2, z3⟩ := s2.form
  obtain ⟨al, cl, rfl, z4, z5, z6⟩ := s3.form
  have HZ3 := hid z3
  clear H1 H2 hR hR2 hL s0 s2 s3 f1 f3 hb0 F0 y1 y2 y3 z1 z2 z3 z4 z5 z6 htt hlv
  rw [show Co.val ⟨p, r0, r1, r2, r3⟩ = .agg #[.int .i64 p, .int .i64 r0, .int .i64 r1, .int .i64 r2, .int .i64 r3] from rfl]
  obtain ⟨nc, hnc⟩ : ∃ n, code.length = n := ⟨_, rfl⟩
  obtain ⟨nm, hnm⟩ : ∃ n, m.length = n := ⟨_, rfl⟩
  obtain ⟨nl, hnl⟩ : ∃ n, l.length = n := ⟨_, rfl⟩
  rw [hnc, hnm, hnl]
  rw [hnm] at HS2 HZ3 ha g1
  rw [hnm, hnl] at HLD
  rw [hnl, hnc] at HH1 HH2
  rw [hnc] at g0
  rw [hnl] at g2
  have HNM := hid hnm
  clear hnc hnm hnl
  have hn0 : ¬ ((200 : Int) < (nc : Int)) := by omega
  have hn1 : ¬ ((200 : Int) < (nm : Int)) := by omega
  have hn2 : ¬ ((20 : Int) < (nl : Int)) := by omega
  have hn3 : ¬ ((a : Int) < 0) := by omega
  have hn4 : ¬ ((nm : Int) ≤ (a : Int)) := by omega
  have ha0 : (0 : Int) ≤ (a : Int) := by omega
  have ha1 : (a : Int) < (nm : Int) := by omega
  go_enter Tryd.func6, Tryd.ntmps6
  go_wp2_with fail
  refine (HA.out _ HB0.out).mono ?_
  rintro e w1 ⟨rfl, hb1⟩
  have HBW1 := hid (HB0.out.trans (hb1.mono HB0.out.size))
  have HF1 := hid (HF0.out.below hb1 HF0.out.1)
  clear hb1
  go_wp2_with fail
  refine (HLD.out _ HBW1.out).mono ?_
  rintro e w2 ⟨rfl, hb2⟩
  have HBW2 := hid (HBW1.out.trans (hb2.mono HBW1.out.size))
  have HF2 := hid (HF1.out.below hb2 HF1.out.1)
  clear hb2
  by_cases hz : tt = 0
  · subst hz
    go_wp2
    go_ret
    exact ⟨rfl, HBW2.out⟩
  · have hzb : (tt == 0) = false := by simpa using hz
    have HBLI := hid (HBL.out hz)
    obtain ⟨i0, hi, hz0, hz1, hz2⟩ := info_parts Tryd.infoI
    have hs2 := HS2.out.below HBW2.out
    go_wp2_with (at_builtin; refine wpList_append_sees rfl _ _ 26 rfl w2.heap.size 3 i0 (.int .i64 0) 8 Tryd.underlying26 hi hz0 hz1 hz2 rfl .i64 _ 0 [] rfl (World.ownsRow_nil _ _ _ _) _ m rfl hs2 ?c1 ?c2 ?c3 ?_)
    case c1 => have := HNM.out; unfold maxLen; omega
    case c2 => have := HNM.out; omega
    case c3 => simp
    intro v' w4 hown hgrow
    have hown' : w4.ownsRow w2.heap.size 3 1 v' nm (m.map (Value.int .i64)) := by have h := hown; rw [HNM.out] at h; simpa using h
    have hbel : Below w2.heap.size w2 w4 := (Below.refl _ _).grown hgrow (Nat.le_refl _) (by intro k hk; simp [Value.ownBlock] at hk)
    obtain ⟨g, cap, rfl, hg1, hg2, hg3, hg4⟩ := owns_form hown' (by omega)
    have hcx := hown'.cellAt a (by omega)
    rw [List.getElem?_map, List.getElem?_eq_getElem (show a < m.length by rw [HNM.out]; exact ha), Option.map_some] at hcx
    have hfz := hown'.frozenAt a
    have HSO := hid (hown'.stored a (.int .i64 value)).1
    have hgw : g ≠ w.heap.size := by have := HF2.out.1; omega
    have hwg : w.heap.size ≠ g := by omega
    have hb4 := HBW2.out.trans (hbel.mono HBW2.out.size)
    obtain ⟨_, _, a0, a1, a2, a3, a4⟩ := HF2.out.below hbel HF2.out.1
    have FC5 := (HF2.out.below hbel HF2.out.1).other (g' := g) (j := a) (v := .int .i64 value) hwg
    obtain ⟨W5, hW5⟩ : ∃ W, w4.setCell ⟨g, a, none⟩ (.int .i64 value) = W := ⟨_, rfl⟩
    have hb5 : Below w.heap.size w W5 := by rw [← hW5]; exact hb4.setCell (show w.heap.size ≤ g by have := HF2.out.1; omega) _
    rw [hW5] at HSO FC5
    have HSN := hid (show Sees W5 .i64 (.slice (some ⟨g, 0, none⟩) nm cap) (m.set a value) from Sees.of_owns (n := nm) (by rw [List.map_set]; exact HSO.out))
    have HB5 := hid hb5
    have HW5 := hid hW5
    have HFC5 := hid FC5
    unfold maxLen at hg4
    clear hown hown' hgrow hbel hb4 hb5 hW5 FC5 HSO hs2 hg1 hg2
    go_wp2_with fail
    rw [HW5.out]
    refine (HH1.out _ _ HB5.out (HS2.out.below HB5.out)).mono ?_
    rintro e w6 ⟨u1, rfl, hs6, hb6⟩
    clear a0 a1 a2 a3 a4 hcx hfz
    obtain ⟨GA, hGA⟩ : ∃ g, w6.heap.size = g := ⟨_, rfl⟩
    obtain ⟨GO, hGO⟩ : ∃ g, w6.heap.size + 1 = g := ⟨_, rfl⟩
    have FA := (five_new w6 (.int .i64 p1) (.int .i64 x0) (.int .i64 x1) (.int .i64 x2) (.int .i64 x3) 25).alloc (o := .cells #[.int .i64 of, .int .i64 oc, .bool oh, .bool orr, .int .i64 ov] 31)
    have FO := five_new (w6.alloc (.cells #[.int .i64 p1, .int .i64 x0, .int .i64 x1, .int .i64 x2, .int .i64 x3] 25)) (.int .i64 of) (.int .i64 oc) (.bool oh) (.bool orr) (.int .i64 ov) 31
    rw [show (w6.alloc (.cells #[.int .i64 p1, .int .i64 x0, .int .i64 x1, .int .i64 x2, .int .i64 x3] 25)).heap.size = w6.heap.size + 1 by simp, hGO] at FO
    rw [hGA] at FA
    have FC := ((HFC5.out.below hb6 HFC5.out.1).alloc (o := .cells #[.int .i64 p1, .int .i64 x0, .int .i64 x1, .int .i64 x2, .int .i64 x3] 25)).alloc (o := .cells #[.int .i64 of, .int .i64 oc, .bool oh, .bool orr, .int .i64 ov] 31)
    obtain ⟨_, _, a0, a1, a2, a3, a4⟩ := FC
    obtain ⟨W, hW⟩ : ∃ W, (w6.alloc (.cells #[.int .i64 p1, .int .i64 x0, .int .i64 x1, .int .i64 x2, .int .i64 x3] 25)).alloc (.cells #[.int .i64 of, .int .i64 oc, .bool oh, .bool orr, .int .i64 ov] 31) = W := ⟨_, rfl⟩
    rw [hW] at FA FO
    have hb66 : Below w6.heap.size w6 W := by rw [← hW]; exact (alloc_belowI w6 (.cells #[.int .i64 p1, .int .i64 x0, .int .i64 x1, .int .i64 x2, .int .i64 x3] 25)).alloc (by simp) _
    have hb56 := hb6.trans (hb66.mono hb6.size)
    have HSU := hid (hs6.below hb66)
    have HSN2 := hid (HSN.out.below hb56)
    have HBW := hid (HB5.out.trans (hb56.mono HB5.out.size))
    have HFA := hid FA
    have HFO := hid FO
    have HW := hid hW
    have HGA := hid hGA
    have HGO := hid hGO
    obtain ⟨e1, e2, e3, e4, e5⟩ := HBLI.out
    simp only at e1 e2 e3 e4 e5
    subst e1 e2 e4
    have H2' : ∀ w2 v, Below w.heap.size w w2 → Sees w2 .i64 v (m.set a value) → Calls Tryd.prog 12 #[.slice ac nc cc, .agg #[.int .i64 p, .int .i64 r0, .int .i64 r1, .int .i64 r2, .int .i64 r3], v, .slice al nl cl, .int .i64 now] w2 fun e w' => ∃ u, e = .returned (.tuple #[.agg #[.int .i64 p1, .int .i64 x0, .int .i64 x1, .int .i64 x2, .int .i64 x3], u, .agg #[.int .i64 of, .int .i64 oc, .bool oh, .bool orr, .int .i64 ov]]) ∧ Sees w' .i64 u (m1.set a value) ∧ Below w2.heap.size w2 w' := HH2.out
    have HH3 := hid H2'
    have HE3 := hid e3
    have HE5 := hid e5
    clear hb6 hb66 hb56 hs6 FA FO hW hGA hGO H2' e3 e5 HBL HBLI
    go_wp2_with fail
    rw [HW.out, HGO.out, HGA.out]
    refine (HH3.out _ _ HBW.out HSN2.out).mono ?_
    rintro e w7 ⟨u2, rfl, hs7, hb7⟩
    clear a0 a1 a2 a3 a4
    obtain ⟨GB, hGB⟩ : ∃ g, w7.heap.size = g := ⟨_, rfl⟩
    obtain ⟨GP, hGP⟩ : ∃ g, w7.heap.size + 1 = g := ⟨_, rfl⟩
    have FB := (five_new w7 (.int .i64 p1) (.int .i64 x0) (.int .i64 x1) (.int .i64 x2) (.int .i64 x3) 25).alloc (o := .cells #[.int .i64 of, .int .i64 oc, .bool oh, .bool orr, .int .i64 ov] 31)
    have FP := five_new (w7.alloc (.cells #[.int .i64 p1, .int .i64 x0, .int .i64 x1, .int .i64 x2, .int .i64 x3] 25)) (.int .i64 of) (.int .i64 oc) (.bool oh) (.bool orr) (.int .i64 ov) 31
    have FA7 := ((HFA.out.below hb7 HFA.out.1).alloc (o := .cells #[.int .i64 p1, .int .i64 x0, .int .i64 x1, .int .i64 x2, .int .i64 x3] 25)).alloc (o := .cells #[.int .i64 of, .int .i64 oc, .bool oh, .bool orr, .int .i64 ov] 31)
    have FO7 := ((HFO.out.below hb7 HFO.out.1).alloc (o := .cells #[.int .i64 p1, .int .i64 x0, .int .i64 x1, .int .i64 x2, .int .i64 x3] 25)).alloc (o := .cells #[.int .i64 of, .int .i64 oc, .bool oh, .bool orr, .int .i64 ov] 31)
    rw [show (w7.alloc (.cells #[.int .i64 p1, .int .i64 x0, .int .i64 x1, .int .i64 x2, .int .i64 x3] 25)).heap.size = w7.heap.size + 1 by simp] at FP
    obtain ⟨_, _, a0, a1, a2, a3, a4⟩ := FA7
    obtain ⟨_, _, b0, b1, b2, b3, b4⟩ := FO7
    obtain ⟨_, _, c0, c1, c2, c3, c4⟩ := FB
    obtain ⟨_, _, d0, d1, d2, d3, d4⟩ := FP
    obtain ⟨W7, hW7⟩ : ∃ W, (w7.alloc (.cells #[.int .i64 p1, .int .i64 x0, .int .i64 x1, .int .i64 x2, .int .i64 x3] 25)).alloc (.cells #[.int .i64 of, .int .i64 oc, .bool oh, .bool orr, .int .i64 ov] 31) = W := ⟨_, rfl⟩
    have hb77 : Below w7.heap.size w7 W7 := by rw [← hW7]; exact (alloc_belowI w7 (.cells #[.int .i64 p1, .int .i64 x0, .int .i64 x1, .int .i64 x2, .int .i64 x3] 25)).alloc (by simp) _
    have hbW7 := hb7.trans (hb77.mono hb7.size)
    have hsx := HSU.out.below hbW7
    have hsy := hs7.below hb77
    obtain ⟨ua, uc, rfl, t1, t2, hcu⟩ := hsx.form
    obtain ⟨ub, ud, rfl, t3, t4, hcv⟩ := hsy.form
    rw [HE3.out, HNM.out] at hcu
    rw [List.length_set, HE3.out, HNM.out] at hcv
    rw [HE3.out, HNM.out, List.length_set, HE3.out, HNM.out]
    have HCU := hid hcu
    have HCV := hid hcv
    have HB7 := hid (HBW.out.trans (hbW7.mono HBW.out.size))
    have HW7 := hid hW7
    have heq := fun w => arr_self w x0 x1 x2 x3
    clear hb7 hb77 hbW7 hsx hsy hcu hcv t1 t2 t3 t4 hW7 hs7
    go_wp2_with fail
    rw [HW7.out]
    clear a0 a1 a2 a3 a4 b0 b1 b2 b3 b4 c0 c1 c2 c3 c4 d0 d1 d2 d3 d4
    go_loopw [25] (fun k wr => ∃ j : Nat, j ≤ nm ∧ k = Value.int .i64 (j : Int) ∧ Below W7.heap.size W7 wr) (fun k _ => nm - (intOf k).toNat)
    case atStart => exact ⟨0, by omega, rfl, Below.refl _ _⟩
    case round =>
      obtain ⟨j, hj, rfl, hbr⟩ := hrel
      obtain ⟨bu, ou, rfl, hbu, hcu⟩ := HCU.out (by omega)
      obtain ⟨bv, ov', rfl, hbv, hcv⟩ := HCV.out (by omega)
      have HBR := hid hbr
      by_cases hlt : j < nm
      · have k1 := (hbr.cell (by exact hbu)).trans (hcu j hlt)
        have k2 := (hbr.cell (by exact hbv)).trans (hcv j hlt)
        clear hcu hcv hbu hbv hbr
        by_cases hja : j = a
        · subst hja
          go_wp2_with fail
          go_quiet (fail)
          go_wp2
          go_roundw
          case rel => exact ⟨j + 1, by omega, by go_num, below_drewN HBR.out nq⟩
          case measure => simp [intOf]; omega
        · have hjb : ((j : Int) != (a : Int)) = true := by simp; omega
          rw [show (m1.set a value).getD j 0 = m1.getD j 0 by simp [List.getD, Ne.symm hja]] at k2
          generalize m1.getD j 0 = mx at *
          go_wp2_with fail
          go_quiet (fail)
          go_wp2
          go_roundw
          case rel => exact ⟨j + 1, by omega, by go_num, below_drewN HBR.out nq⟩
          case measure => simp [intOf]; omega
      · obtain rfl : j = nm := by omega
        obtain ⟨bm, om, rfl, hbm, hcm⟩ := HZ3.out (by omega)
        have hszz := HB7.out.size
        have k1 := (hbr.cell (by exact hbu)).trans (hcu a ha)
        have k2 := (hbr.cell (by exact hbv)).trans (hcv a ha)
        have k3 := (hbr.cell (by show bm < W7.heap.size; omega)).trans ((HB7.out.cell (by exact hbm)).trans (hcm a ha))
        rw [HE5.out] at k1
        rw [show (m1.set a value).getD a 0 = value by simp [List.getD, HE3.out, HNM.out, ha]] at k2
        generalize m.getD a 0 = mx at *
        have HBE := hid (HB7.out.trans (hbr.mono HB7.out.size))
        clear hcu hcv hcm hbu hbv hbm hbr hszz
        go_wp2_with fail
        go_quiet (fail)
        go_wp2
        go_ret
        exact ⟨rfl, below_drewN HBE.out nq⟩

set_option maxRecDepth 100000 in
set_option maxHeartbeats 3200000 in
theorem walk_CpuBlind (w : World) (hL : Laid w) (vc : Value) (code : List In) (s0 : SeesI w vc code) (f0 : ∀ r ∈ code, r.fit) (c : Co) (f1 : c.fit) (vm : Value) (m : List Int) (s2 : Sees w .i64 vm m) (f2 : ∀ n ∈ m, (Lit.int .i64 n).wf = true)
    (vl : Value) (l : List Rg) (s3 : SeesR w vl l) (f3 : ∀ r ∈ l, r.fit) (now : Int) (w4 : (Lit.int .i64 now).wf = true) (at' : Int) (w5 : (Lit.int .i64 at').wf = true) (value : Int) (w6 : (Lit.int .i64 value).wf = true) :
    Calls Tryd.prog 6 #[vc, c.val, vm, vl, .int .i64 now, .int .i64 at', .int .i64 value] w fun e w' => e = .returned (.bool true) ∧ Below w.heap.size w w' := by
  by_cases hin : code.length ≤ 200 ∧ m.length ≤ 200 ∧ l.length ≤ 20 ∧ 0 ≤ at' ∧ at' < m.length
  · obtain ⟨g0, g1, g2, g3, g4⟩ := hin
    obtain ⟨a, rfl⟩ := Int.eq_ofNat_of_zero_le g3
    exact blind_in w hL vc code s0 c f1 vm m s2 vl l s3 f3 now a value g0 g1 g2 (by omega)
  · have hc : (200 : Int) < (code.length : Int) ∨ (¬ ((200 : Int) < (code.length : Int)) ∧ (200 : Int) < (m.length : Int)) ∨ (¬ ((200 : Int) < (code.length : Int)) ∧ ¬ ((200 : Int) < (m.length : Int)) ∧ (20 : Int) < (l.length : Int)) ∨ (¬ ((200 : Int) < (code.length : Int)) ∧ ¬ ((200 : Int) < (m.length : Int)) ∧ ¬ ((20 : Int) < (l.length : Int)) ∧ at' < 0) ∨ (¬ ((200 : Int) < (code.length : Int)) ∧ ¬ ((200 : Int) < (m.length : Int)) ∧ ¬ ((20 : Int) < (l.length : Int)) ∧ ¬ (at' < 0) ∧ (m.length : Int) ≤ at') := by omega
    obtain ⟨p, r0, r1, r2, r3⟩ := c
    have hb0 := alloc_belowI w (.cells #[.int .i64 p, .int .i64 r0, .int .i64 r1, .int .i64 r2, .int .i64 r3] 25)
    have HA := hid (cawake_any _ (hL.below hb0))
    have HB0 := hid hb0
    obtain ⟨ac, cc, rfl, y1, y2, y3⟩ := s0.form
    obtain ⟨am, cm, rfl, z1, z2, z3⟩ := s2.form
    obtain ⟨al, cl, rfl, z4, z5, z6⟩ := s3.form
    clear y1 y2 y3 z1 z2 z3 z4 z5 z6 s0 s2 s3 f0 f1 f2 f3 hin hL w4 w5 w6 hb0
    rw [show Co.val ⟨p, r0, r1, r2, r3⟩ = .agg #[.int .i64 p, .int .i64 r0, .int .i64 r1, .int .i64 r2, .int .i64 r3] from rfl]
    generalize m.length = nm at *
    generalize code.length = nc at *
    generalize l.length = nl at *
    rcases hc with h | ⟨h, h'⟩ | ⟨h, h', h2⟩ | ⟨h, h', h2, h3⟩ | ⟨h, h', h2, h3, h4⟩
    all_goals
      go_enter Tryd.func6, Tryd.ntmps6
      go_wp2_with fail
      refine (HA.out).mono ?_
      rintro e w1 ⟨rfl, hb1⟩
      have HB := hid (HB0.out.trans (hb1.mono HB0.out.size))
      clear hb1
      go_wp2
      go_ret
      exact ⟨rfl, HB.out⟩
end Go.Proofs.YtedldckijblnhaaDoor
