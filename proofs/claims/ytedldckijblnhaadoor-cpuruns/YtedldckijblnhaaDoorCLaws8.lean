/-
  CpuRuns returns true, whatever it is given, and nothing that was there is written.
-/
import Derived.Test.YtedldckijblnhaaDoorCRefJ
import Derived.Test.YtedldckijblnhaaDoorCLaws1
import Derived.Test.YtedldckijblnhaaDoorCMath3
namespace Go.Proofs.YtedldckijblnhaaDoor
open Go.RowKit
set_option linter.unusedVariables false

theorem same_self8 (va vb : Value) (xs : List Int) (w : World) (ha : Sees w .i64 va xs) (hb : Sees w .i64 vb xs) :
    Calls Tryd.prog 14 #[va, vb] w fun e w' => e = .returned (.bool true) ∧ Below w.heap.size w w' := by
  refine (same_any va vb xs xs w ha hb).mono ?_
  rintro e w' ⟨rfl, h⟩
  exact ⟨by simp, h⟩

/-- A slice lies in neither of two blocks. -/
def Off (v : Value) (g h : Nat) : Prop := ∀ b, v.ownBlock = some b → b ≠ g ∧ b ≠ h
theorem off_owns {w : World} {base : Nat} {e : TypeId} {v : Value} {n : Nat} {xs : List Value} {g h : Nat} (ho : w.ownsRow base e 1 v n xs) (hg : g < base) (hh : h < base) : Off v g h := by
  intro b hb
  rcases ho.2 with ⟨rfl, _⟩ | ⟨q, cap, cur, rfl, hq, _⟩
  · simp [Value.ownBlock] at hb
  · simp [Value.ownBlock] at hb
    omega
theorem off_sees {w : World} {v : Value} {xs : List Int} {g h : Nat} (hs : Sees w .i64 v xs) (hx : 0 < xs.length) (hg : w.heap.size ≤ g) (hh : w.heap.size ≤ h) : Off v g h := by
  obtain ⟨a, cap, rfl, _, _, hc⟩ := hs.form
  obtain ⟨b, off, rfl, hb, _⟩ := hc hx
  intro q hq
  simp [Value.ownBlock] at hq
  omega
theorem sees_set {w : World} {v u : Value} {xs : List Int} {g j : Nat} (hs : Sees w .i64 v xs) (ho : ∀ b, v.ownBlock = some b → b ≠ g) : Sees (w.setCell ⟨g, j, none⟩ u) .i64 v xs := by
  rcases hs with h | ⟨x, cap, rfl, h1, h2, hc⟩
  · exact .inl h
  · refine .inr ⟨x, cap, rfl, h1, h2, fun i hi => ?_⟩
    have hb : x.block ≠ g := ho x.block (by simp [Value.ownBlock])
    rw [World.cell?_setCell_other _ _ _ _ (by intro e; apply hb; have := congrArg Addr.block e; simp [Addr.add] at this; split at this <;> simp_all)]
    exact hc i hi
theorem sees_set5 {w : World} {v : Value} {xs : List Int} {g : Nat} {v0 v1 v2 v3 v4 : Value} (hs : Sees w .i64 v xs) (ho : ∀ b, v.ownBlock = some b → b ≠ g) :
    Sees (((((w.setCell ⟨g, 0, none⟩ v0).setCell ⟨g, 1, none⟩ v1).setCell ⟨g, 2, none⟩ v2).setCell ⟨g, 3, none⟩ v3).setCell ⟨g, 4, none⟩ v4) .i64 v xs :=
  sees_set (sees_set (sees_set (sees_set (sees_set hs ho) ho) ho) ho) ho

set_option maxRecDepth 100000 in
set_option maxHeartbeats 3200000 in
theorem walk_CpuRuns (w : World) (hL : Laid w) (vc : Value) (code : List In) (s0 : SeesI w vc code) (f0 : ∀ r ∈ code, r.fit) (c : Co) (f1 : c.fit) (vm : Value) (m : List Int) (s2 : Sees w .i64 vm m) (f2 : ∀ n ∈ m, (Lit.int .i64 n).wf = true)
    (vl : Value) (l : List Rg) (s3 : SeesR w vl l) (f3 : ∀ r ∈ l, r.fit) (steps : Int) (w4 : (Lit.int .i64 steps).wf = true) :
    Calls Tryd.prog 4 #[vc, c.val, vm, vl, .int .i64 steps] w fun e w' => e = .returned (.bool true) ∧ Below w.heap.size w w' := by
  obtain ⟨i0, hi, hz0, hz1, hz2⟩ := info_parts Tryd.infoI
  have hst := bounds_i64 w4
  have hmf : ∀ x ∈ m, fit64 x := fun x hx => bounds_i64 (f2 x hx)
  clear w4 f2
  obtain ⟨p, r0, r1, r2, r3⟩ := c
  have hb0 := alloc_belowI w (.cells #[.int .i64 p, .int .i64 r0, .int .i64 r1, .int .i64 r2, .int .i64 r3] 25)
  have HA := hid (fun w2 h => cawake_any w2 (hL.below (w' := w2) h))
  have HMY := hid (fun w2 h => may_any vl l (m.length : Int) w2 (s3.below (w' := w2) h) f3)
  obtain ⟨ac, cc, rfl, hc1, hc2, _⟩ := s0.form
  obtain ⟨am, cm, rfl, hm1, hm2, _⟩ := s2.form
  obtain ⟨al, cl, rfl, _, _, _⟩ := s3.form
  unfold maxLen at hc2 hm2
  have HLA := hid hL
  have HS0 := hid s0
  have HS2 := hid s2
  have HS3 := hid s3
  have HF3 := hid f3
  have HF1 := hid f1
  have HMF := hid hmf
  have HB0 := hid hb0
  have HF0 := hid (five_new w (.int .i64 p) (.int .i64 r0) (.int .i64 r1) (.int .i64 r2) (.int .i64 r3) 25)
  clear hL s0 s2 s3 f0 f1 f3 hb0 hmf
  rw [show Co.val ⟨p, r0, r1, r2, r3⟩ = .agg #[.int .i64 p, .int .i64 r0, .int .i64 r1, .int .i64 r2, .int .i64 r3] from rfl]
  go_enter Tryd.func4, Tryd.ntmps4
  go_wp2_with fail
  refine (HA.out _ HB0.out).mono ?_
  rintro e w1 ⟨rfl, hb1⟩
  have HB1 := hid (HB0.out.trans (hb1.mono HB0.out.size))
  have HFC1 := hid (HF0.out.below hb1 HF0.out.1)
  clear hb1 HA
  by_cases hn : code.length ≤ 64
  · go_wp2_with fail
    refine (HMY.out _ HB1.out).mono ?_
    rintro e w2 ⟨rfl, hb2⟩
    have HB2 := hid (HB1.out.trans (hb2.mono HB1.out.size))
    have HFC2 := hid (HFC1.out.below hb2 HFC1.out.1)
    clear hb2 HMY HB1 HFC1
    cases hmay : mayB l (m.length : Int) with
    | false =>
      go_wp2
      go_ret
      exact ⟨rfl, HB2.out⟩
    | true =>
      have hfew := (may_few hmay).1
      have hm64 : m.length ≤ 64 := by have := (may_few hmay).2; omega
      have hm0 : 0 < m.length := by unfold mayB at hmay; rw [decide_eq_true_eq] at hmay; omega
      have HFEW := hid hfew
      clear hmay hfew
      by_cases hsteps : steps ≤ 200
      · obtain ⟨GC, hGC⟩ : ∃ g, w.heap.size = g := ⟨_, rfl⟩
        obtain ⟨GD, hGD⟩ : ∃ g, w2.heap.size = g := ⟨_, rfl⟩
        obtain ⟨_, _, a0, a1, a2, a3, a4⟩ := HFC2.out
        have hbd := HB2.out.alloc HB2.out.size (.cells #[.int .i64 p, .int .i64 r0, .int .i64 r1, .int .i64 r2, .int .i64 r3] 25)
        have HBD := hid hbd
        have HFD := hid (five_new w2 (.int .i64 p) (.int .i64 r0) (.int .i64 r1) (.int .i64 r2) (.int .i64 r3) 25)
        have HFC := hid (HFC2.out.alloc (o := .cells #[.int .i64 p, .int .i64 r0, .int .i64 r1, .int .i64 r2, .int .i64 r3] 25))
        have HSD := hid (HS2.out.below hbd)
        have HMM := hid (show 0 + m.length ≤ maxLen by unfold maxLen; omega)
        have hGCD : GC < GD := by rw [← hGC, ← hGD]; exact HFC2.out.1
        have hGDs : GD + 1 = (w2.alloc (.cells #[.int .i64 p, .int .i64 r0, .int .i64 r1, .int .i64 r2, .int .i64 r3] 25)).heap.size := by rw [← hGD]; simp
        have HGDS := hid hGDs
        have HGC := hid hGC
        have HGD := hid hGD
        clear hbd hGC hGD hGDs
        go_wp2_with (at_builtin; refine wpList_append_sees rfl _ _ 26 rfl (GD + 1) 3 i0 (.int .i64 0) 8 Tryd.underlying26 hi hz0 hz1 hz2 rfl .i64 (.slice none 0 0) 0 [] rfl (World.ownsRow_nil _ _ _ _) _ m rfl HSD.out HMM.out (by omega) (Nat.le_of_eq HGDS.out) ?_)
        intro vn w3 ho3 hg3
        have hb3 : Below w.heap.size w w3 := HBD.out.grown hg3 HBD.out.size (by simp [Value.ownBlock])
        have hb23 : Below (w2.alloc (.cells #[.int .i64 p, .int .i64 r0, .int .i64 r1, .int .i64 r2, .int .i64 r3] 25)).heap.size (w2.alloc (.cells #[.int .i64 p, .int .i64 r0, .int .i64 r1, .int .i64 r2, .int .i64 r3] 25)) w3 := (Below.refl _ _).grown hg3 (Nat.le_refl _) (by simp [Value.ownBlock])
        have ho3' : w3.ownsRow (GD + 1) 3 1 vn m.length (m.map (Value.int .i64)) := by simpa using ho3
        have HFD3 := hid (HFD.out.below hb23 HFD.out.1)
        have HFC3 := hid (HFC.out.below hb23 HFC.out.1)
        rw [HGD.out] at HFD3
        rw [HGC.out] at HFC3
        have HON := hid (Sees.of_owns ho3')
        have HOF := hid (off_owns (g := GC) (h := GD) ho3' (by omega) (by omega))
        have HOM := hid (off_sees (g := GC) (h := GD) HS2.out hm0 (Nat.le_of_eq HGC.out) (by have := HGC.out; omega))
        have HB3 := hid hb3
        rw [HGD.out, HGC.out]
        clear ho3 hg3 hb3 hb23 ho3' HFD HFC HSD HMM HBD HGDS a0 a1 a2 a3 a4 HFC2 HB2 HF0 HB0
        go_wp2
        go_loopw [2, 13, 14] (fun vx vy i wr => ∃ (k : Nat) (d : Co) (ms : List Int), (k : Int) ≤ 200 ∧ i = .int .i64 k ∧ d.fit ∧ (∀ x ∈ ms, fit64 x) ∧ ms.length = m.length ∧ CoAt wr GC d ∧ CoAt wr GD d ∧ Sees wr .i64 vx ms ∧ Off vx GC GD ∧ Sees wr .i64 vy ms ∧ Off vy GC GD ∧ Below w.heap.size w wr)
          (fun _ _ i _ => 200 - (intOf i).toNat)
        case atStart => exact ⟨0, ⟨p, r0, r1, r2, r3⟩, m, by omega, rfl, HF1.out, HMF.out, rfl, HFC3.out, HFD3.out, HS2.out.below HB3.out, HOM.out, HON.out, HOF.out, HB3.out⟩
        case round =>
          clear HFC3 HFD3 HON HOF HOM HB3 HF1 HMF
          obtain ⟨k, ⟨q, x0, x1, x2, x3⟩, ms, hk, rfl, hdf, hmsf, hmsl, cC, cD, sx, offx, sy, offy, hbel⟩ := hrel
          by_cases hlt : (k : Int) < steps
          · have hkf : fit64 (k : Int) := by unfold fit64; omega
            have HX := hid (step_own _ _ _ code ⟨q, x0, x1, x2, x3⟩ ms l k wr (HLA.out.below hbel) (HS0.out.below hbel) sx (HS3.out.below hbel) hdf HF3.out (by omega))
            have HFIN := hid (fineS code ⟨q, x0, x1, x2, x3⟩ ms l k (by omega) hdf hmsf hkf)
            have HY := hid (fun w2 (h : Below wr.heap.size wr w2) => rstep_own _ _ _ code ⟨q, x0, x1, x2, x3⟩ ms l k w2 ((HS0.out.below hbel).below h) (sy.below h) ((HS3.out.below hbel).below h) hdf HFEW.out (by omega))
            obtain ⟨⟨⟨p1, y0, y1, y2, y3⟩, m1, ⟨of, oc, oh, orr, ov⟩⟩, hR⟩ : ∃ R, stepS code ⟨q, x0, x1, x2, x3⟩ ms l k = R := ⟨_, rfl⟩
            rw [hR] at HX HFIN HY
            simp only [Co.val, Ou.val] at HX HY
            obtain ⟨g1, g2, g3⟩ := HFIN.out
            simp only at g1 g2 g3
            have HG1 := hid g1
            have HG2 := hid g2
            have HG3 := hid (g3.trans hmsl)
            have CC := hid cC
            have CD := hid cD
            have OX := hid offx
            have OY := hid offy
            have HBW := hid hbel
            obtain ⟨_, _, a0, a1, a2, a3, a4⟩ := cC
            have hGDw : GD < wr.heap.size := cD.1
            simp only at a0 a1 a2 a3 a4
            clear cD g1 g2 g3 HFIN hR hdf hmsf sx sy offx offy hbel hkf
            go_wp2_with fail
            refine HX.out.mono ?_
            rintro e w5 ⟨u1, rfl, ho5, hb5⟩
            have hOff1 := off_owns (g := GC) (h := GD) ho5 (by omega) hGDw
            obtain ⟨G1, hG1⟩ : ∃ g, w5.heap.size = g := ⟨_, rfl⟩
            obtain ⟨G2, hG2⟩ : ∃ g, w5.heap.size + 1 = g := ⟨_, rfl⟩
            have K1 := (five_new w5 (.int .i64 p1) (.int .i64 y0) (.int .i64 y1) (.int .i64 y2) (.int .i64 y3) 25).alloc (o := .cells #[.int .i64 of, .int .i64 oc, .bool oh, .bool orr, .int .i64 ov] 31)
            have K2 := five_new (w5.alloc (.cells #[.int .i64 p1, .int .i64 y0, .int .i64 y1, .int .i64 y2, .int .i64 y3] 25)) (.int .i64 of) (.int .i64 oc) (.bool oh) (.bool orr) (.int .i64 ov) 31
            rw [show (w5.alloc (.cells #[.int .i64 p1, .int .i64 y0, .int .i64 y1, .int .i64 y2, .int .i64 y3] 25)).heap.size = w5.heap.size + 1 by simp, hG2] at K2
            rw [hG1] at K1
            have hb55 : Below w5.heap.size w5 ((w5.alloc (.cells #[.int .i64 p1, .int .i64 y0, .int .i64 y1, .int .i64 y2, .int .i64 y3] 25)).alloc (.cells #[.int .i64 of, .int .i64 oc, .bool oh, .bool orr, .int .i64 ov] 31)) := (alloc_belowI w5 (.cells #[.int .i64 p1, .int .i64 y0, .int .i64 y1, .int .i64 y2, .int .i64 y3] 25)).alloc (by simp) (.cells #[.int .i64 of, .int .i64 oc, .bool oh, .bool orr, .int .i64 ov] 31)
            have hs5 : w5.heap.size + 2 = ((w5.alloc (.cells #[.int .i64 p1, .int .i64 y0, .int .i64 y1, .int .i64 y2, .int .i64 y3] 25)).alloc (.cells #[.int .i64 of, .int .i64 oc, .bool oh, .bool orr, .int .i64 ov] 31)).heap.size := by simp
            have HC5 := hid ((CC.out.below hb5 CC.out.1).below hb55 (CC.out.below hb5 CC.out.1).1)
            have HD5 := hid ((CD.out.below hb5 CD.out.1).below hb55 (CD.out.below hb5 CD.out.1).1)
            have HBX := hid (hb5.trans (hb55.mono hb5.size))
            have HS1 := hid ((Sees.of_owns ho5).below hb55)
            have HOF1 := hid hOff1
            have HK1 := hid K1
            have HK2 := hid K2
            have HGA := hid hG1
            have HGB := hid hG2
            have HSZ := hid hs5
            have hsz5 := hb5.size
            clear a0 a1 a2 a3 a4
            obtain ⟨_, _, a0, a1, a2, a3, a4⟩ := CD.out.below hb5 CD.out.1
            simp only at a0 a1 a2 a3 a4
            clear hb5 hb55 ho5 K1 K2 hG1 hG2 hOff1 hs5 HX
            go_wp2_with fail
            refine (HY.out _ HBX.out).mono ?_
            rintro e w7 ⟨u2, rfl, hs7, hb7⟩
            rw [HGB.out, HGA.out]
            obtain ⟨hs7s, hs7o⟩ := hs7
            have hOff2 : Off u2 GC GD := by
              rcases hs7o with h | h
              · rw [h]; exact OY.out
              · exact off_owns h (by have := HSZ.out; omega) (by have := HSZ.out; omega)
            obtain ⟨G3, hG3⟩ : ∃ g, w7.heap.size = g := ⟨_, rfl⟩
            obtain ⟨G4, hG4⟩ : ∃ g, w7.heap.size + 1 = g := ⟨_, rfl⟩
            have L1 := ((HK1.out.below hb7 HK1.out.1).alloc (o := .cells #[.int .i64 p1, .int .i64 y0, .int .i64 y1, .int .i64 y2, .int .i64 y3] 25)).alloc (o := .cells #[.int .i64 of, .int .i64 oc, .bool oh, .bool orr, .int .i64 ov] 31)
            have L2 := ((HK2.out.below hb7 HK2.out.1).alloc (o := .cells #[.int .i64 p1, .int .i64 y0, .int .i64 y1, .int .i64 y2, .int .i64 y3] 25)).alloc (o := .cells #[.int .i64 of, .int .i64 oc, .bool oh, .bool orr, .int .i64 ov] 31)
            have L5 := ((HC5.out.below hb7 HC5.out.1).alloc (o := .cells #[.int .i64 p1, .int .i64 y0, .int .i64 y1, .int .i64 y2, .int .i64 y3] 25)).alloc (o := .cells #[.int .i64 of, .int .i64 oc, .bool oh, .bool orr, .int .i64 ov] 31)
            have L6 := ((HD5.out.below hb7 HD5.out.1).alloc (o := .cells #[.int .i64 p1, .int .i64 y0, .int .i64 y1, .int .i64 y2, .int .i64 y3] 25)).alloc (o := .cells #[.int .i64 of, .int .i64 oc, .bool oh, .bool orr, .int .i64 ov] 31)
            have L3 := (five_new w7 (.int .i64 p1) (.int .i64 y0) (.int .i64 y1) (.int .i64 y2) (.int .i64 y3) 25).alloc (o := .cells #[.int .i64 of, .int .i64 oc, .bool oh, .bool orr, .int .i64 ov] 31)
            have L4 := five_new (w7.alloc (.cells #[.int .i64 p1, .int .i64 y0, .int .i64 y1, .int .i64 y2, .int .i64 y3] 25)) (.int .i64 of) (.int .i64 oc) (.bool oh) (.bool orr) (.int .i64 ov) 31
            rw [show (w7.alloc (.cells #[.int .i64 p1, .int .i64 y0, .int .i64 y1, .int .i64 y2, .int .i64 y3] 25)).heap.size = w7.heap.size + 1 by simp, hG4] at L4
            rw [hG3] at L3
            obtain ⟨W8, hW8⟩ : ∃ W, (w7.alloc (.cells #[.int .i64 p1, .int .i64 y0, .int .i64 y1, .int .i64 y2, .int .i64 y3] 25)).alloc (.cells #[.int .i64 of, .int .i64 oc, .bool oh, .bool orr, .int .i64 ov] 31) = W := ⟨_, rfl⟩
            rw [hW8] at L1 L2 L3 L4 L5 L6
            have hb77 : Below w7.heap.size w7 W8 := by rw [← hW8]; exact (alloc_belowI w7 (.cells #[.int .i64 p1, .int .i64 y0, .int .i64 y1, .int .i64 y2, .int .i64 y3] 25)).alloc (by simp) _
            have HSM := hid (same_self8 _ _ m1 W8 ((HS1.out.below hb7).below hb77) (hs7s.below hb77))
            have HS1' := hid ((HS1.out.below hb7).below hb77)
            have HS2' := hid (hs7s.below hb77)
            have hb57 := HBX.out.trans (hb7.mono HBX.out.size)
            have hb58 := hb57.trans (hb77.mono hb57.size)
            have HB8 := hid (HBW.out.trans (hb58.mono HBW.out.size))
            have HW8 := hid hW8
            have hn1 : G1 ≠ GC := by have := HGA.out; omega
            have hn2 : G1 ≠ GD := by have := HGA.out; omega
            have hsz7 : w5.heap.size + 2 ≤ w7.heap.size := by rw [HSZ.out]; exact hb7.size
            have hn3 : G3 ≠ GC := by have := HGA.out; omega
            have hn4 : G3 ≠ GD := by have := HGA.out; omega
            have hn5 : GC ≠ GD := by omega
            have hn6 : GD ≠ GC := by omega
            have hw1 : w.heap.size ≤ GC := by have := HGC.out; omega
            have hw2 : w.heap.size ≤ GD := by have := HGC.out; omega
            have HW1 := hid hw1
            have HW2 := hid hw2
            have HOF2 := hid hOff2
            have HL1 := hid L1
            have HL2 := hid L2
            have HL3 := hid L3
            have HL4 := hid L4
            have HL5 := hid L5
            have HL6 := hid L6
            have HGG3 := hid hG3
            have HGG4 := hid hG4
            clear hb7 hb77 hb57 hb58 hW8 L1 L2 L3 L4 L5 L6 hs7s hs7o hOff2 hG3 hG4 a0 a1 a2 a3 a4 hsz7 hsz5 hw1 hw2 HY HBX HC5 HD5 HS1 HK1 HK2 HBW CC CD
            go_wp2_with fail
            rw [HW8.out]
            rw [HGG4.out, HGG3.out]
            refine HSM.out.mono ?_
            rintro e w9 ⟨rfl, hb9⟩
            obtain ⟨_, _, a0, a1, a2, a3, a4⟩ := HL1.out.below hb9 HL1.out.1
            obtain ⟨_, _, b0, b1, b2, b3, b4⟩ := HL2.out.below hb9 HL2.out.1
            obtain ⟨_, _, c0, c1, c2, c3, c4⟩ := HL3.out.below hb9 HL3.out.1
            obtain ⟨_, _, d0, d1, d2, d3, d4⟩ := HL4.out.below hb9 HL4.out.1
            have FC := HL5.out.below hb9 HL5.out.1
            have FD := HL6.out.below hb9 HL6.out.1
            obtain ⟨_, e5, e0, e1, e2, e3, e4⟩ := FC
            obtain ⟨_, f5, f0, f1, f2, f3, f4⟩ := FD
            try simp only at e0 e1 e2 e3 e4 f0 f1 f2 f3 f4
            have HC9 := hid (HL5.out.below hb9 HL5.out.1)
            have HD9 := hid (HL6.out.below hb9 HL6.out.1)
            have HB9 := hid (HB8.out.trans (hb9.mono HB8.out.size))
            have HX9 := hid (HS1'.out.below hb9)
            have HY9 := hid (HS2'.out.below hb9)
            clear hb9 HB8 HS1' HS2' HSM HL1 HL2 HL3 HL4 HL5 HL6
            have heq := fun w => arr_self w y0 y1 y2 y3
            cases oh with
            | true =>
              go_wp2
              go_ret
              exact ⟨rfl, HB9.out⟩
            | false =>
              by_cases hof : of = 0
              · subst hof
                go_wp2
                go_roundw
                case rel =>
                  refine ⟨k + 1, ⟨p1, y0, y1, y2, y3⟩, m1, by omega, by go_num, HG1.out, HG2.out, HG3.out, ?_, ?_, ?_, HOF1.out, ?_, HOF2.out, ?_⟩
                  · exact FiveAt.other5 (FiveAt.set5 HC9.out) hn5
                  · exact FiveAt.set5 (FiveAt.other5 HD9.out hn6)
                  · exact sees_set5 (sees_set5 HX9.out (fun b h => (HOF1.out b h).1)) (fun b h => (HOF1.out b h).2)
                  · exact sees_set5 (sees_set5 HY9.out (fun b h => (HOF2.out b h).1)) (fun b h => (HOF2.out b h).2)
                  · exact below5 (below5 HB9.out HW1.out) HW2.out
                case measure => simp [intOf]; omega
              · have hofb : (of != 0) = true := by simp [hof]
                go_wp2
                go_ret
                exact ⟨rfl, HB9.out⟩
          · clear cC cD sx offx sy offy hdf hmsf
            go_wp2
            go_ret
            exact ⟨rfl, hbel⟩
      · go_wp2
        go_ret
        exact ⟨rfl, HB2.out⟩
  · go_wp2
    go_ret
    exact ⟨rfl, HB1.out⟩
end Go.Proofs.YtedldckijblnhaaDoor
