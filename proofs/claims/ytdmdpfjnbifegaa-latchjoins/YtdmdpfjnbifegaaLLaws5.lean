/-
  LatchJoins returns true, whatever it is given, and nothing that was there is written.
-/
import Derived.Test.YtdmdpfjnbifegaaLMath
import Derived.Test.YtdmdpfjnbifegaaLBool
import Derived.Deep.RegionWith
namespace Go.Proofs.Ytdmdpfjnbifegaa
open Go.RowKit
set_option linter.unusedVariables false

/-- An own row of integers. -/
abbrev OwnI (w : World) (base : Nat) (v : Value) (xs : List Int) : Prop := w.ownsRow base 3 1 v xs.length (xs.map (Value.int .i64))
theorem OwnI.snoc {w : World} {base : Nat} {v : Value} {xs : List Int} {x : Int} (h : w.ownsRow base 3 1 v (xs.length + [x].length) (xs.map (Value.int .i64) ++ [x].map (Value.int .i64))) : OwnI w base v (xs ++ [x]) := by
  unfold OwnI; rw [List.map_append, List.length_append]; exact h
theorem OwnI.append {w : World} {base : Nat} {v : Value} {xs ys : List Int} (h : w.ownsRow base 3 1 v (xs.length + ys.length) (xs.map (Value.int .i64) ++ ys.map (Value.int .i64))) : OwnI w base v (xs ++ ys) := by
  unfold OwnI; rw [List.map_append, List.length_append]; exact h
theorem one_sees (w : World) (x : Int) : Sees (w.alloc (.cells #[.int .i64 x] 3)) .i64 (.slice (some ⟨w.heap.size, 0, none⟩) 1 1) [x] := by
  refine .inr ⟨_, 1, rfl, by simp, by simp [maxLen], fun i hi => ?_⟩
  obtain rfl : i = 0 := by simpa using hi
  simp [Addr.add]

theorem Sees.drew {w : World} {k : IntKind} {v : Value} {xs : List Int} (h : Sees w k v xs) : Sees w.drew k v xs := h

set_option maxRecDepth 100000 in
set_option maxHeartbeats 1600000 in
theorem walk_LatchJoins (w : World) (d : Int) (hd : (Lit.int .i64 d).wf = true) (v : Value) (l : List Int) (hv : Sees w .i64 v l) (hf : ∀ n ∈ l, (Lit.int .i64 n).wf = true) (vb : Value) (bs : List Bool) (hvb : SeesB w vb bs) :
    Calls Try.prog 6 #[.int .i64 d, v, vb] w fun e w' => e = .returned (.bool true) ∧ Below w.heap.size w w' := by
  have hdd := bounds_i64 hd
  clear hd hf
  obtain ⟨i0, hi, hz0, hz1, hz2⟩ := info_parts Try.infoI6
  obtain ⟨a, cap, rfl, hc1, hc2, hcell⟩ := hv.form
  obtain ⟨ba, bcap, rfl, hd1, hd2, hbell⟩ := hvb.form
  have HC := hid hcell
  have HE := hid hbell
  clear hcell hbell
  unfold maxLen at hc2 hd2
  clear hv hvb
  go_enter Try.func6, Try.ntmps6
  go_wp2_with fail
  refine (awake6_any _).mono ?_
  rintro e w1 ⟨rfl, hb1⟩
  have HDD := hid hdd
  by_cases hg : l.length ≤ 100 ∧ 0 ≤ d ∧ d ≤ 8
  · obtain ⟨hlen, hd0, hd8⟩ := hg
    obtain ⟨D, rfl⟩ := Int.eq_ofNat_of_zero_le hd0
    have h8 : D ≤ 8 := by omega
    have hbx : Below w1.heap.size w1 (w1.alloc (.cells #[.int .i64 (D : Int), .slice none 0 0, .int .i64 0] 24)) := (Below.refl _ _).alloc (Nat.le_refl _) _
    have B0 := hid (BoxAt.new w1 24 #[.int .i64 (D : Int), .slice none 0 0, .int .i64 0])
    have HB1 := hid (hb1.trans (hbx.mono hb1.size))
    have hsz := hb1.size
    clear hb1 hbx
    go_wp2
    go_loopw [9, 10, 11, 12, 13] (fun vw wt dr vg i wr => ∃ (k : Nat) (u : Value) (xs GL WL : List Int) (p : Nat), WL = GL ++ xs ∧ k ≤ l.length ∧ i = .int .i64 k ∧ wt = .int .i64 (xs.length : Nat) ∧ dr = .int .i64 (p : Nat) ∧ xs.length ≤ D ∧ p ≤ k ∧ WL.length ≤ k ∧
        BoxAt wr w1.heap.size 24 #[.int .i64 (D : Int), u, .int .i64 (p : Nat)] ∧ OwnI wr (w1.heap.size + 1) u xs ∧ OwnI wr (w1.heap.size + 1) vw WL ∧ OwnI wr (w1.heap.size + 1) vg GL ∧ Apart u vw ∧ Apart vg vw ∧ Below w.heap.size w wr)
      (fun _ _ _ _ i _ => l.length - (intOf i).toNat)
    case atStart =>
      refine ⟨0, .slice none 0 0, [], [], [], 0, rfl, by omega, rfl, rfl, rfl, by simp, by omega, by simp, ?_, World.ownsRow_nil _ _ _ _, World.ownsRow_nil _ _ _ _, World.ownsRow_nil _ _ _ _, Apart.nil _, Apart.nil _, HB1.out⟩
      simpa using B0.out
    case round =>
      clear B0 HB1
      obtain ⟨k, u, xs, GL, WL, p, hWL, hk, rfl, rfl, rfl, hxD, hpk, hWk, b0, ou, ow, og, auw, agw, hbel⟩ := hrel
      have HWL := hid hWL
      have hGk : GL.length ≤ k := by rw [hWL] at hWk; simp at hWk; omega
      clear hWL
      obtain ⟨ua, ul, uc, rfl⟩ := owns_slice6 ou
      by_cases hlt : k < l.length
      · obtain ⟨b, off, rfl, hbw, hcell⟩ := HC.out (by omega)
        have HX := hid (hcell k hlt)
        have hx := (hbel.cell (by exact hbw)).trans (hcell k hlt)
        clear hcell HC
        generalize l.getD k 0 = x at *
        by_cases hfull : xs.length < D
        case' pos =>
          have HL := hid (show offerL (D : Int) x xs = xs ++ [x] by rw [offerL, if_neg (by omega)])
          have HP := hid (show offerP (D : Int) (p : Nat) xs = (p : Nat) by rw [offerP, if_neg (by omega)])
          have how : OwnI (wr.alloc (.cells #[.int .i64 x] 3)) (w1.heap.size + 1) _ WL := ow.alloc _
          have HG := hid (show WL.length + [x].length ≤ maxLen by unfold maxLen; simp; omega)
          have HG2 := hid (show (WL.length + [x].length) * 8 ≤ 140737488355328 by simp; omega)
          have HG3 := hid (show w1.heap.size + 1 ≤ (wr.alloc (.cells #[.int .i64 x] 3)).heap.size by have := b0.lt; simp; omega)
          have HS1 := hid (one_sees wr x)
          have HOU := hid (ou.alloc (.cells #[.int .i64 x] 3))
          have HOG := hid (og.alloc (.cells #[.int .i64 x] 3))
          have HBB := hid (b0.alloc (.cells #[.int .i64 x] 3))
          have HAU := hid auw
          have HAG := hid agw
          have HBW := hid (hbel.alloc hbel.size (.cells #[.int .i64 x] 3))
          have HHO := hid how
          clear ow ou og b0 auw agw hbel
          go_wp2_with (at_builtin; refine wpList_append_at rfl _ _ 22 rfl (w1.heap.size + 1) 3 i0 (.int .i64 0) 8 Try.underlying22 hi hz0 hz1 hz2 rfl .i64 _ _ _ rfl HHO.out _ [x] rfl HS1.out HG.out HG2.out HG3.out ?_)
          intro uw wq hoq hgq hatq
          clear how
          have hoq' : OwnI wq (w1.heap.size + 1) uw (WL ++ [x]) := by unfold OwnI; simpa using hoq
          have hbq := HBW.out.grown hgq (by have := HBW.out.size; simpa using this) (fun j hj => by have := (owned_below HHO.out j hj).1; omega)
          have b0 := HBB.out.grown hgq (fun e => by have := (owned_below HHO.out _ e.symm).1; omega)
          have OU := hid (HOU.out.kept hgq HAU.out.ne)
          have OG := hid (HOG.out.kept hgq HAG.out.ne)
          have AU := hid (HAU.out.grown HOU.out (by simpa using hatq))
          have AG := hid (HAG.out.grown HOG.out (by simpa using hatq))
          obtain ⟨WL2, hWL2⟩ : ∃ q, q = WL ++ [x] := ⟨_, rfl⟩
          rw [← hWL2] at hoq'
          have OW := hid hoq'
          have HW2 := hid (show WL2 = GL ++ offerL (D : Int) x xs by rw [hWL2, HL.out, HWL.out]; simp)
          have HWk := hid (show WL2.length ≤ k + 1 by rw [hWL2]; simp; omega)
          have HXD := hid (show (offerL (D : Int) x xs).length ≤ D by rw [HL.out]; simp; omega)
          have HWT := hid (show ((xs.length : Nat) : Int) + 1 = ((offerL (D : Int) x xs).length : Nat) by rw [HL.out]; simp)
          obtain ⟨p2, hp2⟩ : ∃ q : Nat, q = p := ⟨_, rfl⟩
          have HP2 := hid (show offerP (D : Int) (p : Nat) xs = (p2 : Nat) by rw [HP.out, hp2])
          have HDR := hid (show (p : Int) = (p2 : Nat) by rw [hp2])
          have HPK := hid (show p2 ≤ k + 1 by omega)
          clear hoq hoq' hgq hatq hWL2 hp2 HBW HBB HOU HOG HAU HAG HHO HS1 HG HG2 HG3 HL HP HWL hWk hx
          have hx := (hbq.cell (by exact hbw)).trans HX.out
          have c0 := (b0.cell 0).trans rfl
          have c1 := (b0.cell 1).trans rfl
          have c2 := (b0.cell 2).trans rfl
          have HBQ := hid hbq
          have BQ := hid b0
          clear b0 hbq hfull
          go_wp2_with fail
        case' neg =>
          have HL := hid (show offerL (D : Int) x xs = xs by rw [offerL, if_pos (by omega)])
          have HP := hid (show offerP (D : Int) (p : Nat) xs = (p : Int) + 1 by rw [offerP, if_pos (by omega)]; unfold wrap64; omega)
          obtain ⟨wq, hwq⟩ : ∃ q, q = wr := ⟨_, rfl⟩
          have OU := hid ou
          have OG := hid og
          have OW := hid ow
          have AU := hid auw
          have AG := hid agw
          obtain ⟨WL2, hWL2⟩ : ∃ q, q = WL := ⟨_, rfl⟩
          have HW2 := hid (show WL = GL ++ offerL (D : Int) x xs by rw [HL.out, HWL.out])
          have HWk := hid (show WL.length ≤ k + 1 by omega)
          have HXD := hid (show (offerL (D : Int) x xs).length ≤ D by rw [HL.out]; exact hxD)
          have HWT := hid (show ((xs.length : Nat) : Int) = ((offerL (D : Int) x xs).length : Nat) by rw [HL.out])
          obtain ⟨p2, hp2⟩ : ∃ q : Nat, q = p + 1 := ⟨_, rfl⟩
          have HP2 := hid (show offerP (D : Int) (p : Nat) xs = (p2 : Nat) by rw [HP.out, hp2]; omega)
          have HDR := hid (show (p : Int) + 1 = (p2 : Nat) by rw [hp2]; omega)
          have HPK := hid (show p2 ≤ k + 1 by omega)
          clear hWL2 hp2 ou og ow auw agw HL HP HWL hWk hwq
          have c0 := (b0.cell 0).trans rfl
          have c1 := (b0.cell 1).trans rfl
          have c2 := (b0.cell 2).trans rfl
          have HBQ := hid hbel
          have BQ := hid b0
          clear b0 hbel
          go_wp2_with fail
        all_goals
          have HS := hid (Sees.of_owns OU.out).drew
          have B0 := hid BQ.out.drew
          have HBW := hid HBQ.out.drew
          have OW0 := hid OW.out.drew
          have OG0 := hid OG.out.drew
          clear BQ HBQ OW OG OU AU
          go_region_with (go_at_call 13
                          refine (offer_any (D : Int) (p : Nat) x _ xs _ HS.out (by omega) HDD.out (by omega)).mono ?_
                          rintro e w2 ⟨u2, rfl, ho2, hb2⟩
                          obtain ⟨va, vl, vc, rfl⟩ := owns_slice6 ho2
                          have b2 := B0.out.belowAll hb2
                          have f2 := b2.free
                          have e0 := (b2.cell 0).trans rfl
                          have e1 := (b2.cell 1).trans rfl
                          have e2 := (b2.cell 2).trans rfl
                          have B2 := hid b2
                          have HO2 := hid ho2
                          have HB2 := hid (HBW.out.trans (hb2.mono HBW.out.size))
                          have OW2 := hid (owns_below OW0.out hb2)
                          have OG2 := hid (owns_below OG0.out hb2)
                          have AU2 := hid (Apart.fresh OW0.out ho2 (Nat.le_refl _)).symm
                          rw [HP2.out]
                          clear b2 ho2 hb2)
        all_goals
          have B3 := hid (B2.out.set3 (.int .i64 (D : Int)) (.slice va vl vc) (.int .i64 (p2 : Nat)))
          have hlt1 : w1.heap.size < w1.heap.size + 1 := Nat.lt_succ_self _
          have set3own : ∀ (b : Nat) (v : Value) (xs : List Int), OwnI w2 b v xs → w1.heap.size + 1 ≤ b → OwnI (((w2.setCell ⟨w1.heap.size, 0, none⟩ (.int .i64 (D : Int))).setCell ⟨w1.heap.size, 1, none⟩ (.slice va vl vc)).setCell ⟨w1.heap.size, 2, none⟩ (.int .i64 (p2 : Nat))) (w1.heap.size + 1) v xs :=
            fun b v xs h hb => owns_base (ownsRow_setCell_below (a := ⟨w1.heap.size, 2, none⟩) (ownsRow_setCell_below (a := ⟨w1.heap.size, 1, none⟩) (ownsRow_setCell_below (a := ⟨w1.heap.size, 0, none⟩) h hb (.int .i64 (D : Int))) hb (.slice va vl vc)) hb (.int .i64 (p2 : Nat))) hb
          have OU3 := hid (set3own _ _ _ HO2.out B0.out.lt)
          have OW3 := hid (set3own _ _ _ OW2.out (Nat.le_refl _))
          have OG3 := hid (set3own _ _ _ OG2.out (Nat.le_refl _))
          have HB3 := hid (((HB2.out.setCell (p := ⟨w1.heap.size, 0, none⟩) hsz (.int .i64 (D : Int))).setCell (p := ⟨w1.heap.size, 1, none⟩) hsz (.slice va vl vc)).setCell (p := ⟨w1.heap.size, 2, none⟩) hsz (.int .i64 (p2 : Nat)))
          clear set3own hlt1 e0 e1 e2 f2 B2 HO2 HB2 HBW HS B0 OW2 OG2 OW0 OG0 HP2
          generalize ((w2.setCell ⟨w1.heap.size, 0, none⟩ (.int .i64 (D : Int))).setCell ⟨w1.heap.size, 1, none⟩ (.slice va vl vc)).setCell ⟨w1.heap.size, 2, none⟩ (.int .i64 (p2 : Nat)) = W3 at *
          have e0 := (B3.out.cell 0).trans rfl
          have e1 := (B3.out.cell 1).trans rfl
          have e2 := (B3.out.cell 2).trans rfl
          generalize offerL (D : Int) x xs = xs2 at *
          by_cases hgv : k < bs.length ∧ bs.getD k false = true
          · obtain ⟨hg1, hg2⟩ := hgv
            obtain ⟨bb, boff, rfl, hbbw, hbc⟩ := HE.out (by omega)
            have hy := (HB3.out.cell (by exact hbbw)).trans (hbc k hg1)
            rw [hg2] at hy
            clear hbc hg2 HE
            go_wp2_with fail
            refine (give_any (D : Int) _ _ xs2 _ (Sees.of_owns OU3.out) (by have := HXD.out; omega)).mono ?_
            rintro e w4 ⟨u4, rfl, ho4, hb4⟩
            obtain ⟨a4, l4, k4, rfl⟩ := owns_slice6 ho4
            have hbn : Below w4.heap.size w4 (w4.alloc (.cells #[.int .i64 (D : Int), .slice none 0 0, .int .i64 (p2 : Nat)] 24)) := (Below.refl _ _).alloc (Nat.le_refl _) _
            have BY := hid (BoxAt.new w4 24 #[.int .i64 (D : Int), .slice none 0 0, .int .i64 (p2 : Nat)])
            have B5 := hid ((B3.out.belowAll hb4).alloc (.cells #[.int .i64 (D : Int), .slice none 0 0, .int .i64 (p2 : Nat)] 24))
            have OW5 := hid ((owns_below OW3.out hb4).alloc (.cells #[.int .i64 (D : Int), .slice none 0 0, .int .i64 (p2 : Nat)] 24))
            have OG5 := hid ((owns_below OG3.out hb4).alloc (.cells #[.int .i64 (D : Int), .slice none 0 0, .int .i64 (p2 : Nat)] 24))
            have HGL := hid (owned_below (owns_below OG3.out hb4))
            have HS5 := hid ((Sees.of_owns ho4).below hbn)
            have HB5 := hid (HB3.out.trans ((hb4.trans (hbn.mono hb4.size)).mono HB3.out.size))
            have HG := hid (show GL.length + xs2.length ≤ maxLen by have := HXD.out; unfold maxLen; omega)
            have HG2 := hid (show (GL.length + xs2.length) * 8 ≤ 140737488355328 by have := HXD.out; omega)
            have HG3 := hid (show w1.heap.size + 1 ≤ (w4.alloc (.cells #[.int .i64 (D : Int), .slice none 0 0, .int .i64 (p2 : Nat)] 24)).heap.size from B5.out.lt)
            clear ho4 hb4 hbn B3 OW3 OG3 OU3 HB3 e0 e1 e2
            go_wp2_with (at_builtin; refine wpList_append_at rfl _ _ 22 rfl (w1.heap.size + 1) 3 i0 (.int .i64 0) 8 Try.underlying22 hi hz0 hz1 hz2 rfl .i64 _ _ _ rfl OG5.out _ xs2 rfl HS5.out HG.out HG2.out HG3.out ?_)
            intro vg2 w6 ho6 hg6 hat6
            have OG6 := hid (show OwnI w6 (w1.heap.size + 1) vg2 (GL ++ xs2) by unfold OwnI; simpa using ho6)
            have OW6 := hid (OW5.out.kept hg6 AG.out.symm.ne)
            have AG6 := hid (AG.out.symm.grown OW5.out (by simpa using hat6)).symm
            have b6 := B5.out.grown hg6 (fun e => by have := (HGL.out _ e.symm).1; omega)
            have y6 := BY.out.grown hg6 (fun e => by have := (HGL.out _ e.symm).2; omega)
            have hB6 := HB5.out.grown hg6 HB5.out.size (fun j hj => by have := (HGL.out _ hj).1; omega)
            have f6 := b6.free
            have e0 := (b6.cell 0).trans rfl
            have e1 := (b6.cell 1).trans rfl
            have e2 := (b6.cell 2).trans rfl
            have y0 := (y6.cell 0).trans rfl
            have y1 := (y6.cell 1).trans rfl
            have y2 := (y6.cell 2).trans rfl
            have B6 := hid b6
            have HB6 := hid hB6
            clear b6 y6 hB6 ho6 hg6 hat6 BY B5 OW5 OG5 HGL HS5 HB5 HG HG2 HG3
            go_wp2
            go_roundw
            case rel =>
              refine ⟨k + 1, .slice none 0 0, [], GL ++ xs2, _, p2, by rw [List.append_nil]; exact HW2.out, by omega, by go_num, rfl, congrArg _ HDR.out, by simp, HPK.out, HWk.out, B6.out.set3 _ _ _, World.ownsRow_nil _ _ _ _, ?_, ?_, Apart.nil _, AG6.out, ?_⟩
              · exact ownsRow_setCell_below (ownsRow_setCell_below (ownsRow_setCell_below OW6.out (by simp) _) (by simp) _) (by simp) _
              · exact ownsRow_setCell_below (ownsRow_setCell_below (ownsRow_setCell_below OG6.out (by simp) _) (by simp) _) (by simp) _
              · exact ((HB6.out.setCell hsz _).setCell hsz _).setCell hsz _
            case measure => simp [intOf]; omega
          · have hgc : ¬ k < bs.length ∨ (k < bs.length ∧ bs.getD k false = false) := by
              by_cases h : k < bs.length
              · exact .inr ⟨h, by cases hq : bs.getD k false with | false => rfl | true => exact absurd ⟨h, hq⟩ hgv⟩
              · exact .inl h
            clear hgv
            rcases hgc with hg1 | ⟨hg1, hg2⟩
            · clear HE
              go_wp2
              go_roundw
              case rel => exact ⟨k + 1, _, xs2, GL, _, p2, HW2.out, by omega, by go_num, congrArg _ HWT.out, congrArg _ HDR.out, HXD.out, HPK.out, HWk.out, B3.out, OU3.out, OW3.out, OG3.out, AU2.out, AG.out, HB3.out⟩
              case measure => simp [intOf]; omega
            · obtain ⟨bb, boff, rfl, hbbw, hbc⟩ := HE.out (by omega)
              have hy := (HB3.out.cell (by exact hbbw)).trans (hbc k hg1)
              rw [hg2] at hy
              clear hbc hg2 HE
              go_wp2
              go_roundw
              case rel => exact ⟨k + 1, _, xs2, GL, _, p2, HW2.out, by omega, by go_num, congrArg _ HWT.out, congrArg _ HDR.out, HXD.out, HPK.out, HWk.out, B3.out, OU3.out, OW3.out, OG3.out, AU2.out, AG.out, HB3.out⟩
              case measure => simp [intOf]; omega
      · obtain rfl : k = l.length := by omega
        have c0 := (b0.cell 0).trans rfl
        have c1 := (b0.cell 1).trans rfl
        have c2 := (b0.cell 2).trans rfl
        have HS := hid (Sees.of_owns ou)
        have OW := hid ow
        have OG := hid og
        have AG := hid agw
        have HB := hid hbel
        have hlt1 := b0.lt
        clear b0 ou ow og auw agw hbel HC HE
        go_wp2_with fail
        refine (give_any (D : Int) _ _ xs _ HS.out (by omega)).mono ?_
        rintro e w4 ⟨u4, rfl, ho4, hb4⟩
        obtain ⟨a4, l4, k4, rfl⟩ := owns_slice6 ho4
        have hbn : Below w4.heap.size w4 (w4.alloc (.cells #[.int .i64 (D : Int), .slice none 0 0, .int .i64 (p : Nat)] 24)) := (Below.refl _ _).alloc (Nat.le_refl _) _
        have BY := hid (BoxAt.new w4 24 #[.int .i64 (D : Int), .slice none 0 0, .int .i64 (p : Nat)])
        have OW5 := hid ((owns_below OW.out hb4).alloc (.cells #[.int .i64 (D : Int), .slice none 0 0, .int .i64 (p : Nat)] 24))
        have OG5 := hid ((owns_below OG.out hb4).alloc (.cells #[.int .i64 (D : Int), .slice none 0 0, .int .i64 (p : Nat)] 24))
        have HGL := hid (owned_below (owns_below OG.out hb4))
        have HS5 := hid ((Sees.of_owns ho4).below hbn)
        have HB5 := hid (HB.out.trans ((hb4.trans (hbn.mono hb4.size)).mono HB.out.size))
        have HG := hid (show GL.length + xs.length ≤ maxLen by unfold maxLen; omega)
        have HG2 := hid (show (GL.length + xs.length) * 8 ≤ 140737488355328 by omega)
        have HG3 := hid (show w1.heap.size + 1 ≤ (w4.alloc (.cells #[.int .i64 (D : Int), .slice none 0 0, .int .i64 (p : Nat)] 24)).heap.size by have := hb4.size; simp; omega)
        clear ho4 hb4 hbn OW OG HB c0 c1 c2 HS
        go_wp2_with (at_builtin; refine wpList_append_at rfl _ _ 22 rfl (w1.heap.size + 1) 3 i0 (.int .i64 0) 8 Try.underlying22 hi hz0 hz1 hz2 rfl .i64 _ _ _ rfl OG5.out _ xs rfl HS5.out HG.out HG2.out HG3.out ?_)
        intro vg2 w6 ho6 hg6 hat6
        have OG6 := hid (show OwnI w6 (w1.heap.size + 1) vg2 (GL ++ xs) by unfold OwnI; simpa using ho6)
        have OW6 := hid (OW5.out.kept hg6 AG.out.symm.ne)
        have y6 := BY.out.grown hg6 (fun e => by have := (HGL.out _ e.symm).2; omega)
        have HB6 := hid (HB5.out.grown hg6 HB5.out.size (fun j hj => by have := (HGL.out _ hj).1; omega))
        have Y6 := hid y6
        clear y6 ho6 hg6 hat6 BY OW5 OG5 HGL HS5 HB5 HG HG2 HG3 AG
        go_wp2_with fail
        refine (same_any _ _ (GL ++ xs) WL _ (Sees.of_owns OG6.out) (Sees.of_owns OW6.out)).mono ?_
        rintro e w7 ⟨rfl, hb7⟩
        rw [decide_eq_true (show GL ++ xs = WL from HWL.out.symm)]
        have y7 := Y6.out.belowAll hb7
        have y2 := (y7.cell 2).trans rfl
        have HB7 := hid (HB6.out.trans (hb7.mono HB6.out.size))
        clear y7 hb7 HB6 Y6 OG6 OW6
        go_wp2
        go_ret
        exact ⟨rfl, HB7.out⟩
  · have hn : 100 < l.length ∨ (l.length ≤ 100 ∧ d < 0) ∨ (l.length ≤ 100 ∧ 0 ≤ d ∧ 8 < d) := by omega
    clear hg
    rcases hn with h1 | ⟨h1, h2⟩ | ⟨h1, h2, h3⟩
    all_goals
      go_wp2
      go_ret
      exact ⟨rfl, hb1⟩
end Go.Proofs.Ytdmdpfjnbifegaa
