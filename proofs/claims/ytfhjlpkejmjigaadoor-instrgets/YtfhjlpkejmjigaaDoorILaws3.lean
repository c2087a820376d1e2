/-
  InstrPuts and InstrGets return true, whatever they are given, and nothing that was there is written.
-/
import Derived.Test.YtfhjlpkejmjigaaDoorILaws1
import Derived.Test.YtfhjlpkejmjigaaDoorISame
import Derived.Test.YtfhjlpkejmjigaaDoorIRefPut
import Derived.Test.YtfhjlpkejmjigaaDoorIRefUp
namespace Go.Proofs.YtfhjlpkejmjigaaDoor
open Go.RowKit
set_option linter.unusedVariables false

set_option maxRecDepth 100000 in
set_option maxHeartbeats 1600000 in
theorem walk_InstrPuts (w : World) (hL : Laid w) (i : In) (hf : i.fit) (vl : Value) (l : List In) (hv : SeesI w vl l) (hfl : ∀ r ∈ l, r.fit) :
    Calls Tryd.prog 3 #[i.val, vl] w fun e w' => e = .returned (.bool true) ∧ Below w.heap.size w w' := by
  obtain ⟨la, lc, rfl, hc1, hc2, _⟩ := hv.form
  unfold maxLen at hc2
  have HL := hid hL
  have HV := hid hv
  clear hL hf hv hfl
  obtain ⟨o, a, b⟩ := i
  have HB := hid (alloc_belowI w (.cells #[.int .i64 o, .int .i64 a, .int .i64 b] 23))
  unfold In.val
  simp only
  go_enter Tryd.func3, Tryd.ntmps3
  go_wp2_with fail
  refine (iawake_any _ (HL.out.below HB.out)).mono ?_
  rintro e w1 ⟨rfl, hb1⟩
  have hbw := HB.out.trans (hb1.mono HB.out.size)
  have hx : ∀ w', Below w1.heap.size w1 w' → w'.cell? ⟨w.heap.size, 0, none⟩ = some (.int .i64 o) ∧ w'.cell? ⟨w.heap.size, 1, none⟩ = some (.int .i64 a) ∧ w'.cell? ⟨w.heap.size, 2, none⟩ = some (.int .i64 b) := by
    intro w' hb
    have hb' := hb1.trans (hb.mono hb1.size)
    exact ⟨(hb'.cell (by simp)).trans (by simp), (hb'.cell (by simp)).trans (by simp), (hb'.cell (by simp)).trans (by simp)⟩
  have HX := hid hx
  clear hx hb1 HB
  by_cases hl : 200 < l.length
  · go_wp2
    go_ret
    exact ⟨rfl, hbw⟩
  obtain ⟨x0, x1, x2⟩ := HX.out _ (Below.refl _ _)
  go_wp2_with fail
  refine (iput_any ⟨o, a, b⟩ _ (HL.out.below hbw)).mono ?_
  rintro e w2 ⟨u2, rfl, ho2, hb2⟩
  replace hbw := hbw.trans (hb2.mono hbw.size)
  clear x0 x1 x2
  obtain ⟨x0, x1, x2⟩ := HX.out _ hb2
  go_wp2_with fail
  refine (riput_any ⟨o, a, b⟩ _).mono ?_
  rintro e w3 ⟨u3, rfl, ho3, hb3⟩
  replace hbw := hbw.trans (hb3.mono hbw.size)
  have HO2 := hid ((Sees.of_owns ho2).below hb3)
  have HO3 := hid (Sees.of_owns ho3)
  replace hb3 := hb2.trans (hb3.mono hb2.size)
  clear ho2 ho3 hb2 x0 x1 x2
  go_wp2_with fail
  refine (pack_any _ _ _ (HL.out.below hbw) (HV.out.below hbw)).mono ?_
  rintro e w4 ⟨u4, rfl, ho4, hb4⟩
  replace hbw := hbw.trans (hb4.mono hbw.size)
  replace HO2 := hid (HO2.out.below hb4)
  replace HO3 := hid (HO3.out.below hb4)
  replace hb4 := hb3.trans (hb4.mono hb3.size)
  clear hb3
  go_wp2_with fail
  refine (rpack_any _ _ _ (HV.out.below hbw)).mono ?_
  rintro e w5 ⟨u5, rfl, ho5, hb5⟩
  replace hbw := hbw.trans (hb5.mono hbw.size)
  replace HO2 := hid (HO2.out.below hb5)
  replace HO3 := hid (HO3.out.below hb5)
  have HO4 := hid ((Sees.of_owns ho4).below hb5)
  have HO5 := hid (Sees.of_owns ho5)
  replace hb5 := hb4.trans (hb5.mono hb4.size)
  clear hb4 ho4 ho5
  obtain ⟨x0, x1, x2⟩ := HX.out _ hb5
  go_wp2_with fail
  refine (rimay_any ⟨o, a, b⟩ _).mono ?_
  rintro e w6 ⟨rfl, hb6⟩
  replace hbw := hbw.trans (hb6.mono hbw.size)
  have c2 := (HO2.out.below hb6).strI
  have c3 := (HO3.out.below hb6).strI
  have c4 := (HO4.out.below hb6).strI
  have c5 := (HO5.out.below hb6).strI
  replace hb6 := hb5.trans (hb6.mono hb5.size)
  clear hb5 x0 x1 x2 HO2 HO3 HO4 HO5
  obtain ⟨x0, x1, x2⟩ := HX.out _ hb6
  generalize iputB ⟨o, a, b⟩ = y1 at *
  generalize packB l = y2 at *
  generalize iputE ⟨o, a, b⟩ = z1 at *
  generalize packE l = z2 at *
  have hz1 : (z1 == z1) = true := by simp
  have hz2 : (z2 == z2) = true := by simp
  go_wp2_with fail
  refine (imay_any ⟨o, a, b⟩ _ (HL.out.below hbw)).mono ?_
  rintro e w7 ⟨rfl, hb7⟩
  replace hbw := hbw.trans (hb7.mono hbw.size)
  generalize mayI ⟨o, a, b⟩ = q at *
  clear c2 c3 c4 c5 hb6 hb7 x0 x1 x2
  cases q
  all_goals
    go_wp2
    go_ret
    exact ⟨rfl, hbw⟩

set_option maxRecDepth 100000 in
set_option maxHeartbeats 1600000 in
theorem walk_InstrGets (w : World) (hL : Laid w) (v : Value) (l : List Int) (hv : Sees w .u8 v l) (hw : ∀ n ∈ l, (Lit.int .u8 n).wf = true) :
    Calls Tryd.prog 4 #[v] w fun e w' => e = .returned (.bool true) ∧ Below w.heap.size w w' := by
  obtain ⟨a, cap, rfl, hc1, hc2, hcells⟩ := hv.form
  have hm := hc2
  unfold maxLen at hm
  have HY := hid (u8_bdI hw)
  clear hcells hw
  have HV := hid hv
  have HL := hid hL
  clear hv hL
  go_enter Tryd.func4, Tryd.ntmps4
  go_wp2_with fail
  refine (iawake_any _ HL.out).mono ?_
  rintro e w1 ⟨rfl, hbw⟩
  by_cases hl : 2000 < l.length
  · go_wp2
    go_ret
    exact ⟨rfl, hbw⟩
  go_wp2_with fail
  refine (iget_any _ _ _ (HL.out.below hbw) (HV.out.below hbw) HY.out).mono ?_
  rintro e w2 ⟨rfl, hb2⟩
  replace hbw := hbw.trans (hb2.mono hbw.size)
  clear hb2
  have hgen : ∃ x o' i', iget l = (x, o', i') := ⟨_, _, _, rfl⟩
  obtain ⟨⟨xo, xa, xb⟩, xn, xe, hg⟩ := hgen
  rw [hg]
  have HG := hid hg
  clear hg
  unfold In.val
  simp only
  have HB2 := hid (hbw.alloc hbw.size (.cells #[.int .i64 xo, .int .i64 xa, .int .i64 xb] 23))
  have hx : ∀ w', Below (w2.alloc (.cells #[.int .i64 xo, .int .i64 xa, .int .i64 xb] 23)).heap.size (w2.alloc (.cells #[.int .i64 xo, .int .i64 xa, .int .i64 xb] 23)) w' → w'.cell? ⟨w2.heap.size, 0, none⟩ = some (.int .i64 xo) ∧ w'.cell? ⟨w2.heap.size, 1, none⟩ = some (.int .i64 xa) ∧ w'.cell? ⟨w2.heap.size, 2, none⟩ = some (.int .i64 xb) :=
    fun w' hb => ⟨(hb.cell (by simp)).trans (by simp), (hb.cell (by simp)).trans (by simp), (hb.cell (by simp)).trans (by simp)⟩
  have HX := hid hx
  clear hx hbw
  go_wp2_with fail
  refine (riget_any _ _ _ (HV.out.below HB2.out) HY.out).mono ?_
  rintro e w3 ⟨rfl, hb3⟩
  rw [HG.out]
  unfold In.val
  simp only
  have hbw := HB2.out.trans (hb3.mono HB2.out.size)
  have HB3 := hid (hbw.alloc hbw.size (.cells #[.int .i64 xo, .int .i64 xa, .int .i64 xb] 23))
  have HB23 := hid (hb3.alloc (by exact hb3.size) (.cells #[.int .i64 xo, .int .i64 xa, .int .i64 xb] 23))
  have hx3 : ∀ w', Below (w3.alloc (.cells #[.int .i64 xo, .int .i64 xa, .int .i64 xb] 23)).heap.size (w3.alloc (.cells #[.int .i64 xo, .int .i64 xa, .int .i64 xb] 23)) w' → w'.cell? ⟨w3.heap.size, 0, none⟩ = some (.int .i64 xo) ∧ w'.cell? ⟨w3.heap.size, 1, none⟩ = some (.int .i64 xa) ∧ w'.cell? ⟨w3.heap.size, 2, none⟩ = some (.int .i64 xb) :=
    fun w' hb => ⟨(hb.cell (by simp)).trans (by simp), (hb.cell (by simp)).trans (by simp), (hb.cell (by simp)).trans (by simp)⟩
  have HX3 := hid hx3
  clear hx3 hbw hb3 HB2
  go_wp2_with fail
  refine (unpack_any _ _ _ (HL.out.below HB3.out) (HV.out.below HB3.out) HY.out).mono ?_
  rintro e w4 ⟨u4, rfl, ho4, hb4⟩
  have hbw := HB3.out.trans (hb4.mono HB3.out.size)
  go_wp2_with fail
  refine (runpack_any _ _ _ (HV.out.below hbw) HY.out (by omega)).mono ?_
  rintro e w5 ⟨u5, rfl, ho5, hb5⟩
  replace hbw := hbw.trans (hb5.mono hbw.size)
  have HS4 := hid ((SeesI.of_owns rfl ho4).below hb5)
  have HS5 := hid (SeesI.of_owns rfl ho5)
  replace hb5 := hb4.trans (hb5.mono hb4.size)
  clear ho4 ho5 hb4
  go_wp2_with fail
  refine (isame_any _ _ _ _ _ HS4.out HS5.out).mono ?_
  rintro e w6 ⟨rfl, hb6⟩
  rw [sameI_true rfl]
  replace hbw := hbw.trans (hb6.mono hbw.size)
  replace hb6 := hb5.trans (hb6.mono hb5.size)
  obtain ⟨y0, y1, y2⟩ := HX3.out _ hb6
  obtain ⟨x0, x1, x2⟩ := HX.out _ (HB23.out.trans (hb6.mono HB23.out.size))
  clear hb5 hb6 HS4 HS5
  generalize (up l).2 = ue at *
  go_wp2
  go_ret
  exact ⟨rfl, hbw⟩
end Go.Proofs.YtfhjlpkejmjigaaDoor
