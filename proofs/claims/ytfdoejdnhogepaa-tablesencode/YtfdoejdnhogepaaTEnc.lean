/-
  The law TablesEncode returns true, whatever it is given, and nothing that was there is written.
-/
import Derived.Test.YtfdoejdnhogepaaTRefI
import Derived.Test.YtfdoejdnhogepaaTAwake
import Derived.Test.YtfdoejdnhogepaaTFew
namespace Go.Proofs.Ytfdoejdnhogepaa
open Go.RowKit
set_option linter.unusedVariables false

set_option maxRecDepth 100000 in
set_option maxHeartbeats 3200000 in
theorem walk_TablesEncode (w : World) (x : CfX) (hx : x.fit w) :
    Calls Try.prog 3 #[x.val] w fun e w' => e = .returned (.bool true) ∧ Below w.heap.size w w' := by
  have hnot := Try.hnot
  obtain ⟨⟨fr, sw, ⟨a1, n1, k1⟩, ⟨a2, n2, k2⟩, ⟨a3, n3, k3⟩, ⟨a4, n4, k4⟩⟩, c⟩ := x
  obtain ⟨hS, hf, _⟩ := hx
  simp only at hS hf
  have HS := hid hS
  have HF := hid hf
  clear hS hf
  unfold CfX.val Cv.val
  go_enter Try.func3, Try.ntmps3
  go_wp2_with fail
  refine (awake_any _).mono ?_
  rintro e w1 ⟨rfl, hb⟩
  have B1 : BoxAt w1 w.heap.size 27 #[.int .i64 fr, .int .i64 sw, .slice a1 n1 k1, .slice a2 n2 k2, .slice a3 n3 k3, .slice a4 n4 k4] := (BoxAt.new w _ _).belowAll hb
  have hB1 : Below w.heap.size w w1 := ((Below.refl _ _).alloc (Nat.le_refl _) _).trans (hb.mono (by simp))
  have c0 := (B1.cell 0).trans rfl
  have c1 := (B1.cell 1).trans rfl
  have c2 := (B1.cell 2).trans rfl
  have c3 := (B1.cell 3).trans rfl
  have c4 := (B1.cell 4).trans rfl
  have c5 := (B1.cell 5).trans rfl
  have HB1 := hid B1
  clear hb B1
  go_wp2_with fail
  refine (few_any ⟨fr, sw, ⟨a1, n1, k1⟩, ⟨a2, n2, k2⟩, ⟨a3, n3, k3⟩, ⟨a4, n4, k4⟩⟩ c _ (HS.out.below hB1)).mono ?_
  rintro e w2 ⟨⟨ok, rfl⟩, hb⟩
  have B2 := HB1.out.belowAll hb
  have hB2 := hB1.trans (hb.mono hB1.size)
  clear hb hB1 HB1 c0 c1 c2 c3 c4 c5
  cases ok
  · clear HS HF B2
    go_wp2
    go_ret
    exact ⟨rfl, hB2⟩
  have c0 := (B2.cell 0).trans rfl
  have c1 := (B2.cell 1).trans rfl
  have c2 := (B2.cell 2).trans rfl
  have c3 := (B2.cell 3).trans rfl
  have c4 := (B2.cell 4).trans rfl
  have c5 := (B2.cell 5).trans rfl
  have HB2 := hid B2
  clear B2
  obtain ⟨ee, hee⟩ : ∃ x, encE c = x := ⟨_, rfl⟩
  obtain ⟨mm, hmm⟩ : ∃ x, mayC c = x := ⟨_, rfl⟩
  have HE := hid hee
  have HM := hid hmm
  clear hee hmm
  go_wp2_with fail
  refine (enc_any ⟨fr, sw, ⟨a1, n1, k1⟩, ⟨a2, n2, k2⟩, ⟨a3, n3, k3⟩, ⟨a4, n4, k4⟩⟩ c _ (HS.out.below hB2) HF.out).mono ?_
  rintro e w3 ⟨u, rfl, ho3, hb⟩
  rw [HE.out]
  have B3 := HB2.out.belowAll hb
  have hB3 := hB2.trans (hb.mono hB2.size)
  have HO3 := hid ho3
  clear hb hB2 HB2 ho3 c0 c1 c2 c3 c4 c5
  have c0 := (B3.cell 0).trans rfl
  have c1 := (B3.cell 1).trans rfl
  have c2 := (B3.cell 2).trans rfl
  have c3 := (B3.cell 3).trans rfl
  have c4 := (B3.cell 4).trans rfl
  have c5 := (B3.cell 5).trans rfl
  have HB3 := hid B3
  clear B3
  go_wp2_with fail
  refine (renc_any ⟨fr, sw, ⟨a1, n1, k1⟩, ⟨a2, n2, k2⟩, ⟨a3, n3, k3⟩, ⟨a4, n4, k4⟩⟩ c _ (HS.out.below hB3) HF.out).mono ?_
  rintro e w4 ⟨u2, rfl, ho4, hb⟩
  rw [HE.out]
  have B4 := HB3.out.belowAll hb
  have hB4 := hB3.trans (hb.mono hB3.size)
  replace HO3 := hid (owns_below HO3.out hb)
  have HO4 := hid ho4
  clear hb hB3 HB3 ho4 c0 c1 c2 c3 c4 c5
  have c0 := (B4.cell 0).trans rfl
  have c1 := (B4.cell 1).trans rfl
  have c2 := (B4.cell 2).trans rfl
  have c3 := (B4.cell 3).trans rfl
  have c4 := (B4.cell 4).trans rfl
  have c5 := (B4.cell 5).trans rfl
  have HB4 := hid B4
  clear B4
  go_wp2_with fail
  refine (rmayc_any ⟨fr, sw, ⟨a1, n1, k1⟩, ⟨a2, n2, k2⟩, ⟨a3, n3, k3⟩, ⟨a4, n4, k4⟩⟩ c _ (HS.out.below hB4) HF.out).mono ?_
  rintro e w5 ⟨rfl, hb⟩
  rw [HM.out]
  have B5 := HB4.out.belowAll hb
  have hB5 := hB4.trans (hb.mono hB4.size)
  have s1 : (convert 30 9 u).run Try.prog w5 = .ok (.string (strOfNums (encB c))) w5 := (Sees.of_owns (owns_below HO3.out hb)).str _ _ _ Try.underlying30 Try.underlying5 Try.underlying9
  have s2 : (convert 30 9 u2).run Try.prog w5 = .ok (.string (strOfNums (encB c))) w5 := (Sees.of_owns (owns_below HO4.out hb)).str _ _ _ Try.underlying30 Try.underlying5 Try.underlying9
  clear hb hB4 HB4 HO3 HO4 c0 c1 c2 c3 c4 c5
  generalize strOfNums (encB c) = ss at *
  have c0 := (B5.cell 0).trans rfl
  have c1 := (B5.cell 1).trans rfl
  have c2 := (B5.cell 2).trans rfl
  have c3 := (B5.cell 3).trans rfl
  have c4 := (B5.cell 4).trans rfl
  have c5 := (B5.cell 5).trans rfl
  clear B5
  go_wp2_with fail
  refine (tmay_any ⟨fr, sw, ⟨a1, n1, k1⟩, ⟨a2, n2, k2⟩, ⟨a3, n3, k3⟩, ⟨a4, n4, k4⟩⟩ c _ (HS.out.below hB5) HF.out).mono ?_
  rintro e w6 ⟨rfl, hb⟩
  rw [HM.out]
  have hB6 := hB5.trans (hb.mono hB5.size)
  clear hb hB5 s1 s2 c0 c1 c2 c3 c4 c5 HS HF
  cases mm
  · go_wp2
    go_ret
    exact ⟨rfl, hB6⟩
  · go_wp2
    go_ret
    exact ⟨rfl, hB6⟩
end Go.Proofs.Ytfdoejdnhogepaa
