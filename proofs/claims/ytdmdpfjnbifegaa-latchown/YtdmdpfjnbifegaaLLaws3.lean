/-
  LatchOwn returns true, whatever it is given, and nothing that was there is written.
-/
import Derived.Test.YtdmdpfjnbifegaaLLaws1
namespace Go.Proofs.Ytdmdpfjnbifegaa
open Go.RowKit
set_option linter.unusedVariables false

theorem snoc_getD (xs : List Int) (a : Int) : (xs ++ [a]).getD xs.length 0 = a := by simp [List.getD]

set_option maxRecDepth 100000 in
set_option maxHeartbeats 800000 in
theorem walk_LatchOwn (w : World) (l : Lt) (hl : l.fit w) (a : Int) (ha : (Lit.int .i64 a).wf = true) (b : Int) (hb : (Lit.int .i64 b).wf = true) :
    Calls Try.prog 5 #[l.val, .int .i64 a, .int .i64 b] w fun e w' => e = .returned (.bool true) ∧ Below w.heap.size w w' := by
  clear ha hb
  obtain ⟨i0, hi, hz0, hz1, hz2⟩ := info_parts Try.infoI6
  obtain ⟨d, v, p, xs⟩ := l
  obtain ⟨hs, hd, hp⟩ := hl
  simp only at hs hd hp
  unfold Lt.val
  simp only
  have HV := hid hs
  obtain ⟨ad, cap, rfl, hc1, hc2, _⟩ := hs.form
  clear hs
  unfold maxLen at hc2
  have hbA : Below w.heap.size w (w.alloc (.cells #[.int .i64 d, .slice ad xs.length cap, .int .i64 p] 24)) := (Below.refl _ _).alloc (Nat.le_refl _) _
  have b0 := BoxAt.new w 24 #[.int .i64 d, .slice ad xs.length cap, .int .i64 p]
  go_enter Try.func5, Try.ntmps5
  go_wp2_with fail
  refine (awake6_any _).mono ?_
  rintro e w1 ⟨rfl, hb1⟩
  replace b0 := b0.belowAll hb1
  have hB1 := hbA.trans (hb1.mono hbA.size)
  have c0 := b0.cell 0
  have c1 := b0.cell 1
  have c2 := b0.cell 2
  simp at c0 c1 c2
  clear hbA hb1
  have HD := hid hd
  have HP := hid hp
  by_cases hlen : xs.length ≤ 100
  · have B0 := hid b0
    have HB1 := hid hB1
    have HV1 := hid (HV.out.below hB1)
    have HM := hid (show 0 + xs.length ≤ maxLen by unfold maxLen; omega)
    clear b0 hB1
    go_wp2_with (at_builtin; refine wpList_append_sees rfl _ _ 22 rfl w1.heap.size 3 i0 (.int .i64 0) 8 Try.underlying22 hi hz0 hz1 hz2 rfl .i64 (.slice none 0 0) 0 [] rfl (World.ownsRow_nil _ _ _ _) _ xs rfl HV1.out HM.out (by omega) (Nat.le_refl _) ?_)
    intro v2 w2 ho2 hg2
    have hb2 : Below w1.heap.size w1 w2 := (Below.refl _ _).grown hg2 (Nat.le_refl _) (by simp [Value.ownBlock])
    have hs2 : Sees w2 .i64 v2 xs := Sees.of_owns (base := w1.heap.size) (e := 3) (n := xs.length) (by simpa using ho2)
    obtain ⟨a2, k2, rfl, _, _, _⟩ := hs2.form
    have b0 := B0.out.belowAll hb2
    replace c0 := (b0.cell 0).trans rfl
    replace c1 := (b0.cell 1).trans rfl
    replace c2 := (b0.cell 2).trans rfl
    have HB2 := hid (HB1.out.trans (hb2.mono HB1.out.size))
    have HS2 := hid hs2
    have B0' := hid b0
    clear b0 hb2 ho2 hg2 HB1 B0 HV1 hs2
    go_wp2_with fail
    refine (offer_any d p a _ xs _ (HV.out.below HB2.out) (by omega) HD.out HP.out).mono ?_
    rintro e w3 ⟨u3, rfl, ho3, hb3⟩
    obtain ⟨q, hq⟩ : ∃ q, offerP d p xs = q := ⟨_, rfl⟩
    rw [hq]
    have HQ := hid hq
    clear hq
    have b0 := B0'.out.belowAll hb3
    have hs3 : Sees w3 .i64 u3 (offerL d a xs) := Sees.of_owns ho3
    obtain ⟨a3, k3, rfl, _, _, _⟩ := hs3.form
    replace c0 := b0.cellA 0 _ rfl
    replace c1 := b0.cellA 1 _ rfl
    replace c2 := b0.cellA 2 _ rfl
    have bx := BoxAt.new w3 24 #[.int .i64 d, .slice a3 (offerL d a xs).length k3, .int .i64 q]
    have hbx : Below w3.heap.size w3 (w3.alloc (.cells #[.int .i64 d, .slice a3 (offerL d a xs).length k3, .int .i64 q] 24)) := (Below.refl _ _).alloc (Nat.le_refl _) _
    have HB3 := hid (HB2.out.trans ((hb3.trans (hbx.mono hb3.size)).mono HB2.out.size))
    have HS2' := hid ((HS2.out.below hb3).below hbx)
    have HS3 := hid (hs3.below hbx)
    have B0 := hid (b0.alloc (.cells #[.int .i64 d, .slice a3 (offerL d a xs).length k3, .int .i64 q] 24))
    have BX := hid bx
    clear b0 bx hbx hb3 ho3 hs3 HB2 HS2 B0'
    go_wp2_with fail
    refine (offer_any d p b _ xs _ (HV.out.below HB3.out) (by omega) HD.out HP.out).mono ?_
    rintro e w4 ⟨u4, rfl, ho4, hb4⟩
    rw [HQ.out]
    have b0 := B0.out.belowAll hb4
    have bx := BX.out.belowAll hb4
    have hs4 : Sees w4 .i64 u4 (offerL d b xs) := Sees.of_owns ho4
    obtain ⟨a4, k4, rfl, _, _, _⟩ := hs4.form
    replace c0 := b0.cellA 0 _ rfl
    replace c1 := b0.cellA 1 _ rfl
    replace c2 := b0.cellA 2 _ rfl
    have by_ := BoxAt.new w4 24 #[.int .i64 d, .slice a4 (offerL d b xs).length k4, .int .i64 q]
    have hby : Below w4.heap.size w4 (w4.alloc (.cells #[.int .i64 d, .slice a4 (offerL d b xs).length k4, .int .i64 q] 24)) := (Below.refl _ _).alloc (Nat.le_refl _) _
    have HB4 := hid (HB3.out.trans ((hb4.trans (hby.mono hb4.size)).mono HB3.out.size))
    have HS2 := hid ((HS2'.out.below hb4).below hby)
    have HS3' := hid ((HS3.out.below hb4).below hby)
    have HS4 := hid (hs4.below hby)
    have BX' := hid (bx.alloc (.cells #[.int .i64 d, .slice a4 (offerL d b xs).length k4, .int .i64 q] 24))
    have BY := hid by_
    clear b0 bx by_ hby hb4 ho4 hs4 HB3 HS2' HS3 B0 BX
    go_wp2_with fail
    refine (same_any _ _ xs xs _ (HV.out.below HB4.out) HS2.out).mono ?_
    rintro e w5 ⟨rfl, hb5⟩
    rw [decide_eq_true (rfl : xs = xs)]
    have bx := BX'.out.belowAll hb5
    have by_ := BY.out.belowAll hb5
    have HB5 := hid (HB4.out.trans (hb5.mono HB4.out.size))
    have hs3 := HS3'.out.below hb5
    have hs4 := HS4.out.below hb5
    have x1 := (bx.cell 1).trans rfl
    have x2 := (bx.cell 2).trans rfl
    have y1 := (by_.cell 1).trans rfl
    have y2 := (by_.cell 2).trans rfl
    clear bx by_ hb5 BX' BY HB4 HS2 HS3' HS4 c0 c1 c2
    by_cases h : d ≤ xs.length
    · have e1 : offerL d a xs = xs := by rw [offerL, if_pos h]
      have e2 : offerL d b xs = xs := by rw [offerL, if_pos h]
      rw [e1] at x1 hs3 ⊢
      rw [e2] at y1 hs4 ⊢
      clear e1 e2 hs3 hs4
      go_wp2
      go_ret
      exact ⟨rfl, HB5.out⟩
    · have e1 : offerL d a xs = xs ++ [a] := by rw [offerL, if_neg h]
      have e2 : offerL d b xs = xs ++ [b] := by rw [offerL, if_neg h]
      rw [e1] at x1 hs3 ⊢
      rw [e2] at y1 hs4 ⊢
      obtain ⟨ax, kx, hvx, hx1, hx2, hx3⟩ := hs3.form
      obtain ⟨ay, ky, hvy, hy1, hy2, hy3⟩ := hs4.form
      simp only [Value.slice.injEq] at hvx hvy
      obtain ⟨rfl, _, rfl⟩ := hvx
      obtain ⟨rfl, _, rfl⟩ := hvy
      obtain ⟨gx, ox, rfl, _, hcx⟩ := hx3 (by simp)
      obtain ⟨gy, oy, rfl, _, hcy⟩ := hy3 (by simp)
      have zx := hcx xs.length (by simp)
      have zy := hcy xs.length (by simp)
      rw [snoc_getD] at zx zy
      simp only [List.length_append, List.length_singleton] at x1 y1 hx1 hy1 ⊢
      unfold maxLen at hx2 hy2
      clear e1 e2 hs3 hs4 hx3 hy3 hcx hcy
      go_wp2
      go_ret
      exact ⟨rfl, HB5.out⟩
  · clear b0
    go_wp2
    go_ret
    exact ⟨rfl, hB1⟩
end Go.Proofs.Ytdmdpfjnbifegaa
