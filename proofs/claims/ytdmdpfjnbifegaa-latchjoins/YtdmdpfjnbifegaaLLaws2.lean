/-
  LatchDeep, LatchOwn return true, whatever they are given, and nothing that was there is written.
-/
import Derived.Test.YtdmdpfjnbifegaaLLaws1
namespace Go.Proofs.Ytdmdpfjnbifegaa
open Go.RowKit
set_option linter.unusedVariables false

theorem mayL_true {d : Int} {n : Nat} {p : Int} (h1 : 0 ≤ d) (h2 : d ≤ 8) (h3 : (n : Int) ≤ d) (h4 : 0 ≤ p) : mayL d n p = true := by simp [mayL]; omega
theorem mayL_false {d : Int} {n : Nat} {p : Int} (h : ¬ (0 ≤ d ∧ d ≤ 8 ∧ (n : Int) ≤ d ∧ 0 ≤ p)) : mayL d n p = false := by unfold mayL; exact decide_eq_false h

theorem mayL_offer {d p : Int} {xs : List Int} (h1 : 0 ≤ d) (h2 : d ≤ 8) (h3 : (xs.length : Int) ≤ d) (h4 : 0 ≤ p) (h5 : p < 9223372036854775807) (x : Int) : mayL d (offerL d x xs).length (offerP d p xs) = true := by
  unfold offerL offerP
  split
  · rw [show wrap64 (p + 1) = p + 1 by unfold wrap64; omega]
    exact mayL_true h1 h2 h3 (by omega)
  · exact mayL_true h1 h2 (by simp; omega) h4
theorem offerP_fit (d p : Int) (xs : List Int) (hp : -9223372036854775808 ≤ p ∧ p ≤ 9223372036854775807) : -9223372036854775808 ≤ offerP d p xs ∧ offerP d p xs ≤ 9223372036854775807 := by
  unfold offerP
  split
  · unfold wrap64; omega
  · exact hp

set_option maxRecDepth 100000 in
set_option maxHeartbeats 800000 in
theorem walk_LatchDeep (w : World) (l : Lt) (hl : l.fit w) :
    Calls Try.prog 7 #[l.val] w fun e w' => e = .returned (.bool true) ∧ Below w.heap.size w w' := by
  obtain ⟨d, v, p, xs⟩ := l
  obtain ⟨hs, hd, hp⟩ := hl
  simp only at hs hd hp
  unfold Lt.val
  simp only
  have HV := hid hs
  obtain ⟨a, cap, rfl, hc1, hc2, _⟩ := hs.form
  clear hs
  unfold maxLen at hc2
  have hbA : Below w.heap.size w (w.alloc (.cells #[.int .i64 d, .slice a xs.length cap, .int .i64 p] 24)) := (Below.refl _ _).alloc (Nat.le_refl _) _
  have b0 := BoxAt.new w 24 #[.int .i64 d, .slice a xs.length cap, .int .i64 p]
  go_enter Try.func7, Try.ntmps7
  go_wp2_with fail
  refine (awake6_any _).mono ?_
  rintro e w1 ⟨rfl, hb1⟩
  replace b0 := b0.belowAll hb1
  have hB1 := hbA.trans (hb1.mono hbA.size)
  have c0 := b0.cell 0
  have c1 := b0.cell 1
  have c2 := b0.cell 2
  simp at c0 c1 c2
  clear hbA hb1
  have HD := hid hd
  have HP := hid hp
  by_cases hlen : xs.length ≤ 100
  · have B0 := hid b0
    have HB1 := hid hB1
    clear b0 hB1
    by_cases hm : 0 ≤ d ∧ d ≤ 8 ∧ (xs.length : Int) ≤ d ∧ 0 ≤ p
    · obtain ⟨h1, h2, h3, h4⟩ := hm
      have HM := hid (mayL_true h1 h2 h3 h4)
      have HM2 := hid (mayL_true (n := ([] : List Int).length) h1 h2 (by simpa using h1) h4)
      have HM3 := hid (fun h5 => mayL_offer (p := p) h1 h2 h3 h4 h5 1)
      go_wp2_with fail
      refine (give_any d p _ xs _ (HV.out.below HB1.out) (by omega)).mono ?_
      rintro e w2 ⟨u2, rfl, ho2, hb2⟩
      have b0 := B0.out.belowAll hb2
      replace c0 := b0.cellA 0 _ rfl
      replace c1 := b0.cellA 1 _ rfl
      replace c2 := b0.cellA 2 _ rfl
      have hs2 : Sees w2 .i64 u2 xs := Sees.of_owns ho2
      obtain ⟨a2, k2, rfl, _, _, _⟩ := hs2.form
      have bm := BoxAt.new w2 24 #[.int .i64 d, .slice none 0 0, .int .i64 p]
      have hbm : Below w2.heap.size w2 (w2.alloc (.cells #[.int .i64 d, .slice none 0 0, .int .i64 p] 24)) := (Below.refl _ _).alloc (Nat.le_refl _) _
      have HB2 := hid (HB1.out.trans ((hb2.trans (hbm.mono hb2.size)).mono HB1.out.size))
      have B0' := hid (b0.alloc (.cells #[.int .i64 d, .slice none 0 0, .int .i64 p] 24))
      have BM := hid bm
      clear b0 bm hbm hb2 ho2 B0 HB1 hs2
      go_wp2_with fail
      refine (lmay_any d p _ xs _ (HV.out.below HB2.out) HD.out HP.out).mono ?_
      rintro e w3 ⟨rfl, hb3⟩
      rw [HM.out]
      have b0 := B0'.out.belowAll hb3
      have bm := BM.out.belowAll hb3
      replace c0 := (b0.cell 0).trans rfl
      replace c1 := (b0.cell 1).trans rfl
      replace c2 := (b0.cell 2).trans rfl
      have m0 := (bm.cell 0).trans rfl
      have m1 := (bm.cell 1).trans rfl
      have m2 := (bm.cell 2).trans rfl
      have B0 := hid b0
      have HB3 := hid (HB2.out.trans (hb3.mono HB2.out.size))
      clear b0 bm hb3 BM B0' HB2
      go_wp2_with fail
      refine (lmay_any d p _ [] _ (Sees.nil _ _) HD.out HP.out).mono ?_
      rintro e w4 ⟨rfl, hb4⟩
      rw [HM2.out]
      have b0 := B0.out.belowAll hb4
      replace c0 := (b0.cell 0).trans rfl
      replace c1 := (b0.cell 1).trans rfl
      replace c2 := (b0.cell 2).trans rfl
      have HB4 := hid (HB3.out.trans (hb4.mono HB3.out.size))
      have B0' := hid b0
      clear b0 hb4 HB3 B0 m0 m1 m2
      go_wp2_with fail
      refine (offer_any d p 1 _ xs _ (HV.out.below HB4.out) (by omega) HD.out HP.out).mono ?_
      rintro e w5 ⟨u5, rfl, ho5, hb5⟩
      have b0 := B0'.out.belowAll hb5
      replace c0 := (b0.cell 0).trans rfl
      replace c1 := (b0.cell 1).trans rfl
      replace c2 := (b0.cell 2).trans rfl
      have HB5 := hid (HB4.out.trans (hb5.mono HB4.out.size))
      have HS5 := hid (Sees.of_owns ho5)
      have B0 := hid b0
      clear b0 hb5 HB4 B0' ho5
      go_wp2_with fail
      refine (lmay_any d (offerP d p xs) _ (offerL d 1 xs) _ HS5.out HD.out (offerP_fit d p xs HP.out)).mono ?_
      rintro e w6 ⟨rfl, hb6⟩
      have b0 := B0.out.belowAll hb6
      replace c2 := (b0.cell 2).trans rfl
      have HB6 := hid (HB5.out.trans (hb6.mono HB5.out.size))
      clear b0 hb6 HB5 B0 HS5
      by_cases hp5 : p < 9223372036854775807
      · rw [HM3.out hp5]
        go_wp2
        go_ret
        exact ⟨rfl, HB6.out⟩
      · obtain rfl : p = 9223372036854775807 := by omega
        generalize mayL d (offerL d 1 xs).length (offerP d 9223372036854775807 xs) = q at *
        cases q
        all_goals
          go_wp2
          go_ret
          exact ⟨rfl, HB6.out⟩
    · have HM := hid (mayL_false hm)
      have HN : ¬ 0 ≤ d ∨ (0 ≤ d ∧ ¬ d ≤ 8) ∨ (0 ≤ d ∧ d ≤ 8 ∧ ¬ (xs.length : Int) ≤ d) ∨ (0 ≤ d ∧ d ≤ 8 ∧ (xs.length : Int) ≤ d ∧ ¬ 0 ≤ p) := by omega
      clear hm
      rcases HN with h1 | ⟨h1, h2⟩ | ⟨h1, h2, h3⟩ | ⟨h1, h2, h3, h4⟩
      all_goals
        go_wp2_with fail
        refine (give_any d p _ xs _ (HV.out.below HB1.out) (by omega)).mono ?_
        rintro e w2 ⟨u2, rfl, ho2, hb2⟩
        have b0 := B0.out.belowAll hb2
        replace c0 := b0.cellA 0 _ rfl
        replace c1 := b0.cellA 1 _ rfl
        replace c2 := b0.cellA 2 _ rfl
        have hs2 : Sees w2 .i64 u2 xs := Sees.of_owns ho2
        obtain ⟨a2, k2, rfl, _, _, _⟩ := hs2.form
        have hbm : Below w2.heap.size w2 (w2.alloc (.cells #[.int .i64 d, .slice none 0 0, .int .i64 p] 24)) := (Below.refl _ _).alloc (Nat.le_refl _) _
        have HB2 := hid (HB1.out.trans ((hb2.trans (hbm.mono hb2.size)).mono HB1.out.size))
        have B0' := hid (b0.alloc (.cells #[.int .i64 d, .slice none 0 0, .int .i64 p] 24))
        clear b0 hbm hb2 ho2 B0 HB1 hs2
        go_wp2_with fail
        refine (lmay_any d p _ xs _ (HV.out.below HB2.out) HD.out HP.out).mono ?_
        rintro e w3 ⟨rfl, hb3⟩
        rw [HM.out]
        have b0 := B0'.out.belowAll hb3
        replace c0 := (b0.cell 0).trans rfl
        replace c1 := (b0.cell 1).trans rfl
        replace c2 := (b0.cell 2).trans rfl
        have HB3 := hid (HB2.out.trans (hb3.mono HB2.out.size))
        clear b0 hb3 B0' HB2
        go_wp2
        go_ret
        exact ⟨rfl, HB3.out⟩
  · clear b0
    go_wp2
    go_ret
    exact ⟨rfl, hB1⟩
end Go.Proofs.Ytdmdpfjnbifegaa
