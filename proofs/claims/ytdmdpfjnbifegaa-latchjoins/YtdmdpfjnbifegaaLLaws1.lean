/-
  The chapter's example holds; LatchDoes, LatchDeep, LatchOwn return true, whatever they are given, and nothing that was there is written.
-/
import Derived.Test.YtdmdpfjnbifegaaLRef
import Derived.Test.YtdmdpfjnbifegaaLRef2
import Derived.Test.YtdmdpfjnbifegaaLRef3
import Derived.Deep.RegionHeld3
namespace Go.Proofs.Ytdmdpfjnbifegaa
open Go.RowKit
set_option linter.unusedVariables false

/-- The form of a slice that is seen: its length. -/
theorem Sees.len6 {w : World} {k : IntKind} {a : Option Addr} {l c : Nat} {xs : List Int} (h : Sees w k (.slice a l c) xs) : l = xs.length := by
  rcases h with ⟨h, rfl⟩ | ⟨x, cap, h, _⟩ <;> simp at h <;> simp [h]

set_option maxRecDepth 100000 in
set_option maxHeartbeats 400000 in
theorem awake6_any (w : World) : Calls Try.prog 8 #[] w fun e w' => e = .returned (.bool true) ∧ Below w.heap.size w w' := by
  go_enter Try.func8, Try.ntmps8
  go_wp2_with fail
  refine (offer_any 1 0 5 (.slice none 0 0) [] _ (Sees.nil _ _) (by simp) (by omega) (by omega)).mono ?_
  rintro e w1 ⟨u1, rfl, ho1, hb1⟩
  rw [show offerL 1 5 [] = [5] by decide] at ho1
  rw [show offerP 1 0 [] = 0 by decide]
  have HS1 := hid (Sees.of_owns ho1)
  clear ho1
  go_wp2_with fail
  refine (offer_any 1 0 6 u1 [5] _ HS1.out (by simp) (by omega) (by omega)).mono ?_
  rintro e w2 ⟨u2, rfl, ho2, hb2⟩
  rw [show offerL 1 6 [5] = [5] by decide] at ho2
  rw [show offerP 1 0 [5] = 1 by simp [offerP, wrap64]]
  have HS2 := hid (Sees.of_owns ho2)
  have HB2 := hid (hb1.trans (hb2.mono hb1.size))
  obtain ⟨a2, l2, c2, rfl⟩ := owns_slice6 ho2
  clear ho2 HS1 hb1 hb2
  go_wp2_with fail
  have hbA : Below w2.heap.size w2 (w2.alloc (.cells #[.int .i64 1, .slice a2 l2 c2, .int .i64 1] 24)) := (Below.refl _ _).alloc (Nat.le_refl _) _
  refine (give_any 1 1 _ [5] _ (HS2.out.below hbA) (by simp)).mono ?_
  rintro e w3 ⟨u3, rfl, ho3, hb3⟩
  have b0 := (BoxAt.new w2 24 #[.int .i64 1, .slice a2 l2 c2, .int .i64 1]).belowAll hb3
  have c0 := b0.cellA 0 _ rfl
  have c1 := b0.cellA 1 _ rfl
  have c3 := b0.cellA 2 _ rfl
  have hs3 : Sees w3 .i64 u3 [5] := Sees.of_owns ho3
  obtain ⟨a3, l3, rfl, h31, h32, h33⟩ := hs3.form
  obtain ⟨b3, o3, rfl, hb3w, hc3⟩ := h33 (by simp)
  have hcx := hc3 0 (by simp)
  simp at hcx
  replace hcx := cellA hcx
  have HB3 := hid (HB2.out.trans ((hbA.trans (hb3.mono hbA.size)).mono HB2.out.size))
  have HS3 := hid ((HS2.out.below hbA).below hb3)
  have HG := hid hb3w
  clear ho3 b0 hs3 h31 h32 h33 hc3 hb3 hbA HB2 HS2 hb3w
  simp only [List.length_singleton]
  go_wp2_with fail
  have hbB : Below w3.heap.size w3 (w3.alloc (.cells #[.int .i64 1, .slice none 0 0, .int .i64 1] 24)) := (Below.refl _ _).alloc (Nat.le_refl _) _
  refine (lmay_any 1 1 _ [5] _ (HS3.out.below hbB) (by omega) (by omega)).mono ?_
  rintro e w4 ⟨rfl, hb4⟩
  have HB4 := hid (HB3.out.trans ((hbB.trans (hb4.mono hbB.size)).mono HB3.out.size))
  rw [show mayL 1 ([5] : List Int).length 1 = true by decide]
  clear hb4 hbB HB3 HS3
  go_wp2
  go_ret
  exact ⟨rfl, HB4.out⟩

/-- A latch as an argument: its slice v reads, in w, as xs. -/
structure Lt where
  d : Int
  v : Value
  p : Int
  xs : List Int
def Lt.val (l : Lt) : Value := ltV l.d l.v l.p
def Lt.fit (w : World) (l : Lt) : Prop := Sees w .i64 l.v l.xs ∧ (-9223372036854775808 ≤ l.d ∧ l.d ≤ 9223372036854775807) ∧ (-9223372036854775808 ≤ l.p ∧ l.p ≤ 9223372036854775807)

set_option maxRecDepth 100000 in
set_option maxHeartbeats 400000 in
theorem walk_LatchDoes (w : World) (l : Lt) (hl : l.fit w) (line : Int) (hline : (Lit.int .i64 line).wf = true) :
    Calls Try.prog 3 #[l.val, .int .i64 line] w fun e w' => e = .returned (.bool true) ∧ Below w.heap.size w w' := by
  obtain ⟨d, v, p, xs⟩ := l
  obtain ⟨hs, hd, hp⟩ := hl
  simp only at hs hd hp
  unfold Lt.val
  simp only
  have HV := hid hs
  obtain ⟨a, cap, rfl, hc1, hc2, _⟩ := hs.form
  clear hs
  unfold maxLen at hc2
  have hbA : Below w.heap.size w (w.alloc (.cells #[.int .i64 d, .slice a xs.length cap, .int .i64 p] 24)) := (Below.refl _ _).alloc (Nat.le_refl _) _
  have b0 := BoxAt.new w 24 #[.int .i64 d, .slice a xs.length cap, .int .i64 p]
  go_enter Try.func3, Try.ntmps3
  go_wp2_with fail
  refine (awake6_any _).mono ?_
  rintro e w1 ⟨rfl, hb1⟩
  replace b0 := b0.belowAll hb1
  have hB1 := hbA.trans (hb1.mono hbA.size)
  have c0 := b0.cell 0
  have c1 := b0.cell 1
  have c2 := b0.cell 2
  simp at c0 c1 c2
  clear hbA hb1
  by_cases hlen : xs.length ≤ 100
  · have B0 := hid b0
    have HB1 := hid hB1
    clear b0 hB1
    go_wp2_with fail
    refine (give_any d p _ xs _ (HV.out.below HB1.out) (by omega)).mono ?_
    rintro e w2 ⟨u2, rfl, ho2, hb2⟩
    have b0 := B0.out.belowAll hb2
    replace c0 := b0.cellA 0 _ rfl
    replace c1 := b0.cellA 1 _ rfl
    replace c2 := b0.cellA 2 _ rfl
    have bm := BoxAt.new w2 24 #[.int .i64 d, .slice none 0 0, .int .i64 p]
    have hbm : Below w2.heap.size w2 (w2.alloc (.cells #[.int .i64 d, .slice none 0 0, .int .i64 p] 24)) := (Below.refl _ _).alloc (Nat.le_refl _) _
    have HB2 := hid (HB1.out.trans ((hb2.trans (hbm.mono hb2.size)).mono HB1.out.size))
    have HS2 := hid ((Sees.of_owns ho2).below hbm)
    have B0' := hid (b0.alloc (.cells #[.int .i64 d, .slice none 0 0, .int .i64 p] 24))
    have BM := hid bm
    obtain ⟨a2, l2, k2, rfl⟩ := owns_slice6 ho2
    clear b0 bm hbm hb2 ho2 B0 HB1
    go_wp2_with fail
    refine (rgive_any d p _ xs _ (HV.out.below HB2.out) (by omega)).mono ?_
    rintro e w3 ⟨u3, rfl, ho3, hb3⟩
    have b0 := B0'.out.belowAll hb3
    have bm := BM.out.belowAll hb3
    have bn := BoxAt.new w3 24 #[.int .i64 d, .slice none 0 0, .int .i64 p]
    have hbn : Below w3.heap.size w3 (w3.alloc (.cells #[.int .i64 d, .slice none 0 0, .int .i64 p] 24)) := (Below.refl _ _).alloc (Nat.le_refl _) _
    have HB3 := hid (HB2.out.trans ((hb3.trans (hbn.mono hb3.size)).mono HB2.out.size))
    have HS3 := hid ((Sees.of_owns ho3).below hbn)
    have HS2' := hid ((HS2.out.below hb3).below hbn)
    have B0 := hid (b0.alloc (.cells #[.int .i64 d, .slice none 0 0, .int .i64 p] 24))
    have BM' := hid (bm.alloc (.cells #[.int .i64 d, .slice none 0 0, .int .i64 p] 24))
    have BN := hid bn
    obtain ⟨a3, l3, k3, rfl⟩ := owns_slice6 ho3
    clear b0 bm bn hbn hb3 ho3 HB2 HS2 B0' BM c0 c1 c2
    go_wp2_with fail
    refine (same_any _ _ xs xs _ HS2'.out HS3.out).mono ?_
    rintro e w4 ⟨rfl, hb4⟩
    rw [decide_eq_true (rfl : xs = xs)]
    have b0 := B0.out.belowAll hb4
    have bm := BM'.out.belowAll hb4
    have bn := BN.out.belowAll hb4
    have HB4 := hid (HB3.out.trans (hb4.mono HB3.out.size))
    have m0 := bm.cell 0
    have m1 := bm.cell 1
    have m2 := bm.cell 2
    have n0 := bn.cell 0
    have n1 := bn.cell 1
    have n2 := bn.cell 2
    simp at m0 m1 m2 n0 n1 n2
    have B0' := hid b0
    clear b0 bm bn hb4 HB3 HS3 HS2' B0 BM' BN
    go_wp2_with fail
    refine (rsame6_any d p d p _ _ [] [] _ (Sees.nil _ _) (Sees.nil _ _)).mono ?_
    rintro e w5 ⟨rfl, hb5⟩
    rw [decide_eq_true (show d = d ∧ p = p ∧ ([] : List Int) = [] from ⟨rfl, rfl, rfl⟩)]
    have b0 := B0'.out.belowAll hb5
    have HB5 := hid (HB4.out.trans (hb5.mono HB4.out.size))
    have MK := hid (show ∀ w', Below w5.heap.size w5 w' → Below w5.heap.size w5 w' ∧ w'.cell? ⟨w.heap.size, 0, none⟩ = some (.int .i64 d) ∧ w'.cell? ⟨w.heap.size, 1, none⟩ = some (.slice a xs.length cap) ∧ w'.cell? ⟨w.heap.size, 2, none⟩ = some (.int .i64 p) from
      fun w' h => ⟨h, ((b0.belowAll h).cell 0).trans rfl, ((b0.belowAll h).cell 1).trans rfl, ((b0.belowAll h).cell 2).trans rfl⟩)
    have HV5 := hid (HV.out.below HB5.out)
    have HD := hid hd
    have HP := hid hp
    clear hb5 HB4 B0' m0 m1 m2 n0 n1 n2 hd hp
    go_wp2_with fail
    go_region_held3 (fun w' => Below w5.heap.size w5 w' ∧ w'.cell? ⟨w.heap.size, 0, none⟩ = some (.int .i64 d) ∧ w'.cell? ⟨w.heap.size, 1, none⟩ = some (.slice a xs.length cap) ∧ w'.cell? ⟨w.heap.size, 2, none⟩ = some (.int .i64 p))
      ((go_split_ands; refine MK.out _ ?_; first
        | exact (Below.refl _ _).drew
        | exact Below.trans (by assumption) (Below.mono hb8 (Below.size (by assumption)))
        | exact Below.trans (by assumption) (Below.mono hb7 (Below.size (by assumption)))
        | exact Below.trans (by assumption) (Below.mono hb6 (Below.size (by assumption)))
        | assumption))
      ((go_split_ands; first
        | (go_at_call 13
           refine (offer_any d p line _ xs _ (HV5.out.below (by assumption)) (by omega) HD.out HP.out).mono ?_
           rintro e w6 ⟨u6, rfl, ho6, hb6⟩)
        | (go_at_call 14
           refine (roffer_any d p line _ xs _ (HV5.out.below (by assumption)) (by omega) HD.out HP.out).mono ?_
           rintro e w7 ⟨u7, rfl, ho7, hb7⟩)
        | (go_at_call 12
           first
            | (refine (rsame6_any d (offerP d p xs) d (offerP d p xs) _ _ (offerL d line xs) (offerL d line xs) _ ((Sees.of_owns ho6).below hb7) (Sees.of_owns ho7)).mono ?_; rintro e w8 ⟨rfl, hb8⟩)
            | (refine (rsame6_any d (offerP d p xs) d (offerP d p xs) _ _ (offerL d line xs) (offerL d line xs) _ (Sees.of_owns ho6) ((Sees.of_owns ho7).below hb6)).mono ?_; rintro e w8 ⟨rfl, hb8⟩))))
    all_goals
      rename_i hq8
      have hq := hq8.1
      clear hq8
      have HB8 := hid (HB5.out.trans (hq.mono HB5.out.size))
      have b8 := b0.belowAll hq
      have HV8 := hid (HV.out.below HB8.out)
      have MK8 := hid (show ∀ w', Below w8.heap.size w8 w' → Below w8.heap.size w8 w' ∧ w'.cell? ⟨w.heap.size, 0, none⟩ = some (.int .i64 d) ∧ w'.cell? ⟨w.heap.size, 1, none⟩ = some (.slice a xs.length cap) ∧ w'.cell? ⟨w.heap.size, 2, none⟩ = some (.int .i64 p) from
        fun w' h => ⟨h, ((b8.belowAll h).cell 0).trans rfl, ((b8.belowAll h).cell 1).trans rfl, ((b8.belowAll h).cell 2).trans rfl⟩)
      clear b0 b8 MK HV5 HB5 ho6 hb6 ho7 hb7 hb8 hq
      go_wp2_with fail
      go_region_held3 (fun w' => Below w8.heap.size w8 w' ∧ w'.cell? ⟨w.heap.size, 0, none⟩ = some (.int .i64 d) ∧ w'.cell? ⟨w.heap.size, 1, none⟩ = some (.slice a xs.length cap) ∧ w'.cell? ⟨w.heap.size, 2, none⟩ = some (.int .i64 p))
        ((go_split_ands; refine MK8.out _ ?_; first
          | exact (Below.refl _ _).drew
          | exact Below.trans (by assumption) (Below.mono hb9 (Below.size (by assumption)))
          | exact Below.trans (by assumption) (Below.mono hb10 (Below.size (by assumption)))
          | assumption))
        ((go_split_ands; first
          | (go_at_call 15
             refine (lmay_any d p _ xs _ (HV8.out.below (by assumption)) HD.out HP.out).mono ?_
             rintro e w9 ⟨rfl, hb9⟩)
          | (go_at_call 16
             refine (rlmay_any d p _ xs _ (HV8.out.below (by assumption)) HD.out HP.out).mono ?_
             rintro e w10 ⟨rfl, hb10⟩)))
      all_goals
        rename_i hq9
        have HB9 := hid (HB8.out.trans (hq9.1.mono HB8.out.size))
        clear hq9 hb9 hb10 MK8 HV8 HB8
        generalize mayL d xs.length p = m at *
        go_wp2
        go_ret
        exact ⟨by cases m <;> rfl, HB9.out⟩
  · clear b0
    go_wp2
    go_ret
    exact ⟨rfl, hB1⟩
end Go.Proofs.Ytdmdpfjnbifegaa
