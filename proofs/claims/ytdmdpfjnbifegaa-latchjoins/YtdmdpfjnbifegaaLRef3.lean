/-
  What the document's Offer of latches returns, whatever latch it is given, and that nothing that was there is written.
-/
import Derived.Test.YtdmdpfjnbifegaaLGive
namespace Go.Proofs.Ytdmdpfjnbifegaa
open Go.RowKit
set_option linter.unusedVariables false

set_option maxRecDepth 100000 in
set_option maxHeartbeats 400000 in
theorem roffer_any (d p x : Int) (v : Value) (xs : List Int) (w : World) (hv : Sees w .i64 v xs) (hlen : xs.length ≤ 100000) (hd : -9223372036854775808 ≤ d ∧ d ≤ 9223372036854775807) (hp : -9223372036854775808 ≤ p ∧ p ≤ 9223372036854775807) :
    Calls Try.prog 14 #[ltV d v p, .int .i64 x] w fun e w' => ∃ u, e = .returned (ltV d u (offerP d p xs)) ∧
      w'.ownsRow w.heap.size 3 1 u (offerL d x xs).length ((offerL d x xs).map (Value.int .i64)) ∧ Below w.heap.size w w' := by
  obtain ⟨i0, hi, hz0, hz1, hz2⟩ := info_parts Try.infoI6
  have HV := hid hv
  obtain ⟨a, cap, rfl, hc1, hc2, _⟩ := hv.form
  clear hv
  unfold maxLen at hc2
  have HM := hid (show 0 + xs.length ≤ maxLen by unfold maxLen; omega)
  have b0 : BoxAt (((w.alloc (.cells #[.int .i64 d, .slice a xs.length cap, .int .i64 p] 24)).alloc (.cells #[.int .i64 0, .slice none 0 0, .int .i64 0] 24)).alloc (.cells #[.int .i64 d, .slice none 0 0, .int .i64 p] 24)) w.heap.size 24 #[.int .i64 d, .slice a xs.length cap, .int .i64 p] := ((BoxAt.new w _ _).alloc _).alloc _
  have b1 : BoxAt (((w.alloc (.cells #[.int .i64 d, .slice a xs.length cap, .int .i64 p] 24)).alloc (.cells #[.int .i64 0, .slice none 0 0, .int .i64 0] 24)).alloc (.cells #[.int .i64 d, .slice none 0 0, .int .i64 p] 24)) (w.heap.size + 1) 24 #[.int .i64 0, .slice none 0 0, .int .i64 0] := by
    have h := (BoxAt.new (w.alloc (.cells #[.int .i64 d, .slice a xs.length cap, .int .i64 p] 24)) 24 #[.int .i64 0, .slice none 0 0, .int .i64 0]).alloc (.cells #[.int .i64 d, .slice none 0 0, .int .i64 p] 24)
    rw [show (w.alloc (.cells #[.int .i64 d, .slice a xs.length cap, .int .i64 p] 24)).heap.size = w.heap.size + 1 by simp] at h
    exact h
  have b2 : BoxAt (((w.alloc (.cells #[.int .i64 d, .slice a xs.length cap, .int .i64 p] 24)).alloc (.cells #[.int .i64 0, .slice none 0 0, .int .i64 0] 24)).alloc (.cells #[.int .i64 d, .slice none 0 0, .int .i64 p] 24)) (w.heap.size + 1 + 1) 24 #[.int .i64 d, .slice none 0 0, .int .i64 p] := by
    have h := BoxAt.new ((w.alloc (.cells #[.int .i64 d, .slice a xs.length cap, .int .i64 p] 24)).alloc (.cells #[.int .i64 0, .slice none 0 0, .int .i64 0] 24)) 24 #[.int .i64 d, .slice none 0 0, .int .i64 p]
    rw [show ((w.alloc (.cells #[.int .i64 d, .slice a xs.length cap, .int .i64 p] 24)).alloc (.cells #[.int .i64 0, .slice none 0 0, .int .i64 0] 24)).heap.size = w.heap.size + 1 + 1 by simp] at h
    exact h
  have hbel : Below w.heap.size w (((w.alloc (.cells #[.int .i64 d, .slice a xs.length cap, .int .i64 p] 24)).alloc (.cells #[.int .i64 0, .slice none 0 0, .int .i64 0] 24)).alloc (.cells #[.int .i64 d, .slice none 0 0, .int .i64 p] 24)) := (((Below.refl _ _).alloc (Nat.le_refl _) _).alloc (by simp) _).alloc (by simp; omega) _
  have B0 := hid b0
  have B1 := hid b1
  have B2 := hid b2
  have HB := hid hbel
  have HW := hid (HV.out.below hbel)
  clear b0 b1 b2 hbel
  go_enter Try.func14, Try.ntmps14
  go_wp2_with (at_builtin; refine wpList_append_sees rfl _ _ 22 rfl (w.heap.size + 3) 3 i0 (.int .i64 0) 8 Try.underlying22 hi hz0 hz1 hz2 rfl .i64 (.slice none 0 0) 0 [] rfl (World.ownsRow_nil _ _ _ _) _ xs rfl HW.out HM.out (by omega) (by simp) ?_)
  intro v1 w1 ho1 hg1
  have hbel1 : Below w.heap.size w w1 := HB.out.grown hg1 (by simp; omega) (by simp [Value.ownBlock])
  have b0 := B0.out.grown hg1 (by simp [Value.ownBlock])
  have b1 := B1.out.grown hg1 (by simp [Value.ownBlock])
  have b2 := B2.out.grown hg1 (by simp [Value.ownBlock])
  replace ho1 : w1.ownsRow (w.heap.size + 3) 3 1 v1 xs.length (xs.map (Value.int .i64)) := by simpa using ho1
  obtain ⟨ua, ul, uc, rfl⟩ := owns_slice6 ho1
  have hul : ul = xs.length := by rcases ho1.2 with ⟨h, h'⟩ | ⟨g, cap, cur, h, _⟩ <;> simp at h <;> omega
  subst hul
  clear HW HB B0 B1 B2 hg1
  have f1 := b1.free
  have f2 := b2.free
  have c0 := b0.cell 0
  have e0 := b1.cell 0
  have e1 := b1.cell 1
  have e2 := b1.cell 2
  have g0 := b2.cell 0
  have g1 := b2.cell 1
  have g2 := b2.cell 2
  simp at c0 e0 e1 e2 g0 g1 g2
  have B0 := hid b0
  have B1 := hid b1
  have B2 := hid b2
  have HO := hid ho1
  clear b0 b1 b2 ho1
  by_cases h : d ≤ xs.length
  · have HS := hid (show offerL d x xs = xs by rw [offerL, if_pos h])
    have HP := hid (show offerP d p xs = wrap64 (p + 1) by rw [offerP, if_pos h])
    go_wp2
    refine bodyPost_ret (results_cell_row rfl _ _ (w.heap.size + 1) 24 _ (0, 0) _ rfl (((B1.out.other (by omega) _).other (by omega) _).set3 _ _ _) Try.underlying24 rfl Try.infoL6) rfl ?_
    refine ⟨_, by rw [HP.out], ?_, ?_⟩
    · rw [HS.out]
      exact owns_base (ownsRow_setCell_below (ownsRow_setCell_below (ownsRow_setCell_below (ownsRow_setCell_below (ownsRow_setCell_below HO.out (by simp) _) (by simp) _) (by simp) _) (by simp) _) (by simp) _) (by omega)
    · exact ((((hbel1.setCell (by simp; omega) _).setCell (by simp; omega) _).setCell (by simp) _).setCell (by simp) _).setCell (by simp) _
  · have HS := hid (show offerL d x xs = xs ++ [x] by rw [offerL, if_neg h])
    have HP := hid (show offerP d p xs = p by rw [offerP, if_neg h])
    have hown : ((w1.setCell ⟨w.heap.size + 1 + 1, 1, none⟩ (.slice ua xs.length uc)).alloc (.cells #[.int .i64 x] 3)).ownsRow (w.heap.size + 3) 3 1 (.slice ua xs.length uc) xs.length (xs.map (Value.int .i64)) := (ownsRow_setCell_below HO.out (by simp) _).alloc _
    go_wp2_with (at_builtin; refine wpList_append_own _ rfl _ _ 22 rfl (w.heap.size + 3) 3 i0 (.int .i64 0) 1 8 Try.underlying22 hi hz0 hz1 hz2 rfl (by decide) _ _ _ rfl hown ⟨w1.heap.size, 0, none⟩ 1 1 [.int .i64 x] rfl rfl ?k1 ?k2 ?k3 ?k4 ?k5 ?_)
    case k2 => rfl
    case k3 => unfold maxLen; omega
    case k4 => omega
    case k5 => have := B2.out.lt; omega
    intro v' w3 ho3 hg3 _
    have hlt := fun k hk => (hown.lt k hk).1
    have hbel3 : Below w.heap.size w w3 := ((hbel1.setCell (by simp; omega) _).alloc (by have := hbel1.size; simp; omega) _).grown hg3 (by have := hbel1.size; simp; omega) (fun k hk => by have := hlt k hk; omega)
    have b1 := ((B1.out.other (g' := w.heap.size + 1 + 1) (j := 1) (by omega) (.slice ua xs.length uc)).alloc (.cells #[.int .i64 x] 3)).grown hg3 (fun e => by have := hlt _ e.symm; omega)
    have b2 := ((B2.out.set 1 (.slice ua xs.length uc)).alloc (.cells #[.int .i64 x] 3)).grown hg3 (fun e => by have := hlt _ e.symm; omega)
    simp at b2
    replace f1 := b1.free
    replace f2 := b2.free
    replace e0 := b1.cell 0
    replace e1 := b1.cell 1
    replace e2 := b1.cell 2
    replace g0 := b2.cell 0
    replace g1 := b2.cell 1
    replace g2 := b2.cell 2
    simp at e0 e1 e2 g0 g1 g2
    have B3 := hid b1
    have HO3 := hid ho3
    clear b1 b2 ho3 hg3 hown hlt B0 B1 B2 HO
    obtain ⟨va, vl, vc, rfl⟩ := owns_slice6 HO3.out
    go_wp2
    refine bodyPost_ret (results_cell_row rfl _ _ (w.heap.size + 1) 24 _ (0, 0) _ rfl ((B3.out.other (by omega) _).set3 _ _ _) Try.underlying24 rfl Try.infoL6) rfl ?_
    refine ⟨_, by rw [HP.out], ?_, ?_⟩
    · rw [HS.out, List.map_append, List.length_append]
      exact owns_base (ownsRow_setCell_below (ownsRow_setCell_below (ownsRow_setCell_below (ownsRow_setCell_below HO3.out (by simp) _) (by simp) _) (by simp) _) (by simp) _) (by omega)
    · exact (((hbel3.setCell (by simp; omega) _).setCell (by simp) _).setCell (by simp) _).setCell (by simp) _
end Go.Proofs.Ytdmdpfjnbifegaa
