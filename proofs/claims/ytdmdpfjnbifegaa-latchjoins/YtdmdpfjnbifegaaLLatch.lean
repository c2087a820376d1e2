/-
  What latch.May, latch.Offer, latch.Give return, whatever latch they are given, and that nothing that was there is written.
-/
import Derived.Test.YtdmdpfjnbifegaaRows
import Derived.Test.YtdmdpfjnbifegaaLLib
namespace Go.Proofs.Ytdmdpfjnbifegaa
open Go.RowKit
set_option linter.unusedVariables false

/-- A latch: how deep it is, its slice of lines, how many it has dropped. -/
abbrev ltV (d : Int) (v : Value) (p : Int) : Value := .agg #[.int .i64 d, v, .int .i64 p]
def mayL (d : Int) (n : Nat) (p : Int) : Bool := decide (0 ≤ d ∧ d ≤ 8 ∧ (n : Int) ≤ d ∧ 0 ≤ p)
def offerL (d x : Int) (xs : List Int) : List Int := if d ≤ xs.length then xs else xs ++ [x]
def offerP (d p : Int) (xs : List Int) : Int := if d ≤ xs.length then wrap64 (p + 1) else p

theorem Try.infoI6 : (Try.prog.info? 3).map (fun i => (i.zero, i.size, i.bytes)) = some (some (.int .i64 0), 1, 8) := by kernel_rfl
theorem Try.sizeI6 : (Try.prog.info? 3).map (·.size) = some 1 := by kernel_rfl
theorem Try.infoL6 : (Try.prog.info? 24).map (·.size) = some 3 := by kernel_rfl

theorem owns_slice6 {w : World} {base : Nat} {e : TypeId} {size : Nat} {v : Value} {n : Nat} {xs : List Value} (h : w.ownsRow base e size v n xs) : ∃ a l c, v = .slice a l c := by
  rcases h.2 with ⟨h, _⟩ | ⟨g, cap, cur, hv, _⟩
  · exact ⟨_, _, _, h⟩
  · exact ⟨_, _, _, hv⟩

set_option maxRecDepth 100000 in
set_option maxHeartbeats 400000 in
theorem lmay_any (d p : Int) (v : Value) (xs : List Int) (w : World) (hv : Sees w .i64 v xs) (hd : -9223372036854775808 ≤ d ∧ d ≤ 9223372036854775807) (hp : -9223372036854775808 ≤ p ∧ p ≤ 9223372036854775807) :
    Calls Try.prog 15 #[ltV d v p] w fun e w' => e = .returned (.bool (mayL d xs.length p)) ∧ Below w.heap.size w w' := by
  obtain ⟨a, cap, rfl, hc1, hc2, _⟩ := hv.form
  clear hv
  unfold maxLen at hc2
  generalize xs.length = n at *
  go_enter Try.func15, Try.ntmps15
  by_cases h1 : 0 ≤ d
  · by_cases h2 : d ≤ 8
    · by_cases h3 : (n : Int) ≤ d
      · by_cases h4 : 0 ≤ p
        all_goals
          go_wp2
          go_ret
          exact ⟨by congr; simp [mayL]; omega, (Below.refl _ _).alloc (Nat.le_refl _) _⟩
      · go_wp2
        go_ret
        exact ⟨by congr; simp [mayL]; omega, (Below.refl _ _).alloc (Nat.le_refl _) _⟩
    · go_wp2
      go_ret
      exact ⟨by congr; simp [mayL]; omega, (Below.refl _ _).alloc (Nat.le_refl _) _⟩
  · go_wp2
    go_ret
    exact ⟨by congr; simp [mayL]; omega, (Below.refl _ _).alloc (Nat.le_refl _) _⟩

set_option maxRecDepth 100000 in
set_option maxHeartbeats 400000 in
theorem offer_any (d p x : Int) (v : Value) (xs : List Int) (w : World) (hv : Sees w .i64 v xs) (hlen : xs.length ≤ 100000) (hd : -9223372036854775808 ≤ d ∧ d ≤ 9223372036854775807) (hp : -9223372036854775808 ≤ p ∧ p ≤ 9223372036854775807) :
    Calls Try.prog 13 #[ltV d v p, .int .i64 x] w fun e w' => ∃ u, e = .returned (ltV d u (offerP d p xs)) ∧
      w'.ownsRow w.heap.size 3 1 u (offerL d x xs).length ((offerL d x xs).map (Value.int .i64)) ∧ Below w.heap.size w w' := by
  obtain ⟨i0, hi, hz0, hz1, hz2⟩ := info_parts Try.infoI6
  have HV := hid hv
  obtain ⟨a, cap, rfl, hc1, hc2, _⟩ := hv.form
  clear hv
  unfold maxLen at hc2
  go_enter Try.func13, Try.ntmps13
  go_wp2_with (at_make; refine wpList_make_room _ rfl _ _ 22 rfl (w.heap.size + 2) 3 i0 (.int .i64 0) Try.underlying22 hi hz0 hz1 rfl .i64 .i64 _ _ xs.length (xs.length + 1) rfl rfl ?c1 ?c2 ?c3 ?c4 ?c5 ?c6 ?_)
  case c1 => rfl
  case c2 => simp
  case c3 => omega
  case c4 => rw [hz2]; omega
  case c5 => unfold maxLen; omega
  case c6 => simp
  intro w1 ho1 hg1
  have hbel1 : Below w.heap.size w w1 := (((Below.refl _ _).alloc (Nat.le_refl _) _).alloc (by simp) _).grown hg1 (by simp; omega) (by simp)
  have b0 : BoxAt w1 w.heap.size 24 #[.int .i64 d, .slice a xs.length cap, .int .i64 p] := ((BoxAt.new w _ _).alloc _).grown hg1 (by simp)
  have b1 : BoxAt w1 (w.heap.size + 1) 24 #[.int .i64 0, .slice none 0 0, .int .i64 0] := by
    have h := BoxAt.new (w.alloc (.cells #[.int .i64 d, .slice a xs.length cap, .int .i64 p] 24)) 24 #[.int .i64 0, .slice none 0 0, .int .i64 0]
    simp at h
    exact h.grown hg1 (by simp)
  have hcx := b0.cell 1
  simp at hcx
  have HV1 := hid (HV.out.below hbel1)
  clear hg1
  go_wp2_with (refine wpList_copy_sees rfl (.tmp 14) (.tmp 16) 22 22 rfl 3 Try.underlying22 Try.sizeI6 (w.heap.size + 2) (w.heap.size + 1 + 1) xs.length (xs.length + 1) _ rfl ho1 .i64 _ xs rfl HV1.out rfl ?_)
  intro w2 ho2 hg2
  have hbel2 : Below w.heap.size w w2 := hbel1.grown hg2 hbel1.size (by simp; omega)
  replace b0 := b0.grown hg2 (by simp; omega)
  replace b1 := b1.grown hg2 (by simp)
  have f0 := b0.free
  have f1 := b1.free
  have c0 := b0.cell 0
  have c1 := b0.cell 1
  have c2 := b0.cell 2
  have e0 := b1.cell 0
  have e1 := b1.cell 1
  have e2 := b1.cell 2
  simp at c0 c1 c2 e0 e1 e2
  have B0 := hid b0
  have B1 := hid b1
  have HO := hid ho2
  clear b0 b1 ho1 ho2 hg2 hcx
  by_cases h : d ≤ xs.length
  · have HS := hid (show offerL d x xs = xs by rw [offerL, if_pos h])
    have HP := hid (show offerP d p xs = wrap64 (p + 1) by rw [offerP, if_pos h])
    go_wp2
    refine bodyPost_ret (results_cell_row rfl _ _ (w.heap.size + 1) 24 _ (0, 0) _ rfl (((B1.out.other (by omega) _).other (by omega) _).set3 _ _ _) Try.underlying24 rfl Try.infoL6) rfl ?_
    refine ⟨_, by rw [HP.out], ?_, ?_⟩
    · rw [HS.out]
      exact owns_base (ownsRow_setCell_below (ownsRow_setCell_below (ownsRow_setCell_below (ownsRow_setCell_below (ownsRow_setCell_below HO.out (by simp) _) (by simp) _) (by simp) _) (by simp) _) (by simp) _) (by omega)
    · exact ((((hbel2.setCell (by simp) _).setCell (by simp) _).setCell (by simp) _).setCell (by simp) _).setCell (by simp) _
  · have HS := hid (show offerL d x xs = xs ++ [x] by rw [offerL, if_neg h])
    have HP := hid (show offerP d p xs = p by rw [offerP, if_neg h])
    have hown : (w2.alloc (.cells #[.int .i64 x] 3)).ownsRow (w.heap.size + 2) 3 1 (.slice (some ⟨w.heap.size + 1 + 1, 0, none⟩) xs.length (xs.length + 1)) xs.length (xs.map (Value.int .i64)) := HO.out.alloc _
    go_wp2_with (at_builtin; refine wpList_append_own _ rfl _ _ 22 rfl (w.heap.size + 2) 3 i0 (.int .i64 0) 1 8 Try.underlying22 hi hz0 hz1 hz2 rfl (by decide) _ _ _ rfl hown ⟨w2.heap.size, 0, none⟩ 1 1 [.int .i64 x] rfl rfl ?k1 ?k2 ?k3 ?k4 ?k5 ?_)
    case k2 => rfl
    case k3 => unfold maxLen; omega
    case k4 => omega
    case k5 => have := hbel2.size; have := B1.out.lt; simp; omega
    intro v' w3 ho3 hg3 _
    have hbel3 : Below w.heap.size w w3 := (hbel2.alloc hbel2.size _).grown hg3 (by have := hbel2.size; simp; omega) (fun k hk => by have := (hown.lt k hk).1; omega)
    have hne : ∀ k, hown.1 = hown.1 → (Value.slice (some ⟨w.heap.size + 1 + 1, 0, none⟩) xs.length (xs.length + 1)).ownBlock = some k → w.heap.size + 1 + 1 = k := by intro k _ h; simpa [Value.ownBlock] using h
    have b0 := (B0.out.alloc (.cells #[.int .i64 x] 3)).grown hg3 (by simp [Value.ownBlock]; omega)
    have b1 := (B1.out.alloc (.cells #[.int .i64 x] 3)).grown hg3 (by simp [Value.ownBlock])
    replace f0 := b0.free
    replace f1 := b1.free
    replace c0 := b0.cell 0
    replace c1 := b0.cell 1
    replace c2 := b0.cell 2
    replace e0 := b1.cell 0
    replace e1 := b1.cell 1
    replace e2 := b1.cell 2
    simp at c0 c1 c2 e0 e1 e2
    have B2 := hid b1
    have HO3 := hid ho3
    clear b0 b1 ho3 hg3 hown hne B0 B1 HO
    obtain ⟨ua, ul, uc, rfl⟩ := owns_slice6 HO3.out
    go_wp2
    refine bodyPost_ret (results_cell_row rfl _ _ (w.heap.size + 1) 24 _ (0, 0) _ rfl ((B2.out.other (by omega) _).set3 _ _ _) Try.underlying24 rfl Try.infoL6) rfl ?_
    refine ⟨_, by rw [HP.out], ?_, ?_⟩
    · rw [HS.out, List.map_append, List.length_append]
      exact owns_base (ownsRow_setCell_below (ownsRow_setCell_below (ownsRow_setCell_below (ownsRow_setCell_below HO3.out (by simp) _) (by simp) _) (by simp) _) (by simp) _) (by omega)
    · exact (((hbel3.setCell (by simp) _).setCell (by simp) _).setCell (by simp) _).setCell (by simp) _
end Go.Proofs.Ytdmdpfjnbifegaa
