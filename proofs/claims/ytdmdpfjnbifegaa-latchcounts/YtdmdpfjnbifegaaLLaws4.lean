/-
  LatchCounts returns true, whatever it is given, and nothing that was there is written.
-/
import Derived.Test.YtdmdpfjnbifegaaLMath
import Derived.Deep.RegionWith
namespace Go.Proofs.Ytdmdpfjnbifegaa
open Go.RowKit
set_option linter.unusedVariables false

set_option maxRecDepth 100000 in
set_option maxHeartbeats 800000 in
theorem walk_LatchCounts (w : World) (d : Int) (hd : (Lit.int .i64 d).wf = true) (v : Value) (l : List Int) (hv : Sees w .i64 v l) (hf : ∀ n ∈ l, (Lit.int .i64 n).wf = true) :
    Calls Try.prog 4 #[.int .i64 d, v] w fun e w' => e = .returned (.bool true) ∧ Below w.heap.size w w' := by
  have hdd := bounds_i64 hd
  clear hd hf
  have HV := hid hv
  obtain ⟨a, cap, rfl, hc1, hc2, hcell⟩ := hv.form
  have HC := hid hcell
  clear hcell
  have hc2' := hc2
  unfold maxLen at hc2'
  have HMX := hid hc2
  clear hv hc2
  go_enter Try.func4, Try.ntmps4
  go_wp2_with fail
  refine (awake6_any _).mono ?_
  rintro e w1 ⟨rfl, hb1⟩
  have HDD := hid hdd
  by_cases hg : l.length ≤ 100 ∧ 0 ≤ d ∧ d ≤ 8
  · obtain ⟨hlen, hd0, hd8⟩ := hg
    obtain ⟨D, rfl⟩ := Int.eq_ofNat_of_zero_le hd0
    have h8 : D ≤ 8 := by omega
    have hbx : Below w1.heap.size w1 (w1.alloc (.cells #[.int .i64 (D : Int), .slice none 0 0, .int .i64 0] 24)) := (Below.refl _ _).alloc (Nat.le_refl _) _
    have B0 := hid (BoxAt.new w1 24 #[.int .i64 (D : Int), .slice none 0 0, .int .i64 0])
    have HB1 := hid (hb1.trans (hbx.mono hb1.size))
    have hsz := hb1.size
    clear hb1 hbx
    go_wp2
    go_loopw [7] (fun i wr => ∃ (k : Nat) (u : Value), k ≤ l.length ∧ i = .int .i64 k ∧ BoxAt wr w1.heap.size 24 #[.int .i64 (D : Int), u, .int .i64 ((k - min k D : Nat) : Int)] ∧
       wr.ownsRow (w1.heap.size + 1) 3 1 u (l.take (min k D)).length ((l.take (min k D)).map (Value.int .i64)) ∧ Below w.heap.size w wr) (fun i _ => l.length - (intOf i).toNat)
    case atStart =>
      refine ⟨0, .slice none 0 0, by omega, rfl, ?_, ?_, HB1.out⟩
      · have := B0.out; simpa using this
      · simpa using World.ownsRow_nil _ _ _ _
    case round =>
      clear B0 HB1
      obtain ⟨k, u, hk, rfl, b0, ho, hbel⟩ := hrel
      have HMY := hid (mayL_take l (D : Int) D k rfl h8 hk)
      by_cases hlt : k < l.length
      · obtain ⟨b, off, rfl, hbw, hcell⟩ := HC.out (by omega)
        have hx := (hbel.cell (by exact hbw)).trans (hcell k hlt)
        have HL := hid (offerL_take l (D : Int) D k rfl hlt)
        have HPP := hid (offerP_take l (D : Int) D k rfl hlt hlen)
        have HMY' := hid (mayL_take l (D : Int) D (k + 1) rfl h8 hlt)
        obtain ⟨ua, ul, uc, rfl⟩ := owns_slice6 ho
        have hs := Sees.of_owns ho
        have HTL := hid (show (l.take (min k D)).length ≤ 100 by simp; omega)
        clear hcell HC
        generalize l.getD k 0 = x at *
        generalize l.take (min k D) = t at *
        generalize hT' : l.take (min (k + 1) D) = t' at *
        have HT' := hid hT'
        clear hT'
        have hpb : ((k - min k D : Nat) : Int) ≤ 100 := by omega
        generalize hpk : ((k - min k D : Nat) : Int) = pk at *
        have hpk0 : 0 ≤ pk := by omega
        generalize hpk' : ((k + 1 - min (k + 1) D : Nat) : Int) = pk' at *
        have hpk0' : 0 ≤ pk' ∧ pk' ≤ 101 := by omega
        have HPK' := hid hpk'
        clear hpk hpk'
        have c0 := (b0.cell 0).trans rfl
        have c1 := (b0.cell 1).trans rfl
        have c2 := (b0.cell 2).trans rfl
        have B0 := hid b0.drew
        have HS := hid (show Sees wr.drew .i64 (.slice ua ul uc) t from hs)
        have HBW := hid hbel.drew
        clear b0 hs ho hbel
        go_wp2_with fail
        go_region_with (go_at_call 13
                        refine (offer_any (D : Int) pk x _ t _ HS.out (by have := HTL.out; omega) HDD.out (by omega)).mono ?_
                        rintro e w2 ⟨u2, rfl, ho2, hb2⟩
                        obtain ⟨va, vl, vc, rfl⟩ := owns_slice6 ho2
                        have b2 := B0.out.belowAll hb2
                        have f2 := b2.free
                        have e0 := (b2.cell 0).trans rfl
                        have e1 := (b2.cell 1).trans rfl
                        have e2 := (b2.cell 2).trans rfl
                        have B2 := hid b2
                        have HO2 := hid ho2
                        have HB2 := hid (HBW.out.trans (hb2.mono HBW.out.size))
                        rw [HL.out] at HO2
                        rw [HPP.out]
                        clear b2 ho2 hb2)
        all_goals
          have B3 := hid (B2.out.set3 (.int .i64 (D : Int)) (.slice va vl vc) (.int .i64 pk'))
          have HO3 := hid (owns_base (base' := w1.heap.size + 1) (ownsRow_setCell_below (a := ⟨w1.heap.size, 2, none⟩) (ownsRow_setCell_below (a := ⟨w1.heap.size, 1, none⟩) (ownsRow_setCell_below (a := ⟨w1.heap.size, 0, none⟩) HO2.out B0.out.lt (.int .i64 (D : Int))) B0.out.lt (.slice va vl vc)) B0.out.lt (.int .i64 pk')) B0.out.lt)
          have HB3 := hid (((HB2.out.setCell (p := ⟨w1.heap.size, 0, none⟩) hsz (.int .i64 (D : Int))).setCell (p := ⟨w1.heap.size, 1, none⟩) hsz (.slice va vl vc)).setCell (p := ⟨w1.heap.size, 2, none⟩) hsz (.int .i64 pk'))
          clear e0 e1 e2 f2 B2 HO2 HB2 HBW HS B0
          generalize ((w2.setCell ⟨w1.heap.size, 0, none⟩ (.int .i64 (D : Int))).setCell ⟨w1.heap.size, 1, none⟩ (.slice va vl vc)).setCell ⟨w1.heap.size, 2, none⟩ (.int .i64 pk') = W3 at *
          have e0 := (B3.out.cell 0).trans rfl
          have e1 := (B3.out.cell 1).trans rfl
          have e2 := (B3.out.cell 2).trans rfl
          go_wp2_with fail
          refine (lmay_any (D : Int) pk' _ t' _ (Sees.of_owns HO3.out) HDD.out (by omega)).mono ?_
          rintro e w4 ⟨rfl, hb4⟩
          rw [HMY'.out]
          have B4 := hid (B3.out.belowAll hb4)
          have HO4 := hid (owns_below HO3.out hb4)
          have HB4 := hid (HB3.out.trans (hb4.mono HB3.out.size))
          clear e0 e1 e2 B3 HO3 HB3 hb4
          go_wp2
          go_roundw
          case rel => exact ⟨k + 1, _, by omega, by go_num, by rw [HPK'.out]; exact B4.out, by rw [HT'.out]; exact HO4.out, HB4.out⟩
          case measure => simp [intOf]; omega
      · obtain rfl : k = l.length := by omega
        have hs := Sees.of_owns ho
        have hmin : min l.length D ≤ 8 := by omega
        obtain ⟨M, hM⟩ : ∃ M, min l.length D = M := ⟨_, rfl⟩
        rw [hM] at HMY hs ho b0
        have HM := hid hM
        have hMl : M ≤ l.length := by omega
        obtain ⟨ua, ul, uc, rfl⟩ := owns_slice6 ho
        have c0 := (b0.cell 0).trans rfl
        have c1 := (b0.cell 1).trans rfl
        have c2 := (b0.cell 2).trans rfl
        have HS := hid hs
        have HBW := hid hbel
        have HTL := hid (show (l.take M).length ≤ 100 by simp; omega)
        have hlb : D ≤ l.length ∧ M = D ∨ l.length < D ∧ M = l.length := by omega
        have hsub : wrap64 ((l.length : Int) - M) = (l.length : Int) - M := by unfold wrap64; omega
        have hcast : (((l.length - M : Nat)) : Int) = (l.length : Int) - M := by omega
        have HTK := hid (show Sees w .i64 (.slice a M cap) (l.take M) by
          rcases Nat.eq_zero_or_pos l.length with h0 | h0
          · obtain rfl : l = [] := List.eq_nil_of_length_eq_zero h0
            obtain rfl : M = 0 := by simpa using hMl
            simpa using HV.out
          · obtain ⟨b, off, rfl, hbw, hcell⟩ := HC.out h0
            exact Sees.taken M hMl hc1 HMX.out hcell)
        rw [hcast] at HMY c2
        clear b0 hs ho hbel hM HC hmin hcast
        rcases hlb with ⟨h1, rfl⟩ | ⟨h1, rfl⟩
        · go_wp2_with fail
          refine (give_any (M : Int) _ _ (l.take M) _ HS.out (by have := HTL.out; omega)).mono ?_
          rintro e w2 ⟨u2, rfl, ho2, hb2⟩
          have bm := BoxAt.new w2 24 #[.int .i64 (M : Int), .slice none 0 0, .int .i64 ((l.length : Int) - M)]
          have hbm : Below w2.heap.size w2 (w2.alloc (.cells #[.int .i64 (M : Int), .slice none 0 0, .int .i64 ((l.length : Int) - M)] 24)) := (Below.refl _ _).alloc (Nat.le_refl _) _
          have HB2 := hid (HBW.out.trans ((hb2.trans (hbm.mono hb2.size)).mono HBW.out.size))
          have HS2 := hid ((Sees.of_owns ho2).below hbm)
          have BM := hid bm
          obtain ⟨a2, l2, k2, rfl⟩ := owns_slice6 ho2
          clear bm hbm hb2 ho2 HBW HS
          go_wp2_with fail
          refine (same_any _ _ (l.take M) (l.take M) _ HS2.out (HTK.out.below HB2.out)).mono ?_
          rintro e w3 ⟨rfl, hb3⟩
          rw [decide_eq_true (rfl : l.take M = l.take M)]
          have bm := BM.out.belowAll hb3
          have HB3 := hid (HB2.out.trans (hb3.mono HB2.out.size))
          have m0 := (bm.cell 0).trans rfl
          have m1 := (bm.cell 1).trans rfl
          have m2 := (bm.cell 2).trans rfl
          have BM' := hid bm
          clear bm hb3 HB2 HS2 BM HTK
          go_wp2_with fail
          refine (give_any (M : Int) _ _ [] _ (Sees.nil _ _) (by simp)).mono ?_
          rintro e w4 ⟨u4, rfl, ho4, hb4⟩
          have bm := BM'.out.belowAll hb4
          have hs4 : Sees w4 .i64 u4 [] := Sees.of_owns ho4
          obtain ⟨a4, k4, rfl, _, _, _⟩ := hs4.form
          replace m0 := bm.cellA 0 _ rfl
          replace m1 := bm.cellA 1 _ rfl
          replace m2 := bm.cellA 2 _ rfl
          have hbn : Below w4.heap.size w4 (w4.alloc (.cells #[.int .i64 (M : Int), .slice none 0 0, .int .i64 ((l.length : Int) - M)] 24)) := (Below.refl _ _).alloc (Nat.le_refl _) _
          have HB4 := hid (HB3.out.trans ((hb4.trans (hbn.mono hb4.size)).mono HB3.out.size))
          clear bm hs4 ho4 hb4 hbn HB3 BM'
          simp only [List.length_nil]
          go_wp2_with fail
          refine (lmay_any (M : Int) _ _ [] _ (Sees.nil _ _) (by omega) (by omega)).mono ?_
          rintro e w5 ⟨rfl, hb5⟩
          rw [mayL_true (by omega) (by omega) (by simp) (by omega)]
          have HB5 := hid (HB4.out.trans (hb5.mono HB4.out.size))
          clear hb5 HB4
          go_wp2
          go_ret
          exact ⟨rfl, HB5.out⟩
        · go_wp2_with fail
          refine (give_any (D : Int) _ _ (l.take l.length) _ HS.out (by have := HTL.out; omega)).mono ?_
          rintro e w2 ⟨u2, rfl, ho2, hb2⟩
          have bm := BoxAt.new w2 24 #[.int .i64 (D : Int), .slice none 0 0, .int .i64 0]
          have hbm : Below w2.heap.size w2 (w2.alloc (.cells #[.int .i64 (D : Int), .slice none 0 0, .int .i64 0] 24)) := (Below.refl _ _).alloc (Nat.le_refl _) _
          have HB2 := hid (HBW.out.trans ((hb2.trans (hbm.mono hb2.size)).mono HBW.out.size))
          have HS2 := hid ((Sees.of_owns ho2).below hbm)
          have BM := hid bm
          obtain ⟨a2, l2, k2, rfl⟩ := owns_slice6 ho2
          clear bm hbm hb2 ho2 HBW HS
          go_wp2_with fail
          refine (same_any _ _ (l.take l.length) (l.take l.length) _ HS2.out (HTK.out.below HB2.out)).mono ?_
          rintro e w3 ⟨rfl, hb3⟩
          rw [decide_eq_true (rfl : l.take l.length = l.take l.length)]
          have bm := BM.out.belowAll hb3
          have HB3 := hid (HB2.out.trans (hb3.mono HB2.out.size))
          have m0 := (bm.cell 0).trans rfl
          have m1 := (bm.cell 1).trans rfl
          have m2 := (bm.cell 2).trans rfl
          have BM' := hid bm
          clear bm hb3 HB2 HS2 BM HTK
          go_wp2_with fail
          refine (give_any (D : Int) _ _ [] _ (Sees.nil _ _) (by simp)).mono ?_
          rintro e w4 ⟨u4, rfl, ho4, hb4⟩
          have bm := BM'.out.belowAll hb4
          have hs4 : Sees w4 .i64 u4 [] := Sees.of_owns ho4
          obtain ⟨a4, k4, rfl, _, _, _⟩ := hs4.form
          replace m0 := bm.cellA 0 _ rfl
          replace m1 := bm.cellA 1 _ rfl
          replace m2 := bm.cellA 2 _ rfl
          have hbn : Below w4.heap.size w4 (w4.alloc (.cells #[.int .i64 (D : Int), .slice none 0 0, .int .i64 0] 24)) := (Below.refl _ _).alloc (Nat.le_refl _) _
          have HB4 := hid (HB3.out.trans ((hb4.trans (hbn.mono hb4.size)).mono HB3.out.size))
          clear bm hs4 ho4 hb4 hbn HB3 BM'
          simp only [List.length_nil]
          go_wp2_with fail
          refine (lmay_any (D : Int) _ _ [] _ (Sees.nil _ _) (by omega) (by omega)).mono ?_
          rintro e w5 ⟨rfl, hb5⟩
          rw [mayL_true (by omega) (by omega) (by simp) (by omega)]
          have HB5 := hid (HB4.out.trans (hb5.mono HB4.out.size))
          clear hb5 HB4
          go_wp2
          go_ret
          exact ⟨rfl, HB5.out⟩
  · have hn : 100 < l.length ∨ (l.length ≤ 100 ∧ d < 0) ∨ (l.length ≤ 100 ∧ 0 ≤ d ∧ 8 < d) := by omega
    clear hg
    rcases hn with h1 | ⟨h1, h2⟩ | ⟨h1, h2, h3⟩
    all_goals
      go_wp2
      go_ret
      exact ⟨rfl, hb1⟩
end Go.Proofs.Ytdmdpfjnbifegaa
