/-
  What the document's own Put and Pack return, whatever instructions they are given, and that nothing that was there is written.
-/
import Derived.Test.YtfhjlpkejmjigaaDoorIRefD
import Derived.Test.YtfhjlpkejmjigaaDoorIPut
namespace Go.Proofs.YtfhjlpkejmjigaaDoor
open Go.RowKit
set_option linter.unusedVariables false

set_option maxRecDepth 100000 in
set_option maxHeartbeats 1600000 in
theorem riput_any (i : In) (w : World) :
    Calls Tryd.prog 11 #[i.val] w fun e w' => ∃ v, e = .returned (.tuple #[v, .int .i64 (iputE i)]) ∧
      w'.ownsRow w.heap.size 5 1 v (iputB i).length ((iputB i).map (Value.int .u8)) ∧ Below w.heap.size w w' := by
  have hnot := Tryd.hnot
  obtain ⟨o, a, b⟩ := i
  have HB := hid (alloc_belowI w (.cells #[.int .i64 o, .int .i64 a, .int .i64 b] 23))
  by_cases hm : mayI ⟨o, a, b⟩ = true
  · obtain ⟨g1, g2⟩ := iput_pa hm
    obtain ⟨b1, b2, b3, b4, b5, b6⟩ := mayI_bounds hm
    simp only at g1 g2 b1 b2 b3 b4 b5 b6
    have HP := hid (show iputB ⟨o, a, b⟩ = paB [o, a, unsg b] by rw [g2, iputB, if_pos hm])
    have HE := hid (show iputE ⟨o, a, b⟩ = 0 by rw [iputE, if_pos hm])
    have G1 := hid g1
    clear g1 g2
    unfold In.val
    simp only
    by_cases hb : b < 0
    all_goals
      go_enter Tryd.func11, Tryd.ntmps11
      go_wp2_with fail
      refine (rimay_any ⟨o, a, b⟩ _).mono ?_
      rintro e w1 ⟨rfl, hb1⟩
      rw [hm]
      have c0 : w1.cell? ⟨w.heap.size, 0, none⟩ = some (.int .i64 o) := (hb1.cell (by simp)).trans (by simp)
      have c1 : w1.cell? ⟨w.heap.size, 1, none⟩ = some (.int .i64 a) := (hb1.cell (by simp)).trans (by simp)
      have c2 : w1.cell? ⟨w.heap.size, 2, none⟩ = some (.int .i64 b) := (hb1.cell (by simp)).trans (by simp)
      have hz : w.heap.size < w1.heap.size := by have := hb1.size; simp at this; omega
      have HW := hid (HB.out.trans (hb1.mono HB.out.size))
      clear hb1
      go_wp2_with fail
      refine (rputAll_any _ [o, a, unsg b] _ ?sees (by simp)).mono ?_
      case sees =>
        first
          | (rw [show unsg b = -2 * b - 1 by unfold unsg; rw [if_pos hb]]; exact sees3 _ _ _ _ _)
          | (rw [show unsg b = 2 * b by unfold unsg; rw [if_neg (by omega)]]; exact sees3 _ _ _ _ _)
      rintro e w7 ⟨u, rfl, hown7, hb7⟩
      have HO := hid (owns_mono hown7 (show w.heap.size ≤ _ by simp; omega))
      rw [← HP.out] at HO
      have HK := hid ((HW.out.alloc HW.out.size _).trans (hb7.mono (by simp; omega)))
      rw [G1.out]
      clear hown7 hb7
      go_wp2
      go_ret2
      exact ⟨_, by rw [HE.out]; rfl, HO.out, HK.out⟩
  · have hm' : mayI ⟨o, a, b⟩ = false := by simpa using hm
    clear hm
    have HE := hid (show iputE ⟨o, a, b⟩ = 1 by simp [iputE, hm'])
    have HP := hid (show iputB ⟨o, a, b⟩ = [] by simp [iputB, hm'])
    unfold In.val
    simp only
    go_enter Tryd.func11, Tryd.ntmps11
    go_wp2_with fail
    refine (rimay_any ⟨o, a, b⟩ _).mono ?_
    rintro e w1 ⟨rfl, hb1⟩
    rw [hm']
    go_wp2
    go_ret2
    exact ⟨_, by rw [HE.out]; rfl, by rw [HP.out]; exact World.ownsRow_nil _ _ _ _, HB.out.trans (hb1.mono HB.out.size)⟩

set_option maxRecDepth 100000 in
set_option maxHeartbeats 1600000 in
theorem rpack_any (v : Value) (l : List In) (w : World) (hv : SeesI w v l) :
    Calls Tryd.prog 13 #[v] w fun e w' => ∃ u, e = .returned (.tuple #[u, .int .i64 (packE l)]) ∧
      w'.ownsRow w.heap.size 5 1 u (packB l).length ((packB l).map (Value.int .u8)) ∧ Below w.heap.size w w' := by
  have hnot := Tryd.hnot
  obtain ⟨i0, hi, hz0, hz1, hz2⟩ := info_parts Tryd.infoU8
  obtain ⟨a, cap, rfl, hc1, hc2, hcells⟩ := hv.form
  unfold maxLen at hc2
  have HC := hid hcells
  clear hcells hv
  by_cases h64 : 64 < l.length
  · have HE := hid (show packE l = 7 by simp [packE, h64])
    have HP := hid (show packB l = [] by simp [packB, h64])
    go_enter Tryd.func13, Tryd.ntmps13
    go_wp2
    go_ret2
    exact ⟨_, by rw [HE.out]; rfl, by rw [HP.out]; exact World.ownsRow_nil _ _ _ _, Below.refl _ _⟩
  · have HEY := hid (show allMay l = true → packE l = 0 ∧ packB l = iencAll l by intro h; simp [packE, packB, h64, h])
    have HEN := hid (show allMay l = false → packE l = 1 ∧ packB l = [] by intro h; simp [packE, packB, h64, h])
    go_enter Tryd.func13, Tryd.ntmps13
    go_wp2
    go_loopw [4, 5] (fun s i wr => ∃ k : Nat, k ≤ l.length ∧ i = .int .i64 k ∧ allMay (l.take k) = true ∧
        wr.ownsRow w.heap.size 5 1 s (iencAll (l.take k)).length ((iencAll (l.take k)).map (Value.int .u8)) ∧ Below w.heap.size w wr) (fun _ i _ => l.length - (intOf i).toNat)
    case atStart => exact ⟨0, by omega, rfl, rfl, World.ownsRow_nil _ _ _ _, Below.refl _ _⟩
    case round =>
      obtain ⟨k, hk, rfl, hall, hown, hbel⟩ := hrel
      have HA := hid hall
      clear hall
      by_cases hlt : k < l.length
      · obtain ⟨b, off, rfl, hbw, hcell⟩ := HC.out (by omega)
        obtain ⟨c0, c1, c2⟩ := hcell k hlt
        replace c0 := (hbel.cell (by exact hbw)).trans c0
        replace c1 := (hbel.cell (by exact hbw)).trans c1
        replace c2 := (hbel.cell (by exact hbw)).trans c2
        have HS := hid (iencAll_snoc l k hlt)
        have HT := hid (allMay_snoc l k hlt)
        have HN := hid (allMay_not l k hlt)
        have hlen := iencAll_len (l.take k)
        have hlt2 : (l.take k).length ≤ k := List.length_take_le _ _
        clear hcell HC
        generalize l.getD k In.zero = r at *
        obtain ⟨o, a, bb⟩ := r
        simp only at c0 c1 c2
        have hsz := hbel.size
        go_wp2_with fail
        refine (riput_any ⟨o, a, bb⟩ _).mono ?_
        rintro e w1 ⟨u, rfl, hown1, hb1⟩
        have hownk := owns_below hown hb1
        have hbel2 := hbel.trans (hb1.mono hsz)
        have hsz1 := hb1.size
        by_cases ht : mayI ⟨o, a, bb⟩ = true
        · have hpe : iputE ⟨o, a, bb⟩ = 0 := by simp [iputE, ht]
          have hpb : iputB ⟨o, a, bb⟩ = ienc ⟨o, a, bb⟩ := by simp [iputB, ht]
          rw [hpe]
          rw [hpb] at hown1
          have hel := ienc_len ⟨o, a, bb⟩
          have hsee := Sees.of_owns hown1
          generalize ienc ⟨o, a, bb⟩ = ex at *
          clear hpe hpb hown1 hb1
          go_wp2_with (at_builtin; refine wpList_append_sees rfl _ _ 26 rfl w.heap.size 5 i0 (.int .u8 0) 1 Tryd.underlying26 hi hz0 hz1 hz2 rfl .u8 _ _ _ rfl hownk _ ex rfl hsee ?c3 ?c4 ?c5 ?_)
          case c3 => unfold maxLen; omega
          case c4 => omega
          case c5 => omega
          intro v' w2 hown2 hgrow
          have hown3 : w2.ownsRow w.heap.size 5 1 v' (iencAll (l.take (k + 1))).length ((iencAll (l.take (k + 1))).map (Value.int .u8)) := by
            rw [HS.out]; simpa using hown2
          have hbel3 : Below w.heap.size w w2 := hbel2.grown hgrow (by omega) (fun k hk => (hown.lt k hk).1)
          have HO := hid hown3
          have HB3 := hid hbel3
          clear hown3 hown2 hown hownk hgrow hsee hbel hbel2 hbel3
          go_wp2
          go_roundw
          case rel => exact ⟨k + 1, by omega, by go_num, by rw [HT.out, HA.out, ht]; rfl, HO.out, HB3.out⟩
          case measure => simp [intOf]; omega
        · have ht' : mayI ⟨o, a, bb⟩ = false := by simpa using ht
          obtain ⟨e1, e2⟩ := HEN.out (HN.out ht')
          have HE1 := hid e1
          have HE2 := hid e2
          have hpe : iputE ⟨o, a, bb⟩ = 1 := by simp [iputE, ht']
          rw [hpe]
          clear hown1 e1 e2 hownk
          go_wp2
          go_ret2
          exact ⟨_, by rw [HE1.out]; rfl, by rw [HE2.out]; exact World.ownsRow_nil _ _ _ _, hbel2⟩
      · have hkl : l.take k = l := List.take_of_length_le (by omega)
        obtain ⟨e1, e2⟩ := HEY.out (by have := HA.out; rwa [hkl] at this)
        rw [hkl, ← e2] at hown
        have HO := hid hown
        have HP := hid e1
        clear hown e1 e2 hkl
        go_wp2
        go_ret2
        exact ⟨_, by rw [HP.out]; rfl, HO.out, hbel⟩
end Go.Proofs.YtfhjlpkejmjigaaDoor
