/-
  What instr.Put, instr.Pack return, whatever instructions they are given, and that nothing that was there is written.
-/
import Derived.Test.YtfhjlpkejmjigaaDoorIMay
import Derived.Deep.RegionHeld3
import Derived.Laws.OwnMore
namespace Go.Proofs.YtfhjlpkejmjigaaDoor
open Go.RowKit
set_option linter.unusedVariables false

theorem owns_mono {w : World} {base base' : Nat} {e : TypeId} {size : Nat} {v : Value} {n : Nat} {xs : List Value} (h : w.ownsRow base e size v n xs) (hb : base' ≤ base) : w.ownsRow base' e size v n xs := by
  obtain ⟨hl, h⟩ := h
  refine ⟨hl, ?_⟩
  rcases h with h | ⟨g, cap, cur, hv, hg, h⟩
  · exact .inl h
  · exact .inr ⟨g, cap, cur, hv, by omega, h⟩

theorem owns_slice {w : World} {base : Nat} {e : TypeId} {c : Nat} {v : Value} {n : Nat} {xs : List Value} (h : w.ownsRow base e c v n xs) : ∃ a cap, v = .slice a n cap ∧ n ≤ cap ∧ cap ≤ maxLen := by
  obtain ⟨_, h⟩ := h
  rcases h with ⟨rfl, rfl⟩ | ⟨g, cap, cur, rfl, hg, hh, hc, hm, hs, ht⟩
  · exact ⟨none, 0, rfl, by omega, by simp⟩
  · exact ⟨_, cap, rfl, hc, hm⟩

theorem sees3 (w : World) (a b c : Int) (t : TypeId) : Sees (w.alloc (.cells #[.int .i64 a, .int .i64 b, .int .i64 c] t)) .i64 (.slice (some ⟨w.heap.size, 0, none⟩) 3 3) [a, b, c] :=
  Sees.of_owns (World.ownsRow_lit (size := 1) (e := t) (base := 0) w #[.int .i64 a, .int .i64 b, .int .i64 c] 3 (Nat.zero_le _) (by decide) rfl)

theorem Sees.drew {w : World} {k : IntKind} {v : Value} {xs : List Int} (h : Sees w k v xs) : Sees w.drew k v xs := h
theorem iput_pa {i : In} (h : mayI i = true) : paE [i.o, i.a, unsg i.b] = 0 ∧ paB [i.o, i.a, unsg i.b] = ienc i := by
  have := ienc_all h
  simp [paE, paB, this, ienc]

set_option maxRecDepth 100000 in
set_option maxHeartbeats 1600000 in
theorem iput_any (i : In) (w : World) (hl : Laid w) :
    Calls Tryd.prog 10 #[i.val] w fun e w' => ∃ v, e = .returned (.tuple #[v, .int .i64 (iputE i)]) ∧
      w'.ownsRow w.heap.size 5 1 v (iputB i).length ((iputB i).map (Value.int .u8)) ∧ Below w.heap.size w w' := by
  have hnot := Tryd.hnot
  have HL := hid hl
  clear hl
  obtain ⟨o, a, b⟩ := i
  have HB := hid (alloc_belowI w (.cells #[.int .i64 o, .int .i64 a, .int .i64 b] 23))
  by_cases hm : mayI ⟨o, a, b⟩ = true
  · obtain ⟨g1, g2⟩ := iput_pa hm
    obtain ⟨b1, b2, b3, b4, b5, b6⟩ := mayI_bounds hm
    simp only at g1 g2 b1 b2 b3 b4 b5 b6
    have HP := hid (show iputB ⟨o, a, b⟩ = paB [o, a, unsg b] by rw [g2, iputB, if_pos hm])
    have HE := hid (show iputE ⟨o, a, b⟩ = 0 by rw [iputE, if_pos hm])
    unfold In.val
    simp only
    go_enter Tryd.func10, Tryd.ntmps10
    go_wp2_with fail
    refine (imay_any ⟨o, a, b⟩ _ (HL.out.below HB.out)).mono ?_
    rintro e w1 ⟨rfl, hb1⟩
    rw [hm]
    have c0 : w1.cell? ⟨w.heap.size, 0, none⟩ = some (.int .i64 o) := (hb1.cell (by simp)).trans (by simp)
    have c1 : w1.cell? ⟨w.heap.size, 1, none⟩ = some (.int .i64 a) := (hb1.cell (by simp)).trans (by simp)
    have c2 : w1.cell? ⟨w.heap.size, 2, none⟩ = some (.int .i64 b) := (hb1.cell (by simp)).trans (by simp)
    have hz : w.heap.size < w1.heap.size := by have := hb1.size; simp at this; omega
    have HW := hid (HB.out.trans (hb1.mono HB.out.size))
    have G1 := hid g1
    clear hb1 hm g1 g2
    have hm0 : ∀ w', Below w1.heap.size w1 w' → Below w1.heap.size w1 w' ∧ w'.cell? ⟨w.heap.size, 0, none⟩ = some (.int .i64 o) ∧ w'.cell? ⟨w.heap.size, 1, none⟩ = some (.int .i64 a) ∧ w'.cell? ⟨w.heap.size, 2, none⟩ = some (.int .i64 b) :=
      fun w' hb => ⟨hb, (hb.cell (by exact hz)).trans c0, (hb.cell (by exact hz)).trans c1, (hb.cell (by exact hz)).trans c2⟩
    have MK := hid hm0
    clear hm0
    go_wp2_with fail
    go_region_held3 (fun w' => Below w1.heap.size w1 w' ∧ w'.cell? ⟨w.heap.size, 0, none⟩ = some (.int .i64 o) ∧ w'.cell? ⟨w.heap.size, 1, none⟩ = some (.int .i64 a) ∧ w'.cell? ⟨w.heap.size, 2, none⟩ = some (.int .i64 b))
      ((go_split_ands; refine MK.out _ ?_; first
        | exact (Below.refl _ _).drew
        | assumption
        | exact Below.alloc (by assumption) (Below.size (by assumption)) _
        | exact Below.trans (by assumption) (Below.mono hb7 (Below.size (by assumption)))))
      ((go_split_ands; first
        | (go_at_call 22
           refine (unsigned_any b _ ⟨b5, b6⟩).mono ?_
           rintro e w6 ⟨rfl, rfl⟩)
        | (go_at_call 21
           refine (putAll_any _ [o, a, unsg b] _ (by first | exact sees3 _ _ _ _ _ | exact (sees3 _ _ _ _ _).drew) (by simp)).mono ?_
           rintro e w7 ⟨u, rfl, hown7, hb7⟩)))
    all_goals
      go_split_ands
      rename_i hbk _ _ _
      have HO := hid (owns_mono hown7 (show w.heap.size ≤ _ by simp; omega))
      rw [← HP.out] at HO
      have HK := hid (HW.out.trans (hbk.mono HW.out.size))
      rw [G1.out]
      clear hown7 hb7 hbk
      go_wp2
      go_ret2
      exact ⟨_, by rw [HE.out]; rfl, HO.out, HK.out⟩
  · have hm' : mayI ⟨o, a, b⟩ = false := by simpa using hm
    clear hm
    have HE := hid (show iputE ⟨o, a, b⟩ = 1 by simp [iputE, hm'])
    have HP := hid (show iputB ⟨o, a, b⟩ = [] by simp [iputB, hm'])
    unfold In.val
    simp only
    go_enter Tryd.func10, Tryd.ntmps10
    go_wp2_with fail
    refine (imay_any ⟨o, a, b⟩ _ (HL.out.below HB.out)).mono ?_
    rintro e w1 ⟨rfl, hb1⟩
    rw [hm']
    go_wp2
    go_ret2
    exact ⟨_, by rw [HE.out]; rfl, by rw [HP.out]; exact World.ownsRow_nil _ _ _ _, HB.out.trans (hb1.mono HB.out.size)⟩

theorem in_take_snoc (l : List In) (k : Nat) (h : k < l.length) : l.take (k + 1) = l.take k ++ [l.getD k In.zero] := by
  rw [List.take_succ_eq_append_getElem h]; simp [List.getD, List.getElem?_eq_getElem h]
theorem ienc_len (i : In) : (ienc i).length ≤ 21 := by have := encAll_len [i.o, i.a, unsg i.b]; simpa [ienc] using this
theorem iputB_len (i : In) : (iputB i).length ≤ 21 := by unfold iputB; split <;> simp [ienc_len]
theorem iencAll_len (l : List In) : (iencAll l).length ≤ 21 * l.length := by
  induction l with
  | nil => simp [iencAll]
  | cons a l ih =>
    have : iencAll (a :: l) = ienc a ++ iencAll l := by simp [iencAll]
    rw [this, List.length_append, List.length_cons]
    have := ienc_len a
    omega
theorem iencAll_snoc (l : List In) (k : Nat) (h : k < l.length) : iencAll (l.take (k + 1)) = iencAll (l.take k) ++ ienc (l.getD k In.zero) := by
  rw [in_take_snoc l k h]; simp [iencAll]
theorem allMay_snoc (l : List In) (k : Nat) (h : k < l.length) : allMay (l.take (k + 1)) = (allMay (l.take k) && mayI (l.getD k In.zero)) := by
  rw [in_take_snoc l k h]; simp [allMay]
theorem allMay_not (l : List In) (k : Nat) (h : k < l.length) (hn : mayI (l.getD k In.zero) = false) : allMay l = false := by
  simp only [allMay, List.all_eq_false]
  refine ⟨l[k], List.getElem_mem h, ?_⟩
  rw [show l[k] = l.getD k In.zero by simp [List.getD, List.getElem?_eq_getElem h], hn]; simp

set_option maxRecDepth 100000 in
set_option maxHeartbeats 1600000 in
theorem pack_any (v : Value) (l : List In) (w : World) (hl : Laid w) (hv : SeesI w v l) :
    Calls Tryd.prog 12 #[v] w fun e w' => ∃ u, e = .returned (.tuple #[u, .int .i64 (packE l)]) ∧
      w'.ownsRow w.heap.size 5 1 u (packB l).length ((packB l).map (Value.int .u8)) ∧ Below w.heap.size w w' := by
  have hnot := Tryd.hnot
  obtain ⟨i0, hi, hz0, hz1, hz2⟩ := info_parts Tryd.infoU8
  obtain ⟨a, cap, rfl, hc1, hc2, hcells⟩ := hv.form
  unfold maxLen at hc2
  have HC := hid hcells
  have HL := hid hl
  clear hcells hv hl
  by_cases h64 : 64 < l.length
  · have HE := hid (show packE l = 7 by simp [packE, h64])
    have HP := hid (show packB l = [] by simp [packB, h64])
    go_enter Tryd.func12, Tryd.ntmps12
    go_wp2
    go_ret2
    exact ⟨_, by rw [HE.out]; rfl, by rw [HP.out]; exact World.ownsRow_nil _ _ _ _, Below.refl _ _⟩
  · have HEY := hid (show allMay l = true → packE l = 0 ∧ packB l = iencAll l by intro h; simp [packE, packB, h64, h])
    have HEN := hid (show allMay l = false → packE l = 1 ∧ packB l = [] by intro h; simp [packE, packB, h64, h])
    go_enter Tryd.func12, Tryd.ntmps12
    go_wp2
    go_loopw [4, 14] (fun s i wr => ∃ k : Nat, k ≤ l.length ∧ i = .int .i64 k ∧ allMay (l.take k) = true ∧
        wr.ownsRow w.heap.size 5 1 s (iencAll (l.take k)).length ((iencAll (l.take k)).map (Value.int .u8)) ∧ Below w.heap.size w wr) (fun _ i _ => l.length - (intOf i).toNat)
    case atStart => exact ⟨0, by omega, rfl, rfl, World.ownsRow_nil _ _ _ _, Below.refl _ _⟩
    case round =>
      obtain ⟨k, hk, rfl, hall, hown, hbel⟩ := hrel
      have HA := hid hall
      clear hall
      by_cases hlt : k < l.length
      · obtain ⟨b, off, rfl, hbw, hcell⟩ := HC.out (by omega)
        obtain ⟨c0, c1, c2⟩ := hcell k hlt
        replace c0 := (hbel.cell (by exact hbw)).trans c0
        replace c1 := (hbel.cell (by exact hbw)).trans c1
        replace c2 := (hbel.cell (by exact hbw)).trans c2
        have HS := hid (iencAll_snoc l k hlt)
        have HT := hid (allMay_snoc l k hlt)
        have HN := hid (allMay_not l k hlt)
        have hlen := iencAll_len (l.take k)
        have hlt2 : (l.take k).length ≤ k := List.length_take_le _ _
        clear hcell HC
        generalize l.getD k In.zero = r at *
        obtain ⟨o, a, bb⟩ := r
        simp only at c0 c1 c2
        have hbel1 := hbel.alloc hbel.size (.cells #[.int .i64 o, .int .i64 a, .int .i64 bb] 23)
        have hsz := hbel.size
        go_wp2_with fail
        refine (iput_any ⟨o, a, bb⟩ _ (HL.out.below hbel1)).mono ?_
        rintro e w1 ⟨u, rfl, hown1, hb1⟩
        have hownk := owns_below (hown.alloc (.cells #[.int .i64 o, .int .i64 a, .int .i64 bb] 23)) hb1
        have hbel2 := hbel1.trans (hb1.mono (by simp; omega))
        have hsz1 := hb1.size
        simp at hsz1
        by_cases ht : mayI ⟨o, a, bb⟩ = true
        · have hpe : iputE ⟨o, a, bb⟩ = 0 := by simp [iputE, ht]
          have hpb : iputB ⟨o, a, bb⟩ = ienc ⟨o, a, bb⟩ := by simp [iputB, ht]
          rw [hpe]
          rw [hpb] at hown1
          have hel := ienc_len ⟨o, a, bb⟩
          have hsee := Sees.of_owns hown1
          generalize ienc ⟨o, a, bb⟩ = ex at *
          clear hpe hpb hown1 hb1
          go_wp2_with (at_builtin; refine wpList_append_sees rfl _ _ 26 rfl w.heap.size 5 i0 (.int .u8 0) 1 Tryd.underlying26 hi hz0 hz1 hz2 rfl .u8 _ _ _ rfl hownk _ ex rfl hsee ?c3 ?c4 ?c5 ?_)
          case c3 => unfold maxLen; omega
          case c4 => omega
          case c5 => omega
          intro v' w2 hown2 hgrow
          have hown3 : w2.ownsRow w.heap.size 5 1 v' (iencAll (l.take (k + 1))).length ((iencAll (l.take (k + 1))).map (Value.int .u8)) := by
            rw [HS.out]; simpa using hown2
          have hbel3 : Below w.heap.size w w2 := hbel2.grown hgrow (by omega) (fun k hk => (hown.lt k hk).1)
          have HO := hid hown3
          have HB3 := hid hbel3
          clear hown3 hown2 hown hownk hgrow hsee hbel hbel1 hbel2 hbel3
          go_wp2
          go_roundw
          case rel => exact ⟨k + 1, by omega, by go_num, by rw [HT.out, HA.out, ht]; rfl, HO.out, HB3.out⟩
          case measure => simp [intOf]; omega
        · have ht' : mayI ⟨o, a, bb⟩ = false := by simpa using ht
          obtain ⟨e1, e2⟩ := HEN.out (HN.out ht')
          have HE1 := hid e1
          have HE2 := hid e2
          have hpe : iputE ⟨o, a, bb⟩ = 1 := by simp [iputE, ht']
          rw [hpe]
          clear hown1 e1 e2 hownk
          go_wp2
          go_ret2
          exact ⟨_, by rw [HE1.out]; rfl, by rw [HE2.out]; exact World.ownsRow_nil _ _ _ _, hbel2⟩
      · have hkl : l.take k = l := List.take_of_length_le (by omega)
        obtain ⟨e1, e2⟩ := HEY.out (by have := HA.out; rwa [hkl] at this)
        rw [hkl, ← e2] at hown
        have HO := hid hown
        have HP := hid e1
        clear hown e1 e2 hkl
        go_wp2
        go_ret2
        exact ⟨_, by rw [HP.out]; rfl, HO.out, hbel⟩
end Go.Proofs.YtfhjlpkejmjigaaDoor
