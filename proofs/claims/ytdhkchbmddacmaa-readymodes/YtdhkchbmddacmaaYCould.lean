/-
  What couldRun returns: the numbers of those that could run; nothing that was there is written.
-/
import Derived.Test.YtdhkchbmddacmaaYMath
import Derived.Test.YtdhkchbmddacmaaPLib
import Derived.Test.YtdhkchbmddacmaaTOwnI
namespace Go.Proofs.Ytdhkchbmddacmaa
open Go.RowKit
set_option linter.unusedVariables false

/-- Those of the first n that could run, as numbers of a machine. -/
def idxI (l : List Px) (n : Nat) : List Int := ((List.range n).filter (canAt l)).map (fun i : Nat => (i : Int))
theorem idxI_succ (l : List Px) (n : Nat) : idxI l (n + 1) = if canAt l n = true then idxI l n ++ [(n : Int)] else idxI l n := by
  unfold idxI
  rw [List.range_succ, List.filter_append]
  by_cases h : canAt l n = true
  · rw [if_pos h]; simp [h]
  · rw [if_neg h]; simp [h]
theorem idxI_len (l : List Px) (n : Nat) : (idxI l n).length ≤ n := by
  unfold idxI
  rw [List.length_map]
  refine Nat.le_trans (List.length_filter_le _ _) ?_
  simp

theorem px_cells (r : Px) (w : World) (b off : Nat) (h : ∀ j, j < 18 → w.cell? ⟨b, off + j, none⟩ = some (r.cells.getD j .nilIface)) :
    w.cell? ⟨b, off, none⟩ = some (.int .i64 r.st) ∧ w.cell? ⟨b, off + 1, none⟩ = some (.int .i64 r.pr) ∧ w.cell? ⟨b, off + 2, none⟩ = some (.bool r.su) ∧ w.cell? ⟨b, off + 3, none⟩ = some (.int .i64 r.pc) ∧
    w.cell? ⟨b, off + 4, none⟩ = some (.int .i64 r.r0) ∧ w.cell? ⟨b, off + 5, none⟩ = some (.int .i64 r.r1) ∧ w.cell? ⟨b, off + 6, none⟩ = some (.int .i64 r.r2) ∧ w.cell? ⟨b, off + 7, none⟩ = some (.int .i64 r.r3) ∧
    w.cell? ⟨b, off + 8, none⟩ = some (.int .i64 r.si) ∧ w.cell? ⟨b, off + 9, none⟩ = some (.int .i64 r.un) ∧ w.cell? ⟨b, off + 10, none⟩ = some (.int .i64 r.ki) ∧ w.cell? ⟨b, off + 11, none⟩ = some (.int .i64 r.ob) ∧
    w.cell? ⟨b, off + 12, none⟩ = some (.int .i64 r.du) ∧ w.cell? ⟨b, off + 13, none⟩ = some (.int .i64 r.ne) ∧ w.cell? ⟨b, off + 14, none⟩ = some (.bool r.pe) ∧ w.cell? ⟨b, off + 15, none⟩ = some (.int .i64 r.co) ∧
    w.cell? ⟨b, off + 16, none⟩ = some (.int .i64 r.va) ∧ w.cell? ⟨b, off + 17, none⟩ = some (.int .i64 r.ca) :=
  ⟨h 0 (by decide), h 1 (by decide), h 2 (by decide), h 3 (by decide), h 4 (by decide), h 5 (by decide), h 6 (by decide), h 7 (by decide), h 8 (by decide), h 9 (by decide), h 10 (by decide), h 11 (by decide), h 12 (by decide), h 13 (by decide), h 14 (by decide), h 15 (by decide), h 16 (by decide), h 17 (by decide)⟩

set_option maxRecDepth 100000 in
set_option maxHeartbeats 1600000 in
theorem could_nil (vl : Value) (l : List Px) (mode : Int) (w : World) (hv : SeesPx w vl l) (hl : l.length ≤ 900000) (h0 : l.length = 0) :
    Calls Try.prog 15 #[vl, .int .i64 mode] w fun e w' => ∃ u, e = .returned u ∧ OI w' w.heap.size u (idxI l 0) ∧ Below w.heap.size w w' := by
  obtain ⟨al, cl, rfl, hl1, hl2, hlc⟩ := hv.form
  have hl3 : cl ≤ 9223372036854775807 := hl2
  clear hl2
  have HC := hid hlc
  clear hlc hv
  have hO : OI w w.heap.size (.slice none 0 0) [] := ⟨rfl, .inl ⟨rfl, rfl⟩⟩
  have HO := hid hO
  clear hO
  have hll : l = [] := List.eq_nil_of_length_eq_zero h0
  subst hll
  clear HC h0
  go_enter Try.func15, Try.ntmps15
  by_cases h1 : mode = 1
  · subst h1
    go_wp2
    refine wp_loop_rounds 1 ?_
    rw [rounds_succ]
    go_wp2
    go_ret
    exact ⟨_, rfl, HO.out, Below.refl _ _⟩
  · by_cases h2 : mode = 2
    · subst h2
      go_wp2
      refine wp_loop_rounds 1 ?_
      rw [rounds_succ]
      go_wp2
      go_ret
      exact ⟨_, rfl, HO.out, Below.refl _ _⟩
    · go_wp2
      go_ret
      exact ⟨_, rfl, HO.out, Below.refl _ _⟩

set_option maxRecDepth 100000 in
set_option maxHeartbeats 1600000 in
theorem could_other (vl : Value) (l : List Px) (mode : Int) (w : World) (hv : SeesPx w vl l) (hl : l.length ≤ 900000) (h1 : mode ≠ 1) (h2 : mode ≠ 2) :
    Calls Try.prog 15 #[vl, .int .i64 mode] w fun e w' => ∃ u, e = .returned u ∧ OI w' w.heap.size u (idxI l 0) ∧ Below w.heap.size w w' := by
  obtain ⟨al, cl, rfl, hl1, hl2, hlc⟩ := hv.form
  have hl3 : cl ≤ 9223372036854775807 := hl2
  clear hl2
  have HC := hid hlc
  clear hlc hv
  have hO : OI w w.heap.size (.slice none 0 0) [] := ⟨rfl, .inl ⟨rfl, rfl⟩⟩
  have HO := hid hO
  clear hO
  clear HC
  go_enter Try.func15, Try.ntmps15
  go_wp2
  go_ret
  exact ⟨_, rfl, HO.out, Below.refl _ _⟩

set_option maxRecDepth 100000 in
set_option maxHeartbeats 1600000 in
theorem could_cold (vl : Value) (l : List Px) (w : World) (hv : SeesPx w vl l) (hl : l.length ≤ 900000) (h0 : 0 < l.length) :
    Calls Try.prog 15 #[vl, .int .i64 1] w fun e w' => ∃ u, e = .returned u ∧ OI w' w.heap.size u (idxI l 1) ∧ Below w.heap.size w w' := by
  obtain ⟨al, cl, rfl, hl1, hl2, hlc⟩ := hv.form
  have hl3 : cl ≤ 9223372036854775807 := hl2
  clear hl2
  have HC := hid hlc
  clear hlc hv
  have hO : OI w w.heap.size (.slice none 0 0) [] := ⟨rfl, .inl ⟨rfl, rfl⟩⟩
  have HO := hid hO
  clear hO
  obtain ⟨b, off, rfl, hbw, hcell⟩ := HC.out (by omega)
  clear hcell hbw
  have hm : min 1 (l.length : Int) = 1 := by omega
  go_enter Try.func15, Try.ntmps15
  go_wp2
  go_loopw [5, 20] (fun s t wc => ∃ i : Nat, i ≤ 1 ∧ t = .int .i64 i ∧ OI wc w.heap.size s (idxI l i) ∧ Below w.heap.size w wc) (fun _ t _ => 1 - (intOf t).toNat)
  case atStart => exact ⟨0, Nat.zero_le _, rfl, HO.out, Below.refl _ _⟩
  case round =>
    obtain ⟨i, hi, rfl, hown, hbel⟩ := hrel
    have HO1 := hid hown
    clear hown
    have HZ := hid (show (idxI l i).length ≤ 900000 from Nat.le_trans (idxI_len l i) (by omega))
    by_cases hlt : i < 1
    · obtain ⟨b, off, hb0, hbw, hcell⟩ := HC.out (by omega)
      try simp only [Option.some.injEq, Addr.mk.injEq, and_true] at hb0
      first | obtain ⟨rfl, rfl⟩ := hb0 | subst hb0
      have HP := hid (show PxAt wr b (off + i * 18) (l.getD i Px.zero) from fun j hj => (hbel.cell (by exact hbw)).trans (hcell i (by omega) j hj))
      have HPA := hid (show PxAt (wr.alloc (.cells Px.zero.cells.toArray 33)) b (off + i * 18) (l.getD i Px.zero) from HP.out.below ((Below.refl wr.heap.size _).alloc (Nat.le_refl _) _) (by have := hbel.size; omega))
      have HS := hid (idxI_succ l i)
      have HCan := hid (show canAt l i = (decide ((l.getD i Px.zero).st = 1) && !(l.getD i Px.zero).su) from rfl)
      clear hcell HC
      generalize l.getD i Px.zero = r at *
      have HB := hid hbel
      have hsz := hbel.size
      clear hbel
      have hi1 : i + 1 ≤ 1 := by omega
      by_cases hs : r.st = 1
      · by_cases hu : r.su = true
        · have HE := hid (show idxI l i = idxI l (i + 1) by rw [HS.out, HCan.out, hs, hu]; simp)
          clear HS HCan
          go_wp2_with (first
                | (refine wpList_load_px rfl _ rfl b (off + i * 18) rfl r HP.out ?_)
                | (refine wpList_load_px rfl _ rfl b (off + i * 18) rfl r HPA.out ?_)
                | (refine wpList_store_px rfl _ _ rfl rfl _ rfl r rfl _ (BoxAt.new _ _ _) rfl ?_
                   intro w1 hb1 hg1 hs1
                   have c0 := (PxAt.box hb1).st
                   have c2 := (PxAt.box hb1).su
                   have hw1 : Below wr.heap.size wr w1 := ((Below.refl wr.heap.size wr).alloc (Nat.le_refl _) _).grown hg1 (by simp) (fun k hk => by cases hk; exact Nat.le_refl _)
                   have HW1 := hid hw1
                   have HB1 := hid (HB.out.trans (hw1.mono hsz))
                   have HO2 := hid (HO1.out.below hw1)
                   have hz1 : wr.heap.size < w1.heap.size := by rw [hs1]; simp
                   clear hb1 hg1 hs1 hw1))
          rw [HE.out] at HO2
          go_roundw
          case rel => exact ⟨i + 1, hi1, by go_num, HO2.out, HB1.out⟩
          case measure => simp [intOf]; omega
        · have hu' : r.su = false := by simpa using hu
          have HE := hid (show idxI l i ++ [(i : Int)] = idxI l (i + 1) by rw [HS.out, HCan.out, hs, hu']; simp)
          have HM := hid (show (idxI l i).length + [(i : Int)].length ≤ 1000000 by have := HZ.out; simp only [List.length_cons, List.length_nil]; omega)
          clear HS HCan
          go_wp2_with (first
                | (refine wpList_load_px rfl _ rfl b (off + i * 18) rfl r HP.out ?_)
                | (refine wpList_load_px rfl _ rfl b (off + i * 18) rfl r HPA.out ?_)
                | (refine wpList_store_px rfl _ _ rfl rfl _ rfl r rfl _ (BoxAt.new _ _ _) rfl ?_
                   intro w1 hb1 hg1 hs1
                   have c0 := (PxAt.box hb1).st
                   have c2 := (PxAt.box hb1).su
                   have hw1 : Below wr.heap.size wr w1 := ((Below.refl wr.heap.size wr).alloc (Nat.le_refl _) _).grown hg1 (by simp) (fun k hk => by cases hk; exact Nat.le_refl _)
                   have HW1 := hid hw1
                   have HB1 := hid (HB.out.trans (hw1.mono hsz))
                   have HO2 := hid (HO1.out.below hw1)
                   have hz1 : wr.heap.size < w1.heap.size := by rw [hs1]; simp
                   clear hb1 hg1 hs1 hw1)
                | (at_builtin
                   have hb2 := (Below.refl w1.heap.size w1).alloc (Nat.le_refl _) (.cells #[.int .i64 i] 3)
                   have HO3 := hid (HO2.out.below hb2)
                   have HB3 := hid (HB1.out.trans (hb2.mono HB1.out.size))
                   have HSe := hid (show Sees (w1.alloc (.cells #[.int .i64 i] 3)) .i64 (.slice (some ⟨w1.heap.size, 0, none⟩) 1 1) [(i : Int)] from Sees.box (ys := [(i : Int)]) (BoxAt.new w1 3 #[.int .i64 i]) (by simp))
                   clear hb2
                   refine app_ints rfl _ _ rfl w.heap.size _ (idxI l i) rfl HO3.out _ [(i : Int)] rfl HSe.out HM.out HB3.out.size ?_
                   intro v' w' ho hg hb
                   rw [HE.out] at ho
                   have HO4 := hid ho
                   have HB4 := hid (HB3.out.trans hb)
                   clear ho hg hb HSe HO2 HO1))
          go_roundw
          case rel => exact ⟨i + 1, hi1, by go_num, HO4.out, HB4.out⟩
          case measure => simp [intOf]; omega
      · have HE := hid (show idxI l i = idxI l (i + 1) by rw [HS.out, HCan.out]; simp [hs])
        have hsb : (r.st == 1) = false := by simpa using hs
        clear HS HCan
        go_wp2_with (first
          | (refine wpList_load_px rfl _ rfl b (off + i * 18) rfl r HP.out ?_)
          | (refine wpList_load_px rfl _ rfl b (off + i * 18) rfl r HPA.out ?_)
          | (refine wpList_store_px rfl _ _ rfl rfl _ rfl r rfl _ (BoxAt.new _ _ _) rfl ?_
             intro w1 hb1 hg1 hs1
             have c0 := (PxAt.box hb1).st
             have c2 := (PxAt.box hb1).su
             have hw1 : Below wr.heap.size wr w1 := ((Below.refl wr.heap.size wr).alloc (Nat.le_refl _) _).grown hg1 (by simp) (fun k hk => by cases hk; exact Nat.le_refl _)
             have HW1 := hid hw1
             have HB1 := hid (HB.out.trans (hw1.mono hsz))
             have HO2 := hid (HO1.out.below hw1)
             have hz1 : wr.heap.size < w1.heap.size := by rw [hs1]; simp
             clear hb1 hg1 hs1 hw1))
        rw [HE.out] at HO2
        go_roundw
        case rel => exact ⟨i + 1, hi1, by go_num, HO2.out, HB1.out⟩
        case measure => simp [intOf]; omega
    · have hie : i = 1 := by omega
      subst hie
      clear HC HZ HO
      have HBE := hid hbel
      clear hbel
      go_wp2
      go_ret
      exact ⟨_, rfl, HO1.out, HBE.out⟩

set_option maxRecDepth 100000 in
set_option maxHeartbeats 1600000 in
theorem could_normal (vl : Value) (l : List Px) (w : World) (hv : SeesPx w vl l) (hl : l.length ≤ 900000) :
    Calls Try.prog 15 #[vl, .int .i64 2] w fun e w' => ∃ u, e = .returned u ∧ OI w' w.heap.size u (idxI l l.length) ∧ Below w.heap.size w w' := by
  obtain ⟨al, cl, rfl, hl1, hl2, hlc⟩ := hv.form
  have hl3 : cl ≤ 9223372036854775807 := hl2
  clear hl2
  have HC := hid hlc
  clear hlc hv
  have hO : OI w w.heap.size (.slice none 0 0) [] := ⟨rfl, .inl ⟨rfl, rfl⟩⟩
  have HO := hid hO
  clear hO
  go_enter Try.func15, Try.ntmps15
  go_wp2
  go_loopw [5, 20] (fun s t wc => ∃ i : Nat, i ≤ l.length ∧ t = .int .i64 i ∧ OI wc w.heap.size s (idxI l i) ∧ Below w.heap.size w wc) (fun _ t _ => l.length - (intOf t).toNat)
  case atStart => exact ⟨0, Nat.zero_le _, rfl, HO.out, Below.refl _ _⟩
  case round =>
    obtain ⟨i, hi, rfl, hown, hbel⟩ := hrel
    have HO1 := hid hown
    clear hown
    have HZ := hid (show (idxI l i).length ≤ 900000 from Nat.le_trans (idxI_len l i) (by omega))
    by_cases hlt : i < l.length
    · obtain ⟨b, off, hb0, hbw, hcell⟩ := HC.out (by omega)
      try simp only [Option.some.injEq, Addr.mk.injEq, and_true] at hb0
      first | obtain ⟨rfl, rfl⟩ := hb0 | subst hb0
      have HP := hid (show PxAt wr b (off + i * 18) (l.getD i Px.zero) from fun j hj => (hbel.cell (by exact hbw)).trans (hcell i (by omega) j hj))
      have HPA := hid (show PxAt (wr.alloc (.cells Px.zero.cells.toArray 33)) b (off + i * 18) (l.getD i Px.zero) from HP.out.below ((Below.refl wr.heap.size _).alloc (Nat.le_refl _) _) (by have := hbel.size; omega))
      have HS := hid (idxI_succ l i)
      have HCan := hid (show canAt l i = (decide ((l.getD i Px.zero).st = 1) && !(l.getD i Px.zero).su) from rfl)
      clear hcell HC
      generalize l.getD i Px.zero = r at *
      have HB := hid hbel
      have hsz := hbel.size
      clear hbel
      have hi1 : i + 1 ≤ l.length := by omega
      by_cases hs : r.st = 1
      · by_cases hu : r.su = true
        · have HE := hid (show idxI l i = idxI l (i + 1) by rw [HS.out, HCan.out, hs, hu]; simp)
          clear HS HCan
          go_wp2_with (first
                | (refine wpList_load_px rfl _ rfl b (off + i * 18) rfl r HP.out ?_)
                | (refine wpList_load_px rfl _ rfl b (off + i * 18) rfl r HPA.out ?_)
                | (refine wpList_store_px rfl _ _ rfl rfl _ rfl r rfl _ (BoxAt.new _ _ _) rfl ?_
                   intro w1 hb1 hg1 hs1
                   have c0 := (PxAt.box hb1).st
                   have c2 := (PxAt.box hb1).su
                   have hw1 : Below wr.heap.size wr w1 := ((Below.refl wr.heap.size wr).alloc (Nat.le_refl _) _).grown hg1 (by simp) (fun k hk => by cases hk; exact Nat.le_refl _)
                   have HW1 := hid hw1
                   have HB1 := hid (HB.out.trans (hw1.mono hsz))
                   have HO2 := hid (HO1.out.below hw1)
                   have hz1 : wr.heap.size < w1.heap.size := by rw [hs1]; simp
                   clear hb1 hg1 hs1 hw1))
          rw [HE.out] at HO2
          go_roundw
          case rel => exact ⟨i + 1, hi1, by go_num, HO2.out, HB1.out⟩
          case measure => simp [intOf]; omega
        · have hu' : r.su = false := by simpa using hu
          have HE := hid (show idxI l i ++ [(i : Int)] = idxI l (i + 1) by rw [HS.out, HCan.out, hs, hu']; simp)
          have HM := hid (show (idxI l i).length + [(i : Int)].length ≤ 1000000 by have := HZ.out; simp only [List.length_cons, List.length_nil]; omega)
          clear HS HCan
          go_wp2_with (first
                | (refine wpList_load_px rfl _ rfl b (off + i * 18) rfl r HP.out ?_)
                | (refine wpList_load_px rfl _ rfl b (off + i * 18) rfl r HPA.out ?_)
                | (refine wpList_store_px rfl _ _ rfl rfl _ rfl r rfl _ (BoxAt.new _ _ _) rfl ?_
                   intro w1 hb1 hg1 hs1
                   have c0 := (PxAt.box hb1).st
                   have c2 := (PxAt.box hb1).su
                   have hw1 : Below wr.heap.size wr w1 := ((Below.refl wr.heap.size wr).alloc (Nat.le_refl _) _).grown hg1 (by simp) (fun k hk => by cases hk; exact Nat.le_refl _)
                   have HW1 := hid hw1
                   have HB1 := hid (HB.out.trans (hw1.mono hsz))
                   have HO2 := hid (HO1.out.below hw1)
                   have hz1 : wr.heap.size < w1.heap.size := by rw [hs1]; simp
                   clear hb1 hg1 hs1 hw1)
                | (at_builtin
                   have hb2 := (Below.refl w1.heap.size w1).alloc (Nat.le_refl _) (.cells #[.int .i64 i] 3)
                   have HO3 := hid (HO2.out.below hb2)
                   have HB3 := hid (HB1.out.trans (hb2.mono HB1.out.size))
                   have HSe := hid (show Sees (w1.alloc (.cells #[.int .i64 i] 3)) .i64 (.slice (some ⟨w1.heap.size, 0, none⟩) 1 1) [(i : Int)] from Sees.box (ys := [(i : Int)]) (BoxAt.new w1 3 #[.int .i64 i]) (by simp))
                   clear hb2
                   refine app_ints rfl _ _ rfl w.heap.size _ (idxI l i) rfl HO3.out _ [(i : Int)] rfl HSe.out HM.out HB3.out.size ?_
                   intro v' w' ho hg hb
                   rw [HE.out] at ho
                   have HO4 := hid ho
                   have HB4 := hid (HB3.out.trans hb)
                   clear ho hg hb HSe HO2 HO1))
          go_roundw
          case rel => exact ⟨i + 1, hi1, by go_num, HO4.out, HB4.out⟩
          case measure => simp [intOf]; omega
      · have HE := hid (show idxI l i = idxI l (i + 1) by rw [HS.out, HCan.out]; simp [hs])
        have hsb : (r.st == 1) = false := by simpa using hs
        clear HS HCan
        go_wp2_with (first
          | (refine wpList_load_px rfl _ rfl b (off + i * 18) rfl r HP.out ?_)
          | (refine wpList_load_px rfl _ rfl b (off + i * 18) rfl r HPA.out ?_)
          | (refine wpList_store_px rfl _ _ rfl rfl _ rfl r rfl _ (BoxAt.new _ _ _) rfl ?_
             intro w1 hb1 hg1 hs1
             have c0 := (PxAt.box hb1).st
             have c2 := (PxAt.box hb1).su
             have hw1 : Below wr.heap.size wr w1 := ((Below.refl wr.heap.size wr).alloc (Nat.le_refl _) _).grown hg1 (by simp) (fun k hk => by cases hk; exact Nat.le_refl _)
             have HW1 := hid hw1
             have HB1 := hid (HB.out.trans (hw1.mono hsz))
             have HO2 := hid (HO1.out.below hw1)
             have hz1 : wr.heap.size < w1.heap.size := by rw [hs1]; simp
             clear hb1 hg1 hs1 hw1))
        rw [HE.out] at HO2
        go_roundw
        case rel => exact ⟨i + 1, hi1, by go_num, HO2.out, HB1.out⟩
        case measure => simp [intOf]; omega
    · have hie : i = l.length := by omega
      subst hie
      clear HC HZ HO
      have HBE := hid hbel
      clear hbel
      go_wp2
      go_ret
      exact ⟨_, rfl, HO1.out, HBE.out⟩

theorem could_any (vl : Value) (l : List Px) (mode : Int) (w : World) (hv : SeesPx w vl l) (hl : l.length ≤ 900000) :
    Calls Try.prog 15 #[vl, .int .i64 mode] w fun e w' => ∃ u, e = .returned u ∧ OI w' w.heap.size u (idxI l (modeN mode l.length)) ∧ Below w.heap.size w w' := by
  unfold modeN
  by_cases h0 : l.length = 0
  · have := could_nil vl l mode w hv hl h0
    rw [h0]
    simp only [Nat.min_zero, ite_self]
    exact this
  by_cases h1 : mode = 1
  · subst h1
    rw [if_pos rfl, Nat.min_eq_left (by omega)]
    exact could_cold vl l w hv hl (by omega)
  rw [if_neg h1]
  by_cases h2 : mode = 2
  · subst h2
    rw [if_pos rfl]
    exact could_normal vl l w hv hl
  rw [if_neg h2]
  exact could_other vl l mode w hv hl h1 h2
end Go.Proofs.Ytdhkchbmddacmaa
