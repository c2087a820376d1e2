/-
  WaitersCome: the walk.
-/
import Derived.Test.YtnbifmfocdejpaaVAwake
import Derived.Test.YtnbifmfocdejpaaVFirst
import Derived.BigQuiet
namespace Go.Proofs.Ytnbifmfocdejpaa
open Go.RowKit
set_option linter.unusedVariables false

theorem below_drewC {B : Nat} {a w : World} (h : Below B a w) (n : Nat) : Below B a (w.drewN n) := ⟨h.os, h.tape, h.output, h.size, h.block⟩
theorem firstV_some (L : List Wt) (u : Value) (h : 0 < L.length) : firstV L u = .tuple #[(L.getD 0 Wt.zero).val, u, .bool true] := by
  unfold firstV; rw [decide_eq_true h]
theorem addP_last (l : List Wt) (x : Wt) : addP l x false = l ++ [x] := by
  simp [addP, putP]
theorem has_last (l : List Wt) (x : Wt) : hasP (l ++ [x]) x.p = true := by
  simp [hasP]

set_option maxRecDepth 100000 in
set_option maxHeartbeats 3200000 in
theorem walk_WaitersCome (w : World) (v : Value) (l : List Wt) (hv : SeesWt w v l) (hf : ∀ r ∈ l, r.fit) (x : Wt) (hx : x.fit) :
    Calls Try.prog 5 #[v, x.val] w fun e w' => e = .returned (.bool true) ∧ Below w.heap.size w w' := by
  clear hf hx
  have HV := hid hv
  obtain ⟨al, cl, rfl, hl1, hl2, hlc⟩ := hv.form
  unfold maxLen at hl2
  have HC := hid hlc
  obtain ⟨xp, xr, xv⟩ := x
  have BX0 := hid (BoxAt.new w 24 #[.int .i64 xp, .int .i64 xr, .int .i64 xv])
  have HB0 := hid (show Below w.heap.size w (w.alloc (.cells #[.int .i64 xp, .int .i64 xr, .int .i64 xv] 24)) from (Below.refl _ _).alloc (Nat.le_refl _) _)
  clear hv hlc
  unfold Wt.val
  simp only
  go_enter Try.func5, Try.ntmps5
  go_wp2_with fail
  refine (vawake_any _).mono ?_
  rintro e w1 ⟨rfl, hb1⟩
  have BX1 := hid (BX0.out.belowAll hb1)
  have HB1 := hid (HB0.out.trans (hb1.mono HB0.out.size))
  have hx0 := BX1.out.cell 0
  have hx1 := BX1.out.cell 1
  have hx2 := BX1.out.cell 2
  simp at hx0 hx1 hx2
  clear hb1 BX0 HB0
  by_cases h60 : 60 < l.length
  · have h60' : (60 : Int) < l.length := by omega
    go_wp2
    go_ret
    exact ⟨rfl, HB1.out⟩
  have h60' : ¬ (60 : Int) < l.length := by omega
  go_wp2_with fail
  refine (add_any ⟨xp, xr, xv⟩ false (HV.out.below HB1.out) (by omega)).mono ?_
  rintro e w2 ⟨u2, rfl, hu2, hb2⟩
  rw [addP_last] at hu2
  have BX2 := hid (BX1.out.belowAll hb2)
  have HB2 := hid (HB1.out.trans (hb2.mono HB1.out.size))
  have hs2 := hu2.sees
  have hML : (l ++ [(⟨xp, xr, xv⟩ : Wt)]).length = l.length + 1 := by simp
  obtain ⟨am, cm, rfl, hm1, hm2, _⟩ := hs2.form
  rw [hML] at hs2 hm1 ⊢
  have HS2 := hid hs2
  have y0 := BX2.out.cell 0
  simp at y0
  clear hx0 hx1 hx2 hb2 hu2 BX1 HB1 hs2 hm2
  go_wp2_with fail
  refine (has_any xp HS2.out (by rw [hML]; omega)).mono ?_
  rintro e w3 ⟨rfl, hb3⟩
  rw [has_last l ⟨xp, xr, xv⟩]
  have BX3 := hid (BX2.out.belowAll hb3)
  have HB3 := hid (HB2.out.trans (hb3.mono HB2.out.size))
  have HS3 := hid (HS2.out.below hb3)
  have hw1 : wrap64 ((l.length : Int) + 1) = (l.length : Int) + 1 := by unfold wrap64; omega
  have hne : (((l.length + 1 : Nat) : Int) != (l.length : Int) + 1) = false := by simp
  have hne2 : ((l.length : Int) + 1 != (l.length : Int) + 1) = false := by simp
  clear y0 hb3 BX2 HB2 HS2
  go_wp2
  go_loopw [6, 7] (fun o t wc => ∃ i : Nat, i ≤ l.length ∧ t = .int .i64 i ∧ SeesWt wc o ((l ++ [(⟨xp, xr, xv⟩ : Wt)]).drop i) ∧ BoxAt wc w.heap.size 24 #[.int .i64 xp, .int .i64 xr, .int .i64 xv] ∧ Below w.heap.size w wc) (fun _ t _ => l.length - (intOf t).toNat)
  case atStart => exact ⟨0, by omega, rfl, HS3.out, BX3.out, HB3.out⟩
  case round =>
    obtain ⟨i, hi, rfl, hs, hbox, hbel⟩ := hrel
    have HS := hid hs
    have HX := hid hbox
    have HB := hid hbel
    clear HS3 BX3 HB3
    have hdl : ((l ++ [(⟨xp, xr, xv⟩ : Wt)]).drop i).length ≤ 800000 := by simp; omega
    have HF := hid (first_any hs hdl)
    have hd0 : 0 < ((l ++ [(⟨xp, xr, xv⟩ : Wt)]).drop i).length := by simp; omega
    have HFV := hid (fun u => firstV_some _ u hd0)
    clear hs hbox hdl hd0
    by_cases hlt : i < l.length
    · obtain ⟨b, off, rfl, hbw, hcell⟩ := HC.out (by omega)
      have hmk : ∀ W, Below w.heap.size w W → W.cell? ⟨b, off + i * 3, none⟩ = some (.int .i64 (l.getD i Wt.zero).p) ∧ W.cell? ⟨b, off + i * 3 + 1, none⟩ = some (.int .i64 (l.getD i Wt.zero).r) ∧ W.cell? ⟨b, off + i * 3 + 2, none⟩ = some (.int .i64 (l.getD i Wt.zero).v) := fun W hW =>
        ⟨(hW.cell (by exact hbw)).trans (hcell i hlt 0 (by decide)), (hW.cell (by exact hbw)).trans (hcell i hlt 1 (by decide)), (hW.cell (by exact hbw)).trans (hcell i hlt 2 (by decide))⟩
      have MK := hid hmk
      have hg : ((l ++ [(⟨xp, xr, xv⟩ : Wt)]).drop i).getD 0 Wt.zero = l.getD i Wt.zero := by
        simp [List.getD, List.getElem?_append_left hlt]
      rw [hg] at HFV
      have hdd : ((l ++ [(⟨xp, xr, xv⟩ : Wt)]).drop i).drop 1 = (l ++ [(⟨xp, xr, xv⟩ : Wt)]).drop (i + 1) := by rw [List.drop_drop]
      rw [hdd] at HF
      clear hmk hcell HC hg hdd hbel HV
      obtain ⟨r, hr⟩ : ∃ r, l.getD i Wt.zero = r := ⟨_, rfl⟩
      rw [hr] at MK HFV
      clear hr
      obtain ⟨r0, r1, r2⟩ := r
      simp only [Wt.val] at MK HFV
      go_wp2_with fail
      refine HF.out.mono ?_
      rintro e w4 ⟨u4, rfl, hu4, hb4⟩
      rw [HFV.out]
      have HB4 := hid (HB.out.trans (hb4.mono HB.out.size))
      have HX4 := hid (HX.out.belowAll hb4)
      have HA := hid (show Below w4.heap.size w4 (w4.alloc (.cells #[.int .i64 r0, .int .i64 r1, .int .i64 r2] 24)) from (Below.refl _ _).alloc (Nat.le_refl _) _)
      have HB5 := hid (HB4.out.trans (HA.out.mono HB4.out.size))
      have HX5 := hid (HX4.out.belowAll HA.out)
      have HS5 := hid (hu4.sees.below HA.out)
      have BY := hid (BoxAt.new w4 24 #[.int .i64 r0, .int .i64 r1, .int .i64 r2])
      obtain ⟨c0, c1, c2⟩ := MK.out _ HB5.out
      have d0 := BY.out.cell 0
      have d1 := BY.out.cell 1
      have d2 := BY.out.cell 2
      simp at d0 d1 d2
      have e0 : (r0 != r0) = false := by simp
      have e1 : (r1 != r1) = false := by simp
      have e2 : (r2 != r2) = false := by simp
      clear hu4 hb4 HF HFV HB HX MK HB4 HX4 HA BY HS
      go_wp2
      go_quiet (fail)
      go_wp2
      go_roundw
      case rel => exact ⟨i + 1, by omega, by go_num, HS5.out.below (below_drewC (Below.refl _ _) nq), HX5.out.belowAll (below_drewC (Below.refl _ _) nq), below_drewC HB5.out nq⟩
      case measure => simp [intOf]; omega
    · have hin : i = l.length := by omega
      subst hin
      have hdx : (l ++ [(⟨xp, xr, xv⟩ : Wt)]).drop l.length = [⟨xp, xr, xv⟩] := by simp
      rw [hdx] at HF HFV
      simp only [List.getD_cons_zero, Wt.val, List.drop_succ_cons, List.drop_zero] at HF HFV
      clear hdx HC HV hbel
      go_wp2_with fail
      refine HF.out.mono ?_
      rintro e w4 ⟨u4, rfl, hu4, hb4⟩
      rw [HFV.out]
      have HB4 := hid (HB.out.trans (hb4.mono HB.out.size))
      have HX4 := hid (HX.out.belowAll hb4)
      have HA := hid (show Below w4.heap.size w4 (w4.alloc (.cells #[.int .i64 xp, .int .i64 xr, .int .i64 xv] 24)) from (Below.refl _ _).alloc (Nat.le_refl _) _)
      have HB5 := hid (HB4.out.trans (HA.out.mono HB4.out.size))
      have HX5 := hid (HX4.out.belowAll HA.out)
      have BY := hid (BoxAt.new w4 24 #[.int .i64 xp, .int .i64 xr, .int .i64 xv])
      have d0 := BY.out.cell 0
      have d1 := BY.out.cell 1
      have d2 := BY.out.cell 2
      have c0 := HX5.out.cell 0
      have c1 := HX5.out.cell 1
      have c2 := HX5.out.cell 2
      simp at d0 d1 d2 c0 c1 c2
      have e0 : (xp == xp) = true := by simp
      have e1 : (xr == xr) = true := by simp
      have e2 : (xv == xv) = true := by simp
      obtain ⟨a4, c4, rfl, _, _, _⟩ := hu4.sees.form
      clear hu4 hb4 HF HFV HB HX HB4 HX4 HA BY HS
      go_wp2
      go_ret
      exact ⟨rfl, HB5.out⟩
end Go.Proofs.Ytnbifmfocdejpaa
