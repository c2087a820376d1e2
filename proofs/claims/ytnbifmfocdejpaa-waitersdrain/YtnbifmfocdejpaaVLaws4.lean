/-
  WaitersDrain: the walk.
-/
import Derived.Test.YtnbifmfocdejpaaVLaws3
namespace Go.Proofs.Ytnbifmfocdejpaa
open Go.RowKit
set_option linter.unusedVariables false

theorem has_first (l : List Wt) (i : Nat) (hi : i < l.length) : hasP (l.drop i) (l.getD i Wt.zero).p = true := by
  have h1 : (l[i].p == (l.getD i Wt.zero).p) = true := by simp [List.getD, List.getElem?_eq_getElem hi]
  unfold hasP
  rw [List.drop_eq_getElem_cons hi, List.any_cons, h1, Bool.true_or]

set_option maxRecDepth 100000 in
set_option maxHeartbeats 3200000 in
theorem walk_WaitersDrain (w : World) (v : Value) (l : List Wt) (hv : SeesWt w v l) (hf : ∀ r ∈ l, r.fit) :
    Calls Try.prog 6 #[v] w fun e w' => e = .returned (.bool true) ∧ Below w.heap.size w w' := by
  clear hf
  have HV := hid hv
  obtain ⟨al, cl, rfl, hl1, hl2, hlc⟩ := hv.form
  unfold maxLen at hl2
  have HC := hid hlc
  clear hv hlc
  go_enter Try.func6, Try.ntmps6
  go_wp2_with fail
  refine (vawake_any _).mono ?_
  rintro e w1 ⟨rfl, hb1⟩
  have HB1 := hid hb1
  have HS1 := hid (HV.out.below hb1)
  clear hb1
  by_cases h60 : 60 < l.length
  · have h60' : (60 : Int) < l.length := by omega
    go_wp2
    go_ret
    exact ⟨rfl, HB1.out⟩
  have h60' : ¬ (60 : Int) < l.length := by omega
  go_wp2
  go_loopw [4, 5] (fun o t wc => ∃ i : Nat, i ≤ l.length ∧ t = .int .i64 i ∧ SeesWt wc o (l.drop i) ∧ Below w.heap.size w wc) (fun _ t _ => l.length - (intOf t).toNat)
  case atStart => exact ⟨0, by omega, rfl, HS1.out, HB1.out⟩
  case round =>
    obtain ⟨i, hi, rfl, hs, hbel⟩ := hrel
    have HS := hid hs
    have HB := hid hbel
    clear HS1 HB1
    have HFI := hid (fun W (hW : Below wr.heap.size wr W) => first_any (hs.below hW) (show (l.drop i).length ≤ 800000 by simp; omega))
    clear hs
    by_cases hlt : i < l.length
    · obtain ⟨b, off, rfl, hbw, hcell⟩ := HC.out (by omega)
      have hmk : ∀ W, Below w.heap.size w W → W.cell? ⟨b, off + i * 3, none⟩ = some (.int .i64 (l.getD i Wt.zero).p) ∧ W.cell? ⟨b, off + i * 3 + 1, none⟩ = some (.int .i64 (l.getD i Wt.zero).r) ∧ W.cell? ⟨b, off + i * 3 + 2, none⟩ = some (.int .i64 (l.getD i Wt.zero).v) := fun W hW =>
        ⟨(hW.cell (by exact hbw)).trans (hcell i hlt 0 (by decide)), (hW.cell (by exact hbw)).trans (hcell i hlt 1 (by decide)), (hW.cell (by exact hbw)).trans (hcell i hlt 2 (by decide))⟩
      have MK := hid hmk
      have hg : (l.drop i).getD 0 Wt.zero = l.getD i Wt.zero := by simp [List.getD]
      have HFV := hid (fun u => firstV_some (l.drop i) u (by simp; omega))
      rw [hg] at HFV
      have hdd : (l.drop i).drop 1 = l.drop (i + 1) := by rw [List.drop_drop]
      rw [hdd] at HFI
      have HH := hid (has_first l i hlt)
      obtain ⟨k, hk⟩ : ∃ k, (l.drop (i + 1)).length = k := ⟨_, rfl⟩
      have hk' : k + i + 1 = l.length := by rw [← hk]; simp; omega
      have HKL := hid hk
      clear hmk hcell HC hg hdd hk
      obtain ⟨r, hr⟩ : ∃ r, l.getD i Wt.zero = r := ⟨_, rfl⟩
      rw [hr] at MK HFV HH
      clear hr
      obtain ⟨r0, r1, r2⟩ := r
      simp only [Wt.val] at MK HFV HH
      obtain ⟨c0, c1, c2⟩ := MK.out _ hbel
      clear hbel
      go_wp2_with fail
      refine (has_any r0 HS.out (by simp; omega)).mono ?_
      rintro e w3 ⟨rfl, hb3⟩
      rw [HH.out]
      have HB3 := hid (HB.out.trans (hb3.mono HB.out.size))
      have HF3 := hid (HFI.out _ hb3)
      clear hb3 HH HS HB HFI c0 c1 c2
      go_wp2_with fail
      refine HF3.out.mono ?_
      rintro e w4 ⟨u4, rfl, hu4, hb4⟩
      rw [HFV.out]
      have HB4 := hid (HB3.out.trans (hb4.mono HB3.out.size))
      have HA := hid (show Below w4.heap.size w4 (w4.alloc (.cells #[.int .i64 r0, .int .i64 r1, .int .i64 r2] 24)) from (Below.refl _ _).alloc (Nat.le_refl _) _)
      have HB5 := hid (HB4.out.trans (HA.out.mono HB4.out.size))
      have hs5 := hu4.sees.below HA.out
      obtain ⟨a4, c4, rfl, _, _, _⟩ := hs5.form
      rw [HKL.out] at hs5 ⊢
      have HS5 := hid hs5
      have BY := hid (BoxAt.new w4 24 #[.int .i64 r0, .int .i64 r1, .int .i64 r2])
      obtain ⟨c0, c1, c2⟩ := MK.out _ HB5.out
      have d0 := BY.out.cell 0
      have d1 := BY.out.cell 1
      have d2 := BY.out.cell 2
      simp at d0 d1 d2
      have e0 : (r0 != r0) = false := by simp
      have e1 : (r1 != r1) = false := by simp
      have e2 : (r2 != r2) = false := by simp
      have hsub1 : (l.length : Int) - (i : Int) = ((k + 1 : Nat) : Int) := by omega
      have hws1 : IntKind.i64.wrap ((k + 1 : Nat) : Int) = ((k + 1 : Nat) : Int) := by rw [IntKind.wrap_i64]; omega
      have hws1' : IntKind.i64.wrap ((k : Int) + 1) = (k : Int) + 1 := by rw [IntKind.wrap_i64]; omega
      have hsub2 : (k : Int) + 1 - 1 = (k : Int) := by omega
      have hws2 : IntKind.i64.wrap (k : Int) = (k : Int) := by rw [IntKind.wrap_i64]; omega
      have hkk : ((k : Int) != (k : Int)) = false := by simp
      clear hs5 hu4 hb4 HF3 HFV MK HB4 HA BY HB3
      go_wp2
      go_quiet (fail)
      go_wp2
      go_roundw
      case rel => exact ⟨i + 1, by omega, by go_num, HS5.out.below (below_drewC (Below.refl _ _) nq), below_drewC HB5.out nq⟩
      case measure => simp [intOf]; omega
    · have hin : i = l.length := by omega
      subst hin
      have hdx : l.drop l.length = [] := by simp
      rw [hdx] at HFI
      have HF := hid (HFI.out _ (Below.refl _ _))
      have HAL := hid (fun W (hW : Below w.heap.size w W) => all_any 1 2 (HV.out.below hW) (by omega))
      have hml : (allP l 1 2).length = l.length := by simp [allP]
      have HML := hid hml
      clear hdx HC HV hbel HFI hml HS
      go_wp2_with fail
      refine HF.out.mono ?_
      rintro e w4 ⟨u4, rfl, hu4, hb4⟩
      rw [show firstV [] u4 = .tuple #[.agg #[.int .i64 0, .int .i64 0, .int .i64 0], u4, .bool false] from rfl]
      have HB4 := hid (HB.out.trans (hb4.mono HB.out.size))
      have HA := hid (show Below w4.heap.size w4 (w4.alloc (.cells #[.int .i64 0, .int .i64 0, .int .i64 0] 24)) from (Below.refl _ _).alloc (Nat.le_refl _) _)
      have HB5 := hid (HB4.out.trans (HA.out.mono HB4.out.size))
      have HAW := hid (HAL.out _ HB5.out)
      have hll : ((l.length : Int) == (l.length : Int)) = true := by simp
      clear hu4 hb4 HF HB HB4 HA HAL
      go_wp2_with fail
      refine HAW.out.mono ?_
      rintro e w6 ⟨u6, rfl, hu6, hb6⟩
      have HB6 := hid (HB5.out.trans (hb6.mono HB5.out.size))
      obtain ⟨a6, c6, rfl, _, _, _⟩ := hu6.sees.form
      rw [HML.out]
      clear hu6 hb6 HB5 HAW HML
      go_wp2
      go_ret
      exact ⟨rfl, HB6.out⟩
end Go.Proofs.Ytnbifmfocdejpaa
