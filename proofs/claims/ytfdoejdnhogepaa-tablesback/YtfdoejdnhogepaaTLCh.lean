/-
  What the walk through a list returns over any machine that is given numbers one by one.
-/
import Derived.Test.YtfdoejdnhogepaaTWAll
namespace Go.Proofs.Ytfdoejdnhogepaa
open Go.RowKit
set_option linter.unusedVariables false

theorem Try.infoLCh : (Try.prog.info? 41).map (fun i => (i.zero, i.size)) = some (some (.agg #[.bool false, .int .i64 0, .int .i64 0, .int .i64 0, .int .i64 0]), 5) := by kernel_rfl
theorem Try.infoMCh : (Try.prog.info? 41).map (fun i => decide (i.bytes ≤ 1000)) = some true := by kernel_rfl

set_option maxRecDepth 100000 in
set_option maxHeartbeats 3200000 in
theorem lCh_any {g G : Nat} {σ : Type} {nx : Int → Int → σ → Int × σ} {At : World → σ → Prop} {room : σ → Nat} (M : Mach g G σ nx At room) (l : List Ch) (v : Value) (s : σ) (w : World) (hA : At w s) (hv : SeesCh w v l) (hh : Held G w v) (hlen : l.length ≤ 1000)
    (hr : room (listW nx (wCh nx) Ch.zero l s).2 ≤ 1000000) :
    Calls Try.prog 66 #[walkV g G, v, .func (.func 67) #[walkV g G] #[]] w fun e w' => ∃ u, e = .returned u ∧
      Row G w' w.heap.size 41 5 u (listW nx (wCh nx) Ch.zero l s).1.length ((listW nx (wCh nx) Ch.zero l s).1.map Ch.cells).flatten ∧ At w' (listW nx (wCh nx) Ch.zero l s).2 ∧ KB G w.heap.size w w' := by
  obtain ⟨i0, iB, hi, hz0, hz1, hz2, hz3⟩ : ∃ i0 iB, Try.prog.info? 41 = some i0 ∧ i0.zero = some (.agg #[.bool false, .int .i64 0, .int .i64 0, .int .i64 0, .int .i64 0]) ∧ i0.size = 5 ∧ i0.bytes = iB ∧ iB ≤ 1000 := by
    have h1 := Try.infoLCh
    have h2 := Try.infoMCh
    cases h : Try.prog.info? 41 with
    | none => rw [h] at h1; simp at h1
    | some i0 => rw [h] at h1 h2; simp at h1 h2; exact ⟨i0, i0.bytes, rfl, h1.1, h1.2, rfl, h2⟩
  have eg := M.enters
  have HV := hid hv
  have HH := hid hh
  have HM := hid M
  obtain ⟨al, cl, rfl, hl1, hl2, _⟩ := hv.form
  unfold maxLen at hl2
  have hL := M.live w s hA
  have HA := hid (M.alloc hA (.cells #[.func (.func g) #[.pointer (some ⟨G, 0, none⟩)] #[]] 63))
  have hK : KB G w.heap.size w (w.alloc (.cells #[.func (.func g) #[.pointer (some ⟨G, 0, none⟩)] #[]] 63)) := (KB.refl _ _ _).alloc hL (Nat.le_refl _) _
  have HK := hid hK
  unfold listW at hr ⊢
  have hfew := M.few l.length s
  have hroom1 : room (nx l.length 64 s).2 ≤ 1000000 := Nat.le_trans (mapW_mono (wCh_mono M) _ _) hr
  obtain ⟨⟨K0, s1⟩, hN⟩ : ∃ x, nx l.length 64 s = x := ⟨_, rfl⟩
  rw [hN] at hr hfew hroom1 ⊢
  simp only at hr hfew hroom1 ⊢
  have HN := hid hN
  have HR1 := hid hroom1
  obtain ⟨R, hR⟩ : ∃ R, mapW (wCh nx) (pad l Ch.zero K0.toNat) s1 = R := ⟨_, rfl⟩
  rw [hR] at hr ⊢
  have HRe := hid hr
  have HR := hid hR
  clear hr hv hh hA hK hL M hN hroom1 hR
  unfold walkV
  go_enter Try.func66, Try.ntmps66
  go_wp2_with fail
  refine (HM.out.step _ s l.length 64 HA.out (by rw [HN.out]; exact HR1.out)).mono ?_
  rintro e w1 ⟨rfl, hA1, hK1⟩
  rw [HN.out] at hA1 ⊢
  simp only at hA1 ⊢
  have hkb1 := HK.out.trans (hK1.mono (by simp))
  have HB := hid (And.intro hA1 hkb1)
  clear hA1 hK1 hkb1 HA HK HN HR1
  go_wp2
  go_loopw [7, 15] (fun u t wc => ∃ (i : Nat) (acc : List Ch) (si : σ), (i : Int) ≤ max K0 0 ∧ t = .int .i64 i ∧ acc.length = i ∧ Row G wc w.heap.size 41 5 u i (acc.map Ch.cells).flatten ∧
      (acc ++ (mapW (wCh nx) ((pad l Ch.zero K0.toNat).drop i) si).1, (mapW (wCh nx) ((pad l Ch.zero K0.toNat).drop i) si).2) = R ∧ At wc si ∧ KB G w.heap.size w wc) (fun _ t _ => (K0 - intOf t).toNat)
  case atStart => exact ⟨0, [], s1, by omega, rfl, rfl, Row.nil _ _ _ _ _, by simpa using HR.out, HB.out.1, HB.out.2⟩
  case round =>
    clear HB HR
    obtain ⟨i, acc, si, hik, rfl, hacc, hrow, hfin, hAt, hkb⟩ := hrel
    have HAc := hid hacc
    have HF := hid hfin
    clear hacc hfin
    by_cases hlt : (i : Int) < K0
    · have hlt' : i < K0.toNat := by omega
      rw [pad_drop l Ch.zero K0.toNat i hlt', mapW] at HF
      simp only at HF
      have hLv := HM.out.live _ _ hAt
      have HRo := hid (show room (wCh nx (l.getD i Ch.zero) si).2 ≤ room R.2 by
        rw [← HF.out]; exact mapW_mono (wCh_mono HM.out) _ _)
      by_cases hil : i < l.length
      · obtain ⟨a', c', he', _, _, hc'⟩ := SeesCh.form (show SeesCh wr _ l from SeesC.kept (show SeesC w 5 _ (l.map Ch.cells) from HV.out) HH.out hkb)
        simp only [Value.slice.injEq, true_and] at he'
        obtain ⟨rfl, rfl⟩ := he'
        obtain ⟨b, off, rfl, hbw, hcell⟩ := hc' (by omega)
        have c0 := hcell i hil 0 (by decide)
        have c1 := hcell i hil 1 (by decide)
        have c2 := hcell i hil 2 (by decide)
        have c3 := hcell i hil 3 (by decide)
        have c4 := hcell i hil 4 (by decide)
        clear hcell hc'
        generalize l.getD i Ch.zero = r at *
        obtain ⟨x0, x1, x2, x3, x4⟩ := r
        simp only [Ch.cells, List.getD_cons_zero, List.getD_cons_succ, Nat.add_zero] at c0 c1 c2 c3 c4
        go_wp2_with fail
        refine (wCh_any HM.out ⟨x0, x1, x2, x3, x4⟩ si _ (HM.out.alloc hAt _) (Nat.le_trans HRo.out HRe.out)).mono ?_
        rintro e w2 ⟨rfl, hA2, hK2⟩
        have hkb2 := (hkb.alloc hLv hkb.size _).trans (hK2.mono (by have := hkb.size; simp; omega))
        have hrow2 := Row.kept (B := 0) (hrow.alloc hLv _) hK2
        obtain ⟨y, hy⟩ : ∃ y, wCh nx ⟨x0, x1, x2, x3, x4⟩ si = y := ⟨_, rfl⟩
        rw [hy] at hA2 HF ⊢
        clear hK2 hrow hAt hLv hkb HRo hy c0 c1 c2 c3 c4
        obtain ⟨⟨z0, z1, z2, z3, z4⟩, s2⟩ := y
        simp only [Ch.val] at hA2 HF ⊢
        have hLv2 := HM.out.live _ _ hA2
        have hrow3 := hrow2.alloc hLv2 (.cells #[.bool z0, .int .i64 z1, .int .i64 z2, .int .i64 z3, .int .i64 z4] 41)
        have hkb3 := hkb2.alloc hLv2 hkb2.size (.cells #[.bool z0, .int .i64 z1, .int .i64 z2, .int .i64 z3, .int .i64 z4] 41)
        have hA3 := HM.out.alloc hA2 (.cells #[.bool z0, .int .i64 z1, .int .i64 z2, .int .i64 z3, .int .i64 z4] 41)
        have hLv3 := HM.out.live _ _ hA3
        have HW3 := hid hrow3
        have HK3 := hid hkb3
        have HA3 := hid hA3
        have HL3 := hid hLv3
        have hs2 := hkb2.size
        clear hrow2 hrow3 hkb2 hkb3 hA2 hA3 hLv2 hLv3
        go_wp2_with (at_builtin; refine wpList_append_lies _ rfl _ _ 25 rfl w.heap.size 41 i0 (.agg #[.bool false, .int .i64 0, .int .i64 0, .int .i64 0, .int .i64 0]) 5 iB Try.underlying25 hi hz0 hz1 hz2 rfl (by decide) _ _ _ rfl HW3.out.1 ⟨w2.heap.size, 0, none⟩ 1 1 [.bool z0, .int .i64 z1, .int .i64 z2, .int .i64 z3, .int .i64 z4] rfl rfl ?k1 ?k2 ?k0 ?k3 ?k4 ?k5 _ rfl ?_)
        case k1 =>
          intro j u hj
          rw [add_none, Nat.zero_add, (BoxAt.new w2 _ _).cell j]
          simpa using hj
        case k2 => intro u hu; simp at hu; rcases hu with rfl | rfl | rfl | rfl | rfl <;> rfl
        case k0 => decide
        case k3 => unfold maxLen; omega
        case k4 => exact Nat.le_trans (Nat.mul_le_mul (show i + 1 ≤ 1001 by omega) hz3) (by decide)
        case k5 => simp; omega
        intro gg cap w4 ho4 hg4 hl4 hlt4
        have hrow4 := Row.grown (e' := 0) HW3.out HL3.out ho4 hg4 (by simpa using hl4)
        have hkb4 := HK3.out.grown HL3.out hg4 (by simp; omega) (fun k hk => ⟨(HW3.out.1.lt k hk).1, HW3.out.2 k hk⟩)
        have hA4 := HM.out.grown HA3.out hg4 HW3.out.2
        have HE := hid (And.intro hrow4 (And.intro hkb4 hA4))
        clear hrow4 hkb4 hA4 ho4 hg4 hl4 hlt4 HW3 HK3 HA3 HL3
        go_wp2
        go_roundw
        case rel =>
          refine ⟨i + 1, acc ++ [⟨z0, z1, z2, z3, z4⟩], s2, by omega, by go_num, by simp [HAc.out], ?_, ?_, HE.out.2.2, HE.out.2.1⟩
          · rw [List.map_append, List.flatten_append]
            exact HE.out.1
          · rw [← HF.out]; simp
        case measure => simp [intOf]; omega
      · have hz : l.getD i Ch.zero = Ch.zero := by simp [List.getD, List.getElem?_eq_none (show l.length ≤ i by omega)]
        rw [hz] at HF HRo
        clear hz
        go_wp2_with fail
        refine (wCh_any HM.out Ch.zero si _ (HM.out.alloc hAt _) (Nat.le_trans HRo.out HRe.out)).mono ?_
        rintro e w2 ⟨rfl, hA2, hK2⟩
        have hkb2 := (hkb.alloc hLv hkb.size _).trans (hK2.mono (by have := hkb.size; simp; omega))
        have hrow2 := Row.kept (B := 0) (hrow.alloc hLv _) hK2
        obtain ⟨y, hy⟩ : ∃ y, wCh nx Ch.zero si = y := ⟨_, rfl⟩
        rw [hy] at hA2 HF ⊢
        clear hK2 hrow hAt hLv hkb HRo hy 
        obtain ⟨⟨z0, z1, z2, z3, z4⟩, s2⟩ := y
        simp only [Ch.val] at hA2 HF ⊢
        have hLv2 := HM.out.live _ _ hA2
        have hrow3 := hrow2.alloc hLv2 (.cells #[.bool z0, .int .i64 z1, .int .i64 z2, .int .i64 z3, .int .i64 z4] 41)
        have hkb3 := hkb2.alloc hLv2 hkb2.size (.cells #[.bool z0, .int .i64 z1, .int .i64 z2, .int .i64 z3, .int .i64 z4] 41)
        have hA3 := HM.out.alloc hA2 (.cells #[.bool z0, .int .i64 z1, .int .i64 z2, .int .i64 z3, .int .i64 z4] 41)
        have hLv3 := HM.out.live _ _ hA3
        have HW3 := hid hrow3
        have HK3 := hid hkb3
        have HA3 := hid hA3
        have HL3 := hid hLv3
        have hs2 := hkb2.size
        clear hrow2 hrow3 hkb2 hkb3 hA2 hA3 hLv2 hLv3
        go_wp2_with (at_builtin; refine wpList_append_lies _ rfl _ _ 25 rfl w.heap.size 41 i0 (.agg #[.bool false, .int .i64 0, .int .i64 0, .int .i64 0, .int .i64 0]) 5 iB Try.underlying25 hi hz0 hz1 hz2 rfl (by decide) _ _ _ rfl HW3.out.1 ⟨w2.heap.size, 0, none⟩ 1 1 [.bool z0, .int .i64 z1, .int .i64 z2, .int .i64 z3, .int .i64 z4] rfl rfl ?k1 ?k2 ?k0 ?k3 ?k4 ?k5 _ rfl ?_)
        case k1 =>
          intro j u hj
          rw [add_none, Nat.zero_add, (BoxAt.new w2 _ _).cell j]
          simpa using hj
        case k2 => intro u hu; simp at hu; rcases hu with rfl | rfl | rfl | rfl | rfl <;> rfl
        case k0 => decide
        case k3 => unfold maxLen; omega
        case k4 => exact Nat.le_trans (Nat.mul_le_mul (show i + 1 ≤ 1001 by omega) hz3) (by decide)
        case k5 => simp; omega
        intro gg cap w4 ho4 hg4 hl4 hlt4
        have hrow4 := Row.grown (e' := 0) HW3.out HL3.out ho4 hg4 (by simpa using hl4)
        have hkb4 := HK3.out.grown HL3.out hg4 (by simp; omega) (fun k hk => ⟨(HW3.out.1.lt k hk).1, HW3.out.2 k hk⟩)
        have hA4 := HM.out.grown HA3.out hg4 HW3.out.2
        have HE := hid (And.intro hrow4 (And.intro hkb4 hA4))
        clear hrow4 hkb4 hA4 ho4 hg4 hl4 hlt4 HW3 HK3 HA3 HL3
        go_wp2
        go_roundw
        case rel =>
          refine ⟨i + 1, acc ++ [⟨z0, z1, z2, z3, z4⟩], s2, by omega, by go_num, by simp [HAc.out], ?_, ?_, HE.out.2.2, HE.out.2.1⟩
          · rw [List.map_append, List.flatten_append]
            exact HE.out.1
          · rw [← HF.out]; simp
        case measure => simp [intOf]; omega
    · have HE := hid (show R = (acc, si) by
        rw [← HF.out, List.drop_of_length_le (by rw [pad_length]; omega)]; simp [mapW])
      have HW := hid (And.intro hrow (And.intro hAt hkb))
      clear HF hrow hAt hkb
      go_wp2
      go_ret
      refine ⟨_, rfl, ?_, ?_, HW.out.2.2⟩
      · rw [HE.out]; simp only; rw [HAc.out]; exact HW.out.1
      · rw [HE.out]; exact HW.out.2.1
end Go.Proofs.Ytfdoejdnhogepaa
