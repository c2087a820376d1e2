/-
  InstrBack returns true, whatever it is given, and nothing that was there is written.
-/
import Derived.Test.YtfhjlpkejmjigaaDoorILaws1
import Derived.Test.YtfhjlpkejmjigaaDoorISame
import Derived.Deep.QuietTactic
namespace Go.Proofs.YtfhjlpkejmjigaaDoor
open Go.RowKit
set_option linter.unusedVariables false

theorem packB_err {l : List In} (h : ¬ packE l = 0) : packB l = [] := by
  unfold packE at h
  unfold packB
  split
  · rfl
  · rename_i h1
    rw [if_neg h1] at h
    split
    · rename_i h2; rw [if_pos h2] at h; exact absurd rfl h
    · rfl

set_option maxRecDepth 100000 in
set_option maxHeartbeats 1600000 in
theorem walk_InstrBack (w : World) (hL : Laid w) (vl : Value) (l : List In) (hv : SeesI w vl l) (hfl : ∀ r ∈ l, r.fit) (vr : Value) (r : List Int) (hr : Sees w .u8 vr r) (hwr : ∀ n ∈ r, (Lit.int .u8 n).wf = true) :
    Calls Tryd.prog 5 #[vl, vr] w fun e w' => e = .returned (.bool true) ∧ Below w.heap.size w w' := by
  have hnot := Tryd.hnot
  obtain ⟨i0, hi, hz0, hz1, hz2⟩ := info_parts Tryd.infoU8
  obtain ⟨la, lc, rfl, hc1, hc2, hlc⟩ := hv.form
  obtain ⟨ra, rc, rfl, hd1, hd2, _⟩ := hr.form
  unfold maxLen at hc2 hd2
  have HL := hid hL
  have HV := hid hv
  have HR := hid hr
  have HC := hid hlc
  have HY := hid (u8_bdI hwr)
  clear hL hv hfl hr hwr hlc
  go_enter Tryd.func5, Tryd.ntmps5
  go_wp2_with fail
  refine (iawake_any _ HL.out).mono ?_
  rintro e w1 ⟨rfl, hbw⟩
  by_cases hl : 200 < l.length
  · go_wp2
    go_ret
    exact ⟨rfl, hbw⟩
  by_cases hl2 : 100 < r.length
  · go_wp2
    go_ret
    exact ⟨rfl, hbw⟩
  go_wp2_with fail
  refine (pack_any _ _ _ (HL.out.below hbw) (HV.out.below hbw)).mono ?_
  rintro e w2 ⟨u2, rfl, ho2, hb2⟩
  replace hbw := hbw.trans (hb2.mono hbw.size)
  clear hb2
  by_cases he : packE l = 0
  · obtain ⟨p1, p2⟩ := packE_ok he
    have e1 := packB_ok p1 p2
    have HU := hid (up_enc l p2 p1)
    rw [he]
    have hsee := Sees.of_owns ho2
    rw [e1] at hsee
    have HM := hid (show ∀ c ∈ iencAll l, 0 ≤ c ∧ c ≤ 255 by rw [← e1]; exact packB_mem l)
    have HA := hid p2
    clear ho2 e1 p2 he
    have hu : ∃ ua uc, u2 = .slice ua (iencAll l).length uc ∧ (iencAll l).length ≤ uc ∧ uc ≤ maxLen := by
      obtain ⟨ua, uc, h1, h2, h3, _⟩ := hsee.form
      exact ⟨ua, uc, h1, h2, h3⟩
    obtain ⟨ua, uc, rfl, _, _⟩ := hu
    go_wp2_with fail
    refine (unpack_any _ _ _ (HL.out.below hbw) hsee HM.out).mono ?_
    rintro e w3 ⟨u3, rfl, ho3, hb3⟩
    rw [HU.out] at ho3 ⊢
    simp only at ho3 ⊢
    replace hbw := hbw.trans (hb3.mono hbw.size)
    have HS := hid (SeesI.of_owns rfl ho3)
    clear hb3 ho3 hsee HU HM
    go_wp2_with fail
    refine (isame_any _ _ _ _ _ (HV.out.below hbw) HS.out).mono ?_
    rintro e w4 ⟨rfl, hb4⟩
    rw [sameI_true rfl]
    replace hbw := hbw.trans (hb4.mono hbw.size)
    clear hb4 HS
    by_cases hl0 : l.length = 0
    · go_wp2
      go_ret
      exact ⟨rfl, hbw⟩
    obtain ⟨b, off, rfl, hbl, hcell⟩ := HC.out (by omega)
    obtain ⟨c0, c1, c2⟩ := hcell 0 (by omega)
    have HMay := hid (allMay_at HA.out 0 (by omega))
    clear hcell HC
    simp only [Nat.zero_mul, Nat.add_zero] at c0 c1 c2
    generalize l.getD 0 In.zero = q at *
    obtain ⟨xo, xa, xb⟩ := q
    simp only at c0 c1 c2
    have hx : ∀ w', Below w.heap.size w w' → w'.cell? ⟨b, off, none⟩ = some (.int .i64 xo) ∧ w'.cell? ⟨b, off + 1, none⟩ = some (.int .i64 xa) ∧ w'.cell? ⟨b, off + 2, none⟩ = some (.int .i64 xb) :=
      fun w' hb => ⟨(hb.cell (by exact hbl)).trans c0, (hb.cell (by exact hbl)).trans c1, (hb.cell (by exact hbl)).trans c2⟩
    have HX := hid hx
    clear hx c0 c1 c2
    obtain ⟨c0, c1, c2⟩ := HX.out _ hbw
    have hlp : 0 < l.length := by omega
    clear hl0
    generalize l.length = N at *
    go_wp2_with fail
    refine (iput_any ⟨xo, xa, xb⟩ _ (HL.out.below hbw)).mono ?_
    rintro e w5 ⟨u5, rfl, ho5, hb5⟩
    replace hbw := hbw.trans (hb5.mono hbw.size)
    have e5 : iputB ⟨xo, xa, xb⟩ = ienc ⟨xo, xa, xb⟩ := by simp [iputB, HMay.out]
    have hs5 := Sees.of_owns ho5
    rw [e5] at hs5
    have hel := ienc_len ⟨xo, xa, xb⟩
    have HG := hid (iget_enc ⟨xo, xa, xb⟩ r HMay.out)
    have HBY := hid (show ∀ c ∈ ienc ⟨xo, xa, xb⟩ ++ r, 0 ≤ c ∧ c ≤ 255 by
      intro c hc
      rcases List.mem_append.1 hc with h | h
      · exact encAll_mem (ienc_all HMay.out) c h
      · exact HY.out c h)
    clear ho5 hb5 e5 c0 c1 c2
    obtain ⟨sa, sc, hsv, hs1, hs2⟩ : ∃ sa sc, u5 = .slice sa (ienc ⟨xo, xa, xb⟩).length sc ∧ (ienc ⟨xo, xa, xb⟩).length ≤ sc ∧ sc ≤ maxLen := by
      obtain ⟨ua, uc, h1, h2, h3, _⟩ := hs5.form
      exact ⟨ua, uc, h1, h2, h3⟩
    subst hsv
    have hsr := HR.out.below hbw
    generalize ienc ⟨xo, xa, xb⟩ = ex at *
    go_wp2_with (at_builtin; refine wpList_append_sees rfl _ _ 26 rfl w5.heap.size 5 i0 (.int .u8 0) 1 Tryd.underlying26 hi hz0 hz1 hz2 rfl .u8 _ 0 [] rfl (World.ownsRow_nil _ _ _ _) _ ex rfl hs5 ?c3 ?c4 ?c5 ?_)
    case c3 => unfold maxLen; omega
    case c4 => omega
    case c5 => omega
    intro u6 w6 ho6 hg6
    have hb6 : Below w5.heap.size w5 w6 := (Below.refl _ _).grown hg6 (Nat.le_refl _) (fun k hk => by cases hk)
    have ho6' : w6.ownsRow w5.heap.size 5 1 u6 ex.length (ex.map (Value.int .u8)) := by simpa using ho6
    have hsr6 := hsr.below hb6
    have hz6 := hb6.size
    clear ho6 hg6 hsr
    go_wp2_with (at_builtin; refine wpList_append_sees rfl _ _ 26 rfl w5.heap.size 5 i0 (.int .u8 0) 1 Tryd.underlying26 hi hz0 hz1 hz2 rfl .u8 _ _ _ rfl ho6' _ r rfl hsr6 ?c3 ?c4 ?c5 ?_)
    case c3 => unfold maxLen; omega
    case c4 => omega
    case c5 => omega
    intro u7 w7 ho7 hg7
    have hb7 : Below w5.heap.size w5 w7 := hb6.grown hg7 hz6 (fun k hk => (ho6'.lt k hk).1)
    have hs7 : Sees w7 .u8 u7 (ex ++ r) := Sees.of_owns (n := ex.length + r.length) (base := w5.heap.size) (e := 5) (by simpa using ho7)
    replace hbw := hbw.trans (hb7.mono hbw.size)
    clear ho6' ho7 hg7 hsr6 hb6 hb7 hs5
    go_wp2_with fail
    refine (iget_any _ _ _ (HL.out.below hbw) hs7 HBY.out).mono ?_
    rintro e w8 ⟨rfl, hb8⟩
    rw [HG.out]
    unfold In.val
    simp only
    replace hbw := hbw.trans (hb8.mono hbw.size)
    have hbz := hbw.alloc hbw.size (.cells #[.int .i64 xo, .int .i64 xa, .int .i64 xb] 23)
    obtain ⟨c0, c1, c2⟩ := HX.out _ hbz
    have d0 : (w8.alloc (.cells #[.int .i64 xo, .int .i64 xa, .int .i64 xb] 23)).cell? ⟨w8.heap.size, 0, none⟩ = some (.int .i64 xo) := by simp
    have d1 : (w8.alloc (.cells #[.int .i64 xo, .int .i64 xa, .int .i64 xb] 23)).cell? ⟨w8.heap.size, 1, none⟩ = some (.int .i64 xa) := by simp
    have d2 : (w8.alloc (.cells #[.int .i64 xo, .int .i64 xa, .int .i64 xb] 23)).cell? ⟨w8.heap.size, 2, none⟩ = some (.int .i64 xb) := by simp
    have HBZ := hid hbz
    clear hs7 hb8 HG HBY hbw hbz hi hz0 hz1 hz2
    have hex : ((ex.length : Int) == (ex.length : Int)) = true := by simp
    go_wp2_with fail
    go_quiet (fail)
    all_goals (try go_wp2)
    all_goals
      go_ret
      exact ⟨rfl, below_drewN HBZ.out _⟩
  · have e1 := packB_err he
    have he' : (packE l != 0) = true := by simpa using he
    rw [e1] at ho2
    obtain ⟨ua, uc, hu, _, _⟩ := owns_slice ho2
    subst hu
    clear ho2 he e1
    generalize packE l = y at *
    go_wp2
    go_ret
    exact ⟨rfl, hbw⟩
end Go.Proofs.YtfhjlpkejmjigaaDoor
