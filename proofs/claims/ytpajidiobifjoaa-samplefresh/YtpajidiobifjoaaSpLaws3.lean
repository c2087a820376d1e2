/-
  SampleFresh: the walk.
-/
import Derived.Test.YtpajidiobifjoaaSpAwake
namespace Go.Proofs.Ytpajidiobifjoaa
open Go.RowKit
set_option linter.unusedVariables false


set_option maxRecDepth 100000 in
set_option maxHeartbeats 3200000 in
theorem walk_SampleFresh (w : World) (x : Int) (wx : (Lit.int .i64 x).wf = true) (a : Int) (wa : (Lit.int .i64 a).wf = true) (r : Int) (wr : (Lit.int .i64 r).wf = true) (now : Int) (wnow : (Lit.int .i64 now).wf = true) (less : Int) (wless : (Lit.int .i64 less).wf = true) (more : Int) (wmore : (Lit.int .i64 more).wf = true) :
    Calls Try.prog 6 #[.int .i64 (x), .int .i64 (a), .int .i64 (r), .int .i64 (now), .int .i64 (less), .int .i64 (more)] w fun e w' => e = .returned (.bool true) ∧ Below w.heap.size w w' := by
  have ba := bounds_i64 wa
  clear wa
  have br := bounds_i64 wr
  clear wr
  have bnow := bounds_i64 wnow
  clear wnow
  have bless := bounds_i64 wless
  clear wless
  have bmore := bounds_i64 wmore
  clear wmore
  clear wx
  have ex : (x == x) = true := by simp
  have HB := hid (Below.refl w.heap.size w)
  go_enter Try.func6, Try.ntmps6
  go_wp2_with fail
  refine (spawake_any _).mono ?_
  rintro e v1 ⟨rfl, hb⟩
  have HB := hid (HB.out.trans (hb.mono HB.out.size))
  have hsv1 : w.heap.size ≤ v1.heap.size := by first | exact hb.size | omega
  clear hb
  by_cases hgd1_0 : a < 0
  · go_wp2
    go_ret
    exact ⟨rfl, HB.out⟩
  by_cases hgd1_1 : 1099511627776 < a
  · go_wp2
    go_ret
    exact ⟨rfl, HB.out⟩
  by_cases hgd1_2 : r < 0
  · go_wp2
    go_ret
    exact ⟨rfl, HB.out⟩
  by_cases hgd1_3 : 1099511627776 < r
  · go_wp2
    go_ret
    exact ⟨rfl, HB.out⟩
  by_cases hgd1_4 : now < a
  · go_wp2
    go_ret
    exact ⟨rfl, HB.out⟩
  by_cases hgd1_5 : 1099511627776 < now
  · go_wp2
    go_ret
    exact ⟨rfl, HB.out⟩
  by_cases hgd1_6 : less < 0
  · go_wp2
    go_ret
    exact ⟨rfl, HB.out⟩
  obtain ⟨D, hD⟩ : ∃ z, now - a = z := ⟨_, rfl⟩
  have hblD : 0 ≤ D := by omega
  have hbhD : D ≤ 1099511627776 := by omega
  have hwD1 : wrap64 (now - a) = D := by rw [hD]; exact wrap64_id _ (by omega) (by omega)
  have hwD2 : IntKind.i64.wrap (now - a) = D := by rw [hD]; exact wrapi_id _ (by omega) (by omega)
  by_cases hgd101_0 : D < less
  · go_wp2
    go_ret
    exact ⟨rfl, HB.out⟩
  by_cases hgd101_1 : more < 0
  · go_wp2
    go_ret
    exact ⟨rfl, HB.out⟩
  by_cases hgd101_2 : 1099511627776 < more
  · go_wp2
    go_ret
    exact ⟨rfl, HB.out⟩
  obtain ⟨T, hT⟩ : ∃ z, now - less = z := ⟨_, rfl⟩
  have hblT : 0 ≤ T := by omega
  have hbhT : T ≤ 1099511627776 := by omega
  have hwT1 : wrap64 (now - less) = T := by rw [hT]; exact wrap64_id _ (by omega) (by omega)
  have hwT2 : IntKind.i64.wrap (now - less) = T := by rw [hT]; exact wrapi_id _ (by omega) (by omega)
  obtain ⟨R, hR⟩ : ∃ z, r + more = z := ⟨_, rfl⟩
  have hblR : 0 ≤ R := by omega
  have hbhR : R ≤ 2199023255552 := by omega
  have hwR1 : wrap64 (r + more) = R := by rw [hR]; exact wrap64_id _ (by omega) (by omega)
  have hwR2 : IntKind.i64.wrap (r + more) = R := by rw [hR]; exact wrapi_id _ (by omega) (by omega)
  have hcT : ¬ a + r < now → getC true a r T = 0 := by intro h; unfold getC; rw [if_pos rfl, wrap64_id _ (by omega) (by omega), if_neg (by omega)]
  have hcR : ¬ a + r < now → getC true a R now = 0 := by intro h; unfold getC; rw [if_pos rfl, wrap64_id _ (by omega) (by omega), if_neg (by omega)]
  have hcL : a + r < now → getC true a r now = 1 := by intro h; unfold getC; rw [if_pos rfl, wrap64_id _ (by omega) (by omega), if_pos (by omega)]
  have hcG : ¬ a + r < now → getC true a r now = 0 := by intro h; unfold getC; rw [if_pos rfl, wrap64_id _ (by omega) (by omega), if_neg (by omega)]
  have hcv : getV true x = x := rfl
  obtain ⟨cl, hcl⟩ : ∃ z, getC true a r now = z := ⟨_, rfl⟩
  obtain ⟨ct, hct⟩ : ∃ z, getC true a r T = z := ⟨_, rfl⟩
  obtain ⟨cr, hcr⟩ : ∃ z, getC true a R now = z := ⟨_, rfl⟩
  rw [hcl] at hcL hcG
  rw [hct] at hcT
  rw [hcr] at hcR
  have HCL := hid hcl
  have HCT := hid hct
  have HCR := hid hcr
  have HE := hid (show cl = 1 ∨ cl = 0 ∧ ct = 0 ∧ cr = 0 from by
    by_cases h : a + r < now
    · exact .inl (hcL h)
    · exact .inr ⟨hcG h, hcT h, hcR h⟩)
  clear hcl hct hcr hcL hcG hcT hcR
  go_wp2_with fail
  refine (put_any false 0 0 x a _).mono ?_
  rintro e v102 ⟨rfl, hb⟩
  have HB := hid (HB.out.trans (hb.mono HB.out.size))
  have hsv102 : v1.heap.size ≤ v102.heap.size := by first | exact hb.size | omega
  clear hb
  have FL1 := hid trivial
  have FL2 := hid trivial
  go_wp2_with (first
    | (have hfl := FL1.out
       refine wpList_new rfl 23 rfl _ Try.zeroSp ?_
       intro v103 b h z
       have SB := hid (show BoxAt v103 v102.heap.size 23 #[.bool false, .int .i64 0, .int .i64 0] from b)
       have HB := hid (HB.out.trans (h.mono HB.out.size))
       have hsv103 : v102.heap.size + 1 ≤ v103.heap.size := by first | exact h.size | omega
       clear b h z hfl FL1)
    | (have hfl := FL2.out
       refine wpList_store_whole rfl 23 _ _ rfl rfl (v102.heap.size) rfl [.bool true, .int .i64 (x), .int .i64 (a)] rfl _ _ SB.out rfl Try.infoSp (by simp [Value.oneCell']) ?_
       intro v104 b g z
       have hsv104 : v103.heap.size ≤ v104.heap.size := by omega
       have SB := hid (show BoxAt v104 (v102.heap.size) 23 #[.bool true, .int .i64 (x), .int .i64 (a)] from b)
       have HB := hid (HB.out.trans (grown_below g (by omega) (by omega)))
       clear b g z hfl FL2)
    | (refine wpList_load_box rfl 23 _ rfl (v102.heap.size) rfl _ _ SB.out _ Try.underlying23 Try.infoSp ?_)
    | fail)
  refine (get_any true x a r now _).mono ?_
  rintro e v105 ⟨rfl, hb⟩
  have SB := hid (SB.out.belowAll hb)
  have HB := hid (HB.out.trans (hb.mono HB.out.size))
  have hsv105 : v104.heap.size ≤ v105.heap.size := by first | exact hb.size | omega
  rw [HCL.out, hcv]
  clear hb
  go_wp2_with (first
    | (refine wpList_load_box rfl 23 _ rfl (v102.heap.size) rfl _ _ SB.out _ Try.underlying23 Try.infoSp ?_)
    | fail)
  refine (get_any true x a r T _).mono ?_
  rintro e v106 ⟨rfl, hb⟩
  have SB := hid (SB.out.belowAll hb)
  have HB := hid (HB.out.trans (hb.mono HB.out.size))
  have hsv106 : v105.heap.size ≤ v106.heap.size := by first | exact hb.size | omega
  rw [HCT.out, hcv]
  clear hb
  go_wp2_with (first
    | (refine wpList_load_box rfl 23 _ rfl (v102.heap.size) rfl _ _ SB.out _ Try.underlying23 Try.infoSp ?_)
    | fail)
  refine (get_any true x a R now _).mono ?_
  rintro e v107 ⟨rfl, hb⟩
  have SB := hid (SB.out.belowAll hb)
  have HB := hid (HB.out.trans (hb.mono HB.out.size))
  have hsv107 : v106.heap.size ≤ v107.heap.size := by first | exact hb.size | omega
  rw [HCR.out, hcv]
  clear hb
  clear HCL HCT HCR
  rcases HE.out with rfl | ⟨rfl, rfl, rfl⟩
  · go_wp2
    go_ret
    exact ⟨rfl, HB.out⟩
  · go_wp2
    go_ret
    exact ⟨rfl, HB.out⟩

end Go.Proofs.Ytpajidiobifjoaa
