/-
  The chapter's example of package sample.
-/
import Derived.Test.YtpajidiobifjoaaSp1
namespace Go.Proofs.Ytpajidiobifjoaa
open Go.RowKit
set_option linter.unusedVariables false


set_option maxRecDepth 100000 in
set_option maxHeartbeats 1600000 in
theorem spawake_any (w : World) : Calls Try.prog 8 #[] w fun e w' => e = .returned (.bool true) ∧ Below w.heap.size w w' := by
  have HB := hid (Below.refl w.heap.size w)
  go_enter Try.func8, Try.ntmps8
  go_wp2_with fail
  refine (put_any false 0 0 5 10 _).mono ?_
  rintro e v1 ⟨rfl, hb⟩
  have HB := hid (HB.out.trans (hb.mono HB.out.size))
  have hsv1 : w.heap.size ≤ v1.heap.size := by first | exact hb.size | omega
  clear hb
  have FL1 := hid trivial
  have FL2 := hid trivial
  go_wp2_with (first
    | (have hfl := FL1.out
       refine wpList_new rfl 23 rfl _ Try.zeroSp ?_
       intro v2 b h z
       have SB := hid (show BoxAt v2 v1.heap.size 23 #[.bool false, .int .i64 0, .int .i64 0] from b)
       have HB := hid (HB.out.trans (h.mono HB.out.size))
       have hsv2 : v1.heap.size + 1 ≤ v2.heap.size := by first | exact h.size | omega
       clear b h z hfl FL1)
    | (have hfl := FL2.out
       refine wpList_store_whole rfl 23 _ _ rfl rfl (v1.heap.size) rfl [.bool true, .int .i64 (5), .int .i64 (10)] rfl _ _ SB.out rfl Try.infoSp (by simp [Value.oneCell']) ?_
       intro v3 b g z
       have hsv3 : v2.heap.size ≤ v3.heap.size := by omega
       have SB := hid (show BoxAt v3 (v1.heap.size) 23 #[.bool true, .int .i64 (5), .int .i64 (10)] from b)
       have HB := hid (HB.out.trans (grown_below g (by omega) (by omega)))
       clear b g z hfl FL2)
    | (refine wpList_load_box rfl 23 _ rfl (v1.heap.size) rfl _ _ SB.out _ Try.underlying23 Try.infoSp ?_)
    | fail)
  refine (get_any true 5 10 3 13 _).mono ?_
  rintro e v4 ⟨rfl, hb⟩
  have SB := hid (SB.out.belowAll hb)
  have HB := hid (HB.out.trans (hb.mono HB.out.size))
  have hsv4 : v3.heap.size ≤ v4.heap.size := by first | exact hb.size | omega
  rw [show getC true 10 3 13 = 0 from by kernel_rfl, show getV true 5 = 5 from rfl]
  clear hb
  go_wp2_with (first
    | (refine wpList_load_box rfl 23 _ rfl (v1.heap.size) rfl _ _ SB.out _ Try.underlying23 Try.infoSp ?_)
    | fail)
  refine (get_any true 5 10 3 14 _).mono ?_
  rintro e v5 ⟨rfl, hb⟩
  have SB := hid (SB.out.belowAll hb)
  have HB := hid (HB.out.trans (hb.mono HB.out.size))
  have hsv5 : v4.heap.size ≤ v5.heap.size := by first | exact hb.size | omega
  rw [show getC true 10 3 14 = 1 from by kernel_rfl, show getV true 5 = 5 from rfl]
  clear hb
  go_wp2
  go_ret
  exact ⟨rfl, HB.out⟩

end Go.Proofs.Ytpajidiobifjoaa
