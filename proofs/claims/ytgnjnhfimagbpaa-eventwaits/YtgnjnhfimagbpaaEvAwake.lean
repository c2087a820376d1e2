/-
  The chapter's example of package event.
-/
import Derived.Test.YtgnjnhfimagbpaaEv2
namespace Go.Proofs.Ytgnjnhfimagbpaa
open Go.RowKit
set_option linter.unusedVariables false


set_option maxRecDepth 100000 in
set_option maxHeartbeats 1600000 in
theorem evawake_any (w : World) : Calls Try.prog 8 #[] w fun e w' => e = .returned (.bool true) ∧ Below w.heap.size w w' := by
  have HB := hid (Below.refl w.heap.size w)
  go_enter Try.func8, Try.ntmps8
  go_wp2_with fail
  refine (await_any false 1 0 0 true (s := ⟨none, 0, 0⟩) (l := []) (SeesWt.nil _) (by simp)).mono ?_
  rintro e v1 ⟨x1, rfl, hu, hb⟩
  have HB := hid (HB.out.trans (hb.mono HB.out.size))
  have hsv1 : w.heap.size ≤ v1.heap.size := by first | exact hb.size | omega
  rw [show awC false true = 6 from rfl]
  rw [show awL false true [] ⟨1, 0, 0⟩ = [⟨1, 0, 0⟩] from rfl] at hu
  have HU1 := hid hu
  clear hu
  clear hb
  have FL1 := hid trivial
  have FL2 := hid trivial
  go_wp2_with (first
    | (have hfl := FL1.out
       refine wpList_new rfl 24 rfl _ Try.zeroEv ?_
       intro v2 b h z
       have BB := hid (show BoxAt v2 v1.heap.size 24 #[.bool false, .slice none 0 0] from b)
       have HU1 := hid (HU1.out.below h)
       have HB := hid (HB.out.trans (h.mono HB.out.size))
       have hsv2 : v1.heap.size + 1 ≤ v2.heap.size := by first | exact h.size | omega
       clear b h z hfl FL1)
    | (have hfl := FL2.out
       refine wpList_store_whole rfl 24 _ _ rfl rfl (v1.heap.size) rfl [.bool false, .slice x1.a x1.n x1.c] rfl _ _ BB.out rfl Try.infoEv (by simp [Value.oneCell']) ?_
       intro v3 b g z
       have hsv3 : v2.heap.size ≤ v3.heap.size := by omega
       have HU1 := hid (HU1.out.put g BB.out (by decide))
       have BB := hid (show BoxAt v3 (v1.heap.size) 24 #[.bool false, .slice x1.a x1.n x1.c] from b)
       have HB := hid (HB.out.trans (grown_below g (by omega) (by omega)))
       clear b g z hfl FL2)
    | (refine wpList_load_box rfl 24 _ rfl (v1.heap.size) rfl _ _ BB.out _ Try.underlying24 Try.infoEv ?_)
    | fail)
  refine (set_any false (s := x1) (l := [⟨1, 0, 0⟩]) HU1.out.sees (by simp)).mono ?_
  rintro e v4 ⟨q, rfl, hq, hb⟩
  have BB := hid (BB.out.belowAll hb)
  have HU1 := hid (HU1.out.below hb)
  have HB := hid (HB.out.trans (hb.mono HB.out.size))
  have hsv4 : v3.heap.size ≤ v4.heap.size := by first | exact hb.size | omega
  rw [show allP [⟨1, 0, 0⟩] 0 0 = [⟨1, 0, 0⟩] from rfl] at hq
  have HQ := hid hq
  clear hq
  clear hb
  have FL3 := hid trivial
  have FL4 := hid trivial
  go_wp2_with (first
    | (have hfl := FL3.out
       refine wpList_new rfl 24 rfl _ Try.zeroEv ?_
       intro v5 b h z
       have CB := hid (show BoxAt v5 v4.heap.size 24 #[.bool false, .slice none 0 0] from b)
       have BB := hid (BB.out.belowAll h)
       have HU1 := hid (HU1.out.below h)
       have HQ := hid (HQ.out.below h)
       have HB := hid (HB.out.trans (h.mono HB.out.size))
       have hsv5 : v4.heap.size + 1 ≤ v5.heap.size := by first | exact h.size | omega
       clear b h z hfl FL3)
    | (have hfl := FL4.out
       refine wpList_store_whole rfl 24 _ _ rfl rfl (v4.heap.size) rfl [.bool true, .slice none 0 0] rfl _ _ CB.out rfl Try.infoEv (by simp [Value.oneCell']) ?_
       intro v6 b g z
       have hsv6 : v5.heap.size ≤ v6.heap.size := by omega
       have HU1 := hid (HU1.out.put g CB.out (by decide))
       have HQ := hid (HQ.out.put g CB.out (by decide))
       have CB := hid (show BoxAt v6 (v4.heap.size) 24 #[.bool true, .slice none 0 0] from b)
       have BB := hid (BB.out.grown g (fun e => by have := Option.some.inj e; omega))
       have HB := hid (HB.out.trans (grown_below g (by omega) (by omega)))
       clear b g z hfl FL4)
    | (refine wpList_load_box rfl 24 _ rfl (v4.heap.size) rfl _ _ CB.out _ Try.underlying24 Try.infoEv ?_)
    | fail)
  refine (await_any true 0 0 0 false (s := ⟨none, 0, 0⟩) (l := []) (SeesWt.nil _) (by simp)).mono ?_
  rintro e v7 ⟨x3, rfl, hu, hb⟩
  have BB := hid (BB.out.belowAll hb)
  have CB := hid (CB.out.belowAll hb)
  have HU1 := hid (HU1.out.below hb)
  have HQ := hid (HQ.out.below hb)
  have HB := hid (HB.out.trans (hb.mono HB.out.size))
  have hsv7 : v6.heap.size ≤ v7.heap.size := by first | exact hb.size | omega
  rw [show awC true false = 0 from rfl]
  rw [show awL true false [] ⟨0, 0, 0⟩ = [] from rfl] at hu
  have HU3 := hid hu
  clear hu
  clear hb
  have FL5 := hid trivial
  have FL6 := hid trivial
  go_wp2_with (first
    | (have hfl := FL5.out
       refine wpList_new rfl 24 rfl _ Try.zeroEv ?_
       intro v8 b h z
       have DB := hid (show BoxAt v8 v7.heap.size 24 #[.bool false, .slice none 0 0] from b)
       have BB := hid (BB.out.belowAll h)
       have CB := hid (CB.out.belowAll h)
       have HU1 := hid (HU1.out.below h)
       have HQ := hid (HQ.out.below h)
       have HU3 := hid (HU3.out.below h)
       have HB := hid (HB.out.trans (h.mono HB.out.size))
       have hsv8 : v7.heap.size + 1 ≤ v8.heap.size := by first | exact h.size | omega
       clear b h z hfl FL5)
    | (have hfl := FL6.out
       refine wpList_store_whole rfl 24 _ _ rfl rfl (v7.heap.size) rfl [.bool true, .slice x3.a x3.n x3.c] rfl _ _ DB.out rfl Try.infoEv (by simp [Value.oneCell']) ?_
       intro v9 b g z
       have hsv9 : v8.heap.size ≤ v9.heap.size := by omega
       have HU1 := hid (HU1.out.put g DB.out (by decide))
       have HQ := hid (HQ.out.put g DB.out (by decide))
       have HU3 := hid (HU3.out.put g DB.out (by decide))
       have DB := hid (show BoxAt v9 (v7.heap.size) 24 #[.bool true, .slice x3.a x3.n x3.c] from b)
       have BB := hid (BB.out.grown g (fun e => by have := Option.some.inj e; omega))
       have CB := hid (CB.out.grown g (fun e => by have := Option.some.inj e; omega))
       have HB := hid (HB.out.trans (grown_below g (by omega) (by omega)))
       clear b g z hfl FL6
       refine Hid.out ?_)
    | fail)
  refine hid ?_
  have kCB0 : v9.cell? ⟨v4.heap.size, 0, none⟩ = some (.bool true) := (BoxAt.cell CB.out 0).trans rfl
  obtain ⟨wa, wn, wc⟩ := q
  have hwn : wn = 1 := HQ.out.n
  subst hwn
  obtain ⟨ya, yc, hyv, -, hy2, hyc⟩ := HQ.out.sees.form
  simp only [Sl.val, Value.slice.injEq] at hyv
  obtain ⟨rfl, -, rfl⟩ := hyv
  obtain ⟨xb, xo, rfl, hxb, hxc⟩ := hyc (by simp)
  have c0 := hxc 0 (by simp) 0 (by decide)
  simp [Wk.cells] at c0
  unfold maxLen at hy2
  clear hxc hyc HU1 HU3 HQ
  simp only [Sl.val]
  go_wp2
  go_ret
  exact ⟨rfl, HB.out⟩

end Go.Proofs.Ytgnjnhfimagbpaa
