/-
  The chapter's example of package buffer.
-/
import Derived.Test.YtehpmjaldghdiaaBfAll
namespace Go.Proofs.Ytehpmjaldghdiaa
open Go.RowKit
set_option linter.unusedVariables false


set_option maxRecDepth 100000 in
set_option maxHeartbeats 1600000 in
theorem bfawake_any (w : World) : Calls Try.prog 8 #[] w fun e w' => e = .returned (.bool true) ∧ Below w.heap.size w w' := by
  have HB := hid (Below.refl w.heap.size w)
  go_enter Try.func8, Try.ntmps8
  go_wp2_with fail
  refine (send_any 1 false 0 0 5 true (vs := ⟨none, 0, 0⟩) (s := ⟨none, 0, 0⟩) (xs := []) (l := []) (Sees.nil _ _) (SeesWt.nil _) (by simp) (by simp)).mono ?_
  rintro e v1 ⟨x1, u1, q1, rfl, hc, hu, hq, hb⟩
  have HB := hid (HB.out.trans (hb.mono HB.out.size))
  have hsv1 : w.heap.size ≤ v1.heap.size := by first | exact hb.size | omega
  rw [show sendC 1 [] [] true = 0 from rfl]
  rw [show sendV 1 [] [] 5 = [5] from rfl] at hc
  rw [show sendL 1 false [] [] ⟨0, 0, 5⟩ true = [] from rfl] at hu
  have HC1 := hid hc
  have HU1 := hid hu
  have HQ1 := hid hq
  clear hc hu hq
  clear hb
  have FL1 := hid trivial
  have FL2 := hid trivial
  go_wp2_with (first
    | (have hfl := FL1.out
       refine wpList_new rfl 25 rfl _ Try.zeroBf ?_
       intro v2 b h z
       have BB := hid (show BoxAt v2 v1.heap.size 25 #[.int .i64 0, .bool false, .slice none 0 0, .slice none 0 0] from b)
       have HC1 := hid (HC1.out.below h)
       have HU1 := hid (HU1.out.below h)
       have HQ1 := hid (HQ1.out.below h)
       have HB := hid (HB.out.trans (h.mono HB.out.size))
       have hsv2 : v1.heap.size + 1 ≤ v2.heap.size := by first | exact h.size | omega
       clear b h z hfl FL1)
    | (have hfl := FL2.out
       refine wpList_store_whole rfl 25 _ _ rfl rfl (v1.heap.size) rfl [.int .i64 1, .bool false, .slice x1.a x1.n x1.c, .slice u1.a u1.n u1.c] rfl _ _ BB.out rfl Try.infoBf (by simp [Value.oneCell']) ?_
       intro v3 b g z
       have hsv3 : v2.heap.size ≤ v3.heap.size := by omega
       have HC1 := hid (HC1.out.put g BB.out (by decide))
       have HU1 := hid (HU1.out.put g BB.out (by decide))
       have HQ1 := hid (HQ1.out.put g BB.out (by decide))
       have BB := hid (show BoxAt v3 (v1.heap.size) 25 #[.int .i64 1, .bool false, .slice x1.a x1.n x1.c, .slice u1.a u1.n u1.c] from b)
       have HB := hid (HB.out.trans (grown_below g (by omega) (by omega)))
       clear b g z hfl FL2)
    | (refine wpList_load_box rfl 25 _ rfl (v1.heap.size) rfl _ _ BB.out _ Try.underlying25 Try.infoBf ?_)
    | fail)
  refine (send_any 1 false 3 0 6 true (vs := x1) (s := u1) (xs := [5]) (l := []) HC1.out.sees HU1.out.sees (by simp) (by simp)).mono ?_
  rintro e v4 ⟨x2, u2, q2, rfl, hc, hu, hq, hb⟩
  have BB := hid (BB.out.belowAll hb)
  have HC1 := hid (HC1.out.below hb)
  have HU1 := hid (HU1.out.below hb)
  have HQ1 := hid (HQ1.out.below hb)
  have HB := hid (HB.out.trans (hb.mono HB.out.size))
  have hsv4 : v3.heap.size ≤ v4.heap.size := by first | exact hb.size | omega
  rw [show sendC 1 [5] [] true = 6 from rfl]
  rw [show sendV 1 [5] [] 6 = [5] from rfl] at hc
  rw [show sendL 1 false [5] [] ⟨3, 0, 6⟩ true = [⟨3, 0, 6⟩] from rfl] at hu
  have HC2 := hid hc
  have HU2 := hid hu
  have HQ2 := hid hq
  clear hc hu hq
  clear hb
  have FL3 := hid trivial
  have FL4 := hid trivial
  go_wp2_with (first
    | (have hfl := FL3.out
       refine wpList_new rfl 25 rfl _ Try.zeroBf ?_
       intro v5 b h z
       have CB := hid (show BoxAt v5 v4.heap.size 25 #[.int .i64 0, .bool false, .slice none 0 0, .slice none 0 0] from b)
       have BB := hid (BB.out.belowAll h)
       have HC1 := hid (HC1.out.below h)
       have HU1 := hid (HU1.out.below h)
       have HQ1 := hid (HQ1.out.below h)
       have HC2 := hid (HC2.out.below h)
       have HU2 := hid (HU2.out.below h)
       have HQ2 := hid (HQ2.out.below h)
       have HB := hid (HB.out.trans (h.mono HB.out.size))
       have hsv5 : v4.heap.size + 1 ≤ v5.heap.size := by first | exact h.size | omega
       clear b h z hfl FL3)
    | (have hfl := FL4.out
       refine wpList_store_whole rfl 25 _ _ rfl rfl (v4.heap.size) rfl [.int .i64 1, .bool false, .slice x2.a x2.n x2.c, .slice u2.a u2.n u2.c] rfl _ _ CB.out rfl Try.infoBf (by simp [Value.oneCell']) ?_
       intro v6 b g z
       have hsv6 : v5.heap.size ≤ v6.heap.size := by omega
       have HC1 := hid (HC1.out.put g CB.out (by decide))
       have HU1 := hid (HU1.out.put g CB.out (by decide))
       have HQ1 := hid (HQ1.out.put g CB.out (by decide))
       have HC2 := hid (HC2.out.put g CB.out (by decide))
       have HU2 := hid (HU2.out.put g CB.out (by decide))
       have HQ2 := hid (HQ2.out.put g CB.out (by decide))
       have CB := hid (show BoxAt v6 (v4.heap.size) 25 #[.int .i64 1, .bool false, .slice x2.a x2.n x2.c, .slice u2.a u2.n u2.c] from b)
       have BB := hid (BB.out.grown g (fun e => by have := Option.some.inj e; omega))
       have HB := hid (HB.out.trans (grown_below g (by omega) (by omega)))
       clear b g z hfl FL4)
    | (refine wpList_load_box rfl 25 _ rfl (v4.heap.size) rfl _ _ CB.out _ Try.underlying25 Try.infoBf ?_)
    | fail)
  refine (take_any 1 false 0 0 0 false (vs := x2) (s := u2) (xs := [5]) (l := [⟨3, 0, 6⟩]) HC2.out.sees HU2.out.sees (by simp) (by simp)).mono ?_
  rintro e v7 ⟨x3, u3, q3, rfl, hc, hu, hq, hb⟩
  have BB := hid (BB.out.belowAll hb)
  have CB := hid (CB.out.belowAll hb)
  have HC1 := hid (HC1.out.below hb)
  have HU1 := hid (HU1.out.below hb)
  have HQ1 := hid (HQ1.out.below hb)
  have HC2 := hid (HC2.out.below hb)
  have HU2 := hid (HU2.out.below hb)
  have HQ2 := hid (HQ2.out.below hb)
  have HB := hid (HB.out.trans (hb.mono HB.out.size))
  have hsv7 : v6.heap.size ≤ v7.heap.size := by first | exact hb.size | omega
  rw [show takeC [5] false = 0 from rfl]
  rw [show takeX [5] = 5 from rfl]
  rw [show takeV [5] [⟨3, 0, 6⟩] = [6] from rfl] at hc
  rw [show takeL false [5] [⟨3, 0, 6⟩] ⟨0, 0, 0⟩ false = [] from rfl] at hu
  rw [show takeW [5] [⟨3, 0, 6⟩] = [⟨3, 0, 0⟩] from rfl] at hq
  have HC3 := hid hc
  have HU3 := hid hu
  have HQ3 := hid hq
  clear hc hu hq
  clear hb
  have FL5 := hid trivial
  have FL6 := hid trivial
  go_wp2_with (first
    | (have hfl := FL5.out
       refine wpList_new rfl 25 rfl _ Try.zeroBf ?_
       intro v8 b h z
       have DB := hid (show BoxAt v8 v7.heap.size 25 #[.int .i64 0, .bool false, .slice none 0 0, .slice none 0 0] from b)
       have BB := hid (BB.out.belowAll h)
       have CB := hid (CB.out.belowAll h)
       have HC1 := hid (HC1.out.below h)
       have HU1 := hid (HU1.out.below h)
       have HQ1 := hid (HQ1.out.below h)
       have HC2 := hid (HC2.out.below h)
       have HU2 := hid (HU2.out.below h)
       have HQ2 := hid (HQ2.out.below h)
       have HC3 := hid (HC3.out.below h)
       have HU3 := hid (HU3.out.below h)
       have HQ3 := hid (HQ3.out.below h)
       have HB := hid (HB.out.trans (h.mono HB.out.size))
       have hsv8 : v7.heap.size + 1 ≤ v8.heap.size := by first | exact h.size | omega
       clear b h z hfl FL5)
    | (have hfl := FL6.out
       refine wpList_store_whole rfl 25 _ _ rfl rfl (v7.heap.size) rfl [.int .i64 1, .bool false, .slice x3.a x3.n x3.c, .slice u3.a u3.n u3.c] rfl _ _ DB.out rfl Try.infoBf (by simp [Value.oneCell']) ?_
       intro v9 b g z
       have hsv9 : v8.heap.size ≤ v9.heap.size := by omega
       have HC1 := hid (HC1.out.put g DB.out (by decide))
       have HU1 := hid (HU1.out.put g DB.out (by decide))
       have HQ1 := hid (HQ1.out.put g DB.out (by decide))
       have HC2 := hid (HC2.out.put g DB.out (by decide))
       have HU2 := hid (HU2.out.put g DB.out (by decide))
       have HQ2 := hid (HQ2.out.put g DB.out (by decide))
       have HC3 := hid (HC3.out.put g DB.out (by decide))
       have HU3 := hid (HU3.out.put g DB.out (by decide))
       have HQ3 := hid (HQ3.out.put g DB.out (by decide))
       have DB := hid (show BoxAt v9 (v7.heap.size) 25 #[.int .i64 1, .bool false, .slice x3.a x3.n x3.c, .slice u3.a u3.n u3.c] from b)
       have BB := hid (BB.out.grown g (fun e => by have := Option.some.inj e; omega))
       have CB := hid (CB.out.grown g (fun e => by have := Option.some.inj e; omega))
       have HB := hid (HB.out.trans (grown_below g (by omega) (by omega)))
       clear b g z hfl FL6)
    | (refine wpList_load_box rfl 25 _ rfl (v7.heap.size) rfl _ _ DB.out _ Try.underlying25 Try.infoBf ?_)
    | fail)
  refine (take_any 1 false 0 0 0 false (vs := x3) (s := u3) (xs := [6]) (l := []) HC3.out.sees HU3.out.sees (by simp) (by simp)).mono ?_
  rintro e v10 ⟨x4, u4, q4, rfl, hc, hu, hq, hb⟩
  have BB := hid (BB.out.belowAll hb)
  have CB := hid (CB.out.belowAll hb)
  have DB := hid (DB.out.belowAll hb)
  have HC1 := hid (HC1.out.below hb)
  have HU1 := hid (HU1.out.below hb)
  have HQ1 := hid (HQ1.out.below hb)
  have HC2 := hid (HC2.out.below hb)
  have HU2 := hid (HU2.out.below hb)
  have HQ2 := hid (HQ2.out.below hb)
  have HC3 := hid (HC3.out.below hb)
  have HU3 := hid (HU3.out.below hb)
  have HQ3 := hid (HQ3.out.below hb)
  have HB := hid (HB.out.trans (hb.mono HB.out.size))
  have hsv10 : v9.heap.size ≤ v10.heap.size := by first | exact hb.size | omega
  rw [show takeC [6] false = 0 from rfl]
  rw [show takeX [6] = 6 from rfl]
  have HC4 := hid hc
  have HU4 := hid hu
  have HQ4 := hid hq
  clear hc hu hq
  clear hb
  have FL7 := hid trivial
  have FL8 := hid trivial
  go_wp2_with (first
    | (have hfl := FL7.out
       refine wpList_new rfl 25 rfl _ Try.zeroBf ?_
       intro v11 b h z
       have EB := hid (show BoxAt v11 v10.heap.size 25 #[.int .i64 0, .bool false, .slice none 0 0, .slice none 0 0] from b)
       have BB := hid (BB.out.belowAll h)
       have CB := hid (CB.out.belowAll h)
       have DB := hid (DB.out.belowAll h)
       have HC1 := hid (HC1.out.below h)
       have HU1 := hid (HU1.out.below h)
       have HQ1 := hid (HQ1.out.below h)
       have HC2 := hid (HC2.out.below h)
       have HU2 := hid (HU2.out.below h)
       have HQ2 := hid (HQ2.out.below h)
       have HC3 := hid (HC3.out.below h)
       have HU3 := hid (HU3.out.below h)
       have HQ3 := hid (HQ3.out.below h)
       have HC4 := hid (HC4.out.below h)
       have HU4 := hid (HU4.out.below h)
       have HQ4 := hid (HQ4.out.below h)
       have HB := hid (HB.out.trans (h.mono HB.out.size))
       have hsv11 : v10.heap.size + 1 ≤ v11.heap.size := by first | exact h.size | omega
       clear b h z hfl FL7)
    | (have hfl := FL8.out
       refine wpList_store_whole rfl 25 _ _ rfl rfl (v10.heap.size) rfl [.int .i64 1, .bool false, .slice x4.a x4.n x4.c, .slice u4.a u4.n u4.c] rfl _ _ EB.out rfl Try.infoBf (by simp [Value.oneCell']) ?_
       intro v12 b g z
       have hsv12 : v11.heap.size ≤ v12.heap.size := by omega
       have HC1 := hid (HC1.out.put g EB.out (by decide))
       have HU1 := hid (HU1.out.put g EB.out (by decide))
       have HQ1 := hid (HQ1.out.put g EB.out (by decide))
       have HC2 := hid (HC2.out.put g EB.out (by decide))
       have HU2 := hid (HU2.out.put g EB.out (by decide))
       have HQ2 := hid (HQ2.out.put g EB.out (by decide))
       have HC3 := hid (HC3.out.put g EB.out (by decide))
       have HU3 := hid (HU3.out.put g EB.out (by decide))
       have HQ3 := hid (HQ3.out.put g EB.out (by decide))
       have HC4 := hid (HC4.out.put g EB.out (by decide))
       have HU4 := hid (HU4.out.put g EB.out (by decide))
       have HQ4 := hid (HQ4.out.put g EB.out (by decide))
       have EB := hid (show BoxAt v12 (v10.heap.size) 25 #[.int .i64 1, .bool false, .slice x4.a x4.n x4.c, .slice u4.a u4.n u4.c] from b)
       have BB := hid (BB.out.grown g (fun e => by have := Option.some.inj e; omega))
       have CB := hid (CB.out.grown g (fun e => by have := Option.some.inj e; omega))
       have DB := hid (DB.out.grown g (fun e => by have := Option.some.inj e; omega))
       have HB := hid (HB.out.trans (grown_below g (by omega) (by omega)))
       clear b g z hfl FL8
       refine Hid.out ?_)
    | fail)
  refine hid ?_
  obtain ⟨wa, wn, wc⟩ := q3
  have hwn : wn = 1 := HQ3.out.n
  subst hwn
  obtain ⟨ya, yc, hyv, -, hy2, hyc⟩ := HQ3.out.sees.form
  simp only [Sl.val, Value.slice.injEq] at hyv
  obtain ⟨rfl, -, rfl⟩ := hyv
  obtain ⟨xb, xo, rfl, hxb, hxc⟩ := hyc (by simp)
  have c0 := hxc 0 (by simp) 0 (by decide)
  simp [Wk.cells] at c0
  unfold maxLen at hy2
  clear hxc hyc HC1 HC2 HC3 HC4 HU1 HU2 HU3 HU4 HQ1 HQ2 HQ3 HQ4
  simp only [Sl.val]
  go_wp2
  go_ret
  exact ⟨rfl, HB.out⟩

end Go.Proofs.Ytehpmjaldghdiaa
