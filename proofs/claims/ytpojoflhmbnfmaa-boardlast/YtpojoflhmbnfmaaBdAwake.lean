/-
  The chapter's example of package board.
-/
import Derived.Test.YtpojoflhmbnfmaaBd2
namespace Go.Proofs.Ytpojoflhmbnfmaa
open Go.RowKit
set_option linter.unusedVariables false


theorem OWt.n {w : World} {base : Nat} {s : Sl} {l : List Wt} (h : OWt w base s.val l) : s.n = l.length := by
  obtain ⟨r, h1, h2, _⟩ := h.sl
  have : s.n = r.n := by
    unfold Sl.val at h1
    injection h1
  omega


set_option maxRecDepth 100000 in
set_option maxHeartbeats 1600000 in
theorem bdawake_any (w : World) : Calls Try.prog 8 #[] w fun e w' => e = .returned (.bool true) ∧ Below w.heap.size w w' := by
  have HB := hid (Below.refl w.heap.size w)
  go_enter Try.func8, Try.ntmps8
  go_wp2_with fail
  refine (bread_any false 0 (s := ⟨none, 0, 0⟩) ⟨2, 0, 0⟩ true (SeesWt.nil _) (by simp)).mono ?_
  rintro e v1 ⟨u, rfl, hu, hb⟩
  have HB := hid (HB.out.trans (hb.mono HB.out.size))
  have hsv1 : w.heap.size ≤ v1.heap.size := by first | exact hb.size | omega
  rw [show readL false true [] ⟨2, 0, 0⟩ = [⟨2, 0, 0⟩] from rfl] at hu
  rw [show readC false true = (6 : Int) from rfl, show readV false 0 = (0 : Int) from rfl]
  have HU := hid hu
  have HN := hid hu.n
  clear hu
  clear hb
  have FL1 := hid trivial
  have FL2 := hid trivial
  go_wp2_with (first
    | (have hfl := FL1.out
       refine wpList_new rfl 24 rfl _ Try.zeroBd ?_
       intro v2 b h z
       have BB := hid (show BoxAt v2 v1.heap.size 24 #[.bool false, .int .i64 0, .slice none 0 0] from b)
       have HU := hid (HU.out.below h)
       have HB := hid (HB.out.trans (h.mono HB.out.size))
       have hsv2 : v1.heap.size + 1 ≤ v2.heap.size := by first | exact h.size | omega
       clear b h z hfl FL1)
    | (have hfl := FL2.out
       refine wpList_store_whole rfl 24 _ _ rfl rfl (v1.heap.size) rfl [.bool false, .int .i64 0, .slice u.a u.n u.c] rfl _ _ BB.out rfl Try.infoBd (by simp [Value.oneCell']) ?_
       intro v3 b g z
       have hsv3 : v2.heap.size ≤ v3.heap.size := by omega
       have HU := hid (HU.out.put g BB.out (by decide))
       have BB := hid (show BoxAt v3 (v1.heap.size) 24 #[.bool false, .int .i64 0, .slice u.a u.n u.c] from b)
       have HB := hid (HB.out.trans (grown_below g (by omega) (by omega)))
       clear b g z hfl FL2)
    | (refine wpList_load_box rfl 24 _ rfl (v1.heap.size) rfl _ _ BB.out _ Try.underlying24 Try.infoBd ?_)
    | fail)
  refine (bwrite_any false 0 5 (s := u) HU.out.sees (by simp)).mono ?_
  rintro e v4 ⟨x, rfl, hx, hb⟩
  have BB := hid (BB.out.belowAll hb)
  have HU := hid (HU.out.below hb)
  have HB := hid (HB.out.trans (hb.mono HB.out.size))
  have hsv4 : v3.heap.size ≤ v4.heap.size := by first | exact hb.size | omega
  rw [show allP [⟨2, 0, 0⟩] 0 5 = [⟨2, 0, 5⟩] from rfl] at hx
  have HX := hid hx
  clear hx
  clear hb
  have FL3 := hid trivial
  have FL4 := hid trivial
  go_wp2_with (first
    | (have hfl := FL3.out
       refine wpList_new rfl 24 rfl _ Try.zeroBd ?_
       intro v5 b h z
       have CB := hid (show BoxAt v5 v4.heap.size 24 #[.bool false, .int .i64 0, .slice none 0 0] from b)
       have BB := hid (BB.out.belowAll h)
       have HU := hid (HU.out.below h)
       have HX := hid (HX.out.below h)
       have HB := hid (HB.out.trans (h.mono HB.out.size))
       have hsv5 : v4.heap.size + 1 ≤ v5.heap.size := by first | exact h.size | omega
       clear b h z hfl FL3)
    | (have hfl := FL4.out
       refine wpList_store_whole rfl 24 _ _ rfl rfl (v4.heap.size) rfl [.bool true, .int .i64 5, .slice none 0 0] rfl _ _ CB.out rfl Try.infoBd (by simp [Value.oneCell']) ?_
       intro v6 b g z
       have hsv6 : v5.heap.size ≤ v6.heap.size := by omega
       have HU := hid (HU.out.put g CB.out (by decide))
       have HX := hid (HX.out.put g CB.out (by decide))
       have CB := hid (show BoxAt v6 (v4.heap.size) 24 #[.bool true, .int .i64 5, .slice none 0 0] from b)
       have BB := hid (BB.out.grown g (fun e => by have := Option.some.inj e; omega))
       have HB := hid (HB.out.trans (grown_below g (by omega) (by omega)))
       clear b g z hfl FL4)
    | (refine wpList_load_box rfl 24 _ rfl (v4.heap.size) rfl _ _ CB.out _ Try.underlying24 Try.infoBd ?_)
    | fail)
  refine (bread_any true 5 (s := ⟨none, 0, 0⟩) ⟨0, 0, 0⟩ false (SeesWt.nil _) (by simp)).mono ?_
  rintro e v7 ⟨r, rfl, hr, hb⟩
  have BB := hid (BB.out.belowAll hb)
  have CB := hid (CB.out.belowAll hb)
  have HU := hid (HU.out.below hb)
  have HX := hid (HX.out.below hb)
  have HB := hid (HB.out.trans (hb.mono HB.out.size))
  have hsv7 : v6.heap.size ≤ v7.heap.size := by first | exact hb.size | omega
  rw [show readC true false = (0 : Int) from rfl, show readV true 5 = (5 : Int) from rfl]
  clear hr
  clear hb
  have FL5 := hid trivial
  have FL6 := hid trivial
  go_wp2_with (first
    | (have hfl := FL5.out
       refine wpList_new rfl 24 rfl _ Try.zeroBd ?_
       intro v8 b h z
       have DB := hid (show BoxAt v8 v7.heap.size 24 #[.bool false, .int .i64 0, .slice none 0 0] from b)
       have BB := hid (BB.out.belowAll h)
       have CB := hid (CB.out.belowAll h)
       have HU := hid (HU.out.below h)
       have HX := hid (HX.out.below h)
       have HB := hid (HB.out.trans (h.mono HB.out.size))
       have hsv8 : v7.heap.size + 1 ≤ v8.heap.size := by first | exact h.size | omega
       clear b h z hfl FL5)
    | (have hfl := FL6.out
       refine wpList_store_whole rfl 24 _ _ rfl rfl (v7.heap.size) rfl [.bool true, .int .i64 5, .slice r.a r.n r.c] rfl _ _ DB.out rfl Try.infoBd (by simp [Value.oneCell']) ?_
       intro v9 b g z
       have hsv9 : v8.heap.size ≤ v9.heap.size := by omega
       have HU := hid (HU.out.put g DB.out (by decide))
       have HX := hid (HX.out.put g DB.out (by decide))
       have DB := hid (show BoxAt v9 (v7.heap.size) 24 #[.bool true, .int .i64 5, .slice r.a r.n r.c] from b)
       have BB := hid (BB.out.grown g (fun e => by have := Option.some.inj e; omega))
       have CB := hid (CB.out.grown g (fun e => by have := Option.some.inj e; omega))
       have HB := hid (HB.out.trans (grown_below g (by omega) (by omega)))
       clear b g z hfl FL6
       refine Hid.out ?_)
    | fail)
  refine hid ?_
  have kBB2 : v9.cell? ⟨v1.heap.size, 2, none⟩ = some (.slice u.a u.n u.c) := (BoxAt.cell BB.out 2).trans rfl
  have hn : u.n = 1 := HN.out
  obtain ⟨xa, xc, rfl, hx1, hx2, hx3⟩ := HX.out.sees.form
  obtain ⟨xb, xo, rfl, hxb, hxc⟩ := hx3 (by simp)
  have c0 := hxc 0 (by simp) 0 (by decide)
  have c1 := hxc 0 (by simp) 1 (by decide)
  have c2 := hxc 0 (by simp) 2 (by decide)
  simp [Wk.cells] at c0 c1 c2 hx1
  unfold maxLen at hx2
  clear hx3 hxc HX HN
  go_wp2
  go_ret
  exact ⟨rfl, HB.out⟩

end Go.Proofs.Ytpojoflhmbnfmaa
