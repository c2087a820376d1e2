/-
  What buffer's wait, Send and Take return, whatever buffer they are given.
-/
import Derived.Test.YtehpmjaldghdiaaBfFrom
namespace Go.Proofs.Ytehpmjaldghdiaa
open Go.RowKit
set_option linter.unusedVariables false


set_option maxRecDepth 100000 in
set_option maxHeartbeats 1600000 in
theorem bwait_no (d : Int) (k : Bool) {vs s : Sl} {xs : List Int} {l : List Wt} (p r v : Int) {w : World} (hv : Sees w .i64 vs.val xs) (hs : SeesWt w s.val l) (hx : xs.length ≤ 800000) (hl : l.length ≤ 800000) :
    Calls Try.prog 19 #[BfV.val ⟨d, k, vs, s⟩, .agg #[.int .i64 p, .int .i64 r, .int .i64 v], .bool false] w fun e w' => ∃ (x u : Sl), e = .returned (.tuple #[BfV.val ⟨d, k, x, u⟩, .int .i64 (2)]) ∧ OI w' w.heap.size x.val (xs) ∧ OWt w' w.heap.size u.val (l) ∧ Below w.heap.size w w' := by
  have HX := hid hv
  have HV := hid hs
  obtain ⟨a1, c1, hv1, hx1, hx2, hxc⟩ := hv.form
  obtain ⟨xa, xn, xc⟩ := vs
  simp only [Sl.val, Value.slice.injEq] at hv1
  obtain ⟨rfl, rfl, rfl⟩ := hv1
  obtain ⟨a2, c2, hs1, hc1, hc2, -⟩ := hs.form
  obtain ⟨sa, sn, sc⟩ := s
  simp only [Sl.val, Value.slice.injEq] at hs1
  obtain ⟨rfl, rfl, rfl⟩ := hs1
  unfold maxLen at hx2 hc2
  simp only [Sl.val] at HX HV
  have HXC := hid hxc
  clear hv hs hxc
  unfold BfV.val
  simp only
  obtain ⟨N, hN⟩ : ∃ N, xs.length = N := ⟨_, rfl⟩
  obtain ⟨M, hM⟩ : ∃ M, l.length = M := ⟨_, rfl⟩
  have HN := hid hN
  have HM := hid hM
  have HXL := hid hx
  have HL := hid hl
  rw [hN] at hx hx1 HX HXC ⊢
  rw [hM] at hl hc1 HV ⊢
  clear hN hM
  have HB := hid (Below.refl w.heap.size w)
  go_enter Try.func19, Try.ntmps19
  have FL1 := hid trivial
  have FL2 := hid trivial
  have FL3 := hid trivial
  go_wp2_with (first
    | (have hfl := FL1.out
       refine wpList_box rfl 25 (.tmp 0) rfl #[.int .i64 d, .bool k, .slice xa N xc, .slice sa M sc] rfl ?_
       intro v1 b h z
       have PB := hid (show BoxAt v1 w.heap.size 25 #[.int .i64 d, .bool k, .slice xa N xc, .slice sa M sc] from b)
       have HB := hid (HB.out.trans (h.mono HB.out.size))
       have hsv1 : w.heap.size + 1 ≤ v1.heap.size := by first | exact h.size | omega
       clear b h z hfl FL1)
    | (have hfl := FL2.out
       refine wpList_box rfl 27 (.tmp 1) rfl #[.int .i64 p, .int .i64 r, .int .i64 v] rfl ?_
       intro v2 b h z
       have WB := hid (show BoxAt v2 v1.heap.size 27 #[.int .i64 p, .int .i64 r, .int .i64 v] from b)
       have PB := hid (PB.out.belowAll h)
       have HB := hid (HB.out.trans (h.mono HB.out.size))
       have hsv2 : v1.heap.size + 1 ≤ v2.heap.size := by first | exact h.size | omega
       have kPB0 : v2.cell? ⟨w.heap.size, 0, none⟩ = some (.int .i64 d) := (BoxAt.cell PB.out 0).trans rfl
       have kPB1 : v2.cell? ⟨w.heap.size, 1, none⟩ = some (.bool k) := (BoxAt.cell PB.out 1).trans rfl
       have kPB2 : v2.cell? ⟨w.heap.size, 2, none⟩ = some (.slice xa N xc) := (BoxAt.cell PB.out 2).trans rfl
       have kPB3 : v2.cell? ⟨w.heap.size, 3, none⟩ = some (.slice sa M sc) := (BoxAt.cell PB.out 3).trans rfl
       clear b h z hfl FL2)
    | (have hfl := FL3.out
       refine wpList_new rfl 25 rfl _ Try.zeroBf ?_
       intro v3 b h z
       have RB := hid (show BoxAt v3 v2.heap.size 25 #[.int .i64 0, .bool false, .slice none 0 0, .slice none 0 0] from b)
       have PB := hid (PB.out.belowAll h)
       have WB := hid (WB.out.belowAll h)
       have HB := hid (HB.out.trans (h.mono HB.out.size))
       have hsv3 : v2.heap.size + 1 ≤ v3.heap.size := by first | exact h.size | omega
       clear kPB0 kPB1 kPB2 kPB3
       have kPB0 : v3.cell? ⟨w.heap.size, 0, none⟩ = some (.int .i64 d) := (BoxAt.cell PB.out 0).trans rfl
       have kPB1 : v3.cell? ⟨w.heap.size, 1, none⟩ = some (.bool k) := (BoxAt.cell PB.out 1).trans rfl
       have kPB2 : v3.cell? ⟨w.heap.size, 2, none⟩ = some (.slice xa N xc) := (BoxAt.cell PB.out 2).trans rfl
       have kPB3 : v3.cell? ⟨w.heap.size, 3, none⟩ = some (.slice sa M sc) := (BoxAt.cell PB.out 3).trans rfl
       have kWB0 : v3.cell? ⟨v1.heap.size, 0, none⟩ = some (.int .i64 p) := (BoxAt.cell WB.out 0).trans rfl
       have kWB1 : v3.cell? ⟨v1.heap.size, 1, none⟩ = some (.int .i64 r) := (BoxAt.cell WB.out 1).trans rfl
       have kWB2 : v3.cell? ⟨v1.heap.size, 2, none⟩ = some (.int .i64 v) := (BoxAt.cell WB.out 2).trans rfl
       clear b h z hfl FL3
       refine Hid.out ?_)
    | fail)
  refine hid ?_
  clear kPB0 kPB1 kPB2 kPB3 kWB0 kWB1 kWB2
  have kPB0 : v3.cell? ⟨w.heap.size, 0, none⟩ = some (.int .i64 d) := (BoxAt.cell PB.out 0).trans rfl
  have kPB1 : v3.cell? ⟨w.heap.size, 1, none⟩ = some (.bool k) := (BoxAt.cell PB.out 1).trans rfl
  have kPB2 : v3.cell? ⟨w.heap.size, 2, none⟩ = some (.slice xa N xc) := (BoxAt.cell PB.out 2).trans rfl
  have kPB3 : v3.cell? ⟨w.heap.size, 3, none⟩ = some (.slice sa M sc) := (BoxAt.cell PB.out 3).trans rfl
  have kWB0 : v3.cell? ⟨v1.heap.size, 0, none⟩ = some (.int .i64 p) := (BoxAt.cell WB.out 0).trans rfl
  have kWB1 : v3.cell? ⟨v1.heap.size, 1, none⟩ = some (.int .i64 r) := (BoxAt.cell WB.out 1).trans rfl
  have kWB2 : v3.cell? ⟨v1.heap.size, 2, none⟩ = some (.int .i64 v) := (BoxAt.cell WB.out 2).trans rfl
  go_wp2_with fail
  have HBsx := HB.out.size
  refine (qclone_int (HX.out.below HB.out) (by have := HXL.out; omega)).mono ?_
  rintro e v4 ⟨ux, rfl, hu, hb⟩
  have PB := hid (PB.out.belowAll hb)
  have WB := hid (WB.out.belowAll hb)
  have RB := hid (RB.out.belowAll hb)
  have HB := hid (HB.out.trans (hb.mono HB.out.size))
  have hsv4 : v3.heap.size ≤ v4.heap.size := by first | exact hb.size | omega
  obtain ⟨x, rfl, -⟩ := hu.sl
  have HC := hid (hu.mono HBsx)
  clear hu HBsx
  clear kPB0 kPB1 kPB2 kPB3 kWB0 kWB1 kWB2
  have kPB0 : v4.cell? ⟨w.heap.size, 0, none⟩ = some (.int .i64 d) := (BoxAt.cell PB.out 0).trans rfl
  have kPB1 : v4.cell? ⟨w.heap.size, 1, none⟩ = some (.bool k) := (BoxAt.cell PB.out 1).trans rfl
  have kPB2 : v4.cell? ⟨w.heap.size, 2, none⟩ = some (.slice xa N xc) := (BoxAt.cell PB.out 2).trans rfl
  have kPB3 : v4.cell? ⟨w.heap.size, 3, none⟩ = some (.slice sa M sc) := (BoxAt.cell PB.out 3).trans rfl
  have kWB0 : v4.cell? ⟨v1.heap.size, 0, none⟩ = some (.int .i64 p) := (BoxAt.cell WB.out 0).trans rfl
  have kWB1 : v4.cell? ⟨v1.heap.size, 1, none⟩ = some (.int .i64 r) := (BoxAt.cell WB.out 1).trans rfl
  have kWB2 : v4.cell? ⟨v1.heap.size, 2, none⟩ = some (.int .i64 v) := (BoxAt.cell WB.out 2).trans rfl
  clear hb
  have FL4 := hid trivial
  go_wp2_with (first
    | (have hfl := FL4.out
       refine wpList_store_box rfl 22 _ _ rfl rfl (w.heap.size) 2 (.slice x.a x.n x.c) rfl rfl rfl rfl (by kernel_rfl) _ _ PB.out (by simp) ?_
       intro v5 b g z
       have hsv5 : v4.heap.size ≤ v5.heap.size := by omega
       have HC := hid (HC.out.put g PB.out (by decide))
       have PB := hid (show BoxAt v5 (w.heap.size) 25 #[.int .i64 d, .bool k, .slice x.a x.n x.c, .slice sa M sc] from by simpa using b)
       have WB := hid (WB.out.grown g (fun e => by have := Option.some.inj e; omega))
       have RB := hid (RB.out.grown g (fun e => by have := Option.some.inj e; omega))
       have HB := hid (HB.out.trans (grown_below g (by omega) (by omega)))
       clear kPB0 kPB1 kPB2 kPB3 kWB0 kWB1 kWB2
       have kPB0 : v5.cell? ⟨w.heap.size, 0, none⟩ = some (.int .i64 d) := (BoxAt.cell PB.out 0).trans rfl
       have kPB1 : v5.cell? ⟨w.heap.size, 1, none⟩ = some (.bool k) := (BoxAt.cell PB.out 1).trans rfl
       have kPB2 : v5.cell? ⟨w.heap.size, 2, none⟩ = some (.slice x.a x.n x.c) := (BoxAt.cell PB.out 2).trans rfl
       have kPB3 : v5.cell? ⟨w.heap.size, 3, none⟩ = some (.slice sa M sc) := (BoxAt.cell PB.out 3).trans rfl
       have kWB0 : v5.cell? ⟨v1.heap.size, 0, none⟩ = some (.int .i64 p) := (BoxAt.cell WB.out 0).trans rfl
       have kWB1 : v5.cell? ⟨v1.heap.size, 1, none⟩ = some (.int .i64 r) := (BoxAt.cell WB.out 1).trans rfl
       have kWB2 : v5.cell? ⟨v1.heap.size, 2, none⟩ = some (.int .i64 v) := (BoxAt.cell WB.out 2).trans rfl
       clear b g z hfl FL4
       refine Hid.out ?_)
    | fail)
  refine hid ?_
  clear kPB0 kPB1 kPB2 kPB3 kWB0 kWB1 kWB2
  have kPB0 : v5.cell? ⟨w.heap.size, 0, none⟩ = some (.int .i64 d) := (BoxAt.cell PB.out 0).trans rfl
  have kPB1 : v5.cell? ⟨w.heap.size, 1, none⟩ = some (.bool k) := (BoxAt.cell PB.out 1).trans rfl
  have kPB2 : v5.cell? ⟨w.heap.size, 2, none⟩ = some (.slice x.a x.n x.c) := (BoxAt.cell PB.out 2).trans rfl
  have kPB3 : v5.cell? ⟨w.heap.size, 3, none⟩ = some (.slice sa M sc) := (BoxAt.cell PB.out 3).trans rfl
  have kWB0 : v5.cell? ⟨v1.heap.size, 0, none⟩ = some (.int .i64 p) := (BoxAt.cell WB.out 0).trans rfl
  have kWB1 : v5.cell? ⟨v1.heap.size, 1, none⟩ = some (.int .i64 r) := (BoxAt.cell WB.out 1).trans rfl
  have kWB2 : v5.cell? ⟨v1.heap.size, 2, none⟩ = some (.int .i64 v) := (BoxAt.cell WB.out 2).trans rfl
  go_wp2_with fail
  have HBsu := HB.out.size
  refine (qclone_Wt (HV.out.below HB.out) (by have := HL.out; omega)).mono ?_
  rintro e v6 ⟨uu, rfl, hu, hb⟩
  have PB := hid (PB.out.belowAll hb)
  have WB := hid (WB.out.belowAll hb)
  have RB := hid (RB.out.belowAll hb)
  have HC := hid (HC.out.below hb)
  have HB := hid (HB.out.trans (hb.mono HB.out.size))
  have hsv6 : v5.heap.size ≤ v6.heap.size := by first | exact hb.size | omega
  obtain ⟨u, rfl, -⟩ := hu.sl
  have HU := hid (hu.mono HBsu)
  clear hu HBsu
  clear kPB0 kPB1 kPB2 kPB3 kWB0 kWB1 kWB2
  have kPB0 : v6.cell? ⟨w.heap.size, 0, none⟩ = some (.int .i64 d) := (BoxAt.cell PB.out 0).trans rfl
  have kPB1 : v6.cell? ⟨w.heap.size, 1, none⟩ = some (.bool k) := (BoxAt.cell PB.out 1).trans rfl
  have kPB2 : v6.cell? ⟨w.heap.size, 2, none⟩ = some (.slice x.a x.n x.c) := (BoxAt.cell PB.out 2).trans rfl
  have kPB3 : v6.cell? ⟨w.heap.size, 3, none⟩ = some (.slice sa M sc) := (BoxAt.cell PB.out 3).trans rfl
  have kWB0 : v6.cell? ⟨v1.heap.size, 0, none⟩ = some (.int .i64 p) := (BoxAt.cell WB.out 0).trans rfl
  have kWB1 : v6.cell? ⟨v1.heap.size, 1, none⟩ = some (.int .i64 r) := (BoxAt.cell WB.out 1).trans rfl
  have kWB2 : v6.cell? ⟨v1.heap.size, 2, none⟩ = some (.int .i64 v) := (BoxAt.cell WB.out 2).trans rfl
  clear hb
  have FL5 := hid trivial
  have FL6 := hid trivial
  go_wp2_with (first
    | (have hfl := FL5.out
       refine wpList_store_box rfl 23 _ _ rfl rfl (w.heap.size) 3 (.slice u.a u.n u.c) rfl rfl rfl rfl (by kernel_rfl) _ _ PB.out (by simp) ?_
       intro v7 b g z
       have hsv7 : v6.heap.size ≤ v7.heap.size := by omega
       have HC := hid (HC.out.put g PB.out (by decide))
       have HU := hid (HU.out.put g PB.out (by decide))
       have PB := hid (show BoxAt v7 (w.heap.size) 25 #[.int .i64 d, .bool k, .slice x.a x.n x.c, .slice u.a u.n u.c] from by simpa using b)
       have WB := hid (WB.out.grown g (fun e => by have := Option.some.inj e; omega))
       have RB := hid (RB.out.grown g (fun e => by have := Option.some.inj e; omega))
       have HB := hid (HB.out.trans (grown_below g (by omega) (by omega)))
       clear kPB0 kPB1 kPB2 kPB3 kWB0 kWB1 kWB2
       have kPB0 : v7.cell? ⟨w.heap.size, 0, none⟩ = some (.int .i64 d) := (BoxAt.cell PB.out 0).trans rfl
       have kPB1 : v7.cell? ⟨w.heap.size, 1, none⟩ = some (.bool k) := (BoxAt.cell PB.out 1).trans rfl
       have kPB2 : v7.cell? ⟨w.heap.size, 2, none⟩ = some (.slice x.a x.n x.c) := (BoxAt.cell PB.out 2).trans rfl
       have kPB3 : v7.cell? ⟨w.heap.size, 3, none⟩ = some (.slice u.a u.n u.c) := (BoxAt.cell PB.out 3).trans rfl
       have kWB0 : v7.cell? ⟨v1.heap.size, 0, none⟩ = some (.int .i64 p) := (BoxAt.cell WB.out 0).trans rfl
       have kWB1 : v7.cell? ⟨v1.heap.size, 1, none⟩ = some (.int .i64 r) := (BoxAt.cell WB.out 1).trans rfl
       have kWB2 : v7.cell? ⟨v1.heap.size, 2, none⟩ = some (.int .i64 v) := (BoxAt.cell WB.out 2).trans rfl
       clear b g z hfl FL5)
    | (refine wpList_load_box rfl 25 _ rfl (w.heap.size) rfl _ _ PB.out _ Try.underlying25 Try.infoBf ?_)
    | (have hfl := FL6.out
       refine wpList_store_whole rfl 25 _ _ rfl rfl (v2.heap.size) rfl [.int .i64 d, .bool k, .slice x.a x.n x.c, .slice u.a u.n u.c] rfl _ _ RB.out rfl Try.infoBf (by simp [Value.oneCell']) ?_
       intro v8 b g z
       have hsv8 : v7.heap.size ≤ v8.heap.size := by omega
       have HC := hid (HC.out.put g RB.out (by decide))
       have HU := hid (HU.out.put g RB.out (by decide))
       have RB := hid (show BoxAt v8 (v2.heap.size) 25 #[.int .i64 d, .bool k, .slice x.a x.n x.c, .slice u.a u.n u.c] from b)
       have PB := hid (PB.out.grown g (fun e => by have := Option.some.inj e; omega))
       have WB := hid (WB.out.grown g (fun e => by have := Option.some.inj e; omega))
       have HB := hid (HB.out.trans (grown_below g (by omega) (by omega)))
       clear kPB0 kPB1 kPB2 kPB3 kWB0 kWB1 kWB2
       have kPB0 : v8.cell? ⟨w.heap.size, 0, none⟩ = some (.int .i64 d) := (BoxAt.cell PB.out 0).trans rfl
       have kPB1 : v8.cell? ⟨w.heap.size, 1, none⟩ = some (.bool k) := (BoxAt.cell PB.out 1).trans rfl
       have kPB2 : v8.cell? ⟨w.heap.size, 2, none⟩ = some (.slice x.a x.n x.c) := (BoxAt.cell PB.out 2).trans rfl
       have kPB3 : v8.cell? ⟨w.heap.size, 3, none⟩ = some (.slice u.a u.n u.c) := (BoxAt.cell PB.out 3).trans rfl
       have kWB0 : v8.cell? ⟨v1.heap.size, 0, none⟩ = some (.int .i64 p) := (BoxAt.cell WB.out 0).trans rfl
       have kWB1 : v8.cell? ⟨v1.heap.size, 1, none⟩ = some (.int .i64 r) := (BoxAt.cell WB.out 1).trans rfl
       have kWB2 : v8.cell? ⟨v1.heap.size, 2, none⟩ = some (.int .i64 v) := (BoxAt.cell WB.out 2).trans rfl
       clear b g z hfl FL6)
    | fail)
  refine bodyPost_ret (results_box_tmp rfl _ _ (v2.heap.size) 25 _ (0, 0) _ rfl RB.out Try.underlying25 rfl Try.infoBf) rfl ?_
  exact ⟨x, u, rfl, HC.out, HU.out, HB.out⟩

set_option maxRecDepth 100000 in
set_option maxHeartbeats 1600000 in
theorem bwait_yes (d : Int) (k : Bool) {vs s : Sl} {xs : List Int} {l : List Wt} (p r v : Int) {w : World} (hv : Sees w .i64 vs.val xs) (hs : SeesWt w s.val l) (hx : xs.length ≤ 800000) (hl : l.length ≤ 800000) :
    Calls Try.prog 19 #[BfV.val ⟨d, k, vs, s⟩, .agg #[.int .i64 p, .int .i64 r, .int .i64 v], .bool true] w fun e w' => ∃ (x u : Sl), e = .returned (.tuple #[BfV.val ⟨d, k, x, u⟩, .int .i64 (6)]) ∧ OI w' w.heap.size x.val (xs) ∧ OWt w' w.heap.size u.val (addP l ⟨p, r, v⟩ k) ∧ Below w.heap.size w w' := by
  have HX := hid hv
  have HV := hid hs
  obtain ⟨a1, c1, hv1, hx1, hx2, hxc⟩ := hv.form
  obtain ⟨xa, xn, xc⟩ := vs
  simp only [Sl.val, Value.slice.injEq] at hv1
  obtain ⟨rfl, rfl, rfl⟩ := hv1
  obtain ⟨a2, c2, hs1, hc1, hc2, -⟩ := hs.form
  obtain ⟨sa, sn, sc⟩ := s
  simp only [Sl.val, Value.slice.injEq] at hs1
  obtain ⟨rfl, rfl, rfl⟩ := hs1
  unfold maxLen at hx2 hc2
  simp only [Sl.val] at HX HV
  have HXC := hid hxc
  clear hv hs hxc
  unfold BfV.val
  simp only
  obtain ⟨N, hN⟩ : ∃ N, xs.length = N := ⟨_, rfl⟩
  obtain ⟨M, hM⟩ : ∃ M, l.length = M := ⟨_, rfl⟩
  have HN := hid hN
  have HM := hid hM
  have HXL := hid hx
  have HL := hid hl
  rw [hN] at hx hx1 HX HXC ⊢
  rw [hM] at hl hc1 HV ⊢
  clear hN hM
  have HB := hid (Below.refl w.heap.size w)
  go_enter Try.func19, Try.ntmps19
  have FL1 := hid trivial
  have FL2 := hid trivial
  have FL3 := hid trivial
  go_wp2_with (first
    | (have hfl := FL1.out
       refine wpList_box rfl 25 (.tmp 0) rfl #[.int .i64 d, .bool k, .slice xa N xc, .slice sa M sc] rfl ?_
       intro v1 b h z
       have PB := hid (show BoxAt v1 w.heap.size 25 #[.int .i64 d, .bool k, .slice xa N xc, .slice sa M sc] from b)
       have HB := hid (HB.out.trans (h.mono HB.out.size))
       have hsv1 : w.heap.size + 1 ≤ v1.heap.size := by first | exact h.size | omega
       clear b h z hfl FL1)
    | (have hfl := FL2.out
       refine wpList_box rfl 27 (.tmp 1) rfl #[.int .i64 p, .int .i64 r, .int .i64 v] rfl ?_
       intro v2 b h z
       have WB := hid (show BoxAt v2 v1.heap.size 27 #[.int .i64 p, .int .i64 r, .int .i64 v] from b)
       have PB := hid (PB.out.belowAll h)
       have HB := hid (HB.out.trans (h.mono HB.out.size))
       have hsv2 : v1.heap.size + 1 ≤ v2.heap.size := by first | exact h.size | omega
       have kPB0 : v2.cell? ⟨w.heap.size, 0, none⟩ = some (.int .i64 d) := (BoxAt.cell PB.out 0).trans rfl
       have kPB1 : v2.cell? ⟨w.heap.size, 1, none⟩ = some (.bool k) := (BoxAt.cell PB.out 1).trans rfl
       have kPB2 : v2.cell? ⟨w.heap.size, 2, none⟩ = some (.slice xa N xc) := (BoxAt.cell PB.out 2).trans rfl
       have kPB3 : v2.cell? ⟨w.heap.size, 3, none⟩ = some (.slice sa M sc) := (BoxAt.cell PB.out 3).trans rfl
       clear b h z hfl FL2)
    | (have hfl := FL3.out
       refine wpList_new rfl 25 rfl _ Try.zeroBf ?_
       intro v3 b h z
       have RB := hid (show BoxAt v3 v2.heap.size 25 #[.int .i64 0, .bool false, .slice none 0 0, .slice none 0 0] from b)
       have PB := hid (PB.out.belowAll h)
       have WB := hid (WB.out.belowAll h)
       have HB := hid (HB.out.trans (h.mono HB.out.size))
       have hsv3 : v2.heap.size + 1 ≤ v3.heap.size := by first | exact h.size | omega
       clear kPB0 kPB1 kPB2 kPB3
       have kPB0 : v3.cell? ⟨w.heap.size, 0, none⟩ = some (.int .i64 d) := (BoxAt.cell PB.out 0).trans rfl
       have kPB1 : v3.cell? ⟨w.heap.size, 1, none⟩ = some (.bool k) := (BoxAt.cell PB.out 1).trans rfl
       have kPB2 : v3.cell? ⟨w.heap.size, 2, none⟩ = some (.slice xa N xc) := (BoxAt.cell PB.out 2).trans rfl
       have kPB3 : v3.cell? ⟨w.heap.size, 3, none⟩ = some (.slice sa M sc) := (BoxAt.cell PB.out 3).trans rfl
       have kWB0 : v3.cell? ⟨v1.heap.size, 0, none⟩ = some (.int .i64 p) := (BoxAt.cell WB.out 0).trans rfl
       have kWB1 : v3.cell? ⟨v1.heap.size, 1, none⟩ = some (.int .i64 r) := (BoxAt.cell WB.out 1).trans rfl
       have kWB2 : v3.cell? ⟨v1.heap.size, 2, none⟩ = some (.int .i64 v) := (BoxAt.cell WB.out 2).trans rfl
       clear b h z hfl FL3
       refine Hid.out ?_)
    | fail)
  refine hid ?_
  clear kPB0 kPB1 kPB2 kPB3 kWB0 kWB1 kWB2
  have kPB0 : v3.cell? ⟨w.heap.size, 0, none⟩ = some (.int .i64 d) := (BoxAt.cell PB.out 0).trans rfl
  have kPB1 : v3.cell? ⟨w.heap.size, 1, none⟩ = some (.bool k) := (BoxAt.cell PB.out 1).trans rfl
  have kPB2 : v3.cell? ⟨w.heap.size, 2, none⟩ = some (.slice xa N xc) := (BoxAt.cell PB.out 2).trans rfl
  have kPB3 : v3.cell? ⟨w.heap.size, 3, none⟩ = some (.slice sa M sc) := (BoxAt.cell PB.out 3).trans rfl
  have kWB0 : v3.cell? ⟨v1.heap.size, 0, none⟩ = some (.int .i64 p) := (BoxAt.cell WB.out 0).trans rfl
  have kWB1 : v3.cell? ⟨v1.heap.size, 1, none⟩ = some (.int .i64 r) := (BoxAt.cell WB.out 1).trans rfl
  have kWB2 : v3.cell? ⟨v1.heap.size, 2, none⟩ = some (.int .i64 v) := (BoxAt.cell WB.out 2).trans rfl
  go_wp2_with fail
  have HBsx := HB.out.size
  refine (qclone_int (HX.out.below HB.out) (by have := HXL.out; omega)).mono ?_
  rintro e v4 ⟨ux, rfl, hu, hb⟩
  have PB := hid (PB.out.belowAll hb)
  have WB := hid (WB.out.belowAll hb)
  have RB := hid (RB.out.belowAll hb)
  have HB := hid (HB.out.trans (hb.mono HB.out.size))
  have hsv4 : v3.heap.size ≤ v4.heap.size := by first | exact hb.size | omega
  obtain ⟨x, rfl, -⟩ := hu.sl
  have HC := hid (hu.mono HBsx)
  clear hu HBsx
  clear kPB0 kPB1 kPB2 kPB3 kWB0 kWB1 kWB2
  have kPB0 : v4.cell? ⟨w.heap.size, 0, none⟩ = some (.int .i64 d) := (BoxAt.cell PB.out 0).trans rfl
  have kPB1 : v4.cell? ⟨w.heap.size, 1, none⟩ = some (.bool k) := (BoxAt.cell PB.out 1).trans rfl
  have kPB2 : v4.cell? ⟨w.heap.size, 2, none⟩ = some (.slice xa N xc) := (BoxAt.cell PB.out 2).trans rfl
  have kPB3 : v4.cell? ⟨w.heap.size, 3, none⟩ = some (.slice sa M sc) := (BoxAt.cell PB.out 3).trans rfl
  have kWB0 : v4.cell? ⟨v1.heap.size, 0, none⟩ = some (.int .i64 p) := (BoxAt.cell WB.out 0).trans rfl
  have kWB1 : v4.cell? ⟨v1.heap.size, 1, none⟩ = some (.int .i64 r) := (BoxAt.cell WB.out 1).trans rfl
  have kWB2 : v4.cell? ⟨v1.heap.size, 2, none⟩ = some (.int .i64 v) := (BoxAt.cell WB.out 2).trans rfl
  clear hb
  have FL4 := hid trivial
  go_wp2_with (first
    | (have hfl := FL4.out
       refine wpList_store_box rfl 22 _ _ rfl rfl (w.heap.size) 2 (.slice x.a x.n x.c) rfl rfl rfl rfl (by kernel_rfl) _ _ PB.out (by simp) ?_
       intro v5 b g z
       have hsv5 : v4.heap.size ≤ v5.heap.size := by omega
       have HC := hid (HC.out.put g PB.out (by decide))
       have PB := hid (show BoxAt v5 (w.heap.size) 25 #[.int .i64 d, .bool k, .slice x.a x.n x.c, .slice sa M sc] from by simpa using b)
       have WB := hid (WB.out.grown g (fun e => by have := Option.some.inj e; omega))
       have RB := hid (RB.out.grown g (fun e => by have := Option.some.inj e; omega))
       have HB := hid (HB.out.trans (grown_below g (by omega) (by omega)))
       clear kPB0 kPB1 kPB2 kPB3 kWB0 kWB1 kWB2
       have kPB0 : v5.cell? ⟨w.heap.size, 0, none⟩ = some (.int .i64 d) := (BoxAt.cell PB.out 0).trans rfl
       have kPB1 : v5.cell? ⟨w.heap.size, 1, none⟩ = some (.bool k) := (BoxAt.cell PB.out 1).trans rfl
       have kPB2 : v5.cell? ⟨w.heap.size, 2, none⟩ = some (.slice x.a x.n x.c) := (BoxAt.cell PB.out 2).trans rfl
       have kPB3 : v5.cell? ⟨w.heap.size, 3, none⟩ = some (.slice sa M sc) := (BoxAt.cell PB.out 3).trans rfl
       have kWB0 : v5.cell? ⟨v1.heap.size, 0, none⟩ = some (.int .i64 p) := (BoxAt.cell WB.out 0).trans rfl
       have kWB1 : v5.cell? ⟨v1.heap.size, 1, none⟩ = some (.int .i64 r) := (BoxAt.cell WB.out 1).trans rfl
       have kWB2 : v5.cell? ⟨v1.heap.size, 2, none⟩ = some (.int .i64 v) := (BoxAt.cell WB.out 2).trans rfl
       clear b g z hfl FL4
       refine Hid.out ?_)
    | fail)
  refine hid ?_
  clear kPB0 kPB1 kPB2 kPB3 kWB0 kWB1 kWB2
  have kPB0 : v5.cell? ⟨w.heap.size, 0, none⟩ = some (.int .i64 d) := (BoxAt.cell PB.out 0).trans rfl
  have kPB1 : v5.cell? ⟨w.heap.size, 1, none⟩ = some (.bool k) := (BoxAt.cell PB.out 1).trans rfl
  have kPB2 : v5.cell? ⟨w.heap.size, 2, none⟩ = some (.slice x.a x.n x.c) := (BoxAt.cell PB.out 2).trans rfl
  have kPB3 : v5.cell? ⟨w.heap.size, 3, none⟩ = some (.slice sa M sc) := (BoxAt.cell PB.out 3).trans rfl
  have kWB0 : v5.cell? ⟨v1.heap.size, 0, none⟩ = some (.int .i64 p) := (BoxAt.cell WB.out 0).trans rfl
  have kWB1 : v5.cell? ⟨v1.heap.size, 1, none⟩ = some (.int .i64 r) := (BoxAt.cell WB.out 1).trans rfl
  have kWB2 : v5.cell? ⟨v1.heap.size, 2, none⟩ = some (.int .i64 v) := (BoxAt.cell WB.out 2).trans rfl
  go_wp2_with fail
  go_wp2_with (first
    | (refine wpList_load_box rfl 27 _ rfl (v1.heap.size) rfl _ _ WB.out _ Try.underlying27 Try.infoWt ?_)
    | fail)
  have HBsu := HB.out.size
  refine (add_any ⟨p, r, v⟩ k (HV.out.below HB.out) (by have := HL.out; omega)).mono ?_
  rintro e v6 ⟨uu, rfl, hu, hb⟩
  have PB := hid (PB.out.belowAll hb)
  have WB := hid (WB.out.belowAll hb)
  have RB := hid (RB.out.belowAll hb)
  have HC := hid (HC.out.below hb)
  have HB := hid (HB.out.trans (hb.mono HB.out.size))
  have hsv6 : v5.heap.size ≤ v6.heap.size := by first | exact hb.size | omega
  obtain ⟨u, rfl, -⟩ := hu.sl
  have HU := hid (hu.mono HBsu)
  clear hu HBsu
  clear kPB0 kPB1 kPB2 kPB3 kWB0 kWB1 kWB2
  have kPB0 : v6.cell? ⟨w.heap.size, 0, none⟩ = some (.int .i64 d) := (BoxAt.cell PB.out 0).trans rfl
  have kPB1 : v6.cell? ⟨w.heap.size, 1, none⟩ = some (.bool k) := (BoxAt.cell PB.out 1).trans rfl
  have kPB2 : v6.cell? ⟨w.heap.size, 2, none⟩ = some (.slice x.a x.n x.c) := (BoxAt.cell PB.out 2).trans rfl
  have kPB3 : v6.cell? ⟨w.heap.size, 3, none⟩ = some (.slice sa M sc) := (BoxAt.cell PB.out 3).trans rfl
  clear hb
  have FL5 := hid trivial
  have FL6 := hid trivial
  go_wp2_with (first
    | (have hfl := FL5.out
       refine wpList_store_box rfl 23 _ _ rfl rfl (w.heap.size) 3 (.slice u.a u.n u.c) rfl rfl rfl rfl (by kernel_rfl) _ _ PB.out (by simp) ?_
       intro v7 b g z
       have hsv7 : v6.heap.size ≤ v7.heap.size := by omega
       have HC := hid (HC.out.put g PB.out (by decide))
       have HU := hid (HU.out.put g PB.out (by decide))
       have PB := hid (show BoxAt v7 (w.heap.size) 25 #[.int .i64 d, .bool k, .slice x.a x.n x.c, .slice u.a u.n u.c] from by simpa using b)
       have WB := hid (WB.out.grown g (fun e => by have := Option.some.inj e; omega))
       have RB := hid (RB.out.grown g (fun e => by have := Option.some.inj e; omega))
       have HB := hid (HB.out.trans (grown_below g (by omega) (by omega)))
       clear kPB0 kPB1 kPB2 kPB3
       have kPB0 : v7.cell? ⟨w.heap.size, 0, none⟩ = some (.int .i64 d) := (BoxAt.cell PB.out 0).trans rfl
       have kPB1 : v7.cell? ⟨w.heap.size, 1, none⟩ = some (.bool k) := (BoxAt.cell PB.out 1).trans rfl
       have kPB2 : v7.cell? ⟨w.heap.size, 2, none⟩ = some (.slice x.a x.n x.c) := (BoxAt.cell PB.out 2).trans rfl
       have kPB3 : v7.cell? ⟨w.heap.size, 3, none⟩ = some (.slice u.a u.n u.c) := (BoxAt.cell PB.out 3).trans rfl
       clear b g z hfl FL5)
    | (refine wpList_load_box rfl 25 _ rfl (w.heap.size) rfl _ _ PB.out _ Try.underlying25 Try.infoBf ?_)
    | (have hfl := FL6.out
       refine wpList_store_whole rfl 25 _ _ rfl rfl (v2.heap.size) rfl [.int .i64 d, .bool k, .slice x.a x.n x.c, .slice u.a u.n u.c] rfl _ _ RB.out rfl Try.infoBf (by simp [Value.oneCell']) ?_
       intro v8 b g z
       have hsv8 : v7.heap.size ≤ v8.heap.size := by omega
       have HC := hid (HC.out.put g RB.out (by decide))
       have HU := hid (HU.out.put g RB.out (by decide))
       have RB := hid (show BoxAt v8 (v2.heap.size) 25 #[.int .i64 d, .bool k, .slice x.a x.n x.c, .slice u.a u.n u.c] from b)
       have PB := hid (PB.out.grown g (fun e => by have := Option.some.inj e; omega))
       have WB := hid (WB.out.grown g (fun e => by have := Option.some.inj e; omega))
       have HB := hid (HB.out.trans (grown_below g (by omega) (by omega)))
       clear kPB0 kPB1 kPB2 kPB3
       have kPB0 : v8.cell? ⟨w.heap.size, 0, none⟩ = some (.int .i64 d) := (BoxAt.cell PB.out 0).trans rfl
       have kPB1 : v8.cell? ⟨w.heap.size, 1, none⟩ = some (.bool k) := (BoxAt.cell PB.out 1).trans rfl
       have kPB2 : v8.cell? ⟨w.heap.size, 2, none⟩ = some (.slice x.a x.n x.c) := (BoxAt.cell PB.out 2).trans rfl
       have kPB3 : v8.cell? ⟨w.heap.size, 3, none⟩ = some (.slice u.a u.n u.c) := (BoxAt.cell PB.out 3).trans rfl
       clear b g z hfl FL6)
    | fail)
  refine bodyPost_ret (results_box_tmp rfl _ _ (v2.heap.size) 25 _ (0, 0) _ rfl RB.out Try.underlying25 rfl Try.infoBf) rfl ?_
  exact ⟨x, u, rfl, HC.out, HU.out, HB.out⟩

def waitC (may : Bool) : Int := if may then 6 else 2
def waitL (l : List Wt) (y : Wt) (k may : Bool) : List Wt := if may then addP l y k else l

theorem bwait_any (d : Int) (k : Bool) {vs s : Sl} {xs : List Int} {l : List Wt} (p r v : Int) (may : Bool) {w : World} (hv : Sees w .i64 vs.val xs) (hs : SeesWt w s.val l) (hx : xs.length ≤ 800000) (hl : l.length ≤ 800000) :
    Calls Try.prog 19 #[BfV.val ⟨d, k, vs, s⟩, .agg #[.int .i64 p, .int .i64 r, .int .i64 v], .bool may] w fun e w' => ∃ (x u : Sl), e = .returned (.tuple #[BfV.val ⟨d, k, x, u⟩, .int .i64 (waitC may)]) ∧ OI w' w.heap.size x.val (xs) ∧ OWt w' w.heap.size u.val (waitL l ⟨p, r, v⟩ k may) ∧ Below w.heap.size w w' := by
  cases may
  · exact bwait_no d k p r v hv hs hx hl
  · exact bwait_yes d k p r v hv hs hx hl


set_option maxRecDepth 100000 in
set_option maxHeartbeats 1600000 in
theorem send_wake (d : Int) (k : Bool) {vs s : Sl} {xs : List Int} {l : List Wt} (p r v : Int) (fp fr fv : Int) (may : Bool) {w : World} (hv : Sees w .i64 vs.val xs) (hs : SeesWt w s.val l) (hx : xs.length ≤ 800000) (hl : l.length ≤ 800000) (h0 : xs.length = 0) (h1 : 0 < l.length) (hf : l.getD 0 Wt.zero = ⟨fp, fr, fv⟩) :
    Calls Try.prog 9 #[BfV.val ⟨d, k, vs, s⟩, .agg #[.int .i64 p, .int .i64 r, .int .i64 v], .bool may] w fun e w' => ∃ (x u q : Sl), e = .returned (.tuple #[BfV.val ⟨d, k, x, u⟩, .int .i64 (0), q.val]) ∧ OI w' w.heap.size x.val ([]) ∧ OWt w' w.heap.size u.val (l.drop 1) ∧ OWk w' w.heap.size q.val ([⟨fp, 0, v⟩]) ∧ Below w.heap.size w w' := by
  have HX := hid hv
  have HV := hid hs
  obtain ⟨a1, c1, hv1, hx1, hx2, hxc⟩ := hv.form
  obtain ⟨xa, xn, xc⟩ := vs
  simp only [Sl.val, Value.slice.injEq] at hv1
  obtain ⟨rfl, rfl, rfl⟩ := hv1
  obtain ⟨a2, c2, hs1, hc1, hc2, -⟩ := hs.form
  obtain ⟨sa, sn, sc⟩ := s
  simp only [Sl.val, Value.slice.injEq] at hs1
  obtain ⟨rfl, rfl, rfl⟩ := hs1
  unfold maxLen at hx2 hc2
  simp only [Sl.val] at HX HV
  have HXC := hid hxc
  clear hv hs hxc
  unfold BfV.val
  simp only
  obtain ⟨N, hN⟩ : ∃ N, xs.length = N := ⟨_, rfl⟩
  obtain ⟨M, hM⟩ : ∃ M, l.length = M := ⟨_, rfl⟩
  have HN := hid hN
  have HM := hid hM
  have HXL := hid hx
  have HL := hid hl
  rw [hN] at hx hx1 HX HXC ⊢
  rw [hM] at hl hc1 HV ⊢
  have H0 := hid h0
  have H1 := hid h1
  have t0 : ((N : Int) == 0) = true := by rw [← hN, h0]; rfl
  clear hN hM h0 h1
  have HB := hid (Below.refl w.heap.size w)
  go_enter Try.func9, Try.ntmps9
  have FL1 := hid trivial
  have FL2 := hid trivial
  have FL3 := hid trivial
  go_wp2_with (first
    | (have hfl := FL1.out
       refine wpList_box rfl 25 (.tmp 0) rfl #[.int .i64 d, .bool k, .slice xa N xc, .slice sa M sc] rfl ?_
       intro v1 b h z
       have PB := hid (show BoxAt v1 w.heap.size 25 #[.int .i64 d, .bool k, .slice xa N xc, .slice sa M sc] from b)
       have HB := hid (HB.out.trans (h.mono HB.out.size))
       have hsv1 : w.heap.size + 1 ≤ v1.heap.size := by first | exact h.size | omega
       clear b h z hfl FL1)
    | (have hfl := FL2.out
       refine wpList_box rfl 27 (.tmp 1) rfl #[.int .i64 p, .int .i64 r, .int .i64 v] rfl ?_
       intro v2 b h z
       have WB := hid (show BoxAt v2 v1.heap.size 27 #[.int .i64 p, .int .i64 r, .int .i64 v] from b)
       have PB := hid (PB.out.belowAll h)
       have HB := hid (HB.out.trans (h.mono HB.out.size))
       have hsv2 : v1.heap.size + 1 ≤ v2.heap.size := by first | exact h.size | omega
       have kPB0 : v2.cell? ⟨w.heap.size, 0, none⟩ = some (.int .i64 d) := (BoxAt.cell PB.out 0).trans rfl
       have kPB1 : v2.cell? ⟨w.heap.size, 1, none⟩ = some (.bool k) := (BoxAt.cell PB.out 1).trans rfl
       have kPB2 : v2.cell? ⟨w.heap.size, 2, none⟩ = some (.slice xa N xc) := (BoxAt.cell PB.out 2).trans rfl
       have kPB3 : v2.cell? ⟨w.heap.size, 3, none⟩ = some (.slice sa M sc) := (BoxAt.cell PB.out 3).trans rfl
       clear b h z hfl FL2)
    | (have hfl := FL3.out
       refine wpList_new rfl 25 rfl _ Try.zeroBf ?_
       intro v3 b h z
       have RB := hid (show BoxAt v3 v2.heap.size 25 #[.int .i64 0, .bool false, .slice none 0 0, .slice none 0 0] from b)
       have PB := hid (PB.out.belowAll h)
       have WB := hid (WB.out.belowAll h)
       have HB := hid (HB.out.trans (h.mono HB.out.size))
       have hsv3 : v2.heap.size + 1 ≤ v3.heap.size := by first | exact h.size | omega
       clear kPB0 kPB1 kPB2 kPB3
       have kPB0 : v3.cell? ⟨w.heap.size, 0, none⟩ = some (.int .i64 d) := (BoxAt.cell PB.out 0).trans rfl
       have kPB1 : v3.cell? ⟨w.heap.size, 1, none⟩ = some (.bool k) := (BoxAt.cell PB.out 1).trans rfl
       have kPB2 : v3.cell? ⟨w.heap.size, 2, none⟩ = some (.slice xa N xc) := (BoxAt.cell PB.out 2).trans rfl
       have kPB3 : v3.cell? ⟨w.heap.size, 3, none⟩ = some (.slice sa M sc) := (BoxAt.cell PB.out 3).trans rfl
       have kWB0 : v3.cell? ⟨v1.heap.size, 0, none⟩ = some (.int .i64 p) := (BoxAt.cell WB.out 0).trans rfl
       have kWB1 : v3.cell? ⟨v1.heap.size, 1, none⟩ = some (.int .i64 r) := (BoxAt.cell WB.out 1).trans rfl
       have kWB2 : v3.cell? ⟨v1.heap.size, 2, none⟩ = some (.int .i64 v) := (BoxAt.cell WB.out 2).trans rfl
       clear b h z hfl FL3
       refine Hid.out ?_)
    | fail)
  refine hid ?_
  clear kPB0 kPB1 kPB2 kPB3 kWB0 kWB1 kWB2
  have kPB0 : v3.cell? ⟨w.heap.size, 0, none⟩ = some (.int .i64 d) := (BoxAt.cell PB.out 0).trans rfl
  have kPB1 : v3.cell? ⟨w.heap.size, 1, none⟩ = some (.bool k) := (BoxAt.cell PB.out 1).trans rfl
  have kPB2 : v3.cell? ⟨w.heap.size, 2, none⟩ = some (.slice xa N xc) := (BoxAt.cell PB.out 2).trans rfl
  have kPB3 : v3.cell? ⟨w.heap.size, 3, none⟩ = some (.slice sa M sc) := (BoxAt.cell PB.out 3).trans rfl
  have kWB0 : v3.cell? ⟨v1.heap.size, 0, none⟩ = some (.int .i64 p) := (BoxAt.cell WB.out 0).trans rfl
  have kWB1 : v3.cell? ⟨v1.heap.size, 1, none⟩ = some (.int .i64 r) := (BoxAt.cell WB.out 1).trans rfl
  have kWB2 : v3.cell? ⟨v1.heap.size, 2, none⟩ = some (.int .i64 v) := (BoxAt.cell WB.out 2).trans rfl
  go_wp2_with fail
  have HBf := HB.out.size
  refine (first_yes (HV.out.below HB.out) HL.out H1.out fp fr fv hf).mono ?_
  rintro e v4 ⟨f, rfl, hu, hb⟩
  have PB := hid (PB.out.belowAll hb)
  have WB := hid (WB.out.belowAll hb)
  have RB := hid (RB.out.belowAll hb)
  have HB := hid (HB.out.trans (hb.mono HB.out.size))
  have hsv4 : v3.heap.size ≤ v4.heap.size := by first | exact hb.size | omega
  have HF := hid (hu.mono HBf)
  clear hu HBf
  clear kPB0 kPB1 kPB2 kPB3 kWB0 kWB1 kWB2
  have kPB0 : v4.cell? ⟨w.heap.size, 0, none⟩ = some (.int .i64 d) := (BoxAt.cell PB.out 0).trans rfl
  have kPB1 : v4.cell? ⟨w.heap.size, 1, none⟩ = some (.bool k) := (BoxAt.cell PB.out 1).trans rfl
  have kPB2 : v4.cell? ⟨w.heap.size, 2, none⟩ = some (.slice xa N xc) := (BoxAt.cell PB.out 2).trans rfl
  have kPB3 : v4.cell? ⟨w.heap.size, 3, none⟩ = some (.slice sa M sc) := (BoxAt.cell PB.out 3).trans rfl
  have kWB0 : v4.cell? ⟨v1.heap.size, 0, none⟩ = some (.int .i64 p) := (BoxAt.cell WB.out 0).trans rfl
  have kWB1 : v4.cell? ⟨v1.heap.size, 1, none⟩ = some (.int .i64 r) := (BoxAt.cell WB.out 1).trans rfl
  have kWB2 : v4.cell? ⟨v1.heap.size, 2, none⟩ = some (.int .i64 v) := (BoxAt.cell WB.out 2).trans rfl
  clear hb
  have HFB := hid (fun k hk => (HF.out.lt k hk).2)
  have FL4 := hid trivial
  have FL5 := hid trivial
  go_wp2_with (first
    | (have hfl := FL4.out
       refine wpList_new rfl 27 rfl _ Try.zeroWt ?_
       intro v5 b h z
       have FB := hid (show BoxAt v5 v4.heap.size 27 #[.int .i64 0, .int .i64 0, .int .i64 0] from b)
       have PB := hid (PB.out.belowAll h)
       have WB := hid (WB.out.belowAll h)
       have RB := hid (RB.out.belowAll h)
       have HF := hid (HF.out.below h)
       have HB := hid (HB.out.trans (h.mono HB.out.size))
       have hsv5 : v4.heap.size + 1 ≤ v5.heap.size := by first | exact h.size | omega
       clear kPB0 kPB1 kPB2 kPB3 kWB0 kWB1 kWB2
       have kPB0 : v5.cell? ⟨w.heap.size, 0, none⟩ = some (.int .i64 d) := (BoxAt.cell PB.out 0).trans rfl
       have kPB1 : v5.cell? ⟨w.heap.size, 1, none⟩ = some (.bool k) := (BoxAt.cell PB.out 1).trans rfl
       have kPB2 : v5.cell? ⟨w.heap.size, 2, none⟩ = some (.slice xa N xc) := (BoxAt.cell PB.out 2).trans rfl
       have kPB3 : v5.cell? ⟨w.heap.size, 3, none⟩ = some (.slice sa M sc) := (BoxAt.cell PB.out 3).trans rfl
       have kWB0 : v5.cell? ⟨v1.heap.size, 0, none⟩ = some (.int .i64 p) := (BoxAt.cell WB.out 0).trans rfl
       have kWB1 : v5.cell? ⟨v1.heap.size, 1, none⟩ = some (.int .i64 r) := (BoxAt.cell WB.out 1).trans rfl
       have kWB2 : v5.cell? ⟨v1.heap.size, 2, none⟩ = some (.int .i64 v) := (BoxAt.cell WB.out 2).trans rfl
       clear b h z hfl FL4)
    | (have hfl := FL5.out
       refine wpList_store_whole rfl 27 _ _ rfl rfl (v4.heap.size) rfl [.int .i64 fp, .int .i64 fr, .int .i64 fv] rfl _ _ FB.out rfl Try.infoWt (by simp [Value.oneCell']) ?_
       intro v6 b g z
       have hsv6 : v5.heap.size ≤ v6.heap.size := by omega
       have HF := hid (HF.out.apart g (fun k hk => Nat.ne_of_lt (HFB.out k hk)))
       have FB := hid (show BoxAt v6 (v4.heap.size) 27 #[.int .i64 fp, .int .i64 fr, .int .i64 fv] from b)
       have PB := hid (PB.out.grown g (fun e => by have := Option.some.inj e; omega))
       have WB := hid (WB.out.grown g (fun e => by have := Option.some.inj e; omega))
       have RB := hid (RB.out.grown g (fun e => by have := Option.some.inj e; omega))
       have HB := hid (HB.out.trans (grown_below g (by omega) (by omega)))
       clear kPB0 kPB1 kPB2 kPB3 kWB0 kWB1 kWB2
       have kPB0 : v6.cell? ⟨w.heap.size, 0, none⟩ = some (.int .i64 d) := (BoxAt.cell PB.out 0).trans rfl
       have kPB1 : v6.cell? ⟨w.heap.size, 1, none⟩ = some (.bool k) := (BoxAt.cell PB.out 1).trans rfl
       have kPB2 : v6.cell? ⟨w.heap.size, 2, none⟩ = some (.slice xa N xc) := (BoxAt.cell PB.out 2).trans rfl
       have kPB3 : v6.cell? ⟨w.heap.size, 3, none⟩ = some (.slice sa M sc) := (BoxAt.cell PB.out 3).trans rfl
       have kWB0 : v6.cell? ⟨v1.heap.size, 0, none⟩ = some (.int .i64 p) := (BoxAt.cell WB.out 0).trans rfl
       have kWB1 : v6.cell? ⟨v1.heap.size, 1, none⟩ = some (.int .i64 r) := (BoxAt.cell WB.out 1).trans rfl
       have kWB2 : v6.cell? ⟨v1.heap.size, 2, none⟩ = some (.int .i64 v) := (BoxAt.cell WB.out 2).trans rfl
       have kFB0 : v6.cell? ⟨v4.heap.size, 0, none⟩ = some (.int .i64 fp) := (BoxAt.cell FB.out 0).trans rfl
       have kFB2 : v6.cell? ⟨v4.heap.size, 2, none⟩ = some (.int .i64 fv) := (BoxAt.cell FB.out 2).trans rfl
       clear b g z hfl FL5
       refine Hid.out ?_)
    | fail)
  refine hid ?_
  clear kPB0 kPB1 kPB2 kPB3 kWB0 kWB1 kWB2 kFB0 kFB2
  have kPB0 : v6.cell? ⟨w.heap.size, 0, none⟩ = some (.int .i64 d) := (BoxAt.cell PB.out 0).trans rfl
  have kPB1 : v6.cell? ⟨w.heap.size, 1, none⟩ = some (.bool k) := (BoxAt.cell PB.out 1).trans rfl
  have kPB2 : v6.cell? ⟨w.heap.size, 2, none⟩ = some (.slice xa N xc) := (BoxAt.cell PB.out 2).trans rfl
  have kPB3 : v6.cell? ⟨w.heap.size, 3, none⟩ = some (.slice sa M sc) := (BoxAt.cell PB.out 3).trans rfl
  have kWB0 : v6.cell? ⟨v1.heap.size, 0, none⟩ = some (.int .i64 p) := (BoxAt.cell WB.out 0).trans rfl
  have kWB1 : v6.cell? ⟨v1.heap.size, 1, none⟩ = some (.int .i64 r) := (BoxAt.cell WB.out 1).trans rfl
  have kWB2 : v6.cell? ⟨v1.heap.size, 2, none⟩ = some (.int .i64 v) := (BoxAt.cell WB.out 2).trans rfl
  have kFB0 : v6.cell? ⟨v4.heap.size, 0, none⟩ = some (.int .i64 fp) := (BoxAt.cell FB.out 0).trans rfl
  have kFB2 : v6.cell? ⟨v4.heap.size, 2, none⟩ = some (.int .i64 fv) := (BoxAt.cell FB.out 2).trans rfl
  have FL6 := hid trivial
  have FL7 := hid trivial
  go_wp2_with (first
    | (have hfl := FL6.out
       refine wpList_store_box rfl 22 _ _ rfl rfl (w.heap.size) 2 (.slice none 0 0) rfl rfl rfl rfl (by kernel_rfl) _ _ PB.out (by simp) ?_
       intro v7 b g z
       have hsv7 : v6.heap.size ≤ v7.heap.size := by omega
       have HF := hid (HF.out.put g PB.out (by decide))
       have PB := hid (show BoxAt v7 (w.heap.size) 25 #[.int .i64 d, .bool k, .slice none 0 0, .slice sa M sc] from by simpa using b)
       have WB := hid (WB.out.grown g (fun e => by have := Option.some.inj e; omega))
       have RB := hid (RB.out.grown g (fun e => by have := Option.some.inj e; omega))
       have FB := hid (FB.out.grown g (fun e => by have := Option.some.inj e; omega))
       have HB := hid (HB.out.trans (grown_below g (by omega) (by omega)))
       clear kPB0 kPB1 kPB2 kPB3 kWB0 kWB1 kWB2 kFB0 kFB2
       have kPB0 : v7.cell? ⟨w.heap.size, 0, none⟩ = some (.int .i64 d) := (BoxAt.cell PB.out 0).trans rfl
       have kPB1 : v7.cell? ⟨w.heap.size, 1, none⟩ = some (.bool k) := (BoxAt.cell PB.out 1).trans rfl
       have kPB2 : v7.cell? ⟨w.heap.size, 2, none⟩ = some (.slice none 0 0) := (BoxAt.cell PB.out 2).trans rfl
       have kPB3 : v7.cell? ⟨w.heap.size, 3, none⟩ = some (.slice sa M sc) := (BoxAt.cell PB.out 3).trans rfl
       have kWB0 : v7.cell? ⟨v1.heap.size, 0, none⟩ = some (.int .i64 p) := (BoxAt.cell WB.out 0).trans rfl
       have kWB1 : v7.cell? ⟨v1.heap.size, 1, none⟩ = some (.int .i64 r) := (BoxAt.cell WB.out 1).trans rfl
       have kWB2 : v7.cell? ⟨v1.heap.size, 2, none⟩ = some (.int .i64 v) := (BoxAt.cell WB.out 2).trans rfl
       have kFB0 : v7.cell? ⟨v4.heap.size, 0, none⟩ = some (.int .i64 fp) := (BoxAt.cell FB.out 0).trans rfl
       have kFB2 : v7.cell? ⟨v4.heap.size, 2, none⟩ = some (.int .i64 fv) := (BoxAt.cell FB.out 2).trans rfl
       clear b g z hfl FL6)
    | (have hfl := FL7.out
       refine wpList_store_box rfl 23 _ _ rfl rfl (w.heap.size) 3 (.slice f.a f.n f.c) rfl rfl rfl rfl (by kernel_rfl) _ _ PB.out (by simp) ?_
       intro v8 b g z
       have hsv8 : v7.heap.size ≤ v8.heap.size := by omega
       have HF := hid (HF.out.put g PB.out (by decide))
       have PB := hid (show BoxAt v8 (w.heap.size) 25 #[.int .i64 d, .bool k, .slice none 0 0, .slice f.a f.n f.c] from by simpa using b)
       have WB := hid (WB.out.grown g (fun e => by have := Option.some.inj e; omega))
       have RB := hid (RB.out.grown g (fun e => by have := Option.some.inj e; omega))
       have FB := hid (FB.out.grown g (fun e => by have := Option.some.inj e; omega))
       have HB := hid (HB.out.trans (grown_below g (by omega) (by omega)))
       clear kPB0 kPB1 kPB2 kPB3 kWB0 kWB1 kWB2 kFB0 kFB2
       have kPB0 : v8.cell? ⟨w.heap.size, 0, none⟩ = some (.int .i64 d) := (BoxAt.cell PB.out 0).trans rfl
       have kPB1 : v8.cell? ⟨w.heap.size, 1, none⟩ = some (.bool k) := (BoxAt.cell PB.out 1).trans rfl
       have kPB2 : v8.cell? ⟨w.heap.size, 2, none⟩ = some (.slice none 0 0) := (BoxAt.cell PB.out 2).trans rfl
       have kPB3 : v8.cell? ⟨w.heap.size, 3, none⟩ = some (.slice f.a f.n f.c) := (BoxAt.cell PB.out 3).trans rfl
       have kWB0 : v8.cell? ⟨v1.heap.size, 0, none⟩ = some (.int .i64 p) := (BoxAt.cell WB.out 0).trans rfl
       have kWB1 : v8.cell? ⟨v1.heap.size, 1, none⟩ = some (.int .i64 r) := (BoxAt.cell WB.out 1).trans rfl
       have kWB2 : v8.cell? ⟨v1.heap.size, 2, none⟩ = some (.int .i64 v) := (BoxAt.cell WB.out 2).trans rfl
       have kFB0 : v8.cell? ⟨v4.heap.size, 0, none⟩ = some (.int .i64 fp) := (BoxAt.cell FB.out 0).trans rfl
       have kFB2 : v8.cell? ⟨v4.heap.size, 2, none⟩ = some (.int .i64 fv) := (BoxAt.cell FB.out 2).trans rfl
       clear b g z hfl FL7
       refine Hid.out ?_)
    | fail)
  refine hid ?_
  go_wp2_with fail
  clear kPB0 kPB1 kPB2 kPB3 kWB0 kWB1 kWB2 kFB0 kFB2
  have PB := hid (BoxAt.drew PB.out)
  have WB := hid (BoxAt.drew WB.out)
  have RB := hid (BoxAt.drew RB.out)
  have FB := hid (BoxAt.drew FB.out)
  have HF := hid (HF.out.below ((Below.refl v8.heap.size v8).drew))
  have HB := hid HB.out.drew
  have hsv9 : v8.heap.size ≤ v8.drew.heap.size := Nat.le_refl _
  refine wp_region_held_drew (S := (fun w' : World => BoxAt w' (w.heap.size) 25 #[.int .i64 d, .bool k, .slice none 0 0, .slice f.a f.n f.c] ∧ BoxAt w' (v4.heap.size) 27 #[.int .i64 fp, .int .i64 fr, .int .i64 fv] ∧ BoxAt w' (v1.heap.size) 27 #[.int .i64 p, .int .i64 r, .int .i64 v])) (by kernel_rfl) (⟨PB.out, FB.out, WB.out⟩) (fun hHeld => ?_)
  generalize v8.drew = v9 at *
  refine wpAnyH_take (i := 0) (oi := { dst := some 31, op := Op.load 25 (Operand.tmp 3), type := 25, pos := "buffer.go:17", after := _, guard := none }) (v := ?_) rfl (by kernel_rfl) (by kernel_rfl) (by kernel_rfl) (fun _ _ _ h => h) (Or.inl ⟨by rfl, ?_⟩) (by assumption) ?_
  rotate_left
  · (intro W hSw; (try dsimp only at hSw); obtain ⟨x0, x1, x2⟩ := hSw; have c0_0 : W.cell? ⟨w.heap.size, 0, none⟩ = some (.int .i64 d) := (BoxAt.cell x0 0).trans rfl; have c0_1 : W.cell? ⟨w.heap.size, 1, none⟩ = some (.bool k) := (BoxAt.cell x0 1).trans rfl; have c0_2 : W.cell? ⟨w.heap.size, 2, none⟩ = some (.slice none 0 0) := (BoxAt.cell x0 2).trans rfl; have c0_3 : W.cell? ⟨w.heap.size, 3, none⟩ = some (.slice f.a f.n f.c) := (BoxAt.cell x0 3).trans rfl; have c1_0 : W.cell? ⟨v4.heap.size, 0, none⟩ = some (.int .i64 fp) := (BoxAt.cell x1 0).trans rfl; have c1_1 : W.cell? ⟨v4.heap.size, 1, none⟩ = some (.int .i64 fr) := (BoxAt.cell x1 1).trans rfl; have c1_2 : W.cell? ⟨v4.heap.size, 2, none⟩ = some (.int .i64 fv) := (BoxAt.cell x1 2).trans rfl; have c2_0 : W.cell? ⟨v1.heap.size, 0, none⟩ = some (.int .i64 p) := (BoxAt.cell x2 0).trans rfl; have c2_1 : W.cell? ⟨v1.heap.size, 1, none⟩ = some (.int .i64 r) := (BoxAt.cell x2 1).trans rfl; have c2_2 : W.cell? ⟨v1.heap.size, 2, none⟩ = some (.int .i64 v) := (BoxAt.cell x2 2).trans rfl; clear x0 x1 x2; go_simp; try with_reducible rfl)
  simp only [Act.put, List.setIfInBounds_toArray, List.set_cons_zero, List.set_cons_succ]
  refine wpAnyH_take (i := 1) (oi := { dst := some 32, op := Op.load 27 (Operand.tmp 9), type := 27, pos := "buffer.go:17", after := _, guard := none }) (v := ?_) rfl (by kernel_rfl) (by kernel_rfl) (by kernel_rfl) (fun _ _ _ h => h) (Or.inl ⟨by rfl, ?_⟩) (by assumption) ?_
  rotate_left
  · (intro W hSw; (try dsimp only at hSw); obtain ⟨x0, x1, x2⟩ := hSw; have c0_0 : W.cell? ⟨w.heap.size, 0, none⟩ = some (.int .i64 d) := (BoxAt.cell x0 0).trans rfl; have c0_1 : W.cell? ⟨w.heap.size, 1, none⟩ = some (.bool k) := (BoxAt.cell x0 1).trans rfl; have c0_2 : W.cell? ⟨w.heap.size, 2, none⟩ = some (.slice none 0 0) := (BoxAt.cell x0 2).trans rfl; have c0_3 : W.cell? ⟨w.heap.size, 3, none⟩ = some (.slice f.a f.n f.c) := (BoxAt.cell x0 3).trans rfl; have c1_0 : W.cell? ⟨v4.heap.size, 0, none⟩ = some (.int .i64 fp) := (BoxAt.cell x1 0).trans rfl; have c1_1 : W.cell? ⟨v4.heap.size, 1, none⟩ = some (.int .i64 fr) := (BoxAt.cell x1 1).trans rfl; have c1_2 : W.cell? ⟨v4.heap.size, 2, none⟩ = some (.int .i64 fv) := (BoxAt.cell x1 2).trans rfl; have c2_0 : W.cell? ⟨v1.heap.size, 0, none⟩ = some (.int .i64 p) := (BoxAt.cell x2 0).trans rfl; have c2_1 : W.cell? ⟨v1.heap.size, 1, none⟩ = some (.int .i64 r) := (BoxAt.cell x2 1).trans rfl; have c2_2 : W.cell? ⟨v1.heap.size, 2, none⟩ = some (.int .i64 v) := (BoxAt.cell x2 2).trans rfl; clear x0 x1 x2; go_simp; try with_reducible rfl)
  simp only [Act.put, List.setIfInBounds_toArray, List.set_cons_zero, List.set_cons_succ]
  refine wpAnyH_take (i := 2) (oi := { dst := some 33, op := Op.fieldAddr 27 (Operand.tmp 4) 2, type := 0, pos := "buffer.go:17", after := _, guard := none }) (v := ?_) rfl (by kernel_rfl) (by kernel_rfl) (by kernel_rfl) (fun _ _ _ h => h) (Or.inl ⟨by rfl, ?_⟩) (by assumption) ?_
  rotate_left
  · (intro w hSw; (try dsimp only at hSw); go_simp; try with_reducible rfl)
  simp only [Act.put, List.setIfInBounds_toArray, List.set_cons_zero, List.set_cons_succ]
  refine wpAnyH_take (i := 3) (oi := { dst := some 34, op := Op.load 3 (Operand.tmp 33), type := 3, pos := "buffer.go:17", after := _, guard := none }) (v := ?_) rfl (by kernel_rfl) (by kernel_rfl) (by kernel_rfl) (fun _ _ _ h => h) (Or.inl ⟨by rfl, ?_⟩) (by assumption) ?_
  rotate_left
  · (intro W hSw; (try dsimp only at hSw); obtain ⟨x0, x1, x2⟩ := hSw; have c0_0 : W.cell? ⟨w.heap.size, 0, none⟩ = some (.int .i64 d) := (BoxAt.cell x0 0).trans rfl; have c0_1 : W.cell? ⟨w.heap.size, 1, none⟩ = some (.bool k) := (BoxAt.cell x0 1).trans rfl; have c0_2 : W.cell? ⟨w.heap.size, 2, none⟩ = some (.slice none 0 0) := (BoxAt.cell x0 2).trans rfl; have c0_3 : W.cell? ⟨w.heap.size, 3, none⟩ = some (.slice f.a f.n f.c) := (BoxAt.cell x0 3).trans rfl; have c1_0 : W.cell? ⟨v4.heap.size, 0, none⟩ = some (.int .i64 fp) := (BoxAt.cell x1 0).trans rfl; have c1_1 : W.cell? ⟨v4.heap.size, 1, none⟩ = some (.int .i64 fr) := (BoxAt.cell x1 1).trans rfl; have c1_2 : W.cell? ⟨v4.heap.size, 2, none⟩ = some (.int .i64 fv) := (BoxAt.cell x1 2).trans rfl; have c2_0 : W.cell? ⟨v1.heap.size, 0, none⟩ = some (.int .i64 p) := (BoxAt.cell x2 0).trans rfl; have c2_1 : W.cell? ⟨v1.heap.size, 1, none⟩ = some (.int .i64 r) := (BoxAt.cell x2 1).trans rfl; have c2_2 : W.cell? ⟨v1.heap.size, 2, none⟩ = some (.int .i64 v) := (BoxAt.cell x2 2).trans rfl; clear x0 x1 x2; go_simp; try with_reducible rfl)
  simp only [Act.put, List.setIfInBounds_toArray, List.set_cons_zero, List.set_cons_succ]
  refine wpAnyH_ready (rs := [4]) (by kernel_rfl) (by simp) (AllReadyH.cons (o := { dst := some 35, op := Op.call { callee := Callee.value (Operand.func 16), args := #[Operand.tmp 32, Operand.tmp 34], argTypes := #[27, 3] }, type := 29, pos := "buffer.go:17", after := _, guard := none }) rfl (fun K1005 hK1005 => ?_) AllReadyH.nil)
  have HBg := HB.out.size
  go_simp
  refine (goes_any fp fr fv v).mono ?_
  rintro e v10 ⟨q, rfl, hu, hb⟩
  have PB := hid (PB.out.belowAll hb)
  have WB := hid (WB.out.belowAll hb)
  have RB := hid (RB.out.belowAll hb)
  have FB := hid (FB.out.belowAll hb)
  have HF := hid (HF.out.below hb)
  have HB := hid (HB.out.trans (hb.mono HB.out.size))
  have hsv10 : v9.heap.size ≤ v10.heap.size := by first | exact hb.size | omega
  have HQ := hid (hu.mono HBg)
  clear hu HBg
  clear hb
  refine hK1005.out _ _ (⟨PB.out, FB.out, WB.out⟩) (fun hHeld1005 => ?_)
  clear hK1005 K1005
  try simp only [Act.put, List.setIfInBounds_toArray, List.set_cons_zero, List.set_cons_succ]
  refine wpAnyH_ready (rs := [5]) (by kernel_rfl) (by simp) (AllReadyH.cons (o := { dst := none, op := Op.store 25 (Operand.tmp 6) (Operand.tmp 31), type := 0, pos := "buffer.go:17", after := _, guard := none }) rfl (fun K1006 hK1006 => ?_) AllReadyH.nil)
  refine step_store_whole rfl 25 _ _ rfl (v2.heap.size) rfl [.int .i64 d, .bool k, .slice none 0 0, .slice f.a f.n f.c] rfl _ _ RB.out rfl Try.infoBf (by simp [Value.oneCell']) ?_
  intro v11 b g z
  have hsv11 : v10.heap.size ≤ v11.heap.size := by omega
  have HF := hid (HF.out.put g RB.out (by decide))
  have HQ := hid (HQ.out.put g RB.out (by decide))
  have RB := hid (show BoxAt v11 (v2.heap.size) 25 #[.int .i64 d, .bool k, .slice none 0 0, .slice f.a f.n f.c] from b)
  have PB := hid (PB.out.grown g (fun e => by have := Option.some.inj e; omega))
  have WB := hid (WB.out.grown g (fun e => by have := Option.some.inj e; omega))
  have FB := hid (FB.out.grown g (fun e => by have := Option.some.inj e; omega))
  have HB := hid (HB.out.trans (grown_below g (by omega) (by omega)))
  clear b g z
  refine hK1006.out _ _ (⟨PB.out, FB.out, WB.out⟩) (fun hHeld1006 => ?_)
  clear hK1006 K1006
  try simp only [Act.put]
  refine wpAnyH_take (i := 6) (oi := { dst := some 7, op := Op.assign (Operand.const (Value.int IntKind.i64 0)), type := 3, pos := "buffer.go:17", after := _, guard := none }) (v := ?_) rfl (by kernel_rfl) (by kernel_rfl) (by kernel_rfl) (fun _ _ _ h => h) (Or.inl ⟨by rfl, ?_⟩) (by assumption) ?_
  rotate_left
  · (intro w hSw; (try dsimp only at hSw); go_simp; try with_reducible rfl)
  simp only [Act.put, List.setIfInBounds_toArray, List.set_cons_zero, List.set_cons_succ]
  refine wpAnyH_take (i := 7) (oi := { dst := some 8, op := Op.assign (Operand.tmp 35), type := 29, pos := "buffer.go:17", after := _, guard := none }) (v := ?_) rfl (by kernel_rfl) (by kernel_rfl) (by kernel_rfl) (fun _ _ _ h => h) (Or.inl ⟨by rfl, ?_⟩) (by assumption) ?_
  rotate_left
  · (intro w hSw; (try dsimp only at hSw); go_simp; try with_reducible rfl)
  simp only [Act.put, List.setIfInBounds_toArray, List.set_cons_zero, List.set_cons_succ]
  refine wpAnyH_done (by kernel_rfl) ?_ _
  clear hHeld hHeld1005 hHeld1006
  have kPB0 : v11.cell? ⟨w.heap.size, 0, none⟩ = some (.int .i64 d) := (BoxAt.cell PB.out 0).trans rfl
  have kPB1 : v11.cell? ⟨w.heap.size, 1, none⟩ = some (.bool k) := (BoxAt.cell PB.out 1).trans rfl
  have kPB2 : v11.cell? ⟨w.heap.size, 2, none⟩ = some (.slice none 0 0) := (BoxAt.cell PB.out 2).trans rfl
  have kPB3 : v11.cell? ⟨w.heap.size, 3, none⟩ = some (.slice f.a f.n f.c) := (BoxAt.cell PB.out 3).trans rfl
  have kWB0 : v11.cell? ⟨v1.heap.size, 0, none⟩ = some (.int .i64 p) := (BoxAt.cell WB.out 0).trans rfl
  have kWB1 : v11.cell? ⟨v1.heap.size, 1, none⟩ = some (.int .i64 r) := (BoxAt.cell WB.out 1).trans rfl
  have kWB2 : v11.cell? ⟨v1.heap.size, 2, none⟩ = some (.int .i64 v) := (BoxAt.cell WB.out 2).trans rfl
  have kFB0 : v11.cell? ⟨v4.heap.size, 0, none⟩ = some (.int .i64 fp) := (BoxAt.cell FB.out 0).trans rfl
  have kFB2 : v11.cell? ⟨v4.heap.size, 2, none⟩ = some (.int .i64 fv) := (BoxAt.cell FB.out 2).trans rfl
  go_wp2_with fail
  refine bodyPost_ret (results_box_tmp2 rfl _ _ (v2.heap.size) 25 _ (0, 0) _ rfl RB.out Try.underlying25 rfl Try.infoBf) rfl ?_
  exact ⟨⟨none, 0, 0⟩, f, q, rfl, OI.nil _ _, HF.out, HQ.out, HB.out⟩

set_option maxRecDepth 100000 in
set_option maxHeartbeats 1600000 in
theorem send_wait1 (d : Int) (k : Bool) {vs s : Sl} {xs : List Int} {l : List Wt} (p r v : Int) (fp fr fv : Int) (may : Bool) {w : World} (hv : Sees w .i64 vs.val xs) (hs : SeesWt w s.val l) (hx : xs.length ≤ 800000) (hl : l.length ≤ 800000) (h0 : 0 < xs.length) (h1 : 0 < l.length) (hf : l.getD 0 Wt.zero = ⟨fp, fr, fv⟩) (hd : ¬ (xs.length : Int) < d) :
    Calls Try.prog 9 #[BfV.val ⟨d, k, vs, s⟩, .agg #[.int .i64 p, .int .i64 r, .int .i64 v], .bool may] w fun e w' => ∃ (x u q : Sl), e = .returned (.tuple #[BfV.val ⟨d, k, x, u⟩, .int .i64 (waitC may), q.val]) ∧ OI w' w.heap.size x.val (xs) ∧ OWt w' w.heap.size u.val (waitL l ⟨p, r, v⟩ k may) ∧ OWk w' w.heap.size q.val ([]) ∧ Below w.heap.size w w' := by
  have HX := hid hv
  have HV := hid hs
  obtain ⟨a1, c1, hv1, hx1, hx2, hxc⟩ := hv.form
  obtain ⟨xa, xn, xc⟩ := vs
  simp only [Sl.val, Value.slice.injEq] at hv1
  obtain ⟨rfl, rfl, rfl⟩ := hv1
  obtain ⟨a2, c2, hs1, hc1, hc2, -⟩ := hs.form
  obtain ⟨sa, sn, sc⟩ := s
  simp only [Sl.val, Value.slice.injEq] at hs1
  obtain ⟨rfl, rfl, rfl⟩ := hs1
  unfold maxLen at hx2 hc2
  simp only [Sl.val] at HX HV
  have HXC := hid hxc
  clear hv hs hxc
  unfold BfV.val
  simp only
  obtain ⟨N, hN⟩ : ∃ N, xs.length = N := ⟨_, rfl⟩
  obtain ⟨M, hM⟩ : ∃ M, l.length = M := ⟨_, rfl⟩
  have HN := hid hN
  have HM := hid hM
  have HXL := hid hx
  have HL := hid hl
  rw [hN] at hx hx1 HX HXC ⊢
  rw [hM] at hl hc1 HV ⊢
  have H0 := hid h0
  have H1 := hid h1
  have t0 : ((N : Int) == 0) = false := beq_eq_false_iff_ne.2 (by omega)
  rw [hN] at hd
  clear hN hM h0 h1
  have HB := hid (Below.refl w.heap.size w)
  go_enter Try.func9, Try.ntmps9
  have FL1 := hid trivial
  have FL2 := hid trivial
  have FL3 := hid trivial
  go_wp2_with (first
    | (have hfl := FL1.out
       refine wpList_box rfl 25 (.tmp 0) rfl #[.int .i64 d, .bool k, .slice xa N xc, .slice sa M sc] rfl ?_
       intro v1 b h z
       have PB := hid (show BoxAt v1 w.heap.size 25 #[.int .i64 d, .bool k, .slice xa N xc, .slice sa M sc] from b)
       have HB := hid (HB.out.trans (h.mono HB.out.size))
       have hsv1 : w.heap.size + 1 ≤ v1.heap.size := by first | exact h.size | omega
       clear b h z hfl FL1)
    | (have hfl := FL2.out
       refine wpList_box rfl 27 (.tmp 1) rfl #[.int .i64 p, .int .i64 r, .int .i64 v] rfl ?_
       intro v2 b h z
       have WB := hid (show BoxAt v2 v1.heap.size 27 #[.int .i64 p, .int .i64 r, .int .i64 v] from b)
       have PB := hid (PB.out.belowAll h)
       have HB := hid (HB.out.trans (h.mono HB.out.size))
       have hsv2 : v1.heap.size + 1 ≤ v2.heap.size := by first | exact h.size | omega
       have kPB0 : v2.cell? ⟨w.heap.size, 0, none⟩ = some (.int .i64 d) := (BoxAt.cell PB.out 0).trans rfl
       have kPB1 : v2.cell? ⟨w.heap.size, 1, none⟩ = some (.bool k) := (BoxAt.cell PB.out 1).trans rfl
       have kPB2 : v2.cell? ⟨w.heap.size, 2, none⟩ = some (.slice xa N xc) := (BoxAt.cell PB.out 2).trans rfl
       have kPB3 : v2.cell? ⟨w.heap.size, 3, none⟩ = some (.slice sa M sc) := (BoxAt.cell PB.out 3).trans rfl
       clear b h z hfl FL2)
    | (have hfl := FL3.out
       refine wpList_new rfl 25 rfl _ Try.zeroBf ?_
       intro v3 b h z
       have RB := hid (show BoxAt v3 v2.heap.size 25 #[.int .i64 0, .bool false, .slice none 0 0, .slice none 0 0] from b)
       have PB := hid (PB.out.belowAll h)
       have WB := hid (WB.out.belowAll h)
       have HB := hid (HB.out.trans (h.mono HB.out.size))
       have hsv3 : v2.heap.size + 1 ≤ v3.heap.size := by first | exact h.size | omega
       clear kPB0 kPB1 kPB2 kPB3
       have kPB0 : v3.cell? ⟨w.heap.size, 0, none⟩ = some (.int .i64 d) := (BoxAt.cell PB.out 0).trans rfl
       have kPB1 : v3.cell? ⟨w.heap.size, 1, none⟩ = some (.bool k) := (BoxAt.cell PB.out 1).trans rfl
       have kPB2 : v3.cell? ⟨w.heap.size, 2, none⟩ = some (.slice xa N xc) := (BoxAt.cell PB.out 2).trans rfl
       have kPB3 : v3.cell? ⟨w.heap.size, 3, none⟩ = some (.slice sa M sc) := (BoxAt.cell PB.out 3).trans rfl
       have kWB0 : v3.cell? ⟨v1.heap.size, 0, none⟩ = some (.int .i64 p) := (BoxAt.cell WB.out 0).trans rfl
       have kWB1 : v3.cell? ⟨v1.heap.size, 1, none⟩ = some (.int .i64 r) := (BoxAt.cell WB.out 1).trans rfl
       have kWB2 : v3.cell? ⟨v1.heap.size, 2, none⟩ = some (.int .i64 v) := (BoxAt.cell WB.out 2).trans rfl
       clear b h z hfl FL3
       refine Hid.out ?_)
    | fail)
  refine hid ?_
  clear kPB0 kPB1 kPB2 kPB3 kWB0 kWB1 kWB2
  have kPB0 : v3.cell? ⟨w.heap.size, 0, none⟩ = some (.int .i64 d) := (BoxAt.cell PB.out 0).trans rfl
  have kPB1 : v3.cell? ⟨w.heap.size, 1, none⟩ = some (.bool k) := (BoxAt.cell PB.out 1).trans rfl
  have kPB2 : v3.cell? ⟨w.heap.size, 2, none⟩ = some (.slice xa N xc) := (BoxAt.cell PB.out 2).trans rfl
  have kPB3 : v3.cell? ⟨w.heap.size, 3, none⟩ = some (.slice sa M sc) := (BoxAt.cell PB.out 3).trans rfl
  have kWB0 : v3.cell? ⟨v1.heap.size, 0, none⟩ = some (.int .i64 p) := (BoxAt.cell WB.out 0).trans rfl
  have kWB1 : v3.cell? ⟨v1.heap.size, 1, none⟩ = some (.int .i64 r) := (BoxAt.cell WB.out 1).trans rfl
  have kWB2 : v3.cell? ⟨v1.heap.size, 2, none⟩ = some (.int .i64 v) := (BoxAt.cell WB.out 2).trans rfl
  go_wp2_with fail
  have HBf := HB.out.size
  refine (first_yes (HV.out.below HB.out) HL.out H1.out fp fr fv hf).mono ?_
  rintro e v4 ⟨f, rfl, hu, hb⟩
  have PB := hid (PB.out.belowAll hb)
  have WB := hid (WB.out.belowAll hb)
  have RB := hid (RB.out.belowAll hb)
  have HB := hid (HB.out.trans (hb.mono HB.out.size))
  have hsv4 : v3.heap.size ≤ v4.heap.size := by first | exact hb.size | omega
  have HF := hid (hu.mono HBf)
  clear hu HBf
  clear kPB0 kPB1 kPB2 kPB3 kWB0 kWB1 kWB2
  have kPB0 : v4.cell? ⟨w.heap.size, 0, none⟩ = some (.int .i64 d) := (BoxAt.cell PB.out 0).trans rfl
  have kPB1 : v4.cell? ⟨w.heap.size, 1, none⟩ = some (.bool k) := (BoxAt.cell PB.out 1).trans rfl
  have kPB2 : v4.cell? ⟨w.heap.size, 2, none⟩ = some (.slice xa N xc) := (BoxAt.cell PB.out 2).trans rfl
  have kPB3 : v4.cell? ⟨w.heap.size, 3, none⟩ = some (.slice sa M sc) := (BoxAt.cell PB.out 3).trans rfl
  have kWB0 : v4.cell? ⟨v1.heap.size, 0, none⟩ = some (.int .i64 p) := (BoxAt.cell WB.out 0).trans rfl
  have kWB1 : v4.cell? ⟨v1.heap.size, 1, none⟩ = some (.int .i64 r) := (BoxAt.cell WB.out 1).trans rfl
  have kWB2 : v4.cell? ⟨v1.heap.size, 2, none⟩ = some (.int .i64 v) := (BoxAt.cell WB.out 2).trans rfl
  clear hb
  have HFB := hid (fun k hk => (HF.out.lt k hk).2)
  have FL4 := hid trivial
  have FL5 := hid trivial
  go_wp2_with (first
    | (have hfl := FL4.out
       refine wpList_new rfl 27 rfl _ Try.zeroWt ?_
       intro v5 b h z
       have FB := hid (show BoxAt v5 v4.heap.size 27 #[.int .i64 0, .int .i64 0, .int .i64 0] from b)
       have PB := hid (PB.out.belowAll h)
       have WB := hid (WB.out.belowAll h)
       have RB := hid (RB.out.belowAll h)
       have HF := hid (HF.out.below h)
       have HB := hid (HB.out.trans (h.mono HB.out.size))
       have hsv5 : v4.heap.size + 1 ≤ v5.heap.size := by first | exact h.size | omega
       clear kPB0 kPB1 kPB2 kPB3 kWB0 kWB1 kWB2
       have kPB0 : v5.cell? ⟨w.heap.size, 0, none⟩ = some (.int .i64 d) := (BoxAt.cell PB.out 0).trans rfl
       have kPB1 : v5.cell? ⟨w.heap.size, 1, none⟩ = some (.bool k) := (BoxAt.cell PB.out 1).trans rfl
       have kPB2 : v5.cell? ⟨w.heap.size, 2, none⟩ = some (.slice xa N xc) := (BoxAt.cell PB.out 2).trans rfl
       have kPB3 : v5.cell? ⟨w.heap.size, 3, none⟩ = some (.slice sa M sc) := (BoxAt.cell PB.out 3).trans rfl
       have kWB0 : v5.cell? ⟨v1.heap.size, 0, none⟩ = some (.int .i64 p) := (BoxAt.cell WB.out 0).trans rfl
       have kWB1 : v5.cell? ⟨v1.heap.size, 1, none⟩ = some (.int .i64 r) := (BoxAt.cell WB.out 1).trans rfl
       have kWB2 : v5.cell? ⟨v1.heap.size, 2, none⟩ = some (.int .i64 v) := (BoxAt.cell WB.out 2).trans rfl
       clear b h z hfl FL4)
    | (have hfl := FL5.out
       refine wpList_store_whole rfl 27 _ _ rfl rfl (v4.heap.size) rfl [.int .i64 fp, .int .i64 fr, .int .i64 fv] rfl _ _ FB.out rfl Try.infoWt (by simp [Value.oneCell']) ?_
       intro v6 b g z
       have hsv6 : v5.heap.size ≤ v6.heap.size := by omega
       have HF := hid (HF.out.apart g (fun k hk => Nat.ne_of_lt (HFB.out k hk)))
       have FB := hid (show BoxAt v6 (v4.heap.size) 27 #[.int .i64 fp, .int .i64 fr, .int .i64 fv] from b)
       have PB := hid (PB.out.grown g (fun e => by have := Option.some.inj e; omega))
       have WB := hid (WB.out.grown g (fun e => by have := Option.some.inj e; omega))
       have RB := hid (RB.out.grown g (fun e => by have := Option.some.inj e; omega))
       have HB := hid (HB.out.trans (grown_below g (by omega) (by omega)))
       clear kPB0 kPB1 kPB2 kPB3 kWB0 kWB1 kWB2
       have kPB0 : v6.cell? ⟨w.heap.size, 0, none⟩ = some (.int .i64 d) := (BoxAt.cell PB.out 0).trans rfl
       have kPB1 : v6.cell? ⟨w.heap.size, 1, none⟩ = some (.bool k) := (BoxAt.cell PB.out 1).trans rfl
       have kPB2 : v6.cell? ⟨w.heap.size, 2, none⟩ = some (.slice xa N xc) := (BoxAt.cell PB.out 2).trans rfl
       have kPB3 : v6.cell? ⟨w.heap.size, 3, none⟩ = some (.slice sa M sc) := (BoxAt.cell PB.out 3).trans rfl
       have kWB0 : v6.cell? ⟨v1.heap.size, 0, none⟩ = some (.int .i64 p) := (BoxAt.cell WB.out 0).trans rfl
       have kWB1 : v6.cell? ⟨v1.heap.size, 1, none⟩ = some (.int .i64 r) := (BoxAt.cell WB.out 1).trans rfl
       have kWB2 : v6.cell? ⟨v1.heap.size, 2, none⟩ = some (.int .i64 v) := (BoxAt.cell WB.out 2).trans rfl
       have kFB0 : v6.cell? ⟨v4.heap.size, 0, none⟩ = some (.int .i64 fp) := (BoxAt.cell FB.out 0).trans rfl
       have kFB2 : v6.cell? ⟨v4.heap.size, 2, none⟩ = some (.int .i64 fv) := (BoxAt.cell FB.out 2).trans rfl
       clear b g z hfl FL5
       refine Hid.out ?_)
    | fail)
  refine hid ?_
  clear kPB0 kPB1 kPB2 kPB3 kWB0 kWB1 kWB2 kFB0 kFB2
  have kPB0 : v6.cell? ⟨w.heap.size, 0, none⟩ = some (.int .i64 d) := (BoxAt.cell PB.out 0).trans rfl
  have kPB1 : v6.cell? ⟨w.heap.size, 1, none⟩ = some (.bool k) := (BoxAt.cell PB.out 1).trans rfl
  have kPB2 : v6.cell? ⟨w.heap.size, 2, none⟩ = some (.slice xa N xc) := (BoxAt.cell PB.out 2).trans rfl
  have kPB3 : v6.cell? ⟨w.heap.size, 3, none⟩ = some (.slice sa M sc) := (BoxAt.cell PB.out 3).trans rfl
  have kWB0 : v6.cell? ⟨v1.heap.size, 0, none⟩ = some (.int .i64 p) := (BoxAt.cell WB.out 0).trans rfl
  have kWB1 : v6.cell? ⟨v1.heap.size, 1, none⟩ = some (.int .i64 r) := (BoxAt.cell WB.out 1).trans rfl
  have kWB2 : v6.cell? ⟨v1.heap.size, 2, none⟩ = some (.int .i64 v) := (BoxAt.cell WB.out 2).trans rfl
  have kFB0 : v6.cell? ⟨v4.heap.size, 0, none⟩ = some (.int .i64 fp) := (BoxAt.cell FB.out 0).trans rfl
  have kFB2 : v6.cell? ⟨v4.heap.size, 2, none⟩ = some (.int .i64 fv) := (BoxAt.cell FB.out 2).trans rfl
  go_wp2_with (first
    | (refine wpList_load_box rfl 25 _ rfl (w.heap.size) rfl _ _ PB.out _ Try.underlying25 Try.infoBf ?_)
    | (refine wpList_load_box rfl 27 _ rfl (v1.heap.size) rfl _ _ WB.out _ Try.underlying27 Try.infoWt ?_)
    | fail)
  have HBw := HB.out.size
  refine (bwait_any d k p r v may (vs := ⟨xa, N, xc⟩) (s := ⟨sa, M, sc⟩) (HX.out.below HB.out) (HV.out.below HB.out) HXL.out HL.out).mono ?_
  rintro e v7 ⟨x, u, rfl, hc, hu, hb⟩
  have PB := hid (PB.out.belowAll hb)
  have WB := hid (WB.out.belowAll hb)
  have RB := hid (RB.out.belowAll hb)
  have FB := hid (FB.out.belowAll hb)
  have HF := hid (HF.out.below hb)
  have HB := hid (HB.out.trans (hb.mono HB.out.size))
  have hsv7 : v6.heap.size ≤ v7.heap.size := by first | exact hb.size | omega
  have HC := hid (hc.mono HBw)
  have HU := hid (hu.mono HBw)
  obtain ⟨WCC, hWC⟩ : ∃ c, waitC may = c := ⟨_, rfl⟩
  have HWC := hid hWC
  rw [hWC]
  clear hc hu HBw hWC
  simp only [Sl.val] at HC HU
  clear kPB0 kPB1 kPB2 kPB3 kWB0 kWB1 kWB2 kFB0 kFB2
  have kPB0 : v7.cell? ⟨w.heap.size, 0, none⟩ = some (.int .i64 d) := (BoxAt.cell PB.out 0).trans rfl
  have kPB1 : v7.cell? ⟨w.heap.size, 1, none⟩ = some (.bool k) := (BoxAt.cell PB.out 1).trans rfl
  have kPB2 : v7.cell? ⟨w.heap.size, 2, none⟩ = some (.slice xa N xc) := (BoxAt.cell PB.out 2).trans rfl
  have kPB3 : v7.cell? ⟨w.heap.size, 3, none⟩ = some (.slice sa M sc) := (BoxAt.cell PB.out 3).trans rfl
  have kWB0 : v7.cell? ⟨v1.heap.size, 0, none⟩ = some (.int .i64 p) := (BoxAt.cell WB.out 0).trans rfl
  have kWB1 : v7.cell? ⟨v1.heap.size, 1, none⟩ = some (.int .i64 r) := (BoxAt.cell WB.out 1).trans rfl
  have kWB2 : v7.cell? ⟨v1.heap.size, 2, none⟩ = some (.int .i64 v) := (BoxAt.cell WB.out 2).trans rfl
  have kFB0 : v7.cell? ⟨v4.heap.size, 0, none⟩ = some (.int .i64 fp) := (BoxAt.cell FB.out 0).trans rfl
  have kFB2 : v7.cell? ⟨v4.heap.size, 2, none⟩ = some (.int .i64 fv) := (BoxAt.cell FB.out 2).trans rfl
  clear hb
  have FL6 := hid trivial
  have FL7 := hid trivial
  go_wp2_with (first
    | (have hfl := FL6.out
       refine wpList_store_whole rfl 25 _ _ rfl rfl (w.heap.size) rfl [.int .i64 d, .bool k, .slice x.a x.n x.c, .slice u.a u.n u.c] rfl _ _ PB.out rfl Try.infoBf (by simp [Value.oneCell']) ?_
       intro v8 b g z
       have hsv8 : v7.heap.size ≤ v8.heap.size := by omega
       have HF := hid (HF.out.put g PB.out (by decide))
       have HC := hid (HC.out.put g PB.out (by decide))
       have HU := hid (HU.out.put g PB.out (by decide))
       have PB := hid (show BoxAt v8 (w.heap.size) 25 #[.int .i64 d, .bool k, .slice x.a x.n x.c, .slice u.a u.n u.c] from b)
       have WB := hid (WB.out.grown g (fun e => by have := Option.some.inj e; omega))
       have RB := hid (RB.out.grown g (fun e => by have := Option.some.inj e; omega))
       have FB := hid (FB.out.grown g (fun e => by have := Option.some.inj e; omega))
       have HB := hid (HB.out.trans (grown_below g (by omega) (by omega)))
       clear kPB0 kPB1 kPB2 kPB3 kWB0 kWB1 kWB2 kFB0 kFB2
       have kPB0 : v8.cell? ⟨w.heap.size, 0, none⟩ = some (.int .i64 d) := (BoxAt.cell PB.out 0).trans rfl
       have kPB1 : v8.cell? ⟨w.heap.size, 1, none⟩ = some (.bool k) := (BoxAt.cell PB.out 1).trans rfl
       have kPB2 : v8.cell? ⟨w.heap.size, 2, none⟩ = some (.slice x.a x.n x.c) := (BoxAt.cell PB.out 2).trans rfl
       have kPB3 : v8.cell? ⟨w.heap.size, 3, none⟩ = some (.slice u.a u.n u.c) := (BoxAt.cell PB.out 3).trans rfl
       have kWB0 : v8.cell? ⟨v1.heap.size, 0, none⟩ = some (.int .i64 p) := (BoxAt.cell WB.out 0).trans rfl
       have kWB1 : v8.cell? ⟨v1.heap.size, 1, none⟩ = some (.int .i64 r) := (BoxAt.cell WB.out 1).trans rfl
       have kWB2 : v8.cell? ⟨v1.heap.size, 2, none⟩ = some (.int .i64 v) := (BoxAt.cell WB.out 2).trans rfl
       have kFB0 : v8.cell? ⟨v4.heap.size, 0, none⟩ = some (.int .i64 fp) := (BoxAt.cell FB.out 0).trans rfl
       have kFB2 : v8.cell? ⟨v4.heap.size, 2, none⟩ = some (.int .i64 fv) := (BoxAt.cell FB.out 2).trans rfl
       clear b g z hfl FL6)
    | (refine wpList_load_box rfl 25 _ rfl (w.heap.size) rfl _ _ PB.out _ Try.underlying25 Try.infoBf ?_)
    | (have hfl := FL7.out
       refine wpList_store_whole rfl 25 _ _ rfl rfl (v2.heap.size) rfl [.int .i64 d, .bool k, .slice x.a x.n x.c, .slice u.a u.n u.c] rfl _ _ RB.out rfl Try.infoBf (by simp [Value.oneCell']) ?_
       intro v9 b g z
       have hsv9 : v8.heap.size ≤ v9.heap.size := by omega
       have HF := hid (HF.out.put g RB.out (by decide))
       have HC := hid (HC.out.put g RB.out (by decide))
       have HU := hid (HU.out.put g RB.out (by decide))
       have RB := hid (show BoxAt v9 (v2.heap.size) 25 #[.int .i64 d, .bool k, .slice x.a x.n x.c, .slice u.a u.n u.c] from b)
       have PB := hid (PB.out.grown g (fun e => by have := Option.some.inj e; omega))
       have WB := hid (WB.out.grown g (fun e => by have := Option.some.inj e; omega))
       have FB := hid (FB.out.grown g (fun e => by have := Option.some.inj e; omega))
       have HB := hid (HB.out.trans (grown_below g (by omega) (by omega)))
       clear kPB0 kPB1 kPB2 kPB3 kWB0 kWB1 kWB2 kFB0 kFB2
       have kPB0 : v9.cell? ⟨w.heap.size, 0, none⟩ = some (.int .i64 d) := (BoxAt.cell PB.out 0).trans rfl
       have kPB1 : v9.cell? ⟨w.heap.size, 1, none⟩ = some (.bool k) := (BoxAt.cell PB.out 1).trans rfl
       have kPB2 : v9.cell? ⟨w.heap.size, 2, none⟩ = some (.slice x.a x.n x.c) := (BoxAt.cell PB.out 2).trans rfl
       have kPB3 : v9.cell? ⟨w.heap.size, 3, none⟩ = some (.slice u.a u.n u.c) := (BoxAt.cell PB.out 3).trans rfl
       have kWB0 : v9.cell? ⟨v1.heap.size, 0, none⟩ = some (.int .i64 p) := (BoxAt.cell WB.out 0).trans rfl
       have kWB1 : v9.cell? ⟨v1.heap.size, 1, none⟩ = some (.int .i64 r) := (BoxAt.cell WB.out 1).trans rfl
       have kWB2 : v9.cell? ⟨v1.heap.size, 2, none⟩ = some (.int .i64 v) := (BoxAt.cell WB.out 2).trans rfl
       have kFB0 : v9.cell? ⟨v4.heap.size, 0, none⟩ = some (.int .i64 fp) := (BoxAt.cell FB.out 0).trans rfl
       have kFB2 : v9.cell? ⟨v4.heap.size, 2, none⟩ = some (.int .i64 fv) := (BoxAt.cell FB.out 2).trans rfl
       clear b g z hfl FL7)
    | fail)
  refine bodyPost_ret (results_box_tmp2 rfl _ _ (v2.heap.size) 25 _ (0, 0) _ rfl RB.out Try.underlying25 rfl Try.infoBf) rfl ?_
  exact ⟨x, u, ⟨none, 0, 0⟩, by rw [HWC.out]; rfl, HC.out, HU.out, OWk.nil _ _, HB.out⟩

set_option maxRecDepth 100000 in
set_option maxHeartbeats 1600000 in
theorem send_wait0 (d : Int) (k : Bool) {vs s : Sl} {xs : List Int} {l : List Wt} (p r v : Int) (may : Bool) {w : World} (hv : Sees w .i64 vs.val xs) (hs : SeesWt w s.val l) (hx : xs.length ≤ 800000) (hl : l.length ≤ 800000) (h1 : l.length = 0) (hd : ¬ (xs.length : Int) < d) :
    Calls Try.prog 9 #[BfV.val ⟨d, k, vs, s⟩, .agg #[.int .i64 p, .int .i64 r, .int .i64 v], .bool may] w fun e w' => ∃ (x u q : Sl), e = .returned (.tuple #[BfV.val ⟨d, k, x, u⟩, .int .i64 (waitC may), q.val]) ∧ OI w' w.heap.size x.val (xs) ∧ OWt w' w.heap.size u.val (waitL l ⟨p, r, v⟩ k may) ∧ OWk w' w.heap.size q.val ([]) ∧ Below w.heap.size w w' := by
  have HX := hid hv
  have HV := hid hs
  obtain ⟨a1, c1, hv1, hx1, hx2, hxc⟩ := hv.form
  obtain ⟨xa, xn, xc⟩ := vs
  simp only [Sl.val, Value.slice.injEq] at hv1
  obtain ⟨rfl, rfl, rfl⟩ := hv1
  obtain ⟨a2, c2, hs1, hc1, hc2, -⟩ := hs.form
  obtain ⟨sa, sn, sc⟩ := s
  simp only [Sl.val, Value.slice.injEq] at hs1
  obtain ⟨rfl, rfl, rfl⟩ := hs1
  unfold maxLen at hx2 hc2
  simp only [Sl.val] at HX HV
  have HXC := hid hxc
  clear hv hs hxc
  unfold BfV.val
  simp only
  obtain ⟨N, hN⟩ : ∃ N, xs.length = N := ⟨_, rfl⟩
  obtain ⟨M, hM⟩ : ∃ M, l.length = M := ⟨_, rfl⟩
  have HN := hid hN
  have HM := hid hM
  have HXL := hid hx
  have HL := hid hl
  rw [hN] at hx hx1 HX HXC ⊢
  rw [hM] at hl hc1 HV ⊢
  have H1 := hid h1
  rw [hN] at hd
  clear hN hM h1
  have HB := hid (Below.refl w.heap.size w)
  go_enter Try.func9, Try.ntmps9
  have FL1 := hid trivial
  have FL2 := hid trivial
  have FL3 := hid trivial
  go_wp2_with (first
    | (have hfl := FL1.out
       refine wpList_box rfl 25 (.tmp 0) rfl #[.int .i64 d, .bool k, .slice xa N xc, .slice sa M sc] rfl ?_
       intro v1 b h z
       have PB := hid (show BoxAt v1 w.heap.size 25 #[.int .i64 d, .bool k, .slice xa N xc, .slice sa M sc] from b)
       have HB := hid (HB.out.trans (h.mono HB.out.size))
       have hsv1 : w.heap.size + 1 ≤ v1.heap.size := by first | exact h.size | omega
       clear b h z hfl FL1)
    | (have hfl := FL2.out
       refine wpList_box rfl 27 (.tmp 1) rfl #[.int .i64 p, .int .i64 r, .int .i64 v] rfl ?_
       intro v2 b h z
       have WB := hid (show BoxAt v2 v1.heap.size 27 #[.int .i64 p, .int .i64 r, .int .i64 v] from b)
       have PB := hid (PB.out.belowAll h)
       have HB := hid (HB.out.trans (h.mono HB.out.size))
       have hsv2 : v1.heap.size + 1 ≤ v2.heap.size := by first | exact h.size | omega
       have kPB0 : v2.cell? ⟨w.heap.size, 0, none⟩ = some (.int .i64 d) := (BoxAt.cell PB.out 0).trans rfl
       have kPB1 : v2.cell? ⟨w.heap.size, 1, none⟩ = some (.bool k) := (BoxAt.cell PB.out 1).trans rfl
       have kPB2 : v2.cell? ⟨w.heap.size, 2, none⟩ = some (.slice xa N xc) := (BoxAt.cell PB.out 2).trans rfl
       have kPB3 : v2.cell? ⟨w.heap.size, 3, none⟩ = some (.slice sa M sc) := (BoxAt.cell PB.out 3).trans rfl
       clear b h z hfl FL2)
    | (have hfl := FL3.out
       refine wpList_new rfl 25 rfl _ Try.zeroBf ?_
       intro v3 b h z
       have RB := hid (show BoxAt v3 v2.heap.size 25 #[.int .i64 0, .bool false, .slice none 0 0, .slice none 0 0] from b)
       have PB := hid (PB.out.belowAll h)
       have WB := hid (WB.out.belowAll h)
       have HB := hid (HB.out.trans (h.mono HB.out.size))
       have hsv3 : v2.heap.size + 1 ≤ v3.heap.size := by first | exact h.size | omega
       clear kPB0 kPB1 kPB2 kPB3
       have kPB0 : v3.cell? ⟨w.heap.size, 0, none⟩ = some (.int .i64 d) := (BoxAt.cell PB.out 0).trans rfl
       have kPB1 : v3.cell? ⟨w.heap.size, 1, none⟩ = some (.bool k) := (BoxAt.cell PB.out 1).trans rfl
       have kPB2 : v3.cell? ⟨w.heap.size, 2, none⟩ = some (.slice xa N xc) := (BoxAt.cell PB.out 2).trans rfl
       have kPB3 : v3.cell? ⟨w.heap.size, 3, none⟩ = some (.slice sa M sc) := (BoxAt.cell PB.out 3).trans rfl
       have kWB0 : v3.cell? ⟨v1.heap.size, 0, none⟩ = some (.int .i64 p) := (BoxAt.cell WB.out 0).trans rfl
       have kWB1 : v3.cell? ⟨v1.heap.size, 1, none⟩ = some (.int .i64 r) := (BoxAt.cell WB.out 1).trans rfl
       have kWB2 : v3.cell? ⟨v1.heap.size, 2, none⟩ = some (.int .i64 v) := (BoxAt.cell WB.out 2).trans rfl
       clear b h z hfl FL3
       refine Hid.out ?_)
    | fail)
  refine hid ?_
  clear kPB0 kPB1 kPB2 kPB3 kWB0 kWB1 kWB2
  have kPB0 : v3.cell? ⟨w.heap.size, 0, none⟩ = some (.int .i64 d) := (BoxAt.cell PB.out 0).trans rfl
  have kPB1 : v3.cell? ⟨w.heap.size, 1, none⟩ = some (.bool k) := (BoxAt.cell PB.out 1).trans rfl
  have kPB2 : v3.cell? ⟨w.heap.size, 2, none⟩ = some (.slice xa N xc) := (BoxAt.cell PB.out 2).trans rfl
  have kPB3 : v3.cell? ⟨w.heap.size, 3, none⟩ = some (.slice sa M sc) := (BoxAt.cell PB.out 3).trans rfl
  have kWB0 : v3.cell? ⟨v1.heap.size, 0, none⟩ = some (.int .i64 p) := (BoxAt.cell WB.out 0).trans rfl
  have kWB1 : v3.cell? ⟨v1.heap.size, 1, none⟩ = some (.int .i64 r) := (BoxAt.cell WB.out 1).trans rfl
  have kWB2 : v3.cell? ⟨v1.heap.size, 2, none⟩ = some (.int .i64 v) := (BoxAt.cell WB.out 2).trans rfl
  go_wp2_with fail
  have HBf := HB.out.size
  refine (first_no (HV.out.below HB.out) H1.out).mono ?_
  rintro e v4 ⟨f, rfl, hu, hb⟩
  have PB := hid (PB.out.belowAll hb)
  have WB := hid (WB.out.belowAll hb)
  have RB := hid (RB.out.belowAll hb)
  have HB := hid (HB.out.trans (hb.mono HB.out.size))
  have hsv4 : v3.heap.size ≤ v4.heap.size := by first | exact hb.size | omega
  have HF := hid (hu.mono HBf)
  clear hu HBf
  clear kPB0 kPB1 kPB2 kPB3 kWB0 kWB1 kWB2
  have kPB0 : v4.cell? ⟨w.heap.size, 0, none⟩ = some (.int .i64 d) := (BoxAt.cell PB.out 0).trans rfl
  have kPB1 : v4.cell? ⟨w.heap.size, 1, none⟩ = some (.bool k) := (BoxAt.cell PB.out 1).trans rfl
  have kPB2 : v4.cell? ⟨w.heap.size, 2, none⟩ = some (.slice xa N xc) := (BoxAt.cell PB.out 2).trans rfl
  have kPB3 : v4.cell? ⟨w.heap.size, 3, none⟩ = some (.slice sa M sc) := (BoxAt.cell PB.out 3).trans rfl
  have kWB0 : v4.cell? ⟨v1.heap.size, 0, none⟩ = some (.int .i64 p) := (BoxAt.cell WB.out 0).trans rfl
  have kWB1 : v4.cell? ⟨v1.heap.size, 1, none⟩ = some (.int .i64 r) := (BoxAt.cell WB.out 1).trans rfl
  have kWB2 : v4.cell? ⟨v1.heap.size, 2, none⟩ = some (.int .i64 v) := (BoxAt.cell WB.out 2).trans rfl
  clear hb
  have HFB := hid (fun k hk => (HF.out.lt k hk).2)
  have FL4 := hid trivial
  have FL5 := hid trivial
  go_wp2_with (first
    | (have hfl := FL4.out
       refine wpList_new rfl 27 rfl _ Try.zeroWt ?_
       intro v5 b h z
       have FB := hid (show BoxAt v5 v4.heap.size 27 #[.int .i64 0, .int .i64 0, .int .i64 0] from b)
       have PB := hid (PB.out.belowAll h)
       have WB := hid (WB.out.belowAll h)
       have RB := hid (RB.out.belowAll h)
       have HF := hid (HF.out.below h)
       have HB := hid (HB.out.trans (h.mono HB.out.size))
       have hsv5 : v4.heap.size + 1 ≤ v5.heap.size := by first | exact h.size | omega
       clear kPB0 kPB1 kPB2 kPB3 kWB0 kWB1 kWB2
       have kPB0 : v5.cell? ⟨w.heap.size, 0, none⟩ = some (.int .i64 d) := (BoxAt.cell PB.out 0).trans rfl
       have kPB1 : v5.cell? ⟨w.heap.size, 1, none⟩ = some (.bool k) := (BoxAt.cell PB.out 1).trans rfl
       have kPB2 : v5.cell? ⟨w.heap.size, 2, none⟩ = some (.slice xa N xc) := (BoxAt.cell PB.out 2).trans rfl
       have kPB3 : v5.cell? ⟨w.heap.size, 3, none⟩ = some (.slice sa M sc) := (BoxAt.cell PB.out 3).trans rfl
       have kWB0 : v5.cell? ⟨v1.heap.size, 0, none⟩ = some (.int .i64 p) := (BoxAt.cell WB.out 0).trans rfl
       have kWB1 : v5.cell? ⟨v1.heap.size, 1, none⟩ = some (.int .i64 r) := (BoxAt.cell WB.out 1).trans rfl
       have kWB2 : v5.cell? ⟨v1.heap.size, 2, none⟩ = some (.int .i64 v) := (BoxAt.cell WB.out 2).trans rfl
       clear b h z hfl FL4)
    | (have hfl := FL5.out
       refine wpList_store_whole rfl 27 _ _ rfl rfl (v4.heap.size) rfl [.int .i64 0, .int .i64 0, .int .i64 0] rfl _ _ FB.out rfl Try.infoWt (by simp [Value.oneCell']) ?_
       intro v6 b g z
       have hsv6 : v5.heap.size ≤ v6.heap.size := by omega
       have HF := hid (HF.out.apart g (fun k hk => Nat.ne_of_lt (HFB.out k hk)))
       have FB := hid (show BoxAt v6 (v4.heap.size) 27 #[.int .i64 0, .int .i64 0, .int .i64 0] from b)
       have PB := hid (PB.out.grown g (fun e => by have := Option.some.inj e; omega))
       have WB := hid (WB.out.grown g (fun e => by have := Option.some.inj e; omega))
       have RB := hid (RB.out.grown g (fun e => by have := Option.some.inj e; omega))
       have HB := hid (HB.out.trans (grown_below g (by omega) (by omega)))
       clear kPB0 kPB1 kPB2 kPB3 kWB0 kWB1 kWB2
       have kPB0 : v6.cell? ⟨w.heap.size, 0, none⟩ = some (.int .i64 d) := (BoxAt.cell PB.out 0).trans rfl
       have kPB1 : v6.cell? ⟨w.heap.size, 1, none⟩ = some (.bool k) := (BoxAt.cell PB.out 1).trans rfl
       have kPB2 : v6.cell? ⟨w.heap.size, 2, none⟩ = some (.slice xa N xc) := (BoxAt.cell PB.out 2).trans rfl
       have kPB3 : v6.cell? ⟨w.heap.size, 3, none⟩ = some (.slice sa M sc) := (BoxAt.cell PB.out 3).trans rfl
       have kWB0 : v6.cell? ⟨v1.heap.size, 0, none⟩ = some (.int .i64 p) := (BoxAt.cell WB.out 0).trans rfl
       have kWB1 : v6.cell? ⟨v1.heap.size, 1, none⟩ = some (.int .i64 r) := (BoxAt.cell WB.out 1).trans rfl
       have kWB2 : v6.cell? ⟨v1.heap.size, 2, none⟩ = some (.int .i64 v) := (BoxAt.cell WB.out 2).trans rfl
       have kFB0 : v6.cell? ⟨v4.heap.size, 0, none⟩ = some (.int .i64 0) := (BoxAt.cell FB.out 0).trans rfl
       have kFB2 : v6.cell? ⟨v4.heap.size, 2, none⟩ = some (.int .i64 0) := (BoxAt.cell FB.out 2).trans rfl
       clear b g z hfl FL5
       refine Hid.out ?_)
    | fail)
  refine hid ?_
  clear kPB0 kPB1 kPB2 kPB3 kWB0 kWB1 kWB2 kFB0 kFB2
  have kPB0 : v6.cell? ⟨w.heap.size, 0, none⟩ = some (.int .i64 d) := (BoxAt.cell PB.out 0).trans rfl
  have kPB1 : v6.cell? ⟨w.heap.size, 1, none⟩ = some (.bool k) := (BoxAt.cell PB.out 1).trans rfl
  have kPB2 : v6.cell? ⟨w.heap.size, 2, none⟩ = some (.slice xa N xc) := (BoxAt.cell PB.out 2).trans rfl
  have kPB3 : v6.cell? ⟨w.heap.size, 3, none⟩ = some (.slice sa M sc) := (BoxAt.cell PB.out 3).trans rfl
  have kWB0 : v6.cell? ⟨v1.heap.size, 0, none⟩ = some (.int .i64 p) := (BoxAt.cell WB.out 0).trans rfl
  have kWB1 : v6.cell? ⟨v1.heap.size, 1, none⟩ = some (.int .i64 r) := (BoxAt.cell WB.out 1).trans rfl
  have kWB2 : v6.cell? ⟨v1.heap.size, 2, none⟩ = some (.int .i64 v) := (BoxAt.cell WB.out 2).trans rfl
  have kFB0 : v6.cell? ⟨v4.heap.size, 0, none⟩ = some (.int .i64 0) := (BoxAt.cell FB.out 0).trans rfl
  have kFB2 : v6.cell? ⟨v4.heap.size, 2, none⟩ = some (.int .i64 0) := (BoxAt.cell FB.out 2).trans rfl
  go_wp2_with (first
    | (refine wpList_load_box rfl 25 _ rfl (w.heap.size) rfl _ _ PB.out _ Try.underlying25 Try.infoBf ?_)
    | (refine wpList_load_box rfl 27 _ rfl (v1.heap.size) rfl _ _ WB.out _ Try.underlying27 Try.infoWt ?_)
    | fail)
  have HBw := HB.out.size
  refine (bwait_any d k p r v may (vs := ⟨xa, N, xc⟩) (s := ⟨sa, M, sc⟩) (HX.out.below HB.out) (HV.out.below HB.out) HXL.out HL.out).mono ?_
  rintro e v7 ⟨x, u, rfl, hc, hu, hb⟩
  have PB := hid (PB.out.belowAll hb)
  have WB := hid (WB.out.belowAll hb)
  have RB := hid (RB.out.belowAll hb)
  have FB := hid (FB.out.belowAll hb)
  have HF := hid (HF.out.below hb)
  have HB := hid (HB.out.trans (hb.mono HB.out.size))
  have hsv7 : v6.heap.size ≤ v7.heap.size := by first | exact hb.size | omega
  have HC := hid (hc.mono HBw)
  have HU := hid (hu.mono HBw)
  obtain ⟨WCC, hWC⟩ : ∃ c, waitC may = c := ⟨_, rfl⟩
  have HWC := hid hWC
  rw [hWC]
  clear hc hu HBw hWC
  simp only [Sl.val] at HC HU
  clear kPB0 kPB1 kPB2 kPB3 kWB0 kWB1 kWB2 kFB0 kFB2
  have kPB0 : v7.cell? ⟨w.heap.size, 0, none⟩ = some (.int .i64 d) := (BoxAt.cell PB.out 0).trans rfl
  have kPB1 : v7.cell? ⟨w.heap.size, 1, none⟩ = some (.bool k) := (BoxAt.cell PB.out 1).trans rfl
  have kPB2 : v7.cell? ⟨w.heap.size, 2, none⟩ = some (.slice xa N xc) := (BoxAt.cell PB.out 2).trans rfl
  have kPB3 : v7.cell? ⟨w.heap.size, 3, none⟩ = some (.slice sa M sc) := (BoxAt.cell PB.out 3).trans rfl
  have kWB0 : v7.cell? ⟨v1.heap.size, 0, none⟩ = some (.int .i64 p) := (BoxAt.cell WB.out 0).trans rfl
  have kWB1 : v7.cell? ⟨v1.heap.size, 1, none⟩ = some (.int .i64 r) := (BoxAt.cell WB.out 1).trans rfl
  have kWB2 : v7.cell? ⟨v1.heap.size, 2, none⟩ = some (.int .i64 v) := (BoxAt.cell WB.out 2).trans rfl
  have kFB0 : v7.cell? ⟨v4.heap.size, 0, none⟩ = some (.int .i64 0) := (BoxAt.cell FB.out 0).trans rfl
  have kFB2 : v7.cell? ⟨v4.heap.size, 2, none⟩ = some (.int .i64 0) := (BoxAt.cell FB.out 2).trans rfl
  clear hb
  have FL6 := hid trivial
  have FL7 := hid trivial
  go_wp2_with (first
    | (have hfl := FL6.out
       refine wpList_store_whole rfl 25 _ _ rfl rfl (w.heap.size) rfl [.int .i64 d, .bool k, .slice x.a x.n x.c, .slice u.a u.n u.c] rfl _ _ PB.out rfl Try.infoBf (by simp [Value.oneCell']) ?_
       intro v8 b g z
       have hsv8 : v7.heap.size ≤ v8.heap.size := by omega
       have HF := hid (HF.out.put g PB.out (by decide))
       have HC := hid (HC.out.put g PB.out (by decide))
       have HU := hid (HU.out.put g PB.out (by decide))
       have PB := hid (show BoxAt v8 (w.heap.size) 25 #[.int .i64 d, .bool k, .slice x.a x.n x.c, .slice u.a u.n u.c] from b)
       have WB := hid (WB.out.grown g (fun e => by have := Option.some.inj e; omega))
       have RB := hid (RB.out.grown g (fun e => by have := Option.some.inj e; omega))
       have FB := hid (FB.out.grown g (fun e => by have := Option.some.inj e; omega))
       have HB := hid (HB.out.trans (grown_below g (by omega) (by omega)))
       clear kPB0 kPB1 kPB2 kPB3 kWB0 kWB1 kWB2 kFB0 kFB2
       have kPB0 : v8.cell? ⟨w.heap.size, 0, none⟩ = some (.int .i64 d) := (BoxAt.cell PB.out 0).trans rfl
       have kPB1 : v8.cell? ⟨w.heap.size, 1, none⟩ = some (.bool k) := (BoxAt.cell PB.out 1).trans rfl
       have kPB2 : v8.cell? ⟨w.heap.size, 2, none⟩ = some (.slice x.a x.n x.c) := (BoxAt.cell PB.out 2).trans rfl
       have kPB3 : v8.cell? ⟨w.heap.size, 3, none⟩ = some (.slice u.a u.n u.c) := (BoxAt.cell PB.out 3).trans rfl
       have kWB0 : v8.cell? ⟨v1.heap.size, 0, none⟩ = some (.int .i64 p) := (BoxAt.cell WB.out 0).trans rfl
       have kWB1 : v8.cell? ⟨v1.heap.size, 1, none⟩ = some (.int .i64 r) := (BoxAt.cell WB.out 1).trans rfl
       have kWB2 : v8.cell? ⟨v1.heap.size, 2, none⟩ = some (.int .i64 v) := (BoxAt.cell WB.out 2).trans rfl
       have kFB0 : v8.cell? ⟨v4.heap.size, 0, none⟩ = some (.int .i64 0) := (BoxAt.cell FB.out 0).trans rfl
       have kFB2 : v8.cell? ⟨v4.heap.size, 2, none⟩ = some (.int .i64 0) := (BoxAt.cell FB.out 2).trans rfl
       clear b g z hfl FL6)
    | (refine wpList_load_box rfl 25 _ rfl (w.heap.size) rfl _ _ PB.out _ Try.underlying25 Try.infoBf ?_)
    | (have hfl := FL7.out
       refine wpList_store_whole rfl 25 _ _ rfl rfl (v2.heap.size) rfl [.int .i64 d, .bool k, .slice x.a x.n x.c, .slice u.a u.n u.c] rfl _ _ RB.out rfl Try.infoBf (by simp [Value.oneCell']) ?_
       intro v9 b g z
       have hsv9 : v8.heap.size ≤ v9.heap.size := by omega
       have HF := hid (HF.out.put g RB.out (by decide))
       have HC := hid (HC.out.put g RB.out (by decide))
       have HU := hid (HU.out.put g RB.out (by decide))
       have RB := hid (show BoxAt v9 (v2.heap.size) 25 #[.int .i64 d, .bool k, .slice x.a x.n x.c, .slice u.a u.n u.c] from b)
       have PB := hid (PB.out.grown g (fun e => by have := Option.some.inj e; omega))
       have WB := hid (WB.out.grown g (fun e => by have := Option.some.inj e; omega))
       have FB := hid (FB.out.grown g (fun e => by have := Option.some.inj e; omega))
       have HB := hid (HB.out.trans (grown_below g (by omega) (by omega)))
       clear kPB0 kPB1 kPB2 kPB3 kWB0 kWB1 kWB2 kFB0 kFB2
       have kPB0 : v9.cell? ⟨w.heap.size, 0, none⟩ = some (.int .i64 d) := (BoxAt.cell PB.out 0).trans rfl
       have kPB1 : v9.cell? ⟨w.heap.size, 1, none⟩ = some (.bool k) := (BoxAt.cell PB.out 1).trans rfl
       have kPB2 : v9.cell? ⟨w.heap.size, 2, none⟩ = some (.slice x.a x.n x.c) := (BoxAt.cell PB.out 2).trans rfl
       have kPB3 : v9.cell? ⟨w.heap.size, 3, none⟩ = some (.slice u.a u.n u.c) := (BoxAt.cell PB.out 3).trans rfl
       have kWB0 : v9.cell? ⟨v1.heap.size, 0, none⟩ = some (.int .i64 p) := (BoxAt.cell WB.out 0).trans rfl
       have kWB1 : v9.cell? ⟨v1.heap.size, 1, none⟩ = some (.int .i64 r) := (BoxAt.cell WB.out 1).trans rfl
       have kWB2 : v9.cell? ⟨v1.heap.size, 2, none⟩ = some (.int .i64 v) := (BoxAt.cell WB.out 2).trans rfl
       have kFB0 : v9.cell? ⟨v4.heap.size, 0, none⟩ = some (.int .i64 0) := (BoxAt.cell FB.out 0).trans rfl
       have kFB2 : v9.cell? ⟨v4.heap.size, 2, none⟩ = some (.int .i64 0) := (BoxAt.cell FB.out 2).trans rfl
       clear b g z hfl FL7)
    | fail)
  refine bodyPost_ret (results_box_tmp2 rfl _ _ (v2.heap.size) 25 _ (0, 0) _ rfl RB.out Try.underlying25 rfl Try.infoBf) rfl ?_
  exact ⟨x, u, ⟨none, 0, 0⟩, by rw [HWC.out]; rfl, HC.out, HU.out, OWk.nil _ _, HB.out⟩

set_option maxRecDepth 100000 in
set_option maxHeartbeats 1600000 in
theorem take_wait (d : Int) (k : Bool) {vs s : Sl} {xs : List Int} {l : List Wt} (p r v : Int) (may : Bool) {w : World} (hv : Sees w .i64 vs.val xs) (hs : SeesWt w s.val l) (hx : xs.length ≤ 800000) (hl : l.length ≤ 800000) (h0 : xs.length = 0) :
    Calls Try.prog 13 #[BfV.val ⟨d, k, vs, s⟩, .agg #[.int .i64 p, .int .i64 r, .int .i64 v], .bool may] w fun e w' => ∃ (x u q : Sl), e = .returned (.tuple #[BfV.val ⟨d, k, x, u⟩, .int .i64 (waitC may), .int .i64 (0), q.val]) ∧ OI w' w.heap.size x.val (xs) ∧ OWt w' w.heap.size u.val (waitL l ⟨p, r, v⟩ k may) ∧ OWk w' w.heap.size q.val ([]) ∧ Below w.heap.size w w' := by
  have HX := hid hv
  have HV := hid hs
  obtain ⟨a1, c1, hv1, hx1, hx2, hxc⟩ := hv.form
  obtain ⟨xa, xn, xc⟩ := vs
  simp only [Sl.val, Value.slice.injEq] at hv1
  obtain ⟨rfl, rfl, rfl⟩ := hv1
  obtain ⟨a2, c2, hs1, hc1, hc2, -⟩ := hs.form
  obtain ⟨sa, sn, sc⟩ := s
  simp only [Sl.val, Value.slice.injEq] at hs1
  obtain ⟨rfl, rfl, rfl⟩ := hs1
  unfold maxLen at hx2 hc2
  simp only [Sl.val] at HX HV
  have HXC := hid hxc
  clear hv hs hxc
  unfold BfV.val
  simp only
  obtain ⟨N, hN⟩ : ∃ N, xs.length = N := ⟨_, rfl⟩
  obtain ⟨M, hM⟩ : ∃ M, l.length = M := ⟨_, rfl⟩
  have HN := hid hN
  have HM := hid hM
  have HXL := hid hx
  have HL := hid hl
  rw [hN] at hx hx1 HX HXC ⊢
  rw [hM] at hl hc1 HV ⊢
  have H0 := hid h0
  have t0 : ((N : Int) == 0) = true := by rw [← hN, h0]; rfl
  clear hN hM h0
  have HB := hid (Below.refl w.heap.size w)
  go_enter Try.func13, Try.ntmps13
  have FL1 := hid trivial
  have FL2 := hid trivial
  have FL3 := hid trivial
  go_wp2_with (first
    | (have hfl := FL1.out
       refine wpList_box rfl 25 (.tmp 0) rfl #[.int .i64 d, .bool k, .slice xa N xc, .slice sa M sc] rfl ?_
       intro v1 b h z
       have PB := hid (show BoxAt v1 w.heap.size 25 #[.int .i64 d, .bool k, .slice xa N xc, .slice sa M sc] from b)
       have HB := hid (HB.out.trans (h.mono HB.out.size))
       have hsv1 : w.heap.size + 1 ≤ v1.heap.size := by first | exact h.size | omega
       clear b h z hfl FL1)
    | (have hfl := FL2.out
       refine wpList_box rfl 27 (.tmp 1) rfl #[.int .i64 p, .int .i64 r, .int .i64 v] rfl ?_
       intro v2 b h z
       have WB := hid (show BoxAt v2 v1.heap.size 27 #[.int .i64 p, .int .i64 r, .int .i64 v] from b)
       have PB := hid (PB.out.belowAll h)
       have HB := hid (HB.out.trans (h.mono HB.out.size))
       have hsv2 : v1.heap.size + 1 ≤ v2.heap.size := by first | exact h.size | omega
       have kPB0 : v2.cell? ⟨w.heap.size, 0, none⟩ = some (.int .i64 d) := (BoxAt.cell PB.out 0).trans rfl
       have kPB1 : v2.cell? ⟨w.heap.size, 1, none⟩ = some (.bool k) := (BoxAt.cell PB.out 1).trans rfl
       have kPB2 : v2.cell? ⟨w.heap.size, 2, none⟩ = some (.slice xa N xc) := (BoxAt.cell PB.out 2).trans rfl
       have kPB3 : v2.cell? ⟨w.heap.size, 3, none⟩ = some (.slice sa M sc) := (BoxAt.cell PB.out 3).trans rfl
       clear b h z hfl FL2)
    | (have hfl := FL3.out
       refine wpList_new rfl 25 rfl _ Try.zeroBf ?_
       intro v3 b h z
       have RB := hid (show BoxAt v3 v2.heap.size 25 #[.int .i64 0, .bool false, .slice none 0 0, .slice none 0 0] from b)
       have PB := hid (PB.out.belowAll h)
       have WB := hid (WB.out.belowAll h)
       have HB := hid (HB.out.trans (h.mono HB.out.size))
       have hsv3 : v2.heap.size + 1 ≤ v3.heap.size := by first | exact h.size | omega
       clear kPB0 kPB1 kPB2 kPB3
       have kPB0 : v3.cell? ⟨w.heap.size, 0, none⟩ = some (.int .i64 d) := (BoxAt.cell PB.out 0).trans rfl
       have kPB1 : v3.cell? ⟨w.heap.size, 1, none⟩ = some (.bool k) := (BoxAt.cell PB.out 1).trans rfl
       have kPB2 : v3.cell? ⟨w.heap.size, 2, none⟩ = some (.slice xa N xc) := (BoxAt.cell PB.out 2).trans rfl
       have kPB3 : v3.cell? ⟨w.heap.size, 3, none⟩ = some (.slice sa M sc) := (BoxAt.cell PB.out 3).trans rfl
       have kWB0 : v3.cell? ⟨v1.heap.size, 0, none⟩ = some (.int .i64 p) := (BoxAt.cell WB.out 0).trans rfl
       have kWB1 : v3.cell? ⟨v1.heap.size, 1, none⟩ = some (.int .i64 r) := (BoxAt.cell WB.out 1).trans rfl
       have kWB2 : v3.cell? ⟨v1.heap.size, 2, none⟩ = some (.int .i64 v) := (BoxAt.cell WB.out 2).trans rfl
       clear b h z hfl FL3
       refine Hid.out ?_)
    | fail)
  refine hid ?_
  clear kPB0 kPB1 kPB2 kPB3 kWB0 kWB1 kWB2
  have kPB0 : v3.cell? ⟨w.heap.size, 0, none⟩ = some (.int .i64 d) := (BoxAt.cell PB.out 0).trans rfl
  have kPB1 : v3.cell? ⟨w.heap.size, 1, none⟩ = some (.bool k) := (BoxAt.cell PB.out 1).trans rfl
  have kPB2 : v3.cell? ⟨w.heap.size, 2, none⟩ = some (.slice xa N xc) := (BoxAt.cell PB.out 2).trans rfl
  have kPB3 : v3.cell? ⟨w.heap.size, 3, none⟩ = some (.slice sa M sc) := (BoxAt.cell PB.out 3).trans rfl
  have kWB0 : v3.cell? ⟨v1.heap.size, 0, none⟩ = some (.int .i64 p) := (BoxAt.cell WB.out 0).trans rfl
  have kWB1 : v3.cell? ⟨v1.heap.size, 1, none⟩ = some (.int .i64 r) := (BoxAt.cell WB.out 1).trans rfl
  have kWB2 : v3.cell? ⟨v1.heap.size, 2, none⟩ = some (.int .i64 v) := (BoxAt.cell WB.out 2).trans rfl
  go_wp2_with (first
    | (refine wpList_load_box rfl 25 _ rfl (w.heap.size) rfl _ _ PB.out _ Try.underlying25 Try.infoBf ?_)
    | (refine wpList_load_box rfl 27 _ rfl (v1.heap.size) rfl _ _ WB.out _ Try.underlying27 Try.infoWt ?_)
    | fail)
  have HBw := HB.out.size
  refine (bwait_any d k p r v may (vs := ⟨xa, N, xc⟩) (s := ⟨sa, M, sc⟩) (HX.out.below HB.out) (HV.out.below HB.out) HXL.out HL.out).mono ?_
  rintro e v4 ⟨x, u, rfl, hc, hu, hb⟩
  have PB := hid (PB.out.belowAll hb)
  have WB := hid (WB.out.belowAll hb)
  have RB := hid (RB.out.belowAll hb)
  have HB := hid (HB.out.trans (hb.mono HB.out.size))
  have hsv4 : v3.heap.size ≤ v4.heap.size := by first | exact hb.size | omega
  have HC := hid (hc.mono HBw)
  have HU := hid (hu.mono HBw)
  obtain ⟨WCC, hWC⟩ : ∃ c, waitC may = c := ⟨_, rfl⟩
  have HWC := hid hWC
  rw [hWC]
  clear hc hu HBw hWC
  simp only [Sl.val] at HC HU
  clear kPB0 kPB1 kPB2 kPB3 kWB0 kWB1 kWB2
  have kPB0 : v4.cell? ⟨w.heap.size, 0, none⟩ = some (.int .i64 d) := (BoxAt.cell PB.out 0).trans rfl
  have kPB1 : v4.cell? ⟨w.heap.size, 1, none⟩ = some (.bool k) := (BoxAt.cell PB.out 1).trans rfl
  have kPB2 : v4.cell? ⟨w.heap.size, 2, none⟩ = some (.slice xa N xc) := (BoxAt.cell PB.out 2).trans rfl
  have kPB3 : v4.cell? ⟨w.heap.size, 3, none⟩ = some (.slice sa M sc) := (BoxAt.cell PB.out 3).trans rfl
  have kWB0 : v4.cell? ⟨v1.heap.size, 0, none⟩ = some (.int .i64 p) := (BoxAt.cell WB.out 0).trans rfl
  have kWB1 : v4.cell? ⟨v1.heap.size, 1, none⟩ = some (.int .i64 r) := (BoxAt.cell WB.out 1).trans rfl
  have kWB2 : v4.cell? ⟨v1.heap.size, 2, none⟩ = some (.int .i64 v) := (BoxAt.cell WB.out 2).trans rfl
  clear hb
  have FL4 := hid trivial
  have FL5 := hid trivial
  have FL6 := hid trivial
  go_wp2_with (first
    | (have hfl := FL4.out
       refine wpList_new rfl 25 rfl _ Try.zeroBf ?_
       intro v5 b h z
       have CB := hid (show BoxAt v5 v4.heap.size 25 #[.int .i64 0, .bool false, .slice none 0 0, .slice none 0 0] from b)
       have PB := hid (PB.out.belowAll h)
       have WB := hid (WB.out.belowAll h)
       have RB := hid (RB.out.belowAll h)
       have HC := hid (HC.out.below h)
       have HU := hid (HU.out.below h)
       have HB := hid (HB.out.trans (h.mono HB.out.size))
       have hsv5 : v4.heap.size + 1 ≤ v5.heap.size := by first | exact h.size | omega
       clear kPB0 kPB1 kPB2 kPB3 kWB0 kWB1 kWB2
       have kPB0 : v5.cell? ⟨w.heap.size, 0, none⟩ = some (.int .i64 d) := (BoxAt.cell PB.out 0).trans rfl
       have kPB1 : v5.cell? ⟨w.heap.size, 1, none⟩ = some (.bool k) := (BoxAt.cell PB.out 1).trans rfl
       have kPB2 : v5.cell? ⟨w.heap.size, 2, none⟩ = some (.slice xa N xc) := (BoxAt.cell PB.out 2).trans rfl
       have kPB3 : v5.cell? ⟨w.heap.size, 3, none⟩ = some (.slice sa M sc) := (BoxAt.cell PB.out 3).trans rfl
       have kWB0 : v5.cell? ⟨v1.heap.size, 0, none⟩ = some (.int .i64 p) := (BoxAt.cell WB.out 0).trans rfl
       have kWB1 : v5.cell? ⟨v1.heap.size, 1, none⟩ = some (.int .i64 r) := (BoxAt.cell WB.out 1).trans rfl
       have kWB2 : v5.cell? ⟨v1.heap.size, 2, none⟩ = some (.int .i64 v) := (BoxAt.cell WB.out 2).trans rfl
       clear b h z hfl FL4)
    | (have hfl := FL5.out
       refine wpList_store_whole rfl 25 _ _ rfl rfl (v4.heap.size) rfl [.int .i64 d, .bool k, .slice x.a x.n x.c, .slice u.a u.n u.c] rfl _ _ CB.out rfl Try.infoBf (by simp [Value.oneCell']) ?_
       intro v6 b g z
       have hsv6 : v5.heap.size ≤ v6.heap.size := by omega
       have HC := hid (HC.out.put g CB.out (by decide))
       have HU := hid (HU.out.put g CB.out (by decide))
       have CB := hid (show BoxAt v6 (v4.heap.size) 25 #[.int .i64 d, .bool k, .slice x.a x.n x.c, .slice u.a u.n u.c] from b)
       have PB := hid (PB.out.grown g (fun e => by have := Option.some.inj e; omega))
       have WB := hid (WB.out.grown g (fun e => by have := Option.some.inj e; omega))
       have RB := hid (RB.out.grown g (fun e => by have := Option.some.inj e; omega))
       have HB := hid (HB.out.trans (grown_below g (by omega) (by omega)))
       clear kPB0 kPB1 kPB2 kPB3 kWB0 kWB1 kWB2
       have kPB0 : v6.cell? ⟨w.heap.size, 0, none⟩ = some (.int .i64 d) := (BoxAt.cell PB.out 0).trans rfl
       have kPB1 : v6.cell? ⟨w.heap.size, 1, none⟩ = some (.bool k) := (BoxAt.cell PB.out 1).trans rfl
       have kPB2 : v6.cell? ⟨w.heap.size, 2, none⟩ = some (.slice xa N xc) := (BoxAt.cell PB.out 2).trans rfl
       have kPB3 : v6.cell? ⟨w.heap.size, 3, none⟩ = some (.slice sa M sc) := (BoxAt.cell PB.out 3).trans rfl
       have kWB0 : v6.cell? ⟨v1.heap.size, 0, none⟩ = some (.int .i64 p) := (BoxAt.cell WB.out 0).trans rfl
       have kWB1 : v6.cell? ⟨v1.heap.size, 1, none⟩ = some (.int .i64 r) := (BoxAt.cell WB.out 1).trans rfl
       have kWB2 : v6.cell? ⟨v1.heap.size, 2, none⟩ = some (.int .i64 v) := (BoxAt.cell WB.out 2).trans rfl
       clear b g z hfl FL5)
    | (refine wpList_load_box rfl 25 _ rfl (v4.heap.size) rfl _ _ CB.out _ Try.underlying25 Try.infoBf ?_)
    | (have hfl := FL6.out
       refine wpList_store_whole rfl 25 _ _ rfl rfl (v2.heap.size) rfl [.int .i64 d, .bool k, .slice x.a x.n x.c, .slice u.a u.n u.c] rfl _ _ RB.out rfl Try.infoBf (by simp [Value.oneCell']) ?_
       intro v7 b g z
       have hsv7 : v6.heap.size ≤ v7.heap.size := by omega
       have HC := hid (HC.out.put g RB.out (by decide))
       have HU := hid (HU.out.put g RB.out (by decide))
       have RB := hid (show BoxAt v7 (v2.heap.size) 25 #[.int .i64 d, .bool k, .slice x.a x.n x.c, .slice u.a u.n u.c] from b)
       have PB := hid (PB.out.grown g (fun e => by have := Option.some.inj e; omega))
       have WB := hid (WB.out.grown g (fun e => by have := Option.some.inj e; omega))
       have CB := hid (CB.out.grown g (fun e => by have := Option.some.inj e; omega))
       have HB := hid (HB.out.trans (grown_below g (by omega) (by omega)))
       clear kPB0 kPB1 kPB2 kPB3 kWB0 kWB1 kWB2
       have kPB0 : v7.cell? ⟨w.heap.size, 0, none⟩ = some (.int .i64 d) := (BoxAt.cell PB.out 0).trans rfl
       have kPB1 : v7.cell? ⟨w.heap.size, 1, none⟩ = some (.bool k) := (BoxAt.cell PB.out 1).trans rfl
       have kPB2 : v7.cell? ⟨w.heap.size, 2, none⟩ = some (.slice xa N xc) := (BoxAt.cell PB.out 2).trans rfl
       have kPB3 : v7.cell? ⟨w.heap.size, 3, none⟩ = some (.slice sa M sc) := (BoxAt.cell PB.out 3).trans rfl
       have kWB0 : v7.cell? ⟨v1.heap.size, 0, none⟩ = some (.int .i64 p) := (BoxAt.cell WB.out 0).trans rfl
       have kWB1 : v7.cell? ⟨v1.heap.size, 1, none⟩ = some (.int .i64 r) := (BoxAt.cell WB.out 1).trans rfl
       have kWB2 : v7.cell? ⟨v1.heap.size, 2, none⟩ = some (.int .i64 v) := (BoxAt.cell WB.out 2).trans rfl
       clear b g z hfl FL6)
    | fail)
  refine bodyPost_ret (results_box_tmp3 rfl _ _ (v2.heap.size) 25 _ (0, 0) _ rfl RB.out Try.underlying25 rfl Try.infoBf) rfl ?_
  exact ⟨x, u, ⟨none, 0, 0⟩, by rw [HWC.out]; rfl, HC.out, HU.out, OWk.nil _ _, HB.out⟩

set_option maxRecDepth 100000 in
set_option maxHeartbeats 1600000 in
theorem take_none (d : Int) (k : Bool) {vs s : Sl} {xs : List Int} {l : List Wt} (p r v : Int) (e0 : Int) (may : Bool) {w : World} (hv : Sees w .i64 vs.val xs) (hs : SeesWt w s.val l) (hx : xs.length ≤ 800000) (hl : l.length ≤ 800000) (h0 : 0 < xs.length) (he : xs.getD 0 0 = e0) (h1 : l.length = 0) :
    Calls Try.prog 13 #[BfV.val ⟨d, k, vs, s⟩, .agg #[.int .i64 p, .int .i64 r, .int .i64 v], .bool may] w fun e w' => ∃ (x u q : Sl), e = .returned (.tuple #[BfV.val ⟨d, k, x, u⟩, .int .i64 (0), .int .i64 (e0), q.val]) ∧ OI w' w.heap.size x.val (xs.drop 1) ∧ OWt w' w.heap.size u.val ([]) ∧ OWk w' w.heap.size q.val ([]) ∧ Below w.heap.size w w' := by
  have HX := hid hv
  have HV := hid hs
  obtain ⟨a1, c1, hv1, hx1, hx2, hxc⟩ := hv.form
  obtain ⟨xa, xn, xc⟩ := vs
  simp only [Sl.val, Value.slice.injEq] at hv1
  obtain ⟨rfl, rfl, rfl⟩ := hv1
  obtain ⟨a2, c2, hs1, hc1, hc2, -⟩ := hs.form
  obtain ⟨sa, sn, sc⟩ := s
  simp only [Sl.val, Value.slice.injEq] at hs1
  obtain ⟨rfl, rfl, rfl⟩ := hs1
  unfold maxLen at hx2 hc2
  simp only [Sl.val] at HX HV
  have HXC := hid hxc
  clear hv hs hxc
  unfold BfV.val
  simp only
  obtain ⟨N, hN⟩ : ∃ N, xs.length = N := ⟨_, rfl⟩
  obtain ⟨M, hM⟩ : ∃ M, l.length = M := ⟨_, rfl⟩
  have HN := hid hN
  have HM := hid hM
  have HXL := hid hx
  have HL := hid hl
  rw [hN] at hx hx1 HX HXC ⊢
  rw [hM] at hl hc1 HV ⊢
  have H0 := hid h0
  have H1 := hid h1
  have t0 : ((N : Int) == 0) = false := beq_eq_false_iff_ne.2 (by omega)
  rw [hN] at h0
  obtain ⟨bb, off, rfl, hbw, hcell⟩ := HXC.out (by omega)
  have hc0 := hcell 0 (by omega)
  rw [he, Nat.add_zero] at hc0
  have C0 := hid hc0
  clear hcell hc0 he
  have h1i : (1 : Int) ≤ (N : Int) := by omega
  clear hN hM h1
  have HB := hid (Below.refl w.heap.size w)
  go_enter Try.func13, Try.ntmps13
  have FL1 := hid trivial
  have FL2 := hid trivial
  have FL3 := hid trivial
  go_wp2_with (first
    | (have hfl := FL1.out
       refine wpList_box rfl 25 (.tmp 0) rfl #[.int .i64 d, .bool k, .slice (some ⟨bb, off, none⟩) N xc, .slice sa M sc] rfl ?_
       intro v1 b h z
       have PB := hid (show BoxAt v1 w.heap.size 25 #[.int .i64 d, .bool k, .slice (some ⟨bb, off, none⟩) N xc, .slice sa M sc] from b)
       have HB := hid (HB.out.trans (h.mono HB.out.size))
       have hsv1 : w.heap.size + 1 ≤ v1.heap.size := by first | exact h.size | omega
       clear b h z hfl FL1)
    | (have hfl := FL2.out
       refine wpList_box rfl 27 (.tmp 1) rfl #[.int .i64 p, .int .i64 r, .int .i64 v] rfl ?_
       intro v2 b h z
       have WB := hid (show BoxAt v2 v1.heap.size 27 #[.int .i64 p, .int .i64 r, .int .i64 v] from b)
       have PB := hid (PB.out.belowAll h)
       have HB := hid (HB.out.trans (h.mono HB.out.size))
       have hsv2 : v1.heap.size + 1 ≤ v2.heap.size := by first | exact h.size | omega
       have kPB0 : v2.cell? ⟨w.heap.size, 0, none⟩ = some (.int .i64 d) := (BoxAt.cell PB.out 0).trans rfl
       have kPB1 : v2.cell? ⟨w.heap.size, 1, none⟩ = some (.bool k) := (BoxAt.cell PB.out 1).trans rfl
       have kPB2 : v2.cell? ⟨w.heap.size, 2, none⟩ = some (.slice (some ⟨bb, off, none⟩) N xc) := (BoxAt.cell PB.out 2).trans rfl
       have kPB3 : v2.cell? ⟨w.heap.size, 3, none⟩ = some (.slice sa M sc) := (BoxAt.cell PB.out 3).trans rfl
       clear b h z hfl FL2)
    | (have hfl := FL3.out
       refine wpList_new rfl 25 rfl _ Try.zeroBf ?_
       intro v3 b h z
       have RB := hid (show BoxAt v3 v2.heap.size 25 #[.int .i64 0, .bool false, .slice none 0 0, .slice none 0 0] from b)
       have PB := hid (PB.out.belowAll h)
       have WB := hid (WB.out.belowAll h)
       have HB := hid (HB.out.trans (h.mono HB.out.size))
       have hsv3 : v2.heap.size + 1 ≤ v3.heap.size := by first | exact h.size | omega
       clear kPB0 kPB1 kPB2 kPB3
       have kPB0 : v3.cell? ⟨w.heap.size, 0, none⟩ = some (.int .i64 d) := (BoxAt.cell PB.out 0).trans rfl
       have kPB1 : v3.cell? ⟨w.heap.size, 1, none⟩ = some (.bool k) := (BoxAt.cell PB.out 1).trans rfl
       have kPB2 : v3.cell? ⟨w.heap.size, 2, none⟩ = some (.slice (some ⟨bb, off, none⟩) N xc) := (BoxAt.cell PB.out 2).trans rfl
       have kPB3 : v3.cell? ⟨w.heap.size, 3, none⟩ = some (.slice sa M sc) := (BoxAt.cell PB.out 3).trans rfl
       have kWB0 : v3.cell? ⟨v1.heap.size, 0, none⟩ = some (.int .i64 p) := (BoxAt.cell WB.out 0).trans rfl
       have kWB1 : v3.cell? ⟨v1.heap.size, 1, none⟩ = some (.int .i64 r) := (BoxAt.cell WB.out 1).trans rfl
       have kWB2 : v3.cell? ⟨v1.heap.size, 2, none⟩ = some (.int .i64 v) := (BoxAt.cell WB.out 2).trans rfl
       clear b h z hfl FL3
       refine Hid.out ?_)
    | fail)
  refine hid ?_
  clear kPB0 kPB1 kPB2 kPB3 kWB0 kWB1 kWB2
  have kPB0 : v3.cell? ⟨w.heap.size, 0, none⟩ = some (.int .i64 d) := (BoxAt.cell PB.out 0).trans rfl
  have kPB1 : v3.cell? ⟨w.heap.size, 1, none⟩ = some (.bool k) := (BoxAt.cell PB.out 1).trans rfl
  have kPB2 : v3.cell? ⟨w.heap.size, 2, none⟩ = some (.slice (some ⟨bb, off, none⟩) N xc) := (BoxAt.cell PB.out 2).trans rfl
  have kPB3 : v3.cell? ⟨w.heap.size, 3, none⟩ = some (.slice sa M sc) := (BoxAt.cell PB.out 3).trans rfl
  have kWB0 : v3.cell? ⟨v1.heap.size, 0, none⟩ = some (.int .i64 p) := (BoxAt.cell WB.out 0).trans rfl
  have kWB1 : v3.cell? ⟨v1.heap.size, 1, none⟩ = some (.int .i64 r) := (BoxAt.cell WB.out 1).trans rfl
  have kWB2 : v3.cell? ⟨v1.heap.size, 2, none⟩ = some (.int .i64 v) := (BoxAt.cell WB.out 2).trans rfl
  go_wp2_with fail
  clear kPB0 kPB1 kPB2 kPB3 kWB0 kWB1 kWB2
  have PB := hid (BoxAt.drew PB.out)
  have WB := hid (BoxAt.drew WB.out)
  have RB := hid (BoxAt.drew RB.out)
  have HB := hid HB.out.drew
  have hsv4 : v3.heap.size ≤ v3.drew.heap.size := Nat.le_refl _
  refine wp_region_held_drew (S := (fun w' : World => BoxAt w' (w.heap.size) 25 #[.int .i64 d, .bool k, .slice (some ⟨bb, off, none⟩) N xc, .slice sa M sc] ∧ w'.cell? ⟨bb, off, none⟩ = some (.int .i64 e0))) (by kernel_rfl) (⟨PB.out, (HB.out.cell (by exact hbw)).trans C0.out⟩) (fun hHeld => ?_)
  generalize v3.drew = v4 at *
  refine wpAnyH_take (i := 0) (oi := { dst := some 30, op := Op.fieldAddr 25 (Operand.tmp 3) 2, type := 0, pos := "buffer.go:32", after := _, guard := none }) (v := ?_) rfl (by kernel_rfl) (by kernel_rfl) (by kernel_rfl) (fun _ _ _ h => h) (Or.inl ⟨by rfl, ?_⟩) (by assumption) ?_
  rotate_left
  · (intro w hSw; (try dsimp only at hSw); go_simp; try with_reducible rfl)
  simp only [Act.put, List.setIfInBounds_toArray, List.set_cons_zero, List.set_cons_succ]
  refine wpAnyH_take (i := 1) (oi := { dst := some 31, op := Op.load 22 (Operand.tmp 30), type := 22, pos := "buffer.go:32", after := _, guard := none }) (v := ?_) rfl (by kernel_rfl) (by kernel_rfl) (by kernel_rfl) (fun _ _ _ h => h) (Or.inl ⟨by rfl, ?_⟩) (by assumption) ?_
  rotate_left
  · (intro W hSw; (try dsimp only at hSw); obtain ⟨x0, x1⟩ := hSw; have c0_0 : W.cell? ⟨w.heap.size, 0, none⟩ = some (.int .i64 d) := (BoxAt.cell x0 0).trans rfl; have c0_1 : W.cell? ⟨w.heap.size, 1, none⟩ = some (.bool k) := (BoxAt.cell x0 1).trans rfl; have c0_2 : W.cell? ⟨w.heap.size, 2, none⟩ = some (.slice (some ⟨bb, off, none⟩) N xc) := (BoxAt.cell x0 2).trans rfl; have c0_3 : W.cell? ⟨w.heap.size, 3, none⟩ = some (.slice sa M sc) := (BoxAt.cell x0 3).trans rfl; clear x0; go_simp; try with_reducible rfl)
  simp only [Act.put, List.setIfInBounds_toArray, List.set_cons_zero, List.set_cons_succ]
  refine wpAnyH_take (i := 2) (oi := { dst := some 32, op := Op.indexAddr 22 (Operand.tmp 31) (Operand.const (Value.int IntKind.i64 0)), type := 0, pos := "buffer.go:32", after := _, guard := none }) (v := ?_) rfl (by kernel_rfl) (by kernel_rfl) (by kernel_rfl) (fun _ _ _ h => h) (Or.inl ⟨by rfl, ?_⟩) (by assumption) ?_
  rotate_left
  · (intro w hSw; (try dsimp only at hSw); go_simp; try with_reducible rfl)
  simp only [Act.put, List.setIfInBounds_toArray, List.set_cons_zero, List.set_cons_succ]
  refine wpAnyH_take (i := 3) (oi := { dst := some 33, op := Op.load 3 (Operand.tmp 32), type := 3, pos := "buffer.go:32", after := _, guard := none }) (v := ?_) rfl (by kernel_rfl) (by kernel_rfl) (by kernel_rfl) (fun _ _ _ h => h) (Or.inl ⟨by rfl, ?_⟩) (by assumption) ?_
  rotate_left
  · (intro W hSw; (try dsimp only at hSw); obtain ⟨x0, x1⟩ := hSw; have c0_0 : W.cell? ⟨w.heap.size, 0, none⟩ = some (.int .i64 d) := (BoxAt.cell x0 0).trans rfl; have c0_1 : W.cell? ⟨w.heap.size, 1, none⟩ = some (.bool k) := (BoxAt.cell x0 1).trans rfl; have c0_2 : W.cell? ⟨w.heap.size, 2, none⟩ = some (.slice (some ⟨bb, off, none⟩) N xc) := (BoxAt.cell x0 2).trans rfl; have c0_3 : W.cell? ⟨w.heap.size, 3, none⟩ = some (.slice sa M sc) := (BoxAt.cell x0 3).trans rfl; clear x0; go_simp; try with_reducible rfl)
  simp only [Act.put, List.setIfInBounds_toArray, List.set_cons_zero, List.set_cons_succ]
  refine wpAnyH_take (i := 4) (oi := { dst := some 34, op := Op.fieldAddr 25 (Operand.tmp 3) 2, type := 0, pos := "buffer.go:32", after := _, guard := none }) (v := ?_) rfl (by kernel_rfl) (by kernel_rfl) (by kernel_rfl) (fun _ _ _ h => h) (Or.inl ⟨by rfl, ?_⟩) (by assumption) ?_
  rotate_left
  · (intro w hSw; (try dsimp only at hSw); go_simp; try with_reducible rfl)
  simp only [Act.put, List.setIfInBounds_toArray, List.set_cons_zero, List.set_cons_succ]
  refine wpAnyH_take (i := 5) (oi := { dst := some 35, op := Op.load 22 (Operand.tmp 34), type := 22, pos := "buffer.go:32", after := _, guard := none }) (v := ?_) rfl (by kernel_rfl) (by kernel_rfl) (by kernel_rfl) (fun _ _ _ h => h) (Or.inl ⟨by rfl, ?_⟩) (by assumption) ?_
  rotate_left
  · (intro W hSw; (try dsimp only at hSw); obtain ⟨x0, x1⟩ := hSw; have c0_0 : W.cell? ⟨w.heap.size, 0, none⟩ = some (.int .i64 d) := (BoxAt.cell x0 0).trans rfl; have c0_1 : W.cell? ⟨w.heap.size, 1, none⟩ = some (.bool k) := (BoxAt.cell x0 1).trans rfl; have c0_2 : W.cell? ⟨w.heap.size, 2, none⟩ = some (.slice (some ⟨bb, off, none⟩) N xc) := (BoxAt.cell x0 2).trans rfl; have c0_3 : W.cell? ⟨w.heap.size, 3, none⟩ = some (.slice sa M sc) := (BoxAt.cell x0 3).trans rfl; clear x0; go_simp; try with_reducible rfl)
  simp only [Act.put, List.setIfInBounds_toArray, List.set_cons_zero, List.set_cons_succ]
  refine wpAnyH_ready (rs := [6]) (by kernel_rfl) (by simp) (AllReadyH.cons (o := { dst := some 36, op := Op.call { callee := Callee.value (Operand.func 17), args := #[Operand.tmp 35, Operand.const (Value.int IntKind.i64 1)], argTypes := #[22, 3] }, type := 22, pos := "buffer.go:32", after := _, guard := none }) rfl (fun K1007 hK1007 => ?_) AllReadyH.nil)
  go_simp
  refine (from_left1 HX.out HN.out (by have := H0.out; have := HN.out; omega)).mono ?_
  rintro e v5 ⟨ga, K, rfl, hk1, hk2, hu, hb⟩
  have PB := hid (PB.out.belowAll hb)
  have WB := hid (WB.out.belowAll hb)
  have RB := hid (RB.out.belowAll hb)
  have HB := hid (HB.out.trans (hb.mono HB.out.size))
  have hsv5 : v4.heap.size ≤ v5.heap.size := by first | exact hb.size | omega
  have HG := hid hu
  have HK := hid hk2
  have HKN := hid hk1
  clear hu hk1 hk2
  clear hb
  refine hK1007.out _ _ (⟨PB.out, (HB.out.cell (by exact hbw)).trans C0.out⟩) (fun hHeld1007 => ?_)
  clear hK1007 K1007
  try simp only [Act.put, List.setIfInBounds_toArray, List.set_cons_zero, List.set_cons_succ]
  refine wpAnyH_take (i := 7) (oi := { dst := some 12, op := Op.assign (Operand.tmp 33), type := 3, pos := "buffer.go:32", after := _, guard := none }) (v := ?_) rfl (by kernel_rfl) (by kernel_rfl) (by kernel_rfl) (fun _ _ _ h => h) (Or.inl ⟨by rfl, ?_⟩) (by assumption) ?_
  rotate_left
  · (intro w hSw; (try dsimp only at hSw); go_simp; try with_reducible rfl)
  simp only [Act.put, List.setIfInBounds_toArray, List.set_cons_zero, List.set_cons_succ]
  refine wpAnyH_take (i := 8) (oi := { dst := some 13, op := Op.assign (Operand.tmp 36), type := 22, pos := "buffer.go:32", after := _, guard := none }) (v := ?_) rfl (by kernel_rfl) (by kernel_rfl) (by kernel_rfl) (fun _ _ _ h => h) (Or.inl ⟨by rfl, ?_⟩) (by assumption) ?_
  rotate_left
  · (intro w hSw; (try dsimp only at hSw); go_simp; try with_reducible rfl)
  simp only [Act.put, List.setIfInBounds_toArray, List.set_cons_zero, List.set_cons_succ]
  refine wpAnyH_done (by kernel_rfl) ?_ _
  clear hHeld hHeld1007
  have kPB0 : v5.cell? ⟨w.heap.size, 0, none⟩ = some (.int .i64 d) := (BoxAt.cell PB.out 0).trans rfl
  have kPB1 : v5.cell? ⟨w.heap.size, 1, none⟩ = some (.bool k) := (BoxAt.cell PB.out 1).trans rfl
  have kPB2 : v5.cell? ⟨w.heap.size, 2, none⟩ = some (.slice (some ⟨bb, off, none⟩) N xc) := (BoxAt.cell PB.out 2).trans rfl
  have kPB3 : v5.cell? ⟨w.heap.size, 3, none⟩ = some (.slice sa M sc) := (BoxAt.cell PB.out 3).trans rfl
  have kWB0 : v5.cell? ⟨v1.heap.size, 0, none⟩ = some (.int .i64 p) := (BoxAt.cell WB.out 0).trans rfl
  have kWB1 : v5.cell? ⟨v1.heap.size, 1, none⟩ = some (.int .i64 r) := (BoxAt.cell WB.out 1).trans rfl
  have kWB2 : v5.cell? ⟨v1.heap.size, 2, none⟩ = some (.int .i64 v) := (BoxAt.cell WB.out 2).trans rfl
  go_wp2_with fail
  have HBf := HB.out.size
  refine (first_no (HV.out.below HB.out) H1.out).mono ?_
  rintro e v6 ⟨f, rfl, hu, hb⟩
  have PB := hid (PB.out.belowAll hb)
  have WB := hid (WB.out.belowAll hb)
  have RB := hid (RB.out.belowAll hb)
  have HB := hid (HB.out.trans (hb.mono HB.out.size))
  have hsv6 : v5.heap.size ≤ v6.heap.size := by first | exact hb.size | omega
  have HF := hid (hu.mono HBf)
  clear hu HBf
  clear kPB0 kPB1 kPB2 kPB3 kWB0 kWB1 kWB2
  have kPB0 : v6.cell? ⟨w.heap.size, 0, none⟩ = some (.int .i64 d) := (BoxAt.cell PB.out 0).trans rfl
  have kPB1 : v6.cell? ⟨w.heap.size, 1, none⟩ = some (.bool k) := (BoxAt.cell PB.out 1).trans rfl
  have kPB2 : v6.cell? ⟨w.heap.size, 2, none⟩ = some (.slice (some ⟨bb, off, none⟩) N xc) := (BoxAt.cell PB.out 2).trans rfl
  have kPB3 : v6.cell? ⟨w.heap.size, 3, none⟩ = some (.slice sa M sc) := (BoxAt.cell PB.out 3).trans rfl
  have kWB0 : v6.cell? ⟨v1.heap.size, 0, none⟩ = some (.int .i64 p) := (BoxAt.cell WB.out 0).trans rfl
  have kWB1 : v6.cell? ⟨v1.heap.size, 1, none⟩ = some (.int .i64 r) := (BoxAt.cell WB.out 1).trans rfl
  have kWB2 : v6.cell? ⟨v1.heap.size, 2, none⟩ = some (.int .i64 v) := (BoxAt.cell WB.out 2).trans rfl
  clear hb
  have HFB := hid (fun k hk => (HF.out.lt k hk).2)
  have FL4 := hid trivial
  have FL5 := hid trivial
  go_wp2_with (first
    | (have hfl := FL4.out
       refine wpList_new rfl 27 rfl _ Try.zeroWt ?_
       intro v7 b h z
       have FB := hid (show BoxAt v7 v6.heap.size 27 #[.int .i64 0, .int .i64 0, .int .i64 0] from b)
       have PB := hid (PB.out.belowAll h)
       have WB := hid (WB.out.belowAll h)
       have RB := hid (RB.out.belowAll h)
       have HF := hid (HF.out.below h)
       have HB := hid (HB.out.trans (h.mono HB.out.size))
       have hsv7 : v6.heap.size + 1 ≤ v7.heap.size := by first | exact h.size | omega
       clear kPB0 kPB1 kPB2 kPB3 kWB0 kWB1 kWB2
       have kPB0 : v7.cell? ⟨w.heap.size, 0, none⟩ = some (.int .i64 d) := (BoxAt.cell PB.out 0).trans rfl
       have kPB1 : v7.cell? ⟨w.heap.size, 1, none⟩ = some (.bool k) := (BoxAt.cell PB.out 1).trans rfl
       have kPB2 : v7.cell? ⟨w.heap.size, 2, none⟩ = some (.slice (some ⟨bb, off, none⟩) N xc) := (BoxAt.cell PB.out 2).trans rfl
       have kPB3 : v7.cell? ⟨w.heap.size, 3, none⟩ = some (.slice sa M sc) := (BoxAt.cell PB.out 3).trans rfl
       have kWB0 : v7.cell? ⟨v1.heap.size, 0, none⟩ = some (.int .i64 p) := (BoxAt.cell WB.out 0).trans rfl
       have kWB1 : v7.cell? ⟨v1.heap.size, 1, none⟩ = some (.int .i64 r) := (BoxAt.cell WB.out 1).trans rfl
       have kWB2 : v7.cell? ⟨v1.heap.size, 2, none⟩ = some (.int .i64 v) := (BoxAt.cell WB.out 2).trans rfl
       clear b h z hfl FL4)
    | (have hfl := FL5.out
       refine wpList_store_whole rfl 27 _ _ rfl rfl (v6.heap.size) rfl [.int .i64 0, .int .i64 0, .int .i64 0] rfl _ _ FB.out rfl Try.infoWt (by simp [Value.oneCell']) ?_
       intro v8 b g z
       have hsv8 : v7.heap.size ≤ v8.heap.size := by omega
       have HF := hid (HF.out.apart g (fun k hk => Nat.ne_of_lt (HFB.out k hk)))
       have FB := hid (show BoxAt v8 (v6.heap.size) 27 #[.int .i64 0, .int .i64 0, .int .i64 0] from b)
       have PB := hid (PB.out.grown g (fun e => by have := Option.some.inj e; omega))
       have WB := hid (WB.out.grown g (fun e => by have := Option.some.inj e; omega))
       have RB := hid (RB.out.grown g (fun e => by have := Option.some.inj e; omega))
       have HB := hid (HB.out.trans (grown_below g (by omega) (by omega)))
       clear kPB0 kPB1 kPB2 kPB3 kWB0 kWB1 kWB2
       have kPB0 : v8.cell? ⟨w.heap.size, 0, none⟩ = some (.int .i64 d) := (BoxAt.cell PB.out 0).trans rfl
       have kPB1 : v8.cell? ⟨w.heap.size, 1, none⟩ = some (.bool k) := (BoxAt.cell PB.out 1).trans rfl
       have kPB2 : v8.cell? ⟨w.heap.size, 2, none⟩ = some (.slice (some ⟨bb, off, none⟩) N xc) := (BoxAt.cell PB.out 2).trans rfl
       have kPB3 : v8.cell? ⟨w.heap.size, 3, none⟩ = some (.slice sa M sc) := (BoxAt.cell PB.out 3).trans rfl
       have kWB0 : v8.cell? ⟨v1.heap.size, 0, none⟩ = some (.int .i64 p) := (BoxAt.cell WB.out 0).trans rfl
       have kWB1 : v8.cell? ⟨v1.heap.size, 1, none⟩ = some (.int .i64 r) := (BoxAt.cell WB.out 1).trans rfl
       have kWB2 : v8.cell? ⟨v1.heap.size, 2, none⟩ = some (.int .i64 v) := (BoxAt.cell WB.out 2).trans rfl
       have kFB0 : v8.cell? ⟨v6.heap.size, 0, none⟩ = some (.int .i64 0) := (BoxAt.cell FB.out 0).trans rfl
       have kFB2 : v8.cell? ⟨v6.heap.size, 2, none⟩ = some (.int .i64 0) := (BoxAt.cell FB.out 2).trans rfl
       clear b g z hfl FL5
       refine Hid.out ?_)
    | fail)
  refine hid ?_
  clear kPB0 kPB1 kPB2 kPB3 kWB0 kWB1 kWB2 kFB0 kFB2
  have kPB0 : v8.cell? ⟨w.heap.size, 0, none⟩ = some (.int .i64 d) := (BoxAt.cell PB.out 0).trans rfl
  have kPB1 : v8.cell? ⟨w.heap.size, 1, none⟩ = some (.bool k) := (BoxAt.cell PB.out 1).trans rfl
  have kPB2 : v8.cell? ⟨w.heap.size, 2, none⟩ = some (.slice (some ⟨bb, off, none⟩) N xc) := (BoxAt.cell PB.out 2).trans rfl
  have kPB3 : v8.cell? ⟨w.heap.size, 3, none⟩ = some (.slice sa M sc) := (BoxAt.cell PB.out 3).trans rfl
  have kWB0 : v8.cell? ⟨v1.heap.size, 0, none⟩ = some (.int .i64 p) := (BoxAt.cell WB.out 0).trans rfl
  have kWB1 : v8.cell? ⟨v1.heap.size, 1, none⟩ = some (.int .i64 r) := (BoxAt.cell WB.out 1).trans rfl
  have kWB2 : v8.cell? ⟨v1.heap.size, 2, none⟩ = some (.int .i64 v) := (BoxAt.cell WB.out 2).trans rfl
  have kFB0 : v8.cell? ⟨v6.heap.size, 0, none⟩ = some (.int .i64 0) := (BoxAt.cell FB.out 0).trans rfl
  have kFB2 : v8.cell? ⟨v6.heap.size, 2, none⟩ = some (.int .i64 0) := (BoxAt.cell FB.out 2).trans rfl
  go_wp2_with fail
  have HBsx := HB.out.size
  refine (qclone_int (HG.out.below HB.out) (by have := HK.out; have := HKN.out; omega)).mono ?_
  rintro e v9 ⟨ux, rfl, hu, hb⟩
  have PB := hid (PB.out.belowAll hb)
  have WB := hid (WB.out.belowAll hb)
  have RB := hid (RB.out.belowAll hb)
  have FB := hid (FB.out.belowAll hb)
  have HF := hid (HF.out.below hb)
  have HB := hid (HB.out.trans (hb.mono HB.out.size))
  have hsv9 : v8.heap.size ≤ v9.heap.size := by first | exact hb.size | omega
  obtain ⟨x, rfl, -⟩ := hu.sl
  have HC := hid (hu.mono HBsx)
  clear hu HBsx
  clear kPB0 kPB1 kPB2 kPB3 kWB0 kWB1 kWB2 kFB0 kFB2
  have kPB0 : v9.cell? ⟨w.heap.size, 0, none⟩ = some (.int .i64 d) := (BoxAt.cell PB.out 0).trans rfl
  have kPB1 : v9.cell? ⟨w.heap.size, 1, none⟩ = some (.bool k) := (BoxAt.cell PB.out 1).trans rfl
  have kPB2 : v9.cell? ⟨w.heap.size, 2, none⟩ = some (.slice (some ⟨bb, off, none⟩) N xc) := (BoxAt.cell PB.out 2).trans rfl
  have kPB3 : v9.cell? ⟨w.heap.size, 3, none⟩ = some (.slice sa M sc) := (BoxAt.cell PB.out 3).trans rfl
  have kWB0 : v9.cell? ⟨v1.heap.size, 0, none⟩ = some (.int .i64 p) := (BoxAt.cell WB.out 0).trans rfl
  have kWB1 : v9.cell? ⟨v1.heap.size, 1, none⟩ = some (.int .i64 r) := (BoxAt.cell WB.out 1).trans rfl
  have kWB2 : v9.cell? ⟨v1.heap.size, 2, none⟩ = some (.int .i64 v) := (BoxAt.cell WB.out 2).trans rfl
  have kFB0 : v9.cell? ⟨v6.heap.size, 0, none⟩ = some (.int .i64 0) := (BoxAt.cell FB.out 0).trans rfl
  have kFB2 : v9.cell? ⟨v6.heap.size, 2, none⟩ = some (.int .i64 0) := (BoxAt.cell FB.out 2).trans rfl
  clear hb
  have FL6 := hid trivial
  have FL7 := hid trivial
  have FL8 := hid trivial
  go_wp2_with (first
    | (have hfl := FL6.out
       refine wpList_store_box rfl 22 _ _ rfl rfl (w.heap.size) 2 (.slice x.a x.n x.c) rfl rfl rfl rfl (by kernel_rfl) _ _ PB.out (by simp) ?_
       intro v10 b g z
       have hsv10 : v9.heap.size ≤ v10.heap.size := by omega
       have HF := hid (HF.out.put g PB.out (by decide))
       have HC := hid (HC.out.put g PB.out (by decide))
       have PB := hid (show BoxAt v10 (w.heap.size) 25 #[.int .i64 d, .bool k, .slice x.a x.n x.c, .slice sa M sc] from by simpa using b)
       have WB := hid (WB.out.grown g (fun e => by have := Option.some.inj e; omega))
       have RB := hid (RB.out.grown g (fun e => by have := Option.some.inj e; omega))
       have FB := hid (FB.out.grown g (fun e => by have := Option.some.inj e; omega))
       have HB := hid (HB.out.trans (grown_below g (by omega) (by omega)))
       clear kPB0 kPB1 kPB2 kPB3 kWB0 kWB1 kWB2 kFB0 kFB2
       have kPB0 : v10.cell? ⟨w.heap.size, 0, none⟩ = some (.int .i64 d) := (BoxAt.cell PB.out 0).trans rfl
       have kPB1 : v10.cell? ⟨w.heap.size, 1, none⟩ = some (.bool k) := (BoxAt.cell PB.out 1).trans rfl
       have kPB2 : v10.cell? ⟨w.heap.size, 2, none⟩ = some (.slice x.a x.n x.c) := (BoxAt.cell PB.out 2).trans rfl
       have kPB3 : v10.cell? ⟨w.heap.size, 3, none⟩ = some (.slice sa M sc) := (BoxAt.cell PB.out 3).trans rfl
       have kWB0 : v10.cell? ⟨v1.heap.size, 0, none⟩ = some (.int .i64 p) := (BoxAt.cell WB.out 0).trans rfl
       have kWB1 : v10.cell? ⟨v1.heap.size, 1, none⟩ = some (.int .i64 r) := (BoxAt.cell WB.out 1).trans rfl
       have kWB2 : v10.cell? ⟨v1.heap.size, 2, none⟩ = some (.int .i64 v) := (BoxAt.cell WB.out 2).trans rfl
       have kFB0 : v10.cell? ⟨v6.heap.size, 0, none⟩ = some (.int .i64 0) := (BoxAt.cell FB.out 0).trans rfl
       have kFB2 : v10.cell? ⟨v6.heap.size, 2, none⟩ = some (.int .i64 0) := (BoxAt.cell FB.out 2).trans rfl
       clear b g z hfl FL6)
    | (have hfl := FL7.out
       refine wpList_store_box rfl 23 _ _ rfl rfl (w.heap.size) 3 (.slice none 0 0) rfl rfl rfl rfl (by kernel_rfl) _ _ PB.out (by simp) ?_
       intro v11 b g z
       have hsv11 : v10.heap.size ≤ v11.heap.size := by omega
       have HF := hid (HF.out.put g PB.out (by decide))
       have HC := hid (HC.out.put g PB.out (by decide))
       have PB := hid (show BoxAt v11 (w.heap.size) 25 #[.int .i64 d, .bool k, .slice x.a x.n x.c, .slice none 0 0] from by simpa using b)
       have WB := hid (WB.out.grown g (fun e => by have := Option.some.inj e; omega))
       have RB := hid (RB.out.grown g (fun e => by have := Option.some.inj e; omega))
       have FB := hid (FB.out.grown g (fun e => by have := Option.some.inj e; omega))
       have HB := hid (HB.out.trans (grown_below g (by omega) (by omega)))
       clear kPB0 kPB1 kPB2 kPB3 kWB0 kWB1 kWB2 kFB0 kFB2
       have kPB0 : v11.cell? ⟨w.heap.size, 0, none⟩ = some (.int .i64 d) := (BoxAt.cell PB.out 0).trans rfl
       have kPB1 : v11.cell? ⟨w.heap.size, 1, none⟩ = some (.bool k) := (BoxAt.cell PB.out 1).trans rfl
       have kPB2 : v11.cell? ⟨w.heap.size, 2, none⟩ = some (.slice x.a x.n x.c) := (BoxAt.cell PB.out 2).trans rfl
       have kPB3 : v11.cell? ⟨w.heap.size, 3, none⟩ = some (.slice none 0 0) := (BoxAt.cell PB.out 3).trans rfl
       have kWB0 : v11.cell? ⟨v1.heap.size, 0, none⟩ = some (.int .i64 p) := (BoxAt.cell WB.out 0).trans rfl
       have kWB1 : v11.cell? ⟨v1.heap.size, 1, none⟩ = some (.int .i64 r) := (BoxAt.cell WB.out 1).trans rfl
       have kWB2 : v11.cell? ⟨v1.heap.size, 2, none⟩ = some (.int .i64 v) := (BoxAt.cell WB.out 2).trans rfl
       have kFB0 : v11.cell? ⟨v6.heap.size, 0, none⟩ = some (.int .i64 0) := (BoxAt.cell FB.out 0).trans rfl
       have kFB2 : v11.cell? ⟨v6.heap.size, 2, none⟩ = some (.int .i64 0) := (BoxAt.cell FB.out 2).trans rfl
       clear b g z hfl FL7)
    | (refine wpList_load_box rfl 25 _ rfl (w.heap.size) rfl _ _ PB.out _ Try.underlying25 Try.infoBf ?_)
    | (have hfl := FL8.out
       refine wpList_store_whole rfl 25 _ _ rfl rfl (v2.heap.size) rfl [.int .i64 d, .bool k, .slice x.a x.n x.c, .slice none 0 0] rfl _ _ RB.out rfl Try.infoBf (by simp [Value.oneCell']) ?_
       intro v12 b g z
       have hsv12 : v11.heap.size ≤ v12.heap.size := by omega
       have HF := hid (HF.out.put g RB.out (by decide))
       have HC := hid (HC.out.put g RB.out (by decide))
       have RB := hid (show BoxAt v12 (v2.heap.size) 25 #[.int .i64 d, .bool k, .slice x.a x.n x.c, .slice none 0 0] from b)
       have PB := hid (PB.out.grown g (fun e => by have := Option.some.inj e; omega))
       have WB := hid (WB.out.grown g (fun e => by have := Option.some.inj e; omega))
       have FB := hid (FB.out.grown g (fun e => by have := Option.some.inj e; omega))
       have HB := hid (HB.out.trans (grown_below g (by omega) (by omega)))
       clear kPB0 kPB1 kPB2 kPB3 kWB0 kWB1 kWB2 kFB0 kFB2
       have kPB0 : v12.cell? ⟨w.heap.size, 0, none⟩ = some (.int .i64 d) := (BoxAt.cell PB.out 0).trans rfl
       have kPB1 : v12.cell? ⟨w.heap.size, 1, none⟩ = some (.bool k) := (BoxAt.cell PB.out 1).trans rfl
       have kPB2 : v12.cell? ⟨w.heap.size, 2, none⟩ = some (.slice x.a x.n x.c) := (BoxAt.cell PB.out 2).trans rfl
       have kPB3 : v12.cell? ⟨w.heap.size, 3, none⟩ = some (.slice none 0 0) := (BoxAt.cell PB.out 3).trans rfl
       have kWB0 : v12.cell? ⟨v1.heap.size, 0, none⟩ = some (.int .i64 p) := (BoxAt.cell WB.out 0).trans rfl
       have kWB1 : v12.cell? ⟨v1.heap.size, 1, none⟩ = some (.int .i64 r) := (BoxAt.cell WB.out 1).trans rfl
       have kWB2 : v12.cell? ⟨v1.heap.size, 2, none⟩ = some (.int .i64 v) := (BoxAt.cell WB.out 2).trans rfl
       have kFB0 : v12.cell? ⟨v6.heap.size, 0, none⟩ = some (.int .i64 0) := (BoxAt.cell FB.out 0).trans rfl
       have kFB2 : v12.cell? ⟨v6.heap.size, 2, none⟩ = some (.int .i64 0) := (BoxAt.cell FB.out 2).trans rfl
       clear b g z hfl FL8)
    | fail)
  refine bodyPost_ret (results_box_tmp3 rfl _ _ (v2.heap.size) 25 _ (0, 0) _ rfl RB.out Try.underlying25 rfl Try.infoBf) rfl ?_
  exact ⟨x, ⟨none, 0, 0⟩, ⟨none, 0, 0⟩, rfl, HC.out, OWt.nil _ _, OWk.nil _ _, HB.out⟩

set_option maxRecDepth 100000 in
set_option maxHeartbeats 1600000 in
theorem take_some (d : Int) (k : Bool) {vs s : Sl} {xs : List Int} {l : List Wt} (p r v : Int) (e0 : Int) (fp fr fv : Int) (may : Bool) {w : World} (hv : Sees w .i64 vs.val xs) (hs : SeesWt w s.val l) (hx : xs.length ≤ 800000) (hl : l.length ≤ 800000) (h0 : 0 < xs.length) (he : xs.getD 0 0 = e0) (h1 : 0 < l.length) (hf : l.getD 0 Wt.zero = ⟨fp, fr, fv⟩) :
    Calls Try.prog 13 #[BfV.val ⟨d, k, vs, s⟩, .agg #[.int .i64 p, .int .i64 r, .int .i64 v], .bool may] w fun e w' => ∃ (x u q : Sl), e = .returned (.tuple #[BfV.val ⟨d, k, x, u⟩, .int .i64 (0), .int .i64 (e0), q.val]) ∧ OI w' w.heap.size x.val (xs.drop 1 ++ [fv]) ∧ OWt w' w.heap.size u.val (l.drop 1) ∧ OWk w' w.heap.size q.val ([⟨fp, 0, 0⟩]) ∧ Below w.heap.size w w' := by
  have HX := hid hv
  have HV := hid hs
  obtain ⟨a1, c1, hv1, hx1, hx2, hxc⟩ := hv.form
  obtain ⟨xa, xn, xc⟩ := vs
  simp only [Sl.val, Value.slice.injEq] at hv1
  obtain ⟨rfl, rfl, rfl⟩ := hv1
  obtain ⟨a2, c2, hs1, hc1, hc2, -⟩ := hs.form
  obtain ⟨sa, sn, sc⟩ := s
  simp only [Sl.val, Value.slice.injEq] at hs1
  obtain ⟨rfl, rfl, rfl⟩ := hs1
  unfold maxLen at hx2 hc2
  simp only [Sl.val] at HX HV
  have HXC := hid hxc
  clear hv hs hxc
  unfold BfV.val
  simp only
  obtain ⟨N, hN⟩ : ∃ N, xs.length = N := ⟨_, rfl⟩
  obtain ⟨M, hM⟩ : ∃ M, l.length = M := ⟨_, rfl⟩
  have HN := hid hN
  have HM := hid hM
  have HXL := hid hx
  have HL := hid hl
  rw [hN] at hx hx1 HX HXC ⊢
  rw [hM] at hl hc1 HV ⊢
  have H0 := hid h0
  have H1 := hid h1
  have t0 : ((N : Int) == 0) = false := beq_eq_false_iff_ne.2 (by omega)
  rw [hN] at h0
  obtain ⟨bb, off, rfl, hbw, hcell⟩ := HXC.out (by omega)
  have hc0 := hcell 0 (by omega)
  rw [he, Nat.add_zero] at hc0
  have C0 := hid hc0
  clear hcell hc0 he
  have h1i : (1 : Int) ≤ (N : Int) := by omega
  clear hN hM h1
  have HB := hid (Below.refl w.heap.size w)
  go_enter Try.func13, Try.ntmps13
  have FL1 := hid trivial
  have FL2 := hid trivial
  have FL3 := hid trivial
  go_wp2_with (first
    | (have hfl := FL1.out
       refine wpList_box rfl 25 (.tmp 0) rfl #[.int .i64 d, .bool k, .slice (some ⟨bb, off, none⟩) N xc, .slice sa M sc] rfl ?_
       intro v1 b h z
       have PB := hid (show BoxAt v1 w.heap.size 25 #[.int .i64 d, .bool k, .slice (some ⟨bb, off, none⟩) N xc, .slice sa M sc] from b)
       have HB := hid (HB.out.trans (h.mono HB.out.size))
       have hsv1 : w.heap.size + 1 ≤ v1.heap.size := by first | exact h.size | omega
       clear b h z hfl FL1)
    | (have hfl := FL2.out
       refine wpList_box rfl 27 (.tmp 1) rfl #[.int .i64 p, .int .i64 r, .int .i64 v] rfl ?_
       intro v2 b h z
       have WB := hid (show BoxAt v2 v1.heap.size 27 #[.int .i64 p, .int .i64 r, .int .i64 v] from b)
       have PB := hid (PB.out.belowAll h)
       have HB := hid (HB.out.trans (h.mono HB.out.size))
       have hsv2 : v1.heap.size + 1 ≤ v2.heap.size := by first | exact h.size | omega
       have kPB0 : v2.cell? ⟨w.heap.size, 0, none⟩ = some (.int .i64 d) := (BoxAt.cell PB.out 0).trans rfl
       have kPB1 : v2.cell? ⟨w.heap.size, 1, none⟩ = some (.bool k) := (BoxAt.cell PB.out 1).trans rfl
       have kPB2 : v2.cell? ⟨w.heap.size, 2, none⟩ = some (.slice (some ⟨bb, off, none⟩) N xc) := (BoxAt.cell PB.out 2).trans rfl
       have kPB3 : v2.cell? ⟨w.heap.size, 3, none⟩ = some (.slice sa M sc) := (BoxAt.cell PB.out 3).trans rfl
       clear b h z hfl FL2)
    | (have hfl := FL3.out
       refine wpList_new rfl 25 rfl _ Try.zeroBf ?_
       intro v3 b h z
       have RB := hid (show BoxAt v3 v2.heap.size 25 #[.int .i64 0, .bool false, .slice none 0 0, .slice none 0 0] from b)
       have PB := hid (PB.out.belowAll h)
       have WB := hid (WB.out.belowAll h)
       have HB := hid (HB.out.trans (h.mono HB.out.size))
       have hsv3 : v2.heap.size + 1 ≤ v3.heap.size := by first | exact h.size | omega
       clear kPB0 kPB1 kPB2 kPB3
       have kPB0 : v3.cell? ⟨w.heap.size, 0, none⟩ = some (.int .i64 d) := (BoxAt.cell PB.out 0).trans rfl
       have kPB1 : v3.cell? ⟨w.heap.size, 1, none⟩ = some (.bool k) := (BoxAt.cell PB.out 1).trans rfl
       have kPB2 : v3.cell? ⟨w.heap.size, 2, none⟩ = some (.slice (some ⟨bb, off, none⟩) N xc) := (BoxAt.cell PB.out 2).trans rfl
       have kPB3 : v3.cell? ⟨w.heap.size, 3, none⟩ = some (.slice sa M sc) := (BoxAt.cell PB.out 3).trans rfl
       have kWB0 : v3.cell? ⟨v1.heap.size, 0, none⟩ = some (.int .i64 p) := (BoxAt.cell WB.out 0).trans rfl
       have kWB1 : v3.cell? ⟨v1.heap.size, 1, none⟩ = some (.int .i64 r) := (BoxAt.cell WB.out 1).trans rfl
       have kWB2 : v3.cell? ⟨v1.heap.size, 2, none⟩ = some (.int .i64 v) := (BoxAt.cell WB.out 2).trans rfl
       clear b h z hfl FL3
       refine Hid.out ?_)
    | fail)
  refine hid ?_
  clear kPB0 kPB1 kPB2 kPB3 kWB0 kWB1 kWB2
  have kPB0 : v3.cell? ⟨w.heap.size, 0, none⟩ = some (.int .i64 d) := (BoxAt.cell PB.out 0).trans rfl
  have kPB1 : v3.cell? ⟨w.heap.size, 1, none⟩ = some (.bool k) := (BoxAt.cell PB.out 1).trans rfl
  have kPB2 : v3.cell? ⟨w.heap.size, 2, none⟩ = some (.slice (some ⟨bb, off, none⟩) N xc) := (BoxAt.cell PB.out 2).trans rfl
  have kPB3 : v3.cell? ⟨w.heap.size, 3, none⟩ = some (.slice sa M sc) := (BoxAt.cell PB.out 3).trans rfl
  have kWB0 : v3.cell? ⟨v1.heap.size, 0, none⟩ = some (.int .i64 p) := (BoxAt.cell WB.out 0).trans rfl
  have kWB1 : v3.cell? ⟨v1.heap.size, 1, none⟩ = some (.int .i64 r) := (BoxAt.cell WB.out 1).trans rfl
  have kWB2 : v3.cell? ⟨v1.heap.size, 2, none⟩ = some (.int .i64 v) := (BoxAt.cell WB.out 2).trans rfl
  go_wp2_with fail
  clear kPB0 kPB1 kPB2 kPB3 kWB0 kWB1 kWB2
  have PB := hid (BoxAt.drew PB.out)
  have WB := hid (BoxAt.drew WB.out)
  have RB := hid (BoxAt.drew RB.out)
  have HB := hid HB.out.drew
  have hsv4 : v3.heap.size ≤ v3.drew.heap.size := Nat.le_refl _
  refine wp_region_held_drew (S := (fun w' : World => BoxAt w' (w.heap.size) 25 #[.int .i64 d, .bool k, .slice (some ⟨bb, off, none⟩) N xc, .slice sa M sc] ∧ w'.cell? ⟨bb, off, none⟩ = some (.int .i64 e0))) (by kernel_rfl) (⟨PB.out, (HB.out.cell (by exact hbw)).trans C0.out⟩) (fun hHeld => ?_)
  generalize v3.drew = v4 at *
  refine wpAnyH_take (i := 0) (oi := { dst := some 30, op := Op.fieldAddr 25 (Operand.tmp 3) 2, type := 0, pos := "buffer.go:32", after := _, guard := none }) (v := ?_) rfl (by kernel_rfl) (by kernel_rfl) (by kernel_rfl) (fun _ _ _ h => h) (Or.inl ⟨by rfl, ?_⟩) (by assumption) ?_
  rotate_left
  · (intro w hSw; (try dsimp only at hSw); go_simp; try with_reducible rfl)
  simp only [Act.put, List.setIfInBounds_toArray, List.set_cons_zero, List.set_cons_succ]
  refine wpAnyH_take (i := 1) (oi := { dst := some 31, op := Op.load 22 (Operand.tmp 30), type := 22, pos := "buffer.go:32", after := _, guard := none }) (v := ?_) rfl (by kernel_rfl) (by kernel_rfl) (by kernel_rfl) (fun _ _ _ h => h) (Or.inl ⟨by rfl, ?_⟩) (by assumption) ?_
  rotate_left
  · (intro W hSw; (try dsimp only at hSw); obtain ⟨x0, x1⟩ := hSw; have c0_0 : W.cell? ⟨w.heap.size, 0, none⟩ = some (.int .i64 d) := (BoxAt.cell x0 0).trans rfl; have c0_1 : W.cell? ⟨w.heap.size, 1, none⟩ = some (.bool k) := (BoxAt.cell x0 1).trans rfl; have c0_2 : W.cell? ⟨w.heap.size, 2, none⟩ = some (.slice (some ⟨bb, off, none⟩) N xc) := (BoxAt.cell x0 2).trans rfl; have c0_3 : W.cell? ⟨w.heap.size, 3, none⟩ = some (.slice sa M sc) := (BoxAt.cell x0 3).trans rfl; clear x0; go_simp; try with_reducible rfl)
  simp only [Act.put, List.setIfInBounds_toArray, List.set_cons_zero, List.set_cons_succ]
  refine wpAnyH_take (i := 2) (oi := { dst := some 32, op := Op.indexAddr 22 (Operand.tmp 31) (Operand.const (Value.int IntKind.i64 0)), type := 0, pos := "buffer.go:32", after := _, guard := none }) (v := ?_) rfl (by kernel_rfl) (by kernel_rfl) (by kernel_rfl) (fun _ _ _ h => h) (Or.inl ⟨by rfl, ?_⟩) (by assumption) ?_
  rotate_left
  · (intro w hSw; (try dsimp only at hSw); go_simp; try with_reducible rfl)
  simp only [Act.put, List.setIfInBounds_toArray, List.set_cons_zero, List.set_cons_succ]
  refine wpAnyH_take (i := 3) (oi := { dst := some 33, op := Op.load 3 (Operand.tmp 32), type := 3, pos := "buffer.go:32", after := _, guard := none }) (v := ?_) rfl (by kernel_rfl) (by kernel_rfl) (by kernel_rfl) (fun _ _ _ h => h) (Or.inl ⟨by rfl, ?_⟩) (by assumption) ?_
  rotate_left
  · (intro W hSw; (try dsimp only at hSw); obtain ⟨x0, x1⟩ := hSw; have c0_0 : W.cell? ⟨w.heap.size, 0, none⟩ = some (.int .i64 d) := (BoxAt.cell x0 0).trans rfl; have c0_1 : W.cell? ⟨w.heap.size, 1, none⟩ = some (.bool k) := (BoxAt.cell x0 1).trans rfl; have c0_2 : W.cell? ⟨w.heap.size, 2, none⟩ = some (.slice (some ⟨bb, off, none⟩) N xc) := (BoxAt.cell x0 2).trans rfl; have c0_3 : W.cell? ⟨w.heap.size, 3, none⟩ = some (.slice sa M sc) := (BoxAt.cell x0 3).trans rfl; clear x0; go_simp; try with_reducible rfl)
  simp only [Act.put, List.setIfInBounds_toArray, List.set_cons_zero, List.set_cons_succ]
  refine wpAnyH_take (i := 4) (oi := { dst := some 34, op := Op.fieldAddr 25 (Operand.tmp 3) 2, type := 0, pos := "buffer.go:32", after := _, guard := none }) (v := ?_) rfl (by kernel_rfl) (by kernel_rfl) (by kernel_rfl) (fun _ _ _ h => h) (Or.inl ⟨by rfl, ?_⟩) (by assumption) ?_
  rotate_left
  · (intro w hSw; (try dsimp only at hSw); go_simp; try with_reducible rfl)
  simp only [Act.put, List.setIfInBounds_toArray, List.set_cons_zero, List.set_cons_succ]
  refine wpAnyH_take (i := 5) (oi := { dst := some 35, op := Op.load 22 (Operand.tmp 34), type := 22, pos := "buffer.go:32", after := _, guard := none }) (v := ?_) rfl (by kernel_rfl) (by kernel_rfl) (by kernel_rfl) (fun _ _ _ h => h) (Or.inl ⟨by rfl, ?_⟩) (by assumption) ?_
  rotate_left
  · (intro W hSw; (try dsimp only at hSw); obtain ⟨x0, x1⟩ := hSw; have c0_0 : W.cell? ⟨w.heap.size, 0, none⟩ = some (.int .i64 d) := (BoxAt.cell x0 0).trans rfl; have c0_1 : W.cell? ⟨w.heap.size, 1, none⟩ = some (.bool k) := (BoxAt.cell x0 1).trans rfl; have c0_2 : W.cell? ⟨w.heap.size, 2, none⟩ = some (.slice (some ⟨bb, off, none⟩) N xc) := (BoxAt.cell x0 2).trans rfl; have c0_3 : W.cell? ⟨w.heap.size, 3, none⟩ = some (.slice sa M sc) := (BoxAt.cell x0 3).trans rfl; clear x0; go_simp; try with_reducible rfl)
  simp only [Act.put, List.setIfInBounds_toArray, List.set_cons_zero, List.set_cons_succ]
  refine wpAnyH_ready (rs := [6]) (by kernel_rfl) (by simp) (AllReadyH.cons (o := { dst := some 36, op := Op.call { callee := Callee.value (Operand.func 17), args := #[Operand.tmp 35, Operand.const (Value.int IntKind.i64 1)], argTypes := #[22, 3] }, type := 22, pos := "buffer.go:32", after := _, guard := none }) rfl (fun K1007 hK1007 => ?_) AllReadyH.nil)
  go_simp
  refine (from_left1 HX.out HN.out (by have := H0.out; have := HN.out; omega)).mono ?_
  rintro e v5 ⟨ga, K, rfl, hk1, hk2, hu, hb⟩
  have PB := hid (PB.out.belowAll hb)
  have WB := hid (WB.out.belowAll hb)
  have RB := hid (RB.out.belowAll hb)
  have HB := hid (HB.out.trans (hb.mono HB.out.size))
  have hsv5 : v4.heap.size ≤ v5.heap.size := by first | exact hb.size | omega
  have HG := hid hu
  have HK := hid hk2
  have HKN := hid hk1
  clear hu hk1 hk2
  clear hb
  refine hK1007.out _ _ (⟨PB.out, (HB.out.cell (by exact hbw)).trans C0.out⟩) (fun hHeld1007 => ?_)
  clear hK1007 K1007
  try simp only [Act.put, List.setIfInBounds_toArray, List.set_cons_zero, List.set_cons_succ]
  refine wpAnyH_take (i := 7) (oi := { dst := some 12, op := Op.assign (Operand.tmp 33), type := 3, pos := "buffer.go:32", after := _, guard := none }) (v := ?_) rfl (by kernel_rfl) (by kernel_rfl) (by kernel_rfl) (fun _ _ _ h => h) (Or.inl ⟨by rfl, ?_⟩) (by assumption) ?_
  rotate_left
  · (intro w hSw; (try dsimp only at hSw); go_simp; try with_reducible rfl)
  simp only [Act.put, List.setIfInBounds_toArray, List.set_cons_zero, List.set_cons_succ]
  refine wpAnyH_take (i := 8) (oi := { dst := some 13, op := Op.assign (Operand.tmp 36), type := 22, pos := "buffer.go:32", after := _, guard := none }) (v := ?_) rfl (by kernel_rfl) (by kernel_rfl) (by kernel_rfl) (fun _ _ _ h => h) (Or.inl ⟨by rfl, ?_⟩) (by assumption) ?_
  rotate_left
  · (intro w hSw; (try dsimp only at hSw); go_simp; try with_reducible rfl)
  simp only [Act.put, List.setIfInBounds_toArray, List.set_cons_zero, List.set_cons_succ]
  refine wpAnyH_done (by kernel_rfl) ?_ _
  clear hHeld hHeld1007
  have kPB0 : v5.cell? ⟨w.heap.size, 0, none⟩ = some (.int .i64 d) := (BoxAt.cell PB.out 0).trans rfl
  have kPB1 : v5.cell? ⟨w.heap.size, 1, none⟩ = some (.bool k) := (BoxAt.cell PB.out 1).trans rfl
  have kPB2 : v5.cell? ⟨w.heap.size, 2, none⟩ = some (.slice (some ⟨bb, off, none⟩) N xc) := (BoxAt.cell PB.out 2).trans rfl
  have kPB3 : v5.cell? ⟨w.heap.size, 3, none⟩ = some (.slice sa M sc) := (BoxAt.cell PB.out 3).trans rfl
  have kWB0 : v5.cell? ⟨v1.heap.size, 0, none⟩ = some (.int .i64 p) := (BoxAt.cell WB.out 0).trans rfl
  have kWB1 : v5.cell? ⟨v1.heap.size, 1, none⟩ = some (.int .i64 r) := (BoxAt.cell WB.out 1).trans rfl
  have kWB2 : v5.cell? ⟨v1.heap.size, 2, none⟩ = some (.int .i64 v) := (BoxAt.cell WB.out 2).trans rfl
  go_wp2_with fail
  have HBf := HB.out.size
  refine (first_yes (HV.out.below HB.out) HL.out H1.out fp fr fv hf).mono ?_
  rintro e v6 ⟨f, rfl, hu, hb⟩
  have PB := hid (PB.out.belowAll hb)
  have WB := hid (WB.out.belowAll hb)
  have RB := hid (RB.out.belowAll hb)
  have HB := hid (HB.out.trans (hb.mono HB.out.size))
  have hsv6 : v5.heap.size ≤ v6.heap.size := by first | exact hb.size | omega
  have HF := hid (hu.mono HBf)
  clear hu HBf
  clear kPB0 kPB1 kPB2 kPB3 kWB0 kWB1 kWB2
  have kPB0 : v6.cell? ⟨w.heap.size, 0, none⟩ = some (.int .i64 d) := (BoxAt.cell PB.out 0).trans rfl
  have kPB1 : v6.cell? ⟨w.heap.size, 1, none⟩ = some (.bool k) := (BoxAt.cell PB.out 1).trans rfl
  have kPB2 : v6.cell? ⟨w.heap.size, 2, none⟩ = some (.slice (some ⟨bb, off, none⟩) N xc) := (BoxAt.cell PB.out 2).trans rfl
  have kPB3 : v6.cell? ⟨w.heap.size, 3, none⟩ = some (.slice sa M sc) := (BoxAt.cell PB.out 3).trans rfl
  have kWB0 : v6.cell? ⟨v1.heap.size, 0, none⟩ = some (.int .i64 p) := (BoxAt.cell WB.out 0).trans rfl
  have kWB1 : v6.cell? ⟨v1.heap.size, 1, none⟩ = some (.int .i64 r) := (BoxAt.cell WB.out 1).trans rfl
  have kWB2 : v6.cell? ⟨v1.heap.size, 2, none⟩ = some (.int .i64 v) := (BoxAt.cell WB.out 2).trans rfl
  clear hb
  have HFB := hid (fun k hk => (HF.out.lt k hk).2)
  have FL4 := hid trivial
  have FL5 := hid trivial
  go_wp2_with (first
    | (have hfl := FL4.out
       refine wpList_new rfl 27 rfl _ Try.zeroWt ?_
       intro v7 b h z
       have FB := hid (show BoxAt v7 v6.heap.size 27 #[.int .i64 0, .int .i64 0, .int .i64 0] from b)
       have PB := hid (PB.out.belowAll h)
       have WB := hid (WB.out.belowAll h)
       have RB := hid (RB.out.belowAll h)
       have HF := hid (HF.out.below h)
       have HB := hid (HB.out.trans (h.mono HB.out.size))
       have hsv7 : v6.heap.size + 1 ≤ v7.heap.size := by first | exact h.size | omega
       clear kPB0 kPB1 kPB2 kPB3 kWB0 kWB1 kWB2
       have kPB0 : v7.cell? ⟨w.heap.size, 0, none⟩ = some (.int .i64 d) := (BoxAt.cell PB.out 0).trans rfl
       have kPB1 : v7.cell? ⟨w.heap.size, 1, none⟩ = some (.bool k) := (BoxAt.cell PB.out 1).trans rfl
       have kPB2 : v7.cell? ⟨w.heap.size, 2, none⟩ = some (.slice (some ⟨bb, off, none⟩) N xc) := (BoxAt.cell PB.out 2).trans rfl
       have kPB3 : v7.cell? ⟨w.heap.size, 3, none⟩ = some (.slice sa M sc) := (BoxAt.cell PB.out 3).trans rfl
       have kWB0 : v7.cell? ⟨v1.heap.size, 0, none⟩ = some (.int .i64 p) := (BoxAt.cell WB.out 0).trans rfl
       have kWB1 : v7.cell? ⟨v1.heap.size, 1, none⟩ = some (.int .i64 r) := (BoxAt.cell WB.out 1).trans rfl
       have kWB2 : v7.cell? ⟨v1.heap.size, 2, none⟩ = some (.int .i64 v) := (BoxAt.cell WB.out 2).trans rfl
       clear b h z hfl FL4)
    | (have hfl := FL5.out
       refine wpList_store_whole rfl 27 _ _ rfl rfl (v6.heap.size) rfl [.int .i64 fp, .int .i64 fr, .int .i64 fv] rfl _ _ FB.out rfl Try.infoWt (by simp [Value.oneCell']) ?_
       intro v8 b g z
       have hsv8 : v7.heap.size ≤ v8.heap.size := by omega
       have HF := hid (HF.out.apart g (fun k hk => Nat.ne_of_lt (HFB.out k hk)))
       have FB := hid (show BoxAt v8 (v6.heap.size) 27 #[.int .i64 fp, .int .i64 fr, .int .i64 fv] from b)
       have PB := hid (PB.out.grown g (fun e => by have := Option.some.inj e; omega))
       have WB := hid (WB.out.grown g (fun e => by have := Option.some.inj e; omega))
       have RB := hid (RB.out.grown g (fun e => by have := Option.some.inj e; omega))
       have HB := hid (HB.out.trans (grown_below g (by omega) (by omega)))
       clear kPB0 kPB1 kPB2 kPB3 kWB0 kWB1 kWB2
       have kPB0 : v8.cell? ⟨w.heap.size, 0, none⟩ = some (.int .i64 d) := (BoxAt.cell PB.out 0).trans rfl
       have kPB1 : v8.cell? ⟨w.heap.size, 1, none⟩ = some (.bool k) := (BoxAt.cell PB.out 1).trans rfl
       have kPB2 : v8.cell? ⟨w.heap.size, 2, none⟩ = some (.slice (some ⟨bb, off, none⟩) N xc) := (BoxAt.cell PB.out 2).trans rfl
       have kPB3 : v8.cell? ⟨w.heap.size, 3, none⟩ = some (.slice sa M sc) := (BoxAt.cell PB.out 3).trans rfl
       have kWB0 : v8.cell? ⟨v1.heap.size, 0, none⟩ = some (.int .i64 p) := (BoxAt.cell WB.out 0).trans rfl
       have kWB1 : v8.cell? ⟨v1.heap.size, 1, none⟩ = some (.int .i64 r) := (BoxAt.cell WB.out 1).trans rfl
       have kWB2 : v8.cell? ⟨v1.heap.size, 2, none⟩ = some (.int .i64 v) := (BoxAt.cell WB.out 2).trans rfl
       have kFB0 : v8.cell? ⟨v6.heap.size, 0, none⟩ = some (.int .i64 fp) := (BoxAt.cell FB.out 0).trans rfl
       have kFB2 : v8.cell? ⟨v6.heap.size, 2, none⟩ = some (.int .i64 fv) := (BoxAt.cell FB.out 2).trans rfl
       clear b g z hfl FL5
       refine Hid.out ?_)
    | fail)
  refine hid ?_
  clear kPB0 kPB1 kPB2 kPB3 kWB0 kWB1 kWB2 kFB0 kFB2
  have kPB0 : v8.cell? ⟨w.heap.size, 0, none⟩ = some (.int .i64 d) := (BoxAt.cell PB.out 0).trans rfl
  have kPB1 : v8.cell? ⟨w.heap.size, 1, none⟩ = some (.bool k) := (BoxAt.cell PB.out 1).trans rfl
  have kPB2 : v8.cell? ⟨w.heap.size, 2, none⟩ = some (.slice (some ⟨bb, off, none⟩) N xc) := (BoxAt.cell PB.out 2).trans rfl
  have kPB3 : v8.cell? ⟨w.heap.size, 3, none⟩ = some (.slice sa M sc) := (BoxAt.cell PB.out 3).trans rfl
  have kWB0 : v8.cell? ⟨v1.heap.size, 0, none⟩ = some (.int .i64 p) := (BoxAt.cell WB.out 0).trans rfl
  have kWB1 : v8.cell? ⟨v1.heap.size, 1, none⟩ = some (.int .i64 r) := (BoxAt.cell WB.out 1).trans rfl
  have kWB2 : v8.cell? ⟨v1.heap.size, 2, none⟩ = some (.int .i64 v) := (BoxAt.cell WB.out 2).trans rfl
  have kFB0 : v8.cell? ⟨v6.heap.size, 0, none⟩ = some (.int .i64 fp) := (BoxAt.cell FB.out 0).trans rfl
  have kFB2 : v8.cell? ⟨v6.heap.size, 2, none⟩ = some (.int .i64 fv) := (BoxAt.cell FB.out 2).trans rfl
  have FL6 := hid trivial
  have FL7 := hid trivial
  go_wp2_with (first
    | (have hfl := FL6.out
       refine wpList_litI rfl (.tmp 54) rfl (fv) rfl ?_
       intro v9 b h
       have LB := hid (show BoxAt v9 v8.heap.size 3 #[.int .i64 (fv)] from b)
       have PB := hid (PB.out.belowAll h)
       have WB := hid (WB.out.belowAll h)
       have RB := hid (RB.out.belowAll h)
       have FB := hid (FB.out.belowAll h)
       have HF := hid (HF.out.below h)
       have HB := hid (HB.out.trans (h.mono HB.out.size))
       have hsv9 : v8.heap.size ≤ v9.heap.size := by first | exact h.size | omega
       clear kPB0 kPB1 kPB2 kPB3 kWB0 kWB1 kWB2 kFB0 kFB2
       have kPB0 : v9.cell? ⟨w.heap.size, 0, none⟩ = some (.int .i64 d) := (BoxAt.cell PB.out 0).trans rfl
       have kPB1 : v9.cell? ⟨w.heap.size, 1, none⟩ = some (.bool k) := (BoxAt.cell PB.out 1).trans rfl
       have kPB2 : v9.cell? ⟨w.heap.size, 2, none⟩ = some (.slice (some ⟨bb, off, none⟩) N xc) := (BoxAt.cell PB.out 2).trans rfl
       have kPB3 : v9.cell? ⟨w.heap.size, 3, none⟩ = some (.slice sa M sc) := (BoxAt.cell PB.out 3).trans rfl
       have kWB0 : v9.cell? ⟨v1.heap.size, 0, none⟩ = some (.int .i64 p) := (BoxAt.cell WB.out 0).trans rfl
       have kWB1 : v9.cell? ⟨v1.heap.size, 1, none⟩ = some (.int .i64 r) := (BoxAt.cell WB.out 1).trans rfl
       have kWB2 : v9.cell? ⟨v1.heap.size, 2, none⟩ = some (.int .i64 v) := (BoxAt.cell WB.out 2).trans rfl
       have kFB0 : v9.cell? ⟨v6.heap.size, 0, none⟩ = some (.int .i64 fp) := (BoxAt.cell FB.out 0).trans rfl
       have kFB2 : v9.cell? ⟨v6.heap.size, 2, none⟩ = some (.int .i64 fv) := (BoxAt.cell FB.out 2).trans rfl
       clear b h hfl FL6)
    | (have hfl := FL7.out
       at_builtin
       refine app_full rfl (.tmp 52) (.tmp 55) rfl _ _ rfl HK.out.symm (HG.out.below HB.out) _ (fv) _ rfl LB.out (by have := HK.out; have := HKN.out; omega) ?_
       intro uv10 v10 ho h
       obtain ⟨qv10, rfl, -⟩ := ho.sl
       have PB := hid (PB.out.belowAll h)
       have WB := hid (WB.out.belowAll h)
       have RB := hid (RB.out.belowAll h)
       have FB := hid (FB.out.belowAll h)
       have LB := hid (LB.out.belowAll h)
       have HF := hid (HF.out.below h)
       have HB := hid (HB.out.trans (h.mono HB.out.size))
       have hsv10 : v9.heap.size ≤ v10.heap.size := by first | exact h.size | omega
       have HC := hid ho
       clear kPB0 kPB1 kPB2 kPB3 kWB0 kWB1 kWB2 kFB0 kFB2
       have kPB0 : v10.cell? ⟨w.heap.size, 0, none⟩ = some (.int .i64 d) := (BoxAt.cell PB.out 0).trans rfl
       have kPB1 : v10.cell? ⟨w.heap.size, 1, none⟩ = some (.bool k) := (BoxAt.cell PB.out 1).trans rfl
       have kPB2 : v10.cell? ⟨w.heap.size, 2, none⟩ = some (.slice (some ⟨bb, off, none⟩) N xc) := (BoxAt.cell PB.out 2).trans rfl
       have kPB3 : v10.cell? ⟨w.heap.size, 3, none⟩ = some (.slice sa M sc) := (BoxAt.cell PB.out 3).trans rfl
       have kWB0 : v10.cell? ⟨v1.heap.size, 0, none⟩ = some (.int .i64 p) := (BoxAt.cell WB.out 0).trans rfl
       have kWB1 : v10.cell? ⟨v1.heap.size, 1, none⟩ = some (.int .i64 r) := (BoxAt.cell WB.out 1).trans rfl
       have kWB2 : v10.cell? ⟨v1.heap.size, 2, none⟩ = some (.int .i64 v) := (BoxAt.cell WB.out 2).trans rfl
       have kFB0 : v10.cell? ⟨v6.heap.size, 0, none⟩ = some (.int .i64 fp) := (BoxAt.cell FB.out 0).trans rfl
       have kFB2 : v10.cell? ⟨v6.heap.size, 2, none⟩ = some (.int .i64 fv) := (BoxAt.cell FB.out 2).trans rfl
       clear ho h hfl FL7
       refine Hid.out ?_)
    | fail)
  refine hid ?_
  have HC := hid (HC.out.mono (base' := w.heap.size) (by have := HB.out.size; omega))
  have FL8 := hid trivial
  have FL9 := hid trivial
  go_wp2_with (first
    | (have hfl := FL8.out
       refine wpList_store_box rfl 22 _ _ rfl rfl (w.heap.size) 2 (.slice qv10.a qv10.n qv10.c) rfl rfl rfl rfl (by kernel_rfl) _ _ PB.out (by simp) ?_
       intro v11 b g z
       have hsv11 : v10.heap.size ≤ v11.heap.size := by omega
       have HF := hid (HF.out.put g PB.out (by decide))
       have HC := hid (HC.out.put g PB.out (by decide))
       have PB := hid (show BoxAt v11 (w.heap.size) 25 #[.int .i64 d, .bool k, .slice qv10.a qv10.n qv10.c, .slice sa M sc] from by simpa using b)
       have WB := hid (WB.out.grown g (fun e => by have := Option.some.inj e; omega))
       have RB := hid (RB.out.grown g (fun e => by have := Option.some.inj e; omega))
       have FB := hid (FB.out.grown g (fun e => by have := Option.some.inj e; omega))
       have LB := hid (LB.out.grown g (fun e => by have := Option.some.inj e; omega))
       have HB := hid (HB.out.trans (grown_below g (by omega) (by omega)))
       clear kPB0 kPB1 kPB2 kPB3 kWB0 kWB1 kWB2 kFB0 kFB2
       have kPB0 : v11.cell? ⟨w.heap.size, 0, none⟩ = some (.int .i64 d) := (BoxAt.cell PB.out 0).trans rfl
       have kPB1 : v11.cell? ⟨w.heap.size, 1, none⟩ = some (.bool k) := (BoxAt.cell PB.out 1).trans rfl
       have kPB2 : v11.cell? ⟨w.heap.size, 2, none⟩ = some (.slice qv10.a qv10.n qv10.c) := (BoxAt.cell PB.out 2).trans rfl
       have kPB3 : v11.cell? ⟨w.heap.size, 3, none⟩ = some (.slice sa M sc) := (BoxAt.cell PB.out 3).trans rfl
       have kWB0 : v11.cell? ⟨v1.heap.size, 0, none⟩ = some (.int .i64 p) := (BoxAt.cell WB.out 0).trans rfl
       have kWB1 : v11.cell? ⟨v1.heap.size, 1, none⟩ = some (.int .i64 r) := (BoxAt.cell WB.out 1).trans rfl
       have kWB2 : v11.cell? ⟨v1.heap.size, 2, none⟩ = some (.int .i64 v) := (BoxAt.cell WB.out 2).trans rfl
       have kFB0 : v11.cell? ⟨v6.heap.size, 0, none⟩ = some (.int .i64 fp) := (BoxAt.cell FB.out 0).trans rfl
       have kFB2 : v11.cell? ⟨v6.heap.size, 2, none⟩ = some (.int .i64 fv) := (BoxAt.cell FB.out 2).trans rfl
       clear b g z hfl FL8)
    | (have hfl := FL9.out
       refine wpList_store_box rfl 23 _ _ rfl rfl (w.heap.size) 3 (.slice f.a f.n f.c) rfl rfl rfl rfl (by kernel_rfl) _ _ PB.out (by simp) ?_
       intro v12 b g z
       have hsv12 : v11.heap.size ≤ v12.heap.size := by omega
       have HF := hid (HF.out.put g PB.out (by decide))
       have HC := hid (HC.out.put g PB.out (by decide))
       have PB := hid (show BoxAt v12 (w.heap.size) 25 #[.int .i64 d, .bool k, .slice qv10.a qv10.n qv10.c, .slice f.a f.n f.c] from by simpa using b)
       have WB := hid (WB.out.grown g (fun e => by have := Option.some.inj e; omega))
       have RB := hid (RB.out.grown g (fun e => by have := Option.some.inj e; omega))
       have FB := hid (FB.out.grown g (fun e => by have := Option.some.inj e; omega))
       have LB := hid (LB.out.grown g (fun e => by have := Option.some.inj e; omega))
       have HB := hid (HB.out.trans (grown_below g (by omega) (by omega)))
       clear kPB0 kPB1 kPB2 kPB3 kWB0 kWB1 kWB2 kFB0 kFB2
       have kPB0 : v12.cell? ⟨w.heap.size, 0, none⟩ = some (.int .i64 d) := (BoxAt.cell PB.out 0).trans rfl
       have kPB1 : v12.cell? ⟨w.heap.size, 1, none⟩ = some (.bool k) := (BoxAt.cell PB.out 1).trans rfl
       have kPB2 : v12.cell? ⟨w.heap.size, 2, none⟩ = some (.slice qv10.a qv10.n qv10.c) := (BoxAt.cell PB.out 2).trans rfl
       have kPB3 : v12.cell? ⟨w.heap.size, 3, none⟩ = some (.slice f.a f.n f.c) := (BoxAt.cell PB.out 3).trans rfl
       have kWB0 : v12.cell? ⟨v1.heap.size, 0, none⟩ = some (.int .i64 p) := (BoxAt.cell WB.out 0).trans rfl
       have kWB1 : v12.cell? ⟨v1.heap.size, 1, none⟩ = some (.int .i64 r) := (BoxAt.cell WB.out 1).trans rfl
       have kWB2 : v12.cell? ⟨v1.heap.size, 2, none⟩ = some (.int .i64 v) := (BoxAt.cell WB.out 2).trans rfl
       have kFB0 : v12.cell? ⟨v6.heap.size, 0, none⟩ = some (.int .i64 fp) := (BoxAt.cell FB.out 0).trans rfl
       have kFB2 : v12.cell? ⟨v6.heap.size, 2, none⟩ = some (.int .i64 fv) := (BoxAt.cell FB.out 2).trans rfl
       clear b g z hfl FL9
       refine Hid.out ?_)
    | fail)
  refine hid ?_
  go_wp2_with fail
  clear kPB0 kPB1 kPB2 kPB3 kWB0 kWB1 kWB2 kFB0 kFB2
  have PB := hid (BoxAt.drew PB.out)
  have WB := hid (BoxAt.drew WB.out)
  have RB := hid (BoxAt.drew RB.out)
  have FB := hid (BoxAt.drew FB.out)
  have LB := hid (BoxAt.drew LB.out)
  have HF := hid (HF.out.below ((Below.refl v12.heap.size v12).drew))
  have HC := hid (HC.out.below ((Below.refl v12.heap.size v12).drew))
  have HB := hid HB.out.drew
  have hsv13 : v12.heap.size ≤ v12.drew.heap.size := Nat.le_refl _
  refine wp_region_held_drew (S := (fun w' : World => BoxAt w' (w.heap.size) 25 #[.int .i64 d, .bool k, .slice qv10.a qv10.n qv10.c, .slice f.a f.n f.c] ∧ BoxAt w' (v6.heap.size) 27 #[.int .i64 fp, .int .i64 fr, .int .i64 fv])) (by kernel_rfl) (⟨PB.out, FB.out⟩) (fun hHeld => ?_)
  generalize v12.drew = v13 at *
  refine wpAnyH_take (i := 0) (oi := { dst := some 60, op := Op.load 25 (Operand.tmp 3), type := 25, pos := "buffer.go:39", after := _, guard := none }) (v := ?_) rfl (by kernel_rfl) (by kernel_rfl) (by kernel_rfl) (fun _ _ _ h => h) (Or.inl ⟨by rfl, ?_⟩) (by assumption) ?_
  rotate_left
  · (intro W hSw; (try dsimp only at hSw); obtain ⟨x0, x1⟩ := hSw; have c0_0 : W.cell? ⟨w.heap.size, 0, none⟩ = some (.int .i64 d) := (BoxAt.cell x0 0).trans rfl; have c0_1 : W.cell? ⟨w.heap.size, 1, none⟩ = some (.bool k) := (BoxAt.cell x0 1).trans rfl; have c0_2 : W.cell? ⟨w.heap.size, 2, none⟩ = some (.slice qv10.a qv10.n qv10.c) := (BoxAt.cell x0 2).trans rfl; have c0_3 : W.cell? ⟨w.heap.size, 3, none⟩ = some (.slice f.a f.n f.c) := (BoxAt.cell x0 3).trans rfl; have c1_0 : W.cell? ⟨v6.heap.size, 0, none⟩ = some (.int .i64 fp) := (BoxAt.cell x1 0).trans rfl; have c1_1 : W.cell? ⟨v6.heap.size, 1, none⟩ = some (.int .i64 fr) := (BoxAt.cell x1 1).trans rfl; have c1_2 : W.cell? ⟨v6.heap.size, 2, none⟩ = some (.int .i64 fv) := (BoxAt.cell x1 2).trans rfl; clear x0 x1; go_simp; try with_reducible rfl)
  simp only [Act.put, List.setIfInBounds_toArray, List.set_cons_zero, List.set_cons_succ]
  refine wpAnyH_take (i := 1) (oi := { dst := some 61, op := Op.move (Operand.tmp 12), type := 3, pos := "buffer.go:39", after := _, guard := none }) (v := ?_) rfl (by kernel_rfl) (by kernel_rfl) (by kernel_rfl) (fun _ _ _ h => h) (Or.inl ⟨by rfl, ?_⟩) (by assumption) ?_
  rotate_left
  · (intro w hSw; (try dsimp only at hSw); go_simp; try with_reducible rfl)
  simp only [Act.put, List.setIfInBounds_toArray, List.set_cons_zero, List.set_cons_succ]
  refine wpAnyH_take (i := 2) (oi := { dst := some 62, op := Op.load 27 (Operand.tmp 14), type := 27, pos := "buffer.go:39", after := _, guard := none }) (v := ?_) rfl (by kernel_rfl) (by kernel_rfl) (by kernel_rfl) (fun _ _ _ h => h) (Or.inl ⟨by rfl, ?_⟩) (by assumption) ?_
  rotate_left
  · (intro W hSw; (try dsimp only at hSw); obtain ⟨x0, x1⟩ := hSw; have c0_0 : W.cell? ⟨w.heap.size, 0, none⟩ = some (.int .i64 d) := (BoxAt.cell x0 0).trans rfl; have c0_1 : W.cell? ⟨w.heap.size, 1, none⟩ = some (.bool k) := (BoxAt.cell x0 1).trans rfl; have c0_2 : W.cell? ⟨w.heap.size, 2, none⟩ = some (.slice qv10.a qv10.n qv10.c) := (BoxAt.cell x0 2).trans rfl; have c0_3 : W.cell? ⟨w.heap.size, 3, none⟩ = some (.slice f.a f.n f.c) := (BoxAt.cell x0 3).trans rfl; have c1_0 : W.cell? ⟨v6.heap.size, 0, none⟩ = some (.int .i64 fp) := (BoxAt.cell x1 0).trans rfl; have c1_1 : W.cell? ⟨v6.heap.size, 1, none⟩ = some (.int .i64 fr) := (BoxAt.cell x1 1).trans rfl; have c1_2 : W.cell? ⟨v6.heap.size, 2, none⟩ = some (.int .i64 fv) := (BoxAt.cell x1 2).trans rfl; clear x0 x1; go_simp; try with_reducible rfl)
  simp only [Act.put, List.setIfInBounds_toArray, List.set_cons_zero, List.set_cons_succ]
  refine wpAnyH_ready (rs := [3]) (by kernel_rfl) (by simp) (AllReadyH.cons (o := { dst := some 63, op := Op.call { callee := Callee.value (Operand.func 16), args := #[Operand.tmp 62, Operand.const (Value.int IntKind.i64 0)], argTypes := #[27, 3] }, type := 29, pos := "buffer.go:39", after := _, guard := none }) rfl (fun K1004 hK1004 => ?_) AllReadyH.nil)
  have HBg := HB.out.size
  go_simp
  refine (goes_any fp fr fv 0).mono ?_
  rintro e v14 ⟨q, rfl, hu, hb⟩
  have PB := hid (PB.out.belowAll hb)
  have WB := hid (WB.out.belowAll hb)
  have RB := hid (RB.out.belowAll hb)
  have FB := hid (FB.out.belowAll hb)
  have LB := hid (LB.out.belowAll hb)
  have HF := hid (HF.out.below hb)
  have HC := hid (HC.out.below hb)
  have HB := hid (HB.out.trans (hb.mono HB.out.size))
  have hsv14 : v13.heap.size ≤ v14.heap.size := by first | exact hb.size | omega
  have HQ := hid (hu.mono HBg)
  clear hu HBg
  clear hb
  refine hK1004.out _ _ (⟨PB.out, FB.out⟩) (fun hHeld1004 => ?_)
  clear hK1004 K1004
  try simp only [Act.put, List.setIfInBounds_toArray, List.set_cons_zero, List.set_cons_succ]
  refine wpAnyH_ready (rs := [4]) (by kernel_rfl) (by simp) (AllReadyH.cons (o := { dst := none, op := Op.store 25 (Operand.tmp 6) (Operand.tmp 60), type := 0, pos := "buffer.go:39", after := _, guard := none }) rfl (fun K1005 hK1005 => ?_) AllReadyH.nil)
  refine step_store_whole rfl 25 _ _ rfl (v2.heap.size) rfl [.int .i64 d, .bool k, .slice qv10.a qv10.n qv10.c, .slice f.a f.n f.c] rfl _ _ RB.out rfl Try.infoBf (by simp [Value.oneCell']) ?_
  intro v15 b g z
  have hsv15 : v14.heap.size ≤ v15.heap.size := by omega
  have HF := hid (HF.out.put g RB.out (by decide))
  have HC := hid (HC.out.put g RB.out (by decide))
  have HQ := hid (HQ.out.put g RB.out (by decide))
  have RB := hid (show BoxAt v15 (v2.heap.size) 25 #[.int .i64 d, .bool k, .slice qv10.a qv10.n qv10.c, .slice f.a f.n f.c] from b)
  have PB := hid (PB.out.grown g (fun e => by have := Option.some.inj e; omega))
  have WB := hid (WB.out.grown g (fun e => by have := Option.some.inj e; omega))
  have FB := hid (FB.out.grown g (fun e => by have := Option.some.inj e; omega))
  have LB := hid (LB.out.grown g (fun e => by have := Option.some.inj e; omega))
  have HB := hid (HB.out.trans (grown_below g (by omega) (by omega)))
  clear b g z
  refine hK1005.out _ _ (⟨PB.out, FB.out⟩) (fun hHeld1005 => ?_)
  clear hK1005 K1005
  try simp only [Act.put]
  refine wpAnyH_take (i := 5) (oi := { dst := some 7, op := Op.assign (Operand.const (Value.int IntKind.i64 0)), type := 3, pos := "buffer.go:39", after := _, guard := none }) (v := ?_) rfl (by kernel_rfl) (by kernel_rfl) (by kernel_rfl) (fun _ _ _ h => h) (Or.inl ⟨by rfl, ?_⟩) (by assumption) ?_
  rotate_left
  · (intro w hSw; (try dsimp only at hSw); go_simp; try with_reducible rfl)
  simp only [Act.put, List.setIfInBounds_toArray, List.set_cons_zero, List.set_cons_succ]
  refine wpAnyH_take (i := 6) (oi := { dst := some 8, op := Op.assign (Operand.tmp 61), type := 3, pos := "buffer.go:39", after := _, guard := none }) (v := ?_) rfl (by kernel_rfl) (by kernel_rfl) (by kernel_rfl) (fun _ _ _ h => h) (Or.inl ⟨by rfl, ?_⟩) (by assumption) ?_
  rotate_left
  · (intro w hSw; (try dsimp only at hSw); go_simp; try with_reducible rfl)
  simp only [Act.put, List.setIfInBounds_toArray, List.set_cons_zero, List.set_cons_succ]
  refine wpAnyH_take (i := 7) (oi := { dst := some 9, op := Op.assign (Operand.tmp 63), type := 29, pos := "buffer.go:39", after := _, guard := none }) (v := ?_) rfl (by kernel_rfl) (by kernel_rfl) (by kernel_rfl) (fun _ _ _ h => h) (Or.inl ⟨by rfl, ?_⟩) (by assumption) ?_
  rotate_left
  · (intro w hSw; (try dsimp only at hSw); go_simp; try with_reducible rfl)
  simp only [Act.put, List.setIfInBounds_toArray, List.set_cons_zero, List.set_cons_succ]
  refine wpAnyH_done (by kernel_rfl) ?_ _
  clear hHeld hHeld1004 hHeld1005
  have kPB0 : v15.cell? ⟨w.heap.size, 0, none⟩ = some (.int .i64 d) := (BoxAt.cell PB.out 0).trans rfl
  have kPB1 : v15.cell? ⟨w.heap.size, 1, none⟩ = some (.bool k) := (BoxAt.cell PB.out 1).trans rfl
  have kPB2 : v15.cell? ⟨w.heap.size, 2, none⟩ = some (.slice qv10.a qv10.n qv10.c) := (BoxAt.cell PB.out 2).trans rfl
  have kPB3 : v15.cell? ⟨w.heap.size, 3, none⟩ = some (.slice f.a f.n f.c) := (BoxAt.cell PB.out 3).trans rfl
  have kWB0 : v15.cell? ⟨v1.heap.size, 0, none⟩ = some (.int .i64 p) := (BoxAt.cell WB.out 0).trans rfl
  have kWB1 : v15.cell? ⟨v1.heap.size, 1, none⟩ = some (.int .i64 r) := (BoxAt.cell WB.out 1).trans rfl
  have kWB2 : v15.cell? ⟨v1.heap.size, 2, none⟩ = some (.int .i64 v) := (BoxAt.cell WB.out 2).trans rfl
  have kFB0 : v15.cell? ⟨v6.heap.size, 0, none⟩ = some (.int .i64 fp) := (BoxAt.cell FB.out 0).trans rfl
  have kFB2 : v15.cell? ⟨v6.heap.size, 2, none⟩ = some (.int .i64 fv) := (BoxAt.cell FB.out 2).trans rfl
  go_wp2_with fail
  refine bodyPost_ret (results_box_tmp3 rfl _ _ (v2.heap.size) 25 _ (0, 0) _ rfl RB.out Try.underlying25 rfl Try.infoBf) rfl ?_
  exact ⟨qv10, f, q, rfl, HC.out, HF.out, HQ.out, HB.out⟩

end Go.Proofs.Ytehpmjaldghdiaa
