/-
  BufferDoes: the walk.
-/
import Derived.Test.YtehpmjaldghdiaaBfAwake
import Derived.Test.YtehpmjaldghdiaaBfOpen
namespace Go.Proofs.Ytehpmjaldghdiaa
open Go.RowKit
set_option linter.unusedVariables false


set_option maxRecDepth 100000 in
set_option maxHeartbeats 3200000 in
theorem walk_BufferDoes (w : World) (x0 : BfX) (f0 : x0.fit w) (y : Wt) (f1 : y.fit) (may : Bool) :
    Calls Try.prog 3 #[x0.val, y.val, .bool may] w fun e w' => e = .returned (.bool true) ∧ Below w.heap.size w w' := by
  obtain ⟨p, r, v⟩ := y
  clear f1
  obtain ⟨⟨d, k, vs, s⟩, ⟨d', k', xs, l⟩⟩ := x0
  obtain ⟨⟨h1, h2, hv, hs⟩, -⟩ := f0
  simp only at h1 h2 hv hs
  subst h1 h2
  have HX := hid hv
  have HV := hid hs
  obtain ⟨a1, c1, hv1, hx1, hx2, hxc⟩ := hv.form
  obtain ⟨xa, xn, xc⟩ := vs
  simp only [Sl.val, Value.slice.injEq] at hv1
  obtain ⟨rfl, rfl, rfl⟩ := hv1
  obtain ⟨a2, c2, hs1, hc1, hc2, -⟩ := hs.form
  obtain ⟨sa, sn, sc⟩ := s
  simp only [Sl.val, Value.slice.injEq] at hs1
  obtain ⟨rfl, rfl, rfl⟩ := hs1
  unfold maxLen at hx2 hc2
  simp only [Sl.val] at HX HV
  have HXC := hid hxc
  clear hv hs hxc
  unfold BfX.val BfV.val Wt.val
  simp only
  obtain ⟨N, hN⟩ : ∃ N, xs.length = N := ⟨_, rfl⟩
  obtain ⟨M, hM⟩ : ∃ M, l.length = M := ⟨_, rfl⟩
  have HN := hid hN
  have HM := hid hM
  rw [hN] at hx1 HX HXC ⊢
  rw [hM] at hc1 HV ⊢
  clear hN hM
  have HB := hid (Below.refl w.heap.size w)
  obtain ⟨SC, hSC⟩ : ∃ c, sendC d xs l may = c := ⟨_, rfl⟩
  have HSC := hid hSC
  have eSC : (SC == SC) = true := by simp
  clear hSC
  obtain ⟨TC, hTC⟩ : ∃ c, takeC xs may = c := ⟨_, rfl⟩
  have HTC := hid hTC
  have eTC : (TC == TC) = true := by simp
  clear hTC
  obtain ⟨TX, hTX⟩ : ∃ c, takeX xs = c := ⟨_, rfl⟩
  have HTX := hid hTX
  have eTX : (TX == TX) = true := by simp
  clear hTX
  go_enter Try.func3, Try.ntmps3
  have FL1 := hid trivial
  have FL2 := hid trivial
  go_wp2_with (first
    | (have hfl := FL1.out
       refine wpList_box rfl 25 (.tmp 0) rfl #[.int .i64 d, .bool k, .slice xa N xc, .slice sa M sc] rfl ?_
       intro v1 b h z
       have PB := hid (show BoxAt v1 w.heap.size 25 #[.int .i64 d, .bool k, .slice xa N xc, .slice sa M sc] from b)
       have HB := hid (HB.out.trans (h.mono HB.out.size))
       have hsv1 : w.heap.size + 1 ≤ v1.heap.size := by first | exact h.size | omega
       clear b h z hfl FL1)
    | (have hfl := FL2.out
       refine wpList_box rfl 27 (.tmp 1) rfl #[.int .i64 p, .int .i64 r, .int .i64 v] rfl ?_
       intro v2 b h z
       have WB := hid (show BoxAt v2 v1.heap.size 27 #[.int .i64 p, .int .i64 r, .int .i64 v] from b)
       have PB := hid (PB.out.belowAll h)
       have HB := hid (HB.out.trans (h.mono HB.out.size))
       have hsv2 : v1.heap.size + 1 ≤ v2.heap.size := by first | exact h.size | omega
       have kPB2 : v2.cell? ⟨w.heap.size, 2, none⟩ = some (.slice xa N xc) := (BoxAt.cell PB.out 2).trans rfl
       have kPB3 : v2.cell? ⟨w.heap.size, 3, none⟩ = some (.slice sa M sc) := (BoxAt.cell PB.out 3).trans rfl
       clear b h z hfl FL2)
    | fail)
  refine (bfawake_any _).mono ?_
  rintro e v3 ⟨rfl, hb⟩
  have PB := hid (PB.out.belowAll hb)
  have WB := hid (WB.out.belowAll hb)
  have HB := hid (HB.out.trans (hb.mono HB.out.size))
  have hsv3 : v2.heap.size ≤ v3.heap.size := by first | exact hb.size | omega
  clear kPB2 kPB3
  have kPB2 : v3.cell? ⟨w.heap.size, 2, none⟩ = some (.slice xa N xc) := (BoxAt.cell PB.out 2).trans rfl
  have kPB3 : v3.cell? ⟨w.heap.size, 3, none⟩ = some (.slice sa M sc) := (BoxAt.cell PB.out 3).trans rfl
  clear hb
  by_cases h60M : (60 : Int) < (M : Int)
  · go_wp2
    go_ret
    exact ⟨rfl, HB.out⟩
  by_cases h60N : (60 : Int) < (N : Int)
  · go_wp2
    go_ret
    exact ⟨rfl, HB.out⟩
  have HXL := hid (show xs.length ≤ 60 by have := HN.out; omega)
  have HL := hid (show l.length ≤ 60 by have := HM.out; omega)
  go_wp2_with (first
    | (refine wpList_load_box rfl 25 _ rfl (w.heap.size) rfl _ _ PB.out _ Try.underlying25 Try.infoBf ?_)
    | (refine wpList_load_box rfl 27 _ rfl (v1.heap.size) rfl _ _ WB.out _ Try.underlying27 Try.infoWt ?_)
    | fail)
  refine (send_any d k p r v may (vs := ⟨xa, N, xc⟩) (s := ⟨sa, M, sc⟩) (HX.out.below HB.out) (HV.out.below HB.out) (by have := HXL.out; omega) (by have := HL.out; omega)).mono ?_
  rintro e v4 ⟨x1, u1, q1, rfl, hc, hu, hq, hb⟩
  have PB := hid (PB.out.belowAll hb)
  have WB := hid (WB.out.belowAll hb)
  have HB := hid (HB.out.trans (hb.mono HB.out.size))
  have hsv4 : v3.heap.size ≤ v4.heap.size := by first | exact hb.size | omega
  rw [HSC.out]
  have HC1 := hid hc
  have HU1 := hid hu
  have HQ1 := hid hq
  clear hc hu hq
  clear kPB2 kPB3
  have kPB2 : v4.cell? ⟨w.heap.size, 2, none⟩ = some (.slice xa N xc) := (BoxAt.cell PB.out 2).trans rfl
  have kPB3 : v4.cell? ⟨w.heap.size, 3, none⟩ = some (.slice sa M sc) := (BoxAt.cell PB.out 3).trans rfl
  clear hb
  have FL3 := hid trivial
  have FL4 := hid trivial
  go_wp2_with (first
    | (have hfl := FL3.out
       refine wpList_new rfl 25 rfl _ Try.zeroBf ?_
       intro v5 b h z
       have XB := hid (show BoxAt v5 v4.heap.size 25 #[.int .i64 0, .bool false, .slice none 0 0, .slice none 0 0] from b)
       have PB := hid (PB.out.belowAll h)
       have WB := hid (WB.out.belowAll h)
       have HC1 := hid (HC1.out.below h)
       have HU1 := hid (HU1.out.below h)
       have HQ1 := hid (HQ1.out.below h)
       have HB := hid (HB.out.trans (h.mono HB.out.size))
       have hsv5 : v4.heap.size + 1 ≤ v5.heap.size := by first | exact h.size | omega
       clear kPB2 kPB3
       have kPB2 : v5.cell? ⟨w.heap.size, 2, none⟩ = some (.slice xa N xc) := (BoxAt.cell PB.out 2).trans rfl
       have kPB3 : v5.cell? ⟨w.heap.size, 3, none⟩ = some (.slice sa M sc) := (BoxAt.cell PB.out 3).trans rfl
       clear b h z hfl FL3)
    | (have hfl := FL4.out
       refine wpList_store_whole rfl 25 _ _ rfl rfl (v4.heap.size) rfl [.int .i64 d, .bool k, .slice x1.a x1.n x1.c, .slice u1.a u1.n u1.c] rfl _ _ XB.out rfl Try.infoBf (by simp [Value.oneCell']) ?_
       intro v6 b g z
       have hsv6 : v5.heap.size ≤ v6.heap.size := by omega
       have HC1 := hid (HC1.out.put g XB.out (by decide))
       have HU1 := hid (HU1.out.put g XB.out (by decide))
       have HQ1 := hid (HQ1.out.put g XB.out (by decide))
       have XB := hid (show BoxAt v6 (v4.heap.size) 25 #[.int .i64 d, .bool k, .slice x1.a x1.n x1.c, .slice u1.a u1.n u1.c] from b)
       have PB := hid (PB.out.grown g (fun e => by have := Option.some.inj e; omega))
       have WB := hid (WB.out.grown g (fun e => by have := Option.some.inj e; omega))
       have HB := hid (HB.out.trans (grown_below g (by omega) (by omega)))
       clear kPB2 kPB3
       have kPB2 : v6.cell? ⟨w.heap.size, 2, none⟩ = some (.slice xa N xc) := (BoxAt.cell PB.out 2).trans rfl
       have kPB3 : v6.cell? ⟨w.heap.size, 3, none⟩ = some (.slice sa M sc) := (BoxAt.cell PB.out 3).trans rfl
       clear b g z hfl FL4)
    | (refine wpList_load_box rfl 25 _ rfl (w.heap.size) rfl _ _ PB.out _ Try.underlying25 Try.infoBf ?_)
    | (refine wpList_load_box rfl 27 _ rfl (v1.heap.size) rfl _ _ WB.out _ Try.underlying27 Try.infoWt ?_)
    | fail)
  refine (rsend_any d k p r v may (vs := ⟨xa, N, xc⟩) (s := ⟨sa, M, sc⟩) (HX.out.below HB.out) (HV.out.below HB.out) (by have := HXL.out; omega) (by have := HL.out; omega)).mono ?_
  rintro e v7 ⟨x2, u2, q2, rfl, hc, hu, hq, hb⟩
  have PB := hid (PB.out.belowAll hb)
  have WB := hid (WB.out.belowAll hb)
  have XB := hid (XB.out.belowAll hb)
  have HC1 := hid (HC1.out.below hb)
  have HU1 := hid (HU1.out.below hb)
  have HQ1 := hid (HQ1.out.below hb)
  have HB := hid (HB.out.trans (hb.mono HB.out.size))
  have hsv7 : v6.heap.size ≤ v7.heap.size := by first | exact hb.size | omega
  rw [HSC.out]
  have HC2 := hid hc
  have HU2 := hid hu
  have HQ2 := hid hq
  clear hc hu hq
  clear kPB2 kPB3
  have kPB2 : v7.cell? ⟨w.heap.size, 2, none⟩ = some (.slice xa N xc) := (BoxAt.cell PB.out 2).trans rfl
  have kPB3 : v7.cell? ⟨w.heap.size, 3, none⟩ = some (.slice sa M sc) := (BoxAt.cell PB.out 3).trans rfl
  clear hb
  have FL5 := hid trivial
  have FL6 := hid trivial
  go_wp2_with (first
    | (have hfl := FL5.out
       refine wpList_new rfl 25 rfl _ Try.zeroBf ?_
       intro v8 b h z
       have YB := hid (show BoxAt v8 v7.heap.size 25 #[.int .i64 0, .bool false, .slice none 0 0, .slice none 0 0] from b)
       have PB := hid (PB.out.belowAll h)
       have WB := hid (WB.out.belowAll h)
       have XB := hid (XB.out.belowAll h)
       have HC1 := hid (HC1.out.below h)
       have HU1 := hid (HU1.out.below h)
       have HQ1 := hid (HQ1.out.below h)
       have HC2 := hid (HC2.out.below h)
       have HU2 := hid (HU2.out.below h)
       have HQ2 := hid (HQ2.out.below h)
       have HB := hid (HB.out.trans (h.mono HB.out.size))
       have hsv8 : v7.heap.size + 1 ≤ v8.heap.size := by first | exact h.size | omega
       clear kPB2 kPB3
       have kPB2 : v8.cell? ⟨w.heap.size, 2, none⟩ = some (.slice xa N xc) := (BoxAt.cell PB.out 2).trans rfl
       have kPB3 : v8.cell? ⟨w.heap.size, 3, none⟩ = some (.slice sa M sc) := (BoxAt.cell PB.out 3).trans rfl
       clear b h z hfl FL5)
    | (have hfl := FL6.out
       refine wpList_store_whole rfl 25 _ _ rfl rfl (v7.heap.size) rfl [.int .i64 d, .bool k, .slice x2.a x2.n x2.c, .slice u2.a u2.n u2.c] rfl _ _ YB.out rfl Try.infoBf (by simp [Value.oneCell']) ?_
       intro v9 b g z
       have hsv9 : v8.heap.size ≤ v9.heap.size := by omega
       have HC1 := hid (HC1.out.put g YB.out (by decide))
       have HU1 := hid (HU1.out.put g YB.out (by decide))
       have HQ1 := hid (HQ1.out.put g YB.out (by decide))
       have HC2 := hid (HC2.out.put g YB.out (by decide))
       have HU2 := hid (HU2.out.put g YB.out (by decide))
       have HQ2 := hid (HQ2.out.put g YB.out (by decide))
       have YB := hid (show BoxAt v9 (v7.heap.size) 25 #[.int .i64 d, .bool k, .slice x2.a x2.n x2.c, .slice u2.a u2.n u2.c] from b)
       have PB := hid (PB.out.grown g (fun e => by have := Option.some.inj e; omega))
       have WB := hid (WB.out.grown g (fun e => by have := Option.some.inj e; omega))
       have XB := hid (XB.out.grown g (fun e => by have := Option.some.inj e; omega))
       have HB := hid (HB.out.trans (grown_below g (by omega) (by omega)))
       clear kPB2 kPB3
       have kPB2 : v9.cell? ⟨w.heap.size, 2, none⟩ = some (.slice xa N xc) := (BoxAt.cell PB.out 2).trans rfl
       have kPB3 : v9.cell? ⟨w.heap.size, 3, none⟩ = some (.slice sa M sc) := (BoxAt.cell PB.out 3).trans rfl
       clear b g z hfl FL6)
    | (refine wpList_load_box rfl 25 _ rfl (v4.heap.size) rfl _ _ XB.out _ Try.underlying25 Try.infoBf ?_)
    | (refine wpList_load_box rfl 25 _ rfl (v7.heap.size) rfl _ _ YB.out _ Try.underlying25 Try.infoBf ?_)
    | fail)
  refine (rbsame_any d k HC1.out.sees HC2.out.sees HU1.out.sees HU2.out.sees).mono ?_
  rintro e v10 ⟨rfl, hb⟩
  have PB := hid (PB.out.belowAll hb)
  have WB := hid (WB.out.belowAll hb)
  have XB := hid (XB.out.belowAll hb)
  have YB := hid (YB.out.belowAll hb)
  have HC1 := hid (HC1.out.below hb)
  have HU1 := hid (HU1.out.below hb)
  have HQ1 := hid (HQ1.out.below hb)
  have HC2 := hid (HC2.out.below hb)
  have HU2 := hid (HU2.out.below hb)
  have HQ2 := hid (HQ2.out.below hb)
  have HB := hid (HB.out.trans (hb.mono HB.out.size))
  have hsv10 : v9.heap.size ≤ v10.heap.size := by first | exact hb.size | omega
  clear kPB2 kPB3
  have kPB2 : v10.cell? ⟨w.heap.size, 2, none⟩ = some (.slice xa N xc) := (BoxAt.cell PB.out 2).trans rfl
  have kPB3 : v10.cell? ⟨w.heap.size, 3, none⟩ = some (.slice sa M sc) := (BoxAt.cell PB.out 3).trans rfl
  clear hb
  go_wp2_with fail
  refine (same_Wk HQ1.out.sees HQ2.out.sees).mono ?_
  rintro e v11 ⟨rfl, hb⟩
  have PB := hid (PB.out.belowAll hb)
  have WB := hid (WB.out.belowAll hb)
  have XB := hid (XB.out.belowAll hb)
  have YB := hid (YB.out.belowAll hb)
  have HC1 := hid (HC1.out.below hb)
  have HU1 := hid (HU1.out.below hb)
  have HQ1 := hid (HQ1.out.below hb)
  have HC2 := hid (HC2.out.below hb)
  have HU2 := hid (HU2.out.below hb)
  have HQ2 := hid (HQ2.out.below hb)
  have HB := hid (HB.out.trans (hb.mono HB.out.size))
  have hsv11 : v10.heap.size ≤ v11.heap.size := by first | exact hb.size | omega
  clear kPB2 kPB3
  have kPB2 : v11.cell? ⟨w.heap.size, 2, none⟩ = some (.slice xa N xc) := (BoxAt.cell PB.out 2).trans rfl
  have kPB3 : v11.cell? ⟨w.heap.size, 3, none⟩ = some (.slice sa M sc) := (BoxAt.cell PB.out 3).trans rfl
  clear hb
  clear HC1 HC2 HU1 HU2 HQ1 HQ2
  go_wp2_with (first
    | (refine wpList_load_box rfl 25 _ rfl (w.heap.size) rfl _ _ PB.out _ Try.underlying25 Try.infoBf ?_)
    | (refine wpList_load_box rfl 27 _ rfl (v1.heap.size) rfl _ _ WB.out _ Try.underlying27 Try.infoWt ?_)
    | fail)
  refine (take_any d k p r v may (vs := ⟨xa, N, xc⟩) (s := ⟨sa, M, sc⟩) (HX.out.below HB.out) (HV.out.below HB.out) (by have := HXL.out; omega) (by have := HL.out; omega)).mono ?_
  rintro e v12 ⟨x3, u3, q3, rfl, hc, hu, hq, hb⟩
  have PB := hid (PB.out.belowAll hb)
  have WB := hid (WB.out.belowAll hb)
  have XB := hid (XB.out.belowAll hb)
  have YB := hid (YB.out.belowAll hb)
  have HB := hid (HB.out.trans (hb.mono HB.out.size))
  have hsv12 : v11.heap.size ≤ v12.heap.size := by first | exact hb.size | omega
  rw [HTC.out, HTX.out]
  have HC3 := hid hc
  have HU3 := hid hu
  have HQ3 := hid hq
  clear hc hu hq
  clear kPB2 kPB3
  have kPB2 : v12.cell? ⟨w.heap.size, 2, none⟩ = some (.slice xa N xc) := (BoxAt.cell PB.out 2).trans rfl
  have kPB3 : v12.cell? ⟨w.heap.size, 3, none⟩ = some (.slice sa M sc) := (BoxAt.cell PB.out 3).trans rfl
  clear hb
  have FL7 := hid trivial
  have FL8 := hid trivial
  go_wp2_with (first
    | (have hfl := FL7.out
       refine wpList_new rfl 25 rfl _ Try.zeroBf ?_
       intro v13 b h z
       have AB := hid (show BoxAt v13 v12.heap.size 25 #[.int .i64 0, .bool false, .slice none 0 0, .slice none 0 0] from b)
       have PB := hid (PB.out.belowAll h)
       have WB := hid (WB.out.belowAll h)
       have XB := hid (XB.out.belowAll h)
       have YB := hid (YB.out.belowAll h)
       have HC3 := hid (HC3.out.below h)
       have HU3 := hid (HU3.out.below h)
       have HQ3 := hid (HQ3.out.below h)
       have HB := hid (HB.out.trans (h.mono HB.out.size))
       have hsv13 : v12.heap.size + 1 ≤ v13.heap.size := by first | exact h.size | omega
       clear kPB2 kPB3
       have kPB2 : v13.cell? ⟨w.heap.size, 2, none⟩ = some (.slice xa N xc) := (BoxAt.cell PB.out 2).trans rfl
       have kPB3 : v13.cell? ⟨w.heap.size, 3, none⟩ = some (.slice sa M sc) := (BoxAt.cell PB.out 3).trans rfl
       clear b h z hfl FL7)
    | (have hfl := FL8.out
       refine wpList_store_whole rfl 25 _ _ rfl rfl (v12.heap.size) rfl [.int .i64 d, .bool k, .slice x3.a x3.n x3.c, .slice u3.a u3.n u3.c] rfl _ _ AB.out rfl Try.infoBf (by simp [Value.oneCell']) ?_
       intro v14 b g z
       have hsv14 : v13.heap.size ≤ v14.heap.size := by omega
       have HC3 := hid (HC3.out.put g AB.out (by decide))
       have HU3 := hid (HU3.out.put g AB.out (by decide))
       have HQ3 := hid (HQ3.out.put g AB.out (by decide))
       have AB := hid (show BoxAt v14 (v12.heap.size) 25 #[.int .i64 d, .bool k, .slice x3.a x3.n x3.c, .slice u3.a u3.n u3.c] from b)
       have PB := hid (PB.out.grown g (fun e => by have := Option.some.inj e; omega))
       have WB := hid (WB.out.grown g (fun e => by have := Option.some.inj e; omega))
       have XB := hid (XB.out.grown g (fun e => by have := Option.some.inj e; omega))
       have YB := hid (YB.out.grown g (fun e => by have := Option.some.inj e; omega))
       have HB := hid (HB.out.trans (grown_below g (by omega) (by omega)))
       clear kPB2 kPB3
       have kPB2 : v14.cell? ⟨w.heap.size, 2, none⟩ = some (.slice xa N xc) := (BoxAt.cell PB.out 2).trans rfl
       have kPB3 : v14.cell? ⟨w.heap.size, 3, none⟩ = some (.slice sa M sc) := (BoxAt.cell PB.out 3).trans rfl
       clear b g z hfl FL8)
    | (refine wpList_load_box rfl 25 _ rfl (w.heap.size) rfl _ _ PB.out _ Try.underlying25 Try.infoBf ?_)
    | (refine wpList_load_box rfl 27 _ rfl (v1.heap.size) rfl _ _ WB.out _ Try.underlying27 Try.infoWt ?_)
    | fail)
  refine (rtake_any d k p r v may (vs := ⟨xa, N, xc⟩) (s := ⟨sa, M, sc⟩) (HX.out.below HB.out) (HV.out.below HB.out) (by have := HXL.out; omega) (by have := HL.out; omega)).mono ?_
  rintro e v15 ⟨x4, u4, q4, rfl, hc, hu, hq, hb⟩
  have PB := hid (PB.out.belowAll hb)
  have WB := hid (WB.out.belowAll hb)
  have XB := hid (XB.out.belowAll hb)
  have YB := hid (YB.out.belowAll hb)
  have AB := hid (AB.out.belowAll hb)
  have HC3 := hid (HC3.out.below hb)
  have HU3 := hid (HU3.out.below hb)
  have HQ3 := hid (HQ3.out.below hb)
  have HB := hid (HB.out.trans (hb.mono HB.out.size))
  have hsv15 : v14.heap.size ≤ v15.heap.size := by first | exact hb.size | omega
  rw [HTC.out, HTX.out]
  have HC4 := hid hc
  have HU4 := hid hu
  have HQ4 := hid hq
  clear hc hu hq
  clear kPB2 kPB3
  have kPB2 : v15.cell? ⟨w.heap.size, 2, none⟩ = some (.slice xa N xc) := (BoxAt.cell PB.out 2).trans rfl
  have kPB3 : v15.cell? ⟨w.heap.size, 3, none⟩ = some (.slice sa M sc) := (BoxAt.cell PB.out 3).trans rfl
  clear hb
  have FL9 := hid trivial
  have FL10 := hid trivial
  go_wp2_with (first
    | (have hfl := FL9.out
       refine wpList_new rfl 25 rfl _ Try.zeroBf ?_
       intro v16 b h z
       have CB := hid (show BoxAt v16 v15.heap.size 25 #[.int .i64 0, .bool false, .slice none 0 0, .slice none 0 0] from b)
       have PB := hid (PB.out.belowAll h)
       have WB := hid (WB.out.belowAll h)
       have XB := hid (XB.out.belowAll h)
       have YB := hid (YB.out.belowAll h)
       have AB := hid (AB.out.belowAll h)
       have HC3 := hid (HC3.out.below h)
       have HU3 := hid (HU3.out.below h)
       have HQ3 := hid (HQ3.out.below h)
       have HC4 := hid (HC4.out.below h)
       have HU4 := hid (HU4.out.below h)
       have HQ4 := hid (HQ4.out.below h)
       have HB := hid (HB.out.trans (h.mono HB.out.size))
       have hsv16 : v15.heap.size + 1 ≤ v16.heap.size := by first | exact h.size | omega
       clear kPB2 kPB3
       have kPB2 : v16.cell? ⟨w.heap.size, 2, none⟩ = some (.slice xa N xc) := (BoxAt.cell PB.out 2).trans rfl
       have kPB3 : v16.cell? ⟨w.heap.size, 3, none⟩ = some (.slice sa M sc) := (BoxAt.cell PB.out 3).trans rfl
       clear b h z hfl FL9)
    | (have hfl := FL10.out
       refine wpList_store_whole rfl 25 _ _ rfl rfl (v15.heap.size) rfl [.int .i64 d, .bool k, .slice x4.a x4.n x4.c, .slice u4.a u4.n u4.c] rfl _ _ CB.out rfl Try.infoBf (by simp [Value.oneCell']) ?_
       intro v17 b g z
       have hsv17 : v16.heap.size ≤ v17.heap.size := by omega
       have HC3 := hid (HC3.out.put g CB.out (by decide))
       have HU3 := hid (HU3.out.put g CB.out (by decide))
       have HQ3 := hid (HQ3.out.put g CB.out (by decide))
       have HC4 := hid (HC4.out.put g CB.out (by decide))
       have HU4 := hid (HU4.out.put g CB.out (by decide))
       have HQ4 := hid (HQ4.out.put g CB.out (by decide))
       have CB := hid (show BoxAt v17 (v15.heap.size) 25 #[.int .i64 d, .bool k, .slice x4.a x4.n x4.c, .slice u4.a u4.n u4.c] from b)
       have PB := hid (PB.out.grown g (fun e => by have := Option.some.inj e; omega))
       have WB := hid (WB.out.grown g (fun e => by have := Option.some.inj e; omega))
       have XB := hid (XB.out.grown g (fun e => by have := Option.some.inj e; omega))
       have YB := hid (YB.out.grown g (fun e => by have := Option.some.inj e; omega))
       have AB := hid (AB.out.grown g (fun e => by have := Option.some.inj e; omega))
       have HB := hid (HB.out.trans (grown_below g (by omega) (by omega)))
       clear kPB2 kPB3
       have kPB2 : v17.cell? ⟨w.heap.size, 2, none⟩ = some (.slice xa N xc) := (BoxAt.cell PB.out 2).trans rfl
       have kPB3 : v17.cell? ⟨w.heap.size, 3, none⟩ = some (.slice sa M sc) := (BoxAt.cell PB.out 3).trans rfl
       clear b g z hfl FL10)
    | (refine wpList_load_box rfl 25 _ rfl (v12.heap.size) rfl _ _ AB.out _ Try.underlying25 Try.infoBf ?_)
    | (refine wpList_load_box rfl 25 _ rfl (v15.heap.size) rfl _ _ CB.out _ Try.underlying25 Try.infoBf ?_)
    | fail)
  refine (rbsame_any d k HC3.out.sees HC4.out.sees HU3.out.sees HU4.out.sees).mono ?_
  rintro e v18 ⟨rfl, hb⟩
  have PB := hid (PB.out.belowAll hb)
  have WB := hid (WB.out.belowAll hb)
  have XB := hid (XB.out.belowAll hb)
  have YB := hid (YB.out.belowAll hb)
  have AB := hid (AB.out.belowAll hb)
  have CB := hid (CB.out.belowAll hb)
  have HC3 := hid (HC3.out.below hb)
  have HU3 := hid (HU3.out.below hb)
  have HQ3 := hid (HQ3.out.below hb)
  have HC4 := hid (HC4.out.below hb)
  have HU4 := hid (HU4.out.below hb)
  have HQ4 := hid (HQ4.out.below hb)
  have HB := hid (HB.out.trans (hb.mono HB.out.size))
  have hsv18 : v17.heap.size ≤ v18.heap.size := by first | exact hb.size | omega
  clear kPB2 kPB3
  have kPB2 : v18.cell? ⟨w.heap.size, 2, none⟩ = some (.slice xa N xc) := (BoxAt.cell PB.out 2).trans rfl
  have kPB3 : v18.cell? ⟨w.heap.size, 3, none⟩ = some (.slice sa M sc) := (BoxAt.cell PB.out 3).trans rfl
  clear hb
  go_wp2_with fail
  refine (same_Wk HQ3.out.sees HQ4.out.sees).mono ?_
  rintro e v19 ⟨rfl, hb⟩
  have PB := hid (PB.out.belowAll hb)
  have WB := hid (WB.out.belowAll hb)
  have XB := hid (XB.out.belowAll hb)
  have YB := hid (YB.out.belowAll hb)
  have AB := hid (AB.out.belowAll hb)
  have CB := hid (CB.out.belowAll hb)
  have HC3 := hid (HC3.out.below hb)
  have HU3 := hid (HU3.out.below hb)
  have HQ3 := hid (HQ3.out.below hb)
  have HC4 := hid (HC4.out.below hb)
  have HU4 := hid (HU4.out.below hb)
  have HQ4 := hid (HQ4.out.below hb)
  have HB := hid (HB.out.trans (hb.mono HB.out.size))
  have hsv19 : v18.heap.size ≤ v19.heap.size := by first | exact hb.size | omega
  clear kPB2 kPB3
  have kPB2 : v19.cell? ⟨w.heap.size, 2, none⟩ = some (.slice xa N xc) := (BoxAt.cell PB.out 2).trans rfl
  have kPB3 : v19.cell? ⟨w.heap.size, 3, none⟩ = some (.slice sa M sc) := (BoxAt.cell PB.out 3).trans rfl
  clear hb
  clear HC3 HC4 HU3 HU4 HQ3 HQ4
  go_wp2
  go_ret
  exact ⟨rfl, HB.out⟩

end Go.Proofs.Ytehpmjaldghdiaa
