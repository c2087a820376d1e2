/-
  What the document's own, Send, Take and Same return, whatever buffers they are given.
-/
import Derived.Test.YtehpmjaldghdiaaBfFrom
import Derived.Test.YtehpmjaldghdiaaWSame
namespace Go.Proofs.Ytehpmjaldghdiaa
open Go.RowKit
set_option linter.unusedVariables false


set_option maxRecDepth 100000 in
set_option maxHeartbeats 1600000 in
theorem rbown_any (d : Int) (k : Bool) {vs s : Sl} {xs : List Int} {l : List Wt} {w : World} (hv : Sees w .i64 vs.val xs) (hs : SeesWt w s.val l) (hx : xs.length ≤ 800000) (hl : l.length ≤ 800000) :
    Calls Try.prog 20 #[BfV.val ⟨d, k, vs, s⟩] w fun e w' => ∃ (x u : Sl), e = .returned (BfV.val ⟨d, k, x, u⟩) ∧ OI w' w.heap.size x.val xs ∧ OWt w' w.heap.size u.val l ∧ Below w.heap.size w w' := by
  have HX := hid hv
  have HV := hid hs
  obtain ⟨a1, c1, hv1, hx1, hx2, hxc⟩ := hv.form
  obtain ⟨xa, xn, xc⟩ := vs
  simp only [Sl.val, Value.slice.injEq] at hv1
  obtain ⟨rfl, rfl, rfl⟩ := hv1
  obtain ⟨a2, c2, hs1, hc1, hc2, -⟩ := hs.form
  obtain ⟨sa, sn, sc⟩ := s
  simp only [Sl.val, Value.slice.injEq] at hs1
  obtain ⟨rfl, rfl, rfl⟩ := hs1
  unfold maxLen at hx2 hc2
  simp only [Sl.val] at HX HV
  have HXC := hid hxc
  clear hv hs hxc
  unfold BfV.val
  simp only
  obtain ⟨N, hN⟩ : ∃ N, xs.length = N := ⟨_, rfl⟩
  obtain ⟨M, hM⟩ : ∃ M, l.length = M := ⟨_, rfl⟩
  have HN := hid hN
  have HM := hid hM
  have HXL := hid hx
  have HL := hid hl
  rw [hN] at hx hx1 HX HXC ⊢
  rw [hM] at hl hc1 HV ⊢
  clear hN hM
  have HB := hid (Below.refl w.heap.size w)
  go_enter Try.func20, Try.ntmps20
  have FL1 := hid trivial
  have FL2 := hid trivial
  go_wp2_with (first
    | (have hfl := FL1.out
       refine wpList_box rfl 25 (.tmp 0) rfl #[.int .i64 d, .bool k, .slice xa N xc, .slice sa M sc] rfl ?_
       intro v1 b h z
       have PB := hid (show BoxAt v1 w.heap.size 25 #[.int .i64 d, .bool k, .slice xa N xc, .slice sa M sc] from b)
       have HB := hid (HB.out.trans (h.mono HB.out.size))
       have hsv1 : w.heap.size + 1 ≤ v1.heap.size := by first | exact h.size | omega
       clear b h z hfl FL1)
    | (have hfl := FL2.out
       refine wpList_new rfl 25 rfl _ Try.zeroBf ?_
       intro v2 b h z
       have RB := hid (show BoxAt v2 v1.heap.size 25 #[.int .i64 0, .bool false, .slice none 0 0, .slice none 0 0] from b)
       have PB := hid (PB.out.belowAll h)
       have HB := hid (HB.out.trans (h.mono HB.out.size))
       have hsv2 : v1.heap.size + 1 ≤ v2.heap.size := by first | exact h.size | omega
       have kPB2 : v2.cell? ⟨w.heap.size, 2, none⟩ = some (.slice xa N xc) := (BoxAt.cell PB.out 2).trans rfl
       have kPB3 : v2.cell? ⟨w.heap.size, 3, none⟩ = some (.slice sa M sc) := (BoxAt.cell PB.out 3).trans rfl
       clear b h z hfl FL2
       refine Hid.out ?_)
    | fail)
  refine hid ?_
  clear kPB2 kPB3
  have kPB2 : v2.cell? ⟨w.heap.size, 2, none⟩ = some (.slice xa N xc) := (BoxAt.cell PB.out 2).trans rfl
  have kPB3 : v2.cell? ⟨w.heap.size, 3, none⟩ = some (.slice sa M sc) := (BoxAt.cell PB.out 3).trans rfl
  have FL3 := hid trivial
  go_wp2_with (first
    | (have hfl := FL3.out
       at_builtin
       refine app_nilI rfl (.tmp 4) rfl _ (xs) rfl (HX.out.below HB.out) (by have := HXL.out; omega) ?_
       intro uv3 v3 ho h
       obtain ⟨qv3, rfl, -⟩ := ho.sl
       have PB := hid (PB.out.belowAll h)
       have RB := hid (RB.out.belowAll h)
       have HB := hid (HB.out.trans (h.mono HB.out.size))
       have hsv3 : v2.heap.size ≤ v3.heap.size := by first | exact h.size | omega
       have HC := hid ho
       clear kPB2 kPB3
       have kPB2 : v3.cell? ⟨w.heap.size, 2, none⟩ = some (.slice xa N xc) := (BoxAt.cell PB.out 2).trans rfl
       have kPB3 : v3.cell? ⟨w.heap.size, 3, none⟩ = some (.slice sa M sc) := (BoxAt.cell PB.out 3).trans rfl
       clear ho h hfl FL3
       refine Hid.out ?_)
    | fail)
  refine hid ?_
  have FL4 := hid trivial
  go_wp2_with (first
    | (have hfl := FL4.out
       refine wpList_store_box rfl 22 _ _ rfl rfl (w.heap.size) 2 (.slice qv3.a qv3.n qv3.c) rfl rfl rfl rfl (by kernel_rfl) _ _ PB.out (by simp) ?_
       intro v4 b g z
       have hsv4 : v3.heap.size ≤ v4.heap.size := by omega
       have HC := hid (HC.out.put g PB.out (by decide))
       have PB := hid (show BoxAt v4 (w.heap.size) 25 #[.int .i64 d, .bool k, .slice qv3.a qv3.n qv3.c, .slice sa M sc] from by simpa using b)
       have RB := hid (RB.out.grown g (fun e => by have := Option.some.inj e; omega))
       have HB := hid (HB.out.trans (grown_below g (by omega) (by omega)))
       clear kPB2 kPB3
       have kPB2 : v4.cell? ⟨w.heap.size, 2, none⟩ = some (.slice qv3.a qv3.n qv3.c) := (BoxAt.cell PB.out 2).trans rfl
       have kPB3 : v4.cell? ⟨w.heap.size, 3, none⟩ = some (.slice sa M sc) := (BoxAt.cell PB.out 3).trans rfl
       clear b g z hfl FL4
       refine Hid.out ?_)
    | fail)
  refine hid ?_
  clear kPB2 kPB3
  have kPB2 : v4.cell? ⟨w.heap.size, 2, none⟩ = some (.slice qv3.a qv3.n qv3.c) := (BoxAt.cell PB.out 2).trans rfl
  have kPB3 : v4.cell? ⟨w.heap.size, 3, none⟩ = some (.slice sa M sc) := (BoxAt.cell PB.out 3).trans rfl
  have FL5 := hid trivial
  go_wp2_with (first
    | (have hfl := FL5.out
       at_builtin
       refine app_nilWt rfl (.tmp 8) rfl _ l rfl (HV.out.below HB.out) (by have := HL.out; omega) ?_
       intro uv5 v5 ho h
       obtain ⟨qv5, rfl, -⟩ := ho.sl
       have PB := hid (PB.out.belowAll h)
       have RB := hid (RB.out.belowAll h)
       have HC := hid (HC.out.below h)
       have HB := hid (HB.out.trans (h.mono HB.out.size))
       have hsv5 : v4.heap.size ≤ v5.heap.size := by first | exact h.size | omega
       have HU := hid ho
       clear kPB2 kPB3
       have kPB2 : v5.cell? ⟨w.heap.size, 2, none⟩ = some (.slice qv3.a qv3.n qv3.c) := (BoxAt.cell PB.out 2).trans rfl
       have kPB3 : v5.cell? ⟨w.heap.size, 3, none⟩ = some (.slice sa M sc) := (BoxAt.cell PB.out 3).trans rfl
       clear ho h hfl FL5
       refine Hid.out ?_)
    | fail)
  refine hid ?_
  have FL6 := hid trivial
  have FL7 := hid trivial
  go_wp2_with (first
    | (have hfl := FL6.out
       refine wpList_store_box rfl 23 _ _ rfl rfl (w.heap.size) 3 (.slice qv5.a qv5.n qv5.c) rfl rfl rfl rfl (by kernel_rfl) _ _ PB.out (by simp) ?_
       intro v6 b g z
       have hsv6 : v5.heap.size ≤ v6.heap.size := by omega
       have HC := hid (HC.out.put g PB.out (by decide))
       have HU := hid (HU.out.put g PB.out (by decide))
       have PB := hid (show BoxAt v6 (w.heap.size) 25 #[.int .i64 d, .bool k, .slice qv3.a qv3.n qv3.c, .slice qv5.a qv5.n qv5.c] from by simpa using b)
       have RB := hid (RB.out.grown g (fun e => by have := Option.some.inj e; omega))
       have HB := hid (HB.out.trans (grown_below g (by omega) (by omega)))
       clear kPB2 kPB3
       have kPB2 : v6.cell? ⟨w.heap.size, 2, none⟩ = some (.slice qv3.a qv3.n qv3.c) := (BoxAt.cell PB.out 2).trans rfl
       have kPB3 : v6.cell? ⟨w.heap.size, 3, none⟩ = some (.slice qv5.a qv5.n qv5.c) := (BoxAt.cell PB.out 3).trans rfl
       clear b g z hfl FL6)
    | (refine wpList_load_box rfl 25 _ rfl (w.heap.size) rfl _ _ PB.out _ Try.underlying25 Try.infoBf ?_)
    | (have hfl := FL7.out
       refine wpList_store_whole rfl 25 _ _ rfl rfl (v1.heap.size) rfl [.int .i64 d, .bool k, .slice qv3.a qv3.n qv3.c, .slice qv5.a qv5.n qv5.c] rfl _ _ RB.out rfl Try.infoBf (by simp [Value.oneCell']) ?_
       intro v7 b g z
       have hsv7 : v6.heap.size ≤ v7.heap.size := by omega
       have HC := hid (HC.out.put g RB.out (by decide))
       have HU := hid (HU.out.put g RB.out (by decide))
       have RB := hid (show BoxAt v7 (v1.heap.size) 25 #[.int .i64 d, .bool k, .slice qv3.a qv3.n qv3.c, .slice qv5.a qv5.n qv5.c] from b)
       have PB := hid (PB.out.grown g (fun e => by have := Option.some.inj e; omega))
       have HB := hid (HB.out.trans (grown_below g (by omega) (by omega)))
       clear kPB2 kPB3
       have kPB2 : v7.cell? ⟨w.heap.size, 2, none⟩ = some (.slice qv3.a qv3.n qv3.c) := (BoxAt.cell PB.out 2).trans rfl
       have kPB3 : v7.cell? ⟨w.heap.size, 3, none⟩ = some (.slice qv5.a qv5.n qv5.c) := (BoxAt.cell PB.out 3).trans rfl
       clear b g z hfl FL7)
    | fail)
  refine bodyPost_ret (results_cell_row rfl _ _ (v1.heap.size) 25 _ (0, 0) _ rfl RB.out Try.underlying25 rfl Try.infoBf) rfl ?_
  exact ⟨qv3, qv5, rfl, HC.out.mono (by omega), HU.out.mono (by omega), HB.out⟩

set_option maxRecDepth 100000 in
set_option maxHeartbeats 1600000 in
theorem rsend_wake (d : Int) (k : Bool) {vs s : Sl} {xs : List Int} {l : List Wt} (p r v : Int) (fp fr fv : Int) (may : Bool) {w : World} (hv : Sees w .i64 vs.val xs) (hs : SeesWt w s.val l) (hx : xs.length ≤ 800000) (hl : l.length ≤ 800000) (h0 : xs.length = 0) (h1 : 0 < l.length) (hf : l.getD 0 Wt.zero = ⟨fp, fr, fv⟩) :
    Calls Try.prog 10 #[BfV.val ⟨d, k, vs, s⟩, .agg #[.int .i64 p, .int .i64 r, .int .i64 v], .bool may] w fun e w' => ∃ (x u q : Sl), e = .returned (.tuple #[BfV.val ⟨d, k, x, u⟩, .int .i64 (0), q.val]) ∧ OI w' w.heap.size x.val ([]) ∧ OWt w' w.heap.size u.val (l.drop 1) ∧ OWk w' w.heap.size q.val ([⟨fp, 0, v⟩]) ∧ Below w.heap.size w w' := by
  have HX := hid hv
  have HV := hid hs
  obtain ⟨a1, c1, hv1, hx1, hx2, hxc⟩ := hv.form
  obtain ⟨xa, xn, xc⟩ := vs
  simp only [Sl.val, Value.slice.injEq] at hv1
  obtain ⟨rfl, rfl, rfl⟩ := hv1
  obtain ⟨a2, c2, hs1, hc1, hc2, -⟩ := hs.form
  obtain ⟨sa, sn, sc⟩ := s
  simp only [Sl.val, Value.slice.injEq] at hs1
  obtain ⟨rfl, rfl, rfl⟩ := hs1
  unfold maxLen at hx2 hc2
  simp only [Sl.val] at HX HV
  have HXC := hid hxc
  clear hv hs hxc
  unfold BfV.val
  simp only
  obtain ⟨N, hN⟩ : ∃ N, xs.length = N := ⟨_, rfl⟩
  obtain ⟨M, hM⟩ : ∃ M, l.length = M := ⟨_, rfl⟩
  have HN := hid hN
  have HM := hid hM
  have HXL := hid hx
  have HL := hid hl
  rw [hN] at hx hx1 HX HXC ⊢
  rw [hM] at hl hc1 HV ⊢
  have H0 := hid h0
  have H1 := hid h1
  have t0 : ((N : Int) == 0) = true := by rw [← hN, h0]; rfl
  have tz : ¬ (0 : Int) < (N : Int) := by rw [← hN, h0]; decide
  have tm : (0 : Int) < (M : Int) := by omega
  have HE := hid (List.eq_nil_of_length_eq_zero h0)
  clear hN hM h0 h1
  have HB := hid (Below.refl w.heap.size w)
  go_enter Try.func10, Try.ntmps10
  have FL1 := hid trivial
  have FL2 := hid trivial
  have FL3 := hid trivial
  go_wp2_with (first
    | (have hfl := FL1.out
       refine wpList_box rfl 25 (.tmp 0) rfl #[.int .i64 d, .bool k, .slice xa N xc, .slice sa M sc] rfl ?_
       intro v1 b h z
       have PB := hid (show BoxAt v1 w.heap.size 25 #[.int .i64 d, .bool k, .slice xa N xc, .slice sa M sc] from b)
       have HB := hid (HB.out.trans (h.mono HB.out.size))
       have hsv1 : w.heap.size + 1 ≤ v1.heap.size := by first | exact h.size | omega
       clear b h z hfl FL1)
    | (have hfl := FL2.out
       refine wpList_box rfl 27 (.tmp 1) rfl #[.int .i64 p, .int .i64 r, .int .i64 v] rfl ?_
       intro v2 b h z
       have WB := hid (show BoxAt v2 v1.heap.size 27 #[.int .i64 p, .int .i64 r, .int .i64 v] from b)
       have PB := hid (PB.out.belowAll h)
       have HB := hid (HB.out.trans (h.mono HB.out.size))
       have hsv2 : v1.heap.size + 1 ≤ v2.heap.size := by first | exact h.size | omega
       have kPB0 : v2.cell? ⟨w.heap.size, 0, none⟩ = some (.int .i64 d) := (BoxAt.cell PB.out 0).trans rfl
       have kPB1 : v2.cell? ⟨w.heap.size, 1, none⟩ = some (.bool k) := (BoxAt.cell PB.out 1).trans rfl
       have kPB2 : v2.cell? ⟨w.heap.size, 2, none⟩ = some (.slice xa N xc) := (BoxAt.cell PB.out 2).trans rfl
       have kPB3 : v2.cell? ⟨w.heap.size, 3, none⟩ = some (.slice sa M sc) := (BoxAt.cell PB.out 3).trans rfl
       clear b h z hfl FL2)
    | (have hfl := FL3.out
       refine wpList_new rfl 25 rfl _ Try.zeroBf ?_
       intro v3 b h z
       have RB := hid (show BoxAt v3 v2.heap.size 25 #[.int .i64 0, .bool false, .slice none 0 0, .slice none 0 0] from b)
       have PB := hid (PB.out.belowAll h)
       have WB := hid (WB.out.belowAll h)
       have HB := hid (HB.out.trans (h.mono HB.out.size))
       have hsv3 : v2.heap.size + 1 ≤ v3.heap.size := by first | exact h.size | omega
       clear kPB0 kPB1 kPB2 kPB3
       have kPB0 : v3.cell? ⟨w.heap.size, 0, none⟩ = some (.int .i64 d) := (BoxAt.cell PB.out 0).trans rfl
       have kPB1 : v3.cell? ⟨w.heap.size, 1, none⟩ = some (.bool k) := (BoxAt.cell PB.out 1).trans rfl
       have kPB2 : v3.cell? ⟨w.heap.size, 2, none⟩ = some (.slice xa N xc) := (BoxAt.cell PB.out 2).trans rfl
       have kPB3 : v3.cell? ⟨w.heap.size, 3, none⟩ = some (.slice sa M sc) := (BoxAt.cell PB.out 3).trans rfl
       have kWB0 : v3.cell? ⟨v1.heap.size, 0, none⟩ = some (.int .i64 p) := (BoxAt.cell WB.out 0).trans rfl
       have kWB1 : v3.cell? ⟨v1.heap.size, 1, none⟩ = some (.int .i64 r) := (BoxAt.cell WB.out 1).trans rfl
       have kWB2 : v3.cell? ⟨v1.heap.size, 2, none⟩ = some (.int .i64 v) := (BoxAt.cell WB.out 2).trans rfl
       clear b h z hfl FL3
       refine Hid.out ?_)
    | fail)
  refine hid ?_
  clear kPB0 kPB1 kPB2 kPB3 kWB0 kWB1 kWB2
  have kPB0 : v3.cell? ⟨w.heap.size, 0, none⟩ = some (.int .i64 d) := (BoxAt.cell PB.out 0).trans rfl
  have kPB1 : v3.cell? ⟨w.heap.size, 1, none⟩ = some (.bool k) := (BoxAt.cell PB.out 1).trans rfl
  have kPB2 : v3.cell? ⟨w.heap.size, 2, none⟩ = some (.slice xa N xc) := (BoxAt.cell PB.out 2).trans rfl
  have kPB3 : v3.cell? ⟨w.heap.size, 3, none⟩ = some (.slice sa M sc) := (BoxAt.cell PB.out 3).trans rfl
  have kWB0 : v3.cell? ⟨v1.heap.size, 0, none⟩ = some (.int .i64 p) := (BoxAt.cell WB.out 0).trans rfl
  have kWB1 : v3.cell? ⟨v1.heap.size, 1, none⟩ = some (.int .i64 r) := (BoxAt.cell WB.out 1).trans rfl
  have kWB2 : v3.cell? ⟨v1.heap.size, 2, none⟩ = some (.int .i64 v) := (BoxAt.cell WB.out 2).trans rfl
  go_wp2_with (first
    | (refine wpList_load_box rfl 25 _ rfl (w.heap.size) rfl _ _ PB.out _ Try.underlying25 Try.infoBf ?_)
    | fail)
  have HBw := HB.out.size
  refine (rbown_any d k (vs := ⟨xa, N, xc⟩) (s := ⟨sa, M, sc⟩) (HX.out.below HB.out) (HV.out.below HB.out) HXL.out HL.out).mono ?_
  rintro e v4 ⟨x, u, rfl, hc, hu, hb⟩
  have PB := hid (PB.out.belowAll hb)
  have WB := hid (WB.out.belowAll hb)
  have RB := hid (RB.out.belowAll hb)
  have HB := hid (HB.out.trans (hb.mono HB.out.size))
  have hsv4 : v3.heap.size ≤ v4.heap.size := by first | exact hb.size | omega
  have HC := hid (hc.mono HBw)
  have HU := hid (hu.mono HBw)
  clear hc hu HBw
  simp only [Sl.val] at HC HU
  clear kPB0 kPB1 kPB2 kPB3 kWB0 kWB1 kWB2
  have kPB0 : v4.cell? ⟨w.heap.size, 0, none⟩ = some (.int .i64 d) := (BoxAt.cell PB.out 0).trans rfl
  have kPB1 : v4.cell? ⟨w.heap.size, 1, none⟩ = some (.bool k) := (BoxAt.cell PB.out 1).trans rfl
  have kPB2 : v4.cell? ⟨w.heap.size, 2, none⟩ = some (.slice xa N xc) := (BoxAt.cell PB.out 2).trans rfl
  have kPB3 : v4.cell? ⟨w.heap.size, 3, none⟩ = some (.slice sa M sc) := (BoxAt.cell PB.out 3).trans rfl
  have kWB0 : v4.cell? ⟨v1.heap.size, 0, none⟩ = some (.int .i64 p) := (BoxAt.cell WB.out 0).trans rfl
  have kWB1 : v4.cell? ⟨v1.heap.size, 1, none⟩ = some (.int .i64 r) := (BoxAt.cell WB.out 1).trans rfl
  have kWB2 : v4.cell? ⟨v1.heap.size, 2, none⟩ = some (.int .i64 v) := (BoxAt.cell WB.out 2).trans rfl
  clear hb
  have FL4 := hid trivial
  have FL5 := hid trivial
  go_wp2_with (first
    | (have hfl := FL4.out
       refine wpList_new rfl 25 rfl _ Try.zeroBf ?_
       intro v5 b h z
       have AB := hid (show BoxAt v5 v4.heap.size 25 #[.int .i64 0, .bool false, .slice none 0 0, .slice none 0 0] from b)
       have PB := hid (PB.out.belowAll h)
       have WB := hid (WB.out.belowAll h)
       have RB := hid (RB.out.belowAll h)
       have HC := hid (HC.out.below h)
       have HU := hid (HU.out.below h)
       have HB := hid (HB.out.trans (h.mono HB.out.size))
       have hsv5 : v4.heap.size + 1 ≤ v5.heap.size := by first | exact h.size | omega
       clear kPB0 kPB1 kPB2 kPB3 kWB0 kWB1 kWB2
       have kPB0 : v5.cell? ⟨w.heap.size, 0, none⟩ = some (.int .i64 d) := (BoxAt.cell PB.out 0).trans rfl
       have kPB1 : v5.cell? ⟨w.heap.size, 1, none⟩ = some (.bool k) := (BoxAt.cell PB.out 1).trans rfl
       have kPB2 : v5.cell? ⟨w.heap.size, 2, none⟩ = some (.slice xa N xc) := (BoxAt.cell PB.out 2).trans rfl
       have kPB3 : v5.cell? ⟨w.heap.size, 3, none⟩ = some (.slice sa M sc) := (BoxAt.cell PB.out 3).trans rfl
       have kWB0 : v5.cell? ⟨v1.heap.size, 0, none⟩ = some (.int .i64 p) := (BoxAt.cell WB.out 0).trans rfl
       have kWB1 : v5.cell? ⟨v1.heap.size, 1, none⟩ = some (.int .i64 r) := (BoxAt.cell WB.out 1).trans rfl
       have kWB2 : v5.cell? ⟨v1.heap.size, 2, none⟩ = some (.int .i64 v) := (BoxAt.cell WB.out 2).trans rfl
       clear b h z hfl FL4)
    | (have hfl := FL5.out
       refine wpList_store_whole rfl 25 _ _ rfl rfl (v4.heap.size) rfl [.int .i64 d, .bool k, .slice x.a x.n x.c, .slice u.a u.n u.c] rfl _ _ AB.out rfl Try.infoBf (by simp [Value.oneCell']) ?_
       intro v6 b g z
       have hsv6 : v5.heap.size ≤ v6.heap.size := by omega
       have HC := hid (HC.out.put g AB.out (by decide))
       have HU := hid (HU.out.put g AB.out (by decide))
       have AB := hid (show BoxAt v6 (v4.heap.size) 25 #[.int .i64 d, .bool k, .slice x.a x.n x.c, .slice u.a u.n u.c] from b)
       have PB := hid (PB.out.grown g (fun e => by have := Option.some.inj e; omega))
       have WB := hid (WB.out.grown g (fun e => by have := Option.some.inj e; omega))
       have RB := hid (RB.out.grown g (fun e => by have := Option.some.inj e; omega))
       have HB := hid (HB.out.trans (grown_below g (by omega) (by omega)))
       clear kPB0 kPB1 kPB2 kPB3 kWB0 kWB1 kWB2
       have kPB0 : v6.cell? ⟨w.heap.size, 0, none⟩ = some (.int .i64 d) := (BoxAt.cell PB.out 0).trans rfl
       have kPB1 : v6.cell? ⟨w.heap.size, 1, none⟩ = some (.bool k) := (BoxAt.cell PB.out 1).trans rfl
       have kPB2 : v6.cell? ⟨w.heap.size, 2, none⟩ = some (.slice xa N xc) := (BoxAt.cell PB.out 2).trans rfl
       have kPB3 : v6.cell? ⟨w.heap.size, 3, none⟩ = some (.slice sa M sc) := (BoxAt.cell PB.out 3).trans rfl
       have kWB0 : v6.cell? ⟨v1.heap.size, 0, none⟩ = some (.int .i64 p) := (BoxAt.cell WB.out 0).trans rfl
       have kWB1 : v6.cell? ⟨v1.heap.size, 1, none⟩ = some (.int .i64 r) := (BoxAt.cell WB.out 1).trans rfl
       have kWB2 : v6.cell? ⟨v1.heap.size, 2, none⟩ = some (.int .i64 v) := (BoxAt.cell WB.out 2).trans rfl
       have kAB2 : v6.cell? ⟨v4.heap.size, 2, none⟩ = some (.slice x.a x.n x.c) := (BoxAt.cell AB.out 2).trans rfl
       have kAB3 : v6.cell? ⟨v4.heap.size, 3, none⟩ = some (.slice u.a u.n u.c) := (BoxAt.cell AB.out 3).trans rfl
       clear b g z hfl FL5
       refine Hid.out ?_)
    | fail)
  refine hid ?_
  clear kPB0 kPB1 kPB2 kPB3 kWB0 kWB1 kWB2 kAB2 kAB3
  have kPB0 : v6.cell? ⟨w.heap.size, 0, none⟩ = some (.int .i64 d) := (BoxAt.cell PB.out 0).trans rfl
  have kPB1 : v6.cell? ⟨w.heap.size, 1, none⟩ = some (.bool k) := (BoxAt.cell PB.out 1).trans rfl
  have kPB2 : v6.cell? ⟨w.heap.size, 2, none⟩ = some (.slice xa N xc) := (BoxAt.cell PB.out 2).trans rfl
  have kPB3 : v6.cell? ⟨w.heap.size, 3, none⟩ = some (.slice sa M sc) := (BoxAt.cell PB.out 3).trans rfl
  have kWB0 : v6.cell? ⟨v1.heap.size, 0, none⟩ = some (.int .i64 p) := (BoxAt.cell WB.out 0).trans rfl
  have kWB1 : v6.cell? ⟨v1.heap.size, 1, none⟩ = some (.int .i64 r) := (BoxAt.cell WB.out 1).trans rfl
  have kWB2 : v6.cell? ⟨v1.heap.size, 2, none⟩ = some (.int .i64 v) := (BoxAt.cell WB.out 2).trans rfl
  have kAB2 : v6.cell? ⟨v4.heap.size, 2, none⟩ = some (.slice x.a x.n x.c) := (BoxAt.cell AB.out 2).trans rfl
  have kAB3 : v6.cell? ⟨v4.heap.size, 3, none⟩ = some (.slice u.a u.n u.c) := (BoxAt.cell AB.out 3).trans rfl
  go_wp2_with fail
  go_wp2_with fail
  have HBf := HB.out.size
  refine (rfirst_yes (HV.out.below HB.out) HL.out H1.out fp fr fv hf).mono ?_
  rintro e v7 ⟨f, rfl, hu, hb⟩
  have PB := hid (PB.out.belowAll hb)
  have WB := hid (WB.out.belowAll hb)
  have RB := hid (RB.out.belowAll hb)
  have AB := hid (AB.out.belowAll hb)
  have HC := hid (HC.out.below hb)
  have HU := hid (HU.out.below hb)
  have HB := hid (HB.out.trans (hb.mono HB.out.size))
  have hsv7 : v6.heap.size ≤ v7.heap.size := by first | exact hb.size | omega
  have HF := hid (hu.mono HBf)
  clear hu HBf
  clear kPB0 kPB1 kPB2 kPB3 kWB0 kWB1 kWB2 kAB2 kAB3
  have kPB0 : v7.cell? ⟨w.heap.size, 0, none⟩ = some (.int .i64 d) := (BoxAt.cell PB.out 0).trans rfl
  have kPB1 : v7.cell? ⟨w.heap.size, 1, none⟩ = some (.bool k) := (BoxAt.cell PB.out 1).trans rfl
  have kPB2 : v7.cell? ⟨w.heap.size, 2, none⟩ = some (.slice xa N xc) := (BoxAt.cell PB.out 2).trans rfl
  have kPB3 : v7.cell? ⟨w.heap.size, 3, none⟩ = some (.slice sa M sc) := (BoxAt.cell PB.out 3).trans rfl
  have kWB0 : v7.cell? ⟨v1.heap.size, 0, none⟩ = some (.int .i64 p) := (BoxAt.cell WB.out 0).trans rfl
  have kWB1 : v7.cell? ⟨v1.heap.size, 1, none⟩ = some (.int .i64 r) := (BoxAt.cell WB.out 1).trans rfl
  have kWB2 : v7.cell? ⟨v1.heap.size, 2, none⟩ = some (.int .i64 v) := (BoxAt.cell WB.out 2).trans rfl
  have kAB2 : v7.cell? ⟨v4.heap.size, 2, none⟩ = some (.slice x.a x.n x.c) := (BoxAt.cell AB.out 2).trans rfl
  have kAB3 : v7.cell? ⟨v4.heap.size, 3, none⟩ = some (.slice u.a u.n u.c) := (BoxAt.cell AB.out 3).trans rfl
  clear hb
  have HFB := hid (fun k hk => (HF.out.lt k hk).2)
  have HUB := hid (fun k hk => (HU.out.lt k hk).2)
  have FL6 := hid trivial
  have FL7 := hid trivial
  go_wp2_with (first
    | (have hfl := FL6.out
       refine wpList_new rfl 27 rfl _ Try.zeroWt ?_
       intro v8 b h z
       have FB := hid (show BoxAt v8 v7.heap.size 27 #[.int .i64 0, .int .i64 0, .int .i64 0] from b)
       have PB := hid (PB.out.belowAll h)
       have WB := hid (WB.out.belowAll h)
       have RB := hid (RB.out.belowAll h)
       have AB := hid (AB.out.belowAll h)
       have HC := hid (HC.out.below h)
       have HU := hid (HU.out.below h)
       have HF := hid (HF.out.below h)
       have HB := hid (HB.out.trans (h.mono HB.out.size))
       have hsv8 : v7.heap.size + 1 ≤ v8.heap.size := by first | exact h.size | omega
       clear kPB0 kPB1 kPB2 kPB3 kWB0 kWB1 kWB2 kAB2 kAB3
       have kPB0 : v8.cell? ⟨w.heap.size, 0, none⟩ = some (.int .i64 d) := (BoxAt.cell PB.out 0).trans rfl
       have kPB1 : v8.cell? ⟨w.heap.size, 1, none⟩ = some (.bool k) := (BoxAt.cell PB.out 1).trans rfl
       have kPB2 : v8.cell? ⟨w.heap.size, 2, none⟩ = some (.slice xa N xc) := (BoxAt.cell PB.out 2).trans rfl
       have kPB3 : v8.cell? ⟨w.heap.size, 3, none⟩ = some (.slice sa M sc) := (BoxAt.cell PB.out 3).trans rfl
       have kWB0 : v8.cell? ⟨v1.heap.size, 0, none⟩ = some (.int .i64 p) := (BoxAt.cell WB.out 0).trans rfl
       have kWB1 : v8.cell? ⟨v1.heap.size, 1, none⟩ = some (.int .i64 r) := (BoxAt.cell WB.out 1).trans rfl
       have kWB2 : v8.cell? ⟨v1.heap.size, 2, none⟩ = some (.int .i64 v) := (BoxAt.cell WB.out 2).trans rfl
       have kAB2 : v8.cell? ⟨v4.heap.size, 2, none⟩ = some (.slice x.a x.n x.c) := (BoxAt.cell AB.out 2).trans rfl
       have kAB3 : v8.cell? ⟨v4.heap.size, 3, none⟩ = some (.slice u.a u.n u.c) := (BoxAt.cell AB.out 3).trans rfl
       clear b h z hfl FL6)
    | (have hfl := FL7.out
       refine wpList_store_whole rfl 27 _ _ rfl rfl (v7.heap.size) rfl [.int .i64 fp, .int .i64 fr, .int .i64 fv] rfl _ _ FB.out rfl Try.infoWt (by simp [Value.oneCell']) ?_
       intro v9 b g z
       have hsv9 : v8.heap.size ≤ v9.heap.size := by omega
       have HC := hid (HC.out.put g FB.out (by decide))
       have HU := hid (HU.out.apart g (fun k hk => Nat.ne_of_lt (HUB.out k hk)))
       have HF := hid (HF.out.apart g (fun k hk => Nat.ne_of_lt (HFB.out k hk)))
       have FB := hid (show BoxAt v9 (v7.heap.size) 27 #[.int .i64 fp, .int .i64 fr, .int .i64 fv] from b)
       have PB := hid (PB.out.grown g (fun e => by have := Option.some.inj e; omega))
       have WB := hid (WB.out.grown g (fun e => by have := Option.some.inj e; omega))
       have RB := hid (RB.out.grown g (fun e => by have := Option.some.inj e; omega))
       have AB := hid (AB.out.grown g (fun e => by have := Option.some.inj e; omega))
       have HB := hid (HB.out.trans (grown_below g (by omega) (by omega)))
       clear kPB0 kPB1 kPB2 kPB3 kWB0 kWB1 kWB2 kAB2 kAB3
       have kPB0 : v9.cell? ⟨w.heap.size, 0, none⟩ = some (.int .i64 d) := (BoxAt.cell PB.out 0).trans rfl
       have kPB1 : v9.cell? ⟨w.heap.size, 1, none⟩ = some (.bool k) := (BoxAt.cell PB.out 1).trans rfl
       have kPB2 : v9.cell? ⟨w.heap.size, 2, none⟩ = some (.slice xa N xc) := (BoxAt.cell PB.out 2).trans rfl
       have kPB3 : v9.cell? ⟨w.heap.size, 3, none⟩ = some (.slice sa M sc) := (BoxAt.cell PB.out 3).trans rfl
       have kWB0 : v9.cell? ⟨v1.heap.size, 0, none⟩ = some (.int .i64 p) := (BoxAt.cell WB.out 0).trans rfl
       have kWB1 : v9.cell? ⟨v1.heap.size, 1, none⟩ = some (.int .i64 r) := (BoxAt.cell WB.out 1).trans rfl
       have kWB2 : v9.cell? ⟨v1.heap.size, 2, none⟩ = some (.int .i64 v) := (BoxAt.cell WB.out 2).trans rfl
       have kAB2 : v9.cell? ⟨v4.heap.size, 2, none⟩ = some (.slice x.a x.n x.c) := (BoxAt.cell AB.out 2).trans rfl
       have kAB3 : v9.cell? ⟨v4.heap.size, 3, none⟩ = some (.slice u.a u.n u.c) := (BoxAt.cell AB.out 3).trans rfl
       have kFB0 : v9.cell? ⟨v7.heap.size, 0, none⟩ = some (.int .i64 fp) := (BoxAt.cell FB.out 0).trans rfl
       have kFB2 : v9.cell? ⟨v7.heap.size, 2, none⟩ = some (.int .i64 fv) := (BoxAt.cell FB.out 2).trans rfl
       clear b g z hfl FL7
       refine Hid.out ?_)
    | fail)
  refine hid ?_
  clear kPB0 kPB1 kPB2 kPB3 kWB0 kWB1 kWB2 kAB2 kAB3 kFB0 kFB2
  have kPB0 : v9.cell? ⟨w.heap.size, 0, none⟩ = some (.int .i64 d) := (BoxAt.cell PB.out 0).trans rfl
  have kPB1 : v9.cell? ⟨w.heap.size, 1, none⟩ = some (.bool k) := (BoxAt.cell PB.out 1).trans rfl
  have kPB2 : v9.cell? ⟨w.heap.size, 2, none⟩ = some (.slice xa N xc) := (BoxAt.cell PB.out 2).trans rfl
  have kPB3 : v9.cell? ⟨w.heap.size, 3, none⟩ = some (.slice sa M sc) := (BoxAt.cell PB.out 3).trans rfl
  have kWB0 : v9.cell? ⟨v1.heap.size, 0, none⟩ = some (.int .i64 p) := (BoxAt.cell WB.out 0).trans rfl
  have kWB1 : v9.cell? ⟨v1.heap.size, 1, none⟩ = some (.int .i64 r) := (BoxAt.cell WB.out 1).trans rfl
  have kWB2 : v9.cell? ⟨v1.heap.size, 2, none⟩ = some (.int .i64 v) := (BoxAt.cell WB.out 2).trans rfl
  have kAB2 : v9.cell? ⟨v4.heap.size, 2, none⟩ = some (.slice x.a x.n x.c) := (BoxAt.cell AB.out 2).trans rfl
  have kAB3 : v9.cell? ⟨v4.heap.size, 3, none⟩ = some (.slice u.a u.n u.c) := (BoxAt.cell AB.out 3).trans rfl
  have kFB0 : v9.cell? ⟨v7.heap.size, 0, none⟩ = some (.int .i64 fp) := (BoxAt.cell FB.out 0).trans rfl
  have kFB2 : v9.cell? ⟨v7.heap.size, 2, none⟩ = some (.int .i64 fv) := (BoxAt.cell FB.out 2).trans rfl
  have FL8 := hid trivial
  go_wp2_with (first
    | (have hfl := FL8.out
       refine wpList_store_box rfl 23 _ _ rfl rfl (v4.heap.size) 3 (.slice f.a f.n f.c) rfl rfl rfl rfl (by kernel_rfl) _ _ AB.out (by simp) ?_
       intro v10 b g z
       have hsv10 : v9.heap.size ≤ v10.heap.size := by omega
       have HC := hid (HC.out.put g AB.out (by decide))
       have HU := hid (HU.out.put g AB.out (by decide))
       have HF := hid (HF.out.put g AB.out (by decide))
       have AB := hid (show BoxAt v10 (v4.heap.size) 25 #[.int .i64 d, .bool k, .slice x.a x.n x.c, .slice f.a f.n f.c] from by simpa using b)
       have PB := hid (PB.out.grown g (fun e => by have := Option.some.inj e; omega))
       have WB := hid (WB.out.grown g (fun e => by have := Option.some.inj e; omega))
       have RB := hid (RB.out.grown g (fun e => by have := Option.some.inj e; omega))
       have FB := hid (FB.out.grown g (fun e => by have := Option.some.inj e; omega))
       have HB := hid (HB.out.trans (grown_below g (by omega) (by omega)))
       clear kPB0 kPB1 kPB2 kPB3 kWB0 kWB1 kWB2 kAB2 kAB3 kFB0 kFB2
       have kPB0 : v10.cell? ⟨w.heap.size, 0, none⟩ = some (.int .i64 d) := (BoxAt.cell PB.out 0).trans rfl
       have kPB1 : v10.cell? ⟨w.heap.size, 1, none⟩ = some (.bool k) := (BoxAt.cell PB.out 1).trans rfl
       have kPB2 : v10.cell? ⟨w.heap.size, 2, none⟩ = some (.slice xa N xc) := (BoxAt.cell PB.out 2).trans rfl
       have kPB3 : v10.cell? ⟨w.heap.size, 3, none⟩ = some (.slice sa M sc) := (BoxAt.cell PB.out 3).trans rfl
       have kWB0 : v10.cell? ⟨v1.heap.size, 0, none⟩ = some (.int .i64 p) := (BoxAt.cell WB.out 0).trans rfl
       have kWB1 : v10.cell? ⟨v1.heap.size, 1, none⟩ = some (.int .i64 r) := (BoxAt.cell WB.out 1).trans rfl
       have kWB2 : v10.cell? ⟨v1.heap.size, 2, none⟩ = some (.int .i64 v) := (BoxAt.cell WB.out 2).trans rfl
       have kAB2 : v10.cell? ⟨v4.heap.size, 2, none⟩ = some (.slice x.a x.n x.c) := (BoxAt.cell AB.out 2).trans rfl
       have kAB3 : v10.cell? ⟨v4.heap.size, 3, none⟩ = some (.slice f.a f.n f.c) := (BoxAt.cell AB.out 3).trans rfl
       have kFB0 : v10.cell? ⟨v7.heap.size, 0, none⟩ = some (.int .i64 fp) := (BoxAt.cell FB.out 0).trans rfl
       have kFB2 : v10.cell? ⟨v7.heap.size, 2, none⟩ = some (.int .i64 fv) := (BoxAt.cell FB.out 2).trans rfl
       clear b g z hfl FL8
       refine Hid.out ?_)
    | fail)
  refine hid ?_
  go_wp2_with fail
  clear kPB0 kPB1 kPB2 kPB3 kWB0 kWB1 kWB2 kAB2 kAB3 kFB0 kFB2
  have PB := hid (BoxAt.drew PB.out)
  have WB := hid (BoxAt.drew WB.out)
  have RB := hid (BoxAt.drew RB.out)
  have AB := hid (BoxAt.drew AB.out)
  have FB := hid (BoxAt.drew FB.out)
  have HC := hid (HC.out.below ((Below.refl v10.heap.size v10).drew))
  have HF := hid (HF.out.below ((Below.refl v10.heap.size v10).drew))
  have HB := hid HB.out.drew
  have hsv11 : v10.heap.size ≤ v10.drew.heap.size := Nat.le_refl _
  refine wp_region_held_drew (S := (fun w' : World => BoxAt w' (v4.heap.size) 25 #[.int .i64 d, .bool k, .slice x.a x.n x.c, .slice f.a f.n f.c] ∧ BoxAt w' (v7.heap.size) 27 #[.int .i64 fp, .int .i64 fr, .int .i64 fv] ∧ BoxAt w' (v1.heap.size) 27 #[.int .i64 p, .int .i64 r, .int .i64 v])) (by kernel_rfl) (⟨AB.out, FB.out, WB.out⟩) (fun hHeld => ?_)
  generalize v10.drew = v11 at *
  refine wpAnyH_take (i := 0) (oi := { dst := some 34, op := Op.load 25 (Operand.tmp 9), type := 25, pos := "ref.go:23", after := _, guard := none }) (v := ?_) rfl (by kernel_rfl) (by kernel_rfl) (by kernel_rfl) (fun _ _ _ h => h) (Or.inl ⟨by rfl, ?_⟩) (by assumption) ?_
  rotate_left
  · (intro W hSw; (try dsimp only at hSw); obtain ⟨x0, x1, x2⟩ := hSw; have c0_0 : W.cell? ⟨v4.heap.size, 0, none⟩ = some (.int .i64 d) := (BoxAt.cell x0 0).trans rfl; have c0_1 : W.cell? ⟨v4.heap.size, 1, none⟩ = some (.bool k) := (BoxAt.cell x0 1).trans rfl; have c0_2 : W.cell? ⟨v4.heap.size, 2, none⟩ = some (.slice x.a x.n x.c) := (BoxAt.cell x0 2).trans rfl; have c0_3 : W.cell? ⟨v4.heap.size, 3, none⟩ = some (.slice f.a f.n f.c) := (BoxAt.cell x0 3).trans rfl; have c1_0 : W.cell? ⟨v7.heap.size, 0, none⟩ = some (.int .i64 fp) := (BoxAt.cell x1 0).trans rfl; have c1_1 : W.cell? ⟨v7.heap.size, 1, none⟩ = some (.int .i64 fr) := (BoxAt.cell x1 1).trans rfl; have c1_2 : W.cell? ⟨v7.heap.size, 2, none⟩ = some (.int .i64 fv) := (BoxAt.cell x1 2).trans rfl; have c2_0 : W.cell? ⟨v1.heap.size, 0, none⟩ = some (.int .i64 p) := (BoxAt.cell x2 0).trans rfl; have c2_1 : W.cell? ⟨v1.heap.size, 1, none⟩ = some (.int .i64 r) := (BoxAt.cell x2 1).trans rfl; have c2_2 : W.cell? ⟨v1.heap.size, 2, none⟩ = some (.int .i64 v) := (BoxAt.cell x2 2).trans rfl; clear x0 x1 x2; go_simp; try with_reducible rfl)
  simp only [Act.put, List.setIfInBounds_toArray, List.set_cons_zero, List.set_cons_succ]
  refine wpAnyH_take (i := 1) (oi := { dst := some 35, op := Op.fieldAddr 27 (Operand.tmp 10) 0, type := 0, pos := "ref.go:23", after := _, guard := none }) (v := ?_) rfl (by kernel_rfl) (by kernel_rfl) (by kernel_rfl) (fun _ _ _ h => h) (Or.inl ⟨by rfl, ?_⟩) (by assumption) ?_
  rotate_left
  · (intro w hSw; (try dsimp only at hSw); go_simp; try with_reducible rfl)
  simp only [Act.put, List.setIfInBounds_toArray, List.set_cons_zero, List.set_cons_succ]
  refine wpAnyH_take (i := 2) (oi := { dst := some 36, op := Op.load 3 (Operand.tmp 35), type := 3, pos := "ref.go:23", after := _, guard := none }) (v := ?_) rfl (by kernel_rfl) (by kernel_rfl) (by kernel_rfl) (fun _ _ _ h => h) (Or.inl ⟨by rfl, ?_⟩) (by assumption) ?_
  rotate_left
  · (intro W hSw; (try dsimp only at hSw); obtain ⟨x0, x1, x2⟩ := hSw; have c0_0 : W.cell? ⟨v4.heap.size, 0, none⟩ = some (.int .i64 d) := (BoxAt.cell x0 0).trans rfl; have c0_1 : W.cell? ⟨v4.heap.size, 1, none⟩ = some (.bool k) := (BoxAt.cell x0 1).trans rfl; have c0_2 : W.cell? ⟨v4.heap.size, 2, none⟩ = some (.slice x.a x.n x.c) := (BoxAt.cell x0 2).trans rfl; have c0_3 : W.cell? ⟨v4.heap.size, 3, none⟩ = some (.slice f.a f.n f.c) := (BoxAt.cell x0 3).trans rfl; have c1_0 : W.cell? ⟨v7.heap.size, 0, none⟩ = some (.int .i64 fp) := (BoxAt.cell x1 0).trans rfl; have c1_1 : W.cell? ⟨v7.heap.size, 1, none⟩ = some (.int .i64 fr) := (BoxAt.cell x1 1).trans rfl; have c1_2 : W.cell? ⟨v7.heap.size, 2, none⟩ = some (.int .i64 fv) := (BoxAt.cell x1 2).trans rfl; have c2_0 : W.cell? ⟨v1.heap.size, 0, none⟩ = some (.int .i64 p) := (BoxAt.cell x2 0).trans rfl; have c2_1 : W.cell? ⟨v1.heap.size, 1, none⟩ = some (.int .i64 r) := (BoxAt.cell x2 1).trans rfl; have c2_2 : W.cell? ⟨v1.heap.size, 2, none⟩ = some (.int .i64 v) := (BoxAt.cell x2 2).trans rfl; clear x0 x1 x2; go_simp; try with_reducible rfl)
  simp only [Act.put, List.setIfInBounds_toArray, List.set_cons_zero, List.set_cons_succ]
  refine wpAnyH_take (i := 3) (oi := { dst := some 37, op := Op.fieldAddr 27 (Operand.tmp 4) 2, type := 0, pos := "ref.go:23", after := _, guard := none }) (v := ?_) rfl (by kernel_rfl) (by kernel_rfl) (by kernel_rfl) (fun _ _ _ h => h) (Or.inl ⟨by rfl, ?_⟩) (by assumption) ?_
  rotate_left
  · (intro w hSw; (try dsimp only at hSw); go_simp; try with_reducible rfl)
  simp only [Act.put, List.setIfInBounds_toArray, List.set_cons_zero, List.set_cons_succ]
  refine wpAnyH_take (i := 4) (oi := { dst := some 38, op := Op.load 3 (Operand.tmp 37), type := 3, pos := "ref.go:23", after := _, guard := none }) (v := ?_) rfl (by kernel_rfl) (by kernel_rfl) (by kernel_rfl) (fun _ _ _ h => h) (Or.inl ⟨by rfl, ?_⟩) (by assumption) ?_
  rotate_left
  · (intro W hSw; (try dsimp only at hSw); obtain ⟨x0, x1, x2⟩ := hSw; have c0_0 : W.cell? ⟨v4.heap.size, 0, none⟩ = some (.int .i64 d) := (BoxAt.cell x0 0).trans rfl; have c0_1 : W.cell? ⟨v4.heap.size, 1, none⟩ = some (.bool k) := (BoxAt.cell x0 1).trans rfl; have c0_2 : W.cell? ⟨v4.heap.size, 2, none⟩ = some (.slice x.a x.n x.c) := (BoxAt.cell x0 2).trans rfl; have c0_3 : W.cell? ⟨v4.heap.size, 3, none⟩ = some (.slice f.a f.n f.c) := (BoxAt.cell x0 3).trans rfl; have c1_0 : W.cell? ⟨v7.heap.size, 0, none⟩ = some (.int .i64 fp) := (BoxAt.cell x1 0).trans rfl; have c1_1 : W.cell? ⟨v7.heap.size, 1, none⟩ = some (.int .i64 fr) := (BoxAt.cell x1 1).trans rfl; have c1_2 : W.cell? ⟨v7.heap.size, 2, none⟩ = some (.int .i64 fv) := (BoxAt.cell x1 2).trans rfl; have c2_0 : W.cell? ⟨v1.heap.size, 0, none⟩ = some (.int .i64 p) := (BoxAt.cell x2 0).trans rfl; have c2_1 : W.cell? ⟨v1.heap.size, 1, none⟩ = some (.int .i64 r) := (BoxAt.cell x2 1).trans rfl; have c2_2 : W.cell? ⟨v1.heap.size, 2, none⟩ = some (.int .i64 v) := (BoxAt.cell x2 2).trans rfl; clear x0 x1 x2; go_simp; try with_reducible rfl)
  simp only [Act.put, List.setIfInBounds_toArray, List.set_cons_zero, List.set_cons_succ]
  refine wpAnyH_take (i := 5) (oi := { dst := some 39, op := Op.build 41 #[(0, Operand.tmp 36), (1, Operand.const (Value.int IntKind.i64 0)), (2, Operand.tmp 38)], type := 41, pos := "ref.go:23", after := _, guard := none }) (v := ?_) rfl (by kernel_rfl) (by kernel_rfl) (by kernel_rfl) (fun _ _ _ h => h) (Or.inl ⟨by rfl, ?_⟩) (by assumption) ?_
  rotate_left
  · (intro w hSw; (try dsimp only at hSw); go_simp; try with_reducible rfl)
  simp only [Act.put, List.setIfInBounds_toArray, List.set_cons_zero, List.set_cons_succ]
  refine wpAnyH_ready (rs := [6, 7]) (by kernel_rfl) (by simp) (AllReadyH.cons (o := { dst := some 40, op := Op.buildSlice 29 1 #[(0, Operand.tmp 39)], type := 29, pos := "ref.go:23", after := _, guard := none }) rfl (fun K1007 hK1007 => ?b1007_6) (AllReadyH.cons (o := { dst := none, op := Op.store 25 (Operand.tmp 6) (Operand.tmp 34), type := 0, pos := "ref.go:23", after := _, guard := none }) rfl (fun K1007 hK1007 => ?b1007_7) AllReadyH.nil))
  case' b1007_6 =>
    refine step_litk rfl (.tmp 39) rfl ((⟨fp, 0, v⟩ : Wk)) rfl ?_
    intro v12 ho h
    have PB := hid (PB.out.belowAll h)
    have WB := hid (WB.out.belowAll h)
    have RB := hid (RB.out.belowAll h)
    have AB := hid (AB.out.belowAll h)
    have FB := hid (FB.out.belowAll h)
    have HC := hid (HC.out.below h)
    have HF := hid (HF.out.below h)
    have HB := hid (HB.out.trans (h.mono HB.out.size))
    have hsv12 : v11.heap.size ≤ v12.heap.size := by first | exact h.size | omega
    have HQ := hid ho
    clear ho h
    refine hK1007.out _ _ (⟨AB.out, FB.out, WB.out⟩) (fun hHeld1007 => ?_)
    clear hK1007 K1007
    try simp only [Act.put, List.setIfInBounds_toArray, List.set_cons_zero, List.set_cons_succ]
    refine wpAnyH_ready (rs := [7]) (by kernel_rfl) (by simp) (AllReadyH.cons (o := { dst := none, op := Op.store 25 (Operand.tmp 6) (Operand.tmp 34), type := 0, pos := "ref.go:23", after := _, guard := none }) rfl (fun K1008 hK1008 => ?_) AllReadyH.nil)
    refine step_store_whole rfl 25 _ _ rfl (v2.heap.size) rfl [.int .i64 d, .bool k, .slice x.a x.n x.c, .slice f.a f.n f.c] rfl _ _ RB.out rfl Try.infoBf (by simp [Value.oneCell']) ?_
    intro v13 b g z
    have hsv13 : v12.heap.size ≤ v13.heap.size := by omega
    have HC := hid (HC.out.put g RB.out (by decide))
    have HF := hid (HF.out.put g RB.out (by decide))
    have HQ := hid (HQ.out.put g RB.out (by decide))
    have RB := hid (show BoxAt v13 (v2.heap.size) 25 #[.int .i64 d, .bool k, .slice x.a x.n x.c, .slice f.a f.n f.c] from b)
    have PB := hid (PB.out.grown g (fun e => by have := Option.some.inj e; omega))
    have WB := hid (WB.out.grown g (fun e => by have := Option.some.inj e; omega))
    have AB := hid (AB.out.grown g (fun e => by have := Option.some.inj e; omega))
    have FB := hid (FB.out.grown g (fun e => by have := Option.some.inj e; omega))
    have HB := hid (HB.out.trans (grown_below g (by omega) (by omega)))
    clear b g z
    refine hK1008.out _ _ (⟨AB.out, FB.out, WB.out⟩) (fun hHeld1008 => ?_)
    clear hK1008 K1008
    try simp only [Act.put]
    refine wpAnyH_take (i := 8) (oi := { dst := some 7, op := Op.assign (Operand.const (Value.int IntKind.i64 0)), type := 3, pos := "ref.go:23", after := _, guard := none }) (v := ?_) rfl (by kernel_rfl) (by kernel_rfl) (by kernel_rfl) (fun _ _ _ h => h) (Or.inl ⟨by rfl, ?_⟩) (by assumption) ?_
    rotate_left
    · (intro w hSw; (try dsimp only at hSw); go_simp; try with_reducible rfl)
    simp only [Act.put, List.setIfInBounds_toArray, List.set_cons_zero, List.set_cons_succ]
    refine wpAnyH_take (i := 9) (oi := { dst := some 8, op := Op.assign (Operand.tmp 40), type := 29, pos := "ref.go:23", after := _, guard := none }) (v := ?_) rfl (by kernel_rfl) (by kernel_rfl) (by kernel_rfl) (fun _ _ _ h => h) (Or.inl ⟨by rfl, ?_⟩) (by assumption) ?_
    rotate_left
    · (intro w hSw; (try dsimp only at hSw); go_simp; try with_reducible rfl)
    simp only [Act.put, List.setIfInBounds_toArray, List.set_cons_zero, List.set_cons_succ]
    refine wpAnyH_done (by kernel_rfl) ?_ _
    clear hHeld hHeld1007 hHeld1008
    have kPB0 : v13.cell? ⟨w.heap.size, 0, none⟩ = some (.int .i64 d) := (BoxAt.cell PB.out 0).trans rfl
    have kPB1 : v13.cell? ⟨w.heap.size, 1, none⟩ = some (.bool k) := (BoxAt.cell PB.out 1).trans rfl
    have kPB2 : v13.cell? ⟨w.heap.size, 2, none⟩ = some (.slice xa N xc) := (BoxAt.cell PB.out 2).trans rfl
    have kPB3 : v13.cell? ⟨w.heap.size, 3, none⟩ = some (.slice sa M sc) := (BoxAt.cell PB.out 3).trans rfl
    have kWB0 : v13.cell? ⟨v1.heap.size, 0, none⟩ = some (.int .i64 p) := (BoxAt.cell WB.out 0).trans rfl
    have kWB1 : v13.cell? ⟨v1.heap.size, 1, none⟩ = some (.int .i64 r) := (BoxAt.cell WB.out 1).trans rfl
    have kWB2 : v13.cell? ⟨v1.heap.size, 2, none⟩ = some (.int .i64 v) := (BoxAt.cell WB.out 2).trans rfl
    have kAB2 : v13.cell? ⟨v4.heap.size, 2, none⟩ = some (.slice x.a x.n x.c) := (BoxAt.cell AB.out 2).trans rfl
    have kAB3 : v13.cell? ⟨v4.heap.size, 3, none⟩ = some (.slice f.a f.n f.c) := (BoxAt.cell AB.out 3).trans rfl
    have kFB0 : v13.cell? ⟨v7.heap.size, 0, none⟩ = some (.int .i64 fp) := (BoxAt.cell FB.out 0).trans rfl
    have kFB2 : v13.cell? ⟨v7.heap.size, 2, none⟩ = some (.int .i64 fv) := (BoxAt.cell FB.out 2).trans rfl
    go_wp2_with fail
    refine bodyPost_ret (results_box_tmp2 rfl _ _ (v2.heap.size) 25 _ (0, 0) _ rfl RB.out Try.underlying25 rfl Try.infoBf) rfl ?_
    exact ⟨x, f, ⟨some ⟨v11.heap.size, 0, none⟩, 1, 1⟩, rfl, by have := HC.out; rwa [HE.out] at this, HF.out, HQ.out.mono (by omega), HB.out⟩
  case' b1007_7 =>
    refine step_store_whole rfl 25 _ _ rfl (v2.heap.size) rfl [.int .i64 d, .bool k, .slice x.a x.n x.c, .slice f.a f.n f.c] rfl _ _ RB.out rfl Try.infoBf (by simp [Value.oneCell']) ?_
    intro v12 b g z
    have hsv12 : v11.heap.size ≤ v12.heap.size := by omega
    have HC := hid (HC.out.put g RB.out (by decide))
    have HF := hid (HF.out.put g RB.out (by decide))
    have RB := hid (show BoxAt v12 (v2.heap.size) 25 #[.int .i64 d, .bool k, .slice x.a x.n x.c, .slice f.a f.n f.c] from b)
    have PB := hid (PB.out.grown g (fun e => by have := Option.some.inj e; omega))
    have WB := hid (WB.out.grown g (fun e => by have := Option.some.inj e; omega))
    have AB := hid (AB.out.grown g (fun e => by have := Option.some.inj e; omega))
    have FB := hid (FB.out.grown g (fun e => by have := Option.some.inj e; omega))
    have HB := hid (HB.out.trans (grown_below g (by omega) (by omega)))
    clear b g z
    refine hK1007.out _ _ (⟨AB.out, FB.out, WB.out⟩) (fun hHeld1007 => ?_)
    clear hK1007 K1007
    try simp only [Act.put]
    refine wpAnyH_take (i := 8) (oi := { dst := some 7, op := Op.assign (Operand.const (Value.int IntKind.i64 0)), type := 3, pos := "ref.go:23", after := _, guard := none }) (v := ?_) rfl (by kernel_rfl) (by kernel_rfl) (by kernel_rfl) (fun _ _ _ h => h) (Or.inl ⟨by rfl, ?_⟩) (by assumption) ?_
    rotate_left
    · (intro w hSw; (try dsimp only at hSw); go_simp; try with_reducible rfl)
    simp only [Act.put, List.setIfInBounds_toArray, List.set_cons_zero, List.set_cons_succ]
    refine wpAnyH_ready (rs := [6]) (by kernel_rfl) (by simp) (AllReadyH.cons (o := { dst := some 40, op := Op.buildSlice 29 1 #[(0, Operand.tmp 39)], type := 29, pos := "ref.go:23", after := _, guard := none }) rfl (fun K1012 hK1012 => ?_) AllReadyH.nil)
    refine step_litk rfl (.tmp 39) rfl ((⟨fp, 0, v⟩ : Wk)) rfl ?_
    intro v13 ho h
    have PB := hid (PB.out.belowAll h)
    have WB := hid (WB.out.belowAll h)
    have RB := hid (RB.out.belowAll h)
    have AB := hid (AB.out.belowAll h)
    have FB := hid (FB.out.belowAll h)
    have HC := hid (HC.out.below h)
    have HF := hid (HF.out.below h)
    have HB := hid (HB.out.trans (h.mono HB.out.size))
    have hsv13 : v12.heap.size ≤ v13.heap.size := by first | exact h.size | omega
    have HQ := hid ho
    clear ho h
    refine hK1012.out _ _ (⟨AB.out, FB.out, WB.out⟩) (fun hHeld1012 => ?_)
    clear hK1012 K1012
    try simp only [Act.put, List.setIfInBounds_toArray, List.set_cons_zero, List.set_cons_succ]
    refine wpAnyH_take (i := 9) (oi := { dst := some 8, op := Op.assign (Operand.tmp 40), type := 29, pos := "ref.go:23", after := _, guard := none }) (v := ?_) rfl (by kernel_rfl) (by kernel_rfl) (by kernel_rfl) (fun _ _ _ h => h) (Or.inl ⟨by rfl, ?_⟩) (by assumption) ?_
    rotate_left
    · (intro w hSw; (try dsimp only at hSw); go_simp; try with_reducible rfl)
    simp only [Act.put, List.setIfInBounds_toArray, List.set_cons_zero, List.set_cons_succ]
    refine wpAnyH_done (by kernel_rfl) ?_ _
    clear hHeld hHeld1007 hHeld1012
    have kPB0 : v13.cell? ⟨w.heap.size, 0, none⟩ = some (.int .i64 d) := (BoxAt.cell PB.out 0).trans rfl
    have kPB1 : v13.cell? ⟨w.heap.size, 1, none⟩ = some (.bool k) := (BoxAt.cell PB.out 1).trans rfl
    have kPB2 : v13.cell? ⟨w.heap.size, 2, none⟩ = some (.slice xa N xc) := (BoxAt.cell PB.out 2).trans rfl
    have kPB3 : v13.cell? ⟨w.heap.size, 3, none⟩ = some (.slice sa M sc) := (BoxAt.cell PB.out 3).trans rfl
    have kWB0 : v13.cell? ⟨v1.heap.size, 0, none⟩ = some (.int .i64 p) := (BoxAt.cell WB.out 0).trans rfl
    have kWB1 : v13.cell? ⟨v1.heap.size, 1, none⟩ = some (.int .i64 r) := (BoxAt.cell WB.out 1).trans rfl
    have kWB2 : v13.cell? ⟨v1.heap.size, 2, none⟩ = some (.int .i64 v) := (BoxAt.cell WB.out 2).trans rfl
    have kAB2 : v13.cell? ⟨v4.heap.size, 2, none⟩ = some (.slice x.a x.n x.c) := (BoxAt.cell AB.out 2).trans rfl
    have kAB3 : v13.cell? ⟨v4.heap.size, 3, none⟩ = some (.slice f.a f.n f.c) := (BoxAt.cell AB.out 3).trans rfl
    have kFB0 : v13.cell? ⟨v7.heap.size, 0, none⟩ = some (.int .i64 fp) := (BoxAt.cell FB.out 0).trans rfl
    have kFB2 : v13.cell? ⟨v7.heap.size, 2, none⟩ = some (.int .i64 fv) := (BoxAt.cell FB.out 2).trans rfl
    go_wp2_with fail
    refine bodyPost_ret (results_box_tmp2 rfl _ _ (v2.heap.size) 25 _ (0, 0) _ rfl RB.out Try.underlying25 rfl Try.infoBf) rfl ?_
    exact ⟨x, f, ⟨some ⟨v12.heap.size, 0, none⟩, 1, 1⟩, rfl, by have := HC.out; rwa [HE.out] at this, HF.out, HQ.out.mono (by omega), HB.out⟩

set_option maxRecDepth 100000 in
set_option maxHeartbeats 1600000 in
theorem rsend_put1 (d : Int) (k : Bool) {vs s : Sl} {xs : List Int} {l : List Wt} (p r v : Int) (may : Bool) {w : World} (hv : Sees w .i64 vs.val xs) (hs : SeesWt w s.val l) (hx : xs.length ≤ 800000) (hl : l.length ≤ 800000) (h0 : 0 < xs.length) (hd : (xs.length : Int) < d) :
    Calls Try.prog 10 #[BfV.val ⟨d, k, vs, s⟩, .agg #[.int .i64 p, .int .i64 r, .int .i64 v], .bool may] w fun e w' => ∃ (x u q : Sl), e = .returned (.tuple #[BfV.val ⟨d, k, x, u⟩, .int .i64 (0), q.val]) ∧ OI w' w.heap.size x.val (xs ++ [v]) ∧ OWt w' w.heap.size u.val (l) ∧ OWk w' w.heap.size q.val ([]) ∧ Below w.heap.size w w' := by
  have HX := hid hv
  have HV := hid hs
  obtain ⟨a1, c1, hv1, hx1, hx2, hxc⟩ := hv.form
  obtain ⟨xa, xn, xc⟩ := vs
  simp only [Sl.val, Value.slice.injEq] at hv1
  obtain ⟨rfl, rfl, rfl⟩ := hv1
  obtain ⟨a2, c2, hs1, hc1, hc2, -⟩ := hs.form
  obtain ⟨sa, sn, sc⟩ := s
  simp only [Sl.val, Value.slice.injEq] at hs1
  obtain ⟨rfl, rfl, rfl⟩ := hs1
  unfold maxLen at hx2 hc2
  simp only [Sl.val] at HX HV
  have HXC := hid hxc
  clear hv hs hxc
  unfold BfV.val
  simp only
  obtain ⟨N, hN⟩ : ∃ N, xs.length = N := ⟨_, rfl⟩
  obtain ⟨M, hM⟩ : ∃ M, l.length = M := ⟨_, rfl⟩
  have HN := hid hN
  have HM := hid hM
  have HXL := hid hx
  have HL := hid hl
  rw [hN] at hx hx1 HX HXC ⊢
  rw [hM] at hl hc1 HV ⊢
  have H0 := hid h0
  have t0 : ((N : Int) == 0) = false := beq_eq_false_iff_ne.2 (by omega)
  have tz : (0 : Int) < (N : Int) := by omega
  rw [hN] at hd
  clear hN hM h0
  have HB := hid (Below.refl w.heap.size w)
  go_enter Try.func10, Try.ntmps10
  have FL1 := hid trivial
  have FL2 := hid trivial
  have FL3 := hid trivial
  go_wp2_with (first
    | (have hfl := FL1.out
       refine wpList_box rfl 25 (.tmp 0) rfl #[.int .i64 d, .bool k, .slice xa N xc, .slice sa M sc] rfl ?_
       intro v1 b h z
       have PB := hid (show BoxAt v1 w.heap.size 25 #[.int .i64 d, .bool k, .slice xa N xc, .slice sa M sc] from b)
       have HB := hid (HB.out.trans (h.mono HB.out.size))
       have hsv1 : w.heap.size + 1 ≤ v1.heap.size := by first | exact h.size | omega
       clear b h z hfl FL1)
    | (have hfl := FL2.out
       refine wpList_box rfl 27 (.tmp 1) rfl #[.int .i64 p, .int .i64 r, .int .i64 v] rfl ?_
       intro v2 b h z
       have WB := hid (show BoxAt v2 v1.heap.size 27 #[.int .i64 p, .int .i64 r, .int .i64 v] from b)
       have PB := hid (PB.out.belowAll h)
       have HB := hid (HB.out.trans (h.mono HB.out.size))
       have hsv2 : v1.heap.size + 1 ≤ v2.heap.size := by first | exact h.size | omega
       have kPB0 : v2.cell? ⟨w.heap.size, 0, none⟩ = some (.int .i64 d) := (BoxAt.cell PB.out 0).trans rfl
       have kPB1 : v2.cell? ⟨w.heap.size, 1, none⟩ = some (.bool k) := (BoxAt.cell PB.out 1).trans rfl
       have kPB2 : v2.cell? ⟨w.heap.size, 2, none⟩ = some (.slice xa N xc) := (BoxAt.cell PB.out 2).trans rfl
       have kPB3 : v2.cell? ⟨w.heap.size, 3, none⟩ = some (.slice sa M sc) := (BoxAt.cell PB.out 3).trans rfl
       clear b h z hfl FL2)
    | (have hfl := FL3.out
       refine wpList_new rfl 25 rfl _ Try.zeroBf ?_
       intro v3 b h z
       have RB := hid (show BoxAt v3 v2.heap.size 25 #[.int .i64 0, .bool false, .slice none 0 0, .slice none 0 0] from b)
       have PB := hid (PB.out.belowAll h)
       have WB := hid (WB.out.belowAll h)
       have HB := hid (HB.out.trans (h.mono HB.out.size))
       have hsv3 : v2.heap.size + 1 ≤ v3.heap.size := by first | exact h.size | omega
       clear kPB0 kPB1 kPB2 kPB3
       have kPB0 : v3.cell? ⟨w.heap.size, 0, none⟩ = some (.int .i64 d) := (BoxAt.cell PB.out 0).trans rfl
       have kPB1 : v3.cell? ⟨w.heap.size, 1, none⟩ = some (.bool k) := (BoxAt.cell PB.out 1).trans rfl
       have kPB2 : v3.cell? ⟨w.heap.size, 2, none⟩ = some (.slice xa N xc) := (BoxAt.cell PB.out 2).trans rfl
       have kPB3 : v3.cell? ⟨w.heap.size, 3, none⟩ = some (.slice sa M sc) := (BoxAt.cell PB.out 3).trans rfl
       have kWB0 : v3.cell? ⟨v1.heap.size, 0, none⟩ = some (.int .i64 p) := (BoxAt.cell WB.out 0).trans rfl
       have kWB1 : v3.cell? ⟨v1.heap.size, 1, none⟩ = some (.int .i64 r) := (BoxAt.cell WB.out 1).trans rfl
       have kWB2 : v3.cell? ⟨v1.heap.size, 2, none⟩ = some (.int .i64 v) := (BoxAt.cell WB.out 2).trans rfl
       clear b h z hfl FL3
       refine Hid.out ?_)
    | fail)
  refine hid ?_
  clear kPB0 kPB1 kPB2 kPB3 kWB0 kWB1 kWB2
  have kPB0 : v3.cell? ⟨w.heap.size, 0, none⟩ = some (.int .i64 d) := (BoxAt.cell PB.out 0).trans rfl
  have kPB1 : v3.cell? ⟨w.heap.size, 1, none⟩ = some (.bool k) := (BoxAt.cell PB.out 1).trans rfl
  have kPB2 : v3.cell? ⟨w.heap.size, 2, none⟩ = some (.slice xa N xc) := (BoxAt.cell PB.out 2).trans rfl
  have kPB3 : v3.cell? ⟨w.heap.size, 3, none⟩ = some (.slice sa M sc) := (BoxAt.cell PB.out 3).trans rfl
  have kWB0 : v3.cell? ⟨v1.heap.size, 0, none⟩ = some (.int .i64 p) := (BoxAt.cell WB.out 0).trans rfl
  have kWB1 : v3.cell? ⟨v1.heap.size, 1, none⟩ = some (.int .i64 r) := (BoxAt.cell WB.out 1).trans rfl
  have kWB2 : v3.cell? ⟨v1.heap.size, 2, none⟩ = some (.int .i64 v) := (BoxAt.cell WB.out 2).trans rfl
  go_wp2_with (first
    | (refine wpList_load_box rfl 25 _ rfl (w.heap.size) rfl _ _ PB.out _ Try.underlying25 Try.infoBf ?_)
    | fail)
  have HBw := HB.out.size
  refine (rbown_any d k (vs := ⟨xa, N, xc⟩) (s := ⟨sa, M, sc⟩) (HX.out.below HB.out) (HV.out.below HB.out) HXL.out HL.out).mono ?_
  rintro e v4 ⟨x, u, rfl, hc, hu, hb⟩
  have PB := hid (PB.out.belowAll hb)
  have WB := hid (WB.out.belowAll hb)
  have RB := hid (RB.out.belowAll hb)
  have HB := hid (HB.out.trans (hb.mono HB.out.size))
  have hsv4 : v3.heap.size ≤ v4.heap.size := by first | exact hb.size | omega
  have HC := hid (hc.mono HBw)
  have HU := hid (hu.mono HBw)
  clear hc hu HBw
  simp only [Sl.val] at HC HU
  clear kPB0 kPB1 kPB2 kPB3 kWB0 kWB1 kWB2
  have kPB0 : v4.cell? ⟨w.heap.size, 0, none⟩ = some (.int .i64 d) := (BoxAt.cell PB.out 0).trans rfl
  have kPB1 : v4.cell? ⟨w.heap.size, 1, none⟩ = some (.bool k) := (BoxAt.cell PB.out 1).trans rfl
  have kPB2 : v4.cell? ⟨w.heap.size, 2, none⟩ = some (.slice xa N xc) := (BoxAt.cell PB.out 2).trans rfl
  have kPB3 : v4.cell? ⟨w.heap.size, 3, none⟩ = some (.slice sa M sc) := (BoxAt.cell PB.out 3).trans rfl
  have kWB0 : v4.cell? ⟨v1.heap.size, 0, none⟩ = some (.int .i64 p) := (BoxAt.cell WB.out 0).trans rfl
  have kWB1 : v4.cell? ⟨v1.heap.size, 1, none⟩ = some (.int .i64 r) := (BoxAt.cell WB.out 1).trans rfl
  have kWB2 : v4.cell? ⟨v1.heap.size, 2, none⟩ = some (.int .i64 v) := (BoxAt.cell WB.out 2).trans rfl
  clear hb
  have FL4 := hid trivial
  have FL5 := hid trivial
  go_wp2_with (first
    | (have hfl := FL4.out
       refine wpList_new rfl 25 rfl _ Try.zeroBf ?_
       intro v5 b h z
       have AB := hid (show BoxAt v5 v4.heap.size 25 #[.int .i64 0, .bool false, .slice none 0 0, .slice none 0 0] from b)
       have PB := hid (PB.out.belowAll h)
       have WB := hid (WB.out.belowAll h)
       have RB := hid (RB.out.belowAll h)
       have HC := hid (HC.out.below h)
       have HU := hid (HU.out.below h)
       have HB := hid (HB.out.trans (h.mono HB.out.size))
       have hsv5 : v4.heap.size + 1 ≤ v5.heap.size := by first | exact h.size | omega
       clear kPB0 kPB1 kPB2 kPB3 kWB0 kWB1 kWB2
       have kPB0 : v5.cell? ⟨w.heap.size, 0, none⟩ = some (.int .i64 d) := (BoxAt.cell PB.out 0).trans rfl
       have kPB1 : v5.cell? ⟨w.heap.size, 1, none⟩ = some (.bool k) := (BoxAt.cell PB.out 1).trans rfl
       have kPB2 : v5.cell? ⟨w.heap.size, 2, none⟩ = some (.slice xa N xc) := (BoxAt.cell PB.out 2).trans rfl
       have kPB3 : v5.cell? ⟨w.heap.size, 3, none⟩ = some (.slice sa M sc) := (BoxAt.cell PB.out 3).trans rfl
       have kWB0 : v5.cell? ⟨v1.heap.size, 0, none⟩ = some (.int .i64 p) := (BoxAt.cell WB.out 0).trans rfl
       have kWB1 : v5.cell? ⟨v1.heap.size, 1, none⟩ = some (.int .i64 r) := (BoxAt.cell WB.out 1).trans rfl
       have kWB2 : v5.cell? ⟨v1.heap.size, 2, none⟩ = some (.int .i64 v) := (BoxAt.cell WB.out 2).trans rfl
       clear b h z hfl FL4)
    | (have hfl := FL5.out
       refine wpList_store_whole rfl 25 _ _ rfl rfl (v4.heap.size) rfl [.int .i64 d, .bool k, .slice x.a x.n x.c, .slice u.a u.n u.c] rfl _ _ AB.out rfl Try.infoBf (by simp [Value.oneCell']) ?_
       intro v6 b g z
       have hsv6 : v5.heap.size ≤ v6.heap.size := by omega
       have HC := hid (HC.out.put g AB.out (by decide))
       have HU := hid (HU.out.put g AB.out (by decide))
       have AB := hid (show BoxAt v6 (v4.heap.size) 25 #[.int .i64 d, .bool k, .slice x.a x.n x.c, .slice u.a u.n u.c] from b)
       have PB := hid (PB.out.grown g (fun e => by have := Option.some.inj e; omega))
       have WB := hid (WB.out.grown g (fun e => by have := Option.some.inj e; omega))
       have RB := hid (RB.out.grown g (fun e => by have := Option.some.inj e; omega))
       have HB := hid (HB.out.trans (grown_below g (by omega) (by omega)))
       clear kPB0 kPB1 kPB2 kPB3 kWB0 kWB1 kWB2
       have kPB0 : v6.cell? ⟨w.heap.size, 0, none⟩ = some (.int .i64 d) := (BoxAt.cell PB.out 0).trans rfl
       have kPB1 : v6.cell? ⟨w.heap.size, 1, none⟩ = some (.bool k) := (BoxAt.cell PB.out 1).trans rfl
       have kPB2 : v6.cell? ⟨w.heap.size, 2, none⟩ = some (.slice xa N xc) := (BoxAt.cell PB.out 2).trans rfl
       have kPB3 : v6.cell? ⟨w.heap.size, 3, none⟩ = some (.slice sa M sc) := (BoxAt.cell PB.out 3).trans rfl
       have kWB0 : v6.cell? ⟨v1.heap.size, 0, none⟩ = some (.int .i64 p) := (BoxAt.cell WB.out 0).trans rfl
       have kWB1 : v6.cell? ⟨v1.heap.size, 1, none⟩ = some (.int .i64 r) := (BoxAt.cell WB.out 1).trans rfl
       have kWB2 : v6.cell? ⟨v1.heap.size, 2, none⟩ = some (.int .i64 v) := (BoxAt.cell WB.out 2).trans rfl
       have kAB2 : v6.cell? ⟨v4.heap.size, 2, none⟩ = some (.slice x.a x.n x.c) := (BoxAt.cell AB.out 2).trans rfl
       have kAB3 : v6.cell? ⟨v4.heap.size, 3, none⟩ = some (.slice u.a u.n u.c) := (BoxAt.cell AB.out 3).trans rfl
       clear b g z hfl FL5
       refine Hid.out ?_)
    | fail)
  refine hid ?_
  clear kPB0 kPB1 kPB2 kPB3 kWB0 kWB1 kWB2 kAB2 kAB3
  have kPB0 : v6.cell? ⟨w.heap.size, 0, none⟩ = some (.int .i64 d) := (BoxAt.cell PB.out 0).trans rfl
  have kPB1 : v6.cell? ⟨w.heap.size, 1, none⟩ = some (.bool k) := (BoxAt.cell PB.out 1).trans rfl
  have kPB2 : v6.cell? ⟨w.heap.size, 2, none⟩ = some (.slice xa N xc) := (BoxAt.cell PB.out 2).trans rfl
  have kPB3 : v6.cell? ⟨w.heap.size, 3, none⟩ = some (.slice sa M sc) := (BoxAt.cell PB.out 3).trans rfl
  have kWB0 : v6.cell? ⟨v1.heap.size, 0, none⟩ = some (.int .i64 p) := (BoxAt.cell WB.out 0).trans rfl
  have kWB1 : v6.cell? ⟨v1.heap.size, 1, none⟩ = some (.int .i64 r) := (BoxAt.cell WB.out 1).trans rfl
  have kWB2 : v6.cell? ⟨v1.heap.size, 2, none⟩ = some (.int .i64 v) := (BoxAt.cell WB.out 2).trans rfl
  have kAB2 : v6.cell? ⟨v4.heap.size, 2, none⟩ = some (.slice x.a x.n x.c) := (BoxAt.cell AB.out 2).trans rfl
  have kAB3 : v6.cell? ⟨v4.heap.size, 3, none⟩ = some (.slice u.a u.n u.c) := (BoxAt.cell AB.out 3).trans rfl
  have FL6 := hid trivial
  have FL7 := hid trivial
  have FL8 := hid trivial
  have FL9 := hid trivial
  go_wp2_with (first
    | (have hfl := FL6.out
       refine wpList_litI rfl (.tmp 50) rfl (v) rfl ?_
       intro v7 b h
       have LB := hid (show BoxAt v7 v6.heap.size 3 #[.int .i64 (v)] from b)
       have PB := hid (PB.out.belowAll h)
       have WB := hid (WB.out.belowAll h)
       have RB := hid (RB.out.belowAll h)
       have AB := hid (AB.out.belowAll h)
       have HC := hid (HC.out.below h)
       have HU := hid (HU.out.below h)
       have HB := hid (HB.out.trans (h.mono HB.out.size))
       have hsv7 : v6.heap.size ≤ v7.heap.size := by first | exact h.size | omega
       clear kPB0 kPB1 kPB2 kPB3 kWB0 kWB1 kWB2 kAB2 kAB3
       have kPB0 : v7.cell? ⟨w.heap.size, 0, none⟩ = some (.int .i64 d) := (BoxAt.cell PB.out 0).trans rfl
       have kPB1 : v7.cell? ⟨w.heap.size, 1, none⟩ = some (.bool k) := (BoxAt.cell PB.out 1).trans rfl
       have kPB2 : v7.cell? ⟨w.heap.size, 2, none⟩ = some (.slice xa N xc) := (BoxAt.cell PB.out 2).trans rfl
       have kPB3 : v7.cell? ⟨w.heap.size, 3, none⟩ = some (.slice sa M sc) := (BoxAt.cell PB.out 3).trans rfl
       have kWB0 : v7.cell? ⟨v1.heap.size, 0, none⟩ = some (.int .i64 p) := (BoxAt.cell WB.out 0).trans rfl
       have kWB1 : v7.cell? ⟨v1.heap.size, 1, none⟩ = some (.int .i64 r) := (BoxAt.cell WB.out 1).trans rfl
       have kWB2 : v7.cell? ⟨v1.heap.size, 2, none⟩ = some (.int .i64 v) := (BoxAt.cell WB.out 2).trans rfl
       have kAB2 : v7.cell? ⟨v4.heap.size, 2, none⟩ = some (.slice x.a x.n x.c) := (BoxAt.cell AB.out 2).trans rfl
       have kAB3 : v7.cell? ⟨v4.heap.size, 3, none⟩ = some (.slice u.a u.n u.c) := (BoxAt.cell AB.out 3).trans rfl
       clear b h hfl FL6)
    | (have hfl := FL7.out
       at_builtin
       refine app_ints rfl (.tmp 48) (.tmp 51) rfl (w.heap.size) _ (xs) rfl HC.out _ [v] rfl (Sees.box (ys := [v]) LB.out (by simp)) (by have := HXL.out; simp; omega) (by omega) ?_
       intro uv8 v8 ho g h
       obtain ⟨qv8, rfl, -⟩ := ho.sl
       have hsv8 : v7.heap.size ≤ v8.heap.size := g.size
       have PB := hid (PB.out.grown g (OI.apart HC.out PB.out (by decide)))
       have WB := hid (WB.out.grown g (OI.apart HC.out WB.out (by decide)))
       have RB := hid (RB.out.grown g (OI.apart HC.out RB.out (by decide)))
       have AB := hid (AB.out.grown g (OI.apart HC.out AB.out (by decide)))
       have HU := hid (HU.out.over HC.out g)
       have HB := hid (HB.out.trans h)
       have HC := hid ho
       clear ho g h
       clear LB
       clear kPB0 kPB1 kPB2 kPB3 kWB0 kWB1 kWB2 kAB2 kAB3
       have kPB0 : v8.cell? ⟨w.heap.size, 0, none⟩ = some (.int .i64 d) := (BoxAt.cell PB.out 0).trans rfl
       have kPB1 : v8.cell? ⟨w.heap.size, 1, none⟩ = some (.bool k) := (BoxAt.cell PB.out 1).trans rfl
       have kPB2 : v8.cell? ⟨w.heap.size, 2, none⟩ = some (.slice xa N xc) := (BoxAt.cell PB.out 2).trans rfl
       have kPB3 : v8.cell? ⟨w.heap.size, 3, none⟩ = some (.slice sa M sc) := (BoxAt.cell PB.out 3).trans rfl
       have kWB0 : v8.cell? ⟨v1.heap.size, 0, none⟩ = some (.int .i64 p) := (BoxAt.cell WB.out 0).trans rfl
       have kWB1 : v8.cell? ⟨v1.heap.size, 1, none⟩ = some (.int .i64 r) := (BoxAt.cell WB.out 1).trans rfl
       have kWB2 : v8.cell? ⟨v1.heap.size, 2, none⟩ = some (.int .i64 v) := (BoxAt.cell WB.out 2).trans rfl
       have kAB2 : v8.cell? ⟨v4.heap.size, 2, none⟩ = some (.slice x.a x.n x.c) := (BoxAt.cell AB.out 2).trans rfl
       have kAB3 : v8.cell? ⟨v4.heap.size, 3, none⟩ = some (.slice u.a u.n u.c) := (BoxAt.cell AB.out 3).trans rfl
       clear hfl FL7)
    | (have hfl := FL8.out
       refine wpList_store_box rfl 22 _ _ rfl rfl (v4.heap.size) 2 (.slice qv8.a qv8.n qv8.c) rfl rfl rfl rfl (by kernel_rfl) _ _ AB.out (by simp) ?_
       intro v9 b g z
       have hsv9 : v8.heap.size ≤ v9.heap.size := by omega
       have HC := hid (HC.out.put g AB.out (by decide))
       have HU := hid (HU.out.put g AB.out (by decide))
       have AB := hid (show BoxAt v9 (v4.heap.size) 25 #[.int .i64 d, .bool k, .slice qv8.a qv8.n qv8.c, .slice u.a u.n u.c] from by simpa using b)
       have PB := hid (PB.out.grown g (fun e => by have := Option.some.inj e; omega))
       have WB := hid (WB.out.grown g (fun e => by have := Option.some.inj e; omega))
       have RB := hid (RB.out.grown g (fun e => by have := Option.some.inj e; omega))
       have HB := hid (HB.out.trans (grown_below g (by omega) (by omega)))
       clear kPB0 kPB1 kPB2 kPB3 kWB0 kWB1 kWB2 kAB2 kAB3
       have kPB0 : v9.cell? ⟨w.heap.size, 0, none⟩ = some (.int .i64 d) := (BoxAt.cell PB.out 0).trans rfl
       have kPB1 : v9.cell? ⟨w.heap.size, 1, none⟩ = some (.bool k) := (BoxAt.cell PB.out 1).trans rfl
       have kPB2 : v9.cell? ⟨w.heap.size, 2, none⟩ = some (.slice xa N xc) := (BoxAt.cell PB.out 2).trans rfl
       have kPB3 : v9.cell? ⟨w.heap.size, 3, none⟩ = some (.slice sa M sc) := (BoxAt.cell PB.out 3).trans rfl
       have kWB0 : v9.cell? ⟨v1.heap.size, 0, none⟩ = some (.int .i64 p) := (BoxAt.cell WB.out 0).trans rfl
       have kWB1 : v9.cell? ⟨v1.heap.size, 1, none⟩ = some (.int .i64 r) := (BoxAt.cell WB.out 1).trans rfl
       have kWB2 : v9.cell? ⟨v1.heap.size, 2, none⟩ = some (.int .i64 v) := (BoxAt.cell WB.out 2).trans rfl
       have kAB2 : v9.cell? ⟨v4.heap.size, 2, none⟩ = some (.slice qv8.a qv8.n qv8.c) := (BoxAt.cell AB.out 2).trans rfl
       have kAB3 : v9.cell? ⟨v4.heap.size, 3, none⟩ = some (.slice u.a u.n u.c) := (BoxAt.cell AB.out 3).trans rfl
       clear b g z hfl FL8)
    | (refine wpList_load_box rfl 25 _ rfl (v4.heap.size) rfl _ _ AB.out _ Try.underlying25 Try.infoBf ?_)
    | (have hfl := FL9.out
       refine wpList_store_whole rfl 25 _ _ rfl rfl (v2.heap.size) rfl [.int .i64 d, .bool k, .slice qv8.a qv8.n qv8.c, .slice u.a u.n u.c] rfl _ _ RB.out rfl Try.infoBf (by simp [Value.oneCell']) ?_
       intro v10 b g z
       have hsv10 : v9.heap.size ≤ v10.heap.size := by omega
       have HC := hid (HC.out.put g RB.out (by decide))
       have HU := hid (HU.out.put g RB.out (by decide))
       have RB := hid (show BoxAt v10 (v2.heap.size) 25 #[.int .i64 d, .bool k, .slice qv8.a qv8.n qv8.c, .slice u.a u.n u.c] from b)
       have PB := hid (PB.out.grown g (fun e => by have := Option.some.inj e; omega))
       have WB := hid (WB.out.grown g (fun e => by have := Option.some.inj e; omega))
       have AB := hid (AB.out.grown g (fun e => by have := Option.some.inj e; omega))
       have HB := hid (HB.out.trans (grown_below g (by omega) (by omega)))
       clear kPB0 kPB1 kPB2 kPB3 kWB0 kWB1 kWB2 kAB2 kAB3
       have kPB0 : v10.cell? ⟨w.heap.size, 0, none⟩ = some (.int .i64 d) := (BoxAt.cell PB.out 0).trans rfl
       have kPB1 : v10.cell? ⟨w.heap.size, 1, none⟩ = some (.bool k) := (BoxAt.cell PB.out 1).trans rfl
       have kPB2 : v10.cell? ⟨w.heap.size, 2, none⟩ = some (.slice xa N xc) := (BoxAt.cell PB.out 2).trans rfl
       have kPB3 : v10.cell? ⟨w.heap.size, 3, none⟩ = some (.slice sa M sc) := (BoxAt.cell PB.out 3).trans rfl
       have kWB0 : v10.cell? ⟨v1.heap.size, 0, none⟩ = some (.int .i64 p) := (BoxAt.cell WB.out 0).trans rfl
       have kWB1 : v10.cell? ⟨v1.heap.size, 1, none⟩ = some (.int .i64 r) := (BoxAt.cell WB.out 1).trans rfl
       have kWB2 : v10.cell? ⟨v1.heap.size, 2, none⟩ = some (.int .i64 v) := (BoxAt.cell WB.out 2).trans rfl
       have kAB2 : v10.cell? ⟨v4.heap.size, 2, none⟩ = some (.slice qv8.a qv8.n qv8.c) := (BoxAt.cell AB.out 2).trans rfl
       have kAB3 : v10.cell? ⟨v4.heap.size, 3, none⟩ = some (.slice u.a u.n u.c) := (BoxAt.cell AB.out 3).trans rfl
       clear b g z hfl FL9)
    | fail)
  refine bodyPost_ret (results_box_tmp2 rfl _ _ (v2.heap.size) 25 _ (0, 0) _ rfl RB.out Try.underlying25 rfl Try.infoBf) rfl ?_
  exact ⟨qv8, u, ⟨none, 0, 0⟩, rfl, HC.out, HU.out, OWk.nil _ _, HB.out⟩

set_option maxRecDepth 100000 in
set_option maxHeartbeats 1600000 in
theorem rsend_no1 (d : Int) (k : Bool) {vs s : Sl} {xs : List Int} {l : List Wt} (p r v : Int) {w : World} (hv : Sees w .i64 vs.val xs) (hs : SeesWt w s.val l) (hx : xs.length ≤ 800000) (hl : l.length ≤ 800000) (h0 : 0 < xs.length) (hd : ¬ (xs.length : Int) < d) :
    Calls Try.prog 10 #[BfV.val ⟨d, k, vs, s⟩, .agg #[.int .i64 p, .int .i64 r, .int .i64 v], .bool false] w fun e w' => ∃ (x u q : Sl), e = .returned (.tuple #[BfV.val ⟨d, k, x, u⟩, .int .i64 (2), q.val]) ∧ OI w' w.heap.size x.val (xs) ∧ OWt w' w.heap.size u.val (l) ∧ OWk w' w.heap.size q.val ([]) ∧ Below w.heap.size w w' := by
  have HX := hid hv
  have HV := hid hs
  obtain ⟨a1, c1, hv1, hx1, hx2, hxc⟩ := hv.form
  obtain ⟨xa, xn, xc⟩ := vs
  simp only [Sl.val, Value.slice.injEq] at hv1
  obtain ⟨rfl, rfl, rfl⟩ := hv1
  obtain ⟨a2, c2, hs1, hc1, hc2, -⟩ := hs.form
  obtain ⟨sa, sn, sc⟩ := s
  simp only [Sl.val, Value.slice.injEq] at hs1
  obtain ⟨rfl, rfl, rfl⟩ := hs1
  unfold maxLen at hx2 hc2
  simp only [Sl.val] at HX HV
  have HXC := hid hxc
  clear hv hs hxc
  unfold BfV.val
  simp only
  obtain ⟨N, hN⟩ : ∃ N, xs.length = N := ⟨_, rfl⟩
  obtain ⟨M, hM⟩ : ∃ M, l.length = M := ⟨_, rfl⟩
  have HN := hid hN
  have HM := hid hM
  have HXL := hid hx
  have HL := hid hl
  rw [hN] at hx hx1 HX HXC ⊢
  rw [hM] at hl hc1 HV ⊢
  have H0 := hid h0
  have t0 : ((N : Int) == 0) = false := beq_eq_false_iff_ne.2 (by omega)
  have tz : (0 : Int) < (N : Int) := by omega
  rw [hN] at hd
  clear hN hM h0
  have HB := hid (Below.refl w.heap.size w)
  go_enter Try.func10, Try.ntmps10
  have FL1 := hid trivial
  have FL2 := hid trivial
  have FL3 := hid trivial
  go_wp2_with (first
    | (have hfl := FL1.out
       refine wpList_box rfl 25 (.tmp 0) rfl #[.int .i64 d, .bool k, .slice xa N xc, .slice sa M sc] rfl ?_
       intro v1 b h z
       have PB := hid (show BoxAt v1 w.heap.size 25 #[.int .i64 d, .bool k, .slice xa N xc, .slice sa M sc] from b)
       have HB := hid (HB.out.trans (h.mono HB.out.size))
       have hsv1 : w.heap.size + 1 ≤ v1.heap.size := by first | exact h.size | omega
       clear b h z hfl FL1)
    | (have hfl := FL2.out
       refine wpList_box rfl 27 (.tmp 1) rfl #[.int .i64 p, .int .i64 r, .int .i64 v] rfl ?_
       intro v2 b h z
       have WB := hid (show BoxAt v2 v1.heap.size 27 #[.int .i64 p, .int .i64 r, .int .i64 v] from b)
       have PB := hid (PB.out.belowAll h)
       have HB := hid (HB.out.trans (h.mono HB.out.size))
       have hsv2 : v1.heap.size + 1 ≤ v2.heap.size := by first | exact h.size | omega
       have kPB0 : v2.cell? ⟨w.heap.size, 0, none⟩ = some (.int .i64 d) := (BoxAt.cell PB.out 0).trans rfl
       have kPB1 : v2.cell? ⟨w.heap.size, 1, none⟩ = some (.bool k) := (BoxAt.cell PB.out 1).trans rfl
       have kPB2 : v2.cell? ⟨w.heap.size, 2, none⟩ = some (.slice xa N xc) := (BoxAt.cell PB.out 2).trans rfl
       have kPB3 : v2.cell? ⟨w.heap.size, 3, none⟩ = some (.slice sa M sc) := (BoxAt.cell PB.out 3).trans rfl
       clear b h z hfl FL2)
    | (have hfl := FL3.out
       refine wpList_new rfl 25 rfl _ Try.zeroBf ?_
       intro v3 b h z
       have RB := hid (show BoxAt v3 v2.heap.size 25 #[.int .i64 0, .bool false, .slice none 0 0, .slice none 0 0] from b)
       have PB := hid (PB.out.belowAll h)
       have WB := hid (WB.out.belowAll h)
       have HB := hid (HB.out.trans (h.mono HB.out.size))
       have hsv3 : v2.heap.size + 1 ≤ v3.heap.size := by first | exact h.size | omega
       clear kPB0 kPB1 kPB2 kPB3
       have kPB0 : v3.cell? ⟨w.heap.size, 0, none⟩ = some (.int .i64 d) := (BoxAt.cell PB.out 0).trans rfl
       have kPB1 : v3.cell? ⟨w.heap.size, 1, none⟩ = some (.bool k) := (BoxAt.cell PB.out 1).trans rfl
       have kPB2 : v3.cell? ⟨w.heap.size, 2, none⟩ = some (.slice xa N xc) := (BoxAt.cell PB.out 2).trans rfl
       have kPB3 : v3.cell? ⟨w.heap.size, 3, none⟩ = some (.slice sa M sc) := (BoxAt.cell PB.out 3).trans rfl
       have kWB0 : v3.cell? ⟨v1.heap.size, 0, none⟩ = some (.int .i64 p) := (BoxAt.cell WB.out 0).trans rfl
       have kWB1 : v3.cell? ⟨v1.heap.size, 1, none⟩ = some (.int .i64 r) := (BoxAt.cell WB.out 1).trans rfl
       have kWB2 : v3.cell? ⟨v1.heap.size, 2, none⟩ = some (.int .i64 v) := (BoxAt.cell WB.out 2).trans rfl
       clear b h z hfl FL3
       refine Hid.out ?_)
    | fail)
  refine hid ?_
  clear kPB0 kPB1 kPB2 kPB3 kWB0 kWB1 kWB2
  have kPB0 : v3.cell? ⟨w.heap.size, 0, none⟩ = some (.int .i64 d) := (BoxAt.cell PB.out 0).trans rfl
  have kPB1 : v3.cell? ⟨w.heap.size, 1, none⟩ = some (.bool k) := (BoxAt.cell PB.out 1).trans rfl
  have kPB2 : v3.cell? ⟨w.heap.size, 2, none⟩ = some (.slice xa N xc) := (BoxAt.cell PB.out 2).trans rfl
  have kPB3 : v3.cell? ⟨w.heap.size, 3, none⟩ = some (.slice sa M sc) := (BoxAt.cell PB.out 3).trans rfl
  have kWB0 : v3.cell? ⟨v1.heap.size, 0, none⟩ = some (.int .i64 p) := (BoxAt.cell WB.out 0).trans rfl
  have kWB1 : v3.cell? ⟨v1.heap.size, 1, none⟩ = some (.int .i64 r) := (BoxAt.cell WB.out 1).trans rfl
  have kWB2 : v3.cell? ⟨v1.heap.size, 2, none⟩ = some (.int .i64 v) := (BoxAt.cell WB.out 2).trans rfl
  go_wp2_with (first
    | (refine wpList_load_box rfl 25 _ rfl (w.heap.size) rfl _ _ PB.out _ Try.underlying25 Try.infoBf ?_)
    | fail)
  have HBw := HB.out.size
  refine (rbown_any d k (vs := ⟨xa, N, xc⟩) (s := ⟨sa, M, sc⟩) (HX.out.below HB.out) (HV.out.below HB.out) HXL.out HL.out).mono ?_
  rintro e v4 ⟨x, u, rfl, hc, hu, hb⟩
  have PB := hid (PB.out.belowAll hb)
  have WB := hid (WB.out.belowAll hb)
  have RB := hid (RB.out.belowAll hb)
  have HB := hid (HB.out.trans (hb.mono HB.out.size))
  have hsv4 : v3.heap.size ≤ v4.heap.size := by first | exact hb.size | omega
  have HC := hid (hc.mono HBw)
  have HU := hid (hu.mono HBw)
  clear hc hu HBw
  simp only [Sl.val] at HC HU
  clear kPB0 kPB1 kPB2 kPB3 kWB0 kWB1 kWB2
  have kPB0 : v4.cell? ⟨w.heap.size, 0, none⟩ = some (.int .i64 d) := (BoxAt.cell PB.out 0).trans rfl
  have kPB1 : v4.cell? ⟨w.heap.size, 1, none⟩ = some (.bool k) := (BoxAt.cell PB.out 1).trans rfl
  have kPB2 : v4.cell? ⟨w.heap.size, 2, none⟩ = some (.slice xa N xc) := (BoxAt.cell PB.out 2).trans rfl
  have kPB3 : v4.cell? ⟨w.heap.size, 3, none⟩ = some (.slice sa M sc) := (BoxAt.cell PB.out 3).trans rfl
  have kWB0 : v4.cell? ⟨v1.heap.size, 0, none⟩ = some (.int .i64 p) := (BoxAt.cell WB.out 0).trans rfl
  have kWB1 : v4.cell? ⟨v1.heap.size, 1, none⟩ = some (.int .i64 r) := (BoxAt.cell WB.out 1).trans rfl
  have kWB2 : v4.cell? ⟨v1.heap.size, 2, none⟩ = some (.int .i64 v) := (BoxAt.cell WB.out 2).trans rfl
  clear hb
  have FL4 := hid trivial
  have FL5 := hid trivial
  go_wp2_with (first
    | (have hfl := FL4.out
       refine wpList_new rfl 25 rfl _ Try.zeroBf ?_
       intro v5 b h z
       have AB := hid (show BoxAt v5 v4.heap.size 25 #[.int .i64 0, .bool false, .slice none 0 0, .slice none 0 0] from b)
       have PB := hid (PB.out.belowAll h)
       have WB := hid (WB.out.belowAll h)
       have RB := hid (RB.out.belowAll h)
       have HC := hid (HC.out.below h)
       have HU := hid (HU.out.below h)
       have HB := hid (HB.out.trans (h.mono HB.out.size))
       have hsv5 : v4.heap.size + 1 ≤ v5.heap.size := by first | exact h.size | omega
       clear kPB0 kPB1 kPB2 kPB3 kWB0 kWB1 kWB2
       have kPB0 : v5.cell? ⟨w.heap.size, 0, none⟩ = some (.int .i64 d) := (BoxAt.cell PB.out 0).trans rfl
       have kPB1 : v5.cell? ⟨w.heap.size, 1, none⟩ = some (.bool k) := (BoxAt.cell PB.out 1).trans rfl
       have kPB2 : v5.cell? ⟨w.heap.size, 2, none⟩ = some (.slice xa N xc) := (BoxAt.cell PB.out 2).trans rfl
       have kPB3 : v5.cell? ⟨w.heap.size, 3, none⟩ = some (.slice sa M sc) := (BoxAt.cell PB.out 3).trans rfl
       have kWB0 : v5.cell? ⟨v1.heap.size, 0, none⟩ = some (.int .i64 p) := (BoxAt.cell WB.out 0).trans rfl
       have kWB1 : v5.cell? ⟨v1.heap.size, 1, none⟩ = some (.int .i64 r) := (BoxAt.cell WB.out 1).trans rfl
       have kWB2 : v5.cell? ⟨v1.heap.size, 2, none⟩ = some (.int .i64 v) := (BoxAt.cell WB.out 2).trans rfl
       clear b h z hfl FL4)
    | (have hfl := FL5.out
       refine wpList_store_whole rfl 25 _ _ rfl rfl (v4.heap.size) rfl [.int .i64 d, .bool k, .slice x.a x.n x.c, .slice u.a u.n u.c] rfl _ _ AB.out rfl Try.infoBf (by simp [Value.oneCell']) ?_
       intro v6 b g z
       have hsv6 : v5.heap.size ≤ v6.heap.size := by omega
       have HC := hid (HC.out.put g AB.out (by decide))
       have HU := hid (HU.out.put g AB.out (by decide))
       have AB := hid (show BoxAt v6 (v4.heap.size) 25 #[.int .i64 d, .bool k, .slice x.a x.n x.c, .slice u.a u.n u.c] from b)
       have PB := hid (PB.out.grown g (fun e => by have := Option.some.inj e; omega))
       have WB := hid (WB.out.grown g (fun e => by have := Option.some.inj e; omega))
       have RB := hid (RB.out.grown g (fun e => by have := Option.some.inj e; omega))
       have HB := hid (HB.out.trans (grown_below g (by omega) (by omega)))
       clear kPB0 kPB1 kPB2 kPB3 kWB0 kWB1 kWB2
       have kPB0 : v6.cell? ⟨w.heap.size, 0, none⟩ = some (.int .i64 d) := (BoxAt.cell PB.out 0).trans rfl
       have kPB1 : v6.cell? ⟨w.heap.size, 1, none⟩ = some (.bool k) := (BoxAt.cell PB.out 1).trans rfl
       have kPB2 : v6.cell? ⟨w.heap.size, 2, none⟩ = some (.slice xa N xc) := (BoxAt.cell PB.out 2).trans rfl
       have kPB3 : v6.cell? ⟨w.heap.size, 3, none⟩ = some (.slice sa M sc) := (BoxAt.cell PB.out 3).trans rfl
       have kWB0 : v6.cell? ⟨v1.heap.size, 0, none⟩ = some (.int .i64 p) := (BoxAt.cell WB.out 0).trans rfl
       have kWB1 : v6.cell? ⟨v1.heap.size, 1, none⟩ = some (.int .i64 r) := (BoxAt.cell WB.out 1).trans rfl
       have kWB2 : v6.cell? ⟨v1.heap.size, 2, none⟩ = some (.int .i64 v) := (BoxAt.cell WB.out 2).trans rfl
       have kAB2 : v6.cell? ⟨v4.heap.size, 2, none⟩ = some (.slice x.a x.n x.c) := (BoxAt.cell AB.out 2).trans rfl
       have kAB3 : v6.cell? ⟨v4.heap.size, 3, none⟩ = some (.slice u.a u.n u.c) := (BoxAt.cell AB.out 3).trans rfl
       clear b g z hfl FL5
       refine Hid.out ?_)
    | fail)
  refine hid ?_
  clear kPB0 kPB1 kPB2 kPB3 kWB0 kWB1 kWB2 kAB2 kAB3
  have kPB0 : v6.cell? ⟨w.heap.size, 0, none⟩ = some (.int .i64 d) := (BoxAt.cell PB.out 0).trans rfl
  have kPB1 : v6.cell? ⟨w.heap.size, 1, none⟩ = some (.bool k) := (BoxAt.cell PB.out 1).trans rfl
  have kPB2 : v6.cell? ⟨w.heap.size, 2, none⟩ = some (.slice xa N xc) := (BoxAt.cell PB.out 2).trans rfl
  have kPB3 : v6.cell? ⟨w.heap.size, 3, none⟩ = some (.slice sa M sc) := (BoxAt.cell PB.out 3).trans rfl
  have kWB0 : v6.cell? ⟨v1.heap.size, 0, none⟩ = some (.int .i64 p) := (BoxAt.cell WB.out 0).trans rfl
  have kWB1 : v6.cell? ⟨v1.heap.size, 1, none⟩ = some (.int .i64 r) := (BoxAt.cell WB.out 1).trans rfl
  have kWB2 : v6.cell? ⟨v1.heap.size, 2, none⟩ = some (.int .i64 v) := (BoxAt.cell WB.out 2).trans rfl
  have kAB2 : v6.cell? ⟨v4.heap.size, 2, none⟩ = some (.slice x.a x.n x.c) := (BoxAt.cell AB.out 2).trans rfl
  have kAB3 : v6.cell? ⟨v4.heap.size, 3, none⟩ = some (.slice u.a u.n u.c) := (BoxAt.cell AB.out 3).trans rfl
  have FL6 := hid trivial
  go_wp2_with (first
    | (refine wpList_load_box rfl 25 _ rfl (v4.heap.size) rfl _ _ AB.out _ Try.underlying25 Try.infoBf ?_)
    | (have hfl := FL6.out
       refine wpList_store_whole rfl 25 _ _ rfl rfl (v2.heap.size) rfl [.int .i64 d, .bool k, .slice x.a x.n x.c, .slice u.a u.n u.c] rfl _ _ RB.out rfl Try.infoBf (by simp [Value.oneCell']) ?_
       intro v7 b g z
       have hsv7 : v6.heap.size ≤ v7.heap.size := by omega
       have HC := hid (HC.out.put g RB.out (by decide))
       have HU := hid (HU.out.put g RB.out (by decide))
       have RB := hid (show BoxAt v7 (v2.heap.size) 25 #[.int .i64 d, .bool k, .slice x.a x.n x.c, .slice u.a u.n u.c] from b)
       have PB := hid (PB.out.grown g (fun e => by have := Option.some.inj e; omega))
       have WB := hid (WB.out.grown g (fun e => by have := Option.some.inj e; omega))
       have AB := hid (AB.out.grown g (fun e => by have := Option.some.inj e; omega))
       have HB := hid (HB.out.trans (grown_below g (by omega) (by omega)))
       clear kPB0 kPB1 kPB2 kPB3 kWB0 kWB1 kWB2 kAB2 kAB3
       have kPB0 : v7.cell? ⟨w.heap.size, 0, none⟩ = some (.int .i64 d) := (BoxAt.cell PB.out 0).trans rfl
       have kPB1 : v7.cell? ⟨w.heap.size, 1, none⟩ = some (.bool k) := (BoxAt.cell PB.out 1).trans rfl
       have kPB2 : v7.cell? ⟨w.heap.size, 2, none⟩ = some (.slice xa N xc) := (BoxAt.cell PB.out 2).trans rfl
       have kPB3 : v7.cell? ⟨w.heap.size, 3, none⟩ = some (.slice sa M sc) := (BoxAt.cell PB.out 3).trans rfl
       have kWB0 : v7.cell? ⟨v1.heap.size, 0, none⟩ = some (.int .i64 p) := (BoxAt.cell WB.out 0).trans rfl
       have kWB1 : v7.cell? ⟨v1.heap.size, 1, none⟩ = some (.int .i64 r) := (BoxAt.cell WB.out 1).trans rfl
       have kWB2 : v7.cell? ⟨v1.heap.size, 2, none⟩ = some (.int .i64 v) := (BoxAt.cell WB.out 2).trans rfl
       have kAB2 : v7.cell? ⟨v4.heap.size, 2, none⟩ = some (.slice x.a x.n x.c) := (BoxAt.cell AB.out 2).trans rfl
       have kAB3 : v7.cell? ⟨v4.heap.size, 3, none⟩ = some (.slice u.a u.n u.c) := (BoxAt.cell AB.out 3).trans rfl
       clear b g z hfl FL6)
    | fail)
  refine bodyPost_ret (results_box_tmp2 rfl _ _ (v2.heap.size) 25 _ (0, 0) _ rfl RB.out Try.underlying25 rfl Try.infoBf) rfl ?_
  exact ⟨x, u, ⟨none, 0, 0⟩, rfl, HC.out, HU.out, OWk.nil _ _, HB.out⟩

set_option maxRecDepth 100000 in
set_option maxHeartbeats 1600000 in
theorem rsend_yes1 (d : Int) (k : Bool) {vs s : Sl} {xs : List Int} {l : List Wt} (p r v : Int) {w : World} (hv : Sees w .i64 vs.val xs) (hs : SeesWt w s.val l) (hx : xs.length ≤ 800000) (hl : l.length ≤ 800000) (h0 : 0 < xs.length) (hd : ¬ (xs.length : Int) < d) :
    Calls Try.prog 10 #[BfV.val ⟨d, k, vs, s⟩, .agg #[.int .i64 p, .int .i64 r, .int .i64 v], .bool true] w fun e w' => ∃ (x u q : Sl), e = .returned (.tuple #[BfV.val ⟨d, k, x, u⟩, .int .i64 (6), q.val]) ∧ OI w' w.heap.size x.val (xs) ∧ OWt w' w.heap.size u.val (addP l ⟨p, r, v⟩ k) ∧ OWk w' w.heap.size q.val ([]) ∧ Below w.heap.size w w' := by
  have HX := hid hv
  have HV := hid hs
  obtain ⟨a1, c1, hv1, hx1, hx2, hxc⟩ := hv.form
  obtain ⟨xa, xn, xc⟩ := vs
  simp only [Sl.val, Value.slice.injEq] at hv1
  obtain ⟨rfl, rfl, rfl⟩ := hv1
  obtain ⟨a2, c2, hs1, hc1, hc2, -⟩ := hs.form
  obtain ⟨sa, sn, sc⟩ := s
  simp only [Sl.val, Value.slice.injEq] at hs1
  obtain ⟨rfl, rfl, rfl⟩ := hs1
  unfold maxLen at hx2 hc2
  simp only [Sl.val] at HX HV
  have HXC := hid hxc
  clear hv hs hxc
  unfold BfV.val
  simp only
  obtain ⟨N, hN⟩ : ∃ N, xs.length = N := ⟨_, rfl⟩
  obtain ⟨M, hM⟩ : ∃ M, l.length = M := ⟨_, rfl⟩
  have HN := hid hN
  have HM := hid hM
  have HXL := hid hx
  have HL := hid hl
  rw [hN] at hx hx1 HX HXC ⊢
  rw [hM] at hl hc1 HV ⊢
  have H0 := hid h0
  have t0 : ((N : Int) == 0) = false := beq_eq_false_iff_ne.2 (by omega)
  have tz : (0 : Int) < (N : Int) := by omega
  rw [hN] at hd
  clear hN hM h0
  have HB := hid (Below.refl w.heap.size w)
  go_enter Try.func10, Try.ntmps10
  have FL1 := hid trivial
  have FL2 := hid trivial
  have FL3 := hid trivial
  go_wp2_with (first
    | (have hfl := FL1.out
       refine wpList_box rfl 25 (.tmp 0) rfl #[.int .i64 d, .bool k, .slice xa N xc, .slice sa M sc] rfl ?_
       intro v1 b h z
       have PB := hid (show BoxAt v1 w.heap.size 25 #[.int .i64 d, .bool k, .slice xa N xc, .slice sa M sc] from b)
       have HB := hid (HB.out.trans (h.mono HB.out.size))
       have hsv1 : w.heap.size + 1 ≤ v1.heap.size := by first | exact h.size | omega
       clear b h z hfl FL1)
    | (have hfl := FL2.out
       refine wpList_box rfl 27 (.tmp 1) rfl #[.int .i64 p, .int .i64 r, .int .i64 v] rfl ?_
       intro v2 b h z
       have WB := hid (show BoxAt v2 v1.heap.size 27 #[.int .i64 p, .int .i64 r, .int .i64 v] from b)
       have PB := hid (PB.out.belowAll h)
       have HB := hid (HB.out.trans (h.mono HB.out.size))
       have hsv2 : v1.heap.size + 1 ≤ v2.heap.size := by first | exact h.size | omega
       have kPB0 : v2.cell? ⟨w.heap.size, 0, none⟩ = some (.int .i64 d) := (BoxAt.cell PB.out 0).trans rfl
       have kPB1 : v2.cell? ⟨w.heap.size, 1, none⟩ = some (.bool k) := (BoxAt.cell PB.out 1).trans rfl
       have kPB2 : v2.cell? ⟨w.heap.size, 2, none⟩ = some (.slice xa N xc) := (BoxAt.cell PB.out 2).trans rfl
       have kPB3 : v2.cell? ⟨w.heap.size, 3, none⟩ = some (.slice sa M sc) := (BoxAt.cell PB.out 3).trans rfl
       clear b h z hfl FL2)
    | (have hfl := FL3.out
       refine wpList_new rfl 25 rfl _ Try.zeroBf ?_
       intro v3 b h z
       have RB := hid (show BoxAt v3 v2.heap.size 25 #[.int .i64 0, .bool false, .slice none 0 0, .slice none 0 0] from b)
       have PB := hid (PB.out.belowAll h)
       have WB := hid (WB.out.belowAll h)
       have HB := hid (HB.out.trans (h.mono HB.out.size))
       have hsv3 : v2.heap.size + 1 ≤ v3.heap.size := by first | exact h.size | omega
       clear kPB0 kPB1 kPB2 kPB3
       have kPB0 : v3.cell? ⟨w.heap.size, 0, none⟩ = some (.int .i64 d) := (BoxAt.cell PB.out 0).trans rfl
       have kPB1 : v3.cell? ⟨w.heap.size, 1, none⟩ = some (.bool k) := (BoxAt.cell PB.out 1).trans rfl
       have kPB2 : v3.cell? ⟨w.heap.size, 2, none⟩ = some (.slice xa N xc) := (BoxAt.cell PB.out 2).trans rfl
       have kPB3 : v3.cell? ⟨w.heap.size, 3, none⟩ = some (.slice sa M sc) := (BoxAt.cell PB.out 3).trans rfl
       have kWB0 : v3.cell? ⟨v1.heap.size, 0, none⟩ = some (.int .i64 p) := (BoxAt.cell WB.out 0).trans rfl
       have kWB1 : v3.cell? ⟨v1.heap.size, 1, none⟩ = some (.int .i64 r) := (BoxAt.cell WB.out 1).trans rfl
       have kWB2 : v3.cell? ⟨v1.heap.size, 2, none⟩ = some (.int .i64 v) := (BoxAt.cell WB.out 2).trans rfl
       clear b h z hfl FL3
       refine Hid.out ?_)
    | fail)
  refine hid ?_
  clear kPB0 kPB1 kPB2 kPB3 kWB0 kWB1 kWB2
  have kPB0 : v3.cell? ⟨w.heap.size, 0, none⟩ = some (.int .i64 d) := (BoxAt.cell PB.out 0).trans rfl
  have kPB1 : v3.cell? ⟨w.heap.size, 1, none⟩ = some (.bool k) := (BoxAt.cell PB.out 1).trans rfl
  have kPB2 : v3.cell? ⟨w.heap.size, 2, none⟩ = some (.slice xa N xc) := (BoxAt.cell PB.out 2).trans rfl
  have kPB3 : v3.cell? ⟨w.heap.size, 3, none⟩ = some (.slice sa M sc) := (BoxAt.cell PB.out 3).trans rfl
  have kWB0 : v3.cell? ⟨v1.heap.size, 0, none⟩ = some (.int .i64 p) := (BoxAt.cell WB.out 0).trans rfl
  have kWB1 : v3.cell? ⟨v1.heap.size, 1, none⟩ = some (.int .i64 r) := (BoxAt.cell WB.out 1).trans rfl
  have kWB2 : v3.cell? ⟨v1.heap.size, 2, none⟩ = some (.int .i64 v) := (BoxAt.cell WB.out 2).trans rfl
  go_wp2_with (first
    | (refine wpList_load_box rfl 25 _ rfl (w.heap.size) rfl _ _ PB.out _ Try.underlying25 Try.infoBf ?_)
    | fail)
  have HBw := HB.out.size
  refine (rbown_any d k (vs := ⟨xa, N, xc⟩) (s := ⟨sa, M, sc⟩) (HX.out.below HB.out) (HV.out.below HB.out) HXL.out HL.out).mono ?_
  rintro e v4 ⟨x, u, rfl, hc, hu, hb⟩
  have PB := hid (PB.out.belowAll hb)
  have WB := hid (WB.out.belowAll hb)
  have RB := hid (RB.out.belowAll hb)
  have HB := hid (HB.out.trans (hb.mono HB.out.size))
  have hsv4 : v3.heap.size ≤ v4.heap.size := by first | exact hb.size | omega
  have HC := hid (hc.mono HBw)
  have HU := hid (hu.mono HBw)
  clear hc hu HBw
  simp only [Sl.val] at HC HU
  clear kPB0 kPB1 kPB2 kPB3 kWB0 kWB1 kWB2
  have kPB0 : v4.cell? ⟨w.heap.size, 0, none⟩ = some (.int .i64 d) := (BoxAt.cell PB.out 0).trans rfl
  have kPB1 : v4.cell? ⟨w.heap.size, 1, none⟩ = some (.bool k) := (BoxAt.cell PB.out 1).trans rfl
  have kPB2 : v4.cell? ⟨w.heap.size, 2, none⟩ = some (.slice xa N xc) := (BoxAt.cell PB.out 2).trans rfl
  have kPB3 : v4.cell? ⟨w.heap.size, 3, none⟩ = some (.slice sa M sc) := (BoxAt.cell PB.out 3).trans rfl
  have kWB0 : v4.cell? ⟨v1.heap.size, 0, none⟩ = some (.int .i64 p) := (BoxAt.cell WB.out 0).trans rfl
  have kWB1 : v4.cell? ⟨v1.heap.size, 1, none⟩ = some (.int .i64 r) := (BoxAt.cell WB.out 1).trans rfl
  have kWB2 : v4.cell? ⟨v1.heap.size, 2, none⟩ = some (.int .i64 v) := (BoxAt.cell WB.out 2).trans rfl
  clear hb
  have FL4 := hid trivial
  have FL5 := hid trivial
  go_wp2_with (first
    | (have hfl := FL4.out
       refine wpList_new rfl 25 rfl _ Try.zeroBf ?_
       intro v5 b h z
       have AB := hid (show BoxAt v5 v4.heap.size 25 #[.int .i64 0, .bool false, .slice none 0 0, .slice none 0 0] from b)
       have PB := hid (PB.out.belowAll h)
       have WB := hid (WB.out.belowAll h)
       have RB := hid (RB.out.belowAll h)
       have HC := hid (HC.out.below h)
       have HU := hid (HU.out.below h)
       have HB := hid (HB.out.trans (h.mono HB.out.size))
       have hsv5 : v4.heap.size + 1 ≤ v5.heap.size := by first | exact h.size | omega
       clear kPB0 kPB1 kPB2 kPB3 kWB0 kWB1 kWB2
       have kPB0 : v5.cell? ⟨w.heap.size, 0, none⟩ = some (.int .i64 d) := (BoxAt.cell PB.out 0).trans rfl
       have kPB1 : v5.cell? ⟨w.heap.size, 1, none⟩ = some (.bool k) := (BoxAt.cell PB.out 1).trans rfl
       have kPB2 : v5.cell? ⟨w.heap.size, 2, none⟩ = some (.slice xa N xc) := (BoxAt.cell PB.out 2).trans rfl
       have kPB3 : v5.cell? ⟨w.heap.size, 3, none⟩ = some (.slice sa M sc) := (BoxAt.cell PB.out 3).trans rfl
       have kWB0 : v5.cell? ⟨v1.heap.size, 0, none⟩ = some (.int .i64 p) := (BoxAt.cell WB.out 0).trans rfl
       have kWB1 : v5.cell? ⟨v1.heap.size, 1, none⟩ = some (.int .i64 r) := (BoxAt.cell WB.out 1).trans rfl
       have kWB2 : v5.cell? ⟨v1.heap.size, 2, none⟩ = some (.int .i64 v) := (BoxAt.cell WB.out 2).trans rfl
       clear b h z hfl FL4)
    | (have hfl := FL5.out
       refine wpList_store_whole rfl 25 _ _ rfl rfl (v4.heap.size) rfl [.int .i64 d, .bool k, .slice x.a x.n x.c, .slice u.a u.n u.c] rfl _ _ AB.out rfl Try.infoBf (by simp [Value.oneCell']) ?_
       intro v6 b g z
       have hsv6 : v5.heap.size ≤ v6.heap.size := by omega
       have HC := hid (HC.out.put g AB.out (by decide))
       have HU := hid (HU.out.put g AB.out (by decide))
       have AB := hid (show BoxAt v6 (v4.heap.size) 25 #[.int .i64 d, .bool k, .slice x.a x.n x.c, .slice u.a u.n u.c] from b)
       have PB := hid (PB.out.grown g (fun e => by have := Option.some.inj e; omega))
       have WB := hid (WB.out.grown g (fun e => by have := Option.some.inj e; omega))
       have RB := hid (RB.out.grown g (fun e => by have := Option.some.inj e; omega))
       have HB := hid (HB.out.trans (grown_below g (by omega) (by omega)))
       clear kPB0 kPB1 kPB2 kPB3 kWB0 kWB1 kWB2
       have kPB0 : v6.cell? ⟨w.heap.size, 0, none⟩ = some (.int .i64 d) := (BoxAt.cell PB.out 0).trans rfl
       have kPB1 : v6.cell? ⟨w.heap.size, 1, none⟩ = some (.bool k) := (BoxAt.cell PB.out 1).trans rfl
       have kPB2 : v6.cell? ⟨w.heap.size, 2, none⟩ = some (.slice xa N xc) := (BoxAt.cell PB.out 2).trans rfl
       have kPB3 : v6.cell? ⟨w.heap.size, 3, none⟩ = some (.slice sa M sc) := (BoxAt.cell PB.out 3).trans rfl
       have kWB0 : v6.cell? ⟨v1.heap.size, 0, none⟩ = some (.int .i64 p) := (BoxAt.cell WB.out 0).trans rfl
       have kWB1 : v6.cell? ⟨v1.heap.size, 1, none⟩ = some (.int .i64 r) := (BoxAt.cell WB.out 1).trans rfl
       have kWB2 : v6.cell? ⟨v1.heap.size, 2, none⟩ = some (.int .i64 v) := (BoxAt.cell WB.out 2).trans rfl
       have kAB2 : v6.cell? ⟨v4.heap.size, 2, none⟩ = some (.slice x.a x.n x.c) := (BoxAt.cell AB.out 2).trans rfl
       have kAB3 : v6.cell? ⟨v4.heap.size, 3, none⟩ = some (.slice u.a u.n u.c) := (BoxAt.cell AB.out 3).trans rfl
       clear b g z hfl FL5
       refine Hid.out ?_)
    | fail)
  refine hid ?_
  clear kPB0 kPB1 kPB2 kPB3 kWB0 kWB1 kWB2 kAB2 kAB3
  have kPB0 : v6.cell? ⟨w.heap.size, 0, none⟩ = some (.int .i64 d) := (BoxAt.cell PB.out 0).trans rfl
  have kPB1 : v6.cell? ⟨w.heap.size, 1, none⟩ = some (.bool k) := (BoxAt.cell PB.out 1).trans rfl
  have kPB2 : v6.cell? ⟨w.heap.size, 2, none⟩ = some (.slice xa N xc) := (BoxAt.cell PB.out 2).trans rfl
  have kPB3 : v6.cell? ⟨w.heap.size, 3, none⟩ = some (.slice sa M sc) := (BoxAt.cell PB.out 3).trans rfl
  have kWB0 : v6.cell? ⟨v1.heap.size, 0, none⟩ = some (.int .i64 p) := (BoxAt.cell WB.out 0).trans rfl
  have kWB1 : v6.cell? ⟨v1.heap.size, 1, none⟩ = some (.int .i64 r) := (BoxAt.cell WB.out 1).trans rfl
  have kWB2 : v6.cell? ⟨v1.heap.size, 2, none⟩ = some (.int .i64 v) := (BoxAt.cell WB.out 2).trans rfl
  have kAB2 : v6.cell? ⟨v4.heap.size, 2, none⟩ = some (.slice x.a x.n x.c) := (BoxAt.cell AB.out 2).trans rfl
  have kAB3 : v6.cell? ⟨v4.heap.size, 3, none⟩ = some (.slice u.a u.n u.c) := (BoxAt.cell AB.out 3).trans rfl
  go_wp2_with (first
    | (refine wpList_load_box rfl 27 _ rfl (v1.heap.size) rfl _ _ WB.out _ Try.underlying27 Try.infoWt ?_)
    | fail)
  clear HU
  have HBsy := HB.out.size
  refine (radd_any ⟨p, r, v⟩ k (HV.out.below HB.out) (by have := HL.out; omega)).mono ?_
  rintro e v7 ⟨uy, rfl, hu, hb⟩
  have PB := hid (PB.out.belowAll hb)
  have WB := hid (WB.out.belowAll hb)
  have RB := hid (RB.out.belowAll hb)
  have AB := hid (AB.out.belowAll hb)
  have HC := hid (HC.out.below hb)
  have HB := hid (HB.out.trans (hb.mono HB.out.size))
  have hsv7 : v6.heap.size ≤ v7.heap.size := by first | exact hb.size | omega
  obtain ⟨y, rfl, -⟩ := hu.sl
  have HU := hid (hu.mono HBsy)
  clear hu HBsy
  clear kPB0 kPB1 kPB2 kPB3 kWB0 kWB1 kWB2 kAB2 kAB3
  have kPB0 : v7.cell? ⟨w.heap.size, 0, none⟩ = some (.int .i64 d) := (BoxAt.cell PB.out 0).trans rfl
  have kPB1 : v7.cell? ⟨w.heap.size, 1, none⟩ = some (.bool k) := (BoxAt.cell PB.out 1).trans rfl
  have kPB2 : v7.cell? ⟨w.heap.size, 2, none⟩ = some (.slice xa N xc) := (BoxAt.cell PB.out 2).trans rfl
  have kPB3 : v7.cell? ⟨w.heap.size, 3, none⟩ = some (.slice sa M sc) := (BoxAt.cell PB.out 3).trans rfl
  have kWB0 : v7.cell? ⟨v1.heap.size, 0, none⟩ = some (.int .i64 p) := (BoxAt.cell WB.out 0).trans rfl
  have kWB1 : v7.cell? ⟨v1.heap.size, 1, none⟩ = some (.int .i64 r) := (BoxAt.cell WB.out 1).trans rfl
  have kWB2 : v7.cell? ⟨v1.heap.size, 2, none⟩ = some (.int .i64 v) := (BoxAt.cell WB.out 2).trans rfl
  have kAB2 : v7.cell? ⟨v4.heap.size, 2, none⟩ = some (.slice x.a x.n x.c) := (BoxAt.cell AB.out 2).trans rfl
  have kAB3 : v7.cell? ⟨v4.heap.size, 3, none⟩ = some (.slice u.a u.n u.c) := (BoxAt.cell AB.out 3).trans rfl
  clear hb
  have FL6 := hid trivial
  have FL7 := hid trivial
  go_wp2_with (first
    | (have hfl := FL6.out
       refine wpList_store_box rfl 23 _ _ rfl rfl (v4.heap.size) 3 (.slice y.a y.n y.c) rfl rfl rfl rfl (by kernel_rfl) _ _ AB.out (by simp) ?_
       intro v8 b g z
       have hsv8 : v7.heap.size ≤ v8.heap.size := by omega
       have HC := hid (HC.out.put g AB.out (by decide))
       have HU := hid (HU.out.put g AB.out (by decide))
       have AB := hid (show BoxAt v8 (v4.heap.size) 25 #[.int .i64 d, .bool k, .slice x.a x.n x.c, .slice y.a y.n y.c] from by simpa using b)
       have PB := hid (PB.out.grown g (fun e => by have := Option.some.inj e; omega))
       have WB := hid (WB.out.grown g (fun e => by have := Option.some.inj e; omega))
       have RB := hid (RB.out.grown g (fun e => by have := Option.some.inj e; omega))
       have HB := hid (HB.out.trans (grown_below g (by omega) (by omega)))
       clear kPB0 kPB1 kPB2 kPB3 kWB0 kWB1 kWB2 kAB2 kAB3
       have kPB0 : v8.cell? ⟨w.heap.size, 0, none⟩ = some (.int .i64 d) := (BoxAt.cell PB.out 0).trans rfl
       have kPB1 : v8.cell? ⟨w.heap.size, 1, none⟩ = some (.bool k) := (BoxAt.cell PB.out 1).trans rfl
       have kPB2 : v8.cell? ⟨w.heap.size, 2, none⟩ = some (.slice xa N xc) := (BoxAt.cell PB.out 2).trans rfl
       have kPB3 : v8.cell? ⟨w.heap.size, 3, none⟩ = some (.slice sa M sc) := (BoxAt.cell PB.out 3).trans rfl
       have kWB0 : v8.cell? ⟨v1.heap.size, 0, none⟩ = some (.int .i64 p) := (BoxAt.cell WB.out 0).trans rfl
       have kWB1 : v8.cell? ⟨v1.heap.size, 1, none⟩ = some (.int .i64 r) := (BoxAt.cell WB.out 1).trans rfl
       have kWB2 : v8.cell? ⟨v1.heap.size, 2, none⟩ = some (.int .i64 v) := (BoxAt.cell WB.out 2).trans rfl
       have kAB2 : v8.cell? ⟨v4.heap.size, 2, none⟩ = some (.slice x.a x.n x.c) := (BoxAt.cell AB.out 2).trans rfl
       have kAB3 : v8.cell? ⟨v4.heap.size, 3, none⟩ = some (.slice y.a y.n y.c) := (BoxAt.cell AB.out 3).trans rfl
       clear b g z hfl FL6)
    | (refine wpList_load_box rfl 25 _ rfl (v4.heap.size) rfl _ _ AB.out _ Try.underlying25 Try.infoBf ?_)
    | (have hfl := FL7.out
       refine wpList_store_whole rfl 25 _ _ rfl rfl (v2.heap.size) rfl [.int .i64 d, .bool k, .slice x.a x.n x.c, .slice y.a y.n y.c] rfl _ _ RB.out rfl Try.infoBf (by simp [Value.oneCell']) ?_
       intro v9 b g z
       have hsv9 : v8.heap.size ≤ v9.heap.size := by omega
       have HC := hid (HC.out.put g RB.out (by decide))
       have HU := hid (HU.out.put g RB.out (by decide))
       have RB := hid (show BoxAt v9 (v2.heap.size) 25 #[.int .i64 d, .bool k, .slice x.a x.n x.c, .slice y.a y.n y.c] from b)
       have PB := hid (PB.out.grown g (fun e => by have := Option.some.inj e; omega))
       have WB := hid (WB.out.grown g (fun e => by have := Option.some.inj e; omega))
       have AB := hid (AB.out.grown g (fun e => by have := Option.some.inj e; omega))
       have HB := hid (HB.out.trans (grown_below g (by omega) (by omega)))
       clear kPB0 kPB1 kPB2 kPB3 kWB0 kWB1 kWB2 kAB2 kAB3
       have kPB0 : v9.cell? ⟨w.heap.size, 0, none⟩ = some (.int .i64 d) := (BoxAt.cell PB.out 0).trans rfl
       have kPB1 : v9.cell? ⟨w.heap.size, 1, none⟩ = some (.bool k) := (BoxAt.cell PB.out 1).trans rfl
       have kPB2 : v9.cell? ⟨w.heap.size, 2, none⟩ = some (.slice xa N xc) := (BoxAt.cell PB.out 2).trans rfl
       have kPB3 : v9.cell? ⟨w.heap.size, 3, none⟩ = some (.slice sa M sc) := (BoxAt.cell PB.out 3).trans rfl
       have kWB0 : v9.cell? ⟨v1.heap.size, 0, none⟩ = some (.int .i64 p) := (BoxAt.cell WB.out 0).trans rfl
       have kWB1 : v9.cell? ⟨v1.heap.size, 1, none⟩ = some (.int .i64 r) := (BoxAt.cell WB.out 1).trans rfl
       have kWB2 : v9.cell? ⟨v1.heap.size, 2, none⟩ = some (.int .i64 v) := (BoxAt.cell WB.out 2).trans rfl
       have kAB2 : v9.cell? ⟨v4.heap.size, 2, none⟩ = some (.slice x.a x.n x.c) := (BoxAt.cell AB.out 2).trans rfl
       have kAB3 : v9.cell? ⟨v4.heap.size, 3, none⟩ = some (.slice y.a y.n y.c) := (BoxAt.cell AB.out 3).trans rfl
       clear b g z hfl FL7)
    | fail)
  refine bodyPost_ret (results_box_tmp2 rfl _ _ (v2.heap.size) 25 _ (0, 0) _ rfl RB.out Try.underlying25 rfl Try.infoBf) rfl ?_
  exact ⟨x, y, ⟨none, 0, 0⟩, rfl, HC.out, HU.out, OWk.nil _ _, HB.out⟩

set_option maxRecDepth 100000 in
set_option maxHeartbeats 1600000 in
theorem rsend_put0 (d : Int) (k : Bool) {vs s : Sl} {xs : List Int} {l : List Wt} (p r v : Int) (may : Bool) {w : World} (hv : Sees w .i64 vs.val xs) (hs : SeesWt w s.val l) (hx : xs.length ≤ 800000) (hl : l.length ≤ 800000) (h0 : xs.length = 0) (h1 : l.length = 0) (hd : (xs.length : Int) < d) :
    Calls Try.prog 10 #[BfV.val ⟨d, k, vs, s⟩, .agg #[.int .i64 p, .int .i64 r, .int .i64 v], .bool may] w fun e w' => ∃ (x u q : Sl), e = .returned (.tuple #[BfV.val ⟨d, k, x, u⟩, .int .i64 (0), q.val]) ∧ OI w' w.heap.size x.val (xs ++ [v]) ∧ OWt w' w.heap.size u.val (l) ∧ OWk w' w.heap.size q.val ([]) ∧ Below w.heap.size w w' := by
  have HX := hid hv
  have HV := hid hs
  obtain ⟨a1, c1, hv1, hx1, hx2, hxc⟩ := hv.form
  obtain ⟨xa, xn, xc⟩ := vs
  simp only [Sl.val, Value.slice.injEq] at hv1
  obtain ⟨rfl, rfl, rfl⟩ := hv1
  obtain ⟨a2, c2, hs1, hc1, hc2, -⟩ := hs.form
  obtain ⟨sa, sn, sc⟩ := s
  simp only [Sl.val, Value.slice.injEq] at hs1
  obtain ⟨rfl, rfl, rfl⟩ := hs1
  unfold maxLen at hx2 hc2
  simp only [Sl.val] at HX HV
  have HXC := hid hxc
  clear hv hs hxc
  unfold BfV.val
  simp only
  obtain ⟨N, hN⟩ : ∃ N, xs.length = N := ⟨_, rfl⟩
  obtain ⟨M, hM⟩ : ∃ M, l.length = M := ⟨_, rfl⟩
  have HN := hid hN
  have HM := hid hM
  have HXL := hid hx
  have HL := hid hl
  rw [hN] at hx hx1 HX HXC ⊢
  rw [hM] at hl hc1 HV ⊢
  have H0 := hid h0
  have H1 := hid h1
  have t0 : ((N : Int) == 0) = true := by rw [← hN, h0]; rfl
  have tz : ¬ (0 : Int) < (N : Int) := by rw [← hN, h0]; decide
  have tm : ¬ (0 : Int) < (M : Int) := by omega
  rw [hN] at hd
  clear hN hM h0 h1
  have HB := hid (Below.refl w.heap.size w)
  go_enter Try.func10, Try.ntmps10
  have FL1 := hid trivial
  have FL2 := hid trivial
  have FL3 := hid trivial
  go_wp2_with (first
    | (have hfl := FL1.out
       refine wpList_box rfl 25 (.tmp 0) rfl #[.int .i64 d, .bool k, .slice xa N xc, .slice sa M sc] rfl ?_
       intro v1 b h z
       have PB := hid (show BoxAt v1 w.heap.size 25 #[.int .i64 d, .bool k, .slice xa N xc, .slice sa M sc] from b)
       have HB := hid (HB.out.trans (h.mono HB.out.size))
       have hsv1 : w.heap.size + 1 ≤ v1.heap.size := by first | exact h.size | omega
       clear b h z hfl FL1)
    | (have hfl := FL2.out
       refine wpList_box rfl 27 (.tmp 1) rfl #[.int .i64 p, .int .i64 r, .int .i64 v] rfl ?_
       intro v2 b h z
       have WB := hid (show BoxAt v2 v1.heap.size 27 #[.int .i64 p, .int .i64 r, .int .i64 v] from b)
       have PB := hid (PB.out.belowAll h)
       have HB := hid (HB.out.trans (h.mono HB.out.size))
       have hsv2 : v1.heap.size + 1 ≤ v2.heap.size := by first | exact h.size | omega
       have kPB0 : v2.cell? ⟨w.heap.size, 0, none⟩ = some (.int .i64 d) := (BoxAt.cell PB.out 0).trans rfl
       have kPB1 : v2.cell? ⟨w.heap.size, 1, none⟩ = some (.bool k) := (BoxAt.cell PB.out 1).trans rfl
       have kPB2 : v2.cell? ⟨w.heap.size, 2, none⟩ = some (.slice xa N xc) := (BoxAt.cell PB.out 2).trans rfl
       have kPB3 : v2.cell? ⟨w.heap.size, 3, none⟩ = some (.slice sa M sc) := (BoxAt.cell PB.out 3).trans rfl
       clear b h z hfl FL2)
    | (have hfl := FL3.out
       refine wpList_new rfl 25 rfl _ Try.zeroBf ?_
       intro v3 b h z
       have RB := hid (show BoxAt v3 v2.heap.size 25 #[.int .i64 0, .bool false, .slice none 0 0, .slice none 0 0] from b)
       have PB := hid (PB.out.belowAll h)
       have WB := hid (WB.out.belowAll h)
       have HB := hid (HB.out.trans (h.mono HB.out.size))
       have hsv3 : v2.heap.size + 1 ≤ v3.heap.size := by first | exact h.size | omega
       clear kPB0 kPB1 kPB2 kPB3
       have kPB0 : v3.cell? ⟨w.heap.size, 0, none⟩ = some (.int .i64 d) := (BoxAt.cell PB.out 0).trans rfl
       have kPB1 : v3.cell? ⟨w.heap.size, 1, none⟩ = some (.bool k) := (BoxAt.cell PB.out 1).trans rfl
       have kPB2 : v3.cell? ⟨w.heap.size, 2, none⟩ = some (.slice xa N xc) := (BoxAt.cell PB.out 2).trans rfl
       have kPB3 : v3.cell? ⟨w.heap.size, 3, none⟩ = some (.slice sa M sc) := (BoxAt.cell PB.out 3).trans rfl
       have kWB0 : v3.cell? ⟨v1.heap.size, 0, none⟩ = some (.int .i64 p) := (BoxAt.cell WB.out 0).trans rfl
       have kWB1 : v3.cell? ⟨v1.heap.size, 1, none⟩ = some (.int .i64 r) := (BoxAt.cell WB.out 1).trans rfl
       have kWB2 : v3.cell? ⟨v1.heap.size, 2, none⟩ = some (.int .i64 v) := (BoxAt.cell WB.out 2).trans rfl
       clear b h z hfl FL3
       refine Hid.out ?_)
    | fail)
  refine hid ?_
  clear kPB0 kPB1 kPB2 kPB3 kWB0 kWB1 kWB2
  have kPB0 : v3.cell? ⟨w.heap.size, 0, none⟩ = some (.int .i64 d) := (BoxAt.cell PB.out 0).trans rfl
  have kPB1 : v3.cell? ⟨w.heap.size, 1, none⟩ = some (.bool k) := (BoxAt.cell PB.out 1).trans rfl
  have kPB2 : v3.cell? ⟨w.heap.size, 2, none⟩ = some (.slice xa N xc) := (BoxAt.cell PB.out 2).trans rfl
  have kPB3 : v3.cell? ⟨w.heap.size, 3, none⟩ = some (.slice sa M sc) := (BoxAt.cell PB.out 3).trans rfl
  have kWB0 : v3.cell? ⟨v1.heap.size, 0, none⟩ = some (.int .i64 p) := (BoxAt.cell WB.out 0).trans rfl
  have kWB1 : v3.cell? ⟨v1.heap.size, 1, none⟩ = some (.int .i64 r) := (BoxAt.cell WB.out 1).trans rfl
  have kWB2 : v3.cell? ⟨v1.heap.size, 2, none⟩ = some (.int .i64 v) := (BoxAt.cell WB.out 2).trans rfl
  go_wp2_with (first
    | (refine wpList_load_box rfl 25 _ rfl (w.heap.size) rfl _ _ PB.out _ Try.underlying25 Try.infoBf ?_)
    | fail)
  have HBw := HB.out.size
  refine (rbown_any d k (vs := ⟨xa, N, xc⟩) (s := ⟨sa, M, sc⟩) (HX.out.below HB.out) (HV.out.below HB.out) HXL.out HL.out).mono ?_
  rintro e v4 ⟨x, u, rfl, hc, hu, hb⟩
  have PB := hid (PB.out.belowAll hb)
  have WB := hid (WB.out.belowAll hb)
  have RB := hid (RB.out.belowAll hb)
  have HB := hid (HB.out.trans (hb.mono HB.out.size))
  have hsv4 : v3.heap.size ≤ v4.heap.size := by first | exact hb.size | omega
  have HC := hid (hc.mono HBw)
  have HU := hid (hu.mono HBw)
  clear hc hu HBw
  simp only [Sl.val] at HC HU
  clear kPB0 kPB1 kPB2 kPB3 kWB0 kWB1 kWB2
  have kPB0 : v4.cell? ⟨w.heap.size, 0, none⟩ = some (.int .i64 d) := (BoxAt.cell PB.out 0).trans rfl
  have kPB1 : v4.cell? ⟨w.heap.size, 1, none⟩ = some (.bool k) := (BoxAt.cell PB.out 1).trans rfl
  have kPB2 : v4.cell? ⟨w.heap.size, 2, none⟩ = some (.slice xa N xc) := (BoxAt.cell PB.out 2).trans rfl
  have kPB3 : v4.cell? ⟨w.heap.size, 3, none⟩ = some (.slice sa M sc) := (BoxAt.cell PB.out 3).trans rfl
  have kWB0 : v4.cell? ⟨v1.heap.size, 0, none⟩ = some (.int .i64 p) := (BoxAt.cell WB.out 0).trans rfl
  have kWB1 : v4.cell? ⟨v1.heap.size, 1, none⟩ = some (.int .i64 r) := (BoxAt.cell WB.out 1).trans rfl
  have kWB2 : v4.cell? ⟨v1.heap.size, 2, none⟩ = some (.int .i64 v) := (BoxAt.cell WB.out 2).trans rfl
  clear hb
  have FL4 := hid trivial
  have FL5 := hid trivial
  go_wp2_with (first
    | (have hfl := FL4.out
       refine wpList_new rfl 25 rfl _ Try.zeroBf ?_
       intro v5 b h z
       have AB := hid (show BoxAt v5 v4.heap.size 25 #[.int .i64 0, .bool false, .slice none 0 0, .slice none 0 0] from b)
       have PB := hid (PB.out.belowAll h)
       have WB := hid (WB.out.belowAll h)
       have RB := hid (RB.out.belowAll h)
       have HC := hid (HC.out.below h)
       have HU := hid (HU.out.below h)
       have HB := hid (HB.out.trans (h.mono HB.out.size))
       have hsv5 : v4.heap.size + 1 ≤ v5.heap.size := by first | exact h.size | omega
       clear kPB0 kPB1 kPB2 kPB3 kWB0 kWB1 kWB2
       have kPB0 : v5.cell? ⟨w.heap.size, 0, none⟩ = some (.int .i64 d) := (BoxAt.cell PB.out 0).trans rfl
       have kPB1 : v5.cell? ⟨w.heap.size, 1, none⟩ = some (.bool k) := (BoxAt.cell PB.out 1).trans rfl
       have kPB2 : v5.cell? ⟨w.heap.size, 2, none⟩ = some (.slice xa N xc) := (BoxAt.cell PB.out 2).trans rfl
       have kPB3 : v5.cell? ⟨w.heap.size, 3, none⟩ = some (.slice sa M sc) := (BoxAt.cell PB.out 3).trans rfl
       have kWB0 : v5.cell? ⟨v1.heap.size, 0, none⟩ = some (.int .i64 p) := (BoxAt.cell WB.out 0).trans rfl
       have kWB1 : v5.cell? ⟨v1.heap.size, 1, none⟩ = some (.int .i64 r) := (BoxAt.cell WB.out 1).trans rfl
       have kWB2 : v5.cell? ⟨v1.heap.size, 2, none⟩ = some (.int .i64 v) := (BoxAt.cell WB.out 2).trans rfl
       clear b h z hfl FL4)
    | (have hfl := FL5.out
       refine wpList_store_whole rfl 25 _ _ rfl rfl (v4.heap.size) rfl [.int .i64 d, .bool k, .slice x.a x.n x.c, .slice u.a u.n u.c] rfl _ _ AB.out rfl Try.infoBf (by simp [Value.oneCell']) ?_
       intro v6 b g z
       have hsv6 : v5.heap.size ≤ v6.heap.size := by omega
       have HC := hid (HC.out.put g AB.out (by decide))
       have HU := hid (HU.out.put g AB.out (by decide))
       have AB := hid (show BoxAt v6 (v4.heap.size) 25 #[.int .i64 d, .bool k, .slice x.a x.n x.c, .slice u.a u.n u.c] from b)
       have PB := hid (PB.out.grown g (fun e => by have := Option.some.inj e; omega))
       have WB := hid (WB.out.grown g (fun e => by have := Option.some.inj e; omega))
       have RB := hid (RB.out.grown g (fun e => by have := Option.some.inj e; omega))
       have HB := hid (HB.out.trans (grown_below g (by omega) (by omega)))
       clear kPB0 kPB1 kPB2 kPB3 kWB0 kWB1 kWB2
       have kPB0 : v6.cell? ⟨w.heap.size, 0, none⟩ = some (.int .i64 d) := (BoxAt.cell PB.out 0).trans rfl
       have kPB1 : v6.cell? ⟨w.heap.size, 1, none⟩ = some (.bool k) := (BoxAt.cell PB.out 1).trans rfl
       have kPB2 : v6.cell? ⟨w.heap.size, 2, none⟩ = some (.slice xa N xc) := (BoxAt.cell PB.out 2).trans rfl
       have kPB3 : v6.cell? ⟨w.heap.size, 3, none⟩ = some (.slice sa M sc) := (BoxAt.cell PB.out 3).trans rfl
       have kWB0 : v6.cell? ⟨v1.heap.size, 0, none⟩ = some (.int .i64 p) := (BoxAt.cell WB.out 0).trans rfl
       have kWB1 : v6.cell? ⟨v1.heap.size, 1, none⟩ = some (.int .i64 r) := (BoxAt.cell WB.out 1).trans rfl
       have kWB2 : v6.cell? ⟨v1.heap.size, 2, none⟩ = some (.int .i64 v) := (BoxAt.cell WB.out 2).trans rfl
       have kAB2 : v6.cell? ⟨v4.heap.size, 2, none⟩ = some (.slice x.a x.n x.c) := (BoxAt.cell AB.out 2).trans rfl
       have kAB3 : v6.cell? ⟨v4.heap.size, 3, none⟩ = some (.slice u.a u.n u.c) := (BoxAt.cell AB.out 3).trans rfl
       clear b g z hfl FL5
       refine Hid.out ?_)
    | fail)
  refine hid ?_
  clear kPB0 kPB1 kPB2 kPB3 kWB0 kWB1 kWB2 kAB2 kAB3
  have kPB0 : v6.cell? ⟨w.heap.size, 0, none⟩ = some (.int .i64 d) := (BoxAt.cell PB.out 0).trans rfl
  have kPB1 : v6.cell? ⟨w.heap.size, 1, none⟩ = some (.bool k) := (BoxAt.cell PB.out 1).trans rfl
  have kPB2 : v6.cell? ⟨w.heap.size, 2, none⟩ = some (.slice xa N xc) := (BoxAt.cell PB.out 2).trans rfl
  have kPB3 : v6.cell? ⟨w.heap.size, 3, none⟩ = some (.slice sa M sc) := (BoxAt.cell PB.out 3).trans rfl
  have kWB0 : v6.cell? ⟨v1.heap.size, 0, none⟩ = some (.int .i64 p) := (BoxAt.cell WB.out 0).trans rfl
  have kWB1 : v6.cell? ⟨v1.heap.size, 1, none⟩ = some (.int .i64 r) := (BoxAt.cell WB.out 1).trans rfl
  have kWB2 : v6.cell? ⟨v1.heap.size, 2, none⟩ = some (.int .i64 v) := (BoxAt.cell WB.out 2).trans rfl
  have kAB2 : v6.cell? ⟨v4.heap.size, 2, none⟩ = some (.slice x.a x.n x.c) := (BoxAt.cell AB.out 2).trans rfl
  have kAB3 : v6.cell? ⟨v4.heap.size, 3, none⟩ = some (.slice u.a u.n u.c) := (BoxAt.cell AB.out 3).trans rfl
  have FL6 := hid trivial
  have FL7 := hid trivial
  have FL8 := hid trivial
  have FL9 := hid trivial
  go_wp2_with (first
    | (have hfl := FL6.out
       refine wpList_litI rfl (.tmp 50) rfl (v) rfl ?_
       intro v7 b h
       have LB := hid (show BoxAt v7 v6.heap.size 3 #[.int .i64 (v)] from b)
       have PB := hid (PB.out.belowAll h)
       have WB := hid (WB.out.belowAll h)
       have RB := hid (RB.out.belowAll h)
       have AB := hid (AB.out.belowAll h)
       have HC := hid (HC.out.below h)
       have HU := hid (HU.out.below h)
       have HB := hid (HB.out.trans (h.mono HB.out.size))
       have hsv7 : v6.heap.size ≤ v7.heap.size := by first | exact h.size | omega
       clear kPB0 kPB1 kPB2 kPB3 kWB0 kWB1 kWB2 kAB2 kAB3
       have kPB0 : v7.cell? ⟨w.heap.size, 0, none⟩ = some (.int .i64 d) := (BoxAt.cell PB.out 0).trans rfl
       have kPB1 : v7.cell? ⟨w.heap.size, 1, none⟩ = some (.bool k) := (BoxAt.cell PB.out 1).trans rfl
       have kPB2 : v7.cell? ⟨w.heap.size, 2, none⟩ = some (.slice xa N xc) := (BoxAt.cell PB.out 2).trans rfl
       have kPB3 : v7.cell? ⟨w.heap.size, 3, none⟩ = some (.slice sa M sc) := (BoxAt.cell PB.out 3).trans rfl
       have kWB0 : v7.cell? ⟨v1.heap.size, 0, none⟩ = some (.int .i64 p) := (BoxAt.cell WB.out 0).trans rfl
       have kWB1 : v7.cell? ⟨v1.heap.size, 1, none⟩ = some (.int .i64 r) := (BoxAt.cell WB.out 1).trans rfl
       have kWB2 : v7.cell? ⟨v1.heap.size, 2, none⟩ = some (.int .i64 v) := (BoxAt.cell WB.out 2).trans rfl
       have kAB2 : v7.cell? ⟨v4.heap.size, 2, none⟩ = some (.slice x.a x.n x.c) := (BoxAt.cell AB.out 2).trans rfl
       have kAB3 : v7.cell? ⟨v4.heap.size, 3, none⟩ = some (.slice u.a u.n u.c) := (BoxAt.cell AB.out 3).trans rfl
       clear b h hfl FL6)
    | (have hfl := FL7.out
       at_builtin
       refine app_ints rfl (.tmp 48) (.tmp 51) rfl (w.heap.size) _ (xs) rfl HC.out _ [v] rfl (Sees.box (ys := [v]) LB.out (by simp)) (by have := HXL.out; simp; omega) (by omega) ?_
       intro uv8 v8 ho g h
       obtain ⟨qv8, rfl, -⟩ := ho.sl
       have hsv8 : v7.heap.size ≤ v8.heap.size := g.size
       have PB := hid (PB.out.grown g (OI.apart HC.out PB.out (by decide)))
       have WB := hid (WB.out.grown g (OI.apart HC.out WB.out (by decide)))
       have RB := hid (RB.out.grown g (OI.apart HC.out RB.out (by decide)))
       have AB := hid (AB.out.grown g (OI.apart HC.out AB.out (by decide)))
       have HU := hid (HU.out.over HC.out g)
       have HB := hid (HB.out.trans h)
       have HC := hid ho
       clear ho g h
       clear LB
       clear kPB0 kPB1 kPB2 kPB3 kWB0 kWB1 kWB2 kAB2 kAB3
       have kPB0 : v8.cell? ⟨w.heap.size, 0, none⟩ = some (.int .i64 d) := (BoxAt.cell PB.out 0).trans rfl
       have kPB1 : v8.cell? ⟨w.heap.size, 1, none⟩ = some (.bool k) := (BoxAt.cell PB.out 1).trans rfl
       have kPB2 : v8.cell? ⟨w.heap.size, 2, none⟩ = some (.slice xa N xc) := (BoxAt.cell PB.out 2).trans rfl
       have kPB3 : v8.cell? ⟨w.heap.size, 3, none⟩ = some (.slice sa M sc) := (BoxAt.cell PB.out 3).trans rfl
       have kWB0 : v8.cell? ⟨v1.heap.size, 0, none⟩ = some (.int .i64 p) := (BoxAt.cell WB.out 0).trans rfl
       have kWB1 : v8.cell? ⟨v1.heap.size, 1, none⟩ = some (.int .i64 r) := (BoxAt.cell WB.out 1).trans rfl
       have kWB2 : v8.cell? ⟨v1.heap.size, 2, none⟩ = some (.int .i64 v) := (BoxAt.cell WB.out 2).trans rfl
       have kAB2 : v8.cell? ⟨v4.heap.size, 2, none⟩ = some (.slice x.a x.n x.c) := (BoxAt.cell AB.out 2).trans rfl
       have kAB3 : v8.cell? ⟨v4.heap.size, 3, none⟩ = some (.slice u.a u.n u.c) := (BoxAt.cell AB.out 3).trans rfl
       clear hfl FL7)
    | (have hfl := FL8.out
       refine wpList_store_box rfl 22 _ _ rfl rfl (v4.heap.size) 2 (.slice qv8.a qv8.n qv8.c) rfl rfl rfl rfl (by kernel_rfl) _ _ AB.out (by simp) ?_
       intro v9 b g z
       have hsv9 : v8.heap.size ≤ v9.heap.size := by omega
       have HC := hid (HC.out.put g AB.out (by decide))
       have HU := hid (HU.out.put g AB.out (by decide))
       have AB := hid (show BoxAt v9 (v4.heap.size) 25 #[.int .i64 d, .bool k, .slice qv8.a qv8.n qv8.c, .slice u.a u.n u.c] from by simpa using b)
       have PB := hid (PB.out.grown g (fun e => by have := Option.some.inj e; omega))
       have WB := hid (WB.out.grown g (fun e => by have := Option.some.inj e; omega))
       have RB := hid (RB.out.grown g (fun e => by have := Option.some.inj e; omega))
       have HB := hid (HB.out.trans (grown_below g (by omega) (by omega)))
       clear kPB0 kPB1 kPB2 kPB3 kWB0 kWB1 kWB2 kAB2 kAB3
       have kPB0 : v9.cell? ⟨w.heap.size, 0, none⟩ = some (.int .i64 d) := (BoxAt.cell PB.out 0).trans rfl
       have kPB1 : v9.cell? ⟨w.heap.size, 1, none⟩ = some (.bool k) := (BoxAt.cell PB.out 1).trans rfl
       have kPB2 : v9.cell? ⟨w.heap.size, 2, none⟩ = some (.slice xa N xc) := (BoxAt.cell PB.out 2).trans rfl
       have kPB3 : v9.cell? ⟨w.heap.size, 3, none⟩ = some (.slice sa M sc) := (BoxAt.cell PB.out 3).trans rfl
       have kWB0 : v9.cell? ⟨v1.heap.size, 0, none⟩ = some (.int .i64 p) := (BoxAt.cell WB.out 0).trans rfl
       have kWB1 : v9.cell? ⟨v1.heap.size, 1, none⟩ = some (.int .i64 r) := (BoxAt.cell WB.out 1).trans rfl
       have kWB2 : v9.cell? ⟨v1.heap.size, 2, none⟩ = some (.int .i64 v) := (BoxAt.cell WB.out 2).trans rfl
       have kAB2 : v9.cell? ⟨v4.heap.size, 2, none⟩ = some (.slice qv8.a qv8.n qv8.c) := (BoxAt.cell AB.out 2).trans rfl
       have kAB3 : v9.cell? ⟨v4.heap.size, 3, none⟩ = some (.slice u.a u.n u.c) := (BoxAt.cell AB.out 3).trans rfl
       clear b g z hfl FL8)
    | (refine wpList_load_box rfl 25 _ rfl (v4.heap.size) rfl _ _ AB.out _ Try.underlying25 Try.infoBf ?_)
    | (have hfl := FL9.out
       refine wpList_store_whole rfl 25 _ _ rfl rfl (v2.heap.size) rfl [.int .i64 d, .bool k, .slice qv8.a qv8.n qv8.c, .slice u.a u.n u.c] rfl _ _ RB.out rfl Try.infoBf (by simp [Value.oneCell']) ?_
       intro v10 b g z
       have hsv10 : v9.heap.size ≤ v10.heap.size := by omega
       have HC := hid (HC.out.put g RB.out (by decide))
       have HU := hid (HU.out.put g RB.out (by decide))
       have RB := hid (show BoxAt v10 (v2.heap.size) 25 #[.int .i64 d, .bool k, .slice qv8.a qv8.n qv8.c, .slice u.a u.n u.c] from b)
       have PB := hid (PB.out.grown g (fun e => by have := Option.some.inj e; omega))
       have WB := hid (WB.out.grown g (fun e => by have := Option.some.inj e; omega))
       have AB := hid (AB.out.grown g (fun e => by have := Option.some.inj e; omega))
       have HB := hid (HB.out.trans (grown_below g (by omega) (by omega)))
       clear kPB0 kPB1 kPB2 kPB3 kWB0 kWB1 kWB2 kAB2 kAB3
       have kPB0 : v10.cell? ⟨w.heap.size, 0, none⟩ = some (.int .i64 d) := (BoxAt.cell PB.out 0).trans rfl
       have kPB1 : v10.cell? ⟨w.heap.size, 1, none⟩ = some (.bool k) := (BoxAt.cell PB.out 1).trans rfl
       have kPB2 : v10.cell? ⟨w.heap.size, 2, none⟩ = some (.slice xa N xc) := (BoxAt.cell PB.out 2).trans rfl
       have kPB3 : v10.cell? ⟨w.heap.size, 3, none⟩ = some (.slice sa M sc) := (BoxAt.cell PB.out 3).trans rfl
       have kWB0 : v10.cell? ⟨v1.heap.size, 0, none⟩ = some (.int .i64 p) := (BoxAt.cell WB.out 0).trans rfl
       have kWB1 : v10.cell? ⟨v1.heap.size, 1, none⟩ = some (.int .i64 r) := (BoxAt.cell WB.out 1).trans rfl
       have kWB2 : v10.cell? ⟨v1.heap.size, 2, none⟩ = some (.int .i64 v) := (BoxAt.cell WB.out 2).trans rfl
       have kAB2 : v10.cell? ⟨v4.heap.size, 2, none⟩ = some (.slice qv8.a qv8.n qv8.c) := (BoxAt.cell AB.out 2).trans rfl
       have kAB3 : v10.cell? ⟨v4.heap.size, 3, none⟩ = some (.slice u.a u.n u.c) := (BoxAt.cell AB.out 3).trans rfl
       clear b g z hfl FL9)
    | fail)
  refine bodyPost_ret (results_box_tmp2 rfl _ _ (v2.heap.size) 25 _ (0, 0) _ rfl RB.out Try.underlying25 rfl Try.infoBf) rfl ?_
  exact ⟨qv8, u, ⟨none, 0, 0⟩, rfl, HC.out, HU.out, OWk.nil _ _, HB.out⟩

set_option maxRecDepth 100000 in
set_option maxHeartbeats 1600000 in
theorem rsend_no0 (d : Int) (k : Bool) {vs s : Sl} {xs : List Int} {l : List Wt} (p r v : Int) {w : World} (hv : Sees w .i64 vs.val xs) (hs : SeesWt w s.val l) (hx : xs.length ≤ 800000) (hl : l.length ≤ 800000) (h0 : xs.length = 0) (h1 : l.length = 0) (hd : ¬ (xs.length : Int) < d) :
    Calls Try.prog 10 #[BfV.val ⟨d, k, vs, s⟩, .agg #[.int .i64 p, .int .i64 r, .int .i64 v], .bool false] w fun e w' => ∃ (x u q : Sl), e = .returned (.tuple #[BfV.val ⟨d, k, x, u⟩, .int .i64 (2), q.val]) ∧ OI w' w.heap.size x.val (xs) ∧ OWt w' w.heap.size u.val (l) ∧ OWk w' w.heap.size q.val ([]) ∧ Below w.heap.size w w' := by
  have HX := hid hv
  have HV := hid hs
  obtain ⟨a1, c1, hv1, hx1, hx2, hxc⟩ := hv.form
  obtain ⟨xa, xn, xc⟩ := vs
  simp only [Sl.val, Value.slice.injEq] at hv1
  obtain ⟨rfl, rfl, rfl⟩ := hv1
  obtain ⟨a2, c2, hs1, hc1, hc2, -⟩ := hs.form
  obtain ⟨sa, sn, sc⟩ := s
  simp only [Sl.val, Value.slice.injEq] at hs1
  obtain ⟨rfl, rfl, rfl⟩ := hs1
  unfold maxLen at hx2 hc2
  simp only [Sl.val] at HX HV
  have HXC := hid hxc
  clear hv hs hxc
  unfold BfV.val
  simp only
  obtain ⟨N, hN⟩ : ∃ N, xs.length = N := ⟨_, rfl⟩
  obtain ⟨M, hM⟩ : ∃ M, l.length = M := ⟨_, rfl⟩
  have HN := hid hN
  have HM := hid hM
  have HXL := hid hx
  have HL := hid hl
  rw [hN] at hx hx1 HX HXC ⊢
  rw [hM] at hl hc1 HV ⊢
  have H0 := hid h0
  have H1 := hid h1
  have t0 : ((N : Int) == 0) = true := by rw [← hN, h0]; rfl
  have tz : ¬ (0 : Int) < (N : Int) := by rw [← hN, h0]; decide
  have tm : ¬ (0 : Int) < (M : Int) := by omega
  rw [hN] at hd
  clear hN hM h0 h1
  have HB := hid (Below.refl w.heap.size w)
  go_enter Try.func10, Try.ntmps10
  have FL1 := hid trivial
  have FL2 := hid trivial
  have FL3 := hid trivial
  go_wp2_with (first
    | (have hfl := FL1.out
       refine wpList_box rfl 25 (.tmp 0) rfl #[.int .i64 d, .bool k, .slice xa N xc, .slice sa M sc] rfl ?_
       intro v1 b h z
       have PB := hid (show BoxAt v1 w.heap.size 25 #[.int .i64 d, .bool k, .slice xa N xc, .slice sa M sc] from b)
       have HB := hid (HB.out.trans (h.mono HB.out.size))
       have hsv1 : w.heap.size + 1 ≤ v1.heap.size := by first | exact h.size | omega
       clear b h z hfl FL1)
    | (have hfl := FL2.out
       refine wpList_box rfl 27 (.tmp 1) rfl #[.int .i64 p, .int .i64 r, .int .i64 v] rfl ?_
       intro v2 b h z
       have WB := hid (show BoxAt v2 v1.heap.size 27 #[.int .i64 p, .int .i64 r, .int .i64 v] from b)
       have PB := hid (PB.out.belowAll h)
       have HB := hid (HB.out.trans (h.mono HB.out.size))
       have hsv2 : v1.heap.size + 1 ≤ v2.heap.size := by first | exact h.size | omega
       have kPB0 : v2.cell? ⟨w.heap.size, 0, none⟩ = some (.int .i64 d) := (BoxAt.cell PB.out 0).trans rfl
       have kPB1 : v2.cell? ⟨w.heap.size, 1, none⟩ = some (.bool k) := (BoxAt.cell PB.out 1).trans rfl
       have kPB2 : v2.cell? ⟨w.heap.size, 2, none⟩ = some (.slice xa N xc) := (BoxAt.cell PB.out 2).trans rfl
       have kPB3 : v2.cell? ⟨w.heap.size, 3, none⟩ = some (.slice sa M sc) := (BoxAt.cell PB.out 3).trans rfl
       clear b h z hfl FL2)
    | (have hfl := FL3.out
       refine wpList_new rfl 25 rfl _ Try.zeroBf ?_
       intro v3 b h z
       have RB := hid (show BoxAt v3 v2.heap.size 25 #[.int .i64 0, .bool false, .slice none 0 0, .slice none 0 0] from b)
       have PB := hid (PB.out.belowAll h)
       have WB := hid (WB.out.belowAll h)
       have HB := hid (HB.out.trans (h.mono HB.out.size))
       have hsv3 : v2.heap.size + 1 ≤ v3.heap.size := by first | exact h.size | omega
       clear kPB0 kPB1 kPB2 kPB3
       have kPB0 : v3.cell? ⟨w.heap.size, 0, none⟩ = some (.int .i64 d) := (BoxAt.cell PB.out 0).trans rfl
       have kPB1 : v3.cell? ⟨w.heap.size, 1, none⟩ = some (.bool k) := (BoxAt.cell PB.out 1).trans rfl
       have kPB2 : v3.cell? ⟨w.heap.size, 2, none⟩ = some (.slice xa N xc) := (BoxAt.cell PB.out 2).trans rfl
       have kPB3 : v3.cell? ⟨w.heap.size, 3, none⟩ = some (.slice sa M sc) := (BoxAt.cell PB.out 3).trans rfl
       have kWB0 : v3.cell? ⟨v1.heap.size, 0, none⟩ = some (.int .i64 p) := (BoxAt.cell WB.out 0).trans rfl
       have kWB1 : v3.cell? ⟨v1.heap.size, 1, none⟩ = some (.int .i64 r) := (BoxAt.cell WB.out 1).trans rfl
       have kWB2 : v3.cell? ⟨v1.heap.size, 2, none⟩ = some (.int .i64 v) := (BoxAt.cell WB.out 2).trans rfl
       clear b h z hfl FL3
       refine Hid.out ?_)
    | fail)
  refine hid ?_
  clear kPB0 kPB1 kPB2 kPB3 kWB0 kWB1 kWB2
  have kPB0 : v3.cell? ⟨w.heap.size, 0, none⟩ = some (.int .i64 d) := (BoxAt.cell PB.out 0).trans rfl
  have kPB1 : v3.cell? ⟨w.heap.size, 1, none⟩ = some (.bool k) := (BoxAt.cell PB.out 1).trans rfl
  have kPB2 : v3.cell? ⟨w.heap.size, 2, none⟩ = some (.slice xa N xc) := (BoxAt.cell PB.out 2).trans rfl
  have kPB3 : v3.cell? ⟨w.heap.size, 3, none⟩ = some (.slice sa M sc) := (BoxAt.cell PB.out 3).trans rfl
  have kWB0 : v3.cell? ⟨v1.heap.size, 0, none⟩ = some (.int .i64 p) := (BoxAt.cell WB.out 0).trans rfl
  have kWB1 : v3.cell? ⟨v1.heap.size, 1, none⟩ = some (.int .i64 r) := (BoxAt.cell WB.out 1).trans rfl
  have kWB2 : v3.cell? ⟨v1.heap.size, 2, none⟩ = some (.int .i64 v) := (BoxAt.cell WB.out 2).trans rfl
  go_wp2_with (first
    | (refine wpList_load_box rfl 25 _ rfl (w.heap.size) rfl _ _ PB.out _ Try.underlying25 Try.infoBf ?_)
    | fail)
  have HBw := HB.out.size
  refine (rbown_any d k (vs := ⟨xa, N, xc⟩) (s := ⟨sa, M, sc⟩) (HX.out.below HB.out) (HV.out.below HB.out) HXL.out HL.out).mono ?_
  rintro e v4 ⟨x, u, rfl, hc, hu, hb⟩
  have PB := hid (PB.out.belowAll hb)
  have WB := hid (WB.out.belowAll hb)
  have RB := hid (RB.out.belowAll hb)
  have HB := hid (HB.out.trans (hb.mono HB.out.size))
  have hsv4 : v3.heap.size ≤ v4.heap.size := by first | exact hb.size | omega
  have HC := hid (hc.mono HBw)
  have HU := hid (hu.mono HBw)
  clear hc hu HBw
  simp only [Sl.val] at HC HU
  clear kPB0 kPB1 kPB2 kPB3 kWB0 kWB1 kWB2
  have kPB0 : v4.cell? ⟨w.heap.size, 0, none⟩ = some (.int .i64 d) := (BoxAt.cell PB.out 0).trans rfl
  have kPB1 : v4.cell? ⟨w.heap.size, 1, none⟩ = some (.bool k) := (BoxAt.cell PB.out 1).trans rfl
  have kPB2 : v4.cell? ⟨w.heap.size, 2, none⟩ = some (.slice xa N xc) := (BoxAt.cell PB.out 2).trans rfl
  have kPB3 : v4.cell? ⟨w.heap.size, 3, none⟩ = some (.slice sa M sc) := (BoxAt.cell PB.out 3).trans rfl
  have kWB0 : v4.cell? ⟨v1.heap.size, 0, none⟩ = some (.int .i64 p) := (BoxAt.cell WB.out 0).trans rfl
  have kWB1 : v4.cell? ⟨v1.heap.size, 1, none⟩ = some (.int .i64 r) := (BoxAt.cell WB.out 1).trans rfl
  have kWB2 : v4.cell? ⟨v1.heap.size, 2, none⟩ = some (.int .i64 v) := (BoxAt.cell WB.out 2).trans rfl
  clear hb
  have FL4 := hid trivial
  have FL5 := hid trivial
  go_wp2_with (first
    | (have hfl := FL4.out
       refine wpList_new rfl 25 rfl _ Try.zeroBf ?_
       intro v5 b h z
       have AB := hid (show BoxAt v5 v4.heap.size 25 #[.int .i64 0, .bool false, .slice none 0 0, .slice none 0 0] from b)
       have PB := hid (PB.out.belowAll h)
       have WB := hid (WB.out.belowAll h)
       have RB := hid (RB.out.belowAll h)
       have HC := hid (HC.out.below h)
       have HU := hid (HU.out.below h)
       have HB := hid (HB.out.trans (h.mono HB.out.size))
       have hsv5 : v4.heap.size + 1 ≤ v5.heap.size := by first | exact h.size | omega
       clear kPB0 kPB1 kPB2 kPB3 kWB0 kWB1 kWB2
       have kPB0 : v5.cell? ⟨w.heap.size, 0, none⟩ = some (.int .i64 d) := (BoxAt.cell PB.out 0).trans rfl
       have kPB1 : v5.cell? ⟨w.heap.size, 1, none⟩ = some (.bool k) := (BoxAt.cell PB.out 1).trans rfl
       have kPB2 : v5.cell? ⟨w.heap.size, 2, none⟩ = some (.slice xa N xc) := (BoxAt.cell PB.out 2).trans rfl
       have kPB3 : v5.cell? ⟨w.heap.size, 3, none⟩ = some (.slice sa M sc) := (BoxAt.cell PB.out 3).trans rfl
       have kWB0 : v5.cell? ⟨v1.heap.size, 0, none⟩ = some (.int .i64 p) := (BoxAt.cell WB.out 0).trans rfl
       have kWB1 : v5.cell? ⟨v1.heap.size, 1, none⟩ = some (.int .i64 r) := (BoxAt.cell WB.out 1).trans rfl
       have kWB2 : v5.cell? ⟨v1.heap.size, 2, none⟩ = some (.int .i64 v) := (BoxAt.cell WB.out 2).trans rfl
       clear b h z hfl FL4)
    | (have hfl := FL5.out
       refine wpList_store_whole rfl 25 _ _ rfl rfl (v4.heap.size) rfl [.int .i64 d, .bool k, .slice x.a x.n x.c, .slice u.a u.n u.c] rfl _ _ AB.out rfl Try.infoBf (by simp [Value.oneCell']) ?_
       intro v6 b g z
       have hsv6 : v5.heap.size ≤ v6.heap.size := by omega
       have HC := hid (HC.out.put g AB.out (by decide))
       have HU := hid (HU.out.put g AB.out (by decide))
       have AB := hid (show BoxAt v6 (v4.heap.size) 25 #[.int .i64 d, .bool k, .slice x.a x.n x.c, .slice u.a u.n u.c] from b)
       have PB := hid (PB.out.grown g (fun e => by have := Option.some.inj e; omega))
       have WB := hid (WB.out.grown g (fun e => by have := Option.some.inj e; omega))
       have RB := hid (RB.out.grown g (fun e => by have := Option.some.inj e; omega))
       have HB := hid (HB.out.trans (grown_below g (by omega) (by omega)))
       clear kPB0 kPB1 kPB2 kPB3 kWB0 kWB1 kWB2
       have kPB0 : v6.cell? ⟨w.heap.size, 0, none⟩ = some (.int .i64 d) := (BoxAt.cell PB.out 0).trans rfl
       have kPB1 : v6.cell? ⟨w.heap.size, 1, none⟩ = some (.bool k) := (BoxAt.cell PB.out 1).trans rfl
       have kPB2 : v6.cell? ⟨w.heap.size, 2, none⟩ = some (.slice xa N xc) := (BoxAt.cell PB.out 2).trans rfl
       have kPB3 : v6.cell? ⟨w.heap.size, 3, none⟩ = some (.slice sa M sc) := (BoxAt.cell PB.out 3).trans rfl
       have kWB0 : v6.cell? ⟨v1.heap.size, 0, none⟩ = some (.int .i64 p) := (BoxAt.cell WB.out 0).trans rfl
       have kWB1 : v6.cell? ⟨v1.heap.size, 1, none⟩ = some (.int .i64 r) := (BoxAt.cell WB.out 1).trans rfl
       have kWB2 : v6.cell? ⟨v1.heap.size, 2, none⟩ = some (.int .i64 v) := (BoxAt.cell WB.out 2).trans rfl
       have kAB2 : v6.cell? ⟨v4.heap.size, 2, none⟩ = some (.slice x.a x.n x.c) := (BoxAt.cell AB.out 2).trans rfl
       have kAB3 : v6.cell? ⟨v4.heap.size, 3, none⟩ = some (.slice u.a u.n u.c) := (BoxAt.cell AB.out 3).trans rfl
       clear b g z hfl FL5
       refine Hid.out ?_)
    | fail)
  refine hid ?_
  clear kPB0 kPB1 kPB2 kPB3 kWB0 kWB1 kWB2 kAB2 kAB3
  have kPB0 : v6.cell? ⟨w.heap.size, 0, none⟩ = some (.int .i64 d) := (BoxAt.cell PB.out 0).trans rfl
  have kPB1 : v6.cell? ⟨w.heap.size, 1, none⟩ = some (.bool k) := (BoxAt.cell PB.out 1).trans rfl
  have kPB2 : v6.cell? ⟨w.heap.size, 2, none⟩ = some (.slice xa N xc) := (BoxAt.cell PB.out 2).trans rfl
  have kPB3 : v6.cell? ⟨w.heap.size, 3, none⟩ = some (.slice sa M sc) := (BoxAt.cell PB.out 3).trans rfl
  have kWB0 : v6.cell? ⟨v1.heap.size, 0, none⟩ = some (.int .i64 p) := (BoxAt.cell WB.out 0).trans rfl
  have kWB1 : v6.cell? ⟨v1.heap.size, 1, none⟩ = some (.int .i64 r) := (BoxAt.cell WB.out 1).trans rfl
  have kWB2 : v6.cell? ⟨v1.heap.size, 2, none⟩ = some (.int .i64 v) := (BoxAt.cell WB.out 2).trans rfl
  have kAB2 : v6.cell? ⟨v4.heap.size, 2, none⟩ = some (.slice x.a x.n x.c) := (BoxAt.cell AB.out 2).trans rfl
  have kAB3 : v6.cell? ⟨v4.heap.size, 3, none⟩ = some (.slice u.a u.n u.c) := (BoxAt.cell AB.out 3).trans rfl
  have FL6 := hid trivial
  go_wp2_with (first
    | (refine wpList_load_box rfl 25 _ rfl (v4.heap.size) rfl _ _ AB.out _ Try.underlying25 Try.infoBf ?_)
    | (have hfl := FL6.out
       refine wpList_store_whole rfl 25 _ _ rfl rfl (v2.heap.size) rfl [.int .i64 d, .bool k, .slice x.a x.n x.c, .slice u.a u.n u.c] rfl _ _ RB.out rfl Try.infoBf (by simp [Value.oneCell']) ?_
       intro v7 b g z
       have hsv7 : v6.heap.size ≤ v7.heap.size := by omega
       have HC := hid (HC.out.put g RB.out (by decide))
       have HU := hid (HU.out.put g RB.out (by decide))
       have RB := hid (show BoxAt v7 (v2.heap.size) 25 #[.int .i64 d, .bool k, .slice x.a x.n x.c, .slice u.a u.n u.c] from b)
       have PB := hid (PB.out.grown g (fun e => by have := Option.some.inj e; omega))
       have WB := hid (WB.out.grown g (fun e => by have := Option.some.inj e; omega))
       have AB := hid (AB.out.grown g (fun e => by have := Option.some.inj e; omega))
       have HB := hid (HB.out.trans (grown_below g (by omega) (by omega)))
       clear kPB0 kPB1 kPB2 kPB3 kWB0 kWB1 kWB2 kAB2 kAB3
       have kPB0 : v7.cell? ⟨w.heap.size, 0, none⟩ = some (.int .i64 d) := (BoxAt.cell PB.out 0).trans rfl
       have kPB1 : v7.cell? ⟨w.heap.size, 1, none⟩ = some (.bool k) := (BoxAt.cell PB.out 1).trans rfl
       have kPB2 : v7.cell? ⟨w.heap.size, 2, none⟩ = some (.slice xa N xc) := (BoxAt.cell PB.out 2).trans rfl
       have kPB3 : v7.cell? ⟨w.heap.size, 3, none⟩ = some (.slice sa M sc) := (BoxAt.cell PB.out 3).trans rfl
       have kWB0 : v7.cell? ⟨v1.heap.size, 0, none⟩ = some (.int .i64 p) := (BoxAt.cell WB.out 0).trans rfl
       have kWB1 : v7.cell? ⟨v1.heap.size, 1, none⟩ = some (.int .i64 r) := (BoxAt.cell WB.out 1).trans rfl
       have kWB2 : v7.cell? ⟨v1.heap.size, 2, none⟩ = some (.int .i64 v) := (BoxAt.cell WB.out 2).trans rfl
       have kAB2 : v7.cell? ⟨v4.heap.size, 2, none⟩ = some (.slice x.a x.n x.c) := (BoxAt.cell AB.out 2).trans rfl
       have kAB3 : v7.cell? ⟨v4.heap.size, 3, none⟩ = some (.slice u.a u.n u.c) := (BoxAt.cell AB.out 3).trans rfl
       clear b g z hfl FL6)
    | fail)
  refine bodyPost_ret (results_box_tmp2 rfl _ _ (v2.heap.size) 25 _ (0, 0) _ rfl RB.out Try.underlying25 rfl Try.infoBf) rfl ?_
  exact ⟨x, u, ⟨none, 0, 0⟩, rfl, HC.out, HU.out, OWk.nil _ _, HB.out⟩

set_option maxRecDepth 100000 in
set_option maxHeartbeats 1600000 in
theorem rsend_yes0 (d : Int) (k : Bool) {vs s : Sl} {xs : List Int} {l : List Wt} (p r v : Int) {w : World} (hv : Sees w .i64 vs.val xs) (hs : SeesWt w s.val l) (hx : xs.length ≤ 800000) (hl : l.length ≤ 800000) (h0 : xs.length = 0) (h1 : l.length = 0) (hd : ¬ (xs.length : Int) < d) :
    Calls Try.prog 10 #[BfV.val ⟨d, k, vs, s⟩, .agg #[.int .i64 p, .int .i64 r, .int .i64 v], .bool true] w fun e w' => ∃ (x u q : Sl), e = .returned (.tuple #[BfV.val ⟨d, k, x, u⟩, .int .i64 (6), q.val]) ∧ OI w' w.heap.size x.val (xs) ∧ OWt w' w.heap.size u.val (addP l ⟨p, r, v⟩ k) ∧ OWk w' w.heap.size q.val ([]) ∧ Below w.heap.size w w' := by
  have HX := hid hv
  have HV := hid hs
  obtain ⟨a1, c1, hv1, hx1, hx2, hxc⟩ := hv.form
  obtain ⟨xa, xn, xc⟩ := vs
  simp only [Sl.val, Value.slice.injEq] at hv1
  obtain ⟨rfl, rfl, rfl⟩ := hv1
  obtain ⟨a2, c2, hs1, hc1, hc2, -⟩ := hs.form
  obtain ⟨sa, sn, sc⟩ := s
  simp only [Sl.val, Value.slice.injEq] at hs1
  obtain ⟨rfl, rfl, rfl⟩ := hs1
  unfold maxLen at hx2 hc2
  simp only [Sl.val] at HX HV
  have HXC := hid hxc
  clear hv hs hxc
  unfold BfV.val
  simp only
  obtain ⟨N, hN⟩ : ∃ N, xs.length = N := ⟨_, rfl⟩
  obtain ⟨M, hM⟩ : ∃ M, l.length = M := ⟨_, rfl⟩
  have HN := hid hN
  have HM := hid hM
  have HXL := hid hx
  have HL := hid hl
  rw [hN] at hx hx1 HX HXC ⊢
  rw [hM] at hl hc1 HV ⊢
  have H0 := hid h0
  have H1 := hid h1
  have t0 : ((N : Int) == 0) = true := by rw [← hN, h0]; rfl
  have tz : ¬ (0 : Int) < (N : Int) := by rw [← hN, h0]; decide
  have tm : ¬ (0 : Int) < (M : Int) := by omega
  rw [hN] at hd
  clear hN hM h0 h1
  have HB := hid (Below.refl w.heap.size w)
  go_enter Try.func10, Try.ntmps10
  have FL1 := hid trivial
  have FL2 := hid trivial
  have FL3 := hid trivial
  go_wp2_with (first
    | (have hfl := FL1.out
       refine wpList_box rfl 25 (.tmp 0) rfl #[.int .i64 d, .bool k, .slice xa N xc, .slice sa M sc] rfl ?_
       intro v1 b h z
       have PB := hid (show BoxAt v1 w.heap.size 25 #[.int .i64 d, .bool k, .slice xa N xc, .slice sa M sc] from b)
       have HB := hid (HB.out.trans (h.mono HB.out.size))
       have hsv1 : w.heap.size + 1 ≤ v1.heap.size := by first | exact h.size | omega
       clear b h z hfl FL1)
    | (have hfl := FL2.out
       refine wpList_box rfl 27 (.tmp 1) rfl #[.int .i64 p, .int .i64 r, .int .i64 v] rfl ?_
       intro v2 b h z
       have WB := hid (show BoxAt v2 v1.heap.size 27 #[.int .i64 p, .int .i64 r, .int .i64 v] from b)
       have PB := hid (PB.out.belowAll h)
       have HB := hid (HB.out.trans (h.mono HB.out.size))
       have hsv2 : v1.heap.size + 1 ≤ v2.heap.size := by first | exact h.size | omega
       have kPB0 : v2.cell? ⟨w.heap.size, 0, none⟩ = some (.int .i64 d) := (BoxAt.cell PB.out 0).trans rfl
       have kPB1 : v2.cell? ⟨w.heap.size, 1, none⟩ = some (.bool k) := (BoxAt.cell PB.out 1).trans rfl
       have kPB2 : v2.cell? ⟨w.heap.size, 2, none⟩ = some (.slice xa N xc) := (BoxAt.cell PB.out 2).trans rfl
       have kPB3 : v2.cell? ⟨w.heap.size, 3, none⟩ = some (.slice sa M sc) := (BoxAt.cell PB.out 3).trans rfl
       clear b h z hfl FL2)
    | (have hfl := FL3.out
       refine wpList_new rfl 25 rfl _ Try.zeroBf ?_
       intro v3 b h z
       have RB := hid (show BoxAt v3 v2.heap.size 25 #[.int .i64 0, .bool false, .slice none 0 0, .slice none 0 0] from b)
       have PB := hid (PB.out.belowAll h)
       have WB := hid (WB.out.belowAll h)
       have HB := hid (HB.out.trans (h.mono HB.out.size))
       have hsv3 : v2.heap.size + 1 ≤ v3.heap.size := by first | exact h.size | omega
       clear kPB0 kPB1 kPB2 kPB3
       have kPB0 : v3.cell? ⟨w.heap.size, 0, none⟩ = some (.int .i64 d) := (BoxAt.cell PB.out 0).trans rfl
       have kPB1 : v3.cell? ⟨w.heap.size, 1, none⟩ = some (.bool k) := (BoxAt.cell PB.out 1).trans rfl
       have kPB2 : v3.cell? ⟨w.heap.size, 2, none⟩ = some (.slice xa N xc) := (BoxAt.cell PB.out 2).trans rfl
       have kPB3 : v3.cell? ⟨w.heap.size, 3, none⟩ = some (.slice sa M sc) := (BoxAt.cell PB.out 3).trans rfl
       have kWB0 : v3.cell? ⟨v1.heap.size, 0, none⟩ = some (.int .i64 p) := (BoxAt.cell WB.out 0).trans rfl
       have kWB1 : v3.cell? ⟨v1.heap.size, 1, none⟩ = some (.int .i64 r) := (BoxAt.cell WB.out 1).trans rfl
       have kWB2 : v3.cell? ⟨v1.heap.size, 2, none⟩ = some (.int .i64 v) := (BoxAt.cell WB.out 2).trans rfl
       clear b h z hfl FL3
       refine Hid.out ?_)
    | fail)
  refine hid ?_
  clear kPB0 kPB1 kPB2 kPB3 kWB0 kWB1 kWB2
  have kPB0 : v3.cell? ⟨w.heap.size, 0, none⟩ = some (.int .i64 d) := (BoxAt.cell PB.out 0).trans rfl
  have kPB1 : v3.cell? ⟨w.heap.size, 1, none⟩ = some (.bool k) := (BoxAt.cell PB.out 1).trans rfl
  have kPB2 : v3.cell? ⟨w.heap.size, 2, none⟩ = some (.slice xa N xc) := (BoxAt.cell PB.out 2).trans rfl
  have kPB3 : v3.cell? ⟨w.heap.size, 3, none⟩ = some (.slice sa M sc) := (BoxAt.cell PB.out 3).trans rfl
  have kWB0 : v3.cell? ⟨v1.heap.size, 0, none⟩ = some (.int .i64 p) := (BoxAt.cell WB.out 0).trans rfl
  have kWB1 : v3.cell? ⟨v1.heap.size, 1, none⟩ = some (.int .i64 r) := (BoxAt.cell WB.out 1).trans rfl
  have kWB2 : v3.cell? ⟨v1.heap.size, 2, none⟩ = some (.int .i64 v) := (BoxAt.cell WB.out 2).trans rfl
  go_wp2_with (first
    | (refine wpList_load_box rfl 25 _ rfl (w.heap.size) rfl _ _ PB.out _ Try.underlying25 Try.infoBf ?_)
    | fail)
  have HBw := HB.out.size
  refine (rbown_any d k (vs := ⟨xa, N, xc⟩) (s := ⟨sa, M, sc⟩) (HX.out.below HB.out) (HV.out.below HB.out) HXL.out HL.out).mono ?_
  rintro e v4 ⟨x, u, rfl, hc, hu, hb⟩
  have PB := hid (PB.out.belowAll hb)
  have WB := hid (WB.out.belowAll hb)
  have RB := hid (RB.out.belowAll hb)
  have HB := hid (HB.out.trans (hb.mono HB.out.size))
  have hsv4 : v3.heap.size ≤ v4.heap.size := by first | exact hb.size | omega
  have HC := hid (hc.mono HBw)
  have HU := hid (hu.mono HBw)
  clear hc hu HBw
  simp only [Sl.val] at HC HU
  clear kPB0 kPB1 kPB2 kPB3 kWB0 kWB1 kWB2
  have kPB0 : v4.cell? ⟨w.heap.size, 0, none⟩ = some (.int .i64 d) := (BoxAt.cell PB.out 0).trans rfl
  have kPB1 : v4.cell? ⟨w.heap.size, 1, none⟩ = some (.bool k) := (BoxAt.cell PB.out 1).trans rfl
  have kPB2 : v4.cell? ⟨w.heap.size, 2, none⟩ = some (.slice xa N xc) := (BoxAt.cell PB.out 2).trans rfl
  have kPB3 : v4.cell? ⟨w.heap.size, 3, none⟩ = some (.slice sa M sc) := (BoxAt.cell PB.out 3).trans rfl
  have kWB0 : v4.cell? ⟨v1.heap.size, 0, none⟩ = some (.int .i64 p) := (BoxAt.cell WB.out 0).trans rfl
  have kWB1 : v4.cell? ⟨v1.heap.size, 1, none⟩ = some (.int .i64 r) := (BoxAt.cell WB.out 1).trans rfl
  have kWB2 : v4.cell? ⟨v1.heap.size, 2, none⟩ = some (.int .i64 v) := (BoxAt.cell WB.out 2).trans rfl
  clear hb
  have FL4 := hid trivial
  have FL5 := hid trivial
  go_wp2_with (first
    | (have hfl := FL4.out
       refine wpList_new rfl 25 rfl _ Try.zeroBf ?_
       intro v5 b h z
       have AB := hid (show BoxAt v5 v4.heap.size 25 #[.int .i64 0, .bool false, .slice none 0 0, .slice none 0 0] from b)
       have PB := hid (PB.out.belowAll h)
       have WB := hid (WB.out.belowAll h)
       have RB := hid (RB.out.belowAll h)
       have HC := hid (HC.out.below h)
       have HU := hid (HU.out.below h)
       have HB := hid (HB.out.trans (h.mono HB.out.size))
       have hsv5 : v4.heap.size + 1 ≤ v5.heap.size := by first | exact h.size | omega
       clear kPB0 kPB1 kPB2 kPB3 kWB0 kWB1 kWB2
       have kPB0 : v5.cell? ⟨w.heap.size, 0, none⟩ = some (.int .i64 d) := (BoxAt.cell PB.out 0).trans rfl
       have kPB1 : v5.cell? ⟨w.heap.size, 1, none⟩ = some (.bool k) := (BoxAt.cell PB.out 1).trans rfl
       have kPB2 : v5.cell? ⟨w.heap.size, 2, none⟩ = some (.slice xa N xc) := (BoxAt.cell PB.out 2).trans rfl
       have kPB3 : v5.cell? ⟨w.heap.size, 3, none⟩ = some (.slice sa M sc) := (BoxAt.cell PB.out 3).trans rfl
       have kWB0 : v5.cell? ⟨v1.heap.size, 0, none⟩ = some (.int .i64 p) := (BoxAt.cell WB.out 0).trans rfl
       have kWB1 : v5.cell? ⟨v1.heap.size, 1, none⟩ = some (.int .i64 r) := (BoxAt.cell WB.out 1).trans rfl
       have kWB2 : v5.cell? ⟨v1.heap.size, 2, none⟩ = some (.int .i64 v) := (BoxAt.cell WB.out 2).trans rfl
       clear b h z hfl FL4)
    | (have hfl := FL5.out
       refine wpList_store_whole rfl 25 _ _ rfl rfl (v4.heap.size) rfl [.int .i64 d, .bool k, .slice x.a x.n x.c, .slice u.a u.n u.c] rfl _ _ AB.out rfl Try.infoBf (by simp [Value.oneCell']) ?_
       intro v6 b g z
       have hsv6 : v5.heap.size ≤ v6.heap.size := by omega
       have HC := hid (HC.out.put g AB.out (by decide))
       have HU := hid (HU.out.put g AB.out (by decide))
       have AB := hid (show BoxAt v6 (v4.heap.size) 25 #[.int .i64 d, .bool k, .slice x.a x.n x.c, .slice u.a u.n u.c] from b)
       have PB := hid (PB.out.grown g (fun e => by have := Option.some.inj e; omega))
       have WB := hid (WB.out.grown g (fun e => by have := Option.some.inj e; omega))
       have RB := hid (RB.out.grown g (fun e => by have := Option.some.inj e; omega))
       have HB := hid (HB.out.trans (grown_below g (by omega) (by omega)))
       clear kPB0 kPB1 kPB2 kPB3 kWB0 kWB1 kWB2
       have kPB0 : v6.cell? ⟨w.heap.size, 0, none⟩ = some (.int .i64 d) := (BoxAt.cell PB.out 0).trans rfl
       have kPB1 : v6.cell? ⟨w.heap.size, 1, none⟩ = some (.bool k) := (BoxAt.cell PB.out 1).trans rfl
       have kPB2 : v6.cell? ⟨w.heap.size, 2, none⟩ = some (.slice xa N xc) := (BoxAt.cell PB.out 2).trans rfl
       have kPB3 : v6.cell? ⟨w.heap.size, 3, none⟩ = some (.slice sa M sc) := (BoxAt.cell PB.out 3).trans rfl
       have kWB0 : v6.cell? ⟨v1.heap.size, 0, none⟩ = some (.int .i64 p) := (BoxAt.cell WB.out 0).trans rfl
       have kWB1 : v6.cell? ⟨v1.heap.size, 1, none⟩ = some (.int .i64 r) := (BoxAt.cell WB.out 1).trans rfl
       have kWB2 : v6.cell? ⟨v1.heap.size, 2, none⟩ = some (.int .i64 v) := (BoxAt.cell WB.out 2).trans rfl
       have kAB2 : v6.cell? ⟨v4.heap.size, 2, none⟩ = some (.slice x.a x.n x.c) := (BoxAt.cell AB.out 2).trans rfl
       have kAB3 : v6.cell? ⟨v4.heap.size, 3, none⟩ = some (.slice u.a u.n u.c) := (BoxAt.cell AB.out 3).trans rfl
       clear b g z hfl FL5
       refine Hid.out ?_)
    | fail)
  refine hid ?_
  clear kPB0 kPB1 kPB2 kPB3 kWB0 kWB1 kWB2 kAB2 kAB3
  have kPB0 : v6.cell? ⟨w.heap.size, 0, none⟩ = some (.int .i64 d) := (BoxAt.cell PB.out 0).trans rfl
  have kPB1 : v6.cell? ⟨w.heap.size, 1, none⟩ = some (.bool k) := (BoxAt.cell PB.out 1).trans rfl
  have kPB2 : v6.cell? ⟨w.heap.size, 2, none⟩ = some (.slice xa N xc) := (BoxAt.cell PB.out 2).trans rfl
  have kPB3 : v6.cell? ⟨w.heap.size, 3, none⟩ = some (.slice sa M sc) := (BoxAt.cell PB.out 3).trans rfl
  have kWB0 : v6.cell? ⟨v1.heap.size, 0, none⟩ = some (.int .i64 p) := (BoxAt.cell WB.out 0).trans rfl
  have kWB1 : v6.cell? ⟨v1.heap.size, 1, none⟩ = some (.int .i64 r) := (BoxAt.cell WB.out 1).trans rfl
  have kWB2 : v6.cell? ⟨v1.heap.size, 2, none⟩ = some (.int .i64 v) := (BoxAt.cell WB.out 2).trans rfl
  have kAB2 : v6.cell? ⟨v4.heap.size, 2, none⟩ = some (.slice x.a x.n x.c) := (BoxAt.cell AB.out 2).trans rfl
  have kAB3 : v6.cell? ⟨v4.heap.size, 3, none⟩ = some (.slice u.a u.n u.c) := (BoxAt.cell AB.out 3).trans rfl
  go_wp2_with (first
    | (refine wpList_load_box rfl 27 _ rfl (v1.heap.size) rfl _ _ WB.out _ Try.underlying27 Try.infoWt ?_)
    | fail)
  clear HU
  have HBsy := HB.out.size
  refine (radd_any ⟨p, r, v⟩ k (HV.out.below HB.out) (by have := HL.out; omega)).mono ?_
  rintro e v7 ⟨uy, rfl, hu, hb⟩
  have PB := hid (PB.out.belowAll hb)
  have WB := hid (WB.out.belowAll hb)
  have RB := hid (RB.out.belowAll hb)
  have AB := hid (AB.out.belowAll hb)
  have HC := hid (HC.out.below hb)
  have HB := hid (HB.out.trans (hb.mono HB.out.size))
  have hsv7 : v6.heap.size ≤ v7.heap.size := by first | exact hb.size | omega
  obtain ⟨y, rfl, -⟩ := hu.sl
  have HU := hid (hu.mono HBsy)
  clear hu HBsy
  clear kPB0 kPB1 kPB2 kPB3 kWB0 kWB1 kWB2 kAB2 kAB3
  have kPB0 : v7.cell? ⟨w.heap.size, 0, none⟩ = some (.int .i64 d) := (BoxAt.cell PB.out 0).trans rfl
  have kPB1 : v7.cell? ⟨w.heap.size, 1, none⟩ = some (.bool k) := (BoxAt.cell PB.out 1).trans rfl
  have kPB2 : v7.cell? ⟨w.heap.size, 2, none⟩ = some (.slice xa N xc) := (BoxAt.cell PB.out 2).trans rfl
  have kPB3 : v7.cell? ⟨w.heap.size, 3, none⟩ = some (.slice sa M sc) := (BoxAt.cell PB.out 3).trans rfl
  have kWB0 : v7.cell? ⟨v1.heap.size, 0, none⟩ = some (.int .i64 p) := (BoxAt.cell WB.out 0).trans rfl
  have kWB1 : v7.cell? ⟨v1.heap.size, 1, none⟩ = some (.int .i64 r) := (BoxAt.cell WB.out 1).trans rfl
  have kWB2 : v7.cell? ⟨v1.heap.size, 2, none⟩ = some (.int .i64 v) := (BoxAt.cell WB.out 2).trans rfl
  have kAB2 : v7.cell? ⟨v4.heap.size, 2, none⟩ = some (.slice x.a x.n x.c) := (BoxAt.cell AB.out 2).trans rfl
  have kAB3 : v7.cell? ⟨v4.heap.size, 3, none⟩ = some (.slice u.a u.n u.c) := (BoxAt.cell AB.out 3).trans rfl
  clear hb
  have FL6 := hid trivial
  have FL7 := hid trivial
  go_wp2_with (first
    | (have hfl := FL6.out
       refine wpList_store_box rfl 23 _ _ rfl rfl (v4.heap.size) 3 (.slice y.a y.n y.c) rfl rfl rfl rfl (by kernel_rfl) _ _ AB.out (by simp) ?_
       intro v8 b g z
       have hsv8 : v7.heap.size ≤ v8.heap.size := by omega
       have HC := hid (HC.out.put g AB.out (by decide))
       have HU := hid (HU.out.put g AB.out (by decide))
       have AB := hid (show BoxAt v8 (v4.heap.size) 25 #[.int .i64 d, .bool k, .slice x.a x.n x.c, .slice y.a y.n y.c] from by simpa using b)
       have PB := hid (PB.out.grown g (fun e => by have := Option.some.inj e; omega))
       have WB := hid (WB.out.grown g (fun e => by have := Option.some.inj e; omega))
       have RB := hid (RB.out.grown g (fun e => by have := Option.some.inj e; omega))
       have HB := hid (HB.out.trans (grown_below g (by omega) (by omega)))
       clear kPB0 kPB1 kPB2 kPB3 kWB0 kWB1 kWB2 kAB2 kAB3
       have kPB0 : v8.cell? ⟨w.heap.size, 0, none⟩ = some (.int .i64 d) := (BoxAt.cell PB.out 0).trans rfl
       have kPB1 : v8.cell? ⟨w.heap.size, 1, none⟩ = some (.bool k) := (BoxAt.cell PB.out 1).trans rfl
       have kPB2 : v8.cell? ⟨w.heap.size, 2, none⟩ = some (.slice xa N xc) := (BoxAt.cell PB.out 2).trans rfl
       have kPB3 : v8.cell? ⟨w.heap.size, 3, none⟩ = some (.slice sa M sc) := (BoxAt.cell PB.out 3).trans rfl
       have kWB0 : v8.cell? ⟨v1.heap.size, 0, none⟩ = some (.int .i64 p) := (BoxAt.cell WB.out 0).trans rfl
       have kWB1 : v8.cell? ⟨v1.heap.size, 1, none⟩ = some (.int .i64 r) := (BoxAt.cell WB.out 1).trans rfl
       have kWB2 : v8.cell? ⟨v1.heap.size, 2, none⟩ = some (.int .i64 v) := (BoxAt.cell WB.out 2).trans rfl
       have kAB2 : v8.cell? ⟨v4.heap.size, 2, none⟩ = some (.slice x.a x.n x.c) := (BoxAt.cell AB.out 2).trans rfl
       have kAB3 : v8.cell? ⟨v4.heap.size, 3, none⟩ = some (.slice y.a y.n y.c) := (BoxAt.cell AB.out 3).trans rfl
       clear b g z hfl FL6)
    | (refine wpList_load_box rfl 25 _ rfl (v4.heap.size) rfl _ _ AB.out _ Try.underlying25 Try.infoBf ?_)
    | (have hfl := FL7.out
       refine wpList_store_whole rfl 25 _ _ rfl rfl (v2.heap.size) rfl [.int .i64 d, .bool k, .slice x.a x.n x.c, .slice y.a y.n y.c] rfl _ _ RB.out rfl Try.infoBf (by simp [Value.oneCell']) ?_
       intro v9 b g z
       have hsv9 : v8.heap.size ≤ v9.heap.size := by omega
       have HC := hid (HC.out.put g RB.out (by decide))
       have HU := hid (HU.out.put g RB.out (by decide))
       have RB := hid (show BoxAt v9 (v2.heap.size) 25 #[.int .i64 d, .bool k, .slice x.a x.n x.c, .slice y.a y.n y.c] from b)
       have PB := hid (PB.out.grown g (fun e => by have := Option.some.inj e; omega))
       have WB := hid (WB.out.grown g (fun e => by have := Option.some.inj e; omega))
       have AB := hid (AB.out.grown g (fun e => by have := Option.some.inj e; omega))
       have HB := hid (HB.out.trans (grown_below g (by omega) (by omega)))
       clear kPB0 kPB1 kPB2 kPB3 kWB0 kWB1 kWB2 kAB2 kAB3
       have kPB0 : v9.cell? ⟨w.heap.size, 0, none⟩ = some (.int .i64 d) := (BoxAt.cell PB.out 0).trans rfl
       have kPB1 : v9.cell? ⟨w.heap.size, 1, none⟩ = some (.bool k) := (BoxAt.cell PB.out 1).trans rfl
       have kPB2 : v9.cell? ⟨w.heap.size, 2, none⟩ = some (.slice xa N xc) := (BoxAt.cell PB.out 2).trans rfl
       have kPB3 : v9.cell? ⟨w.heap.size, 3, none⟩ = some (.slice sa M sc) := (BoxAt.cell PB.out 3).trans rfl
       have kWB0 : v9.cell? ⟨v1.heap.size, 0, none⟩ = some (.int .i64 p) := (BoxAt.cell WB.out 0).trans rfl
       have kWB1 : v9.cell? ⟨v1.heap.size, 1, none⟩ = some (.int .i64 r) := (BoxAt.cell WB.out 1).trans rfl
       have kWB2 : v9.cell? ⟨v1.heap.size, 2, none⟩ = some (.int .i64 v) := (BoxAt.cell WB.out 2).trans rfl
       have kAB2 : v9.cell? ⟨v4.heap.size, 2, none⟩ = some (.slice x.a x.n x.c) := (BoxAt.cell AB.out 2).trans rfl
       have kAB3 : v9.cell? ⟨v4.heap.size, 3, none⟩ = some (.slice y.a y.n y.c) := (BoxAt.cell AB.out 3).trans rfl
       clear b g z hfl FL7)
    | fail)
  refine bodyPost_ret (results_box_tmp2 rfl _ _ (v2.heap.size) 25 _ (0, 0) _ rfl RB.out Try.underlying25 rfl Try.infoBf) rfl ?_
  exact ⟨x, y, ⟨none, 0, 0⟩, rfl, HC.out, HU.out, OWk.nil _ _, HB.out⟩

set_option maxRecDepth 100000 in
set_option maxHeartbeats 1600000 in
theorem rtake_no (d : Int) (k : Bool) {vs s : Sl} {xs : List Int} {l : List Wt} (p r v : Int) {w : World} (hv : Sees w .i64 vs.val xs) (hs : SeesWt w s.val l) (hx : xs.length ≤ 800000) (hl : l.length ≤ 800000) (h0 : xs.length = 0) :
    Calls Try.prog 14 #[BfV.val ⟨d, k, vs, s⟩, .agg #[.int .i64 p, .int .i64 r, .int .i64 v], .bool false] w fun e w' => ∃ (x u q : Sl), e = .returned (.tuple #[BfV.val ⟨d, k, x, u⟩, .int .i64 (2), .int .i64 (0), q.val]) ∧ OI w' w.heap.size x.val (xs) ∧ OWt w' w.heap.size u.val (l) ∧ OWk w' w.heap.size q.val ([]) ∧ Below w.heap.size w w' := by
  have HX := hid hv
  have HV := hid hs
  obtain ⟨a1, c1, hv1, hx1, hx2, hxc⟩ := hv.form
  obtain ⟨xa, xn, xc⟩ := vs
  simp only [Sl.val, Value.slice.injEq] at hv1
  obtain ⟨rfl, rfl, rfl⟩ := hv1
  obtain ⟨a2, c2, hs1, hc1, hc2, -⟩ := hs.form
  obtain ⟨sa, sn, sc⟩ := s
  simp only [Sl.val, Value.slice.injEq] at hs1
  obtain ⟨rfl, rfl, rfl⟩ := hs1
  unfold maxLen at hx2 hc2
  simp only [Sl.val] at HX HV
  have HXC := hid hxc
  clear hv hs hxc
  unfold BfV.val
  simp only
  obtain ⟨N, hN⟩ : ∃ N, xs.length = N := ⟨_, rfl⟩
  obtain ⟨M, hM⟩ : ∃ M, l.length = M := ⟨_, rfl⟩
  have HN := hid hN
  have HM := hid hM
  have HXL := hid hx
  have HL := hid hl
  rw [hN] at hx hx1 HX HXC ⊢
  rw [hM] at hl hc1 HV ⊢
  have H0 := hid h0
  have t0 : ((N : Int) == 0) = true := by rw [← hN, h0]; rfl
  have tz : ¬ (0 : Int) < (N : Int) := by rw [← hN, h0]; decide
  clear hN hM h0
  have HB := hid (Below.refl w.heap.size w)
  go_enter Try.func14, Try.ntmps14
  have FL1 := hid trivial
  have FL2 := hid trivial
  have FL3 := hid trivial
  go_wp2_with (first
    | (have hfl := FL1.out
       refine wpList_box rfl 25 (.tmp 0) rfl #[.int .i64 d, .bool k, .slice xa N xc, .slice sa M sc] rfl ?_
       intro v1 b h z
       have PB := hid (show BoxAt v1 w.heap.size 25 #[.int .i64 d, .bool k, .slice xa N xc, .slice sa M sc] from b)
       have HB := hid (HB.out.trans (h.mono HB.out.size))
       have hsv1 : w.heap.size + 1 ≤ v1.heap.size := by first | exact h.size | omega
       clear b h z hfl FL1)
    | (have hfl := FL2.out
       refine wpList_box rfl 27 (.tmp 1) rfl #[.int .i64 p, .int .i64 r, .int .i64 v] rfl ?_
       intro v2 b h z
       have WB := hid (show BoxAt v2 v1.heap.size 27 #[.int .i64 p, .int .i64 r, .int .i64 v] from b)
       have PB := hid (PB.out.belowAll h)
       have HB := hid (HB.out.trans (h.mono HB.out.size))
       have hsv2 : v1.heap.size + 1 ≤ v2.heap.size := by first | exact h.size | omega
       have kPB0 : v2.cell? ⟨w.heap.size, 0, none⟩ = some (.int .i64 d) := (BoxAt.cell PB.out 0).trans rfl
       have kPB1 : v2.cell? ⟨w.heap.size, 1, none⟩ = some (.bool k) := (BoxAt.cell PB.out 1).trans rfl
       have kPB2 : v2.cell? ⟨w.heap.size, 2, none⟩ = some (.slice xa N xc) := (BoxAt.cell PB.out 2).trans rfl
       have kPB3 : v2.cell? ⟨w.heap.size, 3, none⟩ = some (.slice sa M sc) := (BoxAt.cell PB.out 3).trans rfl
       clear b h z hfl FL2)
    | (have hfl := FL3.out
       refine wpList_new rfl 25 rfl _ Try.zeroBf ?_
       intro v3 b h z
       have RB := hid (show BoxAt v3 v2.heap.size 25 #[.int .i64 0, .bool false, .slice none 0 0, .slice none 0 0] from b)
       have PB := hid (PB.out.belowAll h)
       have WB := hid (WB.out.belowAll h)
       have HB := hid (HB.out.trans (h.mono HB.out.size))
       have hsv3 : v2.heap.size + 1 ≤ v3.heap.size := by first | exact h.size | omega
       clear kPB0 kPB1 kPB2 kPB3
       have kPB0 : v3.cell? ⟨w.heap.size, 0, none⟩ = some (.int .i64 d) := (BoxAt.cell PB.out 0).trans rfl
       have kPB1 : v3.cell? ⟨w.heap.size, 1, none⟩ = some (.bool k) := (BoxAt.cell PB.out 1).trans rfl
       have kPB2 : v3.cell? ⟨w.heap.size, 2, none⟩ = some (.slice xa N xc) := (BoxAt.cell PB.out 2).trans rfl
       have kPB3 : v3.cell? ⟨w.heap.size, 3, none⟩ = some (.slice sa M sc) := (BoxAt.cell PB.out 3).trans rfl
       have kWB0 : v3.cell? ⟨v1.heap.size, 0, none⟩ = some (.int .i64 p) := (BoxAt.cell WB.out 0).trans rfl
       have kWB1 : v3.cell? ⟨v1.heap.size, 1, none⟩ = some (.int .i64 r) := (BoxAt.cell WB.out 1).trans rfl
       have kWB2 : v3.cell? ⟨v1.heap.size, 2, none⟩ = some (.int .i64 v) := (BoxAt.cell WB.out 2).trans rfl
       clear b h z hfl FL3
       refine Hid.out ?_)
    | fail)
  refine hid ?_
  clear kPB0 kPB1 kPB2 kPB3 kWB0 kWB1 kWB2
  have kPB0 : v3.cell? ⟨w.heap.size, 0, none⟩ = some (.int .i64 d) := (BoxAt.cell PB.out 0).trans rfl
  have kPB1 : v3.cell? ⟨w.heap.size, 1, none⟩ = some (.bool k) := (BoxAt.cell PB.out 1).trans rfl
  have kPB2 : v3.cell? ⟨w.heap.size, 2, none⟩ = some (.slice xa N xc) := (BoxAt.cell PB.out 2).trans rfl
  have kPB3 : v3.cell? ⟨w.heap.size, 3, none⟩ = some (.slice sa M sc) := (BoxAt.cell PB.out 3).trans rfl
  have kWB0 : v3.cell? ⟨v1.heap.size, 0, none⟩ = some (.int .i64 p) := (BoxAt.cell WB.out 0).trans rfl
  have kWB1 : v3.cell? ⟨v1.heap.size, 1, none⟩ = some (.int .i64 r) := (BoxAt.cell WB.out 1).trans rfl
  have kWB2 : v3.cell? ⟨v1.heap.size, 2, none⟩ = some (.int .i64 v) := (BoxAt.cell WB.out 2).trans rfl
  go_wp2_with (first
    | (refine wpList_load_box rfl 25 _ rfl (w.heap.size) rfl _ _ PB.out _ Try.underlying25 Try.infoBf ?_)
    | fail)
  have HBw := HB.out.size
  refine (rbown_any d k (vs := ⟨xa, N, xc⟩) (s := ⟨sa, M, sc⟩) (HX.out.below HB.out) (HV.out.below HB.out) HXL.out HL.out).mono ?_
  rintro e v4 ⟨x, u, rfl, hc, hu, hb⟩
  have PB := hid (PB.out.belowAll hb)
  have WB := hid (WB.out.belowAll hb)
  have RB := hid (RB.out.belowAll hb)
  have HB := hid (HB.out.trans (hb.mono HB.out.size))
  have hsv4 : v3.heap.size ≤ v4.heap.size := by first | exact hb.size | omega
  have HC := hid (hc.mono HBw)
  have HU := hid (hu.mono HBw)
  clear hc hu HBw
  simp only [Sl.val] at HC HU
  clear kPB0 kPB1 kPB2 kPB3 kWB0 kWB1 kWB2
  have kPB0 : v4.cell? ⟨w.heap.size, 0, none⟩ = some (.int .i64 d) := (BoxAt.cell PB.out 0).trans rfl
  have kPB1 : v4.cell? ⟨w.heap.size, 1, none⟩ = some (.bool k) := (BoxAt.cell PB.out 1).trans rfl
  have kPB2 : v4.cell? ⟨w.heap.size, 2, none⟩ = some (.slice xa N xc) := (BoxAt.cell PB.out 2).trans rfl
  have kPB3 : v4.cell? ⟨w.heap.size, 3, none⟩ = some (.slice sa M sc) := (BoxAt.cell PB.out 3).trans rfl
  have kWB0 : v4.cell? ⟨v1.heap.size, 0, none⟩ = some (.int .i64 p) := (BoxAt.cell WB.out 0).trans rfl
  have kWB1 : v4.cell? ⟨v1.heap.size, 1, none⟩ = some (.int .i64 r) := (BoxAt.cell WB.out 1).trans rfl
  have kWB2 : v4.cell? ⟨v1.heap.size, 2, none⟩ = some (.int .i64 v) := (BoxAt.cell WB.out 2).trans rfl
  clear hb
  have FL4 := hid trivial
  have FL5 := hid trivial
  go_wp2_with (first
    | (have hfl := FL4.out
       refine wpList_new rfl 25 rfl _ Try.zeroBf ?_
       intro v5 b h z
       have AB := hid (show BoxAt v5 v4.heap.size 25 #[.int .i64 0, .bool false, .slice none 0 0, .slice none 0 0] from b)
       have PB := hid (PB.out.belowAll h)
       have WB := hid (WB.out.belowAll h)
       have RB := hid (RB.out.belowAll h)
       have HC := hid (HC.out.below h)
       have HU := hid (HU.out.below h)
       have HB := hid (HB.out.trans (h.mono HB.out.size))
       have hsv5 : v4.heap.size + 1 ≤ v5.heap.size := by first | exact h.size | omega
       clear kPB0 kPB1 kPB2 kPB3 kWB0 kWB1 kWB2
       have kPB0 : v5.cell? ⟨w.heap.size, 0, none⟩ = some (.int .i64 d) := (BoxAt.cell PB.out 0).trans rfl
       have kPB1 : v5.cell? ⟨w.heap.size, 1, none⟩ = some (.bool k) := (BoxAt.cell PB.out 1).trans rfl
       have kPB2 : v5.cell? ⟨w.heap.size, 2, none⟩ = some (.slice xa N xc) := (BoxAt.cell PB.out 2).trans rfl
       have kPB3 : v5.cell? ⟨w.heap.size, 3, none⟩ = some (.slice sa M sc) := (BoxAt.cell PB.out 3).trans rfl
       have kWB0 : v5.cell? ⟨v1.heap.size, 0, none⟩ = some (.int .i64 p) := (BoxAt.cell WB.out 0).trans rfl
       have kWB1 : v5.cell? ⟨v1.heap.size, 1, none⟩ = some (.int .i64 r) := (BoxAt.cell WB.out 1).trans rfl
       have kWB2 : v5.cell? ⟨v1.heap.size, 2, none⟩ = some (.int .i64 v) := (BoxAt.cell WB.out 2).trans rfl
       clear b h z hfl FL4)
    | (have hfl := FL5.out
       refine wpList_store_whole rfl 25 _ _ rfl rfl (v4.heap.size) rfl [.int .i64 d, .bool k, .slice x.a x.n x.c, .slice u.a u.n u.c] rfl _ _ AB.out rfl Try.infoBf (by simp [Value.oneCell']) ?_
       intro v6 b g z
       have hsv6 : v5.heap.size ≤ v6.heap.size := by omega
       have HC := hid (HC.out.put g AB.out (by decide))
       have HU := hid (HU.out.put g AB.out (by decide))
       have AB := hid (show BoxAt v6 (v4.heap.size) 25 #[.int .i64 d, .bool k, .slice x.a x.n x.c, .slice u.a u.n u.c] from b)
       have PB := hid (PB.out.grown g (fun e => by have := Option.some.inj e; omega))
       have WB := hid (WB.out.grown g (fun e => by have := Option.some.inj e; omega))
       have RB := hid (RB.out.grown g (fun e => by have := Option.some.inj e; omega))
       have HB := hid (HB.out.trans (grown_below g (by omega) (by omega)))
       clear kPB0 kPB1 kPB2 kPB3 kWB0 kWB1 kWB2
       have kPB0 : v6.cell? ⟨w.heap.size, 0, none⟩ = some (.int .i64 d) := (BoxAt.cell PB.out 0).trans rfl
       have kPB1 : v6.cell? ⟨w.heap.size, 1, none⟩ = some (.bool k) := (BoxAt.cell PB.out 1).trans rfl
       have kPB2 : v6.cell? ⟨w.heap.size, 2, none⟩ = some (.slice xa N xc) := (BoxAt.cell PB.out 2).trans rfl
       have kPB3 : v6.cell? ⟨w.heap.size, 3, none⟩ = some (.slice sa M sc) := (BoxAt.cell PB.out 3).trans rfl
       have kWB0 : v6.cell? ⟨v1.heap.size, 0, none⟩ = some (.int .i64 p) := (BoxAt.cell WB.out 0).trans rfl
       have kWB1 : v6.cell? ⟨v1.heap.size, 1, none⟩ = some (.int .i64 r) := (BoxAt.cell WB.out 1).trans rfl
       have kWB2 : v6.cell? ⟨v1.heap.size, 2, none⟩ = some (.int .i64 v) := (BoxAt.cell WB.out 2).trans rfl
       have kAB2 : v6.cell? ⟨v4.heap.size, 2, none⟩ = some (.slice x.a x.n x.c) := (BoxAt.cell AB.out 2).trans rfl
       have kAB3 : v6.cell? ⟨v4.heap.size, 3, none⟩ = some (.slice u.a u.n u.c) := (BoxAt.cell AB.out 3).trans rfl
       clear b g z hfl FL5
       refine Hid.out ?_)
    | fail)
  refine hid ?_
  clear kPB0 kPB1 kPB2 kPB3 kWB0 kWB1 kWB2 kAB2 kAB3
  have kPB0 : v6.cell? ⟨w.heap.size, 0, none⟩ = some (.int .i64 d) := (BoxAt.cell PB.out 0).trans rfl
  have kPB1 : v6.cell? ⟨w.heap.size, 1, none⟩ = some (.bool k) := (BoxAt.cell PB.out 1).trans rfl
  have kPB2 : v6.cell? ⟨w.heap.size, 2, none⟩ = some (.slice xa N xc) := (BoxAt.cell PB.out 2).trans rfl
  have kPB3 : v6.cell? ⟨w.heap.size, 3, none⟩ = some (.slice sa M sc) := (BoxAt.cell PB.out 3).trans rfl
  have kWB0 : v6.cell? ⟨v1.heap.size, 0, none⟩ = some (.int .i64 p) := (BoxAt.cell WB.out 0).trans rfl
  have kWB1 : v6.cell? ⟨v1.heap.size, 1, none⟩ = some (.int .i64 r) := (BoxAt.cell WB.out 1).trans rfl
  have kWB2 : v6.cell? ⟨v1.heap.size, 2, none⟩ = some (.int .i64 v) := (BoxAt.cell WB.out 2).trans rfl
  have kAB2 : v6.cell? ⟨v4.heap.size, 2, none⟩ = some (.slice x.a x.n x.c) := (BoxAt.cell AB.out 2).trans rfl
  have kAB3 : v6.cell? ⟨v4.heap.size, 3, none⟩ = some (.slice u.a u.n u.c) := (BoxAt.cell AB.out 3).trans rfl
  have FL6 := hid trivial
  go_wp2_with (first
    | (refine wpList_load_box rfl 25 _ rfl (v4.heap.size) rfl _ _ AB.out _ Try.underlying25 Try.infoBf ?_)
    | (have hfl := FL6.out
       refine wpList_store_whole rfl 25 _ _ rfl rfl (v2.heap.size) rfl [.int .i64 d, .bool k, .slice x.a x.n x.c, .slice u.a u.n u.c] rfl _ _ RB.out rfl Try.infoBf (by simp [Value.oneCell']) ?_
       intro v7 b g z
       have hsv7 : v6.heap.size ≤ v7.heap.size := by omega
       have HC := hid (HC.out.put g RB.out (by decide))
       have HU := hid (HU.out.put g RB.out (by decide))
       have RB := hid (show BoxAt v7 (v2.heap.size) 25 #[.int .i64 d, .bool k, .slice x.a x.n x.c, .slice u.a u.n u.c] from b)
       have PB := hid (PB.out.grown g (fun e => by have := Option.some.inj e; omega))
       have WB := hid (WB.out.grown g (fun e => by have := Option.some.inj e; omega))
       have AB := hid (AB.out.grown g (fun e => by have := Option.some.inj e; omega))
       have HB := hid (HB.out.trans (grown_below g (by omega) (by omega)))
       clear kPB0 kPB1 kPB2 kPB3 kWB0 kWB1 kWB2 kAB2 kAB3
       have kPB0 : v7.cell? ⟨w.heap.size, 0, none⟩ = some (.int .i64 d) := (BoxAt.cell PB.out 0).trans rfl
       have kPB1 : v7.cell? ⟨w.heap.size, 1, none⟩ = some (.bool k) := (BoxAt.cell PB.out 1).trans rfl
       have kPB2 : v7.cell? ⟨w.heap.size, 2, none⟩ = some (.slice xa N xc) := (BoxAt.cell PB.out 2).trans rfl
       have kPB3 : v7.cell? ⟨w.heap.size, 3, none⟩ = some (.slice sa M sc) := (BoxAt.cell PB.out 3).trans rfl
       have kWB0 : v7.cell? ⟨v1.heap.size, 0, none⟩ = some (.int .i64 p) := (BoxAt.cell WB.out 0).trans rfl
       have kWB1 : v7.cell? ⟨v1.heap.size, 1, none⟩ = some (.int .i64 r) := (BoxAt.cell WB.out 1).trans rfl
       have kWB2 : v7.cell? ⟨v1.heap.size, 2, none⟩ = some (.int .i64 v) := (BoxAt.cell WB.out 2).trans rfl
       have kAB2 : v7.cell? ⟨v4.heap.size, 2, none⟩ = some (.slice x.a x.n x.c) := (BoxAt.cell AB.out 2).trans rfl
       have kAB3 : v7.cell? ⟨v4.heap.size, 3, none⟩ = some (.slice u.a u.n u.c) := (BoxAt.cell AB.out 3).trans rfl
       clear b g z hfl FL6)
    | fail)
  refine bodyPost_ret (results_box_tmp3 rfl _ _ (v2.heap.size) 25 _ (0, 0) _ rfl RB.out Try.underlying25 rfl Try.infoBf) rfl ?_
  exact ⟨x, u, ⟨none, 0, 0⟩, rfl, HC.out, HU.out, OWk.nil _ _, HB.out⟩

set_option maxRecDepth 100000 in
set_option maxHeartbeats 1600000 in
theorem rtake_yes (d : Int) (k : Bool) {vs s : Sl} {xs : List Int} {l : List Wt} (p r v : Int) {w : World} (hv : Sees w .i64 vs.val xs) (hs : SeesWt w s.val l) (hx : xs.length ≤ 800000) (hl : l.length ≤ 800000) (h0 : xs.length = 0) :
    Calls Try.prog 14 #[BfV.val ⟨d, k, vs, s⟩, .agg #[.int .i64 p, .int .i64 r, .int .i64 v], .bool true] w fun e w' => ∃ (x u q : Sl), e = .returned (.tuple #[BfV.val ⟨d, k, x, u⟩, .int .i64 (6), .int .i64 (0), q.val]) ∧ OI w' w.heap.size x.val (xs) ∧ OWt w' w.heap.size u.val (addP l ⟨p, r, v⟩ k) ∧ OWk w' w.heap.size q.val ([]) ∧ Below w.heap.size w w' := by
  have HX := hid hv
  have HV := hid hs
  obtain ⟨a1, c1, hv1, hx1, hx2, hxc⟩ := hv.form
  obtain ⟨xa, xn, xc⟩ := vs
  simp only [Sl.val, Value.slice.injEq] at hv1
  obtain ⟨rfl, rfl, rfl⟩ := hv1
  obtain ⟨a2, c2, hs1, hc1, hc2, -⟩ := hs.form
  obtain ⟨sa, sn, sc⟩ := s
  simp only [Sl.val, Value.slice.injEq] at hs1
  obtain ⟨rfl, rfl, rfl⟩ := hs1
  unfold maxLen at hx2 hc2
  simp only [Sl.val] at HX HV
  have HXC := hid hxc
  clear hv hs hxc
  unfold BfV.val
  simp only
  obtain ⟨N, hN⟩ : ∃ N, xs.length = N := ⟨_, rfl⟩
  obtain ⟨M, hM⟩ : ∃ M, l.length = M := ⟨_, rfl⟩
  have HN := hid hN
  have HM := hid hM
  have HXL := hid hx
  have HL := hid hl
  rw [hN] at hx hx1 HX HXC ⊢
  rw [hM] at hl hc1 HV ⊢
  have H0 := hid h0
  have t0 : ((N : Int) == 0) = true := by rw [← hN, h0]; rfl
  have tz : ¬ (0 : Int) < (N : Int) := by rw [← hN, h0]; decide
  clear hN hM h0
  have HB := hid (Below.refl w.heap.size w)
  go_enter Try.func14, Try.ntmps14
  have FL1 := hid trivial
  have FL2 := hid trivial
  have FL3 := hid trivial
  go_wp2_with (first
    | (have hfl := FL1.out
       refine wpList_box rfl 25 (.tmp 0) rfl #[.int .i64 d, .bool k, .slice xa N xc, .slice sa M sc] rfl ?_
       intro v1 b h z
       have PB := hid (show BoxAt v1 w.heap.size 25 #[.int .i64 d, .bool k, .slice xa N xc, .slice sa M sc] from b)
       have HB := hid (HB.out.trans (h.mono HB.out.size))
       have hsv1 : w.heap.size + 1 ≤ v1.heap.size := by first | exact h.size | omega
       clear b h z hfl FL1)
    | (have hfl := FL2.out
       refine wpList_box rfl 27 (.tmp 1) rfl #[.int .i64 p, .int .i64 r, .int .i64 v] rfl ?_
       intro v2 b h z
       have WB := hid (show BoxAt v2 v1.heap.size 27 #[.int .i64 p, .int .i64 r, .int .i64 v] from b)
       have PB := hid (PB.out.belowAll h)
       have HB := hid (HB.out.trans (h.mono HB.out.size))
       have hsv2 : v1.heap.size + 1 ≤ v2.heap.size := by first | exact h.size | omega
       have kPB0 : v2.cell? ⟨w.heap.size, 0, none⟩ = some (.int .i64 d) := (BoxAt.cell PB.out 0).trans rfl
       have kPB1 : v2.cell? ⟨w.heap.size, 1, none⟩ = some (.bool k) := (BoxAt.cell PB.out 1).trans rfl
       have kPB2 : v2.cell? ⟨w.heap.size, 2, none⟩ = some (.slice xa N xc) := (BoxAt.cell PB.out 2).trans rfl
       have kPB3 : v2.cell? ⟨w.heap.size, 3, none⟩ = some (.slice sa M sc) := (BoxAt.cell PB.out 3).trans rfl
       clear b h z hfl FL2)
    | (have hfl := FL3.out
       refine wpList_new rfl 25 rfl _ Try.zeroBf ?_
       intro v3 b h z
       have RB := hid (show BoxAt v3 v2.heap.size 25 #[.int .i64 0, .bool false, .slice none 0 0, .slice none 0 0] from b)
       have PB := hid (PB.out.belowAll h)
       have WB := hid (WB.out.belowAll h)
       have HB := hid (HB.out.trans (h.mono HB.out.size))
       have hsv3 : v2.heap.size + 1 ≤ v3.heap.size := by first | exact h.size | omega
       clear kPB0 kPB1 kPB2 kPB3
       have kPB0 : v3.cell? ⟨w.heap.size, 0, none⟩ = some (.int .i64 d) := (BoxAt.cell PB.out 0).trans rfl
       have kPB1 : v3.cell? ⟨w.heap.size, 1, none⟩ = some (.bool k) := (BoxAt.cell PB.out 1).trans rfl
       have kPB2 : v3.cell? ⟨w.heap.size, 2, none⟩ = some (.slice xa N xc) := (BoxAt.cell PB.out 2).trans rfl
       have kPB3 : v3.cell? ⟨w.heap.size, 3, none⟩ = some (.slice sa M sc) := (BoxAt.cell PB.out 3).trans rfl
       have kWB0 : v3.cell? ⟨v1.heap.size, 0, none⟩ = some (.int .i64 p) := (BoxAt.cell WB.out 0).trans rfl
       have kWB1 : v3.cell? ⟨v1.heap.size, 1, none⟩ = some (.int .i64 r) := (BoxAt.cell WB.out 1).trans rfl
       have kWB2 : v3.cell? ⟨v1.heap.size, 2, none⟩ = some (.int .i64 v) := (BoxAt.cell WB.out 2).trans rfl
       clear b h z hfl FL3
       refine Hid.out ?_)
    | fail)
  refine hid ?_
  clear kPB0 kPB1 kPB2 kPB3 kWB0 kWB1 kWB2
  have kPB0 : v3.cell? ⟨w.heap.size, 0, none⟩ = some (.int .i64 d) := (BoxAt.cell PB.out 0).trans rfl
  have kPB1 : v3.cell? ⟨w.heap.size, 1, none⟩ = some (.bool k) := (BoxAt.cell PB.out 1).trans rfl
  have kPB2 : v3.cell? ⟨w.heap.size, 2, none⟩ = some (.slice xa N xc) := (BoxAt.cell PB.out 2).trans rfl
  have kPB3 : v3.cell? ⟨w.heap.size, 3, none⟩ = some (.slice sa M sc) := (BoxAt.cell PB.out 3).trans rfl
  have kWB0 : v3.cell? ⟨v1.heap.size, 0, none⟩ = some (.int .i64 p) := (BoxAt.cell WB.out 0).trans rfl
  have kWB1 : v3.cell? ⟨v1.heap.size, 1, none⟩ = some (.int .i64 r) := (BoxAt.cell WB.out 1).trans rfl
  have kWB2 : v3.cell? ⟨v1.heap.size, 2, none⟩ = some (.int .i64 v) := (BoxAt.cell WB.out 2).trans rfl
  go_wp2_with (first
    | (refine wpList_load_box rfl 25 _ rfl (w.heap.size) rfl _ _ PB.out _ Try.underlying25 Try.infoBf ?_)
    | fail)
  have HBw := HB.out.size
  refine (rbown_any d k (vs := ⟨xa, N, xc⟩) (s := ⟨sa, M, sc⟩) (HX.out.below HB.out) (HV.out.below HB.out) HXL.out HL.out).mono ?_
  rintro e v4 ⟨x, u, rfl, hc, hu, hb⟩
  have PB := hid (PB.out.belowAll hb)
  have WB := hid (WB.out.belowAll hb)
  have RB := hid (RB.out.belowAll hb)
  have HB := hid (HB.out.trans (hb.mono HB.out.size))
  have hsv4 : v3.heap.size ≤ v4.heap.size := by first | exact hb.size | omega
  have HC := hid (hc.mono HBw)
  have HU := hid (hu.mono HBw)
  clear hc hu HBw
  simp only [Sl.val] at HC HU
  clear kPB0 kPB1 kPB2 kPB3 kWB0 kWB1 kWB2
  have kPB0 : v4.cell? ⟨w.heap.size, 0, none⟩ = some (.int .i64 d) := (BoxAt.cell PB.out 0).trans rfl
  have kPB1 : v4.cell? ⟨w.heap.size, 1, none⟩ = some (.bool k) := (BoxAt.cell PB.out 1).trans rfl
  have kPB2 : v4.cell? ⟨w.heap.size, 2, none⟩ = some (.slice xa N xc) := (BoxAt.cell PB.out 2).trans rfl
  have kPB3 : v4.cell? ⟨w.heap.size, 3, none⟩ = some (.slice sa M sc) := (BoxAt.cell PB.out 3).trans rfl
  have kWB0 : v4.cell? ⟨v1.heap.size, 0, none⟩ = some (.int .i64 p) := (BoxAt.cell WB.out 0).trans rfl
  have kWB1 : v4.cell? ⟨v1.heap.size, 1, none⟩ = some (.int .i64 r) := (BoxAt.cell WB.out 1).trans rfl
  have kWB2 : v4.cell? ⟨v1.heap.size, 2, none⟩ = some (.int .i64 v) := (BoxAt.cell WB.out 2).trans rfl
  clear hb
  have FL4 := hid trivial
  have FL5 := hid trivial
  go_wp2_with (first
    | (have hfl := FL4.out
       refine wpList_new rfl 25 rfl _ Try.zeroBf ?_
       intro v5 b h z
       have AB := hid (show BoxAt v5 v4.heap.size 25 #[.int .i64 0, .bool false, .slice none 0 0, .slice none 0 0] from b)
       have PB := hid (PB.out.belowAll h)
       have WB := hid (WB.out.belowAll h)
       have RB := hid (RB.out.belowAll h)
       have HC := hid (HC.out.below h)
       have HU := hid (HU.out.below h)
       have HB := hid (HB.out.trans (h.mono HB.out.size))
       have hsv5 : v4.heap.size + 1 ≤ v5.heap.size := by first | exact h.size | omega
       clear kPB0 kPB1 kPB2 kPB3 kWB0 kWB1 kWB2
       have kPB0 : v5.cell? ⟨w.heap.size, 0, none⟩ = some (.int .i64 d) := (BoxAt.cell PB.out 0).trans rfl
       have kPB1 : v5.cell? ⟨w.heap.size, 1, none⟩ = some (.bool k) := (BoxAt.cell PB.out 1).trans rfl
       have kPB2 : v5.cell? ⟨w.heap.size, 2, none⟩ = some (.slice xa N xc) := (BoxAt.cell PB.out 2).trans rfl
       have kPB3 : v5.cell? ⟨w.heap.size, 3, none⟩ = some (.slice sa M sc) := (BoxAt.cell PB.out 3).trans rfl
       have kWB0 : v5.cell? ⟨v1.heap.size, 0, none⟩ = some (.int .i64 p) := (BoxAt.cell WB.out 0).trans rfl
       have kWB1 : v5.cell? ⟨v1.heap.size, 1, none⟩ = some (.int .i64 r) := (BoxAt.cell WB.out 1).trans rfl
       have kWB2 : v5.cell? ⟨v1.heap.size, 2, none⟩ = some (.int .i64 v) := (BoxAt.cell WB.out 2).trans rfl
       clear b h z hfl FL4)
    | (have hfl := FL5.out
       refine wpList_store_whole rfl 25 _ _ rfl rfl (v4.heap.size) rfl [.int .i64 d, .bool k, .slice x.a x.n x.c, .slice u.a u.n u.c] rfl _ _ AB.out rfl Try.infoBf (by simp [Value.oneCell']) ?_
       intro v6 b g z
       have hsv6 : v5.heap.size ≤ v6.heap.size := by omega
       have HC := hid (HC.out.put g AB.out (by decide))
       have HU := hid (HU.out.put g AB.out (by decide))
       have AB := hid (show BoxAt v6 (v4.heap.size) 25 #[.int .i64 d, .bool k, .slice x.a x.n x.c, .slice u.a u.n u.c] from b)
       have PB := hid (PB.out.grown g (fun e => by have := Option.some.inj e; omega))
       have WB := hid (WB.out.grown g (fun e => by have := Option.some.inj e; omega))
       have RB := hid (RB.out.grown g (fun e => by have := Option.some.inj e; omega))
       have HB := hid (HB.out.trans (grown_below g (by omega) (by omega)))
       clear kPB0 kPB1 kPB2 kPB3 kWB0 kWB1 kWB2
       have kPB0 : v6.cell? ⟨w.heap.size, 0, none⟩ = some (.int .i64 d) := (BoxAt.cell PB.out 0).trans rfl
       have kPB1 : v6.cell? ⟨w.heap.size, 1, none⟩ = some (.bool k) := (BoxAt.cell PB.out 1).trans rfl
       have kPB2 : v6.cell? ⟨w.heap.size, 2, none⟩ = some (.slice xa N xc) := (BoxAt.cell PB.out 2).trans rfl
       have kPB3 : v6.cell? ⟨w.heap.size, 3, none⟩ = some (.slice sa M sc) := (BoxAt.cell PB.out 3).trans rfl
       have kWB0 : v6.cell? ⟨v1.heap.size, 0, none⟩ = some (.int .i64 p) := (BoxAt.cell WB.out 0).trans rfl
       have kWB1 : v6.cell? ⟨v1.heap.size, 1, none⟩ = some (.int .i64 r) := (BoxAt.cell WB.out 1).trans rfl
       have kWB2 : v6.cell? ⟨v1.heap.size, 2, none⟩ = some (.int .i64 v) := (BoxAt.cell WB.out 2).trans rfl
       have kAB2 : v6.cell? ⟨v4.heap.size, 2, none⟩ = some (.slice x.a x.n x.c) := (BoxAt.cell AB.out 2).trans rfl
       have kAB3 : v6.cell? ⟨v4.heap.size, 3, none⟩ = some (.slice u.a u.n u.c) := (BoxAt.cell AB.out 3).trans rfl
       clear b g z hfl FL5
       refine Hid.out ?_)
    | fail)
  refine hid ?_
  clear kPB0 kPB1 kPB2 kPB3 kWB0 kWB1 kWB2 kAB2 kAB3
  have kPB0 : v6.cell? ⟨w.heap.size, 0, none⟩ = some (.int .i64 d) := (BoxAt.cell PB.out 0).trans rfl
  have kPB1 : v6.cell? ⟨w.heap.size, 1, none⟩ = some (.bool k) := (BoxAt.cell PB.out 1).trans rfl
  have kPB2 : v6.cell? ⟨w.heap.size, 2, none⟩ = some (.slice xa N xc) := (BoxAt.cell PB.out 2).trans rfl
  have kPB3 : v6.cell? ⟨w.heap.size, 3, none⟩ = some (.slice sa M sc) := (BoxAt.cell PB.out 3).trans rfl
  have kWB0 : v6.cell? ⟨v1.heap.size, 0, none⟩ = some (.int .i64 p) := (BoxAt.cell WB.out 0).trans rfl
  have kWB1 : v6.cell? ⟨v1.heap.size, 1, none⟩ = some (.int .i64 r) := (BoxAt.cell WB.out 1).trans rfl
  have kWB2 : v6.cell? ⟨v1.heap.size, 2, none⟩ = some (.int .i64 v) := (BoxAt.cell WB.out 2).trans rfl
  have kAB2 : v6.cell? ⟨v4.heap.size, 2, none⟩ = some (.slice x.a x.n x.c) := (BoxAt.cell AB.out 2).trans rfl
  have kAB3 : v6.cell? ⟨v4.heap.size, 3, none⟩ = some (.slice u.a u.n u.c) := (BoxAt.cell AB.out 3).trans rfl
  go_wp2_with (first
    | (refine wpList_load_box rfl 27 _ rfl (v1.heap.size) rfl _ _ WB.out _ Try.underlying27 Try.infoWt ?_)
    | fail)
  clear HU
  have HBsy := HB.out.size
  refine (radd_any ⟨p, r, v⟩ k (HV.out.below HB.out) (by have := HL.out; omega)).mono ?_
  rintro e v7 ⟨uy, rfl, hu, hb⟩
  have PB := hid (PB.out.belowAll hb)
  have WB := hid (WB.out.belowAll hb)
  have RB := hid (RB.out.belowAll hb)
  have AB := hid (AB.out.belowAll hb)
  have HC := hid (HC.out.below hb)
  have HB := hid (HB.out.trans (hb.mono HB.out.size))
  have hsv7 : v6.heap.size ≤ v7.heap.size := by first | exact hb.size | omega
  obtain ⟨y, rfl, -⟩ := hu.sl
  have HU := hid (hu.mono HBsy)
  clear hu HBsy
  clear kPB0 kPB1 kPB2 kPB3 kWB0 kWB1 kWB2 kAB2 kAB3
  have kPB0 : v7.cell? ⟨w.heap.size, 0, none⟩ = some (.int .i64 d) := (BoxAt.cell PB.out 0).trans rfl
  have kPB1 : v7.cell? ⟨w.heap.size, 1, none⟩ = some (.bool k) := (BoxAt.cell PB.out 1).trans rfl
  have kPB2 : v7.cell? ⟨w.heap.size, 2, none⟩ = some (.slice xa N xc) := (BoxAt.cell PB.out 2).trans rfl
  have kPB3 : v7.cell? ⟨w.heap.size, 3, none⟩ = some (.slice sa M sc) := (BoxAt.cell PB.out 3).trans rfl
  have kWB0 : v7.cell? ⟨v1.heap.size, 0, none⟩ = some (.int .i64 p) := (BoxAt.cell WB.out 0).trans rfl
  have kWB1 : v7.cell? ⟨v1.heap.size, 1, none⟩ = some (.int .i64 r) := (BoxAt.cell WB.out 1).trans rfl
  have kWB2 : v7.cell? ⟨v1.heap.size, 2, none⟩ = some (.int .i64 v) := (BoxAt.cell WB.out 2).trans rfl
  have kAB2 : v7.cell? ⟨v4.heap.size, 2, none⟩ = some (.slice x.a x.n x.c) := (BoxAt.cell AB.out 2).trans rfl
  have kAB3 : v7.cell? ⟨v4.heap.size, 3, none⟩ = some (.slice u.a u.n u.c) := (BoxAt.cell AB.out 3).trans rfl
  clear hb
  have FL6 := hid trivial
  have FL7 := hid trivial
  go_wp2_with (first
    | (have hfl := FL6.out
       refine wpList_store_box rfl 23 _ _ rfl rfl (v4.heap.size) 3 (.slice y.a y.n y.c) rfl rfl rfl rfl (by kernel_rfl) _ _ AB.out (by simp) ?_
       intro v8 b g z
       have hsv8 : v7.heap.size ≤ v8.heap.size := by omega
       have HC := hid (HC.out.put g AB.out (by decide))
       have HU := hid (HU.out.put g AB.out (by decide))
       have AB := hid (show BoxAt v8 (v4.heap.size) 25 #[.int .i64 d, .bool k, .slice x.a x.n x.c, .slice y.a y.n y.c] from by simpa using b)
       have PB := hid (PB.out.grown g (fun e => by have := Option.some.inj e; omega))
       have WB := hid (WB.out.grown g (fun e => by have := Option.some.inj e; omega))
       have RB := hid (RB.out.grown g (fun e => by have := Option.some.inj e; omega))
       have HB := hid (HB.out.trans (grown_below g (by omega) (by omega)))
       clear kPB0 kPB1 kPB2 kPB3 kWB0 kWB1 kWB2 kAB2 kAB3
       have kPB0 : v8.cell? ⟨w.heap.size, 0, none⟩ = some (.int .i64 d) := (BoxAt.cell PB.out 0).trans rfl
       have kPB1 : v8.cell? ⟨w.heap.size, 1, none⟩ = some (.bool k) := (BoxAt.cell PB.out 1).trans rfl
       have kPB2 : v8.cell? ⟨w.heap.size, 2, none⟩ = some (.slice xa N xc) := (BoxAt.cell PB.out 2).trans rfl
       have kPB3 : v8.cell? ⟨w.heap.size, 3, none⟩ = some (.slice sa M sc) := (BoxAt.cell PB.out 3).trans rfl
       have kWB0 : v8.cell? ⟨v1.heap.size, 0, none⟩ = some (.int .i64 p) := (BoxAt.cell WB.out 0).trans rfl
       have kWB1 : v8.cell? ⟨v1.heap.size, 1, none⟩ = some (.int .i64 r) := (BoxAt.cell WB.out 1).trans rfl
       have kWB2 : v8.cell? ⟨v1.heap.size, 2, none⟩ = some (.int .i64 v) := (BoxAt.cell WB.out 2).trans rfl
       have kAB2 : v8.cell? ⟨v4.heap.size, 2, none⟩ = some (.slice x.a x.n x.c) := (BoxAt.cell AB.out 2).trans rfl
       have kAB3 : v8.cell? ⟨v4.heap.size, 3, none⟩ = some (.slice y.a y.n y.c) := (BoxAt.cell AB.out 3).trans rfl
       clear b g z hfl FL6)
    | (refine wpList_load_box rfl 25 _ rfl (v4.heap.size) rfl _ _ AB.out _ Try.underlying25 Try.infoBf ?_)
    | (have hfl := FL7.out
       refine wpList_store_whole rfl 25 _ _ rfl rfl (v2.heap.size) rfl [.int .i64 d, .bool k, .slice x.a x.n x.c, .slice y.a y.n y.c] rfl _ _ RB.out rfl Try.infoBf (by simp [Value.oneCell']) ?_
       intro v9 b g z
       have hsv9 : v8.heap.size ≤ v9.heap.size := by omega
       have HC := hid (HC.out.put g RB.out (by decide))
       have HU := hid (HU.out.put g RB.out (by decide))
       have RB := hid (show BoxAt v9 (v2.heap.size) 25 #[.int .i64 d, .bool k, .slice x.a x.n x.c, .slice y.a y.n y.c] from b)
       have PB := hid (PB.out.grown g (fun e => by have := Option.some.inj e; omega))
       have WB := hid (WB.out.grown g (fun e => by have := Option.some.inj e; omega))
       have AB := hid (AB.out.grown g (fun e => by have := Option.some.inj e; omega))
       have HB := hid (HB.out.trans (grown_below g (by omega) (by omega)))
       clear kPB0 kPB1 kPB2 kPB3 kWB0 kWB1 kWB2 kAB2 kAB3
       have kPB0 : v9.cell? ⟨w.heap.size, 0, none⟩ = some (.int .i64 d) := (BoxAt.cell PB.out 0).trans rfl
       have kPB1 : v9.cell? ⟨w.heap.size, 1, none⟩ = some (.bool k) := (BoxAt.cell PB.out 1).trans rfl
       have kPB2 : v9.cell? ⟨w.heap.size, 2, none⟩ = some (.slice xa N xc) := (BoxAt.cell PB.out 2).trans rfl
       have kPB3 : v9.cell? ⟨w.heap.size, 3, none⟩ = some (.slice sa M sc) := (BoxAt.cell PB.out 3).trans rfl
       have kWB0 : v9.cell? ⟨v1.heap.size, 0, none⟩ = some (.int .i64 p) := (BoxAt.cell WB.out 0).trans rfl
       have kWB1 : v9.cell? ⟨v1.heap.size, 1, none⟩ = some (.int .i64 r) := (BoxAt.cell WB.out 1).trans rfl
       have kWB2 : v9.cell? ⟨v1.heap.size, 2, none⟩ = some (.int .i64 v) := (BoxAt.cell WB.out 2).trans rfl
       have kAB2 : v9.cell? ⟨v4.heap.size, 2, none⟩ = some (.slice x.a x.n x.c) := (BoxAt.cell AB.out 2).trans rfl
       have kAB3 : v9.cell? ⟨v4.heap.size, 3, none⟩ = some (.slice y.a y.n y.c) := (BoxAt.cell AB.out 3).trans rfl
       clear b g z hfl FL7)
    | fail)
  refine bodyPost_ret (results_box_tmp3 rfl _ _ (v2.heap.size) 25 _ (0, 0) _ rfl RB.out Try.underlying25 rfl Try.infoBf) rfl ?_
  exact ⟨x, y, ⟨none, 0, 0⟩, rfl, HC.out, HU.out, OWk.nil _ _, HB.out⟩

set_option maxRecDepth 100000 in
set_option maxHeartbeats 1600000 in
theorem rtake_none (d : Int) (k : Bool) {vs s : Sl} {xs : List Int} {l : List Wt} (p r v : Int) (e0 : Int) (may : Bool) {w : World} (hv : Sees w .i64 vs.val xs) (hs : SeesWt w s.val l) (hx : xs.length ≤ 800000) (hl : l.length ≤ 800000) (h0 : 0 < xs.length) (he : xs.getD 0 0 = e0) (h1 : l.length = 0) :
    Calls Try.prog 14 #[BfV.val ⟨d, k, vs, s⟩, .agg #[.int .i64 p, .int .i64 r, .int .i64 v], .bool may] w fun e w' => ∃ (x u q : Sl), e = .returned (.tuple #[BfV.val ⟨d, k, x, u⟩, .int .i64 (0), .int .i64 (e0), q.val]) ∧ OI w' w.heap.size x.val (xs.drop 1) ∧ OWt w' w.heap.size u.val ([]) ∧ OWk w' w.heap.size q.val ([]) ∧ Below w.heap.size w w' := by
  have HX := hid hv
  have HV := hid hs
  obtain ⟨a1, c1, hv1, hx1, hx2, hxc⟩ := hv.form
  obtain ⟨xa, xn, xc⟩ := vs
  simp only [Sl.val, Value.slice.injEq] at hv1
  obtain ⟨rfl, rfl, rfl⟩ := hv1
  obtain ⟨a2, c2, hs1, hc1, hc2, -⟩ := hs.form
  obtain ⟨sa, sn, sc⟩ := s
  simp only [Sl.val, Value.slice.injEq] at hs1
  obtain ⟨rfl, rfl, rfl⟩ := hs1
  unfold maxLen at hx2 hc2
  simp only [Sl.val] at HX HV
  have HXC := hid hxc
  clear hv hs hxc
  unfold BfV.val
  simp only
  obtain ⟨N, hN⟩ : ∃ N, xs.length = N := ⟨_, rfl⟩
  obtain ⟨M, hM⟩ : ∃ M, l.length = M := ⟨_, rfl⟩
  have HN := hid hN
  have HM := hid hM
  have HXL := hid hx
  have HL := hid hl
  rw [hN] at hx hx1 HX HXC ⊢
  rw [hM] at hl hc1 HV ⊢
  have H0 := hid h0
  have H1 := hid h1
  have t0 : ((N : Int) == 0) = false := beq_eq_false_iff_ne.2 (by omega)
  have tz : (0 : Int) < (N : Int) := by omega
  have tm : ¬ (0 : Int) < (M : Int) := by omega
  rw [hN] at h0
  obtain ⟨bb, off, rfl, hbw, hcell⟩ := HXC.out (by omega)
  have hc0 := hcell 0 (by omega)
  rw [he, Nat.add_zero] at hc0
  have C0 := hid hc0
  have hdr := Sees.dropped (w := w) (k := .i64) (b := bb) (off := off) (cap := xc) (xs := xs) 1 (by omega) (by omega) (by unfold maxLen; omega) (by rw [hN]; exact hcell)
  rw [hN] at hdr
  have HD := hid hdr
  clear hdr hcell hc0 he
  have h1i : (1 : Int) ≤ (N : Int) := by omega
  clear hN hM h1
  by_cases hck : xc = 1
  case pos =>
    subst hck
    have hn1 : N = 1 := by omega
    subst hn1
    have HB := hid (Below.refl w.heap.size w)
    go_enter Try.func14, Try.ntmps14
    have FL1 := hid trivial
    have FL2 := hid trivial
    have FL3 := hid trivial
    go_wp2_with (first
      | (have hfl := FL1.out
         refine wpList_box rfl 25 (.tmp 0) rfl #[.int .i64 d, .bool k, .slice (some ⟨bb, off, none⟩) 1 1, .slice sa M sc] rfl ?_
         intro v1 b h z
         have PB := hid (show BoxAt v1 w.heap.size 25 #[.int .i64 d, .bool k, .slice (some ⟨bb, off, none⟩) 1 1, .slice sa M sc] from b)
         have HB := hid (HB.out.trans (h.mono HB.out.size))
         have hsv1 : w.heap.size + 1 ≤ v1.heap.size := by first | exact h.size | omega
         clear b h z hfl FL1)
      | (have hfl := FL2.out
         refine wpList_box rfl 27 (.tmp 1) rfl #[.int .i64 p, .int .i64 r, .int .i64 v] rfl ?_
         intro v2 b h z
         have WB := hid (show BoxAt v2 v1.heap.size 27 #[.int .i64 p, .int .i64 r, .int .i64 v] from b)
         have PB := hid (PB.out.belowAll h)
         have HB := hid (HB.out.trans (h.mono HB.out.size))
         have hsv2 : v1.heap.size + 1 ≤ v2.heap.size := by first | exact h.size | omega
         have kPB0 : v2.cell? ⟨w.heap.size, 0, none⟩ = some (.int .i64 d) := (BoxAt.cell PB.out 0).trans rfl
         have kPB1 : v2.cell? ⟨w.heap.size, 1, none⟩ = some (.bool k) := (BoxAt.cell PB.out 1).trans rfl
         have kPB2 : v2.cell? ⟨w.heap.size, 2, none⟩ = some (.slice (some ⟨bb, off, none⟩) 1 1) := (BoxAt.cell PB.out 2).trans rfl
         have kPB3 : v2.cell? ⟨w.heap.size, 3, none⟩ = some (.slice sa M sc) := (BoxAt.cell PB.out 3).trans rfl
         clear b h z hfl FL2)
      | (have hfl := FL3.out
         refine wpList_new rfl 25 rfl _ Try.zeroBf ?_
         intro v3 b h z
         have RB := hid (show BoxAt v3 v2.heap.size 25 #[.int .i64 0, .bool false, .slice none 0 0, .slice none 0 0] from b)
         have PB := hid (PB.out.belowAll h)
         have WB := hid (WB.out.belowAll h)
         have HB := hid (HB.out.trans (h.mono HB.out.size))
         have hsv3 : v2.heap.size + 1 ≤ v3.heap.size := by first | exact h.size | omega
         clear kPB0 kPB1 kPB2 kPB3
         have kPB0 : v3.cell? ⟨w.heap.size, 0, none⟩ = some (.int .i64 d) := (BoxAt.cell PB.out 0).trans rfl
         have kPB1 : v3.cell? ⟨w.heap.size, 1, none⟩ = some (.bool k) := (BoxAt.cell PB.out 1).trans rfl
         have kPB2 : v3.cell? ⟨w.heap.size, 2, none⟩ = some (.slice (some ⟨bb, off, none⟩) 1 1) := (BoxAt.cell PB.out 2).trans rfl
         have kPB3 : v3.cell? ⟨w.heap.size, 3, none⟩ = some (.slice sa M sc) := (BoxAt.cell PB.out 3).trans rfl
         have kWB0 : v3.cell? ⟨v1.heap.size, 0, none⟩ = some (.int .i64 p) := (BoxAt.cell WB.out 0).trans rfl
         have kWB1 : v3.cell? ⟨v1.heap.size, 1, none⟩ = some (.int .i64 r) := (BoxAt.cell WB.out 1).trans rfl
         have kWB2 : v3.cell? ⟨v1.heap.size, 2, none⟩ = some (.int .i64 v) := (BoxAt.cell WB.out 2).trans rfl
         clear b h z hfl FL3
         refine Hid.out ?_)
      | fail)
    refine hid ?_
    clear kPB0 kPB1 kPB2 kPB3 kWB0 kWB1 kWB2
    have kPB0 : v3.cell? ⟨w.heap.size, 0, none⟩ = some (.int .i64 d) := (BoxAt.cell PB.out 0).trans rfl
    have kPB1 : v3.cell? ⟨w.heap.size, 1, none⟩ = some (.bool k) := (BoxAt.cell PB.out 1).trans rfl
    have kPB2 : v3.cell? ⟨w.heap.size, 2, none⟩ = some (.slice (some ⟨bb, off, none⟩) 1 1) := (BoxAt.cell PB.out 2).trans rfl
    have kPB3 : v3.cell? ⟨w.heap.size, 3, none⟩ = some (.slice sa M sc) := (BoxAt.cell PB.out 3).trans rfl
    have kWB0 : v3.cell? ⟨v1.heap.size, 0, none⟩ = some (.int .i64 p) := (BoxAt.cell WB.out 0).trans rfl
    have kWB1 : v3.cell? ⟨v1.heap.size, 1, none⟩ = some (.int .i64 r) := (BoxAt.cell WB.out 1).trans rfl
    have kWB2 : v3.cell? ⟨v1.heap.size, 2, none⟩ = some (.int .i64 v) := (BoxAt.cell WB.out 2).trans rfl
    go_wp2_with (first
      | (refine wpList_load_box rfl 25 _ rfl (w.heap.size) rfl _ _ PB.out _ Try.underlying25 Try.infoBf ?_)
      | fail)
    have HBw := HB.out.size
    refine (rbown_any d k (vs := ⟨(some ⟨bb, off, none⟩), 1, 1⟩) (s := ⟨sa, M, sc⟩) (HX.out.below HB.out) (HV.out.below HB.out) HXL.out HL.out).mono ?_
    rintro e v4 ⟨x, u, rfl, hc, hu, hb⟩
    have PB := hid (PB.out.belowAll hb)
    have WB := hid (WB.out.belowAll hb)
    have RB := hid (RB.out.belowAll hb)
    have HB := hid (HB.out.trans (hb.mono HB.out.size))
    have hsv4 : v3.heap.size ≤ v4.heap.size := by first | exact hb.size | omega
    have HC := hid (hc.mono HBw)
    have HU := hid (hu.mono HBw)
    clear hc hu HBw
    simp only [Sl.val] at HC HU
    clear kPB0 kPB1 kPB2 kPB3 kWB0 kWB1 kWB2
    have kPB0 : v4.cell? ⟨w.heap.size, 0, none⟩ = some (.int .i64 d) := (BoxAt.cell PB.out 0).trans rfl
    have kPB1 : v4.cell? ⟨w.heap.size, 1, none⟩ = some (.bool k) := (BoxAt.cell PB.out 1).trans rfl
    have kPB2 : v4.cell? ⟨w.heap.size, 2, none⟩ = some (.slice (some ⟨bb, off, none⟩) 1 1) := (BoxAt.cell PB.out 2).trans rfl
    have kPB3 : v4.cell? ⟨w.heap.size, 3, none⟩ = some (.slice sa M sc) := (BoxAt.cell PB.out 3).trans rfl
    have kWB0 : v4.cell? ⟨v1.heap.size, 0, none⟩ = some (.int .i64 p) := (BoxAt.cell WB.out 0).trans rfl
    have kWB1 : v4.cell? ⟨v1.heap.size, 1, none⟩ = some (.int .i64 r) := (BoxAt.cell WB.out 1).trans rfl
    have kWB2 : v4.cell? ⟨v1.heap.size, 2, none⟩ = some (.int .i64 v) := (BoxAt.cell WB.out 2).trans rfl
    clear hb
    have FL4 := hid trivial
    have FL5 := hid trivial
    go_wp2_with (first
      | (have hfl := FL4.out
         refine wpList_new rfl 25 rfl _ Try.zeroBf ?_
         intro v5 b h z
         have AB := hid (show BoxAt v5 v4.heap.size 25 #[.int .i64 0, .bool false, .slice none 0 0, .slice none 0 0] from b)
         have PB := hid (PB.out.belowAll h)
         have WB := hid (WB.out.belowAll h)
         have RB := hid (RB.out.belowAll h)
         have HC := hid (HC.out.below h)
         have HU := hid (HU.out.below h)
         have HB := hid (HB.out.trans (h.mono HB.out.size))
         have hsv5 : v4.heap.size + 1 ≤ v5.heap.size := by first | exact h.size | omega
         clear kPB0 kPB1 kPB2 kPB3 kWB0 kWB1 kWB2
         have kPB0 : v5.cell? ⟨w.heap.size, 0, none⟩ = some (.int .i64 d) := (BoxAt.cell PB.out 0).trans rfl
         have kPB1 : v5.cell? ⟨w.heap.size, 1, none⟩ = some (.bool k) := (BoxAt.cell PB.out 1).trans rfl
         have kPB2 : v5.cell? ⟨w.heap.size, 2, none⟩ = some (.slice (some ⟨bb, off, none⟩) 1 1) := (BoxAt.cell PB.out 2).trans rfl
         have kPB3 : v5.cell? ⟨w.heap.size, 3, none⟩ = some (.slice sa M sc) := (BoxAt.cell PB.out 3).trans rfl
         have kWB0 : v5.cell? ⟨v1.heap.size, 0, none⟩ = some (.int .i64 p) := (BoxAt.cell WB.out 0).trans rfl
         have kWB1 : v5.cell? ⟨v1.heap.size, 1, none⟩ = some (.int .i64 r) := (BoxAt.cell WB.out 1).trans rfl
         have kWB2 : v5.cell? ⟨v1.heap.size, 2, none⟩ = some (.int .i64 v) := (BoxAt.cell WB.out 2).trans rfl
         clear b h z hfl FL4)
      | (have hfl := FL5.out
         refine wpList_store_whole rfl 25 _ _ rfl rfl (v4.heap.size) rfl [.int .i64 d, .bool k, .slice x.a x.n x.c, .slice u.a u.n u.c] rfl _ _ AB.out rfl Try.infoBf (by simp [Value.oneCell']) ?_
         intro v6 b g z
         have hsv6 : v5.heap.size ≤ v6.heap.size := by omega
         have HC := hid (HC.out.put g AB.out (by decide))
         have HU := hid (HU.out.put g AB.out (by decide))
         have AB := hid (show BoxAt v6 (v4.heap.size) 25 #[.int .i64 d, .bool k, .slice x.a x.n x.c, .slice u.a u.n u.c] from b)
         have PB := hid (PB.out.grown g (fun e => by have := Option.some.inj e; omega))
         have WB := hid (WB.out.grown g (fun e => by have := Option.some.inj e; omega))
         have RB := hid (RB.out.grown g (fun e => by have := Option.some.inj e; omega))
         have HB := hid (HB.out.trans (grown_below g (by omega) (by omega)))
         clear kPB0 kPB1 kPB2 kPB3 kWB0 kWB1 kWB2
         have kPB0 : v6.cell? ⟨w.heap.size, 0, none⟩ = some (.int .i64 d) := (BoxAt.cell PB.out 0).trans rfl
         have kPB1 : v6.cell? ⟨w.heap.size, 1, none⟩ = some (.bool k) := (BoxAt.cell PB.out 1).trans rfl
         have kPB2 : v6.cell? ⟨w.heap.size, 2, none⟩ = some (.slice (some ⟨bb, off, none⟩) 1 1) := (BoxAt.cell PB.out 2).trans rfl
         have kPB3 : v6.cell? ⟨w.heap.size, 3, none⟩ = some (.slice sa M sc) := (BoxAt.cell PB.out 3).trans rfl
         have kWB0 : v6.cell? ⟨v1.heap.size, 0, none⟩ = some (.int .i64 p) := (BoxAt.cell WB.out 0).trans rfl
         have kWB1 : v6.cell? ⟨v1.heap.size, 1, none⟩ = some (.int .i64 r) := (BoxAt.cell WB.out 1).trans rfl
         have kWB2 : v6.cell? ⟨v1.heap.size, 2, none⟩ = some (.int .i64 v) := (BoxAt.cell WB.out 2).trans rfl
         have kAB2 : v6.cell? ⟨v4.heap.size, 2, none⟩ = some (.slice x.a x.n x.c) := (BoxAt.cell AB.out 2).trans rfl
         have kAB3 : v6.cell? ⟨v4.heap.size, 3, none⟩ = some (.slice u.a u.n u.c) := (BoxAt.cell AB.out 3).trans rfl
         clear b g z hfl FL5
         refine Hid.out ?_)
      | fail)
    refine hid ?_
    clear kPB0 kPB1 kPB2 kPB3 kWB0 kWB1 kWB2 kAB2 kAB3
    have kPB0 : v6.cell? ⟨w.heap.size, 0, none⟩ = some (.int .i64 d) := (BoxAt.cell PB.out 0).trans rfl
    have kPB1 : v6.cell? ⟨w.heap.size, 1, none⟩ = some (.bool k) := (BoxAt.cell PB.out 1).trans rfl
    have kPB2 : v6.cell? ⟨w.heap.size, 2, none⟩ = some (.slice (some ⟨bb, off, none⟩) 1 1) := (BoxAt.cell PB.out 2).trans rfl
    have kPB3 : v6.cell? ⟨w.heap.size, 3, none⟩ = some (.slice sa M sc) := (BoxAt.cell PB.out 3).trans rfl
    have kWB0 : v6.cell? ⟨v1.heap.size, 0, none⟩ = some (.int .i64 p) := (BoxAt.cell WB.out 0).trans rfl
    have kWB1 : v6.cell? ⟨v1.heap.size, 1, none⟩ = some (.int .i64 r) := (BoxAt.cell WB.out 1).trans rfl
    have kWB2 : v6.cell? ⟨v1.heap.size, 2, none⟩ = some (.int .i64 v) := (BoxAt.cell WB.out 2).trans rfl
    have kAB2 : v6.cell? ⟨v4.heap.size, 2, none⟩ = some (.slice x.a x.n x.c) := (BoxAt.cell AB.out 2).trans rfl
    have kAB3 : v6.cell? ⟨v4.heap.size, 3, none⟩ = some (.slice u.a u.n u.c) := (BoxAt.cell AB.out 3).trans rfl
    clear HC
    have FL6 := hid trivial
    go_wp2_with (first
      | (have hfl := FL6.out
         at_builtin
         refine app_nilI rfl (.tmp 22) rfl _ (xs.drop 1) rfl (by first | exact HD.out.below HB.out | (have := HD.out; simp only [if_neg hck] at this; exact this.below HB.out)) (by have := HXL.out; simp; omega) ?_
         intro uv7 v7 ho h
         obtain ⟨qv7, rfl, -⟩ := ho.sl
         have PB := hid (PB.out.belowAll h)
         have WB := hid (WB.out.belowAll h)
         have RB := hid (RB.out.belowAll h)
         have AB := hid (AB.out.belowAll h)
         have HU := hid (HU.out.below h)
         have HB := hid (HB.out.trans (h.mono HB.out.size))
         have hsv7 : v6.heap.size ≤ v7.heap.size := by first | exact h.size | omega
         have HT := hid ho
         clear kPB0 kPB1 kPB2 kPB3 kWB0 kWB1 kWB2 kAB2 kAB3
         have kPB0 : v7.cell? ⟨w.heap.size, 0, none⟩ = some (.int .i64 d) := (BoxAt.cell PB.out 0).trans rfl
         have kPB1 : v7.cell? ⟨w.heap.size, 1, none⟩ = some (.bool k) := (BoxAt.cell PB.out 1).trans rfl
         have kPB2 : v7.cell? ⟨w.heap.size, 2, none⟩ = some (.slice (some ⟨bb, off, none⟩) 1 1) := (BoxAt.cell PB.out 2).trans rfl
         have kPB3 : v7.cell? ⟨w.heap.size, 3, none⟩ = some (.slice sa M sc) := (BoxAt.cell PB.out 3).trans rfl
         have kWB0 : v7.cell? ⟨v1.heap.size, 0, none⟩ = some (.int .i64 p) := (BoxAt.cell WB.out 0).trans rfl
         have kWB1 : v7.cell? ⟨v1.heap.size, 1, none⟩ = some (.int .i64 r) := (BoxAt.cell WB.out 1).trans rfl
         have kWB2 : v7.cell? ⟨v1.heap.size, 2, none⟩ = some (.int .i64 v) := (BoxAt.cell WB.out 2).trans rfl
         have kAB2 : v7.cell? ⟨v4.heap.size, 2, none⟩ = some (.slice x.a x.n x.c) := (BoxAt.cell AB.out 2).trans rfl
         have kAB3 : v7.cell? ⟨v4.heap.size, 3, none⟩ = some (.slice u.a u.n u.c) := (BoxAt.cell AB.out 3).trans rfl
         clear ho h hfl FL6
         refine Hid.out ?_)
      | fail)
    refine hid ?_
    have HT := hid (HT.out.mono (base' := w.heap.size) (by omega))
    have FL7 := hid trivial
    go_wp2_with (first
      | (have hfl := FL7.out
         refine wpList_store_box rfl 22 _ _ rfl rfl (v4.heap.size) 2 (.slice qv7.a qv7.n qv7.c) rfl rfl rfl rfl (by kernel_rfl) _ _ AB.out (by simp) ?_
         intro v8 b g z
         have hsv8 : v7.heap.size ≤ v8.heap.size := by omega
         have HU := hid (HU.out.put g AB.out (by decide))
         have HT := hid (HT.out.put g AB.out (by decide))
         have AB := hid (show BoxAt v8 (v4.heap.size) 25 #[.int .i64 d, .bool k, .slice qv7.a qv7.n qv7.c, .slice u.a u.n u.c] from by simpa using b)
         have PB := hid (PB.out.grown g (fun e => by have := Option.some.inj e; omega))
         have WB := hid (WB.out.grown g (fun e => by have := Option.some.inj e; omega))
         have RB := hid (RB.out.grown g (fun e => by have := Option.some.inj e; omega))
         have HB := hid (HB.out.trans (grown_below g (by omega) (by omega)))
         clear kPB0 kPB1 kPB2 kPB3 kWB0 kWB1 kWB2 kAB2 kAB3
         have kPB0 : v8.cell? ⟨w.heap.size, 0, none⟩ = some (.int .i64 d) := (BoxAt.cell PB.out 0).trans rfl
         have kPB1 : v8.cell? ⟨w.heap.size, 1, none⟩ = some (.bool k) := (BoxAt.cell PB.out 1).trans rfl
         have kPB2 : v8.cell? ⟨w.heap.size, 2, none⟩ = some (.slice (some ⟨bb, off, none⟩) 1 1) := (BoxAt.cell PB.out 2).trans rfl
         have kPB3 : v8.cell? ⟨w.heap.size, 3, none⟩ = some (.slice sa M sc) := (BoxAt.cell PB.out 3).trans rfl
         have kWB0 : v8.cell? ⟨v1.heap.size, 0, none⟩ = some (.int .i64 p) := (BoxAt.cell WB.out 0).trans rfl
         have kWB1 : v8.cell? ⟨v1.heap.size, 1, none⟩ = some (.int .i64 r) := (BoxAt.cell WB.out 1).trans rfl
         have kWB2 : v8.cell? ⟨v1.heap.size, 2, none⟩ = some (.int .i64 v) := (BoxAt.cell WB.out 2).trans rfl
         have kAB2 : v8.cell? ⟨v4.heap.size, 2, none⟩ = some (.slice qv7.a qv7.n qv7.c) := (BoxAt.cell AB.out 2).trans rfl
         have kAB3 : v8.cell? ⟨v4.heap.size, 3, none⟩ = some (.slice u.a u.n u.c) := (BoxAt.cell AB.out 3).trans rfl
         clear b g z hfl FL7
         refine Hid.out ?_)
      | fail)
    refine hid ?_
    go_wp2_with fail
    have HBf := HB.out.size
    refine (rfirst_no (HV.out.below HB.out) H1.out).mono ?_
    rintro e v9 ⟨f, rfl, hu, hb⟩
    have PB := hid (PB.out.belowAll hb)
    have WB := hid (WB.out.belowAll hb)
    have RB := hid (RB.out.belowAll hb)
    have AB := hid (AB.out.belowAll hb)
    have HU := hid (HU.out.below hb)
    have HT := hid (HT.out.below hb)
    have HB := hid (HB.out.trans (hb.mono HB.out.size))
    have hsv9 : v8.heap.size ≤ v9.heap.size := by first | exact hb.size | omega
    have HF := hid (hu.mono HBf)
    clear hu HBf
    clear kPB0 kPB1 kPB2 kPB3 kWB0 kWB1 kWB2 kAB2 kAB3
    have kPB0 : v9.cell? ⟨w.heap.size, 0, none⟩ = some (.int .i64 d) := (BoxAt.cell PB.out 0).trans rfl
    have kPB1 : v9.cell? ⟨w.heap.size, 1, none⟩ = some (.bool k) := (BoxAt.cell PB.out 1).trans rfl
    have kPB2 : v9.cell? ⟨w.heap.size, 2, none⟩ = some (.slice (some ⟨bb, off, none⟩) 1 1) := (BoxAt.cell PB.out 2).trans rfl
    have kPB3 : v9.cell? ⟨w.heap.size, 3, none⟩ = some (.slice sa M sc) := (BoxAt.cell PB.out 3).trans rfl
    have kWB0 : v9.cell? ⟨v1.heap.size, 0, none⟩ = some (.int .i64 p) := (BoxAt.cell WB.out 0).trans rfl
    have kWB1 : v9.cell? ⟨v1.heap.size, 1, none⟩ = some (.int .i64 r) := (BoxAt.cell WB.out 1).trans rfl
    have kWB2 : v9.cell? ⟨v1.heap.size, 2, none⟩ = some (.int .i64 v) := (BoxAt.cell WB.out 2).trans rfl
    have kAB2 : v9.cell? ⟨v4.heap.size, 2, none⟩ = some (.slice qv7.a qv7.n qv7.c) := (BoxAt.cell AB.out 2).trans rfl
    have kAB3 : v9.cell? ⟨v4.heap.size, 3, none⟩ = some (.slice u.a u.n u.c) := (BoxAt.cell AB.out 3).trans rfl
    clear hb
    have HFB := hid (fun k hk => (HF.out.lt k hk).2)
    have HUB := hid (fun k hk => (HU.out.lt k hk).2)
    have FL8 := hid trivial
    have FL9 := hid trivial
    go_wp2_with (first
      | (have hfl := FL8.out
         refine wpList_new rfl 27 rfl _ Try.zeroWt ?_
         intro v10 b h z
         have FB := hid (show BoxAt v10 v9.heap.size 27 #[.int .i64 0, .int .i64 0, .int .i64 0] from b)
         have PB := hid (PB.out.belowAll h)
         have WB := hid (WB.out.belowAll h)
         have RB := hid (RB.out.belowAll h)
         have AB := hid (AB.out.belowAll h)
         have HU := hid (HU.out.below h)
         have HT := hid (HT.out.below h)
         have HF := hid (HF.out.below h)
         have HB := hid (HB.out.trans (h.mono HB.out.size))
         have hsv10 : v9.heap.size + 1 ≤ v10.heap.size := by first | exact h.size | omega
         clear kPB0 kPB1 kPB2 kPB3 kWB0 kWB1 kWB2 kAB2 kAB3
         have kPB0 : v10.cell? ⟨w.heap.size, 0, none⟩ = some (.int .i64 d) := (BoxAt.cell PB.out 0).trans rfl
         have kPB1 : v10.cell? ⟨w.heap.size, 1, none⟩ = some (.bool k) := (BoxAt.cell PB.out 1).trans rfl
         have kPB2 : v10.cell? ⟨w.heap.size, 2, none⟩ = some (.slice (some ⟨bb, off, none⟩) 1 1) := (BoxAt.cell PB.out 2).trans rfl
         have kPB3 : v10.cell? ⟨w.heap.size, 3, none⟩ = some (.slice sa M sc) := (BoxAt.cell PB.out 3).trans rfl
         have kWB0 : v10.cell? ⟨v1.heap.size, 0, none⟩ = some (.int .i64 p) := (BoxAt.cell WB.out 0).trans rfl
         have kWB1 : v10.cell? ⟨v1.heap.size, 1, none⟩ = some (.int .i64 r) := (BoxAt.cell WB.out 1).trans rfl
         have kWB2 : v10.cell? ⟨v1.heap.size, 2, none⟩ = some (.int .i64 v) := (BoxAt.cell WB.out 2).trans rfl
         have kAB2 : v10.cell? ⟨v4.heap.size, 2, none⟩ = some (.slice qv7.a qv7.n qv7.c) := (BoxAt.cell AB.out 2).trans rfl
         have kAB3 : v10.cell? ⟨v4.heap.size, 3, none⟩ = some (.slice u.a u.n u.c) := (BoxAt.cell AB.out 3).trans rfl
         clear b h z hfl FL8)
      | (have hfl := FL9.out
         refine wpList_store_whole rfl 27 _ _ rfl rfl (v9.heap.size) rfl [.int .i64 0, .int .i64 0, .int .i64 0] rfl _ _ FB.out rfl Try.infoWt (by simp [Value.oneCell']) ?_
         intro v11 b g z
         have hsv11 : v10.heap.size ≤ v11.heap.size := by omega
         have HU := hid (HU.out.apart g (fun k hk => Nat.ne_of_lt (HUB.out k hk)))
         have HT := hid (HT.out.put g FB.out (by decide))
         have HF := hid (HF.out.apart g (fun k hk => Nat.ne_of_lt (HFB.out k hk)))
         have FB := hid (show BoxAt v11 (v9.heap.size) 27 #[.int .i64 0, .int .i64 0, .int .i64 0] from b)
         have PB := hid (PB.out.grown g (fun e => by have := Option.some.inj e; omega))
         have WB := hid (WB.out.grown g (fun e => by have := Option.some.inj e; omega))
         have RB := hid (RB.out.grown g (fun e => by have := Option.some.inj e; omega))
         have AB := hid (AB.out.grown g (fun e => by have := Option.some.inj e; omega))
         have HB := hid (HB.out.trans (grown_below g (by omega) (by omega)))
         clear kPB0 kPB1 kPB2 kPB3 kWB0 kWB1 kWB2 kAB2 kAB3
         have kPB0 : v11.cell? ⟨w.heap.size, 0, none⟩ = some (.int .i64 d) := (BoxAt.cell PB.out 0).trans rfl
         have kPB1 : v11.cell? ⟨w.heap.size, 1, none⟩ = some (.bool k) := (BoxAt.cell PB.out 1).trans rfl
         have kPB2 : v11.cell? ⟨w.heap.size, 2, none⟩ = some (.slice (some ⟨bb, off, none⟩) 1 1) := (BoxAt.cell PB.out 2).trans rfl
         have kPB3 : v11.cell? ⟨w.heap.size, 3, none⟩ = some (.slice sa M sc) := (BoxAt.cell PB.out 3).trans rfl
         have kWB0 : v11.cell? ⟨v1.heap.size, 0, none⟩ = some (.int .i64 p) := (BoxAt.cell WB.out 0).trans rfl
         have kWB1 : v11.cell? ⟨v1.heap.size, 1, none⟩ = some (.int .i64 r) := (BoxAt.cell WB.out 1).trans rfl
         have kWB2 : v11.cell? ⟨v1.heap.size, 2, none⟩ = some (.int .i64 v) := (BoxAt.cell WB.out 2).trans rfl
         have kAB2 : v11.cell? ⟨v4.heap.size, 2, none⟩ = some (.slice qv7.a qv7.n qv7.c) := (BoxAt.cell AB.out 2).trans rfl
         have kAB3 : v11.cell? ⟨v4.heap.size, 3, none⟩ = some (.slice u.a u.n u.c) := (BoxAt.cell AB.out 3).trans rfl
         have kFB0 : v11.cell? ⟨v9.heap.size, 0, none⟩ = some (.int .i64 0) := (BoxAt.cell FB.out 0).trans rfl
         have kFB2 : v11.cell? ⟨v9.heap.size, 2, none⟩ = some (.int .i64 0) := (BoxAt.cell FB.out 2).trans rfl
         clear b g z hfl FL9
         refine Hid.out ?_)
      | fail)
    refine hid ?_
    clear kPB0 kPB1 kPB2 kPB3 kWB0 kWB1 kWB2 kAB2 kAB3 kFB0 kFB2
    have kPB0 : v11.cell? ⟨w.heap.size, 0, none⟩ = some (.int .i64 d) := (BoxAt.cell PB.out 0).trans rfl
    have kPB1 : v11.cell? ⟨w.heap.size, 1, none⟩ = some (.bool k) := (BoxAt.cell PB.out 1).trans rfl
    have kPB2 : v11.cell? ⟨w.heap.size, 2, none⟩ = some (.slice (some ⟨bb, off, none⟩) 1 1) := (BoxAt.cell PB.out 2).trans rfl
    have kPB3 : v11.cell? ⟨w.heap.size, 3, none⟩ = some (.slice sa M sc) := (BoxAt.cell PB.out 3).trans rfl
    have kWB0 : v11.cell? ⟨v1.heap.size, 0, none⟩ = some (.int .i64 p) := (BoxAt.cell WB.out 0).trans rfl
    have kWB1 : v11.cell? ⟨v1.heap.size, 1, none⟩ = some (.int .i64 r) := (BoxAt.cell WB.out 1).trans rfl
    have kWB2 : v11.cell? ⟨v1.heap.size, 2, none⟩ = some (.int .i64 v) := (BoxAt.cell WB.out 2).trans rfl
    have kAB2 : v11.cell? ⟨v4.heap.size, 2, none⟩ = some (.slice qv7.a qv7.n qv7.c) := (BoxAt.cell AB.out 2).trans rfl
    have kAB3 : v11.cell? ⟨v4.heap.size, 3, none⟩ = some (.slice u.a u.n u.c) := (BoxAt.cell AB.out 3).trans rfl
    have kFB0 : v11.cell? ⟨v9.heap.size, 0, none⟩ = some (.int .i64 0) := (BoxAt.cell FB.out 0).trans rfl
    have kFB2 : v11.cell? ⟨v9.heap.size, 2, none⟩ = some (.int .i64 0) := (BoxAt.cell FB.out 2).trans rfl
    go_wp2_with fail
    clear kPB0 kPB1 kPB2 kPB3 kWB0 kWB1 kWB2 kAB2 kAB3 kFB0 kFB2
    have PB := hid (BoxAt.drew PB.out)
    have WB := hid (BoxAt.drew WB.out)
    have RB := hid (BoxAt.drew RB.out)
    have AB := hid (BoxAt.drew AB.out)
    have FB := hid (BoxAt.drew FB.out)
    have HU := hid (HU.out.below ((Below.refl v11.heap.size v11).drew))
    have HT := hid (HT.out.below ((Below.refl v11.heap.size v11).drew))
    have HF := hid (HF.out.below ((Below.refl v11.heap.size v11).drew))
    have HB := hid HB.out.drew
    have hsv12 : v11.heap.size ≤ v11.drew.heap.size := Nat.le_refl _
    refine wp_region_held_drew (S := (fun w' : World => BoxAt w' (v4.heap.size) 25 #[.int .i64 d, .bool k, .slice qv7.a qv7.n qv7.c, .slice u.a u.n u.c] ∧ BoxAt w' (w.heap.size) 25 #[.int .i64 d, .bool k, .slice (some ⟨bb, off, none⟩) 1 1, .slice sa M sc] ∧ w'.cell? ⟨bb, off, none⟩ = some (.int .i64 e0))) (by kernel_rfl) (⟨AB.out, PB.out, (HB.out.cell (by exact hbw)).trans C0.out⟩) (fun hHeld => ?_)
    generalize v11.drew = v12 at *
    refine wpAnyH_take (i := 0) (oi := { dst := some 34, op := Op.load 25 (Operand.tmp 10), type := 25, pos := "ref.go:43", after := _, guard := none }) (v := ?_) rfl (by kernel_rfl) (by kernel_rfl) (by kernel_rfl) (fun _ _ _ h => h) (Or.inl ⟨by rfl, ?_⟩) (by assumption) ?_
    rotate_left
    · (intro W hSw; (try dsimp only at hSw); obtain ⟨x0, x1, x2⟩ := hSw; have c0_0 : W.cell? ⟨v4.heap.size, 0, none⟩ = some (.int .i64 d) := (BoxAt.cell x0 0).trans rfl; have c0_1 : W.cell? ⟨v4.heap.size, 1, none⟩ = some (.bool k) := (BoxAt.cell x0 1).trans rfl; have c0_2 : W.cell? ⟨v4.heap.size, 2, none⟩ = some (.slice qv7.a qv7.n qv7.c) := (BoxAt.cell x0 2).trans rfl; have c0_3 : W.cell? ⟨v4.heap.size, 3, none⟩ = some (.slice u.a u.n u.c) := (BoxAt.cell x0 3).trans rfl; have c1_0 : W.cell? ⟨w.heap.size, 0, none⟩ = some (.int .i64 d) := (BoxAt.cell x1 0).trans rfl; have c1_1 : W.cell? ⟨w.heap.size, 1, none⟩ = some (.bool k) := (BoxAt.cell x1 1).trans rfl; have c1_2 : W.cell? ⟨w.heap.size, 2, none⟩ = some (.slice (some ⟨bb, off, none⟩) 1 1) := (BoxAt.cell x1 2).trans rfl; have c1_3 : W.cell? ⟨w.heap.size, 3, none⟩ = some (.slice sa M sc) := (BoxAt.cell x1 3).trans rfl; clear x0 x1; go_simp; try with_reducible rfl)
    simp only [Act.put, List.setIfInBounds_toArray, List.set_cons_zero, List.set_cons_succ]
    refine wpAnyH_take (i := 1) (oi := { dst := some 35, op := Op.fieldAddr 25 (Operand.tmp 3) 2, type := 0, pos := "ref.go:43", after := _, guard := none }) (v := ?_) rfl (by kernel_rfl) (by kernel_rfl) (by kernel_rfl) (fun _ _ _ h => h) (Or.inl ⟨by rfl, ?_⟩) (by assumption) ?_
    rotate_left
    · (intro w hSw; (try dsimp only at hSw); go_simp; try with_reducible rfl)
    simp only [Act.put, List.setIfInBounds_toArray, List.set_cons_zero, List.set_cons_succ]
    refine wpAnyH_take (i := 2) (oi := { dst := some 36, op := Op.load 22 (Operand.tmp 35), type := 22, pos := "ref.go:43", after := _, guard := none }) (v := ?_) rfl (by kernel_rfl) (by kernel_rfl) (by kernel_rfl) (fun _ _ _ h => h) (Or.inl ⟨by rfl, ?_⟩) (by assumption) ?_
    rotate_left
    · (intro W hSw; (try dsimp only at hSw); obtain ⟨x0, x1, x2⟩ := hSw; have c0_0 : W.cell? ⟨v4.heap.size, 0, none⟩ = some (.int .i64 d) := (BoxAt.cell x0 0).trans rfl; have c0_1 : W.cell? ⟨v4.heap.size, 1, none⟩ = some (.bool k) := (BoxAt.cell x0 1).trans rfl; have c0_2 : W.cell? ⟨v4.heap.size, 2, none⟩ = some (.slice qv7.a qv7.n qv7.c) := (BoxAt.cell x0 2).trans rfl; have c0_3 : W.cell? ⟨v4.heap.size, 3, none⟩ = some (.slice u.a u.n u.c) := (BoxAt.cell x0 3).trans rfl; have c1_0 : W.cell? ⟨w.heap.size, 0, none⟩ = some (.int .i64 d) := (BoxAt.cell x1 0).trans rfl; have c1_1 : W.cell? ⟨w.heap.size, 1, none⟩ = some (.bool k) := (BoxAt.cell x1 1).trans rfl; have c1_2 : W.cell? ⟨w.heap.size, 2, none⟩ = some (.slice (some ⟨bb, off, none⟩) 1 1) := (BoxAt.cell x1 2).trans rfl; have c1_3 : W.cell? ⟨w.heap.size, 3, none⟩ = some (.slice sa M sc) := (BoxAt.cell x1 3).trans rfl; clear x0 x1; go_simp; try with_reducible rfl)
    simp only [Act.put, List.setIfInBounds_toArray, List.set_cons_zero, List.set_cons_succ]
    refine wpAnyH_take (i := 3) (oi := { dst := some 37, op := Op.indexAddr 22 (Operand.tmp 36) (Operand.const (Value.int IntKind.i64 0)), type := 0, pos := "ref.go:43", after := _, guard := none }) (v := ?_) rfl (by kernel_rfl) (by kernel_rfl) (by kernel_rfl) (fun _ _ _ h => h) (Or.inl ⟨by rfl, ?_⟩) (by assumption) ?_
    rotate_left
    · (intro w hSw; (try dsimp only at hSw); go_simp; try with_reducible rfl)
    simp only [Act.put, List.setIfInBounds_toArray, List.set_cons_zero, List.set_cons_succ]
    refine wpAnyH_take (i := 4) (oi := { dst := some 38, op := Op.load 3 (Operand.tmp 37), type := 3, pos := "ref.go:43", after := _, guard := none }) (v := ?_) rfl (by kernel_rfl) (by kernel_rfl) (by kernel_rfl) (fun _ _ _ h => h) (Or.inl ⟨by rfl, ?_⟩) (by assumption) ?_
    rotate_left
    · (intro W hSw; (try dsimp only at hSw); obtain ⟨x0, x1, x2⟩ := hSw; have c0_0 : W.cell? ⟨v4.heap.size, 0, none⟩ = some (.int .i64 d) := (BoxAt.cell x0 0).trans rfl; have c0_1 : W.cell? ⟨v4.heap.size, 1, none⟩ = some (.bool k) := (BoxAt.cell x0 1).trans rfl; have c0_2 : W.cell? ⟨v4.heap.size, 2, none⟩ = some (.slice qv7.a qv7.n qv7.c) := (BoxAt.cell x0 2).trans rfl; have c0_3 : W.cell? ⟨v4.heap.size, 3, none⟩ = some (.slice u.a u.n u.c) := (BoxAt.cell x0 3).trans rfl; have c1_0 : W.cell? ⟨w.heap.size, 0, none⟩ = some (.int .i64 d) := (BoxAt.cell x1 0).trans rfl; have c1_1 : W.cell? ⟨w.heap.size, 1, none⟩ = some (.bool k) := (BoxAt.cell x1 1).trans rfl; have c1_2 : W.cell? ⟨w.heap.size, 2, none⟩ = some (.slice (some ⟨bb, off, none⟩) 1 1) := (BoxAt.cell x1 2).trans rfl; have c1_3 : W.cell? ⟨w.heap.size, 3, none⟩ = some (.slice sa M sc) := (BoxAt.cell x1 3).trans rfl; clear x0 x1; go_simp; try with_reducible rfl)
    simp only [Act.put, List.setIfInBounds_toArray, List.set_cons_zero, List.set_cons_succ]
    refine wpAnyH_ready (rs := [5]) (by kernel_rfl) (by simp) (AllReadyH.cons (o := { dst := none, op := Op.store 25 (Operand.tmp 6) (Operand.tmp 34), type := 0, pos := "ref.go:43", after := _, guard := none }) rfl (fun K1006 hK1006 => ?_) AllReadyH.nil)
    refine step_store_whole rfl 25 _ _ rfl (v2.heap.size) rfl [.int .i64 d, .bool k, .slice qv7.a qv7.n qv7.c, .slice u.a u.n u.c] rfl _ _ RB.out rfl Try.infoBf (by simp [Value.oneCell']) ?_
    intro v13 b g z
    have hsv13 : v12.heap.size ≤ v13.heap.size := by omega
    have HU := hid (HU.out.put g RB.out (by decide))
    have HT := hid (HT.out.put g RB.out (by decide))
    have HF := hid (HF.out.put g RB.out (by decide))
    have RB := hid (show BoxAt v13 (v2.heap.size) 25 #[.int .i64 d, .bool k, .slice qv7.a qv7.n qv7.c, .slice u.a u.n u.c] from b)
    have PB := hid (PB.out.grown g (fun e => by have := Option.some.inj e; omega))
    have WB := hid (WB.out.grown g (fun e => by have := Option.some.inj e; omega))
    have AB := hid (AB.out.grown g (fun e => by have := Option.some.inj e; omega))
    have FB := hid (FB.out.grown g (fun e => by have := Option.some.inj e; omega))
    have HB := hid (HB.out.trans (grown_below g (by omega) (by omega)))
    clear b g z
    refine hK1006.out _ _ (⟨AB.out, PB.out, (HB.out.cell (by exact hbw)).trans C0.out⟩) (fun hHeld1006 => ?_)
    clear hK1006 K1006
    try simp only [Act.put]
    refine wpAnyH_take (i := 6) (oi := { dst := some 7, op := Op.assign (Operand.const (Value.int IntKind.i64 0)), type := 3, pos := "ref.go:43", after := _, guard := none }) (v := ?_) rfl (by kernel_rfl) (by kernel_rfl) (by kernel_rfl) (fun _ _ _ h => h) (Or.inl ⟨by rfl, ?_⟩) (by assumption) ?_
    rotate_left
    · (intro w hSw; (try dsimp only at hSw); go_simp; try with_reducible rfl)
    simp only [Act.put, List.setIfInBounds_toArray, List.set_cons_zero, List.set_cons_succ]
    refine wpAnyH_take (i := 7) (oi := { dst := some 8, op := Op.assign (Operand.tmp 38), type := 3, pos := "ref.go:43", after := _, guard := none }) (v := ?_) rfl (by kernel_rfl) (by kernel_rfl) (by kernel_rfl) (fun _ _ _ h => h) (Or.inl ⟨by rfl, ?_⟩) (by assumption) ?_
    rotate_left
    · (intro w hSw; (try dsimp only at hSw); go_simp; try with_reducible rfl)
    simp only [Act.put, List.setIfInBounds_toArray, List.set_cons_zero, List.set_cons_succ]
    refine wpAnyH_take (i := 8) (oi := { dst := some 9, op := Op.assign (Operand.const (Value.slice none 0 0)), type := 29, pos := "ref.go:43", after := _, guard := none }) (v := ?_) rfl (by kernel_rfl) (by kernel_rfl) (by kernel_rfl) (fun _ _ _ h => h) (Or.inl ⟨by rfl, ?_⟩) (by assumption) ?_
    rotate_left
    · (intro w hSw; (try dsimp only at hSw); go_simp; try with_reducible rfl)
    simp only [Act.put, List.setIfInBounds_toArray, List.set_cons_zero, List.set_cons_succ]
    refine wpAnyH_done (by kernel_rfl) ?_ _
    clear hHeld hHeld1006
    have kPB0 : v13.cell? ⟨w.heap.size, 0, none⟩ = some (.int .i64 d) := (BoxAt.cell PB.out 0).trans rfl
    have kPB1 : v13.cell? ⟨w.heap.size, 1, none⟩ = some (.bool k) := (BoxAt.cell PB.out 1).trans rfl
    have kPB2 : v13.cell? ⟨w.heap.size, 2, none⟩ = some (.slice (some ⟨bb, off, none⟩) 1 1) := (BoxAt.cell PB.out 2).trans rfl
    have kPB3 : v13.cell? ⟨w.heap.size, 3, none⟩ = some (.slice sa M sc) := (BoxAt.cell PB.out 3).trans rfl
    have kWB0 : v13.cell? ⟨v1.heap.size, 0, none⟩ = some (.int .i64 p) := (BoxAt.cell WB.out 0).trans rfl
    have kWB1 : v13.cell? ⟨v1.heap.size, 1, none⟩ = some (.int .i64 r) := (BoxAt.cell WB.out 1).trans rfl
    have kWB2 : v13.cell? ⟨v1.heap.size, 2, none⟩ = some (.int .i64 v) := (BoxAt.cell WB.out 2).trans rfl
    have kAB2 : v13.cell? ⟨v4.heap.size, 2, none⟩ = some (.slice qv7.a qv7.n qv7.c) := (BoxAt.cell AB.out 2).trans rfl
    have kAB3 : v13.cell? ⟨v4.heap.size, 3, none⟩ = some (.slice u.a u.n u.c) := (BoxAt.cell AB.out 3).trans rfl
    have kFB0 : v13.cell? ⟨v9.heap.size, 0, none⟩ = some (.int .i64 0) := (BoxAt.cell FB.out 0).trans rfl
    have kFB2 : v13.cell? ⟨v9.heap.size, 2, none⟩ = some (.int .i64 0) := (BoxAt.cell FB.out 2).trans rfl
    go_wp2_with fail
    refine bodyPost_ret (results_box_tmp3 rfl _ _ (v2.heap.size) 25 _ (0, 0) _ rfl RB.out Try.underlying25 rfl Try.infoBf) rfl ?_
    exact ⟨qv7, u, ⟨none, 0, 0⟩, rfl, HT.out, by have := HU.out; rwa [List.eq_nil_of_length_eq_zero H1.out] at this, OWk.nil _ _, HB.out⟩
  case neg =>
    have HB := hid (Below.refl w.heap.size w)
    go_enter Try.func14, Try.ntmps14
    have FL1 := hid trivial
    have FL2 := hid trivial
    have FL3 := hid trivial
    go_wp2_with (first
      | (have hfl := FL1.out
         refine wpList_box rfl 25 (.tmp 0) rfl #[.int .i64 d, .bool k, .slice (some ⟨bb, off, none⟩) N xc, .slice sa M sc] rfl ?_
         intro v1 b h z
         have PB := hid (show BoxAt v1 w.heap.size 25 #[.int .i64 d, .bool k, .slice (some ⟨bb, off, none⟩) N xc, .slice sa M sc] from b)
         have HB := hid (HB.out.trans (h.mono HB.out.size))
         have hsv1 : w.heap.size + 1 ≤ v1.heap.size := by first | exact h.size | omega
         clear b h z hfl FL1)
      | (have hfl := FL2.out
         refine wpList_box rfl 27 (.tmp 1) rfl #[.int .i64 p, .int .i64 r, .int .i64 v] rfl ?_
         intro v2 b h z
         have WB := hid (show BoxAt v2 v1.heap.size 27 #[.int .i64 p, .int .i64 r, .int .i64 v] from b)
         have PB := hid (PB.out.belowAll h)
         have HB := hid (HB.out.trans (h.mono HB.out.size))
         have hsv2 : v1.heap.size + 1 ≤ v2.heap.size := by first | exact h.size | omega
         have kPB0 : v2.cell? ⟨w.heap.size, 0, none⟩ = some (.int .i64 d) := (BoxAt.cell PB.out 0).trans rfl
         have kPB1 : v2.cell? ⟨w.heap.size, 1, none⟩ = some (.bool k) := (BoxAt.cell PB.out 1).trans rfl
         have kPB2 : v2.cell? ⟨w.heap.size, 2, none⟩ = some (.slice (some ⟨bb, off, none⟩) N xc) := (BoxAt.cell PB.out 2).trans rfl
         have kPB3 : v2.cell? ⟨w.heap.size, 3, none⟩ = some (.slice sa M sc) := (BoxAt.cell PB.out 3).trans rfl
         clear b h z hfl FL2)
      | (have hfl := FL3.out
         refine wpList_new rfl 25 rfl _ Try.zeroBf ?_
         intro v3 b h z
         have RB := hid (show BoxAt v3 v2.heap.size 25 #[.int .i64 0, .bool false, .slice none 0 0, .slice none 0 0] from b)
         have PB := hid (PB.out.belowAll h)
         have WB := hid (WB.out.belowAll h)
         have HB := hid (HB.out.trans (h.mono HB.out.size))
         have hsv3 : v2.heap.size + 1 ≤ v3.heap.size := by first | exact h.size | omega
         clear kPB0 kPB1 kPB2 kPB3
         have kPB0 : v3.cell? ⟨w.heap.size, 0, none⟩ = some (.int .i64 d) := (BoxAt.cell PB.out 0).trans rfl
         have kPB1 : v3.cell? ⟨w.heap.size, 1, none⟩ = some (.bool k) := (BoxAt.cell PB.out 1).trans rfl
         have kPB2 : v3.cell? ⟨w.heap.size, 2, none⟩ = some (.slice (some ⟨bb, off, none⟩) N xc) := (BoxAt.cell PB.out 2).trans rfl
         have kPB3 : v3.cell? ⟨w.heap.size, 3, none⟩ = some (.slice sa M sc) := (BoxAt.cell PB.out 3).trans rfl
         have kWB0 : v3.cell? ⟨v1.heap.size, 0, none⟩ = some (.int .i64 p) := (BoxAt.cell WB.out 0).trans rfl
         have kWB1 : v3.cell? ⟨v1.heap.size, 1, none⟩ = some (.int .i64 r) := (BoxAt.cell WB.out 1).trans rfl
         have kWB2 : v3.cell? ⟨v1.heap.size, 2, none⟩ = some (.int .i64 v) := (BoxAt.cell WB.out 2).trans rfl
         clear b h z hfl FL3
         refine Hid.out ?_)
      | fail)
    refine hid ?_
    clear kPB0 kPB1 kPB2 kPB3 kWB0 kWB1 kWB2
    have kPB0 : v3.cell? ⟨w.heap.size, 0, none⟩ = some (.int .i64 d) := (BoxAt.cell PB.out 0).trans rfl
    have kPB1 : v3.cell? ⟨w.heap.size, 1, none⟩ = some (.bool k) := (BoxAt.cell PB.out 1).trans rfl
    have kPB2 : v3.cell? ⟨w.heap.size, 2, none⟩ = some (.slice (some ⟨bb, off, none⟩) N xc) := (BoxAt.cell PB.out 2).trans rfl
    have kPB3 : v3.cell? ⟨w.heap.size, 3, none⟩ = some (.slice sa M sc) := (BoxAt.cell PB.out 3).trans rfl
    have kWB0 : v3.cell? ⟨v1.heap.size, 0, none⟩ = some (.int .i64 p) := (BoxAt.cell WB.out 0).trans rfl
    have kWB1 : v3.cell? ⟨v1.heap.size, 1, none⟩ = some (.int .i64 r) := (BoxAt.cell WB.out 1).trans rfl
    have kWB2 : v3.cell? ⟨v1.heap.size, 2, none⟩ = some (.int .i64 v) := (BoxAt.cell WB.out 2).trans rfl
    go_wp2_with (first
      | (refine wpList_load_box rfl 25 _ rfl (w.heap.size) rfl _ _ PB.out _ Try.underlying25 Try.infoBf ?_)
      | fail)
    have HBw := HB.out.size
    refine (rbown_any d k (vs := ⟨(some ⟨bb, off, none⟩), N, xc⟩) (s := ⟨sa, M, sc⟩) (HX.out.below HB.out) (HV.out.below HB.out) HXL.out HL.out).mono ?_
    rintro e v4 ⟨x, u, rfl, hc, hu, hb⟩
    have PB := hid (PB.out.belowAll hb)
    have WB := hid (WB.out.belowAll hb)
    have RB := hid (RB.out.belowAll hb)
    have HB := hid (HB.out.trans (hb.mono HB.out.size))
    have hsv4 : v3.heap.size ≤ v4.heap.size := by first | exact hb.size | omega
    have HC := hid (hc.mono HBw)
    have HU := hid (hu.mono HBw)
    clear hc hu HBw
    simp only [Sl.val] at HC HU
    clear kPB0 kPB1 kPB2 kPB3 kWB0 kWB1 kWB2
    have kPB0 : v4.cell? ⟨w.heap.size, 0, none⟩ = some (.int .i64 d) := (BoxAt.cell PB.out 0).trans rfl
    have kPB1 : v4.cell? ⟨w.heap.size, 1, none⟩ = some (.bool k) := (BoxAt.cell PB.out 1).trans rfl
    have kPB2 : v4.cell? ⟨w.heap.size, 2, none⟩ = some (.slice (some ⟨bb, off, none⟩) N xc) := (BoxAt.cell PB.out 2).trans rfl
    have kPB3 : v4.cell? ⟨w.heap.size, 3, none⟩ = some (.slice sa M sc) := (BoxAt.cell PB.out 3).trans rfl
    have kWB0 : v4.cell? ⟨v1.heap.size, 0, none⟩ = some (.int .i64 p) := (BoxAt.cell WB.out 0).trans rfl
    have kWB1 : v4.cell? ⟨v1.heap.size, 1, none⟩ = some (.int .i64 r) := (BoxAt.cell WB.out 1).trans rfl
    have kWB2 : v4.cell? ⟨v1.heap.size, 2, none⟩ = some (.int .i64 v) := (BoxAt.cell WB.out 2).trans rfl
    clear hb
    have FL4 := hid trivial
    have FL5 := hid trivial
    go_wp2_with (first
      | (have hfl := FL4.out
         refine wpList_new rfl 25 rfl _ Try.zeroBf ?_
         intro v5 b h z
         have AB := hid (show BoxAt v5 v4.heap.size 25 #[.int .i64 0, .bool false, .slice none 0 0, .slice none 0 0] from b)
         have PB := hid (PB.out.belowAll h)
         have WB := hid (WB.out.belowAll h)
         have RB := hid (RB.out.belowAll h)
         have HC := hid (HC.out.below h)
         have HU := hid (HU.out.below h)
         have HB := hid (HB.out.trans (h.mono HB.out.size))
         have hsv5 : v4.heap.size + 1 ≤ v5.heap.size := by first | exact h.size | omega
         clear kPB0 kPB1 kPB2 kPB3 kWB0 kWB1 kWB2
         have kPB0 : v5.cell? ⟨w.heap.size, 0, none⟩ = some (.int .i64 d) := (BoxAt.cell PB.out 0).trans rfl
         have kPB1 : v5.cell? ⟨w.heap.size, 1, none⟩ = some (.bool k) := (BoxAt.cell PB.out 1).trans rfl
         have kPB2 : v5.cell? ⟨w.heap.size, 2, none⟩ = some (.slice (some ⟨bb, off, none⟩) N xc) := (BoxAt.cell PB.out 2).trans rfl
         have kPB3 : v5.cell? ⟨w.heap.size, 3, none⟩ = some (.slice sa M sc) := (BoxAt.cell PB.out 3).trans rfl
         have kWB0 : v5.cell? ⟨v1.heap.size, 0, none⟩ = some (.int .i64 p) := (BoxAt.cell WB.out 0).trans rfl
         have kWB1 : v5.cell? ⟨v1.heap.size, 1, none⟩ = some (.int .i64 r) := (BoxAt.cell WB.out 1).trans rfl
         have kWB2 : v5.cell? ⟨v1.heap.size, 2, none⟩ = some (.int .i64 v) := (BoxAt.cell WB.out 2).trans rfl
         clear b h z hfl FL4)
      | (have hfl := FL5.out
         refine wpList_store_whole rfl 25 _ _ rfl rfl (v4.heap.size) rfl [.int .i64 d, .bool k, .slice x.a x.n x.c, .slice u.a u.n u.c] rfl _ _ AB.out rfl Try.infoBf (by simp [Value.oneCell']) ?_
         intro v6 b g z
         have hsv6 : v5.heap.size ≤ v6.heap.size := by omega
         have HC := hid (HC.out.put g AB.out (by decide))
         have HU := hid (HU.out.put g AB.out (by decide))
         have AB := hid (show BoxAt v6 (v4.heap.size) 25 #[.int .i64 d, .bool k, .slice x.a x.n x.c, .slice u.a u.n u.c] from b)
         have PB := hid (PB.out.grown g (fun e => by have := Option.some.inj e; omega))
         have WB := hid (WB.out.grown g (fun e => by have := Option.some.inj e; omega))
         have RB := hid (RB.out.grown g (fun e => by have := Option.some.inj e; omega))
         have HB := hid (HB.out.trans (grown_below g (by omega) (by omega)))
         clear kPB0 kPB1 kPB2 kPB3 kWB0 kWB1 kWB2
         have kPB0 : v6.cell? ⟨w.heap.size, 0, none⟩ = some (.int .i64 d) := (BoxAt.cell PB.out 0).trans rfl
         have kPB1 : v6.cell? ⟨w.heap.size, 1, none⟩ = some (.bool k) := (BoxAt.cell PB.out 1).trans rfl
         have kPB2 : v6.cell? ⟨w.heap.size, 2, none⟩ = some (.slice (some ⟨bb, off, none⟩) N xc) := (BoxAt.cell PB.out 2).trans rfl
         have kPB3 : v6.cell? ⟨w.heap.size, 3, none⟩ = some (.slice sa M sc) := (BoxAt.cell PB.out 3).trans rfl
         have kWB0 : v6.cell? ⟨v1.heap.size, 0, none⟩ = some (.int .i64 p) := (BoxAt.cell WB.out 0).trans rfl
         have kWB1 : v6.cell? ⟨v1.heap.size, 1, none⟩ = some (.int .i64 r) := (BoxAt.cell WB.out 1).trans rfl
         have kWB2 : v6.cell? ⟨v1.heap.size, 2, none⟩ = some (.int .i64 v) := (BoxAt.cell WB.out 2).trans rfl
         have kAB2 : v6.cell? ⟨v4.heap.size, 2, none⟩ = some (.slice x.a x.n x.c) := (BoxAt.cell AB.out 2).trans rfl
         have kAB3 : v6.cell? ⟨v4.heap.size, 3, none⟩ = some (.slice u.a u.n u.c) := (BoxAt.cell AB.out 3).trans rfl
         clear b g z hfl FL5
         refine Hid.out ?_)
      | fail)
    refine hid ?_
    clear kPB0 kPB1 kPB2 kPB3 kWB0 kWB1 kWB2 kAB2 kAB3
    have kPB0 : v6.cell? ⟨w.heap.size, 0, none⟩ = some (.int .i64 d) := (BoxAt.cell PB.out 0).trans rfl
    have kPB1 : v6.cell? ⟨w.heap.size, 1, none⟩ = some (.bool k) := (BoxAt.cell PB.out 1).trans rfl
    have kPB2 : v6.cell? ⟨w.heap.size, 2, none⟩ = some (.slice (some ⟨bb, off, none⟩) N xc) := (BoxAt.cell PB.out 2).trans rfl
    have kPB3 : v6.cell? ⟨w.heap.size, 3, none⟩ = some (.slice sa M sc) := (BoxAt.cell PB.out 3).trans rfl
    have kWB0 : v6.cell? ⟨v1.heap.size, 0, none⟩ = some (.int .i64 p) := (BoxAt.cell WB.out 0).trans rfl
    have kWB1 : v6.cell? ⟨v1.heap.size, 1, none⟩ = some (.int .i64 r) := (BoxAt.cell WB.out 1).trans rfl
    have kWB2 : v6.cell? ⟨v1.heap.size, 2, none⟩ = some (.int .i64 v) := (BoxAt.cell WB.out 2).trans rfl
    have kAB2 : v6.cell? ⟨v4.heap.size, 2, none⟩ = some (.slice x.a x.n x.c) := (BoxAt.cell AB.out 2).trans rfl
    have kAB3 : v6.cell? ⟨v4.heap.size, 3, none⟩ = some (.slice u.a u.n u.c) := (BoxAt.cell AB.out 3).trans rfl
    clear HC
    have FL6 := hid trivial
    go_wp2_with (first
      | (have hfl := FL6.out
         at_builtin
         refine app_nilI rfl (.tmp 22) rfl _ (xs.drop 1) rfl (by first | exact HD.out.below HB.out | (have := HD.out; simp only [if_neg hck] at this; exact this.below HB.out)) (by have := HXL.out; simp; omega) ?_
         intro uv7 v7 ho h
         obtain ⟨qv7, rfl, -⟩ := ho.sl
         have PB := hid (PB.out.belowAll h)
         have WB := hid (WB.out.belowAll h)
         have RB := hid (RB.out.belowAll h)
         have AB := hid (AB.out.belowAll h)
         have HU := hid (HU.out.below h)
         have HB := hid (HB.out.trans (h.mono HB.out.size))
         have hsv7 : v6.heap.size ≤ v7.heap.size := by first | exact h.size | omega
         have HT := hid ho
         clear kPB0 kPB1 kPB2 kPB3 kWB0 kWB1 kWB2 kAB2 kAB3
         have kPB0 : v7.cell? ⟨w.heap.size, 0, none⟩ = some (.int .i64 d) := (BoxAt.cell PB.out 0).trans rfl
         have kPB1 : v7.cell? ⟨w.heap.size, 1, none⟩ = some (.bool k) := (BoxAt.cell PB.out 1).trans rfl
         have kPB2 : v7.cell? ⟨w.heap.size, 2, none⟩ = some (.slice (some ⟨bb, off, none⟩) N xc) := (BoxAt.cell PB.out 2).trans rfl
         have kPB3 : v7.cell? ⟨w.heap.size, 3, none⟩ = some (.slice sa M sc) := (BoxAt.cell PB.out 3).trans rfl
         have kWB0 : v7.cell? ⟨v1.heap.size, 0, none⟩ = some (.int .i64 p) := (BoxAt.cell WB.out 0).trans rfl
         have kWB1 : v7.cell? ⟨v1.heap.size, 1, none⟩ = some (.int .i64 r) := (BoxAt.cell WB.out 1).trans rfl
         have kWB2 : v7.cell? ⟨v1.heap.size, 2, none⟩ = some (.int .i64 v) := (BoxAt.cell WB.out 2).trans rfl
         have kAB2 : v7.cell? ⟨v4.heap.size, 2, none⟩ = some (.slice x.a x.n x.c) := (BoxAt.cell AB.out 2).trans rfl
         have kAB3 : v7.cell? ⟨v4.heap.size, 3, none⟩ = some (.slice u.a u.n u.c) := (BoxAt.cell AB.out 3).trans rfl
         clear ho h hfl FL6
         refine Hid.out ?_)
      | fail)
    refine hid ?_
    have HT := hid (HT.out.mono (base' := w.heap.size) (by omega))
    have FL7 := hid trivial
    go_wp2_with (first
      | (have hfl := FL7.out
         refine wpList_store_box rfl 22 _ _ rfl rfl (v4.heap.size) 2 (.slice qv7.a qv7.n qv7.c) rfl rfl rfl rfl (by kernel_rfl) _ _ AB.out (by simp) ?_
         intro v8 b g z
         have hsv8 : v7.heap.size ≤ v8.heap.size := by omega
         have HU := hid (HU.out.put g AB.out (by decide))
         have HT := hid (HT.out.put g AB.out (by decide))
         have AB := hid (show BoxAt v8 (v4.heap.size) 25 #[.int .i64 d, .bool k, .slice qv7.a qv7.n qv7.c, .slice u.a u.n u.c] from by simpa using b)
         have PB := hid (PB.out.grown g (fun e => by have := Option.some.inj e; omega))
         have WB := hid (WB.out.grown g (fun e => by have := Option.some.inj e; omega))
         have RB := hid (RB.out.grown g (fun e => by have := Option.some.inj e; omega))
         have HB := hid (HB.out.trans (grown_below g (by omega) (by omega)))
         clear kPB0 kPB1 kPB2 kPB3 kWB0 kWB1 kWB2 kAB2 kAB3
         have kPB0 : v8.cell? ⟨w.heap.size, 0, none⟩ = some (.int .i64 d) := (BoxAt.cell PB.out 0).trans rfl
         have kPB1 : v8.cell? ⟨w.heap.size, 1, none⟩ = some (.bool k) := (BoxAt.cell PB.out 1).trans rfl
         have kPB2 : v8.cell? ⟨w.heap.size, 2, none⟩ = some (.slice (some ⟨bb, off, none⟩) N xc) := (BoxAt.cell PB.out 2).trans rfl
         have kPB3 : v8.cell? ⟨w.heap.size, 3, none⟩ = some (.slice sa M sc) := (BoxAt.cell PB.out 3).trans rfl
         have kWB0 : v8.cell? ⟨v1.heap.size, 0, none⟩ = some (.int .i64 p) := (BoxAt.cell WB.out 0).trans rfl
         have kWB1 : v8.cell? ⟨v1.heap.size, 1, none⟩ = some (.int .i64 r) := (BoxAt.cell WB.out 1).trans rfl
         have kWB2 : v8.cell? ⟨v1.heap.size, 2, none⟩ = some (.int .i64 v) := (BoxAt.cell WB.out 2).trans rfl
         have kAB2 : v8.cell? ⟨v4.heap.size, 2, none⟩ = some (.slice qv7.a qv7.n qv7.c) := (BoxAt.cell AB.out 2).trans rfl
         have kAB3 : v8.cell? ⟨v4.heap.size, 3, none⟩ = some (.slice u.a u.n u.c) := (BoxAt.cell AB.out 3).trans rfl
         clear b g z hfl FL7
         refine Hid.out ?_)
      | fail)
    refine hid ?_
    go_wp2_with fail
    have HBf := HB.out.size
    refine (rfirst_no (HV.out.below HB.out) H1.out).mono ?_
    rintro e v9 ⟨f, rfl, hu, hb⟩
    have PB := hid (PB.out.belowAll hb)
    have WB := hid (WB.out.belowAll hb)
    have RB := hid (RB.out.belowAll hb)
    have AB := hid (AB.out.belowAll hb)
    have HU := hid (HU.out.below hb)
    have HT := hid (HT.out.below hb)
    have HB := hid (HB.out.trans (hb.mono HB.out.size))
    have hsv9 : v8.heap.size ≤ v9.heap.size := by first | exact hb.size | omega
    have HF := hid (hu.mono HBf)
    clear hu HBf
    clear kPB0 kPB1 kPB2 kPB3 kWB0 kWB1 kWB2 kAB2 kAB3
    have kPB0 : v9.cell? ⟨w.heap.size, 0, none⟩ = some (.int .i64 d) := (BoxAt.cell PB.out 0).trans rfl
    have kPB1 : v9.cell? ⟨w.heap.size, 1, none⟩ = some (.bool k) := (BoxAt.cell PB.out 1).trans rfl
    have kPB2 : v9.cell? ⟨w.heap.size, 2, none⟩ = some (.slice (some ⟨bb, off, none⟩) N xc) := (BoxAt.cell PB.out 2).trans rfl
    have kPB3 : v9.cell? ⟨w.heap.size, 3, none⟩ = some (.slice sa M sc) := (BoxAt.cell PB.out 3).trans rfl
    have kWB0 : v9.cell? ⟨v1.heap.size, 0, none⟩ = some (.int .i64 p) := (BoxAt.cell WB.out 0).trans rfl
    have kWB1 : v9.cell? ⟨v1.heap.size, 1, none⟩ = some (.int .i64 r) := (BoxAt.cell WB.out 1).trans rfl
    have kWB2 : v9.cell? ⟨v1.heap.size, 2, none⟩ = some (.int .i64 v) := (BoxAt.cell WB.out 2).trans rfl
    have kAB2 : v9.cell? ⟨v4.heap.size, 2, none⟩ = some (.slice qv7.a qv7.n qv7.c) := (BoxAt.cell AB.out 2).trans rfl
    have kAB3 : v9.cell? ⟨v4.heap.size, 3, none⟩ = some (.slice u.a u.n u.c) := (BoxAt.cell AB.out 3).trans rfl
    clear hb
    have HFB := hid (fun k hk => (HF.out.lt k hk).2)
    have HUB := hid (fun k hk => (HU.out.lt k hk).2)
    have FL8 := hid trivial
    have FL9 := hid trivial
    go_wp2_with (first
      | (have hfl := FL8.out
         refine wpList_new rfl 27 rfl _ Try.zeroWt ?_
         intro v10 b h z
         have FB := hid (show BoxAt v10 v9.heap.size 27 #[.int .i64 0, .int .i64 0, .int .i64 0] from b)
         have PB := hid (PB.out.belowAll h)
         have WB := hid (WB.out.belowAll h)
         have RB := hid (RB.out.belowAll h)
         have AB := hid (AB.out.belowAll h)
         have HU := hid (HU.out.below h)
         have HT := hid (HT.out.below h)
         have HF := hid (HF.out.below h)
         have HB := hid (HB.out.trans (h.mono HB.out.size))
         have hsv10 : v9.heap.size + 1 ≤ v10.heap.size := by first | exact h.size | omega
         clear kPB0 kPB1 kPB2 kPB3 kWB0 kWB1 kWB2 kAB2 kAB3
         have kPB0 : v10.cell? ⟨w.heap.size, 0, none⟩ = some (.int .i64 d) := (BoxAt.cell PB.out 0).trans rfl
         have kPB1 : v10.cell? ⟨w.heap.size, 1, none⟩ = some (.bool k) := (BoxAt.cell PB.out 1).trans rfl
         have kPB2 : v10.cell? ⟨w.heap.size, 2, none⟩ = some (.slice (some ⟨bb, off, none⟩) N xc) := (BoxAt.cell PB.out 2).trans rfl
         have kPB3 : v10.cell? ⟨w.heap.size, 3, none⟩ = some (.slice sa M sc) := (BoxAt.cell PB.out 3).trans rfl
         have kWB0 : v10.cell? ⟨v1.heap.size, 0, none⟩ = some (.int .i64 p) := (BoxAt.cell WB.out 0).trans rfl
         have kWB1 : v10.cell? ⟨v1.heap.size, 1, none⟩ = some (.int .i64 r) := (BoxAt.cell WB.out 1).trans rfl
         have kWB2 : v10.cell? ⟨v1.heap.size, 2, none⟩ = some (.int .i64 v) := (BoxAt.cell WB.out 2).trans rfl
         have kAB2 : v10.cell? ⟨v4.heap.size, 2, none⟩ = some (.slice qv7.a qv7.n qv7.c) := (BoxAt.cell AB.out 2).trans rfl
         have kAB3 : v10.cell? ⟨v4.heap.size, 3, none⟩ = some (.slice u.a u.n u.c) := (BoxAt.cell AB.out 3).trans rfl
         clear b h z hfl FL8)
      | (have hfl := FL9.out
         refine wpList_store_whole rfl 27 _ _ rfl rfl (v9.heap.size) rfl [.int .i64 0, .int .i64 0, .int .i64 0] rfl _ _ FB.out rfl Try.infoWt (by simp [Value.oneCell']) ?_
         intro v11 b g z
         have hsv11 : v10.heap.size ≤ v11.heap.size := by omega
         have HU := hid (HU.out.apart g (fun k hk => Nat.ne_of_lt (HUB.out k hk)))
         have HT := hid (HT.out.put g FB.out (by decide))
         have HF := hid (HF.out.apart g (fun k hk => Nat.ne_of_lt (HFB.out k hk)))
         have FB := hid (show BoxAt v11 (v9.heap.size) 27 #[.int .i64 0, .int .i64 0, .int .i64 0] from b)
         have PB := hid (PB.out.grown g (fun e => by have := Option.some.inj e; omega))
         have WB := hid (WB.out.grown g (fun e => by have := Option.some.inj e; omega))
         have RB := hid (RB.out.grown g (fun e => by have := Option.some.inj e; omega))
         have AB := hid (AB.out.grown g (fun e => by have := Option.some.inj e; omega))
         have HB := hid (HB.out.trans (grown_below g (by omega) (by omega)))
         clear kPB0 kPB1 kPB2 kPB3 kWB0 kWB1 kWB2 kAB2 kAB3
         have kPB0 : v11.cell? ⟨w.heap.size, 0, none⟩ = some (.int .i64 d) := (BoxAt.cell PB.out 0).trans rfl
         have kPB1 : v11.cell? ⟨w.heap.size, 1, none⟩ = some (.bool k) := (BoxAt.cell PB.out 1).trans rfl
         have kPB2 : v11.cell? ⟨w.heap.size, 2, none⟩ = some (.slice (some ⟨bb, off, none⟩) N xc) := (BoxAt.cell PB.out 2).trans rfl
         have kPB3 : v11.cell? ⟨w.heap.size, 3, none⟩ = some (.slice sa M sc) := (BoxAt.cell PB.out 3).trans rfl
         have kWB0 : v11.cell? ⟨v1.heap.size, 0, none⟩ = some (.int .i64 p) := (BoxAt.cell WB.out 0).trans rfl
         have kWB1 : v11.cell? ⟨v1.heap.size, 1, none⟩ = some (.int .i64 r) := (BoxAt.cell WB.out 1).trans rfl
         have kWB2 : v11.cell? ⟨v1.heap.size, 2, none⟩ = some (.int .i64 v) := (BoxAt.cell WB.out 2).trans rfl
         have kAB2 : v11.cell? ⟨v4.heap.size, 2, none⟩ = some (.slice qv7.a qv7.n qv7.c) := (BoxAt.cell AB.out 2).trans rfl
         have kAB3 : v11.cell? ⟨v4.heap.size, 3, none⟩ = some (.slice u.a u.n u.c) := (BoxAt.cell AB.out 3).trans rfl
         have kFB0 : v11.cell? ⟨v9.heap.size, 0, none⟩ = some (.int .i64 0) := (BoxAt.cell FB.out 0).trans rfl
         have kFB2 : v11.cell? ⟨v9.heap.size, 2, none⟩ = some (.int .i64 0) := (BoxAt.cell FB.out 2).trans rfl
         clear b g z hfl FL9
         refine Hid.out ?_)
      | fail)
    refine hid ?_
    clear kPB0 kPB1 kPB2 kPB3 kWB0 kWB1 kWB2 kAB2 kAB3 kFB0 kFB2
    have kPB0 : v11.cell? ⟨w.heap.size, 0, none⟩ = some (.int .i64 d) := (BoxAt.cell PB.out 0).trans rfl
    have kPB1 : v11.cell? ⟨w.heap.size, 1, none⟩ = some (.bool k) := (BoxAt.cell PB.out 1).trans rfl
    have kPB2 : v11.cell? ⟨w.heap.size, 2, none⟩ = some (.slice (some ⟨bb, off, none⟩) N xc) := (BoxAt.cell PB.out 2).trans rfl
    have kPB3 : v11.cell? ⟨w.heap.size, 3, none⟩ = some (.slice sa M sc) := (BoxAt.cell PB.out 3).trans rfl
    have kWB0 : v11.cell? ⟨v1.heap.size, 0, none⟩ = some (.int .i64 p) := (BoxAt.cell WB.out 0).trans rfl
    have kWB1 : v11.cell? ⟨v1.heap.size, 1, none⟩ = some (.int .i64 r) := (BoxAt.cell WB.out 1).trans rfl
    have kWB2 : v11.cell? ⟨v1.heap.size, 2, none⟩ = some (.int .i64 v) := (BoxAt.cell WB.out 2).trans rfl
    have kAB2 : v11.cell? ⟨v4.heap.size, 2, none⟩ = some (.slice qv7.a qv7.n qv7.c) := (BoxAt.cell AB.out 2).trans rfl
    have kAB3 : v11.cell? ⟨v4.heap.size, 3, none⟩ = some (.slice u.a u.n u.c) := (BoxAt.cell AB.out 3).trans rfl
    have kFB0 : v11.cell? ⟨v9.heap.size, 0, none⟩ = some (.int .i64 0) := (BoxAt.cell FB.out 0).trans rfl
    have kFB2 : v11.cell? ⟨v9.heap.size, 2, none⟩ = some (.int .i64 0) := (BoxAt.cell FB.out 2).trans rfl
    go_wp2_with fail
    clear kPB0 kPB1 kPB2 kPB3 kWB0 kWB1 kWB2 kAB2 kAB3 kFB0 kFB2
    have PB := hid (BoxAt.drew PB.out)
    have WB := hid (BoxAt.drew WB.out)
    have RB := hid (BoxAt.drew RB.out)
    have AB := hid (BoxAt.drew AB.out)
    have FB := hid (BoxAt.drew FB.out)
    have HU := hid (HU.out.below ((Below.refl v11.heap.size v11).drew))
    have HT := hid (HT.out.below ((Below.refl v11.heap.size v11).drew))
    have HF := hid (HF.out.below ((Below.refl v11.heap.size v11).drew))
    have HB := hid HB.out.drew
    have hsv12 : v11.heap.size ≤ v11.drew.heap.size := Nat.le_refl _
    refine wp_region_held_drew (S := (fun w' : World => BoxAt w' (v4.heap.size) 25 #[.int .i64 d, .bool k, .slice qv7.a qv7.n qv7.c, .slice u.a u.n u.c] ∧ BoxAt w' (w.heap.size) 25 #[.int .i64 d, .bool k, .slice (some ⟨bb, off, none⟩) N xc, .slice sa M sc] ∧ w'.cell? ⟨bb, off, none⟩ = some (.int .i64 e0))) (by kernel_rfl) (⟨AB.out, PB.out, (HB.out.cell (by exact hbw)).trans C0.out⟩) (fun hHeld => ?_)
    generalize v11.drew = v12 at *
    refine wpAnyH_take (i := 0) (oi := { dst := some 34, op := Op.load 25 (Operand.tmp 10), type := 25, pos := "ref.go:43", after := _, guard := none }) (v := ?_) rfl (by kernel_rfl) (by kernel_rfl) (by kernel_rfl) (fun _ _ _ h => h) (Or.inl ⟨by rfl, ?_⟩) (by assumption) ?_
    rotate_left
    · (intro W hSw; (try dsimp only at hSw); obtain ⟨x0, x1, x2⟩ := hSw; have c0_0 : W.cell? ⟨v4.heap.size, 0, none⟩ = some (.int .i64 d) := (BoxAt.cell x0 0).trans rfl; have c0_1 : W.cell? ⟨v4.heap.size, 1, none⟩ = some (.bool k) := (BoxAt.cell x0 1).trans rfl; have c0_2 : W.cell? ⟨v4.heap.size, 2, none⟩ = some (.slice qv7.a qv7.n qv7.c) := (BoxAt.cell x0 2).trans rfl; have c0_3 : W.cell? ⟨v4.heap.size, 3, none⟩ = some (.slice u.a u.n u.c) := (BoxAt.cell x0 3).trans rfl; have c1_0 : W.cell? ⟨w.heap.size, 0, none⟩ = some (.int .i64 d) := (BoxAt.cell x1 0).trans rfl; have c1_1 : W.cell? ⟨w.heap.size, 1, none⟩ = some (.bool k) := (BoxAt.cell x1 1).trans rfl; have c1_2 : W.cell? ⟨w.heap.size, 2, none⟩ = some (.slice (some ⟨bb, off, none⟩) N xc) := (BoxAt.cell x1 2).trans rfl; have c1_3 : W.cell? ⟨w.heap.size, 3, none⟩ = some (.slice sa M sc) := (BoxAt.cell x1 3).trans rfl; clear x0 x1; go_simp; try with_reducible rfl)
    simp only [Act.put, List.setIfInBounds_toArray, List.set_cons_zero, List.set_cons_succ]
    refine wpAnyH_take (i := 1) (oi := { dst := some 35, op := Op.fieldAddr 25 (Operand.tmp 3) 2, type := 0, pos := "ref.go:43", after := _, guard := none }) (v := ?_) rfl (by kernel_rfl) (by kernel_rfl) (by kernel_rfl) (fun _ _ _ h => h) (Or.inl ⟨by rfl, ?_⟩) (by assumption) ?_
    rotate_left
    · (intro w hSw; (try dsimp only at hSw); go_simp; try with_reducible rfl)
    simp only [Act.put, List.setIfInBounds_toArray, List.set_cons_zero, List.set_cons_succ]
    refine wpAnyH_take (i := 2) (oi := { dst := some 36, op := Op.load 22 (Operand.tmp 35), type := 22, pos := "ref.go:43", after := _, guard := none }) (v := ?_) rfl (by kernel_rfl) (by kernel_rfl) (by kernel_rfl) (fun _ _ _ h => h) (Or.inl ⟨by rfl, ?_⟩) (by assumption) ?_
    rotate_left
    · (intro W hSw; (try dsimp only at hSw); obtain ⟨x0, x1, x2⟩ := hSw; have c0_0 : W.cell? ⟨v4.heap.size, 0, none⟩ = some (.int .i64 d) := (BoxAt.cell x0 0).trans rfl; have c0_1 : W.cell? ⟨v4.heap.size, 1, none⟩ = some (.bool k) := (BoxAt.cell x0 1).trans rfl; have c0_2 : W.cell? ⟨v4.heap.size, 2, none⟩ = some (.slice qv7.a qv7.n qv7.c) := (BoxAt.cell x0 2).trans rfl; have c0_3 : W.cell? ⟨v4.heap.size, 3, none⟩ = some (.slice u.a u.n u.c) := (BoxAt.cell x0 3).trans rfl; have c1_0 : W.cell? ⟨w.heap.size, 0, none⟩ = some (.int .i64 d) := (BoxAt.cell x1 0).trans rfl; have c1_1 : W.cell? ⟨w.heap.size, 1, none⟩ = some (.bool k) := (BoxAt.cell x1 1).trans rfl; have c1_2 : W.cell? ⟨w.heap.size, 2, none⟩ = some (.slice (some ⟨bb, off, none⟩) N xc) := (BoxAt.cell x1 2).trans rfl; have c1_3 : W.cell? ⟨w.heap.size, 3, none⟩ = some (.slice sa M sc) := (BoxAt.cell x1 3).trans rfl; clear x0 x1; go_simp; try with_reducible rfl)
    simp only [Act.put, List.setIfInBounds_toArray, List.set_cons_zero, List.set_cons_succ]
    refine wpAnyH_take (i := 3) (oi := { dst := some 37, op := Op.indexAddr 22 (Operand.tmp 36) (Operand.const (Value.int IntKind.i64 0)), type := 0, pos := "ref.go:43", after := _, guard := none }) (v := ?_) rfl (by kernel_rfl) (by kernel_rfl) (by kernel_rfl) (fun _ _ _ h => h) (Or.inl ⟨by rfl, ?_⟩) (by assumption) ?_
    rotate_left
    · (intro w hSw; (try dsimp only at hSw); go_simp; try with_reducible rfl)
    simp only [Act.put, List.setIfInBounds_toArray, List.set_cons_zero, List.set_cons_succ]
    refine wpAnyH_take (i := 4) (oi := { dst := some 38, op := Op.load 3 (Operand.tmp 37), type := 3, pos := "ref.go:43", after := _, guard := none }) (v := ?_) rfl (by kernel_rfl) (by kernel_rfl) (by kernel_rfl) (fun _ _ _ h => h) (Or.inl ⟨by rfl, ?_⟩) (by assumption) ?_
    rotate_left
    · (intro W hSw; (try dsimp only at hSw); obtain ⟨x0, x1, x2⟩ := hSw; have c0_0 : W.cell? ⟨v4.heap.size, 0, none⟩ = some (.int .i64 d) := (BoxAt.cell x0 0).trans rfl; have c0_1 : W.cell? ⟨v4.heap.size, 1, none⟩ = some (.bool k) := (BoxAt.cell x0 1).trans rfl; have c0_2 : W.cell? ⟨v4.heap.size, 2, none⟩ = some (.slice qv7.a qv7.n qv7.c) := (BoxAt.cell x0 2).trans rfl; have c0_3 : W.cell? ⟨v4.heap.size, 3, none⟩ = some (.slice u.a u.n u.c) := (BoxAt.cell x0 3).trans rfl; have c1_0 : W.cell? ⟨w.heap.size, 0, none⟩ = some (.int .i64 d) := (BoxAt.cell x1 0).trans rfl; have c1_1 : W.cell? ⟨w.heap.size, 1, none⟩ = some (.bool k) := (BoxAt.cell x1 1).trans rfl; have c1_2 : W.cell? ⟨w.heap.size, 2, none⟩ = some (.slice (some ⟨bb, off, none⟩) N xc) := (BoxAt.cell x1 2).trans rfl; have c1_3 : W.cell? ⟨w.heap.size, 3, none⟩ = some (.slice sa M sc) := (BoxAt.cell x1 3).trans rfl; clear x0 x1; go_simp; try with_reducible rfl)
    simp only [Act.put, List.setIfInBounds_toArray, List.set_cons_zero, List.set_cons_succ]
    refine wpAnyH_ready (rs := [5]) (by kernel_rfl) (by simp) (AllReadyH.cons (o := { dst := none, op := Op.store 25 (Operand.tmp 6) (Operand.tmp 34), type := 0, pos := "ref.go:43", after := _, guard := none }) rfl (fun K7006 hK7006 => ?_) AllReadyH.nil)
    refine step_store_whole rfl 25 _ _ rfl (v2.heap.size) rfl [.int .i64 d, .bool k, .slice qv7.a qv7.n qv7.c, .slice u.a u.n u.c] rfl _ _ RB.out rfl Try.infoBf (by simp [Value.oneCell']) ?_
    intro v13 b g z
    have hsv13 : v12.heap.size ≤ v13.heap.size := by omega
    have HU := hid (HU.out.put g RB.out (by decide))
    have HT := hid (HT.out.put g RB.out (by decide))
    have HF := hid (HF.out.put g RB.out (by decide))
    have RB := hid (show BoxAt v13 (v2.heap.size) 25 #[.int .i64 d, .bool k, .slice qv7.a qv7.n qv7.c, .slice u.a u.n u.c] from b)
    have PB := hid (PB.out.grown g (fun e => by have := Option.some.inj e; omega))
    have WB := hid (WB.out.grown g (fun e => by have := Option.some.inj e; omega))
    have AB := hid (AB.out.grown g (fun e => by have := Option.some.inj e; omega))
    have FB := hid (FB.out.grown g (fun e => by have := Option.some.inj e; omega))
    have HB := hid (HB.out.trans (grown_below g (by omega) (by omega)))
    clear b g z
    refine hK7006.out _ _ (⟨AB.out, PB.out, (HB.out.cell (by exact hbw)).trans C0.out⟩) (fun hHeld7006 => ?_)
    clear hK7006 K7006
    try simp only [Act.put]
    refine wpAnyH_take (i := 6) (oi := { dst := some 7, op := Op.assign (Operand.const (Value.int IntKind.i64 0)), type := 3, pos := "ref.go:43", after := _, guard := none }) (v := ?_) rfl (by kernel_rfl) (by kernel_rfl) (by kernel_rfl) (fun _ _ _ h => h) (Or.inl ⟨by rfl, ?_⟩) (by assumption) ?_
    rotate_left
    · (intro w hSw; (try dsimp only at hSw); go_simp; try with_reducible rfl)
    simp only [Act.put, List.setIfInBounds_toArray, List.set_cons_zero, List.set_cons_succ]
    refine wpAnyH_take (i := 7) (oi := { dst := some 8, op := Op.assign (Operand.tmp 38), type := 3, pos := "ref.go:43", after := _, guard := none }) (v := ?_) rfl (by kernel_rfl) (by kernel_rfl) (by kernel_rfl) (fun _ _ _ h => h) (Or.inl ⟨by rfl, ?_⟩) (by assumption) ?_
    rotate_left
    · (intro w hSw; (try dsimp only at hSw); go_simp; try with_reducible rfl)
    simp only [Act.put, List.setIfInBounds_toArray, List.set_cons_zero, List.set_cons_succ]
    refine wpAnyH_take (i := 8) (oi := { dst := some 9, op := Op.assign (Operand.const (Value.slice none 0 0)), type := 29, pos := "ref.go:43", after := _, guard := none }) (v := ?_) rfl (by kernel_rfl) (by kernel_rfl) (by kernel_rfl) (fun _ _ _ h => h) (Or.inl ⟨by rfl, ?_⟩) (by assumption) ?_
    rotate_left
    · (intro w hSw; (try dsimp only at hSw); go_simp; try with_reducible rfl)
    simp only [Act.put, List.setIfInBounds_toArray, List.set_cons_zero, List.set_cons_succ]
    refine wpAnyH_done (by kernel_rfl) ?_ _
    clear hHeld hHeld7006
    have kPB0 : v13.cell? ⟨w.heap.size, 0, none⟩ = some (.int .i64 d) := (BoxAt.cell PB.out 0).trans rfl
    have kPB1 : v13.cell? ⟨w.heap.size, 1, none⟩ = some (.bool k) := (BoxAt.cell PB.out 1).trans rfl
    have kPB2 : v13.cell? ⟨w.heap.size, 2, none⟩ = some (.slice (some ⟨bb, off, none⟩) N xc) := (BoxAt.cell PB.out 2).trans rfl
    have kPB3 : v13.cell? ⟨w.heap.size, 3, none⟩ = some (.slice sa M sc) := (BoxAt.cell PB.out 3).trans rfl
    have kWB0 : v13.cell? ⟨v1.heap.size, 0, none⟩ = some (.int .i64 p) := (BoxAt.cell WB.out 0).trans rfl
    have kWB1 : v13.cell? ⟨v1.heap.size, 1, none⟩ = some (.int .i64 r) := (BoxAt.cell WB.out 1).trans rfl
    have kWB2 : v13.cell? ⟨v1.heap.size, 2, none⟩ = some (.int .i64 v) := (BoxAt.cell WB.out 2).trans rfl
    have kAB2 : v13.cell? ⟨v4.heap.size, 2, none⟩ = some (.slice qv7.a qv7.n qv7.c) := (BoxAt.cell AB.out 2).trans rfl
    have kAB3 : v13.cell? ⟨v4.heap.size, 3, none⟩ = some (.slice u.a u.n u.c) := (BoxAt.cell AB.out 3).trans rfl
    have kFB0 : v13.cell? ⟨v9.heap.size, 0, none⟩ = some (.int .i64 0) := (BoxAt.cell FB.out 0).trans rfl
    have kFB2 : v13.cell? ⟨v9.heap.size, 2, none⟩ = some (.int .i64 0) := (BoxAt.cell FB.out 2).trans rfl
    go_wp2_with fail
    refine bodyPost_ret (results_box_tmp3 rfl _ _ (v2.heap.size) 25 _ (0, 0) _ rfl RB.out Try.underlying25 rfl Try.infoBf) rfl ?_
    exact ⟨qv7, u, ⟨none, 0, 0⟩, rfl, HT.out, by have := HU.out; rwa [List.eq_nil_of_length_eq_zero H1.out] at this, OWk.nil _ _, HB.out⟩

set_option maxRecDepth 100000 in
set_option maxHeartbeats 1600000 in
theorem rtake_some (d : Int) (k : Bool) {vs s : Sl} {xs : List Int} {l : List Wt} (p r v : Int) (e0 : Int) (fp fr fv : Int) (may : Bool) {w : World} (hv : Sees w .i64 vs.val xs) (hs : SeesWt w s.val l) (hx : xs.length ≤ 800000) (hl : l.length ≤ 800000) (h0 : 0 < xs.length) (he : xs.getD 0 0 = e0) (h1 : 0 < l.length) (hf : l.getD 0 Wt.zero = ⟨fp, fr, fv⟩) :
    Calls Try.prog 14 #[BfV.val ⟨d, k, vs, s⟩, .agg #[.int .i64 p, .int .i64 r, .int .i64 v], .bool may] w fun e w' => ∃ (x u q : Sl), e = .returned (.tuple #[BfV.val ⟨d, k, x, u⟩, .int .i64 (0), .int .i64 (e0), q.val]) ∧ OI w' w.heap.size x.val (xs.drop 1 ++ [fv]) ∧ OWt w' w.heap.size u.val (l.drop 1) ∧ OWk w' w.heap.size q.val ([⟨fp, 0, 0⟩]) ∧ Below w.heap.size w w' := by
  have HX := hid hv
  have HV := hid hs
  obtain ⟨a1, c1, hv1, hx1, hx2, hxc⟩ := hv.form
  obtain ⟨xa, xn, xc⟩ := vs
  simp only [Sl.val, Value.slice.injEq] at hv1
  obtain ⟨rfl, rfl, rfl⟩ := hv1
  obtain ⟨a2, c2, hs1, hc1, hc2, -⟩ := hs.form
  obtain ⟨sa, sn, sc⟩ := s
  simp only [Sl.val, Value.slice.injEq] at hs1
  obtain ⟨rfl, rfl, rfl⟩ := hs1
  unfold maxLen at hx2 hc2
  simp only [Sl.val] at HX HV
  have HXC := hid hxc
  clear hv hs hxc
  unfold BfV.val
  simp only
  obtain ⟨N, hN⟩ : ∃ N, xs.length = N := ⟨_, rfl⟩
  obtain ⟨M, hM⟩ : ∃ M, l.length = M := ⟨_, rfl⟩
  have HN := hid hN
  have HM := hid hM
  have HXL := hid hx
  have HL := hid hl
  rw [hN] at hx hx1 HX HXC ⊢
  rw [hM] at hl hc1 HV ⊢
  have H0 := hid h0
  have H1 := hid h1
  have t0 : ((N : Int) == 0) = false := beq_eq_false_iff_ne.2 (by omega)
  have tz : (0 : Int) < (N : Int) := by omega
  have tm : (0 : Int) < (M : Int) := by omega
  rw [hN] at h0
  obtain ⟨bb, off, rfl, hbw, hcell⟩ := HXC.out (by omega)
  have hc0 := hcell 0 (by omega)
  rw [he, Nat.add_zero] at hc0
  have C0 := hid hc0
  have hdr := Sees.dropped (w := w) (k := .i64) (b := bb) (off := off) (cap := xc) (xs := xs) 1 (by omega) (by omega) (by unfold maxLen; omega) (by rw [hN]; exact hcell)
  rw [hN] at hdr
  have HD := hid hdr
  clear hdr hcell hc0 he
  have h1i : (1 : Int) ≤ (N : Int) := by omega
  clear hN hM h1
  by_cases hck : xc = 1
  case pos =>
    subst hck
    have hn1 : N = 1 := by omega
    subst hn1
    have HB := hid (Below.refl w.heap.size w)
    go_enter Try.func14, Try.ntmps14
    have FL1 := hid trivial
    have FL2 := hid trivial
    have FL3 := hid trivial
    go_wp2_with (first
      | (have hfl := FL1.out
         refine wpList_box rfl 25 (.tmp 0) rfl #[.int .i64 d, .bool k, .slice (some ⟨bb, off, none⟩) 1 1, .slice sa M sc] rfl ?_
         intro v1 b h z
         have PB := hid (show BoxAt v1 w.heap.size 25 #[.int .i64 d, .bool k, .slice (some ⟨bb, off, none⟩) 1 1, .slice sa M sc] from b)
         have HB := hid (HB.out.trans (h.mono HB.out.size))
         have hsv1 : w.heap.size + 1 ≤ v1.heap.size := by first | exact h.size | omega
         clear b h z hfl FL1)
      | (have hfl := FL2.out
         refine wpList_box rfl 27 (.tmp 1) rfl #[.int .i64 p, .int .i64 r, .int .i64 v] rfl ?_
         intro v2 b h z
         have WB := hid (show BoxAt v2 v1.heap.size 27 #[.int .i64 p, .int .i64 r, .int .i64 v] from b)
         have PB := hid (PB.out.belowAll h)
         have HB := hid (HB.out.trans (h.mono HB.out.size))
         have hsv2 : v1.heap.size + 1 ≤ v2.heap.size := by first | exact h.size | omega
         have kPB0 : v2.cell? ⟨w.heap.size, 0, none⟩ = some (.int .i64 d) := (BoxAt.cell PB.out 0).trans rfl
         have kPB1 : v2.cell? ⟨w.heap.size, 1, none⟩ = some (.bool k) := (BoxAt.cell PB.out 1).trans rfl
         have kPB2 : v2.cell? ⟨w.heap.size, 2, none⟩ = some (.slice (some ⟨bb, off, none⟩) 1 1) := (BoxAt.cell PB.out 2).trans rfl
         have kPB3 : v2.cell? ⟨w.heap.size, 3, none⟩ = some (.slice sa M sc) := (BoxAt.cell PB.out 3).trans rfl
         clear b h z hfl FL2)
      | (have hfl := FL3.out
         refine wpList_new rfl 25 rfl _ Try.zeroBf ?_
         intro v3 b h z
         have RB := hid (show BoxAt v3 v2.heap.size 25 #[.int .i64 0, .bool false, .slice none 0 0, .slice none 0 0] from b)
         have PB := hid (PB.out.belowAll h)
         have WB := hid (WB.out.belowAll h)
         have HB := hid (HB.out.trans (h.mono HB.out.size))
         have hsv3 : v2.heap.size + 1 ≤ v3.heap.size := by first | exact h.size | omega
         clear kPB0 kPB1 kPB2 kPB3
         have kPB0 : v3.cell? ⟨w.heap.size, 0, none⟩ = some (.int .i64 d) := (BoxAt.cell PB.out 0).trans rfl
         have kPB1 : v3.cell? ⟨w.heap.size, 1, none⟩ = some (.bool k) := (BoxAt.cell PB.out 1).trans rfl
         have kPB2 : v3.cell? ⟨w.heap.size, 2, none⟩ = some (.slice (some ⟨bb, off, none⟩) 1 1) := (BoxAt.cell PB.out 2).trans rfl
         have kPB3 : v3.cell? ⟨w.heap.size, 3, none⟩ = some (.slice sa M sc) := (BoxAt.cell PB.out 3).trans rfl
         have kWB0 : v3.cell? ⟨v1.heap.size, 0, none⟩ = some (.int .i64 p) := (BoxAt.cell WB.out 0).trans rfl
         have kWB1 : v3.cell? ⟨v1.heap.size, 1, none⟩ = some (.int .i64 r) := (BoxAt.cell WB.out 1).trans rfl
         have kWB2 : v3.cell? ⟨v1.heap.size, 2, none⟩ = some (.int .i64 v) := (BoxAt.cell WB.out 2).trans rfl
         clear b h z hfl FL3
         refine Hid.out ?_)
      | fail)
    refine hid ?_
    clear kPB0 kPB1 kPB2 kPB3 kWB0 kWB1 kWB2
    have kPB0 : v3.cell? ⟨w.heap.size, 0, none⟩ = some (.int .i64 d) := (BoxAt.cell PB.out 0).trans rfl
    have kPB1 : v3.cell? ⟨w.heap.size, 1, none⟩ = some (.bool k) := (BoxAt.cell PB.out 1).trans rfl
    have kPB2 : v3.cell? ⟨w.heap.size, 2, none⟩ = some (.slice (some ⟨bb, off, none⟩) 1 1) := (BoxAt.cell PB.out 2).trans rfl
    have kPB3 : v3.cell? ⟨w.heap.size, 3, none⟩ = some (.slice sa M sc) := (BoxAt.cell PB.out 3).trans rfl
    have kWB0 : v3.cell? ⟨v1.heap.size, 0, none⟩ = some (.int .i64 p) := (BoxAt.cell WB.out 0).trans rfl
    have kWB1 : v3.cell? ⟨v1.heap.size, 1, none⟩ = some (.int .i64 r) := (BoxAt.cell WB.out 1).trans rfl
    have kWB2 : v3.cell? ⟨v1.heap.size, 2, none⟩ = some (.int .i64 v) := (BoxAt.cell WB.out 2).trans rfl
    go_wp2_with (first
      | (refine wpList_load_box rfl 25 _ rfl (w.heap.size) rfl _ _ PB.out _ Try.underlying25 Try.infoBf ?_)
      | fail)
    have HBw := HB.out.size
    refine (rbown_any d k (vs := ⟨(some ⟨bb, off, none⟩), 1, 1⟩) (s := ⟨sa, M, sc⟩) (HX.out.below HB.out) (HV.out.below HB.out) HXL.out HL.out).mono ?_
    rintro e v4 ⟨x, u, rfl, hc, hu, hb⟩
    have PB := hid (PB.out.belowAll hb)
    have WB := hid (WB.out.belowAll hb)
    have RB := hid (RB.out.belowAll hb)
    have HB := hid (HB.out.trans (hb.mono HB.out.size))
    have hsv4 : v3.heap.size ≤ v4.heap.size := by first | exact hb.size | omega
    have HC := hid (hc.mono HBw)
    have HU := hid (hu.mono HBw)
    clear hc hu HBw
    simp only [Sl.val] at HC HU
    clear kPB0 kPB1 kPB2 kPB3 kWB0 kWB1 kWB2
    have kPB0 : v4.cell? ⟨w.heap.size, 0, none⟩ = some (.int .i64 d) := (BoxAt.cell PB.out 0).trans rfl
    have kPB1 : v4.cell? ⟨w.heap.size, 1, none⟩ = some (.bool k) := (BoxAt.cell PB.out 1).trans rfl
    have kPB2 : v4.cell? ⟨w.heap.size, 2, none⟩ = some (.slice (some ⟨bb, off, none⟩) 1 1) := (BoxAt.cell PB.out 2).trans rfl
    have kPB3 : v4.cell? ⟨w.heap.size, 3, none⟩ = some (.slice sa M sc) := (BoxAt.cell PB.out 3).trans rfl
    have kWB0 : v4.cell? ⟨v1.heap.size, 0, none⟩ = some (.int .i64 p) := (BoxAt.cell WB.out 0).trans rfl
    have kWB1 : v4.cell? ⟨v1.heap.size, 1, none⟩ = some (.int .i64 r) := (BoxAt.cell WB.out 1).trans rfl
    have kWB2 : v4.cell? ⟨v1.heap.size, 2, none⟩ = some (.int .i64 v) := (BoxAt.cell WB.out 2).trans rfl
    clear hb
    have FL4 := hid trivial
    have FL5 := hid trivial
    go_wp2_with (first
      | (have hfl := FL4.out
         refine wpList_new rfl 25 rfl _ Try.zeroBf ?_
         intro v5 b h z
         have AB := hid (show BoxAt v5 v4.heap.size 25 #[.int .i64 0, .bool false, .slice none 0 0, .slice none 0 0] from b)
         have PB := hid (PB.out.belowAll h)
         have WB := hid (WB.out.belowAll h)
         have RB := hid (RB.out.belowAll h)
         have HC := hid (HC.out.below h)
         have HU := hid (HU.out.below h)
         have HB := hid (HB.out.trans (h.mono HB.out.size))
         have hsv5 : v4.heap.size + 1 ≤ v5.heap.size := by first | exact h.size | omega
         clear kPB0 kPB1 kPB2 kPB3 kWB0 kWB1 kWB2
         have kPB0 : v5.cell? ⟨w.heap.size, 0, none⟩ = some (.int .i64 d) := (BoxAt.cell PB.out 0).trans rfl
         have kPB1 : v5.cell? ⟨w.heap.size, 1, none⟩ = some (.bool k) := (BoxAt.cell PB.out 1).trans rfl
         have kPB2 : v5.cell? ⟨w.heap.size, 2, none⟩ = some (.slice (some ⟨bb, off, none⟩) 1 1) := (BoxAt.cell PB.out 2).trans rfl
         have kPB3 : v5.cell? ⟨w.heap.size, 3, none⟩ = some (.slice sa M sc) := (BoxAt.cell PB.out 3).trans rfl
         have kWB0 : v5.cell? ⟨v1.heap.size, 0, none⟩ = some (.int .i64 p) := (BoxAt.cell WB.out 0).trans rfl
         have kWB1 : v5.cell? ⟨v1.heap.size, 1, none⟩ = some (.int .i64 r) := (BoxAt.cell WB.out 1).trans rfl
         have kWB2 : v5.cell? ⟨v1.heap.size, 2, none⟩ = some (.int .i64 v) := (BoxAt.cell WB.out 2).trans rfl
         clear b h z hfl FL4)
      | (have hfl := FL5.out
         refine wpList_store_whole rfl 25 _ _ rfl rfl (v4.heap.size) rfl [.int .i64 d, .bool k, .slice x.a x.n x.c, .slice u.a u.n u.c] rfl _ _ AB.out rfl Try.infoBf (by simp [Value.oneCell']) ?_
         intro v6 b g z
         have hsv6 : v5.heap.size ≤ v6.heap.size := by omega
         have HC := hid (HC.out.put g AB.out (by decide))
         have HU := hid (HU.out.put g AB.out (by decide))
         have AB := hid (show BoxAt v6 (v4.heap.size) 25 #[.int .i64 d, .bool k, .slice x.a x.n x.c, .slice u.a u.n u.c] from b)
         have PB := hid (PB.out.grown g (fun e => by have := Option.some.inj e; omega))
         have WB := hid (WB.out.grown g (fun e => by have := Option.some.inj e; omega))
         have RB := hid (RB.out.grown g (fun e => by have := Option.some.inj e; omega))
         have HB := hid (HB.out.trans (grown_below g (by omega) (by omega)))
         clear kPB0 kPB1 kPB2 kPB3 kWB0 kWB1 kWB2
         have kPB0 : v6.cell? ⟨w.heap.size, 0, none⟩ = some (.int .i64 d) := (BoxAt.cell PB.out 0).trans rfl
         have kPB1 : v6.cell? ⟨w.heap.size, 1, none⟩ = some (.bool k) := (BoxAt.cell PB.out 1).trans rfl
         have kPB2 : v6.cell? ⟨w.heap.size, 2, none⟩ = some (.slice (some ⟨bb, off, none⟩) 1 1) := (BoxAt.cell PB.out 2).trans rfl
         have kPB3 : v6.cell? ⟨w.heap.size, 3, none⟩ = some (.slice sa M sc) := (BoxAt.cell PB.out 3).trans rfl
         have kWB0 : v6.cell? ⟨v1.heap.size, 0, none⟩ = some (.int .i64 p) := (BoxAt.cell WB.out 0).trans rfl
         have kWB1 : v6.cell? ⟨v1.heap.size, 1, none⟩ = some (.int .i64 r) := (BoxAt.cell WB.out 1).trans rfl
         have kWB2 : v6.cell? ⟨v1.heap.size, 2, none⟩ = some (.int .i64 v) := (BoxAt.cell WB.out 2).trans rfl
         have kAB2 : v6.cell? ⟨v4.heap.size, 2, none⟩ = some (.slice x.a x.n x.c) := (BoxAt.cell AB.out 2).trans rfl
         have kAB3 : v6.cell? ⟨v4.heap.size, 3, none⟩ = some (.slice u.a u.n u.c) := (BoxAt.cell AB.out 3).trans rfl
         clear b g z hfl FL5
         refine Hid.out ?_)
      | fail)
    refine hid ?_
    clear kPB0 kPB1 kPB2 kPB3 kWB0 kWB1 kWB2 kAB2 kAB3
    have kPB0 : v6.cell? ⟨w.heap.size, 0, none⟩ = some (.int .i64 d) := (BoxAt.cell PB.out 0).trans rfl
    have kPB1 : v6.cell? ⟨w.heap.size, 1, none⟩ = some (.bool k) := (BoxAt.cell PB.out 1).trans rfl
    have kPB2 : v6.cell? ⟨w.heap.size, 2, none⟩ = some (.slice (some ⟨bb, off, none⟩) 1 1) := (BoxAt.cell PB.out 2).trans rfl
    have kPB3 : v6.cell? ⟨w.heap.size, 3, none⟩ = some (.slice sa M sc) := (BoxAt.cell PB.out 3).trans rfl
    have kWB0 : v6.cell? ⟨v1.heap.size, 0, none⟩ = some (.int .i64 p) := (BoxAt.cell WB.out 0).trans rfl
    have kWB1 : v6.cell? ⟨v1.heap.size, 1, none⟩ = some (.int .i64 r) := (BoxAt.cell WB.out 1).trans rfl
    have kWB2 : v6.cell? ⟨v1.heap.size, 2, none⟩ = some (.int .i64 v) := (BoxAt.cell WB.out 2).trans rfl
    have kAB2 : v6.cell? ⟨v4.heap.size, 2, none⟩ = some (.slice x.a x.n x.c) := (BoxAt.cell AB.out 2).trans rfl
    have kAB3 : v6.cell? ⟨v4.heap.size, 3, none⟩ = some (.slice u.a u.n u.c) := (BoxAt.cell AB.out 3).trans rfl
    clear HC
    have FL6 := hid trivial
    go_wp2_with (first
      | (have hfl := FL6.out
         at_builtin
         refine app_nilI rfl (.tmp 22) rfl _ (xs.drop 1) rfl (by first | exact HD.out.below HB.out | (have := HD.out; simp only [if_neg hck] at this; exact this.below HB.out)) (by have := HXL.out; simp; omega) ?_
         intro uv7 v7 ho h
         obtain ⟨qv7, rfl, -⟩ := ho.sl
         have PB := hid (PB.out.belowAll h)
         have WB := hid (WB.out.belowAll h)
         have RB := hid (RB.out.belowAll h)
         have AB := hid (AB.out.belowAll h)
         have HU := hid (HU.out.below h)
         have HB := hid (HB.out.trans (h.mono HB.out.size))
         have hsv7 : v6.heap.size ≤ v7.heap.size := by first | exact h.size | omega
         have HT := hid ho
         clear kPB0 kPB1 kPB2 kPB3 kWB0 kWB1 kWB2 kAB2 kAB3
         have kPB0 : v7.cell? ⟨w.heap.size, 0, none⟩ = some (.int .i64 d) := (BoxAt.cell PB.out 0).trans rfl
         have kPB1 : v7.cell? ⟨w.heap.size, 1, none⟩ = some (.bool k) := (BoxAt.cell PB.out 1).trans rfl
         have kPB2 : v7.cell? ⟨w.heap.size, 2, none⟩ = some (.slice (some ⟨bb, off, none⟩) 1 1) := (BoxAt.cell PB.out 2).trans rfl
         have kPB3 : v7.cell? ⟨w.heap.size, 3, none⟩ = some (.slice sa M sc) := (BoxAt.cell PB.out 3).trans rfl
         have kWB0 : v7.cell? ⟨v1.heap.size, 0, none⟩ = some (.int .i64 p) := (BoxAt.cell WB.out 0).trans rfl
         have kWB1 : v7.cell? ⟨v1.heap.size, 1, none⟩ = some (.int .i64 r) := (BoxAt.cell WB.out 1).trans rfl
         have kWB2 : v7.cell? ⟨v1.heap.size, 2, none⟩ = some (.int .i64 v) := (BoxAt.cell WB.out 2).trans rfl
         have kAB2 : v7.cell? ⟨v4.heap.size, 2, none⟩ = some (.slice x.a x.n x.c) := (BoxAt.cell AB.out 2).trans rfl
         have kAB3 : v7.cell? ⟨v4.heap.size, 3, none⟩ = some (.slice u.a u.n u.c) := (BoxAt.cell AB.out 3).trans rfl
         clear ho h hfl FL6
         refine Hid.out ?_)
      | fail)
    refine hid ?_
    have HT := hid (HT.out.mono (base' := w.heap.size) (by omega))
    have FL7 := hid trivial
    go_wp2_with (first
      | (have hfl := FL7.out
         refine wpList_store_box rfl 22 _ _ rfl rfl (v4.heap.size) 2 (.slice qv7.a qv7.n qv7.c) rfl rfl rfl rfl (by kernel_rfl) _ _ AB.out (by simp) ?_
         intro v8 b g z
         have hsv8 : v7.heap.size ≤ v8.heap.size := by omega
         have HU := hid (HU.out.put g AB.out (by decide))
         have HT := hid (HT.out.put g AB.out (by decide))
         have AB := hid (show BoxAt v8 (v4.heap.size) 25 #[.int .i64 d, .bool k, .slice qv7.a qv7.n qv7.c, .slice u.a u.n u.c] from by simpa using b)
         have PB := hid (PB.out.grown g (fun e => by have := Option.some.inj e; omega))
         have WB := hid (WB.out.grown g (fun e => by have := Option.some.inj e; omega))
         have RB := hid (RB.out.grown g (fun e => by have := Option.some.inj e; omega))
         have HB := hid (HB.out.trans (grown_below g (by omega) (by omega)))
         clear kPB0 kPB1 kPB2 kPB3 kWB0 kWB1 kWB2 kAB2 kAB3
         have kPB0 : v8.cell? ⟨w.heap.size, 0, none⟩ = some (.int .i64 d) := (BoxAt.cell PB.out 0).trans rfl
         have kPB1 : v8.cell? ⟨w.heap.size, 1, none⟩ = some (.bool k) := (BoxAt.cell PB.out 1).trans rfl
         have kPB2 : v8.cell? ⟨w.heap.size, 2, none⟩ = some (.slice (some ⟨bb, off, none⟩) 1 1) := (BoxAt.cell PB.out 2).trans rfl
         have kPB3 : v8.cell? ⟨w.heap.size, 3, none⟩ = some (.slice sa M sc) := (BoxAt.cell PB.out 3).trans rfl
         have kWB0 : v8.cell? ⟨v1.heap.size, 0, none⟩ = some (.int .i64 p) := (BoxAt.cell WB.out 0).trans rfl
         have kWB1 : v8.cell? ⟨v1.heap.size, 1, none⟩ = some (.int .i64 r) := (BoxAt.cell WB.out 1).trans rfl
         have kWB2 : v8.cell? ⟨v1.heap.size, 2, none⟩ = some (.int .i64 v) := (BoxAt.cell WB.out 2).trans rfl
         have kAB2 : v8.cell? ⟨v4.heap.size, 2, none⟩ = some (.slice qv7.a qv7.n qv7.c) := (BoxAt.cell AB.out 2).trans rfl
         have kAB3 : v8.cell? ⟨v4.heap.size, 3, none⟩ = some (.slice u.a u.n u.c) := (BoxAt.cell AB.out 3).trans rfl
         clear b g z hfl FL7
         refine Hid.out ?_)
      | fail)
    refine hid ?_
    go_wp2_with fail
    have HBf := HB.out.size
    refine (rfirst_yes (HV.out.below HB.out) HL.out H1.out fp fr fv hf).mono ?_
    rintro e v9 ⟨f, rfl, hu, hb⟩
    have PB := hid (PB.out.belowAll hb)
    have WB := hid (WB.out.belowAll hb)
    have RB := hid (RB.out.belowAll hb)
    have AB := hid (AB.out.belowAll hb)
    have HU := hid (HU.out.below hb)
    have HT := hid (HT.out.below hb)
    have HB := hid (HB.out.trans (hb.mono HB.out.size))
    have hsv9 : v8.heap.size ≤ v9.heap.size := by first | exact hb.size | omega
    have HF := hid (hu.mono HBf)
    clear hu HBf
    clear kPB0 kPB1 kPB2 kPB3 kWB0 kWB1 kWB2 kAB2 kAB3
    have kPB0 : v9.cell? ⟨w.heap.size, 0, none⟩ = some (.int .i64 d) := (BoxAt.cell PB.out 0).trans rfl
    have kPB1 : v9.cell? ⟨w.heap.size, 1, none⟩ = some (.bool k) := (BoxAt.cell PB.out 1).trans rfl
    have kPB2 : v9.cell? ⟨w.heap.size, 2, none⟩ = some (.slice (some ⟨bb, off, none⟩) 1 1) := (BoxAt.cell PB.out 2).trans rfl
    have kPB3 : v9.cell? ⟨w.heap.size, 3, none⟩ = some (.slice sa M sc) := (BoxAt.cell PB.out 3).trans rfl
    have kWB0 : v9.cell? ⟨v1.heap.size, 0, none⟩ = some (.int .i64 p) := (BoxAt.cell WB.out 0).trans rfl
    have kWB1 : v9.cell? ⟨v1.heap.size, 1, none⟩ = some (.int .i64 r) := (BoxAt.cell WB.out 1).trans rfl
    have kWB2 : v9.cell? ⟨v1.heap.size, 2, none⟩ = some (.int .i64 v) := (BoxAt.cell WB.out 2).trans rfl
    have kAB2 : v9.cell? ⟨v4.heap.size, 2, none⟩ = some (.slice qv7.a qv7.n qv7.c) := (BoxAt.cell AB.out 2).trans rfl
    have kAB3 : v9.cell? ⟨v4.heap.size, 3, none⟩ = some (.slice u.a u.n u.c) := (BoxAt.cell AB.out 3).trans rfl
    clear hb
    have HFB := hid (fun k hk => (HF.out.lt k hk).2)
    have HUB := hid (fun k hk => (HU.out.lt k hk).2)
    have FL8 := hid trivial
    have FL9 := hid trivial
    go_wp2_with (first
      | (have hfl := FL8.out
         refine wpList_new rfl 27 rfl _ Try.zeroWt ?_
         intro v10 b h z
         have FB := hid (show BoxAt v10 v9.heap.size 27 #[.int .i64 0, .int .i64 0, .int .i64 0] from b)
         have PB := hid (PB.out.belowAll h)
         have WB := hid (WB.out.belowAll h)
         have RB := hid (RB.out.belowAll h)
         have AB := hid (AB.out.belowAll h)
         have HU := hid (HU.out.below h)
         have HT := hid (HT.out.below h)
         have HF := hid (HF.out.below h)
         have HB := hid (HB.out.trans (h.mono HB.out.size))
         have hsv10 : v9.heap.size + 1 ≤ v10.heap.size := by first | exact h.size | omega
         clear kPB0 kPB1 kPB2 kPB3 kWB0 kWB1 kWB2 kAB2 kAB3
         have kPB0 : v10.cell? ⟨w.heap.size, 0, none⟩ = some (.int .i64 d) := (BoxAt.cell PB.out 0).trans rfl
         have kPB1 : v10.cell? ⟨w.heap.size, 1, none⟩ = some (.bool k) := (BoxAt.cell PB.out 1).trans rfl
         have kPB2 : v10.cell? ⟨w.heap.size, 2, none⟩ = some (.slice (some ⟨bb, off, none⟩) 1 1) := (BoxAt.cell PB.out 2).trans rfl
         have kPB3 : v10.cell? ⟨w.heap.size, 3, none⟩ = some (.slice sa M sc) := (BoxAt.cell PB.out 3).trans rfl
         have kWB0 : v10.cell? ⟨v1.heap.size, 0, none⟩ = some (.int .i64 p) := (BoxAt.cell WB.out 0).trans rfl
         have kWB1 : v10.cell? ⟨v1.heap.size, 1, none⟩ = some (.int .i64 r) := (BoxAt.cell WB.out 1).trans rfl
         have kWB2 : v10.cell? ⟨v1.heap.size, 2, none⟩ = some (.int .i64 v) := (BoxAt.cell WB.out 2).trans rfl
         have kAB2 : v10.cell? ⟨v4.heap.size, 2, none⟩ = some (.slice qv7.a qv7.n qv7.c) := (BoxAt.cell AB.out 2).trans rfl
         have kAB3 : v10.cell? ⟨v4.heap.size, 3, none⟩ = some (.slice u.a u.n u.c) := (BoxAt.cell AB.out 3).trans rfl
         clear b h z hfl FL8)
      | (have hfl := FL9.out
         refine wpList_store_whole rfl 27 _ _ rfl rfl (v9.heap.size) rfl [.int .i64 fp, .int .i64 fr, .int .i64 fv] rfl _ _ FB.out rfl Try.infoWt (by simp [Value.oneCell']) ?_
         intro v11 b g z
         have hsv11 : v10.heap.size ≤ v11.heap.size := by omega
         have HU := hid (HU.out.apart g (fun k hk => Nat.ne_of_lt (HUB.out k hk)))
         have HT := hid (HT.out.put g FB.out (by decide))
         have HF := hid (HF.out.apart g (fun k hk => Nat.ne_of_lt (HFB.out k hk)))
         have FB := hid (show BoxAt v11 (v9.heap.size) 27 #[.int .i64 fp, .int .i64 fr, .int .i64 fv] from b)
         have PB := hid (PB.out.grown g (fun e => by have := Option.some.inj e; omega))
         have WB := hid (WB.out.grown g (fun e => by have := Option.some.inj e; omega))
         have RB := hid (RB.out.grown g (fun e => by have := Option.some.inj e; omega))
         have AB := hid (AB.out.grown g (fun e => by have := Option.some.inj e; omega))
         have HB := hid (HB.out.trans (grown_below g (by omega) (by omega)))
         clear kPB0 kPB1 kPB2 kPB3 kWB0 kWB1 kWB2 kAB2 kAB3
         have kPB0 : v11.cell? ⟨w.heap.size, 0, none⟩ = some (.int .i64 d) := (BoxAt.cell PB.out 0).trans rfl
         have kPB1 : v11.cell? ⟨w.heap.size, 1, none⟩ = some (.bool k) := (BoxAt.cell PB.out 1).trans rfl
         have kPB2 : v11.cell? ⟨w.heap.size, 2, none⟩ = some (.slice (some ⟨bb, off, none⟩) 1 1) := (BoxAt.cell PB.out 2).trans rfl
         have kPB3 : v11.cell? ⟨w.heap.size, 3, none⟩ = some (.slice sa M sc) := (BoxAt.cell PB.out 3).trans rfl
         have kWB0 : v11.cell? ⟨v1.heap.size, 0, none⟩ = some (.int .i64 p) := (BoxAt.cell WB.out 0).trans rfl
         have kWB1 : v11.cell? ⟨v1.heap.size, 1, none⟩ = some (.int .i64 r) := (BoxAt.cell WB.out 1).trans rfl
         have kWB2 : v11.cell? ⟨v1.heap.size, 2, none⟩ = some (.int .i64 v) := (BoxAt.cell WB.out 2).trans rfl
         have kAB2 : v11.cell? ⟨v4.heap.size, 2, none⟩ = some (.slice qv7.a qv7.n qv7.c) := (BoxAt.cell AB.out 2).trans rfl
         have kAB3 : v11.cell? ⟨v4.heap.size, 3, none⟩ = some (.slice u.a u.n u.c) := (BoxAt.cell AB.out 3).trans rfl
         have kFB0 : v11.cell? ⟨v9.heap.size, 0, none⟩ = some (.int .i64 fp) := (BoxAt.cell FB.out 0).trans rfl
         have kFB2 : v11.cell? ⟨v9.heap.size, 2, none⟩ = some (.int .i64 fv) := (BoxAt.cell FB.out 2).trans rfl
         clear b g z hfl FL9
         refine Hid.out ?_)
      | fail)
    refine hid ?_
    clear kPB0 kPB1 kPB2 kPB3 kWB0 kWB1 kWB2 kAB2 kAB3 kFB0 kFB2
    have kPB0 : v11.cell? ⟨w.heap.size, 0, none⟩ = some (.int .i64 d) := (BoxAt.cell PB.out 0).trans rfl
    have kPB1 : v11.cell? ⟨w.heap.size, 1, none⟩ = some (.bool k) := (BoxAt.cell PB.out 1).trans rfl
    have kPB2 : v11.cell? ⟨w.heap.size, 2, none⟩ = some (.slice (some ⟨bb, off, none⟩) 1 1) := (BoxAt.cell PB.out 2).trans rfl
    have kPB3 : v11.cell? ⟨w.heap.size, 3, none⟩ = some (.slice sa M sc) := (BoxAt.cell PB.out 3).trans rfl
    have kWB0 : v11.cell? ⟨v1.heap.size, 0, none⟩ = some (.int .i64 p) := (BoxAt.cell WB.out 0).trans rfl
    have kWB1 : v11.cell? ⟨v1.heap.size, 1, none⟩ = some (.int .i64 r) := (BoxAt.cell WB.out 1).trans rfl
    have kWB2 : v11.cell? ⟨v1.heap.size, 2, none⟩ = some (.int .i64 v) := (BoxAt.cell WB.out 2).trans rfl
    have kAB2 : v11.cell? ⟨v4.heap.size, 2, none⟩ = some (.slice qv7.a qv7.n qv7.c) := (BoxAt.cell AB.out 2).trans rfl
    have kAB3 : v11.cell? ⟨v4.heap.size, 3, none⟩ = some (.slice u.a u.n u.c) := (BoxAt.cell AB.out 3).trans rfl
    have kFB0 : v11.cell? ⟨v9.heap.size, 0, none⟩ = some (.int .i64 fp) := (BoxAt.cell FB.out 0).trans rfl
    have kFB2 : v11.cell? ⟨v9.heap.size, 2, none⟩ = some (.int .i64 fv) := (BoxAt.cell FB.out 2).trans rfl
    have FL10 := hid trivial
    go_wp2_with (first
      | (have hfl := FL10.out
         refine wpList_store_box rfl 23 _ _ rfl rfl (v4.heap.size) 3 (.slice f.a f.n f.c) rfl rfl rfl rfl (by kernel_rfl) _ _ AB.out (by simp) ?_
         intro v12 b g z
         have hsv12 : v11.heap.size ≤ v12.heap.size := by omega
         have HU := hid (HU.out.put g AB.out (by decide))
         have HT := hid (HT.out.put g AB.out (by decide))
         have HF := hid (HF.out.put g AB.out (by decide))
         have AB := hid (show BoxAt v12 (v4.heap.size) 25 #[.int .i64 d, .bool k, .slice qv7.a qv7.n qv7.c, .slice f.a f.n f.c] from by simpa using b)
         have PB := hid (PB.out.grown g (fun e => by have := Option.some.inj e; omega))
         have WB := hid (WB.out.grown g (fun e => by have := Option.some.inj e; omega))
         have RB := hid (RB.out.grown g (fun e => by have := Option.some.inj e; omega))
         have FB := hid (FB.out.grown g (fun e => by have := Option.some.inj e; omega))
         have HB := hid (HB.out.trans (grown_below g (by omega) (by omega)))
         clear kPB0 kPB1 kPB2 kPB3 kWB0 kWB1 kWB2 kAB2 kAB3 kFB0 kFB2
         have kPB0 : v12.cell? ⟨w.heap.size, 0, none⟩ = some (.int .i64 d) := (BoxAt.cell PB.out 0).trans rfl
         have kPB1 : v12.cell? ⟨w.heap.size, 1, none⟩ = some (.bool k) := (BoxAt.cell PB.out 1).trans rfl
         have kPB2 : v12.cell? ⟨w.heap.size, 2, none⟩ = some (.slice (some ⟨bb, off, none⟩) 1 1) := (BoxAt.cell PB.out 2).trans rfl
         have kPB3 : v12.cell? ⟨w.heap.size, 3, none⟩ = some (.slice sa M sc) := (BoxAt.cell PB.out 3).trans rfl
         have kWB0 : v12.cell? ⟨v1.heap.size, 0, none⟩ = some (.int .i64 p) := (BoxAt.cell WB.out 0).trans rfl
         have kWB1 : v12.cell? ⟨v1.heap.size, 1, none⟩ = some (.int .i64 r) := (BoxAt.cell WB.out 1).trans rfl
         have kWB2 : v12.cell? ⟨v1.heap.size, 2, none⟩ = some (.int .i64 v) := (BoxAt.cell WB.out 2).trans rfl
         have kAB2 : v12.cell? ⟨v4.heap.size, 2, none⟩ = some (.slice qv7.a qv7.n qv7.c) := (BoxAt.cell AB.out 2).trans rfl
         have kAB3 : v12.cell? ⟨v4.heap.size, 3, none⟩ = some (.slice f.a f.n f.c) := (BoxAt.cell AB.out 3).trans rfl
         have kFB0 : v12.cell? ⟨v9.heap.size, 0, none⟩ = some (.int .i64 fp) := (BoxAt.cell FB.out 0).trans rfl
         have kFB2 : v12.cell? ⟨v9.heap.size, 2, none⟩ = some (.int .i64 fv) := (BoxAt.cell FB.out 2).trans rfl
         clear b g z hfl FL10
         refine Hid.out ?_)
      | fail)
    refine hid ?_
    clear HU
    clear kPB0 kPB1 kPB2 kPB3 kWB0 kWB1 kWB2 kAB2 kAB3 kFB0 kFB2
    have kPB0 : v12.cell? ⟨w.heap.size, 0, none⟩ = some (.int .i64 d) := (BoxAt.cell PB.out 0).trans rfl
    have kPB1 : v12.cell? ⟨w.heap.size, 1, none⟩ = some (.bool k) := (BoxAt.cell PB.out 1).trans rfl
    have kPB2 : v12.cell? ⟨w.heap.size, 2, none⟩ = some (.slice (some ⟨bb, off, none⟩) 1 1) := (BoxAt.cell PB.out 2).trans rfl
    have kPB3 : v12.cell? ⟨w.heap.size, 3, none⟩ = some (.slice sa M sc) := (BoxAt.cell PB.out 3).trans rfl
    have kWB0 : v12.cell? ⟨v1.heap.size, 0, none⟩ = some (.int .i64 p) := (BoxAt.cell WB.out 0).trans rfl
    have kWB1 : v12.cell? ⟨v1.heap.size, 1, none⟩ = some (.int .i64 r) := (BoxAt.cell WB.out 1).trans rfl
    have kWB2 : v12.cell? ⟨v1.heap.size, 2, none⟩ = some (.int .i64 v) := (BoxAt.cell WB.out 2).trans rfl
    have kAB2 : v12.cell? ⟨v4.heap.size, 2, none⟩ = some (.slice qv7.a qv7.n qv7.c) := (BoxAt.cell AB.out 2).trans rfl
    have kAB3 : v12.cell? ⟨v4.heap.size, 3, none⟩ = some (.slice f.a f.n f.c) := (BoxAt.cell AB.out 3).trans rfl
    have kFB0 : v12.cell? ⟨v9.heap.size, 0, none⟩ = some (.int .i64 fp) := (BoxAt.cell FB.out 0).trans rfl
    have kFB2 : v12.cell? ⟨v9.heap.size, 2, none⟩ = some (.int .i64 fv) := (BoxAt.cell FB.out 2).trans rfl
    have FL11 := hid trivial
    have FL12 := hid trivial
    go_wp2_with (first
      | (have hfl := FL11.out
         refine wpList_litI rfl (.tmp 44) rfl (fv) rfl ?_
         intro v13 b h
         have LB := hid (show BoxAt v13 v12.heap.size 3 #[.int .i64 (fv)] from b)
         have PB := hid (PB.out.belowAll h)
         have WB := hid (WB.out.belowAll h)
         have RB := hid (RB.out.belowAll h)
         have AB := hid (AB.out.belowAll h)
         have FB := hid (FB.out.belowAll h)
         have HT := hid (HT.out.below h)
         have HF := hid (HF.out.below h)
         have HB := hid (HB.out.trans (h.mono HB.out.size))
         have hsv13 : v12.heap.size ≤ v13.heap.size := by first | exact h.size | omega
         clear kPB0 kPB1 kPB2 kPB3 kWB0 kWB1 kWB2 kAB2 kAB3 kFB0 kFB2
         have kPB0 : v13.cell? ⟨w.heap.size, 0, none⟩ = some (.int .i64 d) := (BoxAt.cell PB.out 0).trans rfl
         have kPB1 : v13.cell? ⟨w.heap.size, 1, none⟩ = some (.bool k) := (BoxAt.cell PB.out 1).trans rfl
         have kPB2 : v13.cell? ⟨w.heap.size, 2, none⟩ = some (.slice (some ⟨bb, off, none⟩) 1 1) := (BoxAt.cell PB.out 2).trans rfl
         have kPB3 : v13.cell? ⟨w.heap.size, 3, none⟩ = some (.slice sa M sc) := (BoxAt.cell PB.out 3).trans rfl
         have kWB0 : v13.cell? ⟨v1.heap.size, 0, none⟩ = some (.int .i64 p) := (BoxAt.cell WB.out 0).trans rfl
         have kWB1 : v13.cell? ⟨v1.heap.size, 1, none⟩ = some (.int .i64 r) := (BoxAt.cell WB.out 1).trans rfl
         have kWB2 : v13.cell? ⟨v1.heap.size, 2, none⟩ = some (.int .i64 v) := (BoxAt.cell WB.out 2).trans rfl
         have kAB2 : v13.cell? ⟨v4.heap.size, 2, none⟩ = some (.slice qv7.a qv7.n qv7.c) := (BoxAt.cell AB.out 2).trans rfl
         have kAB3 : v13.cell? ⟨v4.heap.size, 3, none⟩ = some (.slice f.a f.n f.c) := (BoxAt.cell AB.out 3).trans rfl
         have kFB0 : v13.cell? ⟨v9.heap.size, 0, none⟩ = some (.int .i64 fp) := (BoxAt.cell FB.out 0).trans rfl
         have kFB2 : v13.cell? ⟨v9.heap.size, 2, none⟩ = some (.int .i64 fv) := (BoxAt.cell FB.out 2).trans rfl
         clear b h hfl FL11)
      | (have hfl := FL12.out
         at_builtin
         refine app_ints rfl (.tmp 42) (.tmp 45) rfl (w.heap.size) _ (xs.drop 1) rfl HT.out _ [fv] rfl (Sees.box (ys := [fv]) LB.out (by simp)) (by have := HXL.out; simp; omega) (by omega) ?_
         intro uv14 v14 ho g h
         obtain ⟨qv14, rfl, -⟩ := ho.sl
         have hsv14 : v13.heap.size ≤ v14.heap.size := g.size
         have PB := hid (PB.out.grown g (OI.apart HT.out PB.out (by decide)))
         have WB := hid (WB.out.grown g (OI.apart HT.out WB.out (by decide)))
         have RB := hid (RB.out.grown g (OI.apart HT.out RB.out (by decide)))
         have AB := hid (AB.out.grown g (OI.apart HT.out AB.out (by decide)))
         have FB := hid (FB.out.grown g (OI.apart HT.out FB.out (by decide)))
         have HF := hid (HF.out.over HT.out g)
         have HB := hid (HB.out.trans h)
         have HT := hid ho
         clear ho g h
         clear LB
         clear kPB0 kPB1 kPB2 kPB3 kWB0 kWB1 kWB2 kAB2 kAB3 kFB0 kFB2
         have kPB0 : v14.cell? ⟨w.heap.size, 0, none⟩ = some (.int .i64 d) := (BoxAt.cell PB.out 0).trans rfl
         have kPB1 : v14.cell? ⟨w.heap.size, 1, none⟩ = some (.bool k) := (BoxAt.cell PB.out 1).trans rfl
         have kPB2 : v14.cell? ⟨w.heap.size, 2, none⟩ = some (.slice (some ⟨bb, off, none⟩) 1 1) := (BoxAt.cell PB.out 2).trans rfl
         have kPB3 : v14.cell? ⟨w.heap.size, 3, none⟩ = some (.slice sa M sc) := (BoxAt.cell PB.out 3).trans rfl
         have kWB0 : v14.cell? ⟨v1.heap.size, 0, none⟩ = some (.int .i64 p) := (BoxAt.cell WB.out 0).trans rfl
         have kWB1 : v14.cell? ⟨v1.heap.size, 1, none⟩ = some (.int .i64 r) := (BoxAt.cell WB.out 1).trans rfl
         have kWB2 : v14.cell? ⟨v1.heap.size, 2, none⟩ = some (.int .i64 v) := (BoxAt.cell WB.out 2).trans rfl
         have kAB2 : v14.cell? ⟨v4.heap.size, 2, none⟩ = some (.slice qv7.a qv7.n qv7.c) := (BoxAt.cell AB.out 2).trans rfl
         have kAB3 : v14.cell? ⟨v4.heap.size, 3, none⟩ = some (.slice f.a f.n f.c) := (BoxAt.cell AB.out 3).trans rfl
         have kFB0 : v14.cell? ⟨v9.heap.size, 0, none⟩ = some (.int .i64 fp) := (BoxAt.cell FB.out 0).trans rfl
         have kFB2 : v14.cell? ⟨v9.heap.size, 2, none⟩ = some (.int .i64 fv) := (BoxAt.cell FB.out 2).trans rfl
         clear hfl FL12
         refine Hid.out ?_)
      | fail)
    refine hid ?_
    have FL13 := hid trivial
    go_wp2_with (first
      | (have hfl := FL13.out
         refine wpList_store_box rfl 22 _ _ rfl rfl (v4.heap.size) 2 (.slice qv14.a qv14.n qv14.c) rfl rfl rfl rfl (by kernel_rfl) _ _ AB.out (by simp) ?_
         intro v15 b g z
         have hsv15 : v14.heap.size ≤ v15.heap.size := by omega
         have HT := hid (HT.out.put g AB.out (by decide))
         have HF := hid (HF.out.put g AB.out (by decide))
         have AB := hid (show BoxAt v15 (v4.heap.size) 25 #[.int .i64 d, .bool k, .slice qv14.a qv14.n qv14.c, .slice f.a f.n f.c] from by simpa using b)
         have PB := hid (PB.out.grown g (fun e => by have := Option.some.inj e; omega))
         have WB := hid (WB.out.grown g (fun e => by have := Option.some.inj e; omega))
         have RB := hid (RB.out.grown g (fun e => by have := Option.some.inj e; omega))
         have FB := hid (FB.out.grown g (fun e => by have := Option.some.inj e; omega))
         have HB := hid (HB.out.trans (grown_below g (by omega) (by omega)))
         clear kPB0 kPB1 kPB2 kPB3 kWB0 kWB1 kWB2 kAB2 kAB3 kFB0 kFB2
         have kPB0 : v15.cell? ⟨w.heap.size, 0, none⟩ = some (.int .i64 d) := (BoxAt.cell PB.out 0).trans rfl
         have kPB1 : v15.cell? ⟨w.heap.size, 1, none⟩ = some (.bool k) := (BoxAt.cell PB.out 1).trans rfl
         have kPB2 : v15.cell? ⟨w.heap.size, 2, none⟩ = some (.slice (some ⟨bb, off, none⟩) 1 1) := (BoxAt.cell PB.out 2).trans rfl
         have kPB3 : v15.cell? ⟨w.heap.size, 3, none⟩ = some (.slice sa M sc) := (BoxAt.cell PB.out 3).trans rfl
         have kWB0 : v15.cell? ⟨v1.heap.size, 0, none⟩ = some (.int .i64 p) := (BoxAt.cell WB.out 0).trans rfl
         have kWB1 : v15.cell? ⟨v1.heap.size, 1, none⟩ = some (.int .i64 r) := (BoxAt.cell WB.out 1).trans rfl
         have kWB2 : v15.cell? ⟨v1.heap.size, 2, none⟩ = some (.int .i64 v) := (BoxAt.cell WB.out 2).trans rfl
         have kAB2 : v15.cell? ⟨v4.heap.size, 2, none⟩ = some (.slice qv14.a qv14.n qv14.c) := (BoxAt.cell AB.out 2).trans rfl
         have kAB3 : v15.cell? ⟨v4.heap.size, 3, none⟩ = some (.slice f.a f.n f.c) := (BoxAt.cell AB.out 3).trans rfl
         have kFB0 : v15.cell? ⟨v9.heap.size, 0, none⟩ = some (.int .i64 fp) := (BoxAt.cell FB.out 0).trans rfl
         have kFB2 : v15.cell? ⟨v9.heap.size, 2, none⟩ = some (.int .i64 fv) := (BoxAt.cell FB.out 2).trans rfl
         clear b g z hfl FL13
         refine Hid.out ?_)
      | fail)
    refine hid ?_
    go_wp2_with fail
    clear kPB0 kPB1 kPB2 kPB3 kWB0 kWB1 kWB2 kAB2 kAB3 kFB0 kFB2
    have PB := hid (BoxAt.drew PB.out)
    have WB := hid (BoxAt.drew WB.out)
    have RB := hid (BoxAt.drew RB.out)
    have AB := hid (BoxAt.drew AB.out)
    have FB := hid (BoxAt.drew FB.out)
    have HT := hid (HT.out.below ((Below.refl v15.heap.size v15).drew))
    have HF := hid (HF.out.below ((Below.refl v15.heap.size v15).drew))
    have HB := hid HB.out.drew
    have hsv16 : v15.heap.size ≤ v15.drew.heap.size := Nat.le_refl _
    refine wp_region_held_drew (S := (fun w' : World => BoxAt w' (v4.heap.size) 25 #[.int .i64 d, .bool k, .slice qv14.a qv14.n qv14.c, .slice f.a f.n f.c] ∧ BoxAt w' (w.heap.size) 25 #[.int .i64 d, .bool k, .slice (some ⟨bb, off, none⟩) 1 1, .slice sa M sc] ∧ BoxAt w' (v9.heap.size) 27 #[.int .i64 fp, .int .i64 fr, .int .i64 fv] ∧ w'.cell? ⟨bb, off, none⟩ = some (.int .i64 e0))) (by kernel_rfl) (⟨AB.out, PB.out, FB.out, (HB.out.cell (by exact hbw)).trans C0.out⟩) (fun hHeld => ?_)
    generalize v15.drew = v16 at *
    refine wpAnyH_take (i := 0) (oi := { dst := some 48, op := Op.load 25 (Operand.tmp 10), type := 25, pos := "ref.go:47", after := _, guard := none }) (v := ?_) rfl (by kernel_rfl) (by kernel_rfl) (by kernel_rfl) (fun _ _ _ h => h) (Or.inl ⟨by rfl, ?_⟩) (by assumption) ?_
    rotate_left
    · (intro W hSw; (try dsimp only at hSw); obtain ⟨x0, x1, x2, x3⟩ := hSw; have c0_0 : W.cell? ⟨v4.heap.size, 0, none⟩ = some (.int .i64 d) := (BoxAt.cell x0 0).trans rfl; have c0_1 : W.cell? ⟨v4.heap.size, 1, none⟩ = some (.bool k) := (BoxAt.cell x0 1).trans rfl; have c0_2 : W.cell? ⟨v4.heap.size, 2, none⟩ = some (.slice qv14.a qv14.n qv14.c) := (BoxAt.cell x0 2).trans rfl; have c0_3 : W.cell? ⟨v4.heap.size, 3, none⟩ = some (.slice f.a f.n f.c) := (BoxAt.cell x0 3).trans rfl; have c1_0 : W.cell? ⟨w.heap.size, 0, none⟩ = some (.int .i64 d) := (BoxAt.cell x1 0).trans rfl; have c1_1 : W.cell? ⟨w.heap.size, 1, none⟩ = some (.bool k) := (BoxAt.cell x1 1).trans rfl; have c1_2 : W.cell? ⟨w.heap.size, 2, none⟩ = some (.slice (some ⟨bb, off, none⟩) 1 1) := (BoxAt.cell x1 2).trans rfl; have c1_3 : W.cell? ⟨w.heap.size, 3, none⟩ = some (.slice sa M sc) := (BoxAt.cell x1 3).trans rfl; have c2_0 : W.cell? ⟨v9.heap.size, 0, none⟩ = some (.int .i64 fp) := (BoxAt.cell x2 0).trans rfl; have c2_1 : W.cell? ⟨v9.heap.size, 1, none⟩ = some (.int .i64 fr) := (BoxAt.cell x2 1).trans rfl; have c2_2 : W.cell? ⟨v9.heap.size, 2, none⟩ = some (.int .i64 fv) := (BoxAt.cell x2 2).trans rfl; clear x0 x1 x2; go_simp; try with_reducible rfl)
    simp only [Act.put, List.setIfInBounds_toArray, List.set_cons_zero, List.set_cons_succ]
    refine wpAnyH_take (i := 1) (oi := { dst := some 49, op := Op.fieldAddr 25 (Operand.tmp 3) 2, type := 0, pos := "ref.go:47", after := _, guard := none }) (v := ?_) rfl (by kernel_rfl) (by kernel_rfl) (by kernel_rfl) (fun _ _ _ h => h) (Or.inl ⟨by rfl, ?_⟩) (by assumption) ?_
    rotate_left
    · (intro w hSw; (try dsimp only at hSw); go_simp; try with_reducible rfl)
    simp only [Act.put, List.setIfInBounds_toArray, List.set_cons_zero, List.set_cons_succ]
    refine wpAnyH_take (i := 2) (oi := { dst := some 50, op := Op.load 22 (Operand.tmp 49), type := 22, pos := "ref.go:47", after := _, guard := none }) (v := ?_) rfl (by kernel_rfl) (by kernel_rfl) (by kernel_rfl) (fun _ _ _ h => h) (Or.inl ⟨by rfl, ?_⟩) (by assumption) ?_
    rotate_left
    · (intro W hSw; (try dsimp only at hSw); obtain ⟨x0, x1, x2, x3⟩ := hSw; have c0_0 : W.cell? ⟨v4.heap.size, 0, none⟩ = some (.int .i64 d) := (BoxAt.cell x0 0).trans rfl; have c0_1 : W.cell? ⟨v4.heap.size, 1, none⟩ = some (.bool k) := (BoxAt.cell x0 1).trans rfl; have c0_2 : W.cell? ⟨v4.heap.size, 2, none⟩ = some (.slice qv14.a qv14.n qv14.c) := (BoxAt.cell x0 2).trans rfl; have c0_3 : W.cell? ⟨v4.heap.size, 3, none⟩ = some (.slice f.a f.n f.c) := (BoxAt.cell x0 3).trans rfl; have c1_0 : W.cell? ⟨w.heap.size, 0, none⟩ = some (.int .i64 d) := (BoxAt.cell x1 0).trans rfl; have c1_1 : W.cell? ⟨w.heap.size, 1, none⟩ = some (.bool k) := (BoxAt.cell x1 1).trans rfl; have c1_2 : W.cell? ⟨w.heap.size, 2, none⟩ = some (.slice (some ⟨bb, off, none⟩) 1 1) := (BoxAt.cell x1 2).trans rfl; have c1_3 : W.cell? ⟨w.heap.size, 3, none⟩ = some (.slice sa M sc) := (BoxAt.cell x1 3).trans rfl; have c2_0 : W.cell? ⟨v9.heap.size, 0, none⟩ = some (.int .i64 fp) := (BoxAt.cell x2 0).trans rfl; have c2_1 : W.cell? ⟨v9.heap.size, 1, none⟩ = some (.int .i64 fr) := (BoxAt.cell x2 1).trans rfl; have c2_2 : W.cell? ⟨v9.heap.size, 2, none⟩ = some (.int .i64 fv) := (BoxAt.cell x2 2).trans rfl; clear x0 x1 x2; go_simp; try with_reducible rfl)
    simp only [Act.put, List.setIfInBounds_toArray, List.set_cons_zero, List.set_cons_succ]
    refine wpAnyH_take (i := 3) (oi := { dst := some 51, op := Op.indexAddr 22 (Operand.tmp 50) (Operand.const (Value.int IntKind.i64 0)), type := 0, pos := "ref.go:47", after := _, guard := none }) (v := ?_) rfl (by kernel_rfl) (by kernel_rfl) (by kernel_rfl) (fun _ _ _ h => h) (Or.inl ⟨by rfl, ?_⟩) (by assumption) ?_
    rotate_left
    · (intro w hSw; (try dsimp only at hSw); go_simp; try with_reducible rfl)
    simp only [Act.put, List.setIfInBounds_toArray, List.set_cons_zero, List.set_cons_succ]
    refine wpAnyH_take (i := 4) (oi := { dst := some 52, op := Op.load 3 (Operand.tmp 51), type := 3, pos := "ref.go:47", after := _, guard := none }) (v := ?_) rfl (by kernel_rfl) (by kernel_rfl) (by kernel_rfl) (fun _ _ _ h => h) (Or.inl ⟨by rfl, ?_⟩) (by assumption) ?_
    rotate_left
    · (intro W hSw; (try dsimp only at hSw); obtain ⟨x0, x1, x2, x3⟩ := hSw; have c0_0 : W.cell? ⟨v4.heap.size, 0, none⟩ = some (.int .i64 d) := (BoxAt.cell x0 0).trans rfl; have c0_1 : W.cell? ⟨v4.heap.size, 1, none⟩ = some (.bool k) := (BoxAt.cell x0 1).trans rfl; have c0_2 : W.cell? ⟨v4.heap.size, 2, none⟩ = some (.slice qv14.a qv14.n qv14.c) := (BoxAt.cell x0 2).trans rfl; have c0_3 : W.cell? ⟨v4.heap.size, 3, none⟩ = some (.slice f.a f.n f.c) := (BoxAt.cell x0 3).trans rfl; have c1_0 : W.cell? ⟨w.heap.size, 0, none⟩ = some (.int .i64 d) := (BoxAt.cell x1 0).trans rfl; have c1_1 : W.cell? ⟨w.heap.size, 1, none⟩ = some (.bool k) := (BoxAt.cell x1 1).trans rfl; have c1_2 : W.cell? ⟨w.heap.size, 2, none⟩ = some (.slice (some ⟨bb, off, none⟩) 1 1) := (BoxAt.cell x1 2).trans rfl; have c1_3 : W.cell? ⟨w.heap.size, 3, none⟩ = some (.slice sa M sc) := (BoxAt.cell x1 3).trans rfl; have c2_0 : W.cell? ⟨v9.heap.size, 0, none⟩ = some (.int .i64 fp) := (BoxAt.cell x2 0).trans rfl; have c2_1 : W.cell? ⟨v9.heap.size, 1, none⟩ = some (.int .i64 fr) := (BoxAt.cell x2 1).trans rfl; have c2_2 : W.cell? ⟨v9.heap.size, 2, none⟩ = some (.int .i64 fv) := (BoxAt.cell x2 2).trans rfl; clear x0 x1 x2; go_simp; try with_reducible rfl)
    simp only [Act.put, List.setIfInBounds_toArray, List.set_cons_zero, List.set_cons_succ]
    refine wpAnyH_take (i := 5) (oi := { dst := some 53, op := Op.fieldAddr 27 (Operand.tmp 11) 0, type := 0, pos := "ref.go:47", after := _, guard := none }) (v := ?_) rfl (by kernel_rfl) (by kernel_rfl) (by kernel_rfl) (fun _ _ _ h => h) (Or.inl ⟨by rfl, ?_⟩) (by assumption) ?_
    rotate_left
    · (intro w hSw; (try dsimp only at hSw); go_simp; try with_reducible rfl)
    simp only [Act.put, List.setIfInBounds_toArray, List.set_cons_zero, List.set_cons_succ]
    refine wpAnyH_take (i := 6) (oi := { dst := some 54, op := Op.load 3 (Operand.tmp 53), type := 3, pos := "ref.go:47", after := _, guard := none }) (v := ?_) rfl (by kernel_rfl) (by kernel_rfl) (by kernel_rfl) (fun _ _ _ h => h) (Or.inl ⟨by rfl, ?_⟩) (by assumption) ?_
    rotate_left
    · (intro W hSw; (try dsimp only at hSw); obtain ⟨x0, x1, x2, x3⟩ := hSw; have c0_0 : W.cell? ⟨v4.heap.size, 0, none⟩ = some (.int .i64 d) := (BoxAt.cell x0 0).trans rfl; have c0_1 : W.cell? ⟨v4.heap.size, 1, none⟩ = some (.bool k) := (BoxAt.cell x0 1).trans rfl; have c0_2 : W.cell? ⟨v4.heap.size, 2, none⟩ = some (.slice qv14.a qv14.n qv14.c) := (BoxAt.cell x0 2).trans rfl; have c0_3 : W.cell? ⟨v4.heap.size, 3, none⟩ = some (.slice f.a f.n f.c) := (BoxAt.cell x0 3).trans rfl; have c1_0 : W.cell? ⟨w.heap.size, 0, none⟩ = some (.int .i64 d) := (BoxAt.cell x1 0).trans rfl; have c1_1 : W.cell? ⟨w.heap.size, 1, none⟩ = some (.bool k) := (BoxAt.cell x1 1).trans rfl; have c1_2 : W.cell? ⟨w.heap.size, 2, none⟩ = some (.slice (some ⟨bb, off, none⟩) 1 1) := (BoxAt.cell x1 2).trans rfl; have c1_3 : W.cell? ⟨w.heap.size, 3, none⟩ = some (.slice sa M sc) := (BoxAt.cell x1 3).trans rfl; have c2_0 : W.cell? ⟨v9.heap.size, 0, none⟩ = some (.int .i64 fp) := (BoxAt.cell x2 0).trans rfl; have c2_1 : W.cell? ⟨v9.heap.size, 1, none⟩ = some (.int .i64 fr) := (BoxAt.cell x2 1).trans rfl; have c2_2 : W.cell? ⟨v9.heap.size, 2, none⟩ = some (.int .i64 fv) := (BoxAt.cell x2 2).trans rfl; clear x0 x1 x2; go_simp; try with_reducible rfl)
    simp only [Act.put, List.setIfInBounds_toArray, List.set_cons_zero, List.set_cons_succ]
    refine wpAnyH_take (i := 7) (oi := { dst := some 55, op := Op.build 41 #[(0, Operand.tmp 54), (1, Operand.const (Value.int IntKind.i64 0))], type := 41, pos := "ref.go:47", after := _, guard := none }) (v := ?_) rfl (by kernel_rfl) (by kernel_rfl) (by kernel_rfl) (fun _ _ _ h => h) (Or.inl ⟨by rfl, ?_⟩) (by assumption) ?_
    rotate_left
    · (intro w hSw; (try dsimp only at hSw); go_simp; try with_reducible rfl)
    simp only [Act.put, List.setIfInBounds_toArray, List.set_cons_zero, List.set_cons_succ]
    refine wpAnyH_ready (rs := [8, 9]) (by kernel_rfl) (by simp) (AllReadyH.cons (o := { dst := some 56, op := Op.buildSlice 29 1 #[(0, Operand.tmp 55)], type := 29, pos := "ref.go:47", after := _, guard := none }) rfl (fun K1009 hK1009 => ?b1009_8) (AllReadyH.cons (o := { dst := none, op := Op.store 25 (Operand.tmp 6) (Operand.tmp 48), type := 0, pos := "ref.go:47", after := _, guard := none }) rfl (fun K1009 hK1009 => ?b1009_9) AllReadyH.nil))
    case' b1009_8 =>
      refine step_litk rfl (.tmp 55) rfl ((⟨fp, 0, 0⟩ : Wk)) rfl ?_
      intro v17 ho h
      have PB := hid (PB.out.belowAll h)
      have WB := hid (WB.out.belowAll h)
      have RB := hid (RB.out.belowAll h)
      have AB := hid (AB.out.belowAll h)
      have FB := hid (FB.out.belowAll h)
      have HT := hid (HT.out.below h)
      have HF := hid (HF.out.below h)
      have HB := hid (HB.out.trans (h.mono HB.out.size))
      have hsv17 : v16.heap.size ≤ v17.heap.size := by first | exact h.size | omega
      have HQ := hid ho
      clear ho h
      refine hK1009.out _ _ (⟨AB.out, PB.out, FB.out, (HB.out.cell (by exact hbw)).trans C0.out⟩) (fun hHeld1009 => ?_)
      clear hK1009 K1009
      try simp only [Act.put, List.setIfInBounds_toArray, List.set_cons_zero, List.set_cons_succ]
      refine wpAnyH_ready (rs := [9]) (by kernel_rfl) (by simp) (AllReadyH.cons (o := { dst := none, op := Op.store 25 (Operand.tmp 6) (Operand.tmp 48), type := 0, pos := "ref.go:47", after := _, guard := none }) rfl (fun K1010 hK1010 => ?_) AllReadyH.nil)
      refine step_store_whole rfl 25 _ _ rfl (v2.heap.size) rfl [.int .i64 d, .bool k, .slice qv14.a qv14.n qv14.c, .slice f.a f.n f.c] rfl _ _ RB.out rfl Try.infoBf (by simp [Value.oneCell']) ?_
      intro v18 b g z
      have hsv18 : v17.heap.size ≤ v18.heap.size := by omega
      have HT := hid (HT.out.put g RB.out (by decide))
      have HF := hid (HF.out.put g RB.out (by decide))
      have HQ := hid (HQ.out.put g RB.out (by decide))
      have RB := hid (show BoxAt v18 (v2.heap.size) 25 #[.int .i64 d, .bool k, .slice qv14.a qv14.n qv14.c, .slice f.a f.n f.c] from b)
      have PB := hid (PB.out.grown g (fun e => by have := Option.some.inj e; omega))
      have WB := hid (WB.out.grown g (fun e => by have := Option.some.inj e; omega))
      have AB := hid (AB.out.grown g (fun e => by have := Option.some.inj e; omega))
      have FB := hid (FB.out.grown g (fun e => by have := Option.some.inj e; omega))
      have HB := hid (HB.out.trans (grown_below g (by omega) (by omega)))
      clear b g z
      refine hK1010.out _ _ (⟨AB.out, PB.out, FB.out, (HB.out.cell (by exact hbw)).trans C0.out⟩) (fun hHeld1010 => ?_)
      clear hK1010 K1010
      try simp only [Act.put]
      refine wpAnyH_take (i := 10) (oi := { dst := some 7, op := Op.assign (Operand.const (Value.int IntKind.i64 0)), type := 3, pos := "ref.go:47", after := _, guard := none }) (v := ?_) rfl (by kernel_rfl) (by kernel_rfl) (by kernel_rfl) (fun _ _ _ h => h) (Or.inl ⟨by rfl, ?_⟩) (by assumption) ?_
      rotate_left
      · (intro w hSw; (try dsimp only at hSw); go_simp; try with_reducible rfl)
      simp only [Act.put, List.setIfInBounds_toArray, List.set_cons_zero, List.set_cons_succ]
      refine wpAnyH_take (i := 11) (oi := { dst := some 8, op := Op.assign (Operand.tmp 52), type := 3, pos := "ref.go:47", after := _, guard := none }) (v := ?_) rfl (by kernel_rfl) (by kernel_rfl) (by kernel_rfl) (fun _ _ _ h => h) (Or.inl ⟨by rfl, ?_⟩) (by assumption) ?_
      rotate_left
      · (intro w hSw; (try dsimp only at hSw); go_simp; try with_reducible rfl)
      simp only [Act.put, List.setIfInBounds_toArray, List.set_cons_zero, List.set_cons_succ]
      refine wpAnyH_take (i := 12) (oi := { dst := some 9, op := Op.assign (Operand.tmp 56), type := 29, pos := "ref.go:47", after := _, guard := none }) (v := ?_) rfl (by kernel_rfl) (by kernel_rfl) (by kernel_rfl) (fun _ _ _ h => h) (Or.inl ⟨by rfl, ?_⟩) (by assumption) ?_
      rotate_left
      · (intro w hSw; (try dsimp only at hSw); go_simp; try with_reducible rfl)
      simp only [Act.put, List.setIfInBounds_toArray, List.set_cons_zero, List.set_cons_succ]
      refine wpAnyH_done (by kernel_rfl) ?_ _
      clear hHeld hHeld1009 hHeld1010
      have kPB0 : v18.cell? ⟨w.heap.size, 0, none⟩ = some (.int .i64 d) := (BoxAt.cell PB.out 0).trans rfl
      have kPB1 : v18.cell? ⟨w.heap.size, 1, none⟩ = some (.bool k) := (BoxAt.cell PB.out 1).trans rfl
      have kPB2 : v18.cell? ⟨w.heap.size, 2, none⟩ = some (.slice (some ⟨bb, off, none⟩) 1 1) := (BoxAt.cell PB.out 2).trans rfl
      have kPB3 : v18.cell? ⟨w.heap.size, 3, none⟩ = some (.slice sa M sc) := (BoxAt.cell PB.out 3).trans rfl
      have kWB0 : v18.cell? ⟨v1.heap.size, 0, none⟩ = some (.int .i64 p) := (BoxAt.cell WB.out 0).trans rfl
      have kWB1 : v18.cell? ⟨v1.heap.size, 1, none⟩ = some (.int .i64 r) := (BoxAt.cell WB.out 1).trans rfl
      have kWB2 : v18.cell? ⟨v1.heap.size, 2, none⟩ = some (.int .i64 v) := (BoxAt.cell WB.out 2).trans rfl
      have kAB2 : v18.cell? ⟨v4.heap.size, 2, none⟩ = some (.slice qv14.a qv14.n qv14.c) := (BoxAt.cell AB.out 2).trans rfl
      have kAB3 : v18.cell? ⟨v4.heap.size, 3, none⟩ = some (.slice f.a f.n f.c) := (BoxAt.cell AB.out 3).trans rfl
      have kFB0 : v18.cell? ⟨v9.heap.size, 0, none⟩ = some (.int .i64 fp) := (BoxAt.cell FB.out 0).trans rfl
      have kFB2 : v18.cell? ⟨v9.heap.size, 2, none⟩ = some (.int .i64 fv) := (BoxAt.cell FB.out 2).trans rfl
      go_wp2_with fail
      refine bodyPost_ret (results_box_tmp3 rfl _ _ (v2.heap.size) 25 _ (0, 0) _ rfl RB.out Try.underlying25 rfl Try.infoBf) rfl ?_
      exact ⟨qv14, f, ⟨some ⟨v16.heap.size, 0, none⟩, 1, 1⟩, rfl, HT.out, HF.out, HQ.out.mono (by omega), HB.out⟩
    case' b1009_9 =>
      refine step_store_whole rfl 25 _ _ rfl (v2.heap.size) rfl [.int .i64 d, .bool k, .slice qv14.a qv14.n qv14.c, .slice f.a f.n f.c] rfl _ _ RB.out rfl Try.infoBf (by simp [Value.oneCell']) ?_
      intro v17 b g z
      have hsv17 : v16.heap.size ≤ v17.heap.size := by omega
      have HT := hid (HT.out.put g RB.out (by decide))
      have HF := hid (HF.out.put g RB.out (by decide))
      have RB := hid (show BoxAt v17 (v2.heap.size) 25 #[.int .i64 d, .bool k, .slice qv14.a qv14.n qv14.c, .slice f.a f.n f.c] from b)
      have PB := hid (PB.out.grown g (fun e => by have := Option.some.inj e; omega))
      have WB := hid (WB.out.grown g (fun e => by have := Option.some.inj e; omega))
      have AB := hid (AB.out.grown g (fun e => by have := Option.some.inj e; omega))
      have FB := hid (FB.out.grown g (fun e => by have := Option.some.inj e; omega))
      have HB := hid (HB.out.trans (grown_below g (by omega) (by omega)))
      clear b g z
      refine hK1009.out _ _ (⟨AB.out, PB.out, FB.out, (HB.out.cell (by exact hbw)).trans C0.out⟩) (fun hHeld1009 => ?_)
      clear hK1009 K1009
      try simp only [Act.put]
      refine wpAnyH_take (i := 10) (oi := { dst := some 7, op := Op.assign (Operand.const (Value.int IntKind.i64 0)), type := 3, pos := "ref.go:47", after := _, guard := none }) (v := ?_) rfl (by kernel_rfl) (by kernel_rfl) (by kernel_rfl) (fun _ _ _ h => h) (Or.inl ⟨by rfl, ?_⟩) (by assumption) ?_
      rotate_left
      · (intro w hSw; (try dsimp only at hSw); go_simp; try with_reducible rfl)
      simp only [Act.put, List.setIfInBounds_toArray, List.set_cons_zero, List.set_cons_succ]
      refine wpAnyH_take (i := 11) (oi := { dst := some 8, op := Op.assign (Operand.tmp 52), type := 3, pos := "ref.go:47", after := _, guard := none }) (v := ?_) rfl (by kernel_rfl) (by kernel_rfl) (by kernel_rfl) (fun _ _ _ h => h) (Or.inl ⟨by rfl, ?_⟩) (by assumption) ?_
      rotate_left
      · (intro w hSw; (try dsimp only at hSw); go_simp; try with_reducible rfl)
      simp only [Act.put, List.setIfInBounds_toArray, List.set_cons_zero, List.set_cons_succ]
      refine wpAnyH_ready (rs := [8]) (by kernel_rfl) (by simp) (AllReadyH.cons (o := { dst := some 56, op := Op.buildSlice 29 1 #[(0, Operand.tmp 55)], type := 29, pos := "ref.go:47", after := _, guard := none }) rfl (fun K1016 hK1016 => ?_) AllReadyH.nil)
      refine step_litk rfl (.tmp 55) rfl ((⟨fp, 0, 0⟩ : Wk)) rfl ?_
      intro v18 ho h
      have PB := hid (PB.out.belowAll h)
      have WB := hid (WB.out.belowAll h)
      have RB := hid (RB.out.belowAll h)
      have AB := hid (AB.out.belowAll h)
      have FB := hid (FB.out.belowAll h)
      have HT := hid (HT.out.below h)
      have HF := hid (HF.out.below h)
      have HB := hid (HB.out.trans (h.mono HB.out.size))
      have hsv18 : v17.heap.size ≤ v18.heap.size := by first | exact h.size | omega
      have HQ := hid ho
      clear ho h
      refine hK1016.out _ _ (⟨AB.out, PB.out, FB.out, (HB.out.cell (by exact hbw)).trans C0.out⟩) (fun hHeld1016 => ?_)
      clear hK1016 K1016
      try simp only [Act.put, List.setIfInBounds_toArray, List.set_cons_zero, List.set_cons_succ]
      refine wpAnyH_take (i := 12) (oi := { dst := some 9, op := Op.assign (Operand.tmp 56), type := 29, pos := "ref.go:47", after := _, guard := none }) (v := ?_) rfl (by kernel_rfl) (by kernel_rfl) (by kernel_rfl) (fun _ _ _ h => h) (Or.inl ⟨by rfl, ?_⟩) (by assumption) ?_
      rotate_left
      · (intro w hSw; (try dsimp only at hSw); go_simp; try with_reducible rfl)
      simp only [Act.put, List.setIfInBounds_toArray, List.set_cons_zero, List.set_cons_succ]
      refine wpAnyH_done (by kernel_rfl) ?_ _
      clear hHeld hHeld1009 hHeld1016
      have kPB0 : v18.cell? ⟨w.heap.size, 0, none⟩ = some (.int .i64 d) := (BoxAt.cell PB.out 0).trans rfl
      have kPB1 : v18.cell? ⟨w.heap.size, 1, none⟩ = some (.bool k) := (BoxAt.cell PB.out 1).trans rfl
      have kPB2 : v18.cell? ⟨w.heap.size, 2, none⟩ = some (.slice (some ⟨bb, off, none⟩) 1 1) := (BoxAt.cell PB.out 2).trans rfl
      have kPB3 : v18.cell? ⟨w.heap.size, 3, none⟩ = some (.slice sa M sc) := (BoxAt.cell PB.out 3).trans rfl
      have kWB0 : v18.cell? ⟨v1.heap.size, 0, none⟩ = some (.int .i64 p) := (BoxAt.cell WB.out 0).trans rfl
      have kWB1 : v18.cell? ⟨v1.heap.size, 1, none⟩ = some (.int .i64 r) := (BoxAt.cell WB.out 1).trans rfl
      have kWB2 : v18.cell? ⟨v1.heap.size, 2, none⟩ = some (.int .i64 v) := (BoxAt.cell WB.out 2).trans rfl
      have kAB2 : v18.cell? ⟨v4.heap.size, 2, none⟩ = some (.slice qv14.a qv14.n qv14.c) := (BoxAt.cell AB.out 2).trans rfl
      have kAB3 : v18.cell? ⟨v4.heap.size, 3, none⟩ = some (.slice f.a f.n f.c) := (BoxAt.cell AB.out 3).trans rfl
      have kFB0 : v18.cell? ⟨v9.heap.size, 0, none⟩ = some (.int .i64 fp) := (BoxAt.cell FB.out 0).trans rfl
      have kFB2 : v18.cell? ⟨v9.heap.size, 2, none⟩ = some (.int .i64 fv) := (BoxAt.cell FB.out 2).trans rfl
      go_wp2_with fail
      refine bodyPost_ret (results_box_tmp3 rfl _ _ (v2.heap.size) 25 _ (0, 0) _ rfl RB.out Try.underlying25 rfl Try.infoBf) rfl ?_
      exact ⟨qv14, f, ⟨some ⟨v17.heap.size, 0, none⟩, 1, 1⟩, rfl, HT.out, HF.out, HQ.out.mono (by omega), HB.out⟩
  case neg =>
    have HB := hid (Below.refl w.heap.size w)
    go_enter Try.func14, Try.ntmps14
    have FL1 := hid trivial
    have FL2 := hid trivial
    have FL3 := hid trivial
    go_wp2_with (first
      | (have hfl := FL1.out
         refine wpList_box rfl 25 (.tmp 0) rfl #[.int .i64 d, .bool k, .slice (some ⟨bb, off, none⟩) N xc, .slice sa M sc] rfl ?_
         intro v1 b h z
         have PB := hid (show BoxAt v1 w.heap.size 25 #[.int .i64 d, .bool k, .slice (some ⟨bb, off, none⟩) N xc, .slice sa M sc] from b)
         have HB := hid (HB.out.trans (h.mono HB.out.size))
         have hsv1 : w.heap.size + 1 ≤ v1.heap.size := by first | exact h.size | omega
         clear b h z hfl FL1)
      | (have hfl := FL2.out
         refine wpList_box rfl 27 (.tmp 1) rfl #[.int .i64 p, .int .i64 r, .int .i64 v] rfl ?_
         intro v2 b h z
         have WB := hid (show BoxAt v2 v1.heap.size 27 #[.int .i64 p, .int .i64 r, .int .i64 v] from b)
         have PB := hid (PB.out.belowAll h)
         have HB := hid (HB.out.trans (h.mono HB.out.size))
         have hsv2 : v1.heap.size + 1 ≤ v2.heap.size := by first | exact h.size | omega
         have kPB0 : v2.cell? ⟨w.heap.size, 0, none⟩ = some (.int .i64 d) := (BoxAt.cell PB.out 0).trans rfl
         have kPB1 : v2.cell? ⟨w.heap.size, 1, none⟩ = some (.bool k) := (BoxAt.cell PB.out 1).trans rfl
         have kPB2 : v2.cell? ⟨w.heap.size, 2, none⟩ = some (.slice (some ⟨bb, off, none⟩) N xc) := (BoxAt.cell PB.out 2).trans rfl
         have kPB3 : v2.cell? ⟨w.heap.size, 3, none⟩ = some (.slice sa M sc) := (BoxAt.cell PB.out 3).trans rfl
         clear b h z hfl FL2)
      | (have hfl := FL3.out
         refine wpList_new rfl 25 rfl _ Try.zeroBf ?_
         intro v3 b h z
         have RB := hid (show BoxAt v3 v2.heap.size 25 #[.int .i64 0, .bool false, .slice none 0 0, .slice none 0 0] from b)
         have PB := hid (PB.out.belowAll h)
         have WB := hid (WB.out.belowAll h)
         have HB := hid (HB.out.trans (h.mono HB.out.size))
         have hsv3 : v2.heap.size + 1 ≤ v3.heap.size := by first | exact h.size | omega
         clear kPB0 kPB1 kPB2 kPB3
         have kPB0 : v3.cell? ⟨w.heap.size, 0, none⟩ = some (.int .i64 d) := (BoxAt.cell PB.out 0).trans rfl
         have kPB1 : v3.cell? ⟨w.heap.size, 1, none⟩ = some (.bool k) := (BoxAt.cell PB.out 1).trans rfl
         have kPB2 : v3.cell? ⟨w.heap.size, 2, none⟩ = some (.slice (some ⟨bb, off, none⟩) N xc) := (BoxAt.cell PB.out 2).trans rfl
         have kPB3 : v3.cell? ⟨w.heap.size, 3, none⟩ = some (.slice sa M sc) := (BoxAt.cell PB.out 3).trans rfl
         have kWB0 : v3.cell? ⟨v1.heap.size, 0, none⟩ = some (.int .i64 p) := (BoxAt.cell WB.out 0).trans rfl
         have kWB1 : v3.cell? ⟨v1.heap.size, 1, none⟩ = some (.int .i64 r) := (BoxAt.cell WB.out 1).trans rfl
         have kWB2 : v3.cell? ⟨v1.heap.size, 2, none⟩ = some (.int .i64 v) := (BoxAt.cell WB.out 2).trans rfl
         clear b h z hfl FL3
         refine Hid.out ?_)
      | fail)
    refine hid ?_
    clear kPB0 kPB1 kPB2 kPB3 kWB0 kWB1 kWB2
    have kPB0 : v3.cell? ⟨w.heap.size, 0, none⟩ = some (.int .i64 d) := (BoxAt.cell PB.out 0).trans rfl
    have kPB1 : v3.cell? ⟨w.heap.size, 1, none⟩ = some (.bool k) := (BoxAt.cell PB.out 1).trans rfl
    have kPB2 : v3.cell? ⟨w.heap.size, 2, none⟩ = some (.slice (some ⟨bb, off, none⟩) N xc) := (BoxAt.cell PB.out 2).trans rfl
    have kPB3 : v3.cell? ⟨w.heap.size, 3, none⟩ = some (.slice sa M sc) := (BoxAt.cell PB.out 3).trans rfl
    have kWB0 : v3.cell? ⟨v1.heap.size, 0, none⟩ = some (.int .i64 p) := (BoxAt.cell WB.out 0).trans rfl
    have kWB1 : v3.cell? ⟨v1.heap.size, 1, none⟩ = some (.int .i64 r) := (BoxAt.cell WB.out 1).trans rfl
    have kWB2 : v3.cell? ⟨v1.heap.size, 2, none⟩ = some (.int .i64 v) := (BoxAt.cell WB.out 2).trans rfl
    go_wp2_with (first
      | (refine wpList_load_box rfl 25 _ rfl (w.heap.size) rfl _ _ PB.out _ Try.underlying25 Try.infoBf ?_)
      | fail)
    have HBw := HB.out.size
    refine (rbown_any d k (vs := ⟨(some ⟨bb, off, none⟩), N, xc⟩) (s := ⟨sa, M, sc⟩) (HX.out.below HB.out) (HV.out.below HB.out) HXL.out HL.out).mono ?_
    rintro e v4 ⟨x, u, rfl, hc, hu, hb⟩
    have PB := hid (PB.out.belowAll hb)
    have WB := hid (WB.out.belowAll hb)
    have RB := hid (RB.out.belowAll hb)
    have HB := hid (HB.out.trans (hb.mono HB.out.size))
    have hsv4 : v3.heap.size ≤ v4.heap.size := by first | exact hb.size | omega
    have HC := hid (hc.mono HBw)
    have HU := hid (hu.mono HBw)
    clear hc hu HBw
    simp only [Sl.val] at HC HU
    clear kPB0 kPB1 kPB2 kPB3 kWB0 kWB1 kWB2
    have kPB0 : v4.cell? ⟨w.heap.size, 0, none⟩ = some (.int .i64 d) := (BoxAt.cell PB.out 0).trans rfl
    have kPB1 : v4.cell? ⟨w.heap.size, 1, none⟩ = some (.bool k) := (BoxAt.cell PB.out 1).trans rfl
    have kPB2 : v4.cell? ⟨w.heap.size, 2, none⟩ = some (.slice (some ⟨bb, off, none⟩) N xc) := (BoxAt.cell PB.out 2).trans rfl
    have kPB3 : v4.cell? ⟨w.heap.size, 3, none⟩ = some (.slice sa M sc) := (BoxAt.cell PB.out 3).trans rfl
    have kWB0 : v4.cell? ⟨v1.heap.size, 0, none⟩ = some (.int .i64 p) := (BoxAt.cell WB.out 0).trans rfl
    have kWB1 : v4.cell? ⟨v1.heap.size, 1, none⟩ = some (.int .i64 r) := (BoxAt.cell WB.out 1).trans rfl
    have kWB2 : v4.cell? ⟨v1.heap.size, 2, none⟩ = some (.int .i64 v) := (BoxAt.cell WB.out 2).trans rfl
    clear hb
    have FL4 := hid trivial
    have FL5 := hid trivial
    go_wp2_with (first
      | (have hfl := FL4.out
         refine wpList_new rfl 25 rfl _ Try.zeroBf ?_
         intro v5 b h z
         have AB := hid (show BoxAt v5 v4.heap.size 25 #[.int .i64 0, .bool false, .slice none 0 0, .slice none 0 0] from b)
         have PB := hid (PB.out.belowAll h)
         have WB := hid (WB.out.belowAll h)
         have RB := hid (RB.out.belowAll h)
         have HC := hid (HC.out.below h)
         have HU := hid (HU.out.below h)
         have HB := hid (HB.out.trans (h.mono HB.out.size))
         have hsv5 : v4.heap.size + 1 ≤ v5.heap.size := by first | exact h.size | omega
         clear kPB0 kPB1 kPB2 kPB3 kWB0 kWB1 kWB2
         have kPB0 : v5.cell? ⟨w.heap.size, 0, none⟩ = some (.int .i64 d) := (BoxAt.cell PB.out 0).trans rfl
         have kPB1 : v5.cell? ⟨w.heap.size, 1, none⟩ = some (.bool k) := (BoxAt.cell PB.out 1).trans rfl
         have kPB2 : v5.cell? ⟨w.heap.size, 2, none⟩ = some (.slice (some ⟨bb, off, none⟩) N xc) := (BoxAt.cell PB.out 2).trans rfl
         have kPB3 : v5.cell? ⟨w.heap.size, 3, none⟩ = some (.slice sa M sc) := (BoxAt.cell PB.out 3).trans rfl
         have kWB0 : v5.cell? ⟨v1.heap.size, 0, none⟩ = some (.int .i64 p) := (BoxAt.cell WB.out 0).trans rfl
         have kWB1 : v5.cell? ⟨v1.heap.size, 1, none⟩ = some (.int .i64 r) := (BoxAt.cell WB.out 1).trans rfl
         have kWB2 : v5.cell? ⟨v1.heap.size, 2, none⟩ = some (.int .i64 v) := (BoxAt.cell WB.out 2).trans rfl
         clear b h z hfl FL4)
      | (have hfl := FL5.out
         refine wpList_store_whole rfl 25 _ _ rfl rfl (v4.heap.size) rfl [.int .i64 d, .bool k, .slice x.a x.n x.c, .slice u.a u.n u.c] rfl _ _ AB.out rfl Try.infoBf (by simp [Value.oneCell']) ?_
         intro v6 b g z
         have hsv6 : v5.heap.size ≤ v6.heap.size := by omega
         have HC := hid (HC.out.put g AB.out (by decide))
         have HU := hid (HU.out.put g AB.out (by decide))
         have AB := hid (show BoxAt v6 (v4.heap.size) 25 #[.int .i64 d, .bool k, .slice x.a x.n x.c, .slice u.a u.n u.c] from b)
         have PB := hid (PB.out.grown g (fun e => by have := Option.some.inj e; omega))
         have WB := hid (WB.out.grown g (fun e => by have := Option.some.inj e; omega))
         have RB := hid (RB.out.grown g (fun e => by have := Option.some.inj e; omega))
         have HB := hid (HB.out.trans (grown_below g (by omega) (by omega)))
         clear kPB0 kPB1 kPB2 kPB3 kWB0 kWB1 kWB2
         have kPB0 : v6.cell? ⟨w.heap.size, 0, none⟩ = some (.int .i64 d) := (BoxAt.cell PB.out 0).trans rfl
         have kPB1 : v6.cell? ⟨w.heap.size, 1, none⟩ = some (.bool k) := (BoxAt.cell PB.out 1).trans rfl
         have kPB2 : v6.cell? ⟨w.heap.size, 2, none⟩ = some (.slice (some ⟨bb, off, none⟩) N xc) := (BoxAt.cell PB.out 2).trans rfl
         have kPB3 : v6.cell? ⟨w.heap.size, 3, none⟩ = some (.slice sa M sc) := (BoxAt.cell PB.out 3).trans rfl
         have kWB0 : v6.cell? ⟨v1.heap.size, 0, none⟩ = some (.int .i64 p) := (BoxAt.cell WB.out 0).trans rfl
         have kWB1 : v6.cell? ⟨v1.heap.size, 1, none⟩ = some (.int .i64 r) := (BoxAt.cell WB.out 1).trans rfl
         have kWB2 : v6.cell? ⟨v1.heap.size, 2, none⟩ = some (.int .i64 v) := (BoxAt.cell WB.out 2).trans rfl
         have kAB2 : v6.cell? ⟨v4.heap.size, 2, none⟩ = some (.slice x.a x.n x.c) := (BoxAt.cell AB.out 2).trans rfl
         have kAB3 : v6.cell? ⟨v4.heap.size, 3, none⟩ = some (.slice u.a u.n u.c) := (BoxAt.cell AB.out 3).trans rfl
         clear b g z hfl FL5
         refine Hid.out ?_)
      | fail)
    refine hid ?_
    clear kPB0 kPB1 kPB2 kPB3 kWB0 kWB1 kWB2 kAB2 kAB3
    have kPB0 : v6.cell? ⟨w.heap.size, 0, none⟩ = some (.int .i64 d) := (BoxAt.cell PB.out 0).trans rfl
    have kPB1 : v6.cell? ⟨w.heap.size, 1, none⟩ = some (.bool k) := (BoxAt.cell PB.out 1).trans rfl
    have kPB2 : v6.cell? ⟨w.heap.size, 2, none⟩ = some (.slice (some ⟨bb, off, none⟩) N xc) := (BoxAt.cell PB.out 2).trans rfl
    have kPB3 : v6.cell? ⟨w.heap.size, 3, none⟩ = some (.slice sa M sc) := (BoxAt.cell PB.out 3).trans rfl
    have kWB0 : v6.cell? ⟨v1.heap.size, 0, none⟩ = some (.int .i64 p) := (BoxAt.cell WB.out 0).trans rfl
    have kWB1 : v6.cell? ⟨v1.heap.size, 1, none⟩ = some (.int .i64 r) := (BoxAt.cell WB.out 1).trans rfl
    have kWB2 : v6.cell? ⟨v1.heap.size, 2, none⟩ = some (.int .i64 v) := (BoxAt.cell WB.out 2).trans rfl
    have kAB2 : v6.cell? ⟨v4.heap.size, 2, none⟩ = some (.slice x.a x.n x.c) := (BoxAt.cell AB.out 2).trans rfl
    have kAB3 : v6.cell? ⟨v4.heap.size, 3, none⟩ = some (.slice u.a u.n u.c) := (BoxAt.cell AB.out 3).trans rfl
    clear HC
    have FL6 := hid trivial
    go_wp2_with (first
      | (have hfl := FL6.out
         at_builtin
         refine app_nilI rfl (.tmp 22) rfl _ (xs.drop 1) rfl (by first | exact HD.out.below HB.out | (have := HD.out; simp only [if_neg hck] at this; exact this.below HB.out)) (by have := HXL.out; simp; omega) ?_
         intro uv7 v7 ho h
         obtain ⟨qv7, rfl, -⟩ := ho.sl
         have PB := hid (PB.out.belowAll h)
         have WB := hid (WB.out.belowAll h)
         have RB := hid (RB.out.belowAll h)
         have AB := hid (AB.out.belowAll h)
         have HU := hid (HU.out.below h)
         have HB := hid (HB.out.trans (h.mono HB.out.size))
         have hsv7 : v6.heap.size ≤ v7.heap.size := by first | exact h.size | omega
         have HT := hid ho
         clear kPB0 kPB1 kPB2 kPB3 kWB0 kWB1 kWB2 kAB2 kAB3
         have kPB0 : v7.cell? ⟨w.heap.size, 0, none⟩ = some (.int .i64 d) := (BoxAt.cell PB.out 0).trans rfl
         have kPB1 : v7.cell? ⟨w.heap.size, 1, none⟩ = some (.bool k) := (BoxAt.cell PB.out 1).trans rfl
         have kPB2 : v7.cell? ⟨w.heap.size, 2, none⟩ = some (.slice (some ⟨bb, off, none⟩) N xc) := (BoxAt.cell PB.out 2).trans rfl
         have kPB3 : v7.cell? ⟨w.heap.size, 3, none⟩ = some (.slice sa M sc) := (BoxAt.cell PB.out 3).trans rfl
         have kWB0 : v7.cell? ⟨v1.heap.size, 0, none⟩ = some (.int .i64 p) := (BoxAt.cell WB.out 0).trans rfl
         have kWB1 : v7.cell? ⟨v1.heap.size, 1, none⟩ = some (.int .i64 r) := (BoxAt.cell WB.out 1).trans rfl
         have kWB2 : v7.cell? ⟨v1.heap.size, 2, none⟩ = some (.int .i64 v) := (BoxAt.cell WB.out 2).trans rfl
         have kAB2 : v7.cell? ⟨v4.heap.size, 2, none⟩ = some (.slice x.a x.n x.c) := (BoxAt.cell AB.out 2).trans rfl
         have kAB3 : v7.cell? ⟨v4.heap.size, 3, none⟩ = some (.slice u.a u.n u.c) := (BoxAt.cell AB.out 3).trans rfl
         clear ho h hfl FL6
         refine Hid.out ?_)
      | fail)
    refine hid ?_
    have HT := hid (HT.out.mono (base' := w.heap.size) (by omega))
    have FL7 := hid trivial
    go_wp2_with (first
      | (have hfl := FL7.out
         refine wpList_store_box rfl 22 _ _ rfl rfl (v4.heap.size) 2 (.slice qv7.a qv7.n qv7.c) rfl rfl rfl rfl (by kernel_rfl) _ _ AB.out (by simp) ?_
         intro v8 b g z
         have hsv8 : v7.heap.size ≤ v8.heap.size := by omega
         have HU := hid (HU.out.put g AB.out (by decide))
         have HT := hid (HT.out.put g AB.out (by decide))
         have AB := hid (show BoxAt v8 (v4.heap.size) 25 #[.int .i64 d, .bool k, .slice qv7.a qv7.n qv7.c, .slice u.a u.n u.c] from by simpa using b)
         have PB := hid (PB.out.grown g (fun e => by have := Option.some.inj e; omega))
         have WB := hid (WB.out.grown g (fun e => by have := Option.some.inj e; omega))
         have RB := hid (RB.out.grown g (fun e => by have := Option.some.inj e; omega))
         have HB := hid (HB.out.trans (grown_below g (by omega) (by omega)))
         clear kPB0 kPB1 kPB2 kPB3 kWB0 kWB1 kWB2 kAB2 kAB3
         have kPB0 : v8.cell? ⟨w.heap.size, 0, none⟩ = some (.int .i64 d) := (BoxAt.cell PB.out 0).trans rfl
         have kPB1 : v8.cell? ⟨w.heap.size, 1, none⟩ = some (.bool k) := (BoxAt.cell PB.out 1).trans rfl
         have kPB2 : v8.cell? ⟨w.heap.size, 2, none⟩ = some (.slice (some ⟨bb, off, none⟩) N xc) := (BoxAt.cell PB.out 2).trans rfl
         have kPB3 : v8.cell? ⟨w.heap.size, 3, none⟩ = some (.slice sa M sc) := (BoxAt.cell PB.out 3).trans rfl
         have kWB0 : v8.cell? ⟨v1.heap.size, 0, none⟩ = some (.int .i64 p) := (BoxAt.cell WB.out 0).trans rfl
         have kWB1 : v8.cell? ⟨v1.heap.size, 1, none⟩ = some (.int .i64 r) := (BoxAt.cell WB.out 1).trans rfl
         have kWB2 : v8.cell? ⟨v1.heap.size, 2, none⟩ = some (.int .i64 v) := (BoxAt.cell WB.out 2).trans rfl
         have kAB2 : v8.cell? ⟨v4.heap.size, 2, none⟩ = some (.slice qv7.a qv7.n qv7.c) := (BoxAt.cell AB.out 2).trans rfl
         have kAB3 : v8.cell? ⟨v4.heap.size, 3, none⟩ = some (.slice u.a u.n u.c) := (BoxAt.cell AB.out 3).trans rfl
         clear b g z hfl FL7
         refine Hid.out ?_)
      | fail)
    refine hid ?_
    go_wp2_with fail
    have HBf := HB.out.size
    refine (rfirst_yes (HV.out.below HB.out) HL.out H1.out fp fr fv hf).mono ?_
    rintro e v9 ⟨f, rfl, hu, hb⟩
    have PB := hid (PB.out.belowAll hb)
    have WB := hid (WB.out.belowAll hb)
    have RB := hid (RB.out.belowAll hb)
    have AB := hid (AB.out.belowAll hb)
    have HU := hid (HU.out.below hb)
    have HT := hid (HT.out.below hb)
    have HB := hid (HB.out.trans (hb.mono HB.out.size))
    have hsv9 : v8.heap.size ≤ v9.heap.size := by first | exact hb.size | omega
    have HF := hid (hu.mono HBf)
    clear hu HBf
    clear kPB0 kPB1 kPB2 kPB3 kWB0 kWB1 kWB2 kAB2 kAB3
    have kPB0 : v9.cell? ⟨w.heap.size, 0, none⟩ = some (.int .i64 d) := (BoxAt.cell PB.out 0).trans rfl
    have kPB1 : v9.cell? ⟨w.heap.size, 1, none⟩ = some (.bool k) := (BoxAt.cell PB.out 1).trans rfl
    have kPB2 : v9.cell? ⟨w.heap.size, 2, none⟩ = some (.slice (some ⟨bb, off, none⟩) N xc) := (BoxAt.cell PB.out 2).trans rfl
    have kPB3 : v9.cell? ⟨w.heap.size, 3, none⟩ = some (.slice sa M sc) := (BoxAt.cell PB.out 3).trans rfl
    have kWB0 : v9.cell? ⟨v1.heap.size, 0, none⟩ = some (.int .i64 p) := (BoxAt.cell WB.out 0).trans rfl
    have kWB1 : v9.cell? ⟨v1.heap.size, 1, none⟩ = some (.int .i64 r) := (BoxAt.cell WB.out 1).trans rfl
    have kWB2 : v9.cell? ⟨v1.heap.size, 2, none⟩ = some (.int .i64 v) := (BoxAt.cell WB.out 2).trans rfl
    have kAB2 : v9.cell? ⟨v4.heap.size, 2, none⟩ = some (.slice qv7.a qv7.n qv7.c) := (BoxAt.cell AB.out 2).trans rfl
    have kAB3 : v9.cell? ⟨v4.heap.size, 3, none⟩ = some (.slice u.a u.n u.c) := (BoxAt.cell AB.out 3).trans rfl
    clear hb
    have HFB := hid (fun k hk => (HF.out.lt k hk).2)
    have HUB := hid (fun k hk => (HU.out.lt k hk).2)
    have FL8 := hid trivial
    have FL9 := hid trivial
    go_wp2_with (first
      | (have hfl := FL8.out
         refine wpList_new rfl 27 rfl _ Try.zeroWt ?_
         intro v10 b h z
         have FB := hid (show BoxAt v10 v9.heap.size 27 #[.int .i64 0, .int .i64 0, .int .i64 0] from b)
         have PB := hid (PB.out.belowAll h)
         have WB := hid (WB.out.belowAll h)
         have RB := hid (RB.out.belowAll h)
         have AB := hid (AB.out.belowAll h)
         have HU := hid (HU.out.below h)
         have HT := hid (HT.out.below h)
         have HF := hid (HF.out.below h)
         have HB := hid (HB.out.trans (h.mono HB.out.size))
         have hsv10 : v9.heap.size + 1 ≤ v10.heap.size := by first | exact h.size | omega
         clear kPB0 kPB1 kPB2 kPB3 kWB0 kWB1 kWB2 kAB2 kAB3
         have kPB0 : v10.cell? ⟨w.heap.size, 0, none⟩ = some (.int .i64 d) := (BoxAt.cell PB.out 0).trans rfl
         have kPB1 : v10.cell? ⟨w.heap.size, 1, none⟩ = some (.bool k) := (BoxAt.cell PB.out 1).trans rfl
         have kPB2 : v10.cell? ⟨w.heap.size, 2, none⟩ = some (.slice (some ⟨bb, off, none⟩) N xc) := (BoxAt.cell PB.out 2).trans rfl
         have kPB3 : v10.cell? ⟨w.heap.size, 3, none⟩ = some (.slice sa M sc) := (BoxAt.cell PB.out 3).trans rfl
         have kWB0 : v10.cell? ⟨v1.heap.size, 0, none⟩ = some (.int .i64 p) := (BoxAt.cell WB.out 0).trans rfl
         have kWB1 : v10.cell? ⟨v1.heap.size, 1, none⟩ = some (.int .i64 r) := (BoxAt.cell WB.out 1).trans rfl
         have kWB2 : v10.cell? ⟨v1.heap.size, 2, none⟩ = some (.int .i64 v) := (BoxAt.cell WB.out 2).trans rfl
         have kAB2 : v10.cell? ⟨v4.heap.size, 2, none⟩ = some (.slice qv7.a qv7.n qv7.c) := (BoxAt.cell AB.out 2).trans rfl
         have kAB3 : v10.cell? ⟨v4.heap.size, 3, none⟩ = some (.slice u.a u.n u.c) := (BoxAt.cell AB.out 3).trans rfl
         clear b h z hfl FL8)
      | (have hfl := FL9.out
         refine wpList_store_whole rfl 27 _ _ rfl rfl (v9.heap.size) rfl [.int .i64 fp, .int .i64 fr, .int .i64 fv] rfl _ _ FB.out rfl Try.infoWt (by simp [Value.oneCell']) ?_
         intro v11 b g z
         have hsv11 : v10.heap.size ≤ v11.heap.size := by omega
         have HU := hid (HU.out.apart g (fun k hk => Nat.ne_of_lt (HUB.out k hk)))
         have HT := hid (HT.out.put g FB.out (by decide))
         have HF := hid (HF.out.apart g (fun k hk => Nat.ne_of_lt (HFB.out k hk)))
         have FB := hid (show BoxAt v11 (v9.heap.size) 27 #[.int .i64 fp, .int .i64 fr, .int .i64 fv] from b)
         have PB := hid (PB.out.grown g (fun e => by have := Option.some.inj e; omega))
         have WB := hid (WB.out.grown g (fun e => by have := Option.some.inj e; omega))
         have RB := hid (RB.out.grown g (fun e => by have := Option.some.inj e; omega))
         have AB := hid (AB.out.grown g (fun e => by have := Option.some.inj e; omega))
         have HB := hid (HB.out.trans (grown_below g (by omega) (by omega)))
         clear kPB0 kPB1 kPB2 kPB3 kWB0 kWB1 kWB2 kAB2 kAB3
         have kPB0 : v11.cell? ⟨w.heap.size, 0, none⟩ = some (.int .i64 d) := (BoxAt.cell PB.out 0).trans rfl
         have kPB1 : v11.cell? ⟨w.heap.size, 1, none⟩ = some (.bool k) := (BoxAt.cell PB.out 1).trans rfl
         have kPB2 : v11.cell? ⟨w.heap.size, 2, none⟩ = some (.slice (some ⟨bb, off, none⟩) N xc) := (BoxAt.cell PB.out 2).trans rfl
         have kPB3 : v11.cell? ⟨w.heap.size, 3, none⟩ = some (.slice sa M sc) := (BoxAt.cell PB.out 3).trans rfl
         have kWB0 : v11.cell? ⟨v1.heap.size, 0, none⟩ = some (.int .i64 p) := (BoxAt.cell WB.out 0).trans rfl
         have kWB1 : v11.cell? ⟨v1.heap.size, 1, none⟩ = some (.int .i64 r) := (BoxAt.cell WB.out 1).trans rfl
         have kWB2 : v11.cell? ⟨v1.heap.size, 2, none⟩ = some (.int .i64 v) := (BoxAt.cell WB.out 2).trans rfl
         have kAB2 : v11.cell? ⟨v4.heap.size, 2, none⟩ = some (.slice qv7.a qv7.n qv7.c) := (BoxAt.cell AB.out 2).trans rfl
         have kAB3 : v11.cell? ⟨v4.heap.size, 3, none⟩ = some (.slice u.a u.n u.c) := (BoxAt.cell AB.out 3).trans rfl
         have kFB0 : v11.cell? ⟨v9.heap.size, 0, none⟩ = some (.int .i64 fp) := (BoxAt.cell FB.out 0).trans rfl
         have kFB2 : v11.cell? ⟨v9.heap.size, 2, none⟩ = some (.int .i64 fv) := (BoxAt.cell FB.out 2).trans rfl
         clear b g z hfl FL9
         refine Hid.out ?_)
      | fail)
    refine hid ?_
    clear kPB0 kPB1 kPB2 kPB3 kWB0 kWB1 kWB2 kAB2 kAB3 kFB0 kFB2
    have kPB0 : v11.cell? ⟨w.heap.size, 0, none⟩ = some (.int .i64 d) := (BoxAt.cell PB.out 0).trans rfl
    have kPB1 : v11.cell? ⟨w.heap.size, 1, none⟩ = some (.bool k) := (BoxAt.cell PB.out 1).trans rfl
    have kPB2 : v11.cell? ⟨w.heap.size, 2, none⟩ = some (.slice (some ⟨bb, off, none⟩) N xc) := (BoxAt.cell PB.out 2).trans rfl
    have kPB3 : v11.cell? ⟨w.heap.size, 3, none⟩ = some (.slice sa M sc) := (BoxAt.cell PB.out 3).trans rfl
    have kWB0 : v11.cell? ⟨v1.heap.size, 0, none⟩ = some (.int .i64 p) := (BoxAt.cell WB.out 0).trans rfl
    have kWB1 : v11.cell? ⟨v1.heap.size, 1, none⟩ = some (.int .i64 r) := (BoxAt.cell WB.out 1).trans rfl
    have kWB2 : v11.cell? ⟨v1.heap.size, 2, none⟩ = some (.int .i64 v) := (BoxAt.cell WB.out 2).trans rfl
    have kAB2 : v11.cell? ⟨v4.heap.size, 2, none⟩ = some (.slice qv7.a qv7.n qv7.c) := (BoxAt.cell AB.out 2).trans rfl
    have kAB3 : v11.cell? ⟨v4.heap.size, 3, none⟩ = some (.slice u.a u.n u.c) := (BoxAt.cell AB.out 3).trans rfl
    have kFB0 : v11.cell? ⟨v9.heap.size, 0, none⟩ = some (.int .i64 fp) := (BoxAt.cell FB.out 0).trans rfl
    have kFB2 : v11.cell? ⟨v9.heap.size, 2, none⟩ = some (.int .i64 fv) := (BoxAt.cell FB.out 2).trans rfl
    have FL10 := hid trivial
    go_wp2_with (first
      | (have hfl := FL10.out
         refine wpList_store_box rfl 23 _ _ rfl rfl (v4.heap.size) 3 (.slice f.a f.n f.c) rfl rfl rfl rfl (by kernel_rfl) _ _ AB.out (by simp) ?_
         intro v12 b g z
         have hsv12 : v11.heap.size ≤ v12.heap.size := by omega
         have HU := hid (HU.out.put g AB.out (by decide))
         have HT := hid (HT.out.put g AB.out (by decide))
         have HF := hid (HF.out.put g AB.out (by decide))
         have AB := hid (show BoxAt v12 (v4.heap.size) 25 #[.int .i64 d, .bool k, .slice qv7.a qv7.n qv7.c, .slice f.a f.n f.c] from by simpa using b)
         have PB := hid (PB.out.grown g (fun e => by have := Option.some.inj e; omega))
         have WB := hid (WB.out.grown g (fun e => by have := Option.some.inj e; omega))
         have RB := hid (RB.out.grown g (fun e => by have := Option.some.inj e; omega))
         have FB := hid (FB.out.grown g (fun e => by have := Option.some.inj e; omega))
         have HB := hid (HB.out.trans (grown_below g (by omega) (by omega)))
         clear kPB0 kPB1 kPB2 kPB3 kWB0 kWB1 kWB2 kAB2 kAB3 kFB0 kFB2
         have kPB0 : v12.cell? ⟨w.heap.size, 0, none⟩ = some (.int .i64 d) := (BoxAt.cell PB.out 0).trans rfl
         have kPB1 : v12.cell? ⟨w.heap.size, 1, none⟩ = some (.bool k) := (BoxAt.cell PB.out 1).trans rfl
         have kPB2 : v12.cell? ⟨w.heap.size, 2, none⟩ = some (.slice (some ⟨bb, off, none⟩) N xc) := (BoxAt.cell PB.out 2).trans rfl
         have kPB3 : v12.cell? ⟨w.heap.size, 3, none⟩ = some (.slice sa M sc) := (BoxAt.cell PB.out 3).trans rfl
         have kWB0 : v12.cell? ⟨v1.heap.size, 0, none⟩ = some (.int .i64 p) := (BoxAt.cell WB.out 0).trans rfl
         have kWB1 : v12.cell? ⟨v1.heap.size, 1, none⟩ = some (.int .i64 r) := (BoxAt.cell WB.out 1).trans rfl
         have kWB2 : v12.cell? ⟨v1.heap.size, 2, none⟩ = some (.int .i64 v) := (BoxAt.cell WB.out 2).trans rfl
         have kAB2 : v12.cell? ⟨v4.heap.size, 2, none⟩ = some (.slice qv7.a qv7.n qv7.c) := (BoxAt.cell AB.out 2).trans rfl
         have kAB3 : v12.cell? ⟨v4.heap.size, 3, none⟩ = some (.slice f.a f.n f.c) := (BoxAt.cell AB.out 3).trans rfl
         have kFB0 : v12.cell? ⟨v9.heap.size, 0, none⟩ = some (.int .i64 fp) := (BoxAt.cell FB.out 0).trans rfl
         have kFB2 : v12.cell? ⟨v9.heap.size, 2, none⟩ = some (.int .i64 fv) := (BoxAt.cell FB.out 2).trans rfl
         clear b g z hfl FL10
         refine Hid.out ?_)
      | fail)
    refine hid ?_
    clear HU
    clear kPB0 kPB1 kPB2 kPB3 kWB0 kWB1 kWB2 kAB2 kAB3 kFB0 kFB2
    have kPB0 : v12.cell? ⟨w.heap.size, 0, none⟩ = some (.int .i64 d) := (BoxAt.cell PB.out 0).trans rfl
    have kPB1 : v12.cell? ⟨w.heap.size, 1, none⟩ = some (.bool k) := (BoxAt.cell PB.out 1).trans rfl
    have kPB2 : v12.cell? ⟨w.heap.size, 2, none⟩ = some (.slice (some ⟨bb, off, none⟩) N xc) := (BoxAt.cell PB.out 2).trans rfl
    have kPB3 : v12.cell? ⟨w.heap.size, 3, none⟩ = some (.slice sa M sc) := (BoxAt.cell PB.out 3).trans rfl
    have kWB0 : v12.cell? ⟨v1.heap.size, 0, none⟩ = some (.int .i64 p) := (BoxAt.cell WB.out 0).trans rfl
    have kWB1 : v12.cell? ⟨v1.heap.size, 1, none⟩ = some (.int .i64 r) := (BoxAt.cell WB.out 1).trans rfl
    have kWB2 : v12.cell? ⟨v1.heap.size, 2, none⟩ = some (.int .i64 v) := (BoxAt.cell WB.out 2).trans rfl
    have kAB2 : v12.cell? ⟨v4.heap.size, 2, none⟩ = some (.slice qv7.a qv7.n qv7.c) := (BoxAt.cell AB.out 2).trans rfl
    have kAB3 : v12.cell? ⟨v4.heap.size, 3, none⟩ = some (.slice f.a f.n f.c) := (BoxAt.cell AB.out 3).trans rfl
    have kFB0 : v12.cell? ⟨v9.heap.size, 0, none⟩ = some (.int .i64 fp) := (BoxAt.cell FB.out 0).trans rfl
    have kFB2 : v12.cell? ⟨v9.heap.size, 2, none⟩ = some (.int .i64 fv) := (BoxAt.cell FB.out 2).trans rfl
    have FL11 := hid trivial
    have FL12 := hid trivial
    go_wp2_with (first
      | (have hfl := FL11.out
         refine wpList_litI rfl (.tmp 44) rfl (fv) rfl ?_
         intro v13 b h
         have LB := hid (show BoxAt v13 v12.heap.size 3 #[.int .i64 (fv)] from b)
         have PB := hid (PB.out.belowAll h)
         have WB := hid (WB.out.belowAll h)
         have RB := hid (RB.out.belowAll h)
         have AB := hid (AB.out.belowAll h)
         have FB := hid (FB.out.belowAll h)
         have HT := hid (HT.out.below h)
         have HF := hid (HF.out.below h)
         have HB := hid (HB.out.trans (h.mono HB.out.size))
         have hsv13 : v12.heap.size ≤ v13.heap.size := by first | exact h.size | omega
         clear kPB0 kPB1 kPB2 kPB3 kWB0 kWB1 kWB2 kAB2 kAB3 kFB0 kFB2
         have kPB0 : v13.cell? ⟨w.heap.size, 0, none⟩ = some (.int .i64 d) := (BoxAt.cell PB.out 0).trans rfl
         have kPB1 : v13.cell? ⟨w.heap.size, 1, none⟩ = some (.bool k) := (BoxAt.cell PB.out 1).trans rfl
         have kPB2 : v13.cell? ⟨w.heap.size, 2, none⟩ = some (.slice (some ⟨bb, off, none⟩) N xc) := (BoxAt.cell PB.out 2).trans rfl
         have kPB3 : v13.cell? ⟨w.heap.size, 3, none⟩ = some (.slice sa M sc) := (BoxAt.cell PB.out 3).trans rfl
         have kWB0 : v13.cell? ⟨v1.heap.size, 0, none⟩ = some (.int .i64 p) := (BoxAt.cell WB.out 0).trans rfl
         have kWB1 : v13.cell? ⟨v1.heap.size, 1, none⟩ = some (.int .i64 r) := (BoxAt.cell WB.out 1).trans rfl
         have kWB2 : v13.cell? ⟨v1.heap.size, 2, none⟩ = some (.int .i64 v) := (BoxAt.cell WB.out 2).trans rfl
         have kAB2 : v13.cell? ⟨v4.heap.size, 2, none⟩ = some (.slice qv7.a qv7.n qv7.c) := (BoxAt.cell AB.out 2).trans rfl
         have kAB3 : v13.cell? ⟨v4.heap.size, 3, none⟩ = some (.slice f.a f.n f.c) := (BoxAt.cell AB.out 3).trans rfl
         have kFB0 : v13.cell? ⟨v9.heap.size, 0, none⟩ = some (.int .i64 fp) := (BoxAt.cell FB.out 0).trans rfl
         have kFB2 : v13.cell? ⟨v9.heap.size, 2, none⟩ = some (.int .i64 fv) := (BoxAt.cell FB.out 2).trans rfl
         clear b h hfl FL11)
      | (have hfl := FL12.out
         at_builtin
         refine app_ints rfl (.tmp 42) (.tmp 45) rfl (w.heap.size) _ (xs.drop 1) rfl HT.out _ [fv] rfl (Sees.box (ys := [fv]) LB.out (by simp)) (by have := HXL.out; simp; omega) (by omega) ?_
         intro uv14 v14 ho g h
         obtain ⟨qv14, rfl, -⟩ := ho.sl
         have hsv14 : v13.heap.size ≤ v14.heap.size := g.size
         have PB := hid (PB.out.grown g (OI.apart HT.out PB.out (by decide)))
         have WB := hid (WB.out.grown g (OI.apart HT.out WB.out (by decide)))
         have RB := hid (RB.out.grown g (OI.apart HT.out RB.out (by decide)))
         have AB := hid (AB.out.grown g (OI.apart HT.out AB.out (by decide)))
         have FB := hid (FB.out.grown g (OI.apart HT.out FB.out (by decide)))
         have HF := hid (HF.out.over HT.out g)
         have HB := hid (HB.out.trans h)
         have HT := hid ho
         clear ho g h
         clear LB
         clear kPB0 kPB1 kPB2 kPB3 kWB0 kWB1 kWB2 kAB2 kAB3 kFB0 kFB2
         have kPB0 : v14.cell? ⟨w.heap.size, 0, none⟩ = some (.int .i64 d) := (BoxAt.cell PB.out 0).trans rfl
         have kPB1 : v14.cell? ⟨w.heap.size, 1, none⟩ = some (.bool k) := (BoxAt.cell PB.out 1).trans rfl
         have kPB2 : v14.cell? ⟨w.heap.size, 2, none⟩ = some (.slice (some ⟨bb, off, none⟩) N xc) := (BoxAt.cell PB.out 2).trans rfl
         have kPB3 : v14.cell? ⟨w.heap.size, 3, none⟩ = some (.slice sa M sc) := (BoxAt.cell PB.out 3).trans rfl
         have kWB0 : v14.cell? ⟨v1.heap.size, 0, none⟩ = some (.int .i64 p) := (BoxAt.cell WB.out 0).trans rfl
         have kWB1 : v14.cell? ⟨v1.heap.size, 1, none⟩ = some (.int .i64 r) := (BoxAt.cell WB.out 1).trans rfl
         have kWB2 : v14.cell? ⟨v1.heap.size, 2, none⟩ = some (.int .i64 v) := (BoxAt.cell WB.out 2).trans rfl
         have kAB2 : v14.cell? ⟨v4.heap.size, 2, none⟩ = some (.slice qv7.a qv7.n qv7.c) := (BoxAt.cell AB.out 2).trans rfl
         have kAB3 : v14.cell? ⟨v4.heap.size, 3, none⟩ = some (.slice f.a f.n f.c) := (BoxAt.cell AB.out 3).trans rfl
         have kFB0 : v14.cell? ⟨v9.heap.size, 0, none⟩ = some (.int .i64 fp) := (BoxAt.cell FB.out 0).trans rfl
         have kFB2 : v14.cell? ⟨v9.heap.size, 2, none⟩ = some (.int .i64 fv) := (BoxAt.cell FB.out 2).trans rfl
         clear hfl FL12
         refine Hid.out ?_)
      | fail)
    refine hid ?_
    have FL13 := hid trivial
    go_wp2_with (first
      | (have hfl := FL13.out
         refine wpList_store_box rfl 22 _ _ rfl rfl (v4.heap.size) 2 (.slice qv14.a qv14.n qv14.c) rfl rfl rfl rfl (by kernel_rfl) _ _ AB.out (by simp) ?_
         intro v15 b g z
         have hsv15 : v14.heap.size ≤ v15.heap.size := by omega
         have HT := hid (HT.out.put g AB.out (by decide))
         have HF := hid (HF.out.put g AB.out (by decide))
         have AB := hid (show BoxAt v15 (v4.heap.size) 25 #[.int .i64 d, .bool k, .slice qv14.a qv14.n qv14.c, .slice f.a f.n f.c] from by simpa using b)
         have PB := hid (PB.out.grown g (fun e => by have := Option.some.inj e; omega))
         have WB := hid (WB.out.grown g (fun e => by have := Option.some.inj e; omega))
         have RB := hid (RB.out.grown g (fun e => by have := Option.some.inj e; omega))
         have FB := hid (FB.out.grown g (fun e => by have := Option.some.inj e; omega))
         have HB := hid (HB.out.trans (grown_below g (by omega) (by omega)))
         clear kPB0 kPB1 kPB2 kPB3 kWB0 kWB1 kWB2 kAB2 kAB3 kFB0 kFB2
         have kPB0 : v15.cell? ⟨w.heap.size, 0, none⟩ = some (.int .i64 d) := (BoxAt.cell PB.out 0).trans rfl
         have kPB1 : v15.cell? ⟨w.heap.size, 1, none⟩ = some (.bool k) := (BoxAt.cell PB.out 1).trans rfl
         have kPB2 : v15.cell? ⟨w.heap.size, 2, none⟩ = some (.slice (some ⟨bb, off, none⟩) N xc) := (BoxAt.cell PB.out 2).trans rfl
         have kPB3 : v15.cell? ⟨w.heap.size, 3, none⟩ = some (.slice sa M sc) := (BoxAt.cell PB.out 3).trans rfl
         have kWB0 : v15.cell? ⟨v1.heap.size, 0, none⟩ = some (.int .i64 p) := (BoxAt.cell WB.out 0).trans rfl
         have kWB1 : v15.cell? ⟨v1.heap.size, 1, none⟩ = some (.int .i64 r) := (BoxAt.cell WB.out 1).trans rfl
         have kWB2 : v15.cell? ⟨v1.heap.size, 2, none⟩ = some (.int .i64 v) := (BoxAt.cell WB.out 2).trans rfl
         have kAB2 : v15.cell? ⟨v4.heap.size, 2, none⟩ = some (.slice qv14.a qv14.n qv14.c) := (BoxAt.cell AB.out 2).trans rfl
         have kAB3 : v15.cell? ⟨v4.heap.size, 3, none⟩ = some (.slice f.a f.n f.c) := (BoxAt.cell AB.out 3).trans rfl
         have kFB0 : v15.cell? ⟨v9.heap.size, 0, none⟩ = some (.int .i64 fp) := (BoxAt.cell FB.out 0).trans rfl
         have kFB2 : v15.cell? ⟨v9.heap.size, 2, none⟩ = some (.int .i64 fv) := (BoxAt.cell FB.out 2).trans rfl
         clear b g z hfl FL13
         refine Hid.out ?_)
      | fail)
    refine hid ?_
    go_wp2_with fail
    clear kPB0 kPB1 kPB2 kPB3 kWB0 kWB1 kWB2 kAB2 kAB3 kFB0 kFB2
    have PB := hid (BoxAt.drew PB.out)
    have WB := hid (BoxAt.drew WB.out)
    have RB := hid (BoxAt.drew RB.out)
    have AB := hid (BoxAt.drew AB.out)
    have FB := hid (BoxAt.drew FB.out)
    have HT := hid (HT.out.below ((Below.refl v15.heap.size v15).drew))
    have HF := hid (HF.out.below ((Below.refl v15.heap.size v15).drew))
    have HB := hid HB.out.drew
    have hsv16 : v15.heap.size ≤ v15.drew.heap.size := Nat.le_refl _
    refine wp_region_held_drew (S := (fun w' : World => BoxAt w' (v4.heap.size) 25 #[.int .i64 d, .bool k, .slice qv14.a qv14.n qv14.c, .slice f.a f.n f.c] ∧ BoxAt w' (w.heap.size) 25 #[.int .i64 d, .bool k, .slice (some ⟨bb, off, none⟩) N xc, .slice sa M sc] ∧ BoxAt w' (v9.heap.size) 27 #[.int .i64 fp, .int .i64 fr, .int .i64 fv] ∧ w'.cell? ⟨bb, off, none⟩ = some (.int .i64 e0))) (by kernel_rfl) (⟨AB.out, PB.out, FB.out, (HB.out.cell (by exact hbw)).trans C0.out⟩) (fun hHeld => ?_)
    generalize v15.drew = v16 at *
    refine wpAnyH_take (i := 0) (oi := { dst := some 48, op := Op.load 25 (Operand.tmp 10), type := 25, pos := "ref.go:47", after := _, guard := none }) (v := ?_) rfl (by kernel_rfl) (by kernel_rfl) (by kernel_rfl) (fun _ _ _ h => h) (Or.inl ⟨by rfl, ?_⟩) (by assumption) ?_
    rotate_left
    · (intro W hSw; (try dsimp only at hSw); obtain ⟨x0, x1, x2, x3⟩ := hSw; have c0_0 : W.cell? ⟨v4.heap.size, 0, none⟩ = some (.int .i64 d) := (BoxAt.cell x0 0).trans rfl; have c0_1 : W.cell? ⟨v4.heap.size, 1, none⟩ = some (.bool k) := (BoxAt.cell x0 1).trans rfl; have c0_2 : W.cell? ⟨v4.heap.size, 2, none⟩ = some (.slice qv14.a qv14.n qv14.c) := (BoxAt.cell x0 2).trans rfl; have c0_3 : W.cell? ⟨v4.heap.size, 3, none⟩ = some (.slice f.a f.n f.c) := (BoxAt.cell x0 3).trans rfl; have c1_0 : W.cell? ⟨w.heap.size, 0, none⟩ = some (.int .i64 d) := (BoxAt.cell x1 0).trans rfl; have c1_1 : W.cell? ⟨w.heap.size, 1, none⟩ = some (.bool k) := (BoxAt.cell x1 1).trans rfl; have c1_2 : W.cell? ⟨w.heap.size, 2, none⟩ = some (.slice (some ⟨bb, off, none⟩) N xc) := (BoxAt.cell x1 2).trans rfl; have c1_3 : W.cell? ⟨w.heap.size, 3, none⟩ = some (.slice sa M sc) := (BoxAt.cell x1 3).trans rfl; have c2_0 : W.cell? ⟨v9.heap.size, 0, none⟩ = some (.int .i64 fp) := (BoxAt.cell x2 0).trans rfl; have c2_1 : W.cell? ⟨v9.heap.size, 1, none⟩ = some (.int .i64 fr) := (BoxAt.cell x2 1).trans rfl; have c2_2 : W.cell? ⟨v9.heap.size, 2, none⟩ = some (.int .i64 fv) := (BoxAt.cell x2 2).trans rfl; clear x0 x1 x2; go_simp; try with_reducible rfl)
    simp only [Act.put, List.setIfInBounds_toArray, List.set_cons_zero, List.set_cons_succ]
    refine wpAnyH_take (i := 1) (oi := { dst := some 49, op := Op.fieldAddr 25 (Operand.tmp 3) 2, type := 0, pos := "ref.go:47", after := _, guard := none }) (v := ?_) rfl (by kernel_rfl) (by kernel_rfl) (by kernel_rfl) (fun _ _ _ h => h) (Or.inl ⟨by rfl, ?_⟩) (by assumption) ?_
    rotate_left
    · (intro w hSw; (try dsimp only at hSw); go_simp; try with_reducible rfl)
    simp only [Act.put, List.setIfInBounds_toArray, List.set_cons_zero, List.set_cons_succ]
    refine wpAnyH_take (i := 2) (oi := { dst := some 50, op := Op.load 22 (Operand.tmp 49), type := 22, pos := "ref.go:47", after := _, guard := none }) (v := ?_) rfl (by kernel_rfl) (by kernel_rfl) (by kernel_rfl) (fun _ _ _ h => h) (Or.inl ⟨by rfl, ?_⟩) (by assumption) ?_
    rotate_left
    · (intro W hSw; (try dsimp only at hSw); obtain ⟨x0, x1, x2, x3⟩ := hSw; have c0_0 : W.cell? ⟨v4.heap.size, 0, none⟩ = some (.int .i64 d) := (BoxAt.cell x0 0).trans rfl; have c0_1 : W.cell? ⟨v4.heap.size, 1, none⟩ = some (.bool k) := (BoxAt.cell x0 1).trans rfl; have c0_2 : W.cell? ⟨v4.heap.size, 2, none⟩ = some (.slice qv14.a qv14.n qv14.c) := (BoxAt.cell x0 2).trans rfl; have c0_3 : W.cell? ⟨v4.heap.size, 3, none⟩ = some (.slice f.a f.n f.c) := (BoxAt.cell x0 3).trans rfl; have c1_0 : W.cell? ⟨w.heap.size, 0, none⟩ = some (.int .i64 d) := (BoxAt.cell x1 0).trans rfl; have c1_1 : W.cell? ⟨w.heap.size, 1, none⟩ = some (.bool k) := (BoxAt.cell x1 1).trans rfl; have c1_2 : W.cell? ⟨w.heap.size, 2, none⟩ = some (.slice (some ⟨bb, off, none⟩) N xc) := (BoxAt.cell x1 2).trans rfl; have c1_3 : W.cell? ⟨w.heap.size, 3, none⟩ = some (.slice sa M sc) := (BoxAt.cell x1 3).trans rfl; have c2_0 : W.cell? ⟨v9.heap.size, 0, none⟩ = some (.int .i64 fp) := (BoxAt.cell x2 0).trans rfl; have c2_1 : W.cell? ⟨v9.heap.size, 1, none⟩ = some (.int .i64 fr) := (BoxAt.cell x2 1).trans rfl; have c2_2 : W.cell? ⟨v9.heap.size, 2, none⟩ = some (.int .i64 fv) := (BoxAt.cell x2 2).trans rfl; clear x0 x1 x2; go_simp; try with_reducible rfl)
    simp only [Act.put, List.setIfInBounds_toArray, List.set_cons_zero, List.set_cons_succ]
    refine wpAnyH_take (i := 3) (oi := { dst := some 51, op := Op.indexAddr 22 (Operand.tmp 50) (Operand.const (Value.int IntKind.i64 0)), type := 0, pos := "ref.go:47", after := _, guard := none }) (v := ?_) rfl (by kernel_rfl) (by kernel_rfl) (by kernel_rfl) (fun _ _ _ h => h) (Or.inl ⟨by rfl, ?_⟩) (by assumption) ?_
    rotate_left
    · (intro w hSw; (try dsimp only at hSw); go_simp; try with_reducible rfl)
    simp only [Act.put, List.setIfInBounds_toArray, List.set_cons_zero, List.set_cons_succ]
    refine wpAnyH_take (i := 4) (oi := { dst := some 52, op := Op.load 3 (Operand.tmp 51), type := 3, pos := "ref.go:47", after := _, guard := none }) (v := ?_) rfl (by kernel_rfl) (by kernel_rfl) (by kernel_rfl) (fun _ _ _ h => h) (Or.inl ⟨by rfl, ?_⟩) (by assumption) ?_
    rotate_left
    · (intro W hSw; (try dsimp only at hSw); obtain ⟨x0, x1, x2, x3⟩ := hSw; have c0_0 : W.cell? ⟨v4.heap.size, 0, none⟩ = some (.int .i64 d) := (BoxAt.cell x0 0).trans rfl; have c0_1 : W.cell? ⟨v4.heap.size, 1, none⟩ = some (.bool k) := (BoxAt.cell x0 1).trans rfl; have c0_2 : W.cell? ⟨v4.heap.size, 2, none⟩ = some (.slice qv14.a qv14.n qv14.c) := (BoxAt.cell x0 2).trans rfl; have c0_3 : W.cell? ⟨v4.heap.size, 3, none⟩ = some (.slice f.a f.n f.c) := (BoxAt.cell x0 3).trans rfl; have c1_0 : W.cell? ⟨w.heap.size, 0, none⟩ = some (.int .i64 d) := (BoxAt.cell x1 0).trans rfl; have c1_1 : W.cell? ⟨w.heap.size, 1, none⟩ = some (.bool k) := (BoxAt.cell x1 1).trans rfl; have c1_2 : W.cell? ⟨w.heap.size, 2, none⟩ = some (.slice (some ⟨bb, off, none⟩) N xc) := (BoxAt.cell x1 2).trans rfl; have c1_3 : W.cell? ⟨w.heap.size, 3, none⟩ = some (.slice sa M sc) := (BoxAt.cell x1 3).trans rfl; have c2_0 : W.cell? ⟨v9.heap.size, 0, none⟩ = some (.int .i64 fp) := (BoxAt.cell x2 0).trans rfl; have c2_1 : W.cell? ⟨v9.heap.size, 1, none⟩ = some (.int .i64 fr) := (BoxAt.cell x2 1).trans rfl; have c2_2 : W.cell? ⟨v9.heap.size, 2, none⟩ = some (.int .i64 fv) := (BoxAt.cell x2 2).trans rfl; clear x0 x1 x2; go_simp; try with_reducible rfl)
    simp only [Act.put, List.setIfInBounds_toArray, List.set_cons_zero, List.set_cons_succ]
    refine wpAnyH_take (i := 5) (oi := { dst := some 53, op := Op.fieldAddr 27 (Operand.tmp 11) 0, type := 0, pos := "ref.go:47", after := _, guard := none }) (v := ?_) rfl (by kernel_rfl) (by kernel_rfl) (by kernel_rfl) (fun _ _ _ h => h) (Or.inl ⟨by rfl, ?_⟩) (by assumption) ?_
    rotate_left
    · (intro w hSw; (try dsimp only at hSw); go_simp; try with_reducible rfl)
    simp only [Act.put, List.setIfInBounds_toArray, List.set_cons_zero, List.set_cons_succ]
    refine wpAnyH_take (i := 6) (oi := { dst := some 54, op := Op.load 3 (Operand.tmp 53), type := 3, pos := "ref.go:47", after := _, guard := none }) (v := ?_) rfl (by kernel_rfl) (by kernel_rfl) (by kernel_rfl) (fun _ _ _ h => h) (Or.inl ⟨by rfl, ?_⟩) (by assumption) ?_
    rotate_left
    · (intro W hSw; (try dsimp only at hSw); obtain ⟨x0, x1, x2, x3⟩ := hSw; have c0_0 : W.cell? ⟨v4.heap.size, 0, none⟩ = some (.int .i64 d) := (BoxAt.cell x0 0).trans rfl; have c0_1 : W.cell? ⟨v4.heap.size, 1, none⟩ = some (.bool k) := (BoxAt.cell x0 1).trans rfl; have c0_2 : W.cell? ⟨v4.heap.size, 2, none⟩ = some (.slice qv14.a qv14.n qv14.c) := (BoxAt.cell x0 2).trans rfl; have c0_3 : W.cell? ⟨v4.heap.size, 3, none⟩ = some (.slice f.a f.n f.c) := (BoxAt.cell x0 3).trans rfl; have c1_0 : W.cell? ⟨w.heap.size, 0, none⟩ = some (.int .i64 d) := (BoxAt.cell x1 0).trans rfl; have c1_1 : W.cell? ⟨w.heap.size, 1, none⟩ = some (.bool k) := (BoxAt.cell x1 1).trans rfl; have c1_2 : W.cell? ⟨w.heap.size, 2, none⟩ = some (.slice (some ⟨bb, off, none⟩) N xc) := (BoxAt.cell x1 2).trans rfl; have c1_3 : W.cell? ⟨w.heap.size, 3, none⟩ = some (.slice sa M sc) := (BoxAt.cell x1 3).trans rfl; have c2_0 : W.cell? ⟨v9.heap.size, 0, none⟩ = some (.int .i64 fp) := (BoxAt.cell x2 0).trans rfl; have c2_1 : W.cell? ⟨v9.heap.size, 1, none⟩ = some (.int .i64 fr) := (BoxAt.cell x2 1).trans rfl; have c2_2 : W.cell? ⟨v9.heap.size, 2, none⟩ = some (.int .i64 fv) := (BoxAt.cell x2 2).trans rfl; clear x0 x1 x2; go_simp; try with_reducible rfl)
    simp only [Act.put, List.setIfInBounds_toArray, List.set_cons_zero, List.set_cons_succ]
    refine wpAnyH_take (i := 7) (oi := { dst := some 55, op := Op.build 41 #[(0, Operand.tmp 54), (1, Operand.const (Value.int IntKind.i64 0))], type := 41, pos := "ref.go:47", after := _, guard := none }) (v := ?_) rfl (by kernel_rfl) (by kernel_rfl) (by kernel_rfl) (fun _ _ _ h => h) (Or.inl ⟨by rfl, ?_⟩) (by assumption) ?_
    rotate_left
    · (intro w hSw; (try dsimp only at hSw); go_simp; try with_reducible rfl)
    simp only [Act.put, List.setIfInBounds_toArray, List.set_cons_zero, List.set_cons_succ]
    refine wpAnyH_ready (rs := [8, 9]) (by kernel_rfl) (by simp) (AllReadyH.cons (o := { dst := some 56, op := Op.buildSlice 29 1 #[(0, Operand.tmp 55)], type := 29, pos := "ref.go:47", after := _, guard := none }) rfl (fun K7009 hK7009 => ?b7009_8) (AllReadyH.cons (o := { dst := none, op := Op.store 25 (Operand.tmp 6) (Operand.tmp 48), type := 0, pos := "ref.go:47", after := _, guard := none }) rfl (fun K7009 hK7009 => ?b7009_9) AllReadyH.nil))
    case' b7009_8 =>
      refine step_litk rfl (.tmp 55) rfl ((⟨fp, 0, 0⟩ : Wk)) rfl ?_
      intro v17 ho h
      have PB := hid (PB.out.belowAll h)
      have WB := hid (WB.out.belowAll h)
      have RB := hid (RB.out.belowAll h)
      have AB := hid (AB.out.belowAll h)
      have FB := hid (FB.out.belowAll h)
      have HT := hid (HT.out.below h)
      have HF := hid (HF.out.below h)
      have HB := hid (HB.out.trans (h.mono HB.out.size))
      have hsv17 : v16.heap.size ≤ v17.heap.size := by first | exact h.size | omega
      have HQ := hid ho
      clear ho h
      refine hK7009.out _ _ (⟨AB.out, PB.out, FB.out, (HB.out.cell (by exact hbw)).trans C0.out⟩) (fun hHeld7009 => ?_)
      clear hK7009 K7009
      try simp only [Act.put, List.setIfInBounds_toArray, List.set_cons_zero, List.set_cons_succ]
      refine wpAnyH_ready (rs := [9]) (by kernel_rfl) (by simp) (AllReadyH.cons (o := { dst := none, op := Op.store 25 (Operand.tmp 6) (Operand.tmp 48), type := 0, pos := "ref.go:47", after := _, guard := none }) rfl (fun K7010 hK7010 => ?_) AllReadyH.nil)
      refine step_store_whole rfl 25 _ _ rfl (v2.heap.size) rfl [.int .i64 d, .bool k, .slice qv14.a qv14.n qv14.c, .slice f.a f.n f.c] rfl _ _ RB.out rfl Try.infoBf (by simp [Value.oneCell']) ?_
      intro v18 b g z
      have hsv18 : v17.heap.size ≤ v18.heap.size := by omega
      have HT := hid (HT.out.put g RB.out (by decide))
      have HF := hid (HF.out.put g RB.out (by decide))
      have HQ := hid (HQ.out.put g RB.out (by decide))
      have RB := hid (show BoxAt v18 (v2.heap.size) 25 #[.int .i64 d, .bool k, .slice qv14.a qv14.n qv14.c, .slice f.a f.n f.c] from b)
      have PB := hid (PB.out.grown g (fun e => by have := Option.some.inj e; omega))
      have WB := hid (WB.out.grown g (fun e => by have := Option.some.inj e; omega))
      have AB := hid (AB.out.grown g (fun e => by have := Option.some.inj e; omega))
      have FB := hid (FB.out.grown g (fun e => by have := Option.some.inj e; omega))
      have HB := hid (HB.out.trans (grown_below g (by omega) (by omega)))
      clear b g z
      refine hK7010.out _ _ (⟨AB.out, PB.out, FB.out, (HB.out.cell (by exact hbw)).trans C0.out⟩) (fun hHeld7010 => ?_)
      clear hK7010 K7010
      try simp only [Act.put]
      refine wpAnyH_take (i := 10) (oi := { dst := some 7, op := Op.assign (Operand.const (Value.int IntKind.i64 0)), type := 3, pos := "ref.go:47", after := _, guard := none }) (v := ?_) rfl (by kernel_rfl) (by kernel_rfl) (by kernel_rfl) (fun _ _ _ h => h) (Or.inl ⟨by rfl, ?_⟩) (by assumption) ?_
      rotate_left
      · (intro w hSw; (try dsimp only at hSw); go_simp; try with_reducible rfl)
      simp only [Act.put, List.setIfInBounds_toArray, List.set_cons_zero, List.set_cons_succ]
      refine wpAnyH_take (i := 11) (oi := { dst := some 8, op := Op.assign (Operand.tmp 52), type := 3, pos := "ref.go:47", after := _, guard := none }) (v := ?_) rfl (by kernel_rfl) (by kernel_rfl) (by kernel_rfl) (fun _ _ _ h => h) (Or.inl ⟨by rfl, ?_⟩) (by assumption) ?_
      rotate_left
      · (intro w hSw; (try dsimp only at hSw); go_simp; try with_reducible rfl)
      simp only [Act.put, List.setIfInBounds_toArray, List.set_cons_zero, List.set_cons_succ]
      refine wpAnyH_take (i := 12) (oi := { dst := some 9, op := Op.assign (Operand.tmp 56), type := 29, pos := "ref.go:47", after := _, guard := none }) (v := ?_) rfl (by kernel_rfl) (by kernel_rfl) (by kernel_rfl) (fun _ _ _ h => h) (Or.inl ⟨by rfl, ?_⟩) (by assumption) ?_
      rotate_left
      · (intro w hSw; (try dsimp only at hSw); go_simp; try with_reducible rfl)
      simp only [Act.put, List.setIfInBounds_toArray, List.set_cons_zero, List.set_cons_succ]
      refine wpAnyH_done (by kernel_rfl) ?_ _
      clear hHeld hHeld7009 hHeld7010
      have kPB0 : v18.cell? ⟨w.heap.size, 0, none⟩ = some (.int .i64 d) := (BoxAt.cell PB.out 0).trans rfl
      have kPB1 : v18.cell? ⟨w.heap.size, 1, none⟩ = some (.bool k) := (BoxAt.cell PB.out 1).trans rfl
      have kPB2 : v18.cell? ⟨w.heap.size, 2, none⟩ = some (.slice (some ⟨bb, off, none⟩) N xc) := (BoxAt.cell PB.out 2).trans rfl
      have kPB3 : v18.cell? ⟨w.heap.size, 3, none⟩ = some (.slice sa M sc) := (BoxAt.cell PB.out 3).trans rfl
      have kWB0 : v18.cell? ⟨v1.heap.size, 0, none⟩ = some (.int .i64 p) := (BoxAt.cell WB.out 0).trans rfl
      have kWB1 : v18.cell? ⟨v1.heap.size, 1, none⟩ = some (.int .i64 r) := (BoxAt.cell WB.out 1).trans rfl
      have kWB2 : v18.cell? ⟨v1.heap.size, 2, none⟩ = some (.int .i64 v) := (BoxAt.cell WB.out 2).trans rfl
      have kAB2 : v18.cell? ⟨v4.heap.size, 2, none⟩ = some (.slice qv14.a qv14.n qv14.c) := (BoxAt.cell AB.out 2).trans rfl
      have kAB3 : v18.cell? ⟨v4.heap.size, 3, none⟩ = some (.slice f.a f.n f.c) := (BoxAt.cell AB.out 3).trans rfl
      have kFB0 : v18.cell? ⟨v9.heap.size, 0, none⟩ = some (.int .i64 fp) := (BoxAt.cell FB.out 0).trans rfl
      have kFB2 : v18.cell? ⟨v9.heap.size, 2, none⟩ = some (.int .i64 fv) := (BoxAt.cell FB.out 2).trans rfl
      go_wp2_with fail
      refine bodyPost_ret (results_box_tmp3 rfl _ _ (v2.heap.size) 25 _ (0, 0) _ rfl RB.out Try.underlying25 rfl Try.infoBf) rfl ?_
      exact ⟨qv14, f, ⟨some ⟨v16.heap.size, 0, none⟩, 1, 1⟩, rfl, HT.out, HF.out, HQ.out.mono (by omega), HB.out⟩
    case' b7009_9 =>
      refine step_store_whole rfl 25 _ _ rfl (v2.heap.size) rfl [.int .i64 d, .bool k, .slice qv14.a qv14.n qv14.c, .slice f.a f.n f.c] rfl _ _ RB.out rfl Try.infoBf (by simp [Value.oneCell']) ?_
      intro v17 b g z
      have hsv17 : v16.heap.size ≤ v17.heap.size := by omega
      have HT := hid (HT.out.put g RB.out (by decide))
      have HF := hid (HF.out.put g RB.out (by decide))
      have RB := hid (show BoxAt v17 (v2.heap.size) 25 #[.int .i64 d, .bool k, .slice qv14.a qv14.n qv14.c, .slice f.a f.n f.c] from b)
      have PB := hid (PB.out.grown g (fun e => by have := Option.some.inj e; omega))
      have WB := hid (WB.out.grown g (fun e => by have := Option.some.inj e; omega))
      have AB := hid (AB.out.grown g (fun e => by have := Option.some.inj e; omega))
      have FB := hid (FB.out.grown g (fun e => by have := Option.some.inj e; omega))
      have HB := hid (HB.out.trans (grown_below g (by omega) (by omega)))
      clear b g z
      refine hK7009.out _ _ (⟨AB.out, PB.out, FB.out, (HB.out.cell (by exact hbw)).trans C0.out⟩) (fun hHeld7009 => ?_)
      clear hK7009 K7009
      try simp only [Act.put]
      refine wpAnyH_take (i := 10) (oi := { dst := some 7, op := Op.assign (Operand.const (Value.int IntKind.i64 0)), type := 3, pos := "ref.go:47", after := _, guard := none }) (v := ?_) rfl (by kernel_rfl) (by kernel_rfl) (by kernel_rfl) (fun _ _ _ h => h) (Or.inl ⟨by rfl, ?_⟩) (by assumption) ?_
      rotate_left
      · (intro w hSw; (try dsimp only at hSw); go_simp; try with_reducible rfl)
      simp only [Act.put, List.setIfInBounds_toArray, List.set_cons_zero, List.set_cons_succ]
      refine wpAnyH_take (i := 11) (oi := { dst := some 8, op := Op.assign (Operand.tmp 52), type := 3, pos := "ref.go:47", after := _, guard := none }) (v := ?_) rfl (by kernel_rfl) (by kernel_rfl) (by kernel_rfl) (fun _ _ _ h => h) (Or.inl ⟨by rfl, ?_⟩) (by assumption) ?_
      rotate_left
      · (intro w hSw; (try dsimp only at hSw); go_simp; try with_reducible rfl)
      simp only [Act.put, List.setIfInBounds_toArray, List.set_cons_zero, List.set_cons_succ]
      refine wpAnyH_ready (rs := [8]) (by kernel_rfl) (by simp) (AllReadyH.cons (o := { dst := some 56, op := Op.buildSlice 29 1 #[(0, Operand.tmp 55)], type := 29, pos := "ref.go:47", after := _, guard := none }) rfl (fun K7016 hK7016 => ?_) AllReadyH.nil)
      refine step_litk rfl (.tmp 55) rfl ((⟨fp, 0, 0⟩ : Wk)) rfl ?_
      intro v18 ho h
      have PB := hid (PB.out.belowAll h)
      have WB := hid (WB.out.belowAll h)
      have RB := hid (RB.out.belowAll h)
      have AB := hid (AB.out.belowAll h)
      have FB := hid (FB.out.belowAll h)
      have HT := hid (HT.out.below h)
      have HF := hid (HF.out.below h)
      have HB := hid (HB.out.trans (h.mono HB.out.size))
      have hsv18 : v17.heap.size ≤ v18.heap.size := by first | exact h.size | omega
      have HQ := hid ho
      clear ho h
      refine hK7016.out _ _ (⟨AB.out, PB.out, FB.out, (HB.out.cell (by exact hbw)).trans C0.out⟩) (fun hHeld7016 => ?_)
      clear hK7016 K7016
      try simp only [Act.put, List.setIfInBounds_toArray, List.set_cons_zero, List.set_cons_succ]
      refine wpAnyH_take (i := 12) (oi := { dst := some 9, op := Op.assign (Operand.tmp 56), type := 29, pos := "ref.go:47", after := _, guard := none }) (v := ?_) rfl (by kernel_rfl) (by kernel_rfl) (by kernel_rfl) (fun _ _ _ h => h) (Or.inl ⟨by rfl, ?_⟩) (by assumption) ?_
      rotate_left
      · (intro w hSw; (try dsimp only at hSw); go_simp; try with_reducible rfl)
      simp only [Act.put, List.setIfInBounds_toArray, List.set_cons_zero, List.set_cons_succ]
      refine wpAnyH_done (by kernel_rfl) ?_ _
      clear hHeld hHeld7009 hHeld7016
      have kPB0 : v18.cell? ⟨w.heap.size, 0, none⟩ = some (.int .i64 d) := (BoxAt.cell PB.out 0).trans rfl
      have kPB1 : v18.cell? ⟨w.heap.size, 1, none⟩ = some (.bool k) := (BoxAt.cell PB.out 1).trans rfl
      have kPB2 : v18.cell? ⟨w.heap.size, 2, none⟩ = some (.slice (some ⟨bb, off, none⟩) N xc) := (BoxAt.cell PB.out 2).trans rfl
      have kPB3 : v18.cell? ⟨w.heap.size, 3, none⟩ = some (.slice sa M sc) := (BoxAt.cell PB.out 3).trans rfl
      have kWB0 : v18.cell? ⟨v1.heap.size, 0, none⟩ = some (.int .i64 p) := (BoxAt.cell WB.out 0).trans rfl
      have kWB1 : v18.cell? ⟨v1.heap.size, 1, none⟩ = some (.int .i64 r) := (BoxAt.cell WB.out 1).trans rfl
      have kWB2 : v18.cell? ⟨v1.heap.size, 2, none⟩ = some (.int .i64 v) := (BoxAt.cell WB.out 2).trans rfl
      have kAB2 : v18.cell? ⟨v4.heap.size, 2, none⟩ = some (.slice qv14.a qv14.n qv14.c) := (BoxAt.cell AB.out 2).trans rfl
      have kAB3 : v18.cell? ⟨v4.heap.size, 3, none⟩ = some (.slice f.a f.n f.c) := (BoxAt.cell AB.out 3).trans rfl
      have kFB0 : v18.cell? ⟨v9.heap.size, 0, none⟩ = some (.int .i64 fp) := (BoxAt.cell FB.out 0).trans rfl
      have kFB2 : v18.cell? ⟨v9.heap.size, 2, none⟩ = some (.int .i64 fv) := (BoxAt.cell FB.out 2).trans rfl
      go_wp2_with fail
      refine bodyPost_ret (results_box_tmp3 rfl _ _ (v2.heap.size) 25 _ (0, 0) _ rfl RB.out Try.underlying25 rfl Try.infoBf) rfl ?_
      exact ⟨qv14, f, ⟨some ⟨v17.heap.size, 0, none⟩, 1, 1⟩, rfl, HT.out, HF.out, HQ.out.mono (by omega), HB.out⟩

set_option maxRecDepth 100000 in
set_option maxHeartbeats 1600000 in
theorem rbsame_any (d : Int) (k : Bool) {vs ws s r : Sl} {xs : List Int} {l : List Wt} {w : World} (hv : Sees w .i64 vs.val xs) (hw : Sees w .i64 ws.val xs) (hs : SeesWt w s.val l) (hr : SeesWt w r.val l) :
    Calls Try.prog 11 #[BfV.val ⟨d, k, vs, s⟩, BfV.val ⟨d, k, ws, r⟩] w fun e w' => e = .returned (.bool true) ∧ Below w.heap.size w w' := by
  have HV := hid hv
  have HW := hid hw
  have HS := hid hs
  have HR := hid hr
  clear hv hw hs hr
  unfold BfV.val
  simp only
  have hii : (k == k) = true := by cases k <;> rfl
  have hvv : (d == d) = true := by simp
  have HB := hid (Below.refl w.heap.size w)
  go_enter Try.func11, Try.ntmps11
  have FL1 := hid trivial
  have FL2 := hid trivial
  go_wp2_with (first
    | (have hfl := FL1.out
       refine wpList_box rfl 25 (.tmp 0) rfl #[.int .i64 d, .bool k, .slice vs.a vs.n vs.c, .slice s.a s.n s.c] rfl ?_
       intro v1 b h z
       have PA := hid (show BoxAt v1 w.heap.size 25 #[.int .i64 d, .bool k, .slice vs.a vs.n vs.c, .slice s.a s.n s.c] from b)
       have HB := hid (HB.out.trans (h.mono HB.out.size))
       have hsv1 : w.heap.size + 1 ≤ v1.heap.size := by first | exact h.size | omega
       clear b h z hfl FL1)
    | (have hfl := FL2.out
       refine wpList_box rfl 25 (.tmp 1) rfl #[.int .i64 d, .bool k, .slice ws.a ws.n ws.c, .slice r.a r.n r.c] rfl ?_
       intro v2 b h z
       have PB := hid (show BoxAt v2 v1.heap.size 25 #[.int .i64 d, .bool k, .slice ws.a ws.n ws.c, .slice r.a r.n r.c] from b)
       have PA := hid (PA.out.belowAll h)
       have HB := hid (HB.out.trans (h.mono HB.out.size))
       have hsv2 : v1.heap.size + 1 ≤ v2.heap.size := by first | exact h.size | omega
       clear b h z hfl FL2
       refine Hid.out ?_)
    | fail)
  refine hid ?_
  have kPA0 : v2.cell? ⟨w.heap.size, 0, none⟩ = some (.int .i64 d) := (BoxAt.cell PA.out 0).trans rfl
  have kPA1 : v2.cell? ⟨w.heap.size, 1, none⟩ = some (.bool k) := (BoxAt.cell PA.out 1).trans rfl
  have kPA2 : v2.cell? ⟨w.heap.size, 2, none⟩ = some (.slice vs.a vs.n vs.c) := (BoxAt.cell PA.out 2).trans rfl
  have kPA3 : v2.cell? ⟨w.heap.size, 3, none⟩ = some (.slice s.a s.n s.c) := (BoxAt.cell PA.out 3).trans rfl
  have kPB0 : v2.cell? ⟨v1.heap.size, 0, none⟩ = some (.int .i64 d) := (BoxAt.cell PB.out 0).trans rfl
  have kPB1 : v2.cell? ⟨v1.heap.size, 1, none⟩ = some (.bool k) := (BoxAt.cell PB.out 1).trans rfl
  have kPB2 : v2.cell? ⟨v1.heap.size, 2, none⟩ = some (.slice ws.a ws.n ws.c) := (BoxAt.cell PB.out 2).trans rfl
  have kPB3 : v2.cell? ⟨v1.heap.size, 3, none⟩ = some (.slice r.a r.n r.c) := (BoxAt.cell PB.out 3).trans rfl
  go_wp2_with fail
  refine (same_any _ _ xs xs _ (HV.out.below HB.out) (HW.out.below HB.out)).mono ?_
  rintro e v3 ⟨rfl, hb⟩
  have PA := hid (PA.out.belowAll hb)
  have PB := hid (PB.out.belowAll hb)
  have HB := hid (HB.out.trans (hb.mono HB.out.size))
  have hsv3 : v2.heap.size ≤ v3.heap.size := by first | exact hb.size | omega
  rw [decide_eq_true (rfl : xs = xs)]
  clear kPA0 kPA1 kPA2 kPA3 kPB0 kPB1 kPB2 kPB3
  have kPA0 : v3.cell? ⟨w.heap.size, 0, none⟩ = some (.int .i64 d) := (BoxAt.cell PA.out 0).trans rfl
  have kPA1 : v3.cell? ⟨w.heap.size, 1, none⟩ = some (.bool k) := (BoxAt.cell PA.out 1).trans rfl
  have kPA2 : v3.cell? ⟨w.heap.size, 2, none⟩ = some (.slice vs.a vs.n vs.c) := (BoxAt.cell PA.out 2).trans rfl
  have kPA3 : v3.cell? ⟨w.heap.size, 3, none⟩ = some (.slice s.a s.n s.c) := (BoxAt.cell PA.out 3).trans rfl
  have kPB0 : v3.cell? ⟨v1.heap.size, 0, none⟩ = some (.int .i64 d) := (BoxAt.cell PB.out 0).trans rfl
  have kPB1 : v3.cell? ⟨v1.heap.size, 1, none⟩ = some (.bool k) := (BoxAt.cell PB.out 1).trans rfl
  have kPB2 : v3.cell? ⟨v1.heap.size, 2, none⟩ = some (.slice ws.a ws.n ws.c) := (BoxAt.cell PB.out 2).trans rfl
  have kPB3 : v3.cell? ⟨v1.heap.size, 3, none⟩ = some (.slice r.a r.n r.c) := (BoxAt.cell PB.out 3).trans rfl
  clear hb
  go_wp2_with fail
  refine (same_Wt (HS.out.below HB.out) (HR.out.below HB.out)).mono ?_
  rintro e v4 ⟨rfl, hb⟩
  have PA := hid (PA.out.belowAll hb)
  have PB := hid (PB.out.belowAll hb)
  have HB := hid (HB.out.trans (hb.mono HB.out.size))
  have hsv4 : v3.heap.size ≤ v4.heap.size := by first | exact hb.size | omega
  clear kPA0 kPA1 kPA2 kPA3 kPB0 kPB1 kPB2 kPB3
  have kPA0 : v4.cell? ⟨w.heap.size, 0, none⟩ = some (.int .i64 d) := (BoxAt.cell PA.out 0).trans rfl
  have kPA1 : v4.cell? ⟨w.heap.size, 1, none⟩ = some (.bool k) := (BoxAt.cell PA.out 1).trans rfl
  have kPA2 : v4.cell? ⟨w.heap.size, 2, none⟩ = some (.slice vs.a vs.n vs.c) := (BoxAt.cell PA.out 2).trans rfl
  have kPA3 : v4.cell? ⟨w.heap.size, 3, none⟩ = some (.slice s.a s.n s.c) := (BoxAt.cell PA.out 3).trans rfl
  have kPB0 : v4.cell? ⟨v1.heap.size, 0, none⟩ = some (.int .i64 d) := (BoxAt.cell PB.out 0).trans rfl
  have kPB1 : v4.cell? ⟨v1.heap.size, 1, none⟩ = some (.bool k) := (BoxAt.cell PB.out 1).trans rfl
  have kPB2 : v4.cell? ⟨v1.heap.size, 2, none⟩ = some (.slice ws.a ws.n ws.c) := (BoxAt.cell PB.out 2).trans rfl
  have kPB3 : v4.cell? ⟨v1.heap.size, 3, none⟩ = some (.slice r.a r.n r.c) := (BoxAt.cell PB.out 3).trans rfl
  clear hb
  go_wp2
  go_ret
  exact ⟨rfl, HB.out⟩

end Go.Proofs.Ytehpmjaldghdiaa
