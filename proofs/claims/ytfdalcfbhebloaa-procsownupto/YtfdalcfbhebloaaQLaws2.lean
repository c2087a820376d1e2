/-
  ProcsOwn: what is done to a partition leaves the one that it was as it is; a copy of it may be changed.
-/
import Derived.Test.YtfdalcfbhebloaaQLaws1
import Derived.Test.YtfdalcfbhebloaaQSame3E
import Derived.Test.YtfdalcfbhebloaaQFacts2
namespace Go.Proofs.Ytfdalcfbhebloaa
open Go.RowKit
set_option linter.unusedVariables false

set_option maxRecDepth 100000 in
set_option maxHeartbeats 6400000 in
theorem walk_ProcsOwn (w : World) (x0 : PtX) (f0 : x0.fit w) (x1 : PaX) (f1 : x1.fit w) (i : Int) (w2 : (Lit.int .i64 i).wf = true) (kk : Int) (w3 : (Lit.int .i64 kk).wf = true) (hN : 2 * (x1.c.bo.length + x1.c.bu.length + x1.c.se.length + x1.c.ev.length) ≤ 1048576) :
    Calls Try.prog 6 #[x0.val, x1.val, .int .i64 i, .int .i64 kk] w fun e w' => e = .returned (.bool true) ∧ Below w.heap.size w w' := by
  obtain ⟨qc, cc⟩ := x0
  obtain ⟨q, c⟩ := x1
  unfold PtX.val PaX.val
  simp only at hN ⊢
  have HC := hid f0.1
  have HA := hid f1.1
  have HNm := hid (show c.bo.length + c.bu.length + c.se.length + c.ev.length ≤ 900000 by omega)
  clear f0 f1 hN w2 w3
  obtain ⟨ac, cpc, hcv, hc1, hc2, hcell⟩ := HC.out.pc.form
  obtain ⟨ap, cpp, hpv, hp1, hp2, hpcell⟩ := HA.out.pr.form
  have hmax : cpp ≤ 9223372036854775807 := hp2
  have HCv := hid hcv
  have HPv := hid hpv
  have HPc := hid hpcell
  clear hcv hc1 hc2 hcell hpv hp2 hpcell
  go_enter Try.func6, Try.ntmps6
  go_wp2_with (first
    | (refine wpList_box rfl 28 (.tmp 0) rfl qc.cells.toArray rfl ?_
       intro v1 b1 h1 z1
       have CB := hid b1
       have HB := hid h1
       clear b1 h1)
    | (refine wpList_box rfl 39 (.tmp 1) rfl q.cells.toArray rfl ?_
       intro v2 b2 h2 z2
       rw [z1] at b2
       have PB := hid (show PaB v2 (w.heap.size + 1) q from b2)
       have CB := hid (CB.out.belowAll h2)
       have HB := hid (HB.out.trans (h2.mono (by omega)))
       have hsz : w.heap.size + 2 ≤ v2.heap.size := by omega
       clear b2 h2)
    | fail)
  refine (qawake_any _).mono ?_
  rintro e v3 ⟨rfl, hb⟩
  have PB := hid (show PaB v3 (w.heap.size + 1) q from BoxAt.belowAll PB.out hb)
  have CB := hid (CB.out.belowAll hb)
  have HB := hid (HB.out.trans (hb.mono HB.out.size))
  have hsz3 : w.heap.size + 2 ≤ v3.heap.size := by have := hb.size; omega
  clear hb hsz z1 z2
  go_wp2_with (first
    | (refine wpList_load_box rfl 39 _ rfl (w.heap.size + 1) rfl _ _ PB.out _ Try.underlying39 Try.infoPa ?_)
    | fail)
  refine (few_tot (HA.out.below HB.out) HNm.out).mono ?_
  rintro e v4 ⟨⟨ok, rfl, hok⟩, hb⟩
  have PB := hid (show PaB v4 (w.heap.size + 1) q from BoxAt.belowAll PB.out hb)
  have CB := hid (CB.out.belowAll hb)
  have HB := hid (HB.out.trans (hb.mono HB.out.size))
  have hsz4 : w.heap.size + 2 ≤ v4.heap.size := by have := hb.size; omega
  have HOk := hid hok
  have kcc : v4.cell? ⟨w.heap.size, 2, none⟩ = some (.slice ac cc.pc.length cpc) := (CB.out.cell 2).trans (by show some qc.v2.val = _; rw [HCv.out])
  clear hb hok hsz3
  rcases ok with _ | _
  · go_wp2
    go_ret
    exact ⟨rfl, HB.out⟩
  have HT := hid (HOk.out rfl)
  have HSm := hid HT.out.small
  have kpr : v4.cell? ⟨w.heap.size + 1, 4, none⟩ = some (.slice ap c.pr.length cpp) := (BoxAt.cell PB.out 4).trans (by show some q.pr.val = _; rw [HPv.out])
  obtain ⟨rs, hrs, hrl, hre⟩ := (HA.out.below HB.out).bu
  obtain ⟨ab, cpb, hbv, hb1, hb2, hbcell⟩ := hrs.form
  rw [hrl] at hbv hb1 hbcell
  have hmaxb : cpb ≤ 9223372036854775807 := hb2
  have kbu : v4.cell? ⟨w.heap.size + 1, 6, none⟩ = some (.slice ab c.bu.length cpb) := (BoxAt.cell PB.out 6).trans (by show some q.bu.val = _; rw [hbv])
  clear hbv hb2 hrs
  by_cases hbig : (20 : Int) < (cc.pc.length : Int)
  · go_wp2
    go_ret
    exact ⟨rfl, HB.out⟩
  by_cases hk0 : kk < 0
  · go_wp2
    go_ret
    exact ⟨rfl, HB.out⟩
  by_cases hk4 : 4 < kk
  · go_wp2
    go_ret
    exact ⟨rfl, HB.out⟩
  by_cases hp0 : c.pr.length = 0
  · have hp0' : (c.pr.length : Int) = 0 := by omega
    go_wp2
    go_ret
    exact ⟨rfl, HB.out⟩
  by_cases hb0 : c.bu.length = 0
  · have hb0' : (c.bu.length : Int) = 0 := by omega
    go_wp2
    go_ret
    exact ⟨rfl, HB.out⟩
  obtain ⟨bb, bof, rfl, hbbw, hbe⟩ := hbcell (by omega)
  have hv0 := (hre 0 (by omega)).vs
  have hbe2 := hbe 0 (by omega) 2 (by omega)
  have kv : v4.cell? ⟨bb, bof + 2, none⟩ = some (rs.getD 0 BfV.zero).vs.val := by
    have h := hbe2
    rw [show bof + 0 * 4 + 2 = bof + 2 by omega] at h
    exact h
  obtain ⟨vl, hvl⟩ : ∃ l, (c.bu.getD 0 Bf.zero).vs = l := ⟨_, rfl⟩
  rw [hvl] at hv0
  obtain ⟨va, vc, hvv, _, hvm, _⟩ := Sees.form hv0
  rw [hvv] at kv
  have hmv : vc ≤ 9223372036854775807 := hvm
  clear hbe2 hbe hre hbcell hv0 hvv
  by_cases hv00 : vl.length = 0
  · have hv00' : (vl.length : Int) = 0 := by omega
    go_wp2
    go_ret
    exact ⟨rfl, HB.out⟩
  have HVL := hid hvl
  have HNE := hid (show 0 < c.pr.length ∧ 0 < c.bu.length ∧ 0 < vl.length from ⟨Nat.pos_of_ne_zero hp0, Nat.pos_of_ne_zero hb0, Nat.pos_of_ne_zero hv00⟩)
  have hgt : 0 < c.pr.length ∧ 0 < c.bu.length ∧ 0 < vl.length := HNE.out
  have hd1 : decide ((20 : Int) < (cc.pc.length : Int)) = false := decide_eq_false hbig
  have hd2 : decide (kk < 0) = false := decide_eq_false hk0
  have hd3 : decide ((4 : Int) < kk) = false := decide_eq_false hk4
  have hp0' : ((c.pr.length : Int) == 0) = false := by simp only [beq_eq_false_iff_ne]; omega
  have hb0' : ((c.bu.length : Int) == 0) = false := by simp only [beq_eq_false_iff_ne]; omega
  have hv0' : ((vl.length : Int) == 0) = false := by simp only [beq_eq_false_iff_ne]; omega
  go_wp2_with (first
    | (refine wpList_load_box rfl 39 _ rfl (w.heap.size + 1) rfl _ _ PB.out _ Try.underlying39 Try.infoPa ?_)
    | fail)
  refine (own_any (HA.out.below HB.out) HSm.out).mono ?_
  rintro e v5 ⟨q1, rfl, ho, hb⟩
  have PB := hid (show PaB v5 (w.heap.size + 1) q from BoxAt.belowAll PB.out hb)
  have CB := hid (CB.out.belowAll hb)
  have HB := hid (HB.out.trans (hb.mono HB.out.size))
  have HO1 := hid ho
  have HB5 := hid (Below.refl v5.heap.size v5)
  have hsz5 : w.heap.size + 2 ≤ v5.heap.size := by have := hb.size; omega
  clear ho hb hsz4 kcc kpr kbu kv hmv hmaxb hvm hb1 hbbw hrl
  go_wp2_with (first
    | (refine wpList_new rfl 39 rfl _ Try.zeroPa ?_
       intro v6 b h z
       have QB := hid b
       have PB := hid (show PaB v6 (w.heap.size + 1) q from BoxAt.belowAll PB.out h)
       have CB := hid (CB.out.belowAll h)
       have HB5 := hid (HB5.out.trans h)
       have HB := hid (HB.out.trans (h.mono HB.out.size))
       clear b h)
    | (refine wpList_store_whole rfl 39 _ _ rfl rfl v5.heap.size rfl (PaV.cells q1) rfl _ _ QB.out rfl Try.infoPa (PaV.one _) ?_
       intro v7 b g z
       have hb7 : Below v5.heap.size v6 v7 := grown_below g (Nat.le_refl _) (by omega)
       have QB := hid b
       have PB := hid (show PaB v7 (w.heap.size + 1) q from BoxAt.below PB.out hb7 (by omega))
       have CB := hid (CB.out.below hb7 (by omega))
       have HB5 := hid (HB5.out.trans hb7)
       have HB := hid (HB.out.trans (hb7.mono (by omega)))
       have hsz7 : v5.heap.size + 1 ≤ v7.heap.size := by omega
       clear b g hb7)
    | (refine wpList_load_box rfl 28 _ rfl w.heap.size rfl _ _ CB.out _ Try.underlying28 Try.infoPv ?_)
    | (refine wpList_load_box rfl 39 _ rfl (w.heap.size + 1) rfl _ _ PB.out _ Try.underlying39 Try.infoPa ?_)
    | fail)
  refine (lchange_any (k := kk) (i := i) (n := 1) (HC.out.below HB.out) (HA.out.below HB.out) HSm.out).mono ?_
  rintro e v8 ⟨q2, rfl, ho, hb⟩
  have HK := hid (kept_change cc c kk i 1)
  obtain ⟨⟨D, kd⟩, hD⟩ : ∃ D, changeP cc c kk i 1 = D := ⟨_, rfl⟩
  rw [hD] at ho HK ⊢
  have QB := hid (QB.out.belowAll hb)
  have PB := hid (show PaB v8 (w.heap.size + 1) q from BoxAt.belowAll PB.out hb)
  have HO2 := hid ho
  have HB5 := hid (HB5.out.trans (hb.mono (by omega)))
  have HB8 := hid (Below.refl v8.heap.size v8)
  have HB := hid (HB.out.trans (hb.mono HB.out.size))
  have hsz8 : v7.heap.size ≤ v8.heap.size := hb.size
  clear ho hb hD
  go_wp2_with (first
    | (refine wpList_new rfl 39 rfl _ Try.zeroPa ?_
       intro v9 b h z
       have RB := hid b
       have QB := hid (QB.out.belowAll h)
       have PB := hid (show PaB v9 (w.heap.size + 1) q from BoxAt.belowAll PB.out h)
       have HB8 := hid (HB8.out.trans h)
       have HB5 := hid (HB5.out.trans (h.mono (by omega)))
       have HB := hid (HB.out.trans (h.mono HB.out.size))
       clear b h)
    | (refine wpList_store_whole rfl 39 _ _ rfl rfl v8.heap.size rfl (PaV.cells q2) rfl _ _ RB.out rfl Try.infoPa (PaV.one _) ?_
       intro v10 b g z
       have hb10 : Below v8.heap.size v9 v10 := grown_below g (Nat.le_refl _) (by omega)
       have RB := hid b
       have QB := hid (QB.out.below hb10 (by omega))
       have PB := hid (show PaB v10 (w.heap.size + 1) q from BoxAt.below PB.out hb10 (by omega))
       have HB8 := hid (HB8.out.trans hb10)
       have HB5 := hid (HB5.out.trans (hb10.mono (by omega)))
       have HB := hid (HB.out.trans (hb10.mono (by omega)))
       have hsz10 : v8.heap.size + 1 ≤ v10.heap.size := by omega
       clear b g hb10)
    | (refine wpList_load_box rfl 39 _ rfl v5.heap.size rfl _ _ QB.out _ Try.underlying39 Try.infoPa ?_)
    | (refine wpList_load_box rfl 39 _ rfl (w.heap.size + 1) rfl _ _ PB.out _ Try.underlying39 Try.infoPa ?_)
    | fail)
  refine (same_eq (HO1.out.sees.below HB5.out) (HA.out.below HB.out)).mono ?_
  rintro e v11 ⟨rfl, hb⟩
  have QB := hid (QB.out.belowAll hb)
  have RB := hid (RB.out.belowAll hb)
  have PB := hid (show PaB v11 (w.heap.size + 1) q from BoxAt.belowAll PB.out hb)
  have HB5 := hid (HB5.out.trans (hb.mono (by omega)))
  have HB8 := hid (HB8.out.trans (hb.mono (by omega)))
  have HB := hid (HB.out.trans (hb.mono HB.out.size))
  have hsz11 : v8.heap.size + 1 ≤ v11.heap.size := by have := hb.size; omega
  clear hb hsz10
  have hne := HNE.out
  have hO2 := HO2.out.below HB8.out
  obtain ⟨g3, cp3, hv3, hg3, hl3, _, hm3⟩ := OP.form hO2.pr (by have := HK.out.len; simp only at this; omega)
  have hp3 := hO2.pr
  rw [hv3] at hp3
  have e3 := hp3.at 0 (by have := HK.out.len; simp only at this; omega) 1 (by omega)
  rw [show 0 * 18 + 1 = 1 by omega] at e3
  have f3 := hp3.free 1
  have k4 : v11.cell? ⟨v8.heap.size, 4, none⟩ = some (.slice (some ⟨g3, 0, none⟩) D.pr.length cp3) := (RB.out.cell 4).trans (by show some q2.pr.val = _; rw [hv3])
  have k3 : v11.cell? ⟨g3, 1, none⟩ = some (.int .i64 (D.pr.getD 0 Px.zero).pr) := e3
  obtain ⟨n3, hn3⟩ : ∃ n, D.pr.length = n := ⟨_, rfl⟩
  obtain ⟨r3, hr3⟩ : ∃ r, (D.pr.getD 0 Px.zero).pr = r := ⟨_, rfl⟩
  have hn30 : 0 < n3 := by have := HK.out.len; simp only at this; omega
  rw [hn3] at k4
  rw [hr3] at k3
  obtain ⟨rs2, hrs2, hrl2, hre2⟩ := hO2.bu
  have hbl : 0 < rs2.length := by have := HK.out.bul; simp only at this; omega
  rcases hrs2.2 with ⟨_, h0⟩ | ⟨gb, cpb2, cur, hvb, hgb, hhb, hcb, hmb, _⟩
  · omega
  obtain ⟨ab2, cpb3, hvb3, _, _, hcell2⟩ := hrs2.sees.form
  obtain ⟨bb2, bof2, rfl, hbb2, hbe2⟩ := hcell2 hbl
  rw [hvb] at hvb3
  obtain ⟨⟨rfl, rfl⟩, rfl⟩ : (gb = bb2 ∧ 0 = bof2) ∧ cpb2 = cpb3 := by simp at hvb3; omega
  have e2 := hbe2 0 hbl 2 (by omega)
  rw [show 0 + 0 * 4 + 2 = 2 by omega] at e2
  have hvs := (hre2 0 hbl).vs
  have hbv := HK.out.buv 0 hne.2.1
  rw [HVL.out] at hbv
  simp only at hbv
  rw [hbv] at hvs
  rcases hvs.2 with ⟨_, h0⟩ | ⟨gv, cpv, curv, hvv, hgv, hhv, hcv, hmv, hxv⟩
  · omega
  have k6 : v11.cell? ⟨v8.heap.size, 6, none⟩ = some (.slice (some ⟨gb, 0, none⟩) rs2.length cpb2) := (RB.out.cell 6).trans (by show some q2.bu.val = _; rw [hvb])
  have k2 : v11.cell? ⟨gb, 2, none⟩ = some (.slice (some ⟨gv, 0, none⟩) vl.length cpv) := e2.trans (by show some (rs2.getD 0 BfV.zero).vs.val = _; rw [hvv])
  have hmx3 : cp3 ≤ 9223372036854775807 := hm3
  have hmxb : cpb2 ≤ 9223372036854775807 := hmb
  have hmxv : cpv ≤ 9223372036854775807 := hmv
  have hp0'' : ((n3 : Int) == 0) = false := by simp only [beq_eq_false_iff_ne]; omega
  have hb0'' : ((rs2.length : Int) == 0) = false := by simp only [beq_eq_false_iff_ne]; omega
  have hv0'' : ((vl.length : Int) == 0) = false := by simp only [beq_eq_false_iff_ne]; omega
  have HS12 := hid (show (∀ W, W = (v11.setCell ⟨g3, 1, none⟩ (.int .i64 (wrap64 (r3 + 1)))).drew → Below v7.heap.size v11 W ∧ BoxAt W v8.heap.size 39 (PaV.cells q2).toArray ∧ OBf W v7.heap.size q2.bu.val D.bu ∧ v11.heap.size = W.heap.size) from by
    rintro W rfl
    obtain ⟨cs3, hcs3⟩ : ∃ cs, BoxAt v11 g3 58 cs := by
      rcases hp3.2 with ⟨h, _⟩ | ⟨g, cap, cur, hv, _, hh, _⟩
      · simp at h
      · simp at hv; obtain ⟨⟨rfl⟩, rfl⟩ := hv; exact ⟨cur, hh⟩
    have hlt : g3 < v8.heap.size := by
      obtain ⟨g', cp', hv', _, hl', _, _⟩ := OP.form HO2.out.pr (by have := HK.out.len; simp only at this; omega)
      rw [hv3] at hv'; simp at hv'; omega
    refine ⟨((Below.refl v7.heap.size v11).setCell hg3 _).drew, BoxAt.drew (RB.out.grown (grown_set v11 g3 _ _) (fun e => by have := Option.some.inj e; omega)), ?_, ?_⟩
    · exact (hO2.bu.turn (S := fun t => t = 58) (by decide) (by decide) (by decide) (Turns.set (S := fun t => t = 58) hcs3 rfl _)).turn (S := fun t => t = 58) (by decide) (by decide) (by decide) ⟨rfl, World.tape_drew _, rfl, Nat.le_refl _, fun _ _ _ => rfl, fun _ _ _ h => h⟩
    · show _ = (v11.setCell _ _).heap.size
      simp)
  have hvl0 : 0 < vl.length := hne.2.2
  clear hgt hd1 hd2 hd3 hp0' hb0' hv0' hrl2 hre2 hbv hn3 hr3 hne e2 e3 hbe2 hhv hhb hxv hcell2 hO2 hrs2 hvs hv3 hvb hvv hp3 hvb3
  go_wp2_with fail
  go_region
  obtain ⟨v12, hv12⟩ : ∃ W, (v11.setCell ⟨g3, 1, none⟩ (.int .i64 (wrap64 (r3 + 1)))).drew = W := ⟨_, rfl⟩
  rw [hv12]
  have H12 := hid (HS12.out v12 hv12.symm)
  clear hv12 HS12
  obtain ⟨hb12, RB12, hO3, hz12⟩ := H12.out
  clear H12 k4 k3 k6 k2
  have QB := hid (BoxAt.below QB.out hb12 (by omega))
  have PB := hid (show PaB v12 (w.heap.size + 1) q from BoxAt.below PB.out hb12 (by omega))
  have HB5 := hid (HB5.out.trans (hb12.mono (by omega)))
  have HB := hid (HB.out.trans (hb12.mono (by omega)))
  obtain ⟨rs4, hrs4, hrl4, hre4⟩ := hO3
  have hne := HNE.out
  have hbl4 : 0 < rs4.length := by have := HK.out.bul; simp only at this; omega
  rcases hrs4.2 with ⟨_, h0⟩ | ⟨gb4, cpb4, cur4, hvb4, hgb4, hhb4, hcb4, hmb4, _⟩
  · omega
  obtain ⟨ab5, cpb5, hvb5, _, _, hcell5⟩ := hrs4.sees.form
  obtain ⟨bb5, bof5, rfl, hbb5, hbe5⟩ := hcell5 hbl4
  rw [hvb4] at hvb5
  obtain ⟨⟨rfl, rfl⟩, rfl⟩ : (gb4 = bb5 ∧ 0 = bof5) ∧ cpb4 = cpb5 := by simp at hvb5; omega
  have e2 := hbe5 0 hbl4 2 (by omega)
  rw [show 0 + 0 * 4 + 2 = 2 by omega] at e2
  have hvs4 := (hre4 0 hbl4).vs
  have hbv4 := HK.out.buv 0 hne.2.1
  rw [HVL.out] at hbv4
  simp only at hbv4
  rw [hbv4] at hvs4
  have hvs5 := hvs4
  rcases hvs4.2 with ⟨_, h0⟩ | ⟨gv4, cpv4, curv4, hvv4, hgv4, hhv4, hcv4, hmv4, hxv4⟩
  · omega
  have k6 : v12.cell? ⟨v8.heap.size, 6, none⟩ = some (.slice (some ⟨gb4, 0, none⟩) rs4.length cpb4) := (BoxAt.cell RB12 6).trans (by show some q2.bu.val = _; rw [hvb4])
  have k2 : v12.cell? ⟨gb4, 2, none⟩ = some (.slice (some ⟨gv4, 0, none⟩) vl.length cpv4) := e2.trans (by show some (rs4.getD 0 BfV.zero).vs.val = _; rw [hvv4])
  rw [hvv4] at hvs5
  obtain ⟨x5, hx5⟩ : ∃ x, vl.getD 0 0 = x := ⟨_, rfl⟩
  have k0 : v12.cell? ⟨gv4, 0, none⟩ = some (.int .i64 x5) := (World.ownsRow.cellAt hvs5 0 (by omega)).trans (by rw [List.getElem?_map, ← hx5, List.getD_eq_getElem?_getD, List.getElem?_eq_getElem hne.2.2]; rfl)
  have f0 : v12.frozen? ⟨gv4, 0, none⟩ = false := World.ownsRow.frozenAt hvs5 0
  have hmxb : cpb4 ≤ 9223372036854775807 := hmb4
  have hmxv : cpv4 ≤ 9223372036854775807 := hmv4
  have hvl0 : 0 < vl.length := hne.2.2
  have HS13 := hid (show (∀ W, W = (v12.setCell ⟨gv4, 0, none⟩ (.int .i64 (wrap64 (x5 + 1)))).drew → Below v7.heap.size v12 W ∧ v12.heap.size = W.heap.size) from by
    rintro W rfl
    exact ⟨((Below.refl v7.heap.size v12).setCell hgv4 _).drew, by show _ = (v12.setCell _ _).heap.size; simp⟩)
  clear e2 hbe5 hhb4 hrs4 hrl4 hre4 hne hhv4 hvs4 hvs5 hbv4 hxv4 hvv4 hvb4 hvb5 hcell5 hx5 RB RB12 hb12
  have hz12 := hid hz12
  go_wp2_with fail
  go_region
  obtain ⟨v13, hv13⟩ : ∃ W, (v12.setCell ⟨gv4, 0, none⟩ (.int .i64 (wrap64 (x5 + 1)))).drew = W := ⟨_, rfl⟩
  rw [hv13]
  obtain ⟨hb13, hz13⟩ := HS13.out v13 hv13.symm
  have hz12 := hz12.out
  clear hv13 HS13
  have QB := hid (BoxAt.below QB.out hb13 (by omega))
  have PB := hid (show PaB v13 (w.heap.size + 1) q from BoxAt.below PB.out hb13 (by omega))
  have HB5 := hid (HB5.out.trans (hb13.mono (by omega)))
  have HB := hid (HB.out.trans (hb13.mono (by omega)))
  clear hb13 hz12 hz13 k6 k2 k0 f0
  go_wp2_with (first
    | (refine wpList_load_box rfl 39 _ rfl v5.heap.size rfl _ _ QB.out _ Try.underlying39 Try.infoPa ?_)
    | (refine wpList_load_box rfl 39 _ rfl (w.heap.size + 1) rfl _ _ PB.out _ Try.underlying39 Try.infoPa ?_)
    | fail)
  refine (same_eq (HO1.out.sees.below HB5.out) (HA.out.below HB.out)).mono ?_
  rintro e v14 ⟨rfl, hb⟩
  have HB := hid (HB.out.trans (hb.mono HB.out.size))
  clear hb
  go_wp2
  go_ret
  exact ⟨rfl, HB.out⟩
end Go.Proofs.Ytfdalcfbhebloaa
