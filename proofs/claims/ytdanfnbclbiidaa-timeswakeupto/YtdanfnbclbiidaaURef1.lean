/-
  What the document's Delay, Replenish and Period return.
-/
import Derived.Test.YtdanfnbclbiidaaQRef4
import Derived.Test.YtdanfnbclbiidaaUMath
import Derived.Deep.RegionHeld3
namespace Go.Proofs.Ytdanfnbclbiidaa
open Go.RowKit
set_option linter.unusedVariables false

set_option maxRecDepth 100000 in
set_option maxHeartbeats 1600000 in
theorem rwith11_own {q : PaV} {c : Pa} {w : World} (k : Nat) (r : Px) (ha : PaAt w q c) (hlen : c.pr.length ≤ 900000) (hk : k < c.pr.length) :
    Calls Try.prog 38 #[q.val, .int .i64 k, r.val] w fun e w' => ∃ s : Sl, e = .returned (PaV.val { q with pr := s }) ∧ OP w' w.heap.size s.val (c.pr.set k r) ∧ Below w.heap.size w w' := by
  have HA := hid ha
  have HK := hid hk
  have HLn := hid hlen
  clear ha hlen
  go_enter Try.func38, Try.ntmps38
  go_wp2_with (first
    | (refine wpList_box rfl 39 (.tmp 0) rfl q.cells.toArray rfl ?_
       intro w1 b1 h1 z1
       have PB := hid (show PaB w1 w.heap.size q from b1)
       have HB := hid h1
       clear b1 h1)
    | (refine wpList_box rfl 57 (.tmp 2) rfl r.cells.toArray rfl ?_
       intro w2 b2 h2 z2
       rw [z1] at b2
       have XB := hid b2
       have PB := hid (show PaB w2 w.heap.size q from BoxAt.belowAll PB.out h2)
       have HB := hid (HB.out.trans (h2.mono (by omega)))
       clear b2 h2)
    | (refine wpList_new rfl 39 rfl _ Try.zeroPa ?_
       intro w3 b3 h3 z3
       rw [z2, z1] at b3
       have RB := hid b3
       have XB := hid (XB.out.belowAll h3)
       have PB := hid (show PaB w3 w.heap.size q from BoxAt.belowAll PB.out h3)
       have HB := hid (HB.out.trans (h3.mono (by omega)))
       have kc : w3.cell? ⟨w.heap.size, 4, none⟩ = some (.slice q.pr.a q.pr.n q.pr.c) := (BoxAt.cell PB.out 4).trans rfl
       have hsz : w.heap.size + 3 ≤ w3.heap.size := by omega
       clear b3 h3)
    | (at_builtin
       refine app_px rfl _ _ rfl w3.heap.size (.slice none 0 0) [] rfl (OP.nil _ _) _ c.pr rfl (HA.out.below HB.out).pr (by have := HLn.out; simp; omega) (Nat.le_refl _) ?_
       intro v' w4 ho hg hb
       rw [List.nil_append] at ho
       obtain ⟨g, cap, rfl, hg1, hg2, _, _⟩ := OP.form ho (by have := HK.out; omega)
       have HO := hid ho
       have RB := hid (RB.out.belowAll hb)
       have XB := hid (XB.out.belowAll hb)
       have PB := hid (show PaB w4 w.heap.size q from BoxAt.belowAll PB.out hb)
       have HB4 := hid (HB.out.trans (hb.mono HB.out.size))
       have hsz4 : w.heap.size + 3 ≤ w4.heap.size := by omega
       clear ho hg hb z1 z2 z3)
    | (refine wpList_load_box rfl 57 _ rfl (w.heap.size + 1) rfl _ _ XB.out _ Try.underlying57 Try.infoPx ?_)
    | (refine wpList_store_el rfl 57 _ _ rfl rfl HO.out (px_lens _) k (by simpa using HK.out) (Px.cells r) rfl rfl rfl Try.infoPx (Px.one _) ?_
       intro w5 ho hgr hz
       rw [← List.map_set] at ho
       have HO5 := hid (show OP w5 w3.heap.size (.slice (some ⟨g, 0, none⟩) c.pr.length cap) (c.pr.set k r) by unfold OP; rw [List.length_set]; exact ho)
       have RB := hid (RB.out.grown hgr (fun e => by have := Option.some.inj e; omega))
       have PB := hid (show PaB w5 w.heap.size q from BoxAt.grown PB.out hgr (fun e => by have := Option.some.inj e; omega))
       have HB5 := hid (HB4.out.trans (grown_below hgr (by omega) (by omega)))
       have hsz5 : w.heap.size + 3 ≤ w5.heap.size := by omega
       clear ho hgr)
    | (refine wpList_store_box rfl 29 _ _ rfl rfl w.heap.size 4 (.slice (some ⟨g, 0, none⟩) c.pr.length cap) rfl rfl rfl rfl (by kernel_rfl) _ _ PB.out (by simp [PaV.cells]) ?_
       intro w6 b g' z
       have HT := hid (Turns.grown (S := fun t => t = 39) PB.out b rfl g')
       have PB := hid (show PaB w6 w.heap.size { q with pr := ⟨some ⟨g, 0, none⟩, c.pr.length, cap⟩ } by simpa [PaB, PaV.cells] using b)
       have HO6 := hid (HO5.out.turn (by decide) HT.out)
       have RB := hid (RB.out.grown g' (fun e => by have := Option.some.inj e; omega))
       have HB6 := hid (HB5.out.trans (grown_below g' (Nat.le_refl _) (by omega)))
       have hsz6 : w.heap.size + 3 ≤ w6.heap.size := by omega
       clear b g' HT)
    | (refine wpList_load_box rfl 39 _ rfl w.heap.size rfl _ _ PB.out _ Try.underlying39 Try.infoPa ?_)
    | (refine wpList_store_whole rfl 39 _ _ rfl rfl (w.heap.size + 1 + 1) rfl (PaV.cells { q with pr := ⟨some ⟨g, 0, none⟩, c.pr.length, cap⟩ }) rfl _ _ RB.out rfl Try.infoPa (PaV.one _) ?_
       intro w7 b g' z
       have HT := hid (Turns.grown (S := fun t => t = 39) RB.out b rfl g')
       have RB := hid b
       have HO7 := hid (HO6.out.turn (by decide) HT.out)
       have HB7 := hid (HB6.out.trans (grown_below g' (by omega) (by omega)))
       clear b g' HT)
    | fail)
  refine bodyPost_ret (results_cell_row rfl _ _ (w.heap.size + 1 + 1) 39 _ (0, 0) _ rfl RB.out Try.underlying39 rfl Try.infoPa) rfl ?_
  exact ⟨⟨some ⟨g, 0, none⟩, c.pr.length, cap⟩, rfl, OP.mono (show OP w7 w3.heap.size (.slice (some ⟨g, 0, none⟩) c.pr.length cap) (c.pr.set k r) from HO7.out) (by omega), HB7.out⟩
theorem rwith11_s {n : Nat} {q : PaV} {c : Pa} {w : World} (k : Nat) (r : Px) (hs : PaS n w q c) (hn : n ≤ w.heap.size) (hlen : c.pr.length ≤ 900000) (hk : k < c.pr.length) :
    Calls Try.prog 38 #[q.val, .int .i64 k, r.val] w fun e w' => ∃ q', e = .returned (PaV.val q') ∧ PaS n w' q' { c with pr := c.pr.set k r } ∧ Below w.heap.size w w' := by
  refine (rwith11_own k r hs.at hlen hk).mono ?_
  rintro e w' ⟨s, rfl, ho, hb⟩
  exact ⟨_, rfl, hs.pr hn hb ho, hb⟩

set_option maxRecDepth 100000 in
set_option maxHeartbeats 6400000 in
theorem rdelay_any {q : PaV} {c : Pa} {w0 w : World} {i ticks now : Int} (ha : PaAt w0 q c) (h0 : Below w0.heap.size w0 w) (hsm : c.small) :
    Calls Try.prog 20 #[q.val, .int .i64 i, .int .i64 ticks, .int .i64 now] w fun e w' => ∃ q', e = .returned (.tuple #[PaV.val q', .int .i64 (delayP c i ticks now).2]) ∧ PaS w0.heap.size w' q' (delayP c i ticks now).1 ∧ Below w.heap.size w w' := by
  have HA0 := hid ha
  have HA := hid (ha.below h0)
  have H0 := hid h0
  have h0s : w0.heap.size ≤ w.heap.size := h0.size
  have HSm := hid hsm
  have HB := hid (Below.refl w.heap.size w)
  obtain ⟨ap, cpp, hpv, hp1, hp2, hpcell⟩ := HA.out.pr.form
  have hmax : cpp ≤ 9223372036854775807 := hp2
  have HPv := hid hpv
  have HPc := hid hpcell
  clear ha h0 hsm hpv hp2 hpcell
  go_enter Try.func20, Try.ntmps20
  have HNx := hid HA.out.nx
  have hNI := HSm.out.pr
  by_cases hp4 : i < 0
  · have d4 : decide (i < 0) = true := decide_eq_true hp4
    have HH := hid hp4
    have FL1 := hid trivial
    have FL2 := hid trivial
    have FL3 := hid trivial
    go_wp2_with (first
      | (have hfl := FL1.out
         refine wpList_box rfl 39 (.tmp 0) rfl (PaV.cells q).toArray rfl ?_
         intro v1 b h z
         have PB := hid (show BoxAt v1 w.heap.size 39 (PaV.cells q).toArray from b)
         have HB := hid (HB.out.trans (h.mono HB.out.size))
         have hsv1 : w.heap.size + 1 ≤ v1.heap.size := by omega
         clear b h z hfl FL1)
      | (have hfl := FL2.out
         refine wpList_new rfl 39 rfl _ Try.zeroPa ?_
         intro v2 b h z
         have RB := hid (show BoxAt v2 v1.heap.size 39 (PaV.cells PaV.zero).toArray from b)
         have PB := hid (PB.out.belowAll h)
         have HB := hid (HB.out.trans (h.mono HB.out.size))
         have hsv2 : v1.heap.size + 1 ≤ v2.heap.size := by omega
         have kPB4 : v2.cell? ⟨w.heap.size, 4, none⟩ = some (.slice ap c.pr.length cpp) := (BoxAt.cell PB.out 4).trans (by show some q.pr.val = _; rw [HPv.out])
         clear b h z hfl FL2)
      | (with_reducible refine wpList_dst 28 rfl ?_
         refine wpList_load_box rfl 39 _ rfl w.heap.size rfl _ _ PB.out _ Try.underlying39 Try.infoPa ?_)
      | (have hfl := FL3.out
         refine wpList_store_whole rfl 39 _ _ rfl rfl v1.heap.size rfl (PaV.cells q) rfl _ _ RB.out rfl Try.infoPa (PaV.one _) ?_
         intro v3 b g z
         have hsv3 : v2.heap.size ≤ v3.heap.size := by omega
         have RB := hid (show BoxAt v3 v1.heap.size 39 (PaV.cells q).toArray from b)
         have PB := hid (PB.out.grown g (fun e => by have := Option.some.inj e; omega))
         have HB := hid (HB.out.trans (grown_below g (by omega) (by omega)))
         clear kPB4
         have kPB4 : v3.cell? ⟨w.heap.size, 4, none⟩ = some (.slice ap c.pr.length cpp) := (BoxAt.cell PB.out 4).trans (by show some q.pr.val = _; rw [HPv.out])
         clear b g z hfl FL3)
      | fail)
    refine bodyPost_ret (results_box_tmp rfl _ _ (v1.heap.size) 39 _ (0, 0) _ rfl RB.out Try.underlying39 rfl Try.infoPa) rfl ?_
    rw [show delayP c i ticks now = (c, 3) from by unfold delayP; rw [if_neg (fun h => by have := HH.out; omega)]]
    exact ⟨q, rfl, PaS.from HA0.out (H0.out.trans (HB.out.mono h0s)), HB.out⟩
  · have d4 : decide (i < 0) = false := decide_eq_false hp4
    by_cases hp3 : (c.pr.length : Int) ≤ i
    · have d3 : decide ((c.pr.length : Int) ≤ i) = true := decide_eq_true hp3
      have HH := hid hp3
      have FL4 := hid trivial
      have FL5 := hid trivial
      have FL6 := hid trivial
      go_wp2_with (first
        | (have hfl := FL4.out
           refine wpList_box rfl 39 (.tmp 0) rfl (PaV.cells q).toArray rfl ?_
           intro v4 b h z
           have PB := hid (show BoxAt v4 w.heap.size 39 (PaV.cells q).toArray from b)
           have HB := hid (HB.out.trans (h.mono HB.out.size))
           have hsv4 : w.heap.size + 1 ≤ v4.heap.size := by omega
           clear b h z hfl FL4)
        | (have hfl := FL5.out
           refine wpList_new rfl 39 rfl _ Try.zeroPa ?_
           intro v5 b h z
           have RB := hid (show BoxAt v5 v4.heap.size 39 (PaV.cells PaV.zero).toArray from b)
           have PB := hid (PB.out.belowAll h)
           have HB := hid (HB.out.trans (h.mono HB.out.size))
           have hsv5 : v4.heap.size + 1 ≤ v5.heap.size := by omega
           have kPB4 : v5.cell? ⟨w.heap.size, 4, none⟩ = some (.slice ap c.pr.length cpp) := (BoxAt.cell PB.out 4).trans (by show some q.pr.val = _; rw [HPv.out])
           clear b h z hfl FL5)
        | (with_reducible refine wpList_dst 28 rfl ?_
           refine wpList_load_box rfl 39 _ rfl w.heap.size rfl _ _ PB.out _ Try.underlying39 Try.infoPa ?_)
        | (have hfl := FL6.out
           refine wpList_store_whole rfl 39 _ _ rfl rfl v4.heap.size rfl (PaV.cells q) rfl _ _ RB.out rfl Try.infoPa (PaV.one _) ?_
           intro v6 b g z
           have hsv6 : v5.heap.size ≤ v6.heap.size := by omega
           have RB := hid (show BoxAt v6 v4.heap.size 39 (PaV.cells q).toArray from b)
           have PB := hid (PB.out.grown g (fun e => by have := Option.some.inj e; omega))
           have HB := hid (HB.out.trans (grown_below g (by omega) (by omega)))
           clear kPB4
           have kPB4 : v6.cell? ⟨w.heap.size, 4, none⟩ = some (.slice ap c.pr.length cpp) := (BoxAt.cell PB.out 4).trans (by show some q.pr.val = _; rw [HPv.out])
           clear b g z hfl FL6)
        | fail)
      refine bodyPost_ret (results_box_tmp rfl _ _ (v4.heap.size) 39 _ (0, 0) _ rfl RB.out Try.underlying39 rfl Try.infoPa) rfl ?_
      rw [show delayP c i ticks now = (c, 3) from by unfold delayP; rw [if_neg (fun h => by have := HH.out; omega)]]
      exact ⟨q, rfl, PaS.from HA0.out (H0.out.trans (HB.out.mono h0s)), HB.out⟩
    · have d3 : decide ((c.pr.length : Int) ≤ i) = false := decide_eq_false hp3
      by_cases hp2 : ticks < 0
      · have d2 : decide (ticks < 0) = true := decide_eq_true hp2
        have HH := hid hp2
        have FL7 := hid trivial
        have FL8 := hid trivial
        have FL9 := hid trivial
        go_wp2_with (first
          | (have hfl := FL7.out
             refine wpList_box rfl 39 (.tmp 0) rfl (PaV.cells q).toArray rfl ?_
             intro v7 b h z
             have PB := hid (show BoxAt v7 w.heap.size 39 (PaV.cells q).toArray from b)
             have HB := hid (HB.out.trans (h.mono HB.out.size))
             have hsv7 : w.heap.size + 1 ≤ v7.heap.size := by omega
             clear b h z hfl FL7)
          | (have hfl := FL8.out
             refine wpList_new rfl 39 rfl _ Try.zeroPa ?_
             intro v8 b h z
             have RB := hid (show BoxAt v8 v7.heap.size 39 (PaV.cells PaV.zero).toArray from b)
             have PB := hid (PB.out.belowAll h)
             have HB := hid (HB.out.trans (h.mono HB.out.size))
             have hsv8 : v7.heap.size + 1 ≤ v8.heap.size := by omega
             have kPB4 : v8.cell? ⟨w.heap.size, 4, none⟩ = some (.slice ap c.pr.length cpp) := (BoxAt.cell PB.out 4).trans (by show some q.pr.val = _; rw [HPv.out])
             clear b h z hfl FL8)
          | (with_reducible refine wpList_dst 28 rfl ?_
             refine wpList_load_box rfl 39 _ rfl w.heap.size rfl _ _ PB.out _ Try.underlying39 Try.infoPa ?_)
          | (have hfl := FL9.out
             refine wpList_store_whole rfl 39 _ _ rfl rfl v7.heap.size rfl (PaV.cells q) rfl _ _ RB.out rfl Try.infoPa (PaV.one _) ?_
             intro v9 b g z
             have hsv9 : v8.heap.size ≤ v9.heap.size := by omega
             have RB := hid (show BoxAt v9 v7.heap.size 39 (PaV.cells q).toArray from b)
             have PB := hid (PB.out.grown g (fun e => by have := Option.some.inj e; omega))
             have HB := hid (HB.out.trans (grown_below g (by omega) (by omega)))
             clear kPB4
             have kPB4 : v9.cell? ⟨w.heap.size, 4, none⟩ = some (.slice ap c.pr.length cpp) := (BoxAt.cell PB.out 4).trans (by show some q.pr.val = _; rw [HPv.out])
             clear b g z hfl FL9)
          | fail)
        refine bodyPost_ret (results_box_tmp rfl _ _ (v7.heap.size) 39 _ (0, 0) _ rfl RB.out Try.underlying39 rfl Try.infoPa) rfl ?_
        rw [show delayP c i ticks now = (c, 3) from by unfold delayP; rw [if_neg (fun h => by have := HH.out; omega)]]
        exact ⟨q, rfl, PaS.from HA0.out (H0.out.trans (HB.out.mono h0s)), HB.out⟩
      · have d2 : decide (ticks < 0) = false := decide_eq_false hp2
        by_cases hp1 : 4096 < ticks
        · have d1 : decide (4096 < ticks) = true := decide_eq_true hp1
          have HH := hid hp1
          have FL10 := hid trivial
          have FL11 := hid trivial
          have FL12 := hid trivial
          go_wp2_with (first
            | (have hfl := FL10.out
               refine wpList_box rfl 39 (.tmp 0) rfl (PaV.cells q).toArray rfl ?_
               intro v10 b h z
               have PB := hid (show BoxAt v10 w.heap.size 39 (PaV.cells q).toArray from b)
               have HB := hid (HB.out.trans (h.mono HB.out.size))
               have hsv10 : w.heap.size + 1 ≤ v10.heap.size := by omega
               clear b h z hfl FL10)
            | (have hfl := FL11.out
               refine wpList_new rfl 39 rfl _ Try.zeroPa ?_
               intro v11 b h z
               have RB := hid (show BoxAt v11 v10.heap.size 39 (PaV.cells PaV.zero).toArray from b)
               have PB := hid (PB.out.belowAll h)
               have HB := hid (HB.out.trans (h.mono HB.out.size))
               have hsv11 : v10.heap.size + 1 ≤ v11.heap.size := by omega
               have kPB4 : v11.cell? ⟨w.heap.size, 4, none⟩ = some (.slice ap c.pr.length cpp) := (BoxAt.cell PB.out 4).trans (by show some q.pr.val = _; rw [HPv.out])
               clear b h z hfl FL11)
            | (with_reducible refine wpList_dst 28 rfl ?_
               refine wpList_load_box rfl 39 _ rfl w.heap.size rfl _ _ PB.out _ Try.underlying39 Try.infoPa ?_)
            | (have hfl := FL12.out
               refine wpList_store_whole rfl 39 _ _ rfl rfl v10.heap.size rfl (PaV.cells q) rfl _ _ RB.out rfl Try.infoPa (PaV.one _) ?_
               intro v12 b g z
               have hsv12 : v11.heap.size ≤ v12.heap.size := by omega
               have RB := hid (show BoxAt v12 v10.heap.size 39 (PaV.cells q).toArray from b)
               have PB := hid (PB.out.grown g (fun e => by have := Option.some.inj e; omega))
               have HB := hid (HB.out.trans (grown_below g (by omega) (by omega)))
               clear kPB4
               have kPB4 : v12.cell? ⟨w.heap.size, 4, none⟩ = some (.slice ap c.pr.length cpp) := (BoxAt.cell PB.out 4).trans (by show some q.pr.val = _; rw [HPv.out])
               clear b g z hfl FL12)
            | fail)
          refine bodyPost_ret (results_box_tmp rfl _ _ (v10.heap.size) 39 _ (0, 0) _ rfl RB.out Try.underlying39 rfl Try.infoPa) rfl ?_
          rw [show delayP c i ticks now = (c, 3) from by unfold delayP; rw [if_neg (fun h => by have := HH.out; omega)]]
          exact ⟨q, rfl, PaS.from HA0.out (H0.out.trans (HB.out.mono h0s)), HB.out⟩
        · have d1 : decide (4096 < ticks) = false := decide_eq_false hp1
          obtain ⟨k, hki⟩ : ∃ k : Nat, i = (k : Int) := ⟨i.toNat, by omega⟩
          subst hki
          have hk : k < c.pr.length := by omega
          have HT := hid (show 0 ≤ (k : Int) ∧ (k : Int) < c.pr.length ∧ 0 ≤ ticks ∧ ticks ≤ 4096 by omega)
          have hkI : (k : Int) < (c.pr.length : Int) := by omega
          obtain ⟨b1, off, hap, hbw, hpx⟩ := HPc.out (by omega)
          subst hap
          have HP0 := hid (show PxAt w b1 (off + k * 18) (c.pr.getD k Px.zero) from fun j hj => hpx k hk j hj)
          clear hpx
          obtain ⟨r, hr⟩ : ∃ r, c.pr.getD k Px.zero = r := ⟨_, rfl⟩
          rw [hr] at HP0
          have HR := hid hr
          have HK := hid hk
          clear hr hk
          by_cases hst : r.st ≠ 1
          · have t1 : (r.st != 1) = true := by simpa using hst
            have HS := hid hst
            clear hst
            have FL13 := hid trivial
            have FL14 := hid trivial
            have FL15 := hid trivial
            have FL16 := hid trivial
            have FL17 := hid trivial
            go_wp2_with (first
              | (have hfl := FL13.out
                 refine wpList_box rfl 39 (.tmp 0) rfl (PaV.cells q).toArray rfl ?_
                 intro v13 b h z
                 have PB := hid (show BoxAt v13 w.heap.size 39 (PaV.cells q).toArray from b)
                 have HB := hid (HB.out.trans (h.mono HB.out.size))
                 have hsv13 : w.heap.size + 1 ≤ v13.heap.size := by omega
                 clear b h z hfl FL13)
              | (have hfl := FL14.out
                 refine wpList_new rfl 39 rfl _ Try.zeroPa ?_
                 intro v14 b h z
                 have RB := hid (show BoxAt v14 v13.heap.size 39 (PaV.cells PaV.zero).toArray from b)
                 have PB := hid (PB.out.belowAll h)
                 have HB := hid (HB.out.trans (h.mono HB.out.size))
                 have hsv14 : v13.heap.size + 1 ≤ v14.heap.size := by omega
                 have kPB4 : v14.cell? ⟨w.heap.size, 4, none⟩ = some (.slice (some ⟨b1, off, none⟩) c.pr.length cpp) := (BoxAt.cell PB.out 4).trans (by show some q.pr.val = _; rw [HPv.out])
                 clear b h z hfl FL14)
              | (refine wpList_load_px rfl _ rfl b1 (off + k * 18) rfl r (HP0.out.below HB.out hbw) ?_)
              | (have hfl := FL15.out
                 refine wpList_new rfl 57 rfl _ Try.zeroPx ?_
                 intro v15 b h z
                 have XB := hid (show BoxAt v15 v14.heap.size 57 (Px.cells Px.zero).toArray from b)
                 have PB := hid (PB.out.belowAll h)
                 have RB := hid (RB.out.belowAll h)
                 have HB := hid (HB.out.trans (h.mono HB.out.size))
                 have hsv15 : v14.heap.size + 1 ≤ v15.heap.size := by omega
                 clear kPB4
                 have kPB4 : v15.cell? ⟨w.heap.size, 4, none⟩ = some (.slice (some ⟨b1, off, none⟩) c.pr.length cpp) := (BoxAt.cell PB.out 4).trans (by show some q.pr.val = _; rw [HPv.out])
                 clear b h z hfl FL15)
              | (have hfl := FL16.out
                 refine wpList_store_whole rfl 57 _ _ rfl rfl v14.heap.size rfl (Px.cells r) rfl _ _ XB.out rfl Try.infoPx (Px.one _) ?_
                 intro v16 b g z
                 have hsv16 : v15.heap.size ≤ v16.heap.size := by omega
                 have XB := hid (show BoxAt v16 v14.heap.size 57 (Px.cells r).toArray from b)
                 have PB := hid (PB.out.grown g (fun e => by have := Option.some.inj e; omega))
                 have RB := hid (RB.out.grown g (fun e => by have := Option.some.inj e; omega))
                 have HB := hid (HB.out.trans (grown_below g (by omega) (by omega)))
                 clear kPB4
                 have kPB4 : v16.cell? ⟨w.heap.size, 4, none⟩ = some (.slice (some ⟨b1, off, none⟩) c.pr.length cpp) := (BoxAt.cell PB.out 4).trans (by show some q.pr.val = _; rw [HPv.out])
                 have kXB0 : v16.cell? ⟨v14.heap.size, 0, none⟩ = some (.int .i64 r.st) := (BoxAt.cell XB.out 0).trans rfl
                 clear b g z hfl FL16)
              | (with_reducible refine wpList_dst 37 rfl ?_
                 refine wpList_load_box rfl 39 _ rfl w.heap.size rfl _ _ PB.out _ Try.underlying39 Try.infoPa ?_)
              | (have hfl := FL17.out
                 refine wpList_store_whole rfl 39 _ _ rfl rfl v13.heap.size rfl (PaV.cells q) rfl _ _ RB.out rfl Try.infoPa (PaV.one _) ?_
                 intro v17 b g z
                 have hsv17 : v16.heap.size ≤ v17.heap.size := by omega
                 have RB := hid (show BoxAt v17 v13.heap.size 39 (PaV.cells q).toArray from b)
                 have PB := hid (PB.out.grown g (fun e => by have := Option.some.inj e; omega))
                 have XB := hid (XB.out.grown g (fun e => by have := Option.some.inj e; omega))
                 have HB := hid (HB.out.trans (grown_below g (by omega) (by omega)))
                 clear kPB4
                 have kPB4 : v17.cell? ⟨w.heap.size, 4, none⟩ = some (.slice (some ⟨b1, off, none⟩) c.pr.length cpp) := (BoxAt.cell PB.out 4).trans (by show some q.pr.val = _; rw [HPv.out])
                 clear kXB0
                 have kXB0 : v17.cell? ⟨v14.heap.size, 0, none⟩ = some (.int .i64 r.st) := (BoxAt.cell XB.out 0).trans rfl
                 clear b g z hfl FL17)
              | fail)
            refine bodyPost_ret (results_box_tmp rfl _ _ (v13.heap.size) 39 _ (0, 0) _ rfl RB.out Try.underlying39 rfl Try.infoPa) rfl ?_
            rw [show delayP c (k : Int) ticks now = (c, 4) from by unfold delayP; rw [if_pos HT.out, if_pos (by rw [Int.toNat_natCast, HR.out]; exact HS.out)]]
            exact ⟨q, rfl, PaS.from HA0.out (H0.out.trans (HB.out.mono h0s)), HB.out⟩
          · have hs1 : r.st = 1 := Decidable.not_not.1 hst
            have t1 : (r.st != 1) = false := by simpa using hs1
            have HS := hid hs1
            clear hst hs1
            by_cases h2 : ticks = 0
            · subst h2
              obtain ⟨x1, hx1⟩ : ∃ x : Px, { r with si := c.nx } = x := ⟨_, rfl⟩
              have HX1 := hid hx1
              clear hx1
              have FL18 := hid trivial
              have FL19 := hid trivial
              have FL20 := hid trivial
              have FL21 := hid trivial
              have FL22 := hid trivial
              have FL23 := hid trivial
              go_wp2_with (first
                | (have hfl := FL18.out
                   refine wpList_box rfl 39 (.tmp 0) rfl (PaV.cells q).toArray rfl ?_
                   intro v18 b h z
                   have PB := hid (show BoxAt v18 w.heap.size 39 (PaV.cells q).toArray from b)
                   have HB := hid (HB.out.trans (h.mono HB.out.size))
                   have hsv18 : w.heap.size + 1 ≤ v18.heap.size := by omega
                   clear b h z hfl FL18)
                | (have hfl := FL19.out
                   refine wpList_new rfl 39 rfl _ Try.zeroPa ?_
                   intro v19 b h z
                   have RB := hid (show BoxAt v19 v18.heap.size 39 (PaV.cells PaV.zero).toArray from b)
                   have PB := hid (PB.out.belowAll h)
                   have HB := hid (HB.out.trans (h.mono HB.out.size))
                   have hsv19 : v18.heap.size + 1 ≤ v19.heap.size := by omega
                   have kPB4 : v19.cell? ⟨w.heap.size, 4, none⟩ = some (.slice (some ⟨b1, off, none⟩) c.pr.length cpp) := (BoxAt.cell PB.out 4).trans (by show some q.pr.val = _; rw [HPv.out])
                   have kPB2 : v19.cell? ⟨w.heap.size, 2, none⟩ = some (.int .i64 c.nx) := (BoxAt.cell PB.out 2).trans (by show some (Value.int .i64 q.nx) = _; rw [HNx.out])
                   clear b h z hfl FL19)
                | (refine wpList_load_px rfl _ rfl b1 (off + k * 18) rfl r (HP0.out.below HB.out hbw) ?_)
                | (have hfl := FL20.out
                   refine wpList_new rfl 57 rfl _ Try.zeroPx ?_
                   intro v20 b h z
                   have XB := hid (show BoxAt v20 v19.heap.size 57 (Px.cells Px.zero).toArray from b)
                   have PB := hid (PB.out.belowAll h)
                   have RB := hid (RB.out.belowAll h)
                   have HB := hid (HB.out.trans (h.mono HB.out.size))
                   have hsv20 : v19.heap.size + 1 ≤ v20.heap.size := by omega
                   clear kPB4
                   have kPB4 : v20.cell? ⟨w.heap.size, 4, none⟩ = some (.slice (some ⟨b1, off, none⟩) c.pr.length cpp) := (BoxAt.cell PB.out 4).trans (by show some q.pr.val = _; rw [HPv.out])
                   clear kPB2
                   have kPB2 : v20.cell? ⟨w.heap.size, 2, none⟩ = some (.int .i64 c.nx) := (BoxAt.cell PB.out 2).trans (by show some (Value.int .i64 q.nx) = _; rw [HNx.out])
                   clear b h z hfl FL20)
                | (have hfl := FL21.out
                   refine wpList_store_whole rfl 57 _ _ rfl rfl v19.heap.size rfl (Px.cells r) rfl _ _ XB.out rfl Try.infoPx (Px.one _) ?_
                   intro v21 b g z
                   have hsv21 : v20.heap.size ≤ v21.heap.size := by omega
                   have XB := hid (show BoxAt v21 v19.heap.size 57 (Px.cells r).toArray from b)
                   have PB := hid (PB.out.grown g (fun e => by have := Option.some.inj e; omega))
                   have RB := hid (RB.out.grown g (fun e => by have := Option.some.inj e; omega))
                   have HB := hid (HB.out.trans (grown_below g (by omega) (by omega)))
                   clear kPB4
                   have kPB4 : v21.cell? ⟨w.heap.size, 4, none⟩ = some (.slice (some ⟨b1, off, none⟩) c.pr.length cpp) := (BoxAt.cell PB.out 4).trans (by show some q.pr.val = _; rw [HPv.out])
                   clear kPB2
                   have kPB2 : v21.cell? ⟨w.heap.size, 2, none⟩ = some (.int .i64 c.nx) := (BoxAt.cell PB.out 2).trans (by show some (Value.int .i64 q.nx) = _; rw [HNx.out])
                   have kXB0 : v21.cell? ⟨v19.heap.size, 0, none⟩ = some (.int .i64 r.st) := (BoxAt.cell XB.out 0).trans rfl
                   clear b g z hfl FL21)
                | (have hfl := FL22.out
                   refine wpList_store_box rfl 3 _ _ rfl rfl v19.heap.size 8 (.int .i64 c.nx) rfl rfl rfl rfl (by kernel_rfl) _ _ XB.out (by simp [Px.cells]) ?_
                   intro v22 b g z
                   have hsv22 : v21.heap.size ≤ v22.heap.size := by omega
                   have XB := hid (show BoxAt v22 v19.heap.size 57 (Px.cells x1).toArray by rw [← HX1.out]; simpa [Px.cells] using b)
                   have PB := hid (PB.out.grown g (fun e => by have := Option.some.inj e; omega))
                   have RB := hid (RB.out.grown g (fun e => by have := Option.some.inj e; omega))
                   have HB := hid (HB.out.trans (grown_below g (by omega) (by omega)))
                   clear kPB4
                   have kPB4 : v22.cell? ⟨w.heap.size, 4, none⟩ = some (.slice (some ⟨b1, off, none⟩) c.pr.length cpp) := (BoxAt.cell PB.out 4).trans (by show some q.pr.val = _; rw [HPv.out])
                   clear kPB2
                   have kPB2 : v22.cell? ⟨w.heap.size, 2, none⟩ = some (.int .i64 c.nx) := (BoxAt.cell PB.out 2).trans (by show some (Value.int .i64 q.nx) = _; rw [HNx.out])
                   clear b g z hfl FL22)
                | (have hfl := FL23.out
                   refine wpList_store_box rfl 3 _ _ rfl rfl w.heap.size 2 (.int .i64 (wrap64 (c.nx + 1))) rfl rfl rfl rfl (by kernel_rfl) _ _ PB.out (by simp [PaV.cells]) ?_
                   intro v23 b g z
                   have hsv23 : v22.heap.size ≤ v23.heap.size := by omega
                   have PB := hid (show BoxAt v23 w.heap.size 39 (PaV.cells { q with nx := wrap64 (c.nx + 1) }).toArray by simpa [PaV.cells] using b)
                   have RB := hid (RB.out.grown g (fun e => by have := Option.some.inj e; omega))
                   have XB := hid (XB.out.grown g (fun e => by have := Option.some.inj e; omega))
                   have HB := hid (HB.out.trans (grown_below g (by omega) (by omega)))
                   clear b g z hfl FL23)
                | (with_reducible refine wpList_dst 47 rfl ?_
                   refine wpList_load_box rfl 39 _ rfl w.heap.size rfl _ _ PB.out _ Try.underlying39 Try.infoPa ?_)
                | (with_reducible refine wpList_dst 49 rfl ?_
                   refine wpList_load_box rfl 57 _ rfl v19.heap.size rfl _ _ XB.out _ Try.underlying57 Try.infoPx ?_)
                | fail)
              refine (rwith11_s (n := w0.heap.size) (c := { c with nx := wrap64 (c.nx + 1) }) k x1 (PaS.nx _ (PaS.from HA0.out (H0.out.trans (HB.out.mono h0s)))) (by omega) HSm.out.pr HK.out).mono ?_
              rintro e v24 ⟨q', rfl, ho, hb⟩
              have PB := hid (PB.out.belowAll hb)
              have RB := hid (RB.out.belowAll hb)
              have XB := hid (XB.out.belowAll hb)
              have HB := hid (HB.out.trans (hb.mono HB.out.size))
              have hsv24 : v23.heap.size ≤ v24.heap.size := hb.size
              have HO := hid ho
              clear ho
              clear hb
              have FL24 := hid trivial
              go_wp2_with (first
                | (have hfl := FL24.out
                   refine wpList_store_whole rfl 39 _ _ rfl rfl v18.heap.size rfl (PaV.cells q') rfl _ _ RB.out rfl Try.infoPa (PaV.one _) ?_
                   intro v25 b g z
                   have hsv25 : v24.heap.size ≤ v25.heap.size := by omega
                   have HO := hid (HO.out.put (by omega) (by omega) g RB.out b)
                   have RB := hid (show BoxAt v25 v18.heap.size 39 (PaV.cells q').toArray from b)
                   have PB := hid (PB.out.grown g (fun e => by have := Option.some.inj e; omega))
                   have XB := hid (XB.out.grown g (fun e => by have := Option.some.inj e; omega))
                   have HB := hid (HB.out.trans (grown_below g (by omega) (by omega)))
                   clear b g z hfl FL24)
                | fail)
              refine bodyPost_ret (results_box_tmp rfl _ _ (v18.heap.size) 39 _ (0, 0) _ rfl RB.out Try.underlying39 rfl Try.infoPa) rfl ?_
              rw [show delayP c (k : Int) 0 now = ({ c with pr := c.pr.set k x1, nx := wrap64 (c.nx + 1) }, 0) from by unfold delayP; rw [if_pos HT.out, Int.toNat_natCast, if_neg (by rw [HR.out, HS.out]; simp), if_pos rfl, HR.out, HX1.out]]
              exact ⟨q', rfl, HO.out, HB.out⟩
            · have t2 : (ticks == 0) = false := by simpa using h2
              have H2 := hid h2
              clear h2
              have FL25 := hid trivial
              have FL26 := hid trivial
              have FL27 := hid trivial
              have FL28 := hid trivial
              go_wp2_with (first
                | (have hfl := FL25.out
                   refine wpList_box rfl 39 (.tmp 0) rfl (PaV.cells q).toArray rfl ?_
                   intro v26 b h z
                   have PB := hid (show BoxAt v26 w.heap.size 39 (PaV.cells q).toArray from b)
                   have HB := hid (HB.out.trans (h.mono HB.out.size))
                   have hsv26 : w.heap.size + 1 ≤ v26.heap.size := by omega
                   clear b h z hfl FL25)
                | (have hfl := FL26.out
                   refine wpList_new rfl 39 rfl _ Try.zeroPa ?_
                   intro v27 b h z
                   have RB := hid (show BoxAt v27 v26.heap.size 39 (PaV.cells PaV.zero).toArray from b)
                   have PB := hid (PB.out.belowAll h)
                   have HB := hid (HB.out.trans (h.mono HB.out.size))
                   have hsv27 : v26.heap.size + 1 ≤ v27.heap.size := by omega
                   have kPB4 : v27.cell? ⟨w.heap.size, 4, none⟩ = some (.slice (some ⟨b1, off, none⟩) c.pr.length cpp) := (BoxAt.cell PB.out 4).trans (by show some q.pr.val = _; rw [HPv.out])
                   clear b h z hfl FL26)
                | (refine wpList_load_px rfl _ rfl b1 (off + k * 18) rfl r (HP0.out.below HB.out hbw) ?_)
                | (have hfl := FL27.out
                   refine wpList_new rfl 57 rfl _ Try.zeroPx ?_
                   intro v28 b h z
                   have XB := hid (show BoxAt v28 v27.heap.size 57 (Px.cells Px.zero).toArray from b)
                   have PB := hid (PB.out.belowAll h)
                   have RB := hid (RB.out.belowAll h)
                   have HB := hid (HB.out.trans (h.mono HB.out.size))
                   have hsv28 : v27.heap.size + 1 ≤ v28.heap.size := by omega
                   clear kPB4
                   have kPB4 : v28.cell? ⟨w.heap.size, 4, none⟩ = some (.slice (some ⟨b1, off, none⟩) c.pr.length cpp) := (BoxAt.cell PB.out 4).trans (by show some q.pr.val = _; rw [HPv.out])
                   clear b h z hfl FL27)
                | (have hfl := FL28.out
                   refine wpList_store_whole rfl 57 _ _ rfl rfl v27.heap.size rfl (Px.cells r) rfl _ _ XB.out rfl Try.infoPx (Px.one _) ?_
                   intro v29 b g z
                   have hsv29 : v28.heap.size ≤ v29.heap.size := by omega
                   have XB := hid (show BoxAt v29 v27.heap.size 57 (Px.cells r).toArray from b)
                   have PB := hid (PB.out.grown g (fun e => by have := Option.some.inj e; omega))
                   have RB := hid (RB.out.grown g (fun e => by have := Option.some.inj e; omega))
                   have HB := hid (HB.out.trans (grown_below g (by omega) (by omega)))
                   clear kPB4
                   have kPB4 : v29.cell? ⟨w.heap.size, 4, none⟩ = some (.slice (some ⟨b1, off, none⟩) c.pr.length cpp) := (BoxAt.cell PB.out 4).trans (by show some q.pr.val = _; rw [HPv.out])
                   have kXB0 : v29.cell? ⟨v27.heap.size, 0, none⟩ = some (.int .i64 r.st) := (BoxAt.cell XB.out 0).trans rfl
                   clear b g z hfl FL28)
                | (with_reducible refine wpList_dst 51 rfl ?_
                   refine wpList_load_box rfl 39 _ rfl w.heap.size rfl _ _ PB.out _ Try.underlying39 Try.infoPa ?_)
                | fail)
              refine (rblock_any (i := (k : Int)) (ki := 1) (ob := 0) (un := wrap64 (now + ticks)) (ca := 7) HA0.out (H0.out.trans (HB.out.mono h0s)) HSm.out).mono ?_
              rintro e v30 ⟨q', rfl, ho, hb⟩
              have PB := hid (PB.out.belowAll hb)
              have RB := hid (RB.out.belowAll hb)
              have XB := hid (XB.out.belowAll hb)
              have HB := hid (HB.out.trans (hb.mono HB.out.size))
              have hsv30 : v29.heap.size ≤ v30.heap.size := hb.size
              have HO := hid ho
              clear ho
              clear hb
              have FL29 := hid trivial
              go_wp2_with (first
                | (have hfl := FL29.out
                   refine wpList_store_whole rfl 39 _ _ rfl rfl v26.heap.size rfl (PaV.cells q') rfl _ _ RB.out rfl Try.infoPa (PaV.one _) ?_
                   intro v31 b g z
                   have hsv31 : v30.heap.size ≤ v31.heap.size := by omega
                   have HO := hid (HO.out.put (by omega) (by omega) g RB.out b)
                   have RB := hid (show BoxAt v31 v26.heap.size 39 (PaV.cells q').toArray from b)
                   have PB := hid (PB.out.grown g (fun e => by have := Option.some.inj e; omega))
                   have XB := hid (XB.out.grown g (fun e => by have := Option.some.inj e; omega))
                   have HB := hid (HB.out.trans (grown_below g (by omega) (by omega)))
                   clear b g z hfl FL29)
                | fail)
              refine bodyPost_ret (results_box_tmp rfl _ _ (v26.heap.size) 39 _ (0, 0) _ rfl RB.out Try.underlying39 rfl Try.infoPa) rfl ?_
              rw [show delayP c (k : Int) ticks now = (blockP c (k : Int) 1 0 (wrap64 (now + ticks)) 7, 6) from by unfold delayP; rw [if_pos HT.out, Int.toNat_natCast, if_neg (by rw [HR.out, HS.out]; simp), if_neg H2.out]]
              exact ⟨q', rfl, HO.out, HB.out⟩

set_option maxRecDepth 100000 in
set_option maxHeartbeats 6400000 in
theorem rrepl_any {qc : Pv} {cc : Pt} {q : PaV} {c : Pa} {w0 w : World} {i ticks now : Int} (hc : PtAt w0 qc cc) (ha : PaAt w0 q c) (h0 : Below w0.heap.size w0 w) (hsm : c.small) :
    Calls Try.prog 22 #[qc.val, q.val, .int .i64 i, .int .i64 ticks, .int .i64 now] w fun e w' => ∃ q', e = .returned (.tuple #[PaV.val q', .int .i64 (replP cc c i ticks now).2]) ∧ PaS w0.heap.size w' q' (replP cc c i ticks now).1 ∧ Below w.heap.size w w' := by
  have HA0 := hid ha
  have HA := hid (ha.below h0)
  have H0 := hid h0
  have h0s : w0.heap.size ≤ w.heap.size := h0.size
  have HSm := hid hsm
  have HB := hid (Below.refl w.heap.size w)
  obtain ⟨ap, cpp, hpv, hp1, hp2, hpcell⟩ := HA.out.pr.form
  have hmax : cpp ≤ 9223372036854775807 := hp2
  have HPv := hid hpv
  have HPc := hid hpcell
  clear ha h0 hsm hpv hp2 hpcell
  obtain ⟨ac, cpc, hcv, hc1, hc2, hccell⟩ := (hc.below H0.out).pc.form
  have hmaxc : cpc ≤ 9223372036854775807 := hc2
  have HCv := hid hcv
  have HCc := hid hccell
  clear hc hcv hc2 hccell
  go_enter Try.func22, Try.ntmps22
  have hNI := HSm.out.pr
  by_cases hp5 : i < 0
  · have d5 : decide (i < 0) = true := decide_eq_true hp5
    have HH := hid hp5
    have FL1 := hid trivial
    have FL2 := hid trivial
    have FL3 := hid trivial
    have FL4 := hid trivial
    go_wp2_with (first
      | (have hfl := FL1.out
         refine wpList_box rfl 28 (.tmp 0) rfl (Pv.cells qc).toArray rfl ?_
         intro v1 b h z
         have CB := hid (show BoxAt v1 w.heap.size 28 (Pv.cells qc).toArray from b)
         have HB := hid (HB.out.trans (h.mono HB.out.size))
         have hsv1 : w.heap.size + 1 ≤ v1.heap.size := by omega
         clear b h z hfl FL1)
      | (have hfl := FL2.out
         refine wpList_box rfl 39 (.tmp 1) rfl (PaV.cells q).toArray rfl ?_
         intro v2 b h z
         have PB := hid (show BoxAt v2 v1.heap.size 39 (PaV.cells q).toArray from b)
         have CB := hid (CB.out.belowAll h)
         have HB := hid (HB.out.trans (h.mono HB.out.size))
         have hsv2 : v1.heap.size + 1 ≤ v2.heap.size := by omega
         clear b h z hfl FL2)
      | (have hfl := FL3.out
         refine wpList_new rfl 39 rfl _ Try.zeroPa ?_
         intro v3 b h z
         have RB := hid (show BoxAt v3 v2.heap.size 39 (PaV.cells PaV.zero).toArray from b)
         have CB := hid (CB.out.belowAll h)
         have PB := hid (PB.out.belowAll h)
         have HB := hid (HB.out.trans (h.mono HB.out.size))
         have hsv3 : v2.heap.size + 1 ≤ v3.heap.size := by omega
         have kCB2 : v3.cell? ⟨w.heap.size, 2, none⟩ = some (.slice ac cc.pc.length cpc) := (BoxAt.cell CB.out 2).trans (by show some qc.v2.val = _; rw [HCv.out])
         have kPB4 : v3.cell? ⟨v1.heap.size, 4, none⟩ = some (.slice ap c.pr.length cpp) := (BoxAt.cell PB.out 4).trans (by show some q.pr.val = _; rw [HPv.out])
         clear b h z hfl FL3)
      | (with_reducible refine wpList_dst 37 rfl ?_
         refine wpList_load_box rfl 39 _ rfl v1.heap.size rfl _ _ PB.out _ Try.underlying39 Try.infoPa ?_)
      | (have hfl := FL4.out
         refine wpList_store_whole rfl 39 _ _ rfl rfl v2.heap.size rfl (PaV.cells q) rfl _ _ RB.out rfl Try.infoPa (PaV.one _) ?_
         intro v4 b g z
         have hsv4 : v3.heap.size ≤ v4.heap.size := by omega
         have RB := hid (show BoxAt v4 v2.heap.size 39 (PaV.cells q).toArray from b)
         have CB := hid (CB.out.grown g (fun e => by have := Option.some.inj e; omega))
         have PB := hid (PB.out.grown g (fun e => by have := Option.some.inj e; omega))
         have HB := hid (HB.out.trans (grown_below g (by omega) (by omega)))
         clear kCB2
         have kCB2 : v4.cell? ⟨w.heap.size, 2, none⟩ = some (.slice ac cc.pc.length cpc) := (BoxAt.cell CB.out 2).trans (by show some qc.v2.val = _; rw [HCv.out])
         clear kPB4
         have kPB4 : v4.cell? ⟨v1.heap.size, 4, none⟩ = some (.slice ap c.pr.length cpp) := (BoxAt.cell PB.out 4).trans (by show some q.pr.val = _; rw [HPv.out])
         clear b g z hfl FL4)
      | fail)
    refine bodyPost_ret (results_box_tmp rfl _ _ (v2.heap.size) 39 _ (0, 0) _ rfl RB.out Try.underlying39 rfl Try.infoPa) rfl ?_
    rw [show replP cc c i ticks now = (c, 3) from by unfold replP; rw [if_neg (fun h => by have := HH.out; omega)]]
    exact ⟨q, rfl, PaS.from HA0.out (H0.out.trans (HB.out.mono h0s)), HB.out⟩
  · have d5 : decide (i < 0) = false := decide_eq_false hp5
    by_cases hp4 : (c.pr.length : Int) ≤ i
    · have d4 : decide ((c.pr.length : Int) ≤ i) = true := decide_eq_true hp4
      have HH := hid hp4
      have FL5 := hid trivial
      have FL6 := hid trivial
      have FL7 := hid trivial
      have FL8 := hid trivial
      go_wp2_with (first
        | (have hfl := FL5.out
           refine wpList_box rfl 28 (.tmp 0) rfl (Pv.cells qc).toArray rfl ?_
           intro v5 b h z
           have CB := hid (show BoxAt v5 w.heap.size 28 (Pv.cells qc).toArray from b)
           have HB := hid (HB.out.trans (h.mono HB.out.size))
           have hsv5 : w.heap.size + 1 ≤ v5.heap.size := by omega
           clear b h z hfl FL5)
        | (have hfl := FL6.out
           refine wpList_box rfl 39 (.tmp 1) rfl (PaV.cells q).toArray rfl ?_
           intro v6 b h z
           have PB := hid (show BoxAt v6 v5.heap.size 39 (PaV.cells q).toArray from b)
           have CB := hid (CB.out.belowAll h)
           have HB := hid (HB.out.trans (h.mono HB.out.size))
           have hsv6 : v5.heap.size + 1 ≤ v6.heap.size := by omega
           clear b h z hfl FL6)
        | (have hfl := FL7.out
           refine wpList_new rfl 39 rfl _ Try.zeroPa ?_
           intro v7 b h z
           have RB := hid (show BoxAt v7 v6.heap.size 39 (PaV.cells PaV.zero).toArray from b)
           have CB := hid (CB.out.belowAll h)
           have PB := hid (PB.out.belowAll h)
           have HB := hid (HB.out.trans (h.mono HB.out.size))
           have hsv7 : v6.heap.size + 1 ≤ v7.heap.size := by omega
           have kCB2 : v7.cell? ⟨w.heap.size, 2, none⟩ = some (.slice ac cc.pc.length cpc) := (BoxAt.cell CB.out 2).trans (by show some qc.v2.val = _; rw [HCv.out])
           have kPB4 : v7.cell? ⟨v5.heap.size, 4, none⟩ = some (.slice ap c.pr.length cpp) := (BoxAt.cell PB.out 4).trans (by show some q.pr.val = _; rw [HPv.out])
           clear b h z hfl FL7)
        | (with_reducible refine wpList_dst 37 rfl ?_
           refine wpList_load_box rfl 39 _ rfl v5.heap.size rfl _ _ PB.out _ Try.underlying39 Try.infoPa ?_)
        | (have hfl := FL8.out
           refine wpList_store_whole rfl 39 _ _ rfl rfl v6.heap.size rfl (PaV.cells q) rfl _ _ RB.out rfl Try.infoPa (PaV.one _) ?_
           intro v8 b g z
           have hsv8 : v7.heap.size ≤ v8.heap.size := by omega
           have RB := hid (show BoxAt v8 v6.heap.size 39 (PaV.cells q).toArray from b)
           have CB := hid (CB.out.grown g (fun e => by have := Option.some.inj e; omega))
           have PB := hid (PB.out.grown g (fun e => by have := Option.some.inj e; omega))
           have HB := hid (HB.out.trans (grown_below g (by omega) (by omega)))
           clear kCB2
           have kCB2 : v8.cell? ⟨w.heap.size, 2, none⟩ = some (.slice ac cc.pc.length cpc) := (BoxAt.cell CB.out 2).trans (by show some qc.v2.val = _; rw [HCv.out])
           clear kPB4
           have kPB4 : v8.cell? ⟨v5.heap.size, 4, none⟩ = some (.slice ap c.pr.length cpp) := (BoxAt.cell PB.out 4).trans (by show some q.pr.val = _; rw [HPv.out])
           clear b g z hfl FL8)
        | fail)
      refine bodyPost_ret (results_box_tmp rfl _ _ (v6.heap.size) 39 _ (0, 0) _ rfl RB.out Try.underlying39 rfl Try.infoPa) rfl ?_
      rw [show replP cc c i ticks now = (c, 3) from by unfold replP; rw [if_neg (fun h => by have := HH.out; omega)]]
      exact ⟨q, rfl, PaS.from HA0.out (H0.out.trans (HB.out.mono h0s)), HB.out⟩
    · have d4 : decide ((c.pr.length : Int) ≤ i) = false := decide_eq_false hp4
      by_cases hp3 : (cc.pc.length : Int) ≤ i
      · have d3 : decide ((cc.pc.length : Int) ≤ i) = true := decide_eq_true hp3
        have HH := hid hp3
        have FL9 := hid trivial
        have FL10 := hid trivial
        have FL11 := hid trivial
        have FL12 := hid trivial
        go_wp2_with (first
          | (have hfl := FL9.out
             refine wpList_box rfl 28 (.tmp 0) rfl (Pv.cells qc).toArray rfl ?_
             intro v9 b h z
             have CB := hid (show BoxAt v9 w.heap.size 28 (Pv.cells qc).toArray from b)
             have HB := hid (HB.out.trans (h.mono HB.out.size))
             have hsv9 : w.heap.size + 1 ≤ v9.heap.size := by omega
             clear b h z hfl FL9)
          | (have hfl := FL10.out
             refine wpList_box rfl 39 (.tmp 1) rfl (PaV.cells q).toArray rfl ?_
             intro v10 b h z
             have PB := hid (show BoxAt v10 v9.heap.size 39 (PaV.cells q).toArray from b)
             have CB := hid (CB.out.belowAll h)
             have HB := hid (HB.out.trans (h.mono HB.out.size))
             have hsv10 : v9.heap.size + 1 ≤ v10.heap.size := by omega
             clear b h z hfl FL10)
          | (have hfl := FL11.out
             refine wpList_new rfl 39 rfl _ Try.zeroPa ?_
             intro v11 b h z
             have RB := hid (show BoxAt v11 v10.heap.size 39 (PaV.cells PaV.zero).toArray from b)
             have CB := hid (CB.out.belowAll h)
             have PB := hid (PB.out.belowAll h)
             have HB := hid (HB.out.trans (h.mono HB.out.size))
             have hsv11 : v10.heap.size + 1 ≤ v11.heap.size := by omega
             have kCB2 : v11.cell? ⟨w.heap.size, 2, none⟩ = some (.slice ac cc.pc.length cpc) := (BoxAt.cell CB.out 2).trans (by show some qc.v2.val = _; rw [HCv.out])
             have kPB4 : v11.cell? ⟨v9.heap.size, 4, none⟩ = some (.slice ap c.pr.length cpp) := (BoxAt.cell PB.out 4).trans (by show some q.pr.val = _; rw [HPv.out])
             clear b h z hfl FL11)
          | (with_reducible refine wpList_dst 37 rfl ?_
             refine wpList_load_box rfl 39 _ rfl v9.heap.size rfl _ _ PB.out _ Try.underlying39 Try.infoPa ?_)
          | (have hfl := FL12.out
             refine wpList_store_whole rfl 39 _ _ rfl rfl v10.heap.size rfl (PaV.cells q) rfl _ _ RB.out rfl Try.infoPa (PaV.one _) ?_
             intro v12 b g z
             have hsv12 : v11.heap.size ≤ v12.heap.size := by omega
             have RB := hid (show BoxAt v12 v10.heap.size 39 (PaV.cells q).toArray from b)
             have CB := hid (CB.out.grown g (fun e => by have := Option.some.inj e; omega))
             have PB := hid (PB.out.grown g (fun e => by have := Option.some.inj e; omega))
             have HB := hid (HB.out.trans (grown_below g (by omega) (by omega)))
             clear kCB2
             have kCB2 : v12.cell? ⟨w.heap.size, 2, none⟩ = some (.slice ac cc.pc.length cpc) := (BoxAt.cell CB.out 2).trans (by show some qc.v2.val = _; rw [HCv.out])
             clear kPB4
             have kPB4 : v12.cell? ⟨v9.heap.size, 4, none⟩ = some (.slice ap c.pr.length cpp) := (BoxAt.cell PB.out 4).trans (by show some q.pr.val = _; rw [HPv.out])
             clear b g z hfl FL12)
          | fail)
        refine bodyPost_ret (results_box_tmp rfl _ _ (v10.heap.size) 39 _ (0, 0) _ rfl RB.out Try.underlying39 rfl Try.infoPa) rfl ?_
        rw [show replP cc c i ticks now = (c, 3) from by unfold replP; rw [if_neg (fun h => by have := HH.out; omega)]]
        exact ⟨q, rfl, PaS.from HA0.out (H0.out.trans (HB.out.mono h0s)), HB.out⟩
      · have d3 : decide ((cc.pc.length : Int) ≤ i) = false := decide_eq_false hp3
        by_cases hp2 : ticks < 1
        · have d2 : decide (ticks < 1) = true := decide_eq_true hp2
          have HH := hid hp2
          have FL13 := hid trivial
          have FL14 := hid trivial
          have FL15 := hid trivial
          have FL16 := hid trivial
          go_wp2_with (first
            | (have hfl := FL13.out
               refine wpList_box rfl 28 (.tmp 0) rfl (Pv.cells qc).toArray rfl ?_
               intro v13 b h z
               have CB := hid (show BoxAt v13 w.heap.size 28 (Pv.cells qc).toArray from b)
               have HB := hid (HB.out.trans (h.mono HB.out.size))
               have hsv13 : w.heap.size + 1 ≤ v13.heap.size := by omega
               clear b h z hfl FL13)
            | (have hfl := FL14.out
               refine wpList_box rfl 39 (.tmp 1) rfl (PaV.cells q).toArray rfl ?_
               intro v14 b h z
               have PB := hid (show BoxAt v14 v13.heap.size 39 (PaV.cells q).toArray from b)
               have CB := hid (CB.out.belowAll h)
               have HB := hid (HB.out.trans (h.mono HB.out.size))
               have hsv14 : v13.heap.size + 1 ≤ v14.heap.size := by omega
               clear b h z hfl FL14)
            | (have hfl := FL15.out
               refine wpList_new rfl 39 rfl _ Try.zeroPa ?_
               intro v15 b h z
               have RB := hid (show BoxAt v15 v14.heap.size 39 (PaV.cells PaV.zero).toArray from b)
               have CB := hid (CB.out.belowAll h)
               have PB := hid (PB.out.belowAll h)
               have HB := hid (HB.out.trans (h.mono HB.out.size))
               have hsv15 : v14.heap.size + 1 ≤ v15.heap.size := by omega
               have kCB2 : v15.cell? ⟨w.heap.size, 2, none⟩ = some (.slice ac cc.pc.length cpc) := (BoxAt.cell CB.out 2).trans (by show some qc.v2.val = _; rw [HCv.out])
               have kPB4 : v15.cell? ⟨v13.heap.size, 4, none⟩ = some (.slice ap c.pr.length cpp) := (BoxAt.cell PB.out 4).trans (by show some q.pr.val = _; rw [HPv.out])
               clear b h z hfl FL15)
            | (with_reducible refine wpList_dst 37 rfl ?_
               refine wpList_load_box rfl 39 _ rfl v13.heap.size rfl _ _ PB.out _ Try.underlying39 Try.infoPa ?_)
            | (have hfl := FL16.out
               refine wpList_store_whole rfl 39 _ _ rfl rfl v14.heap.size rfl (PaV.cells q) rfl _ _ RB.out rfl Try.infoPa (PaV.one _) ?_
               intro v16 b g z
               have hsv16 : v15.heap.size ≤ v16.heap.size := by omega
               have RB := hid (show BoxAt v16 v14.heap.size 39 (PaV.cells q).toArray from b)
               have CB := hid (CB.out.grown g (fun e => by have := Option.some.inj e; omega))
               have PB := hid (PB.out.grown g (fun e => by have := Option.some.inj e; omega))
               have HB := hid (HB.out.trans (grown_below g (by omega) (by omega)))
               clear kCB2
               have kCB2 : v16.cell? ⟨w.heap.size, 2, none⟩ = some (.slice ac cc.pc.length cpc) := (BoxAt.cell CB.out 2).trans (by show some qc.v2.val = _; rw [HCv.out])
               clear kPB4
               have kPB4 : v16.cell? ⟨v13.heap.size, 4, none⟩ = some (.slice ap c.pr.length cpp) := (BoxAt.cell PB.out 4).trans (by show some q.pr.val = _; rw [HPv.out])
               clear b g z hfl FL16)
            | fail)
          refine bodyPost_ret (results_box_tmp rfl _ _ (v14.heap.size) 39 _ (0, 0) _ rfl RB.out Try.underlying39 rfl Try.infoPa) rfl ?_
          rw [show replP cc c i ticks now = (c, 3) from by unfold replP; rw [if_neg (fun h => by have := HH.out; omega)]]
          exact ⟨q, rfl, PaS.from HA0.out (H0.out.trans (HB.out.mono h0s)), HB.out⟩
        · have d2 : decide (ticks < 1) = false := decide_eq_false hp2
          by_cases hp1 : 4096 < ticks
          · have d1 : decide (4096 < ticks) = true := decide_eq_true hp1
            have HH := hid hp1
            have FL17 := hid trivial
            have FL18 := hid trivial
            have FL19 := hid trivial
            have FL20 := hid trivial
            go_wp2_with (first
              | (have hfl := FL17.out
                 refine wpList_box rfl 28 (.tmp 0) rfl (Pv.cells qc).toArray rfl ?_
                 intro v17 b h z
                 have CB := hid (show BoxAt v17 w.heap.size 28 (Pv.cells qc).toArray from b)
                 have HB := hid (HB.out.trans (h.mono HB.out.size))
                 have hsv17 : w.heap.size + 1 ≤ v17.heap.size := by omega
                 clear b h z hfl FL17)
              | (have hfl := FL18.out
                 refine wpList_box rfl 39 (.tmp 1) rfl (PaV.cells q).toArray rfl ?_
                 intro v18 b h z
                 have PB := hid (show BoxAt v18 v17.heap.size 39 (PaV.cells q).toArray from b)
                 have CB := hid (CB.out.belowAll h)
                 have HB := hid (HB.out.trans (h.mono HB.out.size))
                 have hsv18 : v17.heap.size + 1 ≤ v18.heap.size := by omega
                 clear b h z hfl FL18)
              | (have hfl := FL19.out
                 refine wpList_new rfl 39 rfl _ Try.zeroPa ?_
                 intro v19 b h z
                 have RB := hid (show BoxAt v19 v18.heap.size 39 (PaV.cells PaV.zero).toArray from b)
                 have CB := hid (CB.out.belowAll h)
                 have PB := hid (PB.out.belowAll h)
                 have HB := hid (HB.out.trans (h.mono HB.out.size))
                 have hsv19 : v18.heap.size + 1 ≤ v19.heap.size := by omega
                 have kCB2 : v19.cell? ⟨w.heap.size, 2, none⟩ = some (.slice ac cc.pc.length cpc) := (BoxAt.cell CB.out 2).trans (by show some qc.v2.val = _; rw [HCv.out])
                 have kPB4 : v19.cell? ⟨v17.heap.size, 4, none⟩ = some (.slice ap c.pr.length cpp) := (BoxAt.cell PB.out 4).trans (by show some q.pr.val = _; rw [HPv.out])
                 clear b h z hfl FL19)
              | (with_reducible refine wpList_dst 37 rfl ?_
                 refine wpList_load_box rfl 39 _ rfl v17.heap.size rfl _ _ PB.out _ Try.underlying39 Try.infoPa ?_)
              | (have hfl := FL20.out
                 refine wpList_store_whole rfl 39 _ _ rfl rfl v18.heap.size rfl (PaV.cells q) rfl _ _ RB.out rfl Try.infoPa (PaV.one _) ?_
                 intro v20 b g z
                 have hsv20 : v19.heap.size ≤ v20.heap.size := by omega
                 have RB := hid (show BoxAt v20 v18.heap.size 39 (PaV.cells q).toArray from b)
                 have CB := hid (CB.out.grown g (fun e => by have := Option.some.inj e; omega))
                 have PB := hid (PB.out.grown g (fun e => by have := Option.some.inj e; omega))
                 have HB := hid (HB.out.trans (grown_below g (by omega) (by omega)))
                 clear kCB2
                 have kCB2 : v20.cell? ⟨w.heap.size, 2, none⟩ = some (.slice ac cc.pc.length cpc) := (BoxAt.cell CB.out 2).trans (by show some qc.v2.val = _; rw [HCv.out])
                 clear kPB4
                 have kPB4 : v20.cell? ⟨v17.heap.size, 4, none⟩ = some (.slice ap c.pr.length cpp) := (BoxAt.cell PB.out 4).trans (by show some q.pr.val = _; rw [HPv.out])
                 clear b g z hfl FL20)
              | fail)
            refine bodyPost_ret (results_box_tmp rfl _ _ (v18.heap.size) 39 _ (0, 0) _ rfl RB.out Try.underlying39 rfl Try.infoPa) rfl ?_
            rw [show replP cc c i ticks now = (c, 3) from by unfold replP; rw [if_neg (fun h => by have := HH.out; omega)]]
            exact ⟨q, rfl, PaS.from HA0.out (H0.out.trans (HB.out.mono h0s)), HB.out⟩
          · have d1 : decide (4096 < ticks) = false := decide_eq_false hp1
            obtain ⟨k, hki⟩ : ∃ k : Nat, i = (k : Int) := ⟨i.toNat, by omega⟩
            subst hki
            have hk : k < c.pr.length := by omega
            have hkc : k < cc.pc.length := by omega
            have HT := hid (show 0 ≤ (k : Int) ∧ (k : Int) < c.pr.length ∧ (k : Int) < cc.pc.length ∧ 1 ≤ ticks ∧ ticks ≤ 4096 by omega)
            have hkI : (k : Int) < (c.pr.length : Int) := by omega
            have hkM : (k : Int) < (cc.pc.length : Int) := by omega
            obtain ⟨b1, off, hap, hbw, hpx⟩ := HPc.out (by omega)
            subst hap
            have HP0 := hid (show PxAt w b1 (off + k * 18) (c.pr.getD k Px.zero) from fun j hj => hpx k hk j hj)
            clear hpx
            obtain ⟨r, hr⟩ : ∃ r, c.pr.getD k Px.zero = r := ⟨_, rfl⟩
            rw [hr] at HP0
            have HR := hid hr
            have HK := hid hk
            clear hr hk
            obtain ⟨b2, of2, hac, hcw, hccell⟩ := HCc.out (by omega)
            subst hac
            obtain ⟨f, hf⟩ : ∃ f, cc.pc.getD k Pc.zero = f := ⟨_, rfl⟩
            have HFc := hid (show w.cell? ⟨b2, of2 + k * 5 + 2, none⟩ = some (.int .i64 f.li) from by rw [← hf]; exact hccell k hkc 2 (by decide))
            have HF := hid hf
            clear hf hccell HCc hkc
            by_cases hl : f.li = 0
            · have t1 : (f.li == 0) = true := by simpa using hl
              have HL := hid hl
              clear hl
              have FL21 := hid trivial
              have FL22 := hid trivial
              have FL23 := hid trivial
              have FL24 := hid trivial
              have FL25 := hid trivial
              have FL26 := hid trivial
              go_wp2_with (first
                | (have hfl := FL21.out
                   refine wpList_box rfl 28 (.tmp 0) rfl (Pv.cells qc).toArray rfl ?_
                   intro v21 b h z
                   have CB := hid (show BoxAt v21 w.heap.size 28 (Pv.cells qc).toArray from b)
                   have HB := hid (HB.out.trans (h.mono HB.out.size))
                   have hsv21 : w.heap.size + 1 ≤ v21.heap.size := by omega
                   have kL : v21.cell? ⟨b2, of2 + k * 5 + 2, none⟩ = some (.int .i64 f.li) := (HB.out.cell (p := ⟨b2, of2 + k * 5 + 2, none⟩) hcw).trans HFc.out
                   clear b h z hfl FL21)
                | (have hfl := FL22.out
                   refine wpList_box rfl 39 (.tmp 1) rfl (PaV.cells q).toArray rfl ?_
                   intro v22 b h z
                   have PB := hid (show BoxAt v22 v21.heap.size 39 (PaV.cells q).toArray from b)
                   have CB := hid (CB.out.belowAll h)
                   have HB := hid (HB.out.trans (h.mono HB.out.size))
                   have hsv22 : v21.heap.size + 1 ≤ v22.heap.size := by omega
                   clear kL
                   have kL : v22.cell? ⟨b2, of2 + k * 5 + 2, none⟩ = some (.int .i64 f.li) := (HB.out.cell (p := ⟨b2, of2 + k * 5 + 2, none⟩) hcw).trans HFc.out
                   clear b h z hfl FL22)
                | (have hfl := FL23.out
                   refine wpList_new rfl 39 rfl _ Try.zeroPa ?_
                   intro v23 b h z
                   have RB := hid (show BoxAt v23 v22.heap.size 39 (PaV.cells PaV.zero).toArray from b)
                   have CB := hid (CB.out.belowAll h)
                   have PB := hid (PB.out.belowAll h)
                   have HB := hid (HB.out.trans (h.mono HB.out.size))
                   have hsv23 : v22.heap.size + 1 ≤ v23.heap.size := by omega
                   have kCB2 : v23.cell? ⟨w.heap.size, 2, none⟩ = some (.slice (some ⟨b2, of2, none⟩) cc.pc.length cpc) := (BoxAt.cell CB.out 2).trans (by show some qc.v2.val = _; rw [HCv.out])
                   have kPB4 : v23.cell? ⟨v21.heap.size, 4, none⟩ = some (.slice (some ⟨b1, off, none⟩) c.pr.length cpp) := (BoxAt.cell PB.out 4).trans (by show some q.pr.val = _; rw [HPv.out])
                   clear kL
                   have kL : v23.cell? ⟨b2, of2 + k * 5 + 2, none⟩ = some (.int .i64 f.li) := (HB.out.cell (p := ⟨b2, of2 + k * 5 + 2, none⟩) hcw).trans HFc.out
                   clear b h z hfl FL23)
                | (refine wpList_load_px rfl _ rfl b1 (off + k * 18) rfl r (HP0.out.below HB.out hbw) ?_)
                | (have hfl := FL24.out
                   refine wpList_new rfl 57 rfl _ Try.zeroPx ?_
                   intro v24 b h z
                   have XB := hid (show BoxAt v24 v23.heap.size 57 (Px.cells Px.zero).toArray from b)
                   have CB := hid (CB.out.belowAll h)
                   have PB := hid (PB.out.belowAll h)
                   have RB := hid (RB.out.belowAll h)
                   have HB := hid (HB.out.trans (h.mono HB.out.size))
                   have hsv24 : v23.heap.size + 1 ≤ v24.heap.size := by omega
                   clear kCB2
                   have kCB2 : v24.cell? ⟨w.heap.size, 2, none⟩ = some (.slice (some ⟨b2, of2, none⟩) cc.pc.length cpc) := (BoxAt.cell CB.out 2).trans (by show some qc.v2.val = _; rw [HCv.out])
                   clear kPB4
                   have kPB4 : v24.cell? ⟨v21.heap.size, 4, none⟩ = some (.slice (some ⟨b1, off, none⟩) c.pr.length cpp) := (BoxAt.cell PB.out 4).trans (by show some q.pr.val = _; rw [HPv.out])
                   clear kL
                   have kL : v24.cell? ⟨b2, of2 + k * 5 + 2, none⟩ = some (.int .i64 f.li) := (HB.out.cell (p := ⟨b2, of2 + k * 5 + 2, none⟩) hcw).trans HFc.out
                   clear b h z hfl FL24)
                | (have hfl := FL25.out
                   refine wpList_store_whole rfl 57 _ _ rfl rfl v23.heap.size rfl (Px.cells r) rfl _ _ XB.out rfl Try.infoPx (Px.one _) ?_
                   intro v25 b g z
                   have hsv25 : v24.heap.size ≤ v25.heap.size := by omega
                   have XB := hid (show BoxAt v25 v23.heap.size 57 (Px.cells r).toArray from b)
                   have CB := hid (CB.out.grown g (fun e => by have := Option.some.inj e; omega))
                   have PB := hid (PB.out.grown g (fun e => by have := Option.some.inj e; omega))
                   have RB := hid (RB.out.grown g (fun e => by have := Option.some.inj e; omega))
                   have HB := hid (HB.out.trans (grown_below g (by omega) (by omega)))
                   clear kCB2
                   have kCB2 : v25.cell? ⟨w.heap.size, 2, none⟩ = some (.slice (some ⟨b2, of2, none⟩) cc.pc.length cpc) := (BoxAt.cell CB.out 2).trans (by show some qc.v2.val = _; rw [HCv.out])
                   clear kPB4
                   have kPB4 : v25.cell? ⟨v21.heap.size, 4, none⟩ = some (.slice (some ⟨b1, off, none⟩) c.pr.length cpp) := (BoxAt.cell PB.out 4).trans (by show some q.pr.val = _; rw [HPv.out])
                   have kXB0 : v25.cell? ⟨v23.heap.size, 0, none⟩ = some (.int .i64 r.st) := (BoxAt.cell XB.out 0).trans rfl
                   clear kL
                   have kL : v25.cell? ⟨b2, of2 + k * 5 + 2, none⟩ = some (.int .i64 f.li) := (HB.out.cell (p := ⟨b2, of2 + k * 5 + 2, none⟩) hcw).trans HFc.out
                   clear b g z hfl FL25)
                | (with_reducible refine wpList_dst 55 rfl ?_
                   refine wpList_load_box rfl 39 _ rfl v21.heap.size rfl _ _ PB.out _ Try.underlying39 Try.infoPa ?_)
                | (have hfl := FL26.out
                   refine wpList_store_whole rfl 39 _ _ rfl rfl v22.heap.size rfl (PaV.cells q) rfl _ _ RB.out rfl Try.infoPa (PaV.one _) ?_
                   intro v26 b g z
                   have hsv26 : v25.heap.size ≤ v26.heap.size := by omega
                   have RB := hid (show BoxAt v26 v22.heap.size 39 (PaV.cells q).toArray from b)
                   have CB := hid (CB.out.grown g (fun e => by have := Option.some.inj e; omega))
                   have PB := hid (PB.out.grown g (fun e => by have := Option.some.inj e; omega))
                   have XB := hid (XB.out.grown g (fun e => by have := Option.some.inj e; omega))
                   have HB := hid (HB.out.trans (grown_below g (by omega) (by omega)))
                   clear kCB2
                   have kCB2 : v26.cell? ⟨w.heap.size, 2, none⟩ = some (.slice (some ⟨b2, of2, none⟩) cc.pc.length cpc) := (BoxAt.cell CB.out 2).trans (by show some qc.v2.val = _; rw [HCv.out])
                   clear kPB4
                   have kPB4 : v26.cell? ⟨v21.heap.size, 4, none⟩ = some (.slice (some ⟨b1, off, none⟩) c.pr.length cpp) := (BoxAt.cell PB.out 4).trans (by show some q.pr.val = _; rw [HPv.out])
                   clear kXB0
                   have kXB0 : v26.cell? ⟨v23.heap.size, 0, none⟩ = some (.int .i64 r.st) := (BoxAt.cell XB.out 0).trans rfl
                   clear kL
                   have kL : v26.cell? ⟨b2, of2 + k * 5 + 2, none⟩ = some (.int .i64 f.li) := (HB.out.cell (p := ⟨b2, of2 + k * 5 + 2, none⟩) hcw).trans HFc.out
                   clear b g z hfl FL26)
                | fail)
              refine bodyPost_ret (results_box_tmp rfl _ _ (v22.heap.size) 39 _ (0, 0) _ rfl RB.out Try.underlying39 rfl Try.infoPa) rfl ?_
              rw [show replP cc c (k : Int) ticks now = (c, 1) from by unfold replP; rw [if_pos HT.out, if_pos (by rw [Int.toNat_natCast, HF.out]; exact .inl HL.out)]]
              exact ⟨q, rfl, PaS.from HA0.out (H0.out.trans (HB.out.mono h0s)), HB.out⟩
            · have t1 : (f.li == 0) = false := by simpa using hl
              have HL := hid hl
              clear hl
              by_cases hst : r.st = 0
              · have t2 : (r.st == 0) = true := by simpa using hst
                have HS := hid hst
                clear hst
                have FL27 := hid trivial
                have FL28 := hid trivial
                have FL29 := hid trivial
                have FL30 := hid trivial
                have FL31 := hid trivial
                have FL32 := hid trivial
                go_wp2_with (first
                  | (have hfl := FL27.out
                     refine wpList_box rfl 28 (.tmp 0) rfl (Pv.cells qc).toArray rfl ?_
                     intro v27 b h z
                     have CB := hid (show BoxAt v27 w.heap.size 28 (Pv.cells qc).toArray from b)
                     have HB := hid (HB.out.trans (h.mono HB.out.size))
                     have hsv27 : w.heap.size + 1 ≤ v27.heap.size := by omega
                     have kL : v27.cell? ⟨b2, of2 + k * 5 + 2, none⟩ = some (.int .i64 f.li) := (HB.out.cell (p := ⟨b2, of2 + k * 5 + 2, none⟩) hcw).trans HFc.out
                     clear b h z hfl FL27)
                  | (have hfl := FL28.out
                     refine wpList_box rfl 39 (.tmp 1) rfl (PaV.cells q).toArray rfl ?_
                     intro v28 b h z
                     have PB := hid (show BoxAt v28 v27.heap.size 39 (PaV.cells q).toArray from b)
                     have CB := hid (CB.out.belowAll h)
                     have HB := hid (HB.out.trans (h.mono HB.out.size))
                     have hsv28 : v27.heap.size + 1 ≤ v28.heap.size := by omega
                     clear kL
                     have kL : v28.cell? ⟨b2, of2 + k * 5 + 2, none⟩ = some (.int .i64 f.li) := (HB.out.cell (p := ⟨b2, of2 + k * 5 + 2, none⟩) hcw).trans HFc.out
                     clear b h z hfl FL28)
                  | (have hfl := FL29.out
                     refine wpList_new rfl 39 rfl _ Try.zeroPa ?_
                     intro v29 b h z
                     have RB := hid (show BoxAt v29 v28.heap.size 39 (PaV.cells PaV.zero).toArray from b)
                     have CB := hid (CB.out.belowAll h)
                     have PB := hid (PB.out.belowAll h)
                     have HB := hid (HB.out.trans (h.mono HB.out.size))
                     have hsv29 : v28.heap.size + 1 ≤ v29.heap.size := by omega
                     have kCB2 : v29.cell? ⟨w.heap.size, 2, none⟩ = some (.slice (some ⟨b2, of2, none⟩) cc.pc.length cpc) := (BoxAt.cell CB.out 2).trans (by show some qc.v2.val = _; rw [HCv.out])
                     have kPB4 : v29.cell? ⟨v27.heap.size, 4, none⟩ = some (.slice (some ⟨b1, off, none⟩) c.pr.length cpp) := (BoxAt.cell PB.out 4).trans (by show some q.pr.val = _; rw [HPv.out])
                     clear kL
                     have kL : v29.cell? ⟨b2, of2 + k * 5 + 2, none⟩ = some (.int .i64 f.li) := (HB.out.cell (p := ⟨b2, of2 + k * 5 + 2, none⟩) hcw).trans HFc.out
                     clear b h z hfl FL29)
                  | (refine wpList_load_px rfl _ rfl b1 (off + k * 18) rfl r (HP0.out.below HB.out hbw) ?_)
                  | (have hfl := FL30.out
                     refine wpList_new rfl 57 rfl _ Try.zeroPx ?_
                     intro v30 b h z
                     have XB := hid (show BoxAt v30 v29.heap.size 57 (Px.cells Px.zero).toArray from b)
                     have CB := hid (CB.out.belowAll h)
                     have PB := hid (PB.out.belowAll h)
                     have RB := hid (RB.out.belowAll h)
                     have HB := hid (HB.out.trans (h.mono HB.out.size))
                     have hsv30 : v29.heap.size + 1 ≤ v30.heap.size := by omega
                     clear kCB2
                     have kCB2 : v30.cell? ⟨w.heap.size, 2, none⟩ = some (.slice (some ⟨b2, of2, none⟩) cc.pc.length cpc) := (BoxAt.cell CB.out 2).trans (by show some qc.v2.val = _; rw [HCv.out])
                     clear kPB4
                     have kPB4 : v30.cell? ⟨v27.heap.size, 4, none⟩ = some (.slice (some ⟨b1, off, none⟩) c.pr.length cpp) := (BoxAt.cell PB.out 4).trans (by show some q.pr.val = _; rw [HPv.out])
                     clear kL
                     have kL : v30.cell? ⟨b2, of2 + k * 5 + 2, none⟩ = some (.int .i64 f.li) := (HB.out.cell (p := ⟨b2, of2 + k * 5 + 2, none⟩) hcw).trans HFc.out
                     clear b h z hfl FL30)
                  | (have hfl := FL31.out
                     refine wpList_store_whole rfl 57 _ _ rfl rfl v29.heap.size rfl (Px.cells r) rfl _ _ XB.out rfl Try.infoPx (Px.one _) ?_
                     intro v31 b g z
                     have hsv31 : v30.heap.size ≤ v31.heap.size := by omega
                     have XB := hid (show BoxAt v31 v29.heap.size 57 (Px.cells r).toArray from b)
                     have CB := hid (CB.out.grown g (fun e => by have := Option.some.inj e; omega))
                     have PB := hid (PB.out.grown g (fun e => by have := Option.some.inj e; omega))
                     have RB := hid (RB.out.grown g (fun e => by have := Option.some.inj e; omega))
                     have HB := hid (HB.out.trans (grown_below g (by omega) (by omega)))
                     clear kCB2
                     have kCB2 : v31.cell? ⟨w.heap.size, 2, none⟩ = some (.slice (some ⟨b2, of2, none⟩) cc.pc.length cpc) := (BoxAt.cell CB.out 2).trans (by show some qc.v2.val = _; rw [HCv.out])
                     clear kPB4
                     have kPB4 : v31.cell? ⟨v27.heap.size, 4, none⟩ = some (.slice (some ⟨b1, off, none⟩) c.pr.length cpp) := (BoxAt.cell PB.out 4).trans (by show some q.pr.val = _; rw [HPv.out])
                     have kXB0 : v31.cell? ⟨v29.heap.size, 0, none⟩ = some (.int .i64 r.st) := (BoxAt.cell XB.out 0).trans rfl
                     clear kL
                     have kL : v31.cell? ⟨b2, of2 + k * 5 + 2, none⟩ = some (.int .i64 f.li) := (HB.out.cell (p := ⟨b2, of2 + k * 5 + 2, none⟩) hcw).trans HFc.out
                     clear b g z hfl FL31)
                  | (with_reducible refine wpList_dst 55 rfl ?_
                     refine wpList_load_box rfl 39 _ rfl v27.heap.size rfl _ _ PB.out _ Try.underlying39 Try.infoPa ?_)
                  | (have hfl := FL32.out
                     refine wpList_store_whole rfl 39 _ _ rfl rfl v28.heap.size rfl (PaV.cells q) rfl _ _ RB.out rfl Try.infoPa (PaV.one _) ?_
                     intro v32 b g z
                     have hsv32 : v31.heap.size ≤ v32.heap.size := by omega
                     have RB := hid (show BoxAt v32 v28.heap.size 39 (PaV.cells q).toArray from b)
                     have CB := hid (CB.out.grown g (fun e => by have := Option.some.inj e; omega))
                     have PB := hid (PB.out.grown g (fun e => by have := Option.some.inj e; omega))
                     have XB := hid (XB.out.grown g (fun e => by have := Option.some.inj e; omega))
                     have HB := hid (HB.out.trans (grown_below g (by omega) (by omega)))
                     clear kCB2
                     have kCB2 : v32.cell? ⟨w.heap.size, 2, none⟩ = some (.slice (some ⟨b2, of2, none⟩) cc.pc.length cpc) := (BoxAt.cell CB.out 2).trans (by show some qc.v2.val = _; rw [HCv.out])
                     clear kPB4
                     have kPB4 : v32.cell? ⟨v27.heap.size, 4, none⟩ = some (.slice (some ⟨b1, off, none⟩) c.pr.length cpp) := (BoxAt.cell PB.out 4).trans (by show some q.pr.val = _; rw [HPv.out])
                     clear kXB0
                     have kXB0 : v32.cell? ⟨v29.heap.size, 0, none⟩ = some (.int .i64 r.st) := (BoxAt.cell XB.out 0).trans rfl
                     clear kL
                     have kL : v32.cell? ⟨b2, of2 + k * 5 + 2, none⟩ = some (.int .i64 f.li) := (HB.out.cell (p := ⟨b2, of2 + k * 5 + 2, none⟩) hcw).trans HFc.out
                     clear b g z hfl FL32)
                  | fail)
                refine bodyPost_ret (results_box_tmp rfl _ _ (v28.heap.size) 39 _ (0, 0) _ rfl RB.out Try.underlying39 rfl Try.infoPa) rfl ?_
                rw [show replP cc c (k : Int) ticks now = (c, 1) from by unfold replP; rw [if_pos HT.out, if_pos (by rw [Int.toNat_natCast, HR.out]; exact .inr HS.out)]]
                exact ⟨q, rfl, PaS.from HA0.out (H0.out.trans (HB.out.mono h0s)), HB.out⟩
              · have t2 : (r.st == 0) = false := by simpa using hst
                have HS := hid hst
                clear hst
                obtain ⟨x1, hx1⟩ : ∃ x : Px, { r with du := wrap64 (now + ticks) } = x := ⟨_, rfl⟩
                have HX1 := hid hx1
                clear hx1
                have FL33 := hid trivial
                have FL34 := hid trivial
                have FL35 := hid trivial
                have FL36 := hid trivial
                have FL37 := hid trivial
                have FL38 := hid trivial
                go_wp2_with (first
                  | (have hfl := FL33.out
                     refine wpList_box rfl 28 (.tmp 0) rfl (Pv.cells qc).toArray rfl ?_
                     intro v33 b h z
                     have CB := hid (show BoxAt v33 w.heap.size 28 (Pv.cells qc).toArray from b)
                     have HB := hid (HB.out.trans (h.mono HB.out.size))
                     have hsv33 : w.heap.size + 1 ≤ v33.heap.size := by omega
                     have kL : v33.cell? ⟨b2, of2 + k * 5 + 2, none⟩ = some (.int .i64 f.li) := (HB.out.cell (p := ⟨b2, of2 + k * 5 + 2, none⟩) hcw).trans HFc.out
                     clear b h z hfl FL33)
                  | (have hfl := FL34.out
                     refine wpList_box rfl 39 (.tmp 1) rfl (PaV.cells q).toArray rfl ?_
                     intro v34 b h z
                     have PB := hid (show BoxAt v34 v33.heap.size 39 (PaV.cells q).toArray from b)
                     have CB := hid (CB.out.belowAll h)
                     have HB := hid (HB.out.trans (h.mono HB.out.size))
                     have hsv34 : v33.heap.size + 1 ≤ v34.heap.size := by omega
                     clear kL
                     have kL : v34.cell? ⟨b2, of2 + k * 5 + 2, none⟩ = some (.int .i64 f.li) := (HB.out.cell (p := ⟨b2, of2 + k * 5 + 2, none⟩) hcw).trans HFc.out
                     clear b h z hfl FL34)
                  | (have hfl := FL35.out
                     refine wpList_new rfl 39 rfl _ Try.zeroPa ?_
                     intro v35 b h z
                     have RB := hid (show BoxAt v35 v34.heap.size 39 (PaV.cells PaV.zero).toArray from b)
                     have CB := hid (CB.out.belowAll h)
                     have PB := hid (PB.out.belowAll h)
                     have HB := hid (HB.out.trans (h.mono HB.out.size))
                     have hsv35 : v34.heap.size + 1 ≤ v35.heap.size := by omega
                     have kCB2 : v35.cell? ⟨w.heap.size, 2, none⟩ = some (.slice (some ⟨b2, of2, none⟩) cc.pc.length cpc) := (BoxAt.cell CB.out 2).trans (by show some qc.v2.val = _; rw [HCv.out])
                     have kPB4 : v35.cell? ⟨v33.heap.size, 4, none⟩ = some (.slice (some ⟨b1, off, none⟩) c.pr.length cpp) := (BoxAt.cell PB.out 4).trans (by show some q.pr.val = _; rw [HPv.out])
                     clear kL
                     have kL : v35.cell? ⟨b2, of2 + k * 5 + 2, none⟩ = some (.int .i64 f.li) := (HB.out.cell (p := ⟨b2, of2 + k * 5 + 2, none⟩) hcw).trans HFc.out
                     clear b h z hfl FL35)
                  | (refine wpList_load_px rfl _ rfl b1 (off + k * 18) rfl r (HP0.out.below HB.out hbw) ?_)
                  | (have hfl := FL36.out
                     refine wpList_new rfl 57 rfl _ Try.zeroPx ?_
                     intro v36 b h z
                     have XB := hid (show BoxAt v36 v35.heap.size 57 (Px.cells Px.zero).toArray from b)
                     have CB := hid (CB.out.belowAll h)
                     have PB := hid (PB.out.belowAll h)
                     have RB := hid (RB.out.belowAll h)
                     have HB := hid (HB.out.trans (h.mono HB.out.size))
                     have hsv36 : v35.heap.size + 1 ≤ v36.heap.size := by omega
                     clear kCB2
                     have kCB2 : v36.cell? ⟨w.heap.size, 2, none⟩ = some (.slice (some ⟨b2, of2, none⟩) cc.pc.length cpc) := (BoxAt.cell CB.out 2).trans (by show some qc.v2.val = _; rw [HCv.out])
                     clear kPB4
                     have kPB4 : v36.cell? ⟨v33.heap.size, 4, none⟩ = some (.slice (some ⟨b1, off, none⟩) c.pr.length cpp) := (BoxAt.cell PB.out 4).trans (by show some q.pr.val = _; rw [HPv.out])
                     clear kL
                     have kL : v36.cell? ⟨b2, of2 + k * 5 + 2, none⟩ = some (.int .i64 f.li) := (HB.out.cell (p := ⟨b2, of2 + k * 5 + 2, none⟩) hcw).trans HFc.out
                     clear b h z hfl FL36)
                  | (have hfl := FL37.out
                     refine wpList_store_whole rfl 57 _ _ rfl rfl v35.heap.size rfl (Px.cells r) rfl _ _ XB.out rfl Try.infoPx (Px.one _) ?_
                     intro v37 b g z
                     have hsv37 : v36.heap.size ≤ v37.heap.size := by omega
                     have XB := hid (show BoxAt v37 v35.heap.size 57 (Px.cells r).toArray from b)
                     have CB := hid (CB.out.grown g (fun e => by have := Option.some.inj e; omega))
                     have PB := hid (PB.out.grown g (fun e => by have := Option.some.inj e; omega))
                     have RB := hid (RB.out.grown g (fun e => by have := Option.some.inj e; omega))
                     have HB := hid (HB.out.trans (grown_below g (by omega) (by omega)))
                     clear kCB2
                     have kCB2 : v37.cell? ⟨w.heap.size, 2, none⟩ = some (.slice (some ⟨b2, of2, none⟩) cc.pc.length cpc) := (BoxAt.cell CB.out 2).trans (by show some qc.v2.val = _; rw [HCv.out])
                     clear kPB4
                     have kPB4 : v37.cell? ⟨v33.heap.size, 4, none⟩ = some (.slice (some ⟨b1, off, none⟩) c.pr.length cpp) := (BoxAt.cell PB.out 4).trans (by show some q.pr.val = _; rw [HPv.out])
                     have kXB0 : v37.cell? ⟨v35.heap.size, 0, none⟩ = some (.int .i64 r.st) := (BoxAt.cell XB.out 0).trans rfl
                     clear kL
                     have kL : v37.cell? ⟨b2, of2 + k * 5 + 2, none⟩ = some (.int .i64 f.li) := (HB.out.cell (p := ⟨b2, of2 + k * 5 + 2, none⟩) hcw).trans HFc.out
                     clear b g z hfl FL37)
                  | (have hfl := FL38.out
                     refine wpList_store_box rfl 3 _ _ rfl rfl v35.heap.size 12 (.int .i64 (wrap64 (now + ticks))) rfl rfl rfl rfl (by kernel_rfl) _ _ XB.out (by simp [Px.cells]) ?_
                     intro v38 b g z
                     have hsv38 : v37.heap.size ≤ v38.heap.size := by omega
                     have XB := hid (show BoxAt v38 v35.heap.size 57 (Px.cells x1).toArray by rw [← HX1.out]; simpa [Px.cells] using b)
                     have CB := hid (CB.out.grown g (fun e => by have := Option.some.inj e; omega))
                     have PB := hid (PB.out.grown g (fun e => by have := Option.some.inj e; omega))
                     have RB := hid (RB.out.grown g (fun e => by have := Option.some.inj e; omega))
                     have HB := hid (HB.out.trans (grown_below g (by omega) (by omega)))
                     clear kCB2
                     have kCB2 : v38.cell? ⟨w.heap.size, 2, none⟩ = some (.slice (some ⟨b2, of2, none⟩) cc.pc.length cpc) := (BoxAt.cell CB.out 2).trans (by show some qc.v2.val = _; rw [HCv.out])
                     clear kPB4
                     have kPB4 : v38.cell? ⟨v33.heap.size, 4, none⟩ = some (.slice (some ⟨b1, off, none⟩) c.pr.length cpp) := (BoxAt.cell PB.out 4).trans (by show some q.pr.val = _; rw [HPv.out])
                     clear kL
                     have kL : v38.cell? ⟨b2, of2 + k * 5 + 2, none⟩ = some (.int .i64 f.li) := (HB.out.cell (p := ⟨b2, of2 + k * 5 + 2, none⟩) hcw).trans HFc.out
                     clear b g z hfl FL38)
                  | (with_reducible refine wpList_dst 60 rfl ?_
                     refine wpList_load_box rfl 39 _ rfl v33.heap.size rfl _ _ PB.out _ Try.underlying39 Try.infoPa ?_)
                  | (with_reducible refine wpList_dst 62 rfl ?_
                     refine wpList_load_box rfl 57 _ rfl v35.heap.size rfl _ _ XB.out _ Try.underlying57 Try.infoPx ?_)
                  | fail)
                refine (rwith11_s (n := w0.heap.size) k x1 (PaS.from HA0.out (H0.out.trans (HB.out.mono h0s))) (by omega) HSm.out.pr HK.out).mono ?_
                rintro e v39 ⟨q', rfl, ho, hb⟩
                have CB := hid (CB.out.belowAll hb)
                have PB := hid (PB.out.belowAll hb)
                have RB := hid (RB.out.belowAll hb)
                have XB := hid (XB.out.belowAll hb)
                have HB := hid (HB.out.trans (hb.mono HB.out.size))
                have hsv39 : v38.heap.size ≤ v39.heap.size := hb.size
                have HO := hid ho
                clear ho
                clear hb
                have FL39 := hid trivial
                go_wp2_with (first
                  | (have hfl := FL39.out
                     refine wpList_store_whole rfl 39 _ _ rfl rfl v34.heap.size rfl (PaV.cells q') rfl _ _ RB.out rfl Try.infoPa (PaV.one _) ?_
                     intro v40 b g z
                     have hsv40 : v39.heap.size ≤ v40.heap.size := by omega
                     have HO := hid (HO.out.put (by omega) (by omega) g RB.out b)
                     have RB := hid (show BoxAt v40 v34.heap.size 39 (PaV.cells q').toArray from b)
                     have CB := hid (CB.out.grown g (fun e => by have := Option.some.inj e; omega))
                     have PB := hid (PB.out.grown g (fun e => by have := Option.some.inj e; omega))
                     have XB := hid (XB.out.grown g (fun e => by have := Option.some.inj e; omega))
                     have HB := hid (HB.out.trans (grown_below g (by omega) (by omega)))
                     clear b g z hfl FL39)
                  | fail)
                refine bodyPost_ret (results_box_tmp rfl _ _ (v34.heap.size) 39 _ (0, 0) _ rfl RB.out Try.underlying39 rfl Try.infoPa) rfl ?_
                rw [show replP cc c (k : Int) ticks now = ({ c with pr := c.pr.set k x1 }, 0) from by unfold replP; rw [if_pos HT.out, Int.toNat_natCast, if_neg (by rw [HR.out, HF.out]; exact fun h => h.elim HL.out HS.out), HR.out, HX1.out]]
                exact ⟨q', rfl, HO.out, HB.out⟩

end Go.Proofs.Ytdanfnbclbiidaa
