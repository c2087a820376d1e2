/-
  What times' Period, Delay and Replenish return.
-/
import Derived.Test.YtdanfnbclbiidaaUWake
namespace Go.Proofs.Ytdanfnbclbiidaa
open Go.RowKit
set_option linter.unusedVariables false

/-- A partition of the call's own, one of whose processes was written. -/
theorem PaO.wrote {w w' : World} {base g cap k : Nat} {q : PaV} {c : Pa} {r : Px} (h : PaO w base q c) (hs : q.pr = ⟨some ⟨g, 0, none⟩, c.pr.length, cap⟩) (ht : Turns (fun t => t = 57) w w') (hp : PW w' base g cap k c.pr r) : PaO w' base q { c with pr := c.pr.set k r } := by
  have h1 := h.procs (S := fun t => t = 57) (by decide) (by decide) (by decide) (by decide) (by decide) (by decide) (by decide) (by decide) ht (c.pr.set k r) c.nx (by rw [hs]; exact hp.stop)
  rw [show ({ q with nx := c.nx } : PaV) = q from by rw [← h.nx]] at h1
  exact h1
theorem PaO.next {w : World} {base : Nat} {q : PaV} {c : Pa} (h : PaO w base q c) (n : Int) : PaO w base { q with nx := n } { c with nx := n } :=
  ⟨h.md, h.bg, rfl, h.me, h.pr, h.bo, h.bu, h.se, h.ev, h.sa, h.qu, h.ld, h.ll, h.lx, h.gi⟩
theorem PaO.hdr {w : World} {base : Nat} {q : PaV} {c : Pa} (h : PaO w base q c) (hk : 0 < c.pr.length) : ∃ g cap, q.pr = ⟨some ⟨g, 0, none⟩, c.pr.length, cap⟩ ∧ base ≤ g ∧ g < w.heap.size ∧ c.pr.length ≤ cap ∧ cap ≤ 9223372036854775807 := by
  obtain ⟨g, cap, e, h1, h2, h3, h4⟩ := OP.form h.pr hk
  refine ⟨g, cap, ?_, h1, h2, h3, h4⟩
  obtain ⟨q1, q2, q3⟩ : ∃ a n, q.pr = ⟨a, n, q.pr.c⟩ := ⟨_, _, rfl⟩
  rw [q3] at e ⊢
  simp only [Sl.val, Value.slice.injEq] at e
  rw [e.1, e.2.1, e.2.2]

set_option maxRecDepth 100000 in
set_option maxHeartbeats 6400000 in
theorem queued1_any {q : PaV} {c : Pa} {w : World} {k : Nat} (hk : k < c.pr.length) (ha : PaAt w q c) (hsm : c.small) :
    Calls Try.prog 43 #[q.val, .int .i64 (k : Nat)] w fun e w' => ∃ q', e = .returned (PaV.val q') ∧ PaO w' w.heap.size q' ({ c with pr := c.pr.set k { c.pr.getD k Px.zero with si := c.nx }, nx := wrap64 (c.nx + 1) }) ∧ Below w.heap.size w w' := by
  have HA := hid ha
  have HSm := hid hsm
  have HB := hid (Below.refl w.heap.size w)
  obtain ⟨ap, cpp, hpv, hp1, hp2, hpcell⟩ := ha.pr.form
  have hmax : cpp ≤ 9223372036854775807 := hp2
  have HPv := hid hpv
  have HPc := hid hpcell
  clear ha hsm hpv hp2 hpcell
  obtain ⟨r, hr⟩ : ∃ r, c.pr.getD k Px.zero = r := ⟨_, rfl⟩
  have HR := hid hr
  have HK := hid hk
  rw [hr]
  clear hr
  go_enter Try.func43, Try.ntmps43
  have FL1 := hid trivial
  have FL2 := hid trivial
  go_wp2_with (first
    | (have hfl := FL1.out
       refine wpList_box rfl 39 (.tmp 0) rfl (PaV.cells q).toArray rfl ?_
       intro v1 b h z
       have PB := hid (show BoxAt v1 w.heap.size 39 (PaV.cells q).toArray from b)
       have HB := hid (HB.out.trans (h.mono HB.out.size))
       have hsv1 : w.heap.size + 1 ≤ v1.heap.size := by omega
       clear b h z hfl FL1)
    | (have hfl := FL2.out
       refine wpList_new rfl 39 rfl _ Try.zeroPa ?_
       intro v2 b h z
       have RB := hid (show BoxAt v2 v1.heap.size 39 (PaV.cells PaV.zero).toArray from b)
       have PB := hid (PB.out.belowAll h)
       have HB := hid (HB.out.trans (h.mono HB.out.size))
       have hsv2 : v1.heap.size + 1 ≤ v2.heap.size := by omega
       clear b h z hfl FL2)
    | (refine wpList_load_box rfl 39 _ rfl w.heap.size rfl _ _ PB.out _ Try.underlying39 Try.infoPa ?_)
    | fail)
  refine (own_any (HA.out.below HB.out) HSm.out).mono ?_
  rintro e v3 ⟨q1, rfl, ho, hb⟩
  have PB := hid (PB.out.belowAll hb)
  have RB := hid (RB.out.belowAll hb)
  have HB := hid (HB.out.trans (hb.mono HB.out.size))
  have hsv3 : v2.heap.size ≤ v3.heap.size := hb.size
  have HO := hid (ho.mono (show w.heap.size ≤ v2.heap.size by omega))
  clear ho
  clear hb
  obtain ⟨gq, cap, hq1, hg1, hg2, hg3, hg4⟩ := HO.out.hdr (by omega)
  have HQ := hid hq1
  have HNx := hid HO.out.nx
  clear hq1
  have hkI : (k : Int) < (c.pr.length : Int) := by omega
  have FL3 := hid trivial
  have FL4 := hid trivial
  have FL5 := hid trivial
  have FL6 := hid trivial
  go_wp2_with (first
    | (have hfl := FL3.out
       refine wpList_store_whole rfl 39 _ _ rfl rfl w.heap.size rfl (PaV.cells q1) rfl _ _ PB.out rfl Try.infoPa (PaV.one _) ?_
       intro v4 b g z
       have hsv4 : v3.heap.size ≤ v4.heap.size := by omega
       have HO := hid (HO.out.turn (Turns.grown (S := fun t => t = 39) PB.out b rfl g))
       have PB := hid (show BoxAt v4 w.heap.size 39 (PaV.cells q1).toArray from b)
       have RB := hid (RB.out.grown g (fun e => by have := Option.some.inj e; omega))
       have HB := hid (HB.out.trans (grown_below g (by omega) (by omega)))
       have kPB4 : v4.cell? ⟨w.heap.size, 4, none⟩ = some (.slice (some ⟨gq, 0, none⟩) c.pr.length cap) := (BoxAt.cell PB.out 4).trans (by show some q1.pr.val = _; rw [HQ.out]; rfl)
       have kPB2 : v4.cell? ⟨w.heap.size, 2, none⟩ = some (.int .i64 c.nx) := (BoxAt.cell PB.out 2).trans (by show some (Value.int .i64 q1.nx) = _; rw [HNx.out])
       clear b g z hfl FL3)
    | (have hfl := FL4.out
       have HPs := PW.start (base := w.heap.size) (show OP _ w.heap.size (.slice (some ⟨gq, 0, none⟩) c.pr.length cap) c.pr from by have h := HO.out.pr; rw [HQ.out] at h; exact h) HK.out
       rw [HR.out] at HPs
       refine wpList_store_pw rfl 3 _ _ rfl rfl HPs 8 (by decide) (.int .i64 c.nx) rfl rfl rfl rfl (by kernel_rfl) ({ r with si := c.nx }) rfl ?_
       intro v5 hp gr z
       obtain ⟨ht, hbb⟩ := pw_turns HPs hp gr
       have HO := hid (HO.out.wrote HQ.out ht hp)
       have PB := hid (PB.out.turn (S := fun t => t = 57) (by decide) ht)
       have RB := hid (RB.out.turn (S := fun t => t = 57) (by decide) ht)
       have HB := hid (HB.out.trans hbb)
       have hsv5 : v4.heap.size ≤ v5.heap.size := by omega
       clear kPB4
       have kPB4 : v5.cell? ⟨w.heap.size, 4, none⟩ = some (.slice (some ⟨gq, 0, none⟩) c.pr.length cap) := (BoxAt.cell PB.out 4).trans (by show some q1.pr.val = _; rw [HQ.out]; rfl)
       clear kPB2
       have kPB2 : v5.cell? ⟨w.heap.size, 2, none⟩ = some (.int .i64 c.nx) := (BoxAt.cell PB.out 2).trans (by show some (Value.int .i64 q1.nx) = _; rw [HNx.out])
       clear hp gr z ht hbb HPs hfl FL4)
    | (have hfl := FL5.out
       refine wpList_store_box rfl 3 _ _ rfl rfl w.heap.size 2 (.int .i64 (wrap64 (c.nx + 1))) rfl rfl rfl rfl (by kernel_rfl) _ _ PB.out (by simp [PaV.cells]) ?_
       intro v6 b g z
       have hsv6 : v5.heap.size ≤ v6.heap.size := by omega
       have HO := hid (HO.out.turn (Turns.grown (S := fun t => t = 39) PB.out b rfl g))
       have PB := hid (show BoxAt v6 w.heap.size 39 (PaV.cells { q1 with nx := wrap64 (c.nx + 1) }).toArray by simpa [PaV.cells] using b)
       have RB := hid (RB.out.grown g (fun e => by have := Option.some.inj e; omega))
       have HB := hid (HB.out.trans (grown_below g (by omega) (by omega)))
       clear b g z hfl FL5)
    | (refine wpList_load_box rfl 39 _ rfl w.heap.size rfl _ _ PB.out _ Try.underlying39 Try.infoPa ?_)
    | (have hfl := FL6.out
       refine wpList_store_whole rfl 39 _ _ rfl rfl v1.heap.size rfl (PaV.cells { q1 with nx := wrap64 (c.nx + 1) }) rfl _ _ RB.out rfl Try.infoPa (PaV.one _) ?_
       intro v7 b g z
       have hsv7 : v6.heap.size ≤ v7.heap.size := by omega
       have HO := hid (HO.out.turn (Turns.grown (S := fun t => t = 39) RB.out b rfl g))
       have RB := hid (show BoxAt v7 v1.heap.size 39 (PaV.cells { q1 with nx := wrap64 (c.nx + 1) }).toArray from b)
       have PB := hid (PB.out.grown g (fun e => by have := Option.some.inj e; omega))
       have HB := hid (HB.out.trans (grown_below g (by omega) (by omega)))
       clear b g z hfl FL6)
    | fail)
  refine bodyPost_ret (results_cell_row rfl _ _ (v1.heap.size) 39 _ (0, 0) _ rfl RB.out Try.underlying39 rfl Try.infoPa) rfl ?_
  exact ⟨{ q1 with nx := wrap64 (c.nx + 1) }, rfl, HO.out.next _, HB.out⟩

set_option maxRecDepth 100000 in
set_option maxHeartbeats 6400000 in
theorem delay_any {q : PaV} {c : Pa} {w : World} {i ticks now : Int} (ha : PaAt w q c) (hsm : c.small) :
    Calls Try.prog 19 #[q.val, .int .i64 i, .int .i64 ticks, .int .i64 now] w fun e w' => ∃ q', e = .returned (.tuple #[PaV.val q', .int .i64 (delayP c i ticks now).2]) ∧ PaO w' w.heap.size q' (delayP c i ticks now).1 ∧ Below w.heap.size w w' := by
  have HA := hid ha
  have HSm := hid hsm
  have HB := hid (Below.refl w.heap.size w)
  obtain ⟨ap, cpp, hpv, hp1, hp2, hpcell⟩ := ha.pr.form
  have hmax : cpp ≤ 9223372036854775807 := hp2
  have HPv := hid hpv
  have HPc := hid hpcell
  clear ha hsm hpv hp2 hpcell
  go_enter Try.func19, Try.ntmps19
  have FL1 := hid trivial
  have FL2 := hid trivial
  go_wp2_with (first
    | (have hfl := FL1.out
       refine wpList_box rfl 39 (.tmp 0) rfl (PaV.cells q).toArray rfl ?_
       intro v1 b h z
       have PB := hid (show BoxAt v1 w.heap.size 39 (PaV.cells q).toArray from b)
       have HB := hid (HB.out.trans (h.mono HB.out.size))
       have hsv1 : w.heap.size + 1 ≤ v1.heap.size := by omega
       clear b h z hfl FL1)
    | (have hfl := FL2.out
       refine wpList_new rfl 39 rfl _ Try.zeroPa ?_
       intro v2 b h z
       have RB := hid (show BoxAt v2 v1.heap.size 39 (PaV.cells PaV.zero).toArray from b)
       have PB := hid (PB.out.belowAll h)
       have HB := hid (HB.out.trans (h.mono HB.out.size))
       have hsv2 : v1.heap.size + 1 ≤ v2.heap.size := by omega
       have kPB4 : v2.cell? ⟨w.heap.size, 4, none⟩ = some (.slice ap c.pr.length cpp) := (BoxAt.cell PB.out 4).trans (by show some q.pr.val = _; rw [HPv.out])
       clear b h z hfl FL2)
    | fail)
  refine (uthere_Px _ _ _ _ _).mono ?_
  rintro e v2 ⟨rfl, rfl⟩
  by_cases hin : 0 ≤ i ∧ i < c.pr.length
  · rw [decide_eq_true hin]
    obtain ⟨k, hki⟩ : ∃ k : Nat, i = (k : Int) := ⟨i.toNat, by omega⟩
    have hk : k < c.pr.length := by omega
    subst hki
    clear hin
    by_cases h0 : ticks < 0
    · have d0 : decide (ticks < 0) = true := decide_eq_true h0
      have HH := hid h0
      clear h0
      go_wp2_with (first
        | (with_reducible refine wpList_dst 24 rfl ?_
           refine wpList_load_box rfl 39 _ rfl w.heap.size rfl _ _ PB.out _ Try.underlying39 Try.infoPa ?_)
        | fail)
      refine (own_any (HA.out.below HB.out) HSm.out).mono ?_
      rintro e v3 ⟨q', rfl, ho, hb⟩
      have PB := hid (PB.out.belowAll hb)
      have RB := hid (RB.out.belowAll hb)
      have HB := hid (HB.out.trans (hb.mono HB.out.size))
      have hsv3 : v2.heap.size ≤ v3.heap.size := hb.size
      have HO := hid (ho.mono (show w.heap.size ≤ v2.heap.size by omega))
      clear ho
      clear hb
      have FL3 := hid trivial
      go_wp2_with (first
        | (have hfl := FL3.out
           refine wpList_store_whole rfl 39 _ _ rfl rfl v1.heap.size rfl (PaV.cells q') rfl _ _ RB.out rfl Try.infoPa (PaV.one _) ?_
           intro v4 b g z
           have hsv4 : v3.heap.size ≤ v4.heap.size := by omega
           have HO := hid (HO.out.turn (Turns.grown (S := fun t => t = 39) RB.out b rfl g))
           have RB := hid (show BoxAt v4 v1.heap.size 39 (PaV.cells q').toArray from b)
           have PB := hid (PB.out.grown g (fun e => by have := Option.some.inj e; omega))
           have HB := hid (HB.out.trans (grown_below g (by omega) (by omega)))
           clear b g z hfl FL3)
        | fail)
      refine bodyPost_ret (results_box_tmp rfl _ _ (v1.heap.size) 39 _ (0, 0) _ rfl RB.out Try.underlying39 rfl Try.infoPa) rfl ?_
      rw [show delayP c (k : Int) ticks now = (c, 3) from by unfold delayP; rw [if_neg (fun h => by have := HH.out; omega)]]
      exact ⟨q', rfl, HO.out, HB.out⟩
    · have d0 : decide (ticks < 0) = false := decide_eq_false h0
      by_cases h1 : 4096 < ticks
      · have d1 : decide (4096 < ticks) = true := decide_eq_true h1
        have HH := hid h1
        clear h0 h1
        go_wp2_with (first
          | (with_reducible refine wpList_dst 24 rfl ?_
             refine wpList_load_box rfl 39 _ rfl w.heap.size rfl _ _ PB.out _ Try.underlying39 Try.infoPa ?_)
          | fail)
        refine (own_any (HA.out.below HB.out) HSm.out).mono ?_
        rintro e v5 ⟨q', rfl, ho, hb⟩
        have PB := hid (PB.out.belowAll hb)
        have RB := hid (RB.out.belowAll hb)
        have HB := hid (HB.out.trans (hb.mono HB.out.size))
        have hsv5 : v2.heap.size ≤ v5.heap.size := hb.size
        have HO := hid (ho.mono (show w.heap.size ≤ v2.heap.size by omega))
        clear ho
        clear hb
        have FL4 := hid trivial
        go_wp2_with (first
          | (have hfl := FL4.out
             refine wpList_store_whole rfl 39 _ _ rfl rfl v1.heap.size rfl (PaV.cells q') rfl _ _ RB.out rfl Try.infoPa (PaV.one _) ?_
             intro v6 b g z
             have hsv6 : v5.heap.size ≤ v6.heap.size := by omega
             have HO := hid (HO.out.turn (Turns.grown (S := fun t => t = 39) RB.out b rfl g))
             have RB := hid (show BoxAt v6 v1.heap.size 39 (PaV.cells q').toArray from b)
             have PB := hid (PB.out.grown g (fun e => by have := Option.some.inj e; omega))
             have HB := hid (HB.out.trans (grown_below g (by omega) (by omega)))
             clear b g z hfl FL4)
          | fail)
        refine bodyPost_ret (results_box_tmp rfl _ _ (v1.heap.size) 39 _ (0, 0) _ rfl RB.out Try.underlying39 rfl Try.infoPa) rfl ?_
        rw [show delayP c (k : Int) ticks now = (c, 3) from by unfold delayP; rw [if_neg (fun h => by have := HH.out; omega)]]
        exact ⟨q', rfl, HO.out, HB.out⟩
      · have d1 : decide (4096 < ticks) = false := decide_eq_false h1
        have HT := hid (show 0 ≤ (k : Int) ∧ (k : Int) < c.pr.length ∧ 0 ≤ ticks ∧ ticks ≤ 4096 by omega)
        clear h0 h1
        obtain ⟨b1, off, hap, hbw, hpx⟩ := HPc.out (by omega)
        subst hap
        have HP0 := hid (show PxAt w b1 (off + k * 18) (c.pr.getD k Px.zero) from fun j hj => hpx k hk j hj)
        clear hpx
        obtain ⟨r, hr⟩ : ∃ r, c.pr.getD k Px.zero = r := ⟨_, rfl⟩
        rw [hr] at HP0
        have HR := hid hr
        have HK := hid hk
        clear hr
        clear kPB4
        have kPB4 : v2.cell? ⟨w.heap.size, 4, none⟩ = some (.slice (some ⟨b1, off, none⟩) c.pr.length cpp) := (BoxAt.cell PB.out 4).trans (by show some q.pr.val = _; rw [HPv.out])
        have kS : v2.cell? ⟨b1, off + k * 18, none⟩ = some (.int .i64 r.st) := (HP0.out.below HB.out hbw).st
        have hkI : (k : Int) < (c.pr.length : Int) := by have := HK.out; omega
        by_cases hst : r.st ≠ 1
        · have t1 : (r.st != 1) = true := by simpa using hst
          have HS := hid hst
          clear hst
          go_wp2_with (first
            | (with_reducible refine wpList_dst 34 rfl ?_
               refine wpList_load_box rfl 39 _ rfl w.heap.size rfl _ _ PB.out _ Try.underlying39 Try.infoPa ?_)
            | fail)
          refine (own_any (HA.out.below HB.out) HSm.out).mono ?_
          rintro e v7 ⟨q', rfl, ho, hb⟩
          have PB := hid (PB.out.belowAll hb)
          have RB := hid (RB.out.belowAll hb)
          have HB := hid (HB.out.trans (hb.mono HB.out.size))
          have hsv7 : v2.heap.size ≤ v7.heap.size := hb.size
          have HO := hid (ho.mono (show w.heap.size ≤ v2.heap.size by omega))
          clear ho
          clear hb
          have FL5 := hid trivial
          go_wp2_with (first
            | (have hfl := FL5.out
               refine wpList_store_whole rfl 39 _ _ rfl rfl v1.heap.size rfl (PaV.cells q') rfl _ _ RB.out rfl Try.infoPa (PaV.one _) ?_
               intro v8 b g z
               have hsv8 : v7.heap.size ≤ v8.heap.size := by omega
               have HO := hid (HO.out.turn (Turns.grown (S := fun t => t = 39) RB.out b rfl g))
               have RB := hid (show BoxAt v8 v1.heap.size 39 (PaV.cells q').toArray from b)
               have PB := hid (PB.out.grown g (fun e => by have := Option.some.inj e; omega))
               have HB := hid (HB.out.trans (grown_below g (by omega) (by omega)))
               clear b g z hfl FL5)
            | fail)
          refine bodyPost_ret (results_box_tmp rfl _ _ (v1.heap.size) 39 _ (0, 0) _ rfl RB.out Try.underlying39 rfl Try.infoPa) rfl ?_
          rw [show delayP c (k : Int) ticks now = (c, 4) from by unfold delayP; rw [if_pos HT.out, if_pos (by rw [Int.toNat_natCast, HR.out]; exact HS.out)]]
          exact ⟨q', rfl, HO.out, HB.out⟩
        · have hst1 : r.st = 1 := Decidable.not_not.1 hst
          have t1 : (r.st != 1) = false := by simpa using hst1
          have HS := hid hst1
          clear hst hst1
          by_cases h2 : ticks = 0
          · subst h2
            go_wp2_with (first
              | (with_reducible refine wpList_dst 39 rfl ?_
                 refine wpList_load_box rfl 39 _ rfl w.heap.size rfl _ _ PB.out _ Try.underlying39 Try.infoPa ?_)
              | fail)
            refine (queued1_any HK.out (HA.out.below HB.out) HSm.out).mono ?_
            rintro e v9 ⟨q', rfl, ho, hb⟩
            have PB := hid (PB.out.belowAll hb)
            have RB := hid (RB.out.belowAll hb)
            have HB := hid (HB.out.trans (hb.mono HB.out.size))
            have hsv9 : v2.heap.size ≤ v9.heap.size := hb.size
            have HO := hid (ho.mono (show w.heap.size ≤ v2.heap.size by omega))
            clear ho
            clear hb
            have FL6 := hid trivial
            go_wp2_with (first
              | (have hfl := FL6.out
                 refine wpList_store_whole rfl 39 _ _ rfl rfl v1.heap.size rfl (PaV.cells q') rfl _ _ RB.out rfl Try.infoPa (PaV.one _) ?_
                 intro v10 b g z
                 have hsv10 : v9.heap.size ≤ v10.heap.size := by omega
                 have HO := hid (HO.out.turn (Turns.grown (S := fun t => t = 39) RB.out b rfl g))
                 have RB := hid (show BoxAt v10 v1.heap.size 39 (PaV.cells q').toArray from b)
                 have PB := hid (PB.out.grown g (fun e => by have := Option.some.inj e; omega))
                 have HB := hid (HB.out.trans (grown_below g (by omega) (by omega)))
                 clear b g z hfl FL6)
              | fail)
            refine bodyPost_ret (results_box_tmp rfl _ _ (v1.heap.size) 39 _ (0, 0) _ rfl RB.out Try.underlying39 rfl Try.infoPa) rfl ?_
            rw [show delayP c (k : Int) 0 now = ({ c with pr := c.pr.set k { c.pr.getD k Px.zero with si := c.nx }, nx := wrap64 (c.nx + 1) }, 0) from by unfold delayP; rw [if_pos HT.out, Int.toNat_natCast, if_neg (by rw [HR.out, HS.out]; simp), if_pos rfl]]
            exact ⟨q', rfl, HO.out, HB.out⟩
          · have t2 : (ticks == 0) = false := by simpa using h2
            have H2 := hid h2
            clear h2
            go_wp2_with (first
              | (with_reducible refine wpList_dst 42 rfl ?_
                 refine wpList_load_box rfl 39 _ rfl w.heap.size rfl _ _ PB.out _ Try.underlying39 Try.infoPa ?_)
              | fail)
            refine (block_api (i := (k : Int)) (ki := 1) (ob := 0) (un := wrap64 (now + ticks)) (ca := 7) (HA.out.below HB.out) HSm.out).mono ?_
            rintro e v11 ⟨q', rfl, ho, hb⟩
            have PB := hid (PB.out.belowAll hb)
            have RB := hid (RB.out.belowAll hb)
            have HB := hid (HB.out.trans (hb.mono HB.out.size))
            have hsv11 : v2.heap.size ≤ v11.heap.size := hb.size
            have HO := hid (ho.mono (show w.heap.size ≤ v2.heap.size by omega))
            clear ho
            clear hb
            have FL7 := hid trivial
            go_wp2_with (first
              | (have hfl := FL7.out
                 refine wpList_store_whole rfl 39 _ _ rfl rfl v1.heap.size rfl (PaV.cells q') rfl _ _ RB.out rfl Try.infoPa (PaV.one _) ?_
                 intro v12 b g z
                 have hsv12 : v11.heap.size ≤ v12.heap.size := by omega
                 have HO := hid (HO.out.turn (Turns.grown (S := fun t => t = 39) RB.out b rfl g))
                 have RB := hid (show BoxAt v12 v1.heap.size 39 (PaV.cells q').toArray from b)
                 have PB := hid (PB.out.grown g (fun e => by have := Option.some.inj e; omega))
                 have HB := hid (HB.out.trans (grown_below g (by omega) (by omega)))
                 clear b g z hfl FL7)
              | fail)
            refine bodyPost_ret (results_box_tmp rfl _ _ (v1.heap.size) 39 _ (0, 0) _ rfl RB.out Try.underlying39 rfl Try.infoPa) rfl ?_
            rw [show delayP c (k : Int) ticks now = (blockP c (k : Int) 1 0 (wrap64 (now + ticks)) 7, 6) from by unfold delayP; rw [if_pos HT.out, Int.toNat_natCast, if_neg (by rw [HR.out, HS.out]; simp), if_neg H2.out]]
            exact ⟨q', rfl, HO.out, HB.out⟩
  · have HIn := hid hin
    rw [decide_eq_false hin]
    clear hin
    go_wp2_with (first
      | (with_reducible refine wpList_dst 24 rfl ?_
         refine wpList_load_box rfl 39 _ rfl w.heap.size rfl _ _ PB.out _ Try.underlying39 Try.infoPa ?_)
      | fail)
    refine (own_any (HA.out.below HB.out) HSm.out).mono ?_
    rintro e v13 ⟨q', rfl, ho, hb⟩
    have PB := hid (PB.out.belowAll hb)
    have RB := hid (RB.out.belowAll hb)
    have HB := hid (HB.out.trans (hb.mono HB.out.size))
    have hsv13 : v2.heap.size ≤ v13.heap.size := hb.size
    have HO := hid (ho.mono (show w.heap.size ≤ v2.heap.size by omega))
    clear ho
    clear hb
    have FL8 := hid trivial
    go_wp2_with (first
      | (have hfl := FL8.out
         refine wpList_store_whole rfl 39 _ _ rfl rfl v1.heap.size rfl (PaV.cells q') rfl _ _ RB.out rfl Try.infoPa (PaV.one _) ?_
         intro v14 b g z
         have hsv14 : v13.heap.size ≤ v14.heap.size := by omega
         have HO := hid (HO.out.turn (Turns.grown (S := fun t => t = 39) RB.out b rfl g))
         have RB := hid (show BoxAt v14 v1.heap.size 39 (PaV.cells q').toArray from b)
         have PB := hid (PB.out.grown g (fun e => by have := Option.some.inj e; omega))
         have HB := hid (HB.out.trans (grown_below g (by omega) (by omega)))
         clear b g z hfl FL8)
      | fail)
    refine bodyPost_ret (results_box_tmp rfl _ _ (v1.heap.size) 39 _ (0, 0) _ rfl RB.out Try.underlying39 rfl Try.infoPa) rfl ?_
    rw [show delayP c i ticks now = (c, 3) from by unfold delayP; rw [if_neg (fun h => HIn.out ⟨h.1, h.2.1⟩)]]
    exact ⟨q', rfl, HO.out, HB.out⟩

set_option maxRecDepth 100000 in
set_option maxHeartbeats 6400000 in
theorem repl_any {qc : Pv} {cc : Pt} {q : PaV} {c : Pa} {w : World} {i ticks now : Int} (hc : PtAt w qc cc) (ha : PaAt w q c) (hsm : c.small) :
    Calls Try.prog 21 #[qc.val, q.val, .int .i64 i, .int .i64 ticks, .int .i64 now] w fun e w' => ∃ q', e = .returned (.tuple #[PaV.val q', .int .i64 (replP cc c i ticks now).2]) ∧ PaO w' w.heap.size q' (replP cc c i ticks now).1 ∧ Below w.heap.size w w' := by
  have HA := hid ha
  have HSm := hid hsm
  have HB := hid (Below.refl w.heap.size w)
  obtain ⟨ap, cpp, hpv, hp1, hp2, hpcell⟩ := ha.pr.form
  have hmax : cpp ≤ 9223372036854775807 := hp2
  have HPv := hid hpv
  have HPc := hid hpcell
  clear ha hsm hpv hp2 hpcell
  obtain ⟨ac, cpc, hcv, hc1, hc2, hccell⟩ := hc.pc.form
  have hmaxc : cpc ≤ 9223372036854775807 := hc2
  have HCv := hid hcv
  have HCc := hid hccell
  clear hc hcv hc2 hccell
  go_enter Try.func21, Try.ntmps21
  have FL1 := hid trivial
  have FL2 := hid trivial
  have FL3 := hid trivial
  go_wp2_with (first
    | (have hfl := FL1.out
       refine wpList_box rfl 28 (.tmp 0) rfl (Pv.cells qc).toArray rfl ?_
       intro v1 b h z
       have CB := hid (show BoxAt v1 w.heap.size 28 (Pv.cells qc).toArray from b)
       have HB := hid (HB.out.trans (h.mono HB.out.size))
       have hsv1 : w.heap.size + 1 ≤ v1.heap.size := by omega
       clear b h z hfl FL1)
    | (have hfl := FL2.out
       refine wpList_box rfl 39 (.tmp 1) rfl (PaV.cells q).toArray rfl ?_
       intro v2 b h z
       have PB := hid (show BoxAt v2 v1.heap.size 39 (PaV.cells q).toArray from b)
       have CB := hid (CB.out.belowAll h)
       have HB := hid (HB.out.trans (h.mono HB.out.size))
       have hsv2 : v1.heap.size + 1 ≤ v2.heap.size := by omega
       clear b h z hfl FL2)
    | (have hfl := FL3.out
       refine wpList_new rfl 39 rfl _ Try.zeroPa ?_
       intro v3 b h z
       have RB := hid (show BoxAt v3 v2.heap.size 39 (PaV.cells PaV.zero).toArray from b)
       have CB := hid (CB.out.belowAll h)
       have PB := hid (PB.out.belowAll h)
       have HB := hid (HB.out.trans (h.mono HB.out.size))
       have hsv3 : v2.heap.size + 1 ≤ v3.heap.size := by omega
       clear b h z hfl FL3)
    | (refine wpList_load_box rfl 39 _ rfl v1.heap.size rfl _ _ PB.out _ Try.underlying39 Try.infoPa ?_)
    | fail)
  refine (own_any (HA.out.below HB.out) HSm.out).mono ?_
  rintro e v4 ⟨q1, rfl, ho, hb⟩
  have CB := hid (CB.out.belowAll hb)
  have PB := hid (PB.out.belowAll hb)
  have RB := hid (RB.out.belowAll hb)
  have HB := hid (HB.out.trans (hb.mono HB.out.size))
  have hsv4 : v3.heap.size ≤ v4.heap.size := hb.size
  have HO := hid (ho.mono (show w.heap.size ≤ v3.heap.size by omega))
  clear ho
  have kCB2 : v4.cell? ⟨w.heap.size, 2, none⟩ = some (.slice ac cc.pc.length cpc) := (BoxAt.cell CB.out 2).trans (by show some qc.v2.val = _; rw [HCv.out])
  clear hb
  obtain ⟨a1, cp1, hpv1, _, hm1, _⟩ := HO.out.pr.sees.form
  have HPv1 := hid hpv1
  clear hpv1
  have FL4 := hid trivial
  go_wp2_with (first
    | (have hfl := FL4.out
       refine wpList_store_whole rfl 39 _ _ rfl rfl v1.heap.size rfl (PaV.cells q1) rfl _ _ PB.out rfl Try.infoPa (PaV.one _) ?_
       intro v5 b g z
       have hsv5 : v4.heap.size ≤ v5.heap.size := by omega
       have HO := hid (HO.out.turn (Turns.grown (S := fun t => t = 39) PB.out b rfl g))
       have PB := hid (show BoxAt v5 v1.heap.size 39 (PaV.cells q1).toArray from b)
       have CB := hid (CB.out.grown g (fun e => by have := Option.some.inj e; omega))
       have RB := hid (RB.out.grown g (fun e => by have := Option.some.inj e; omega))
       have HB := hid (HB.out.trans (grown_below g (by omega) (by omega)))
       clear kCB2
       have kCB2 : v5.cell? ⟨w.heap.size, 2, none⟩ = some (.slice ac cc.pc.length cpc) := (BoxAt.cell CB.out 2).trans (by show some qc.v2.val = _; rw [HCv.out])
       have kPB4 : v5.cell? ⟨v1.heap.size, 4, none⟩ = some (.slice a1 c.pr.length cp1) := (BoxAt.cell PB.out 4).trans (by show some q1.pr.val = _; rw [HPv1.out])
       clear b g z hfl FL4)
    | fail)
  refine (uthere_Px _ _ _ _ _).mono ?_
  rintro e v5 ⟨rfl, rfl⟩
  by_cases hin : 0 ≤ i ∧ i < c.pr.length
  · rw [decide_eq_true hin]
    obtain ⟨k, hki⟩ : ∃ k : Nat, i = (k : Int) := ⟨i.toNat, by omega⟩
    have hk : k < c.pr.length := by omega
    subst hki
    clear hin
    go_wp2_with fail
    refine (uthere_Pc _ _ _ _ _).mono ?_
    rintro e v5 ⟨rfl, rfl⟩
    by_cases hinc : 0 ≤ (k : Int) ∧ (k : Int) < cc.pc.length
    · rw [decide_eq_true hinc]
      have hkc : k < cc.pc.length := by omega
      clear hinc
      by_cases h0 : ticks < 1
      · have d0 : decide (ticks < 1) = true := decide_eq_true h0
        have HH := hid h0
        clear h0
        have FL5 := hid trivial
        go_wp2_with (first
          | (with_reducible refine wpList_dst 35 rfl ?_
             refine wpList_load_box rfl 39 _ rfl v1.heap.size rfl _ _ PB.out _ Try.underlying39 Try.infoPa ?_)
          | (have hfl := FL5.out
             refine wpList_store_whole rfl 39 _ _ rfl rfl v2.heap.size rfl (PaV.cells q1) rfl _ _ RB.out rfl Try.infoPa (PaV.one _) ?_
             intro v6 b g z
             have hsv6 : v5.heap.size ≤ v6.heap.size := by omega
             have HO := hid (HO.out.turn (Turns.grown (S := fun t => t = 39) RB.out b rfl g))
             have RB := hid (show BoxAt v6 v2.heap.size 39 (PaV.cells q1).toArray from b)
             have CB := hid (CB.out.grown g (fun e => by have := Option.some.inj e; omega))
             have PB := hid (PB.out.grown g (fun e => by have := Option.some.inj e; omega))
             have HB := hid (HB.out.trans (grown_below g (by omega) (by omega)))
             clear b g z hfl FL5)
          | fail)
        refine bodyPost_ret (results_box_tmp rfl _ _ (v2.heap.size) 39 _ (0, 0) _ rfl RB.out Try.underlying39 rfl Try.infoPa) rfl ?_
        rw [show replP cc c (k : Int) ticks now = (c, 3) from by unfold replP; rw [if_neg (fun h => by have := HH.out; omega)]]
        exact ⟨q1, rfl, HO.out, HB.out⟩
      · have d0 : decide (ticks < 1) = false := decide_eq_false h0
        by_cases h1 : 4096 < ticks
        · have d1 : decide (4096 < ticks) = true := decide_eq_true h1
          have HH := hid h1
          clear h0 h1
          have FL6 := hid trivial
          go_wp2_with (first
            | (with_reducible refine wpList_dst 35 rfl ?_
               refine wpList_load_box rfl 39 _ rfl v1.heap.size rfl _ _ PB.out _ Try.underlying39 Try.infoPa ?_)
            | (have hfl := FL6.out
               refine wpList_store_whole rfl 39 _ _ rfl rfl v2.heap.size rfl (PaV.cells q1) rfl _ _ RB.out rfl Try.infoPa (PaV.one _) ?_
               intro v7 b g z
               have hsv7 : v5.heap.size ≤ v7.heap.size := by omega
               have HO := hid (HO.out.turn (Turns.grown (S := fun t => t = 39) RB.out b rfl g))
               have RB := hid (show BoxAt v7 v2.heap.size 39 (PaV.cells q1).toArray from b)
               have CB := hid (CB.out.grown g (fun e => by have := Option.some.inj e; omega))
               have PB := hid (PB.out.grown g (fun e => by have := Option.some.inj e; omega))
               have HB := hid (HB.out.trans (grown_below g (by omega) (by omega)))
               clear b g z hfl FL6)
            | fail)
          refine bodyPost_ret (results_box_tmp rfl _ _ (v2.heap.size) 39 _ (0, 0) _ rfl RB.out Try.underlying39 rfl Try.infoPa) rfl ?_
          rw [show replP cc c (k : Int) ticks now = (c, 3) from by unfold replP; rw [if_neg (fun h => by have := HH.out; omega)]]
          exact ⟨q1, rfl, HO.out, HB.out⟩
        · have d1 : decide (4096 < ticks) = false := decide_eq_false h1
          have HT := hid (show 0 ≤ (k : Int) ∧ (k : Int) < c.pr.length ∧ (k : Int) < cc.pc.length ∧ 1 ≤ ticks ∧ ticks ≤ 4096 by omega)
          have hkI : (k : Int) < (c.pr.length : Int) := by omega
          have hkM : (k : Int) < (cc.pc.length : Int) := by omega
          clear h0 h1
          obtain ⟨gq, cap, hq1, hg1, hg2, hg3, hg4⟩ := HO.out.hdr (by omega)
          have HQ := hid hq1
          have HNx := hid HO.out.nx
          clear hq1
          obtain ⟨b2, of2, hac, hcw, hccell⟩ := HCc.out (by omega)
          subst hac
          obtain ⟨f, hf⟩ : ∃ f, cc.pc.getD k Pc.zero = f := ⟨_, rfl⟩
          have HFc := hid (show w.cell? ⟨b2, of2 + k * 5 + 2, none⟩ = some (.int .i64 f.li) from by rw [← hf]; exact hccell k hkc 2 (by decide))
          have HF := hid hf
          clear hf hccell HCc
          obtain ⟨r, hr⟩ : ∃ r, c.pr.getD k Px.zero = r := ⟨_, rfl⟩
          have HR := hid hr
          have HK := hid hk
          clear hr
          have HS0 := hid (show v5.cell? ⟨gq, k * 18, none⟩ = some (.int .i64 r.st) from by have h := HO.out.pr; rw [HQ.out] at h; rw [← HR.out]; exact (OP.at (show OP v5 w.heap.size (.slice (some ⟨gq, 0, none⟩) c.pr.length cap) c.pr from h) k HK.out).st)
          clear kCB2
          have kCB2 : v5.cell? ⟨w.heap.size, 2, none⟩ = some (.slice (some ⟨b2, of2, none⟩) cc.pc.length cpc) := (BoxAt.cell CB.out 2).trans (by show some qc.v2.val = _; rw [HCv.out])
          clear kPB4
          have kPB4 : v5.cell? ⟨v1.heap.size, 4, none⟩ = some (.slice (some ⟨gq, 0, none⟩) c.pr.length cap) := (BoxAt.cell PB.out 4).trans (by show some q1.pr.val = _; rw [HQ.out]; rfl)
          have kL : v5.cell? ⟨b2, of2 + k * 5 + 2, none⟩ = some (.int .i64 f.li) := (HB.out.cell (p := ⟨b2, of2 + k * 5 + 2, none⟩) hcw).trans HFc.out
          have kS := HS0.out
          by_cases hl : f.li = 0
          · have t1 : (f.li == 0) = true := by simpa using hl
            have HL := hid hl
            clear hl kS
            have FL7 := hid trivial
            go_wp2_with (first
              | (with_reducible refine wpList_dst 53 rfl ?_
                 refine wpList_load_box rfl 39 _ rfl v1.heap.size rfl _ _ PB.out _ Try.underlying39 Try.infoPa ?_)
              | (have hfl := FL7.out
                 refine wpList_store_whole rfl 39 _ _ rfl rfl v2.heap.size rfl (PaV.cells q1) rfl _ _ RB.out rfl Try.infoPa (PaV.one _) ?_
                 intro v8 b g z
                 have hsv8 : v5.heap.size ≤ v8.heap.size := by omega
                 have HO := hid (HO.out.turn (Turns.grown (S := fun t => t = 39) RB.out b rfl g))
                 have RB := hid (show BoxAt v8 v2.heap.size 39 (PaV.cells q1).toArray from b)
                 have CB := hid (CB.out.grown g (fun e => by have := Option.some.inj e; omega))
                 have PB := hid (PB.out.grown g (fun e => by have := Option.some.inj e; omega))
                 have HB := hid (HB.out.trans (grown_below g (by omega) (by omega)))
                 clear b g z hfl FL7)
              | fail)
            refine bodyPost_ret (results_box_tmp rfl _ _ (v2.heap.size) 39 _ (0, 0) _ rfl RB.out Try.underlying39 rfl Try.infoPa) rfl ?_
            rw [show replP cc c (k : Int) ticks now = (c, 1) from by unfold replP; rw [if_pos HT.out, if_pos (by rw [Int.toNat_natCast, HF.out]; exact .inl HL.out)]]
            exact ⟨q1, rfl, HO.out, HB.out⟩
          · have t1 : (f.li == 0) = false := by simpa using hl
            have HL := hid hl
            clear hl
            by_cases hst : r.st = 0
            · have t2 : (r.st == 0) = true := by simpa using hst
              have HS := hid hst
              clear hst
              have FL8 := hid trivial
              go_wp2_with (first
                | (with_reducible refine wpList_dst 53 rfl ?_
                   refine wpList_load_box rfl 39 _ rfl v1.heap.size rfl _ _ PB.out _ Try.underlying39 Try.infoPa ?_)
                | (have hfl := FL8.out
                   refine wpList_store_whole rfl 39 _ _ rfl rfl v2.heap.size rfl (PaV.cells q1) rfl _ _ RB.out rfl Try.infoPa (PaV.one _) ?_
                   intro v9 b g z
                   have hsv9 : v5.heap.size ≤ v9.heap.size := by omega
                   have HO := hid (HO.out.turn (Turns.grown (S := fun t => t = 39) RB.out b rfl g))
                   have RB := hid (show BoxAt v9 v2.heap.size 39 (PaV.cells q1).toArray from b)
                   have CB := hid (CB.out.grown g (fun e => by have := Option.some.inj e; omega))
                   have PB := hid (PB.out.grown g (fun e => by have := Option.some.inj e; omega))
                   have HB := hid (HB.out.trans (grown_below g (by omega) (by omega)))
                   clear b g z hfl FL8)
                | fail)
              refine bodyPost_ret (results_box_tmp rfl _ _ (v2.heap.size) 39 _ (0, 0) _ rfl RB.out Try.underlying39 rfl Try.infoPa) rfl ?_
              rw [show replP cc c (k : Int) ticks now = (c, 1) from by unfold replP; rw [if_pos HT.out, if_pos (by rw [Int.toNat_natCast, HR.out]; exact .inr HS.out)]]
              exact ⟨q1, rfl, HO.out, HB.out⟩
            · have t2 : (r.st == 0) = false := by simpa using hst
              have HS := hid hst
              clear hst
              have FL9 := hid trivial
              have FL10 := hid trivial
              go_wp2_with (first
                | (have hfl := FL9.out
                   have HPs := PW.start (base := w.heap.size) (show OP _ w.heap.size (.slice (some ⟨gq, 0, none⟩) c.pr.length cap) c.pr from by have h := HO.out.pr; rw [HQ.out] at h; exact h) HK.out
                   rw [HR.out] at HPs
                   refine wpList_store_pw rfl 3 _ _ rfl rfl HPs 12 (by decide) (.int .i64 (wrap64 (now + ticks))) rfl rfl rfl rfl (by kernel_rfl) ({ r with du := wrap64 (now + ticks) }) rfl ?_
                   intro v10 hp gr z
                   obtain ⟨ht, hbb⟩ := pw_turns HPs hp gr
                   have HO := hid (HO.out.wrote HQ.out ht hp)
                   have CB := hid (CB.out.turn (S := fun t => t = 57) (by decide) ht)
                   have PB := hid (PB.out.turn (S := fun t => t = 57) (by decide) ht)
                   have RB := hid (RB.out.turn (S := fun t => t = 57) (by decide) ht)
                   have HB := hid (HB.out.trans hbb)
                   have hsv10 : v5.heap.size ≤ v10.heap.size := by omega
                   clear hp gr z ht hbb HPs hfl FL9)
                | (with_reducible refine wpList_dst 62 rfl ?_
                   refine wpList_load_box rfl 39 _ rfl v1.heap.size rfl _ _ PB.out _ Try.underlying39 Try.infoPa ?_)
                | (have hfl := FL10.out
                   refine wpList_store_whole rfl 39 _ _ rfl rfl v2.heap.size rfl (PaV.cells q1) rfl _ _ RB.out rfl Try.infoPa (PaV.one _) ?_
                   intro v11 b g z
                   have hsv11 : v10.heap.size ≤ v11.heap.size := by omega
                   have HO := hid (HO.out.turn (Turns.grown (S := fun t => t = 39) RB.out b rfl g))
                   have RB := hid (show BoxAt v11 v2.heap.size 39 (PaV.cells q1).toArray from b)
                   have CB := hid (CB.out.grown g (fun e => by have := Option.some.inj e; omega))
                   have PB := hid (PB.out.grown g (fun e => by have := Option.some.inj e; omega))
                   have HB := hid (HB.out.trans (grown_below g (by omega) (by omega)))
                   clear b g z hfl FL10)
                | fail)
              refine bodyPost_ret (results_box_tmp rfl _ _ (v2.heap.size) 39 _ (0, 0) _ rfl RB.out Try.underlying39 rfl Try.infoPa) rfl ?_
              rw [show replP cc c (k : Int) ticks now = ({ c with pr := c.pr.set k { r with du := wrap64 (now + ticks) } }, 0) from by unfold replP; rw [if_pos HT.out, Int.toNat_natCast, if_neg (by rw [HR.out, HF.out]; exact fun h => h.elim HL.out HS.out), HR.out]]
              exact ⟨q1, rfl, HO.out, HB.out⟩
    · have HH := hid hinc
      rw [decide_eq_false hinc]
      clear hinc
      have FL11 := hid trivial
      go_wp2_with (first
        | (with_reducible refine wpList_dst 35 rfl ?_
           refine wpList_load_box rfl 39 _ rfl v1.heap.size rfl _ _ PB.out _ Try.underlying39 Try.infoPa ?_)
        | (have hfl := FL11.out
           refine wpList_store_whole rfl 39 _ _ rfl rfl v2.heap.size rfl (PaV.cells q1) rfl _ _ RB.out rfl Try.infoPa (PaV.one _) ?_
           intro v12 b g z
           have hsv12 : v5.heap.size ≤ v12.heap.size := by omega
           have HO := hid (HO.out.turn (Turns.grown (S := fun t => t = 39) RB.out b rfl g))
           have RB := hid (show BoxAt v12 v2.heap.size 39 (PaV.cells q1).toArray from b)
           have CB := hid (CB.out.grown g (fun e => by have := Option.some.inj e; omega))
           have PB := hid (PB.out.grown g (fun e => by have := Option.some.inj e; omega))
           have HB := hid (HB.out.trans (grown_below g (by omega) (by omega)))
           clear b g z hfl FL11)
        | fail)
      refine bodyPost_ret (results_box_tmp rfl _ _ (v2.heap.size) 39 _ (0, 0) _ rfl RB.out Try.underlying39 rfl Try.infoPa) rfl ?_
      rw [show replP cc c (k : Int) ticks now = (c, 3) from by unfold replP; rw [if_neg (fun h => HH.out ⟨h.1, h.2.2.1⟩)]]
      exact ⟨q1, rfl, HO.out, HB.out⟩
  · have HH := hid hin
    rw [decide_eq_false hin]
    clear hin
    have FL12 := hid trivial
    go_wp2_with (first
      | (with_reducible refine wpList_dst 35 rfl ?_
         refine wpList_load_box rfl 39 _ rfl v1.heap.size rfl _ _ PB.out _ Try.underlying39 Try.infoPa ?_)
      | (have hfl := FL12.out
         refine wpList_store_whole rfl 39 _ _ rfl rfl v2.heap.size rfl (PaV.cells q1) rfl _ _ RB.out rfl Try.infoPa (PaV.one _) ?_
         intro v13 b g z
         have hsv13 : v5.heap.size ≤ v13.heap.size := by omega
         have HO := hid (HO.out.turn (Turns.grown (S := fun t => t = 39) RB.out b rfl g))
         have RB := hid (show BoxAt v13 v2.heap.size 39 (PaV.cells q1).toArray from b)
         have CB := hid (CB.out.grown g (fun e => by have := Option.some.inj e; omega))
         have PB := hid (PB.out.grown g (fun e => by have := Option.some.inj e; omega))
         have HB := hid (HB.out.trans (grown_below g (by omega) (by omega)))
         clear b g z hfl FL12)
      | fail)
    refine bodyPost_ret (results_box_tmp rfl _ _ (v2.heap.size) 39 _ (0, 0) _ rfl RB.out Try.underlying39 rfl Try.infoPa) rfl ?_
    rw [show replP cc c i ticks now = (c, 3) from by unfold replP; rw [if_neg (fun h => HH.out ⟨h.1, h.2.1⟩)]]
    exact ⟨q1, rfl, HO.out, HB.out⟩

end Go.Proofs.Ytdanfnbclbiidaa
