/-
  TimesDelays: a process delayed by no ticks is ready, behind all others; by some it waits for just so many.
-/
import Derived.Test.YtdanfnbclbiidaaUAwake
import Derived.Test.YtdanfnbclbiidaaQLaws1
import Derived.Test.YtdanfnbclbiidaaQSame3E
namespace Go.Proofs.Ytdanfnbclbiidaa
open Go.RowKit
set_option linter.unusedVariables false

theorem PaO.rowx {w : World} {base gq cap k : Nat} {q : PaV} {c : Pa} {x : Px} (h : PaO w base q c) (hq : q.pr = ⟨some ⟨gq, 0, none⟩, c.pr.length, cap⟩) (hk : k < c.pr.length) (hx : c.pr.getD k Px.zero = x) : PxAt w gq (k * 18) x := by
  have h1 := h.pr
  rw [hq] at h1
  rw [← hx]
  exact OP.at h1 k hk

set_option maxRecDepth 100000 in
set_option maxHeartbeats 12800000 in
theorem walk_TimesDelays (w : World) (x0 : PtX) (f0 : x0.fit w) (x1 : PaX) (f1 : x1.fit w) (i : Int) (w2 : (Lit.int .i64 i).wf = true) (ticks : Int) (w3 : (Lit.int .i64 ticks).wf = true) (now : Int) (w4 : (Lit.int .i64 now).wf = true) (hN : 2 * (x1.c.bo.length + x1.c.bu.length + x1.c.se.length + x1.c.ev.length) ≤ 1048576) :
    Calls Try.prog 7 #[x0.val, x1.val, .int .i64 i, .int .i64 ticks, .int .i64 now] w fun e w' => e = .returned (.bool true) ∧ Below w.heap.size w w' := by
  obtain ⟨qc, cc⟩ := x0
  obtain ⟨q, c⟩ := x1
  unfold PtX.val PaX.val
  simp only at hN ⊢
  have HC := hid f0.1
  have HA := hid f1.1
  have HNm := hid (show c.bo.length + c.bu.length + c.se.length + c.ev.length ≤ 900000 by omega)
  obtain ⟨ac, cpc, hcv, hc1, hc2, hcell⟩ := HC.out.pc.form
  have hmaxc : cpc ≤ 9223372036854775807 := hc2
  have HCv := hid hcv
  have HCc := hid hcell
  clear hcv hc2 hcell
  obtain ⟨ap, cpp, hpv, hp1, hp2, hpcell⟩ := HA.out.pr.form
  have hmax : cpp ≤ 9223372036854775807 := hp2
  have HPv := hid hpv
  have HPc := hid hpcell
  clear hpv hp2 hpcell
  clear hN f0 f1 w2 w3 w4
  have HB := hid (Below.refl w.heap.size w)
  go_enter Try.func7, Try.ntmps7
  have FL1 := hid trivial
  have FL2 := hid trivial
  go_wp2_with (first
    | (have hfl := FL1.out
       refine wpList_box rfl 28 (.tmp 0) rfl (Pv.cells qc).toArray rfl ?_
       intro v1 b h z
       have CB := hid (show BoxAt v1 w.heap.size 28 (Pv.cells qc).toArray from b)
       have HB := hid (HB.out.trans (h.mono HB.out.size))
       have hsv1 : w.heap.size + 1 ≤ v1.heap.size := by omega
       clear b h z hfl FL1)
    | (have hfl := FL2.out
       refine wpList_box rfl 39 (.tmp 1) rfl (PaV.cells q).toArray rfl ?_
       intro v2 b h z
       have PB := hid (show BoxAt v2 v1.heap.size 39 (PaV.cells q).toArray from b)
       have CB := hid (CB.out.belowAll h)
       have HB := hid (HB.out.trans (h.mono HB.out.size))
       have hsv2 : v1.heap.size + 1 ≤ v2.heap.size := by omega
       clear b h z hfl FL2)
    | fail)
  refine (uawake_any _).mono ?_
  rintro e v3 ⟨rfl, hb⟩
  have CB := hid (CB.out.belowAll hb)
  have PB := hid (PB.out.belowAll hb)
  have HB := hid (HB.out.trans (hb.mono HB.out.size))
  have hsv3 : v2.heap.size ≤ v3.heap.size := hb.size
  clear hb
  go_wp2_with (first
    | (refine wpList_load_box rfl 39 _ rfl v1.heap.size rfl _ _ PB.out _ Try.underlying39 Try.infoPa ?_)
    | fail)
  refine (few_tot (HA.out.below HB.out) HNm.out).mono ?_
  rintro e v4 ⟨⟨ok, rfl, hok⟩, hb⟩
  have CB := hid (CB.out.belowAll hb)
  have PB := hid (PB.out.belowAll hb)
  have HB := hid (HB.out.trans (hb.mono HB.out.size))
  have hsv4 : v3.heap.size ≤ v4.heap.size := hb.size
  have HOk := hid hok
  clear hok
  clear hb
  have kCB2 : v4.cell? ⟨w.heap.size, 2, none⟩ = some (.slice ac cc.pc.length cpc) := (BoxAt.cell CB.out 2).trans (by show some qc.v2.val = _; rw [HCv.out])
  have kPB4 : v4.cell? ⟨v1.heap.size, 4, none⟩ = some (.slice ap c.pr.length cpp) := (BoxAt.cell PB.out 4).trans (by show some q.pr.val = _; rw [HPv.out])
  rcases ok with _ | _
  · go_wp2
    go_ret
    exact ⟨rfl, HB.out⟩
  have HT := hid (HOk.out rfl)
  have HSm := hid HT.out.small
  clear HOk
  by_cases hbig : (20 : Int) < (cc.pc.length : Int)
  · go_wp2
    go_ret
    exact ⟨rfl, HB.out⟩
  have hd1 : decide ((20 : Int) < (cc.pc.length : Int)) = false := decide_eq_false hbig
  have HBg := hid (show cc.pc.length ≤ 20 by omega)
  clear hbig
  by_cases hn0 : now < 0
  · have hd2 : decide (now < 0) = true := decide_eq_true hn0
    go_wp2
    go_ret
    exact ⟨rfl, HB.out⟩
  have hd2 : decide (now < 0) = false := decide_eq_false hn0
  by_cases hn1 : 1099511627776 < now
  · have hd3 : decide (1099511627776 < now) = true := decide_eq_true hn1
    go_wp2
    go_ret
    exact ⟨rfl, HB.out⟩
  have hd3 : decide (1099511627776 < now) = false := decide_eq_false hn1
  have HNw := hid (show 0 ≤ now ∧ now ≤ 1099511627776 by omega)
  clear hn0 hn1
  go_wp2_with (first
    | (with_reducible refine wpList_dst 44 rfl ?_
       refine wpList_load_box rfl 39 _ rfl v1.heap.size rfl _ _ PB.out _ Try.underlying39 Try.infoPa ?_)
    | fail)
  clear hd1 hd2 hd3 kCB2 kPB4
  refine (delay_any (i := i) (ticks := ticks) (now := now) (HA.out.below HB.out) HSm.out).mono ?_
  rintro e v5 ⟨q1, rfl, ho, hb⟩
  have CB := hid (CB.out.belowAll hb)
  have PB := hid (PB.out.belowAll hb)
  have HB := hid (HB.out.trans (hb.mono HB.out.size))
  have hsv5 : v4.heap.size ≤ v5.heap.size := hb.size
  have HO1 := hid ho
  clear ho
  clear hb
  have HO0 := hid (fun h : (delayP c i ticks now).2 = 0 => delay_none h)
  have HO6 := hid (fun h : (delayP c i ticks now).2 = 6 => delay_some h)
  have HOi := hid (fun (h0 : (delayP c i ticks now).2 ≠ 0) (h6 : (delayP c i ticks now).2 ≠ 6) => delay_idle h0 h6)
  obtain ⟨D, hD⟩ : ∃ D, (delayP c i ticks now).1 = D := ⟨_, rfl⟩
  obtain ⟨cd, hcd⟩ : ∃ cd, (delayP c i ticks now).2 = cd := ⟨_, rfl⟩
  rw [hD] at HO1 HO0 HO6 HOi
  rw [hcd] at HO0 HO6 HOi ⊢
  clear hD hcd
  by_cases h0 : cd = 0
  · obtain ⟨k, hki, hk, ht, hst, hDe⟩ := HO0.out h0
    subst hki
    subst ht
    subst h0
    obtain ⟨r, hr⟩ : ∃ r, c.pr.getD k Px.zero = r := ⟨_, rfl⟩
    rw [hr] at hst hDe
    obtain ⟨x1, hx1⟩ : ∃ x1 : Px, { r with si := c.nx } = x1 := ⟨_, rfl⟩
    rw [hx1] at hDe
    obtain ⟨N, hN⟩ : ∃ N, c.pr.length = N := ⟨_, rfl⟩
    have HDl := hid (show D.pr.length = N from by rw [hDe, ← hN]; simp)
    have HDx := hid (show D.pr.getD k Px.zero = x1 from by rw [hDe]; exact getD_set_self hk _)
    have HDn := hid (show D.nx = wrap64 (c.nx + 1) from by rw [hDe])
    have HCn := hid HA.out.nx
    have HX1 := hid hx1
    have HSt := hid hst
    have HK := hid (show k < D.pr.length from by rw [HDl.out]; omega)
    have hkI : (k : Int) < (N : Int) := by omega
    clear hDe hst hr hk hx1 hN HO0 HO6 HOi HPc
    obtain ⟨gq, cap, hq1, hg1, hg2, hg3, hg4⟩ := HO1.out.hdr (by have := HK.out; omega)
    have HQgq := hid (show q1.pr = ⟨some ⟨gq, 0, none⟩, N, cap⟩ from by rw [← HDl.out]; exact hq1)
    have HQq := hid hq1
    have HNx := hid HO1.out.nx
    clear hq1 hg3
    have kPB2 : v5.cell? ⟨v1.heap.size, 2, none⟩ = some (.int .i64 c.nx) := (BoxAt.cell PB.out 2).trans (by show some (Value.int .i64 q.nx) = _; rw [HCn.out])
    have FL3 := hid trivial
    have FL4 := hid trivial
    go_wp2_with (first
      | (have hfl := FL3.out
         refine wpList_new rfl 39 rfl _ Try.zeroPa ?_
         intro v6 b h z
         have QB := hid (show BoxAt v6 v5.heap.size 39 (PaV.cells PaV.zero).toArray from b)
         have CB := hid (CB.out.belowAll h)
         have PB := hid (PB.out.belowAll h)
         have HO1 := hid (HO1.out.below h)
         have HB := hid (HB.out.trans (h.mono HB.out.size))
         have hsv6 : v5.heap.size + 1 ≤ v6.heap.size := by omega
         clear kPB2
         have kPB2 : v6.cell? ⟨v1.heap.size, 2, none⟩ = some (.int .i64 c.nx) := (BoxAt.cell PB.out 2).trans (by show some (Value.int .i64 q.nx) = _; rw [HCn.out])
         clear b h z hfl FL3)
      | (have hfl := FL4.out
         refine wpList_store_whole rfl 39 _ _ rfl rfl v5.heap.size rfl (PaV.cells q1) rfl _ _ QB.out rfl Try.infoPa (PaV.one _) ?_
         intro v7 b g z
         have hsv7 : v6.heap.size ≤ v7.heap.size := by omega
         have HO1 := hid (HO1.out.turn (Turns.grown (S := fun t => t = 39) QB.out b rfl g))
         have QB := hid (show BoxAt v7 v5.heap.size 39 (PaV.cells q1).toArray from b)
         have CB := hid (CB.out.grown g (fun e => by have := Option.some.inj e; omega))
         have PB := hid (PB.out.grown g (fun e => by have := Option.some.inj e; omega))
         have HB := hid (HB.out.trans (grown_below g (by omega) (by omega)))
         clear kPB2
         have kPB2 : v7.cell? ⟨v1.heap.size, 2, none⟩ = some (.int .i64 c.nx) := (BoxAt.cell PB.out 2).trans (by show some (Value.int .i64 q.nx) = _; rw [HCn.out])
         have kQB4 : v7.cell? ⟨v5.heap.size, 4, none⟩ = some (.slice (some ⟨gq, 0, none⟩) N cap) := (BoxAt.cell QB.out 4).trans (by show some q1.pr.val = _; rw [HQgq.out]; rfl)
         have kQB2 : v7.cell? ⟨v5.heap.size, 2, none⟩ = some (.int .i64 (wrap64 (c.nx + 1))) := (BoxAt.cell QB.out 2).trans (by show some (Value.int .i64 q1.nx) = _; rw [HNx.out, HDn.out])
         clear b g z hfl FL4
         refine Hid.out ?_)
      | fail)
    refine hid ?_
    have FL5 := hid trivial
    have FL6 := hid trivial
    go_wp2_with (first
      | (with_reducible refine wpList_dst 82 rfl ?_
         have hpx1 := HO1.out.rowx HQq.out HK.out HDx.out
         refine wpList_load_px rfl (.tmp 81) rfl gq (k * 18) rfl x1 hpx1 ?_
         clear hpx1)
      | (have hfl := FL5.out
         refine wpList_new rfl 57 rfl _ Try.zeroPx ?_
         intro v8 b h z
         have XB := hid (show BoxAt v8 v7.heap.size 57 (Px.cells Px.zero).toArray from b)
         have CB := hid (CB.out.belowAll h)
         have PB := hid (PB.out.belowAll h)
         have QB := hid (QB.out.belowAll h)
         have HB := hid (HB.out.trans (h.mono HB.out.size))
         have hsv8 : v7.heap.size + 1 ≤ v8.heap.size := by omega
         clear kPB2
         have kPB2 : v8.cell? ⟨v1.heap.size, 2, none⟩ = some (.int .i64 c.nx) := (BoxAt.cell PB.out 2).trans (by show some (Value.int .i64 q.nx) = _; rw [HCn.out])
         clear kQB4
         have kQB4 : v8.cell? ⟨v5.heap.size, 4, none⟩ = some (.slice (some ⟨gq, 0, none⟩) N cap) := (BoxAt.cell QB.out 4).trans (by show some q1.pr.val = _; rw [HQgq.out]; rfl)
         clear kQB2
         have kQB2 : v8.cell? ⟨v5.heap.size, 2, none⟩ = some (.int .i64 (wrap64 (c.nx + 1))) := (BoxAt.cell QB.out 2).trans (by show some (Value.int .i64 q1.nx) = _; rw [HNx.out, HDn.out])
         clear b h z hfl FL5)
      | (have hfl := FL6.out
         refine wpList_store_whole rfl 57 _ _ rfl rfl v7.heap.size rfl (Px.cells x1) rfl _ _ XB.out rfl Try.infoPx (Px.one _) ?_
         intro v9 b g z
         have hsv9 : v8.heap.size ≤ v9.heap.size := by omega
         have XB := hid (show BoxAt v9 v7.heap.size 57 (Px.cells x1).toArray from b)
         have CB := hid (CB.out.grown g (fun e => by have := Option.some.inj e; omega))
         have PB := hid (PB.out.grown g (fun e => by have := Option.some.inj e; omega))
         have QB := hid (QB.out.grown g (fun e => by have := Option.some.inj e; omega))
         have HB := hid (HB.out.trans (grown_below g (by omega) (by omega)))
         clear kPB2
         have kPB2 : v9.cell? ⟨v1.heap.size, 2, none⟩ = some (.int .i64 c.nx) := (BoxAt.cell PB.out 2).trans (by show some (Value.int .i64 q.nx) = _; rw [HCn.out])
         clear kQB4
         have kQB4 : v9.cell? ⟨v5.heap.size, 4, none⟩ = some (.slice (some ⟨gq, 0, none⟩) N cap) := (BoxAt.cell QB.out 4).trans (by show some q1.pr.val = _; rw [HQgq.out]; rfl)
         clear kQB2
         have kQB2 : v9.cell? ⟨v5.heap.size, 2, none⟩ = some (.int .i64 (wrap64 (c.nx + 1))) := (BoxAt.cell QB.out 2).trans (by show some (Value.int .i64 q1.nx) = _; rw [HNx.out, HDn.out])
         have kXB0 : v9.cell? ⟨v7.heap.size, 0, none⟩ = some (.int .i64 1) := (BoxAt.cell XB.out 0).trans (by rw [← HX1.out]; show some (Value.int .i64 r.st) = _; rw [HSt.out])
         have kXB8 : v9.cell? ⟨v7.heap.size, 8, none⟩ = some (.int .i64 c.nx) := (BoxAt.cell XB.out 8).trans (by rw [← HX1.out]; rfl)
         clear b g z hfl FL6)
      | fail)
    go_ret
    exact ⟨rfl, HB.out⟩
  · by_cases h6 : cd = 6
    · obtain ⟨k, hki, hk, ht1, ht2, hst, hDe⟩ := HO6.out h6
      subst hki
      subst h6
      have hwk : wrap64 (now + ticks) = now + ticks := by have h1 := HNw.out; exact wrap_in (by omega) (by omega)
      have hwl : wrap64 (now + ticks - 1) = now + ticks - 1 := by have h1 := HNw.out; exact wrap_in (by omega) (by omega)
      rw [hwk] at hDe
      have hW := hid (fun (n : Int) => delay_wakes (f := cc) (u := now + ticks) (now := n) hk hst (by have h1 := HNw.out; omega))
      rw [← hDe] at hW
      obtain ⟨r, hr⟩ : ∃ r, c.pr.getD k Px.zero = r := ⟨_, rfl⟩
      have hxx := block_at (ki := 1) (ob := 0) (un := now + ticks) (ca := 7) hk hst
      rw [← hDe, hr] at hxx
      obtain ⟨x1, hx1⟩ : ∃ x1 : Px, { r with st := 2, ki := 1, ob := 0, un := now + ticks, ca := 7 } = x1 := ⟨_, rfl⟩
      rw [hx1] at hxx
      obtain ⟨N, hN⟩ : ∃ N, c.pr.length = N := ⟨_, rfl⟩
      have HDl := hid (show D.pr.length = N from by rw [hDe, block_len]; exact hN)
      have HDx := hid hxx
      have HX1 := hid hx1
      have HDs := hid (show D.small from by rw [hDe]; exact block_small HSm.out _ _ _ _ _)
      have HK := hid (show k < D.pr.length from by rw [HDl.out]; omega)
      have hkI : (k : Int) < (N : Int) := by omega
      obtain ⟨Z2, hZ2⟩ : ∃ Z, wakeP cc D (now + ticks - 1) = Z := ⟨_, rfl⟩
      obtain ⟨Z3, hZ3⟩ : ∃ Z, wakeP cc D (now + ticks) = Z := ⟨_, rfl⟩
      have HZ2 := hid hZ2
      have HZ3 := hid hZ3
      have HZl2 := hid (show Z2.pr.length = N from by rw [← hZ2, wakeP_len, HDl.out])
      have HZl3 := hid (show Z3.pr.length = N from by rw [← hZ3, wakeP_len, HDl.out])
      have HZs2 := hid (show (Z2.pr.getD k Px.zero).st = 2 from by rw [← hZ2]; exact (hW.out _).1 (by omega))
      have HZs3 := hid (show (Z3.pr.getD k Px.zero).st = 1 from by rw [← hZ3]; exact (hW.out _).2 (Int.le_refl _))
      have t1 : (ticks == 0) = false := by rw [beq_eq_false_iff_ne]; omega
      have hlo : 0 ≤ now + ticks ∧ now + ticks ≤ 1099511631872 := by have h1 := HNw.out; omega
      have hlo1 : 0 ≤ now := HNw.out.1
      have d1 : decide (ticks < 0) = false := decide_eq_false (by omega)
      have d2 : decide (4096 < ticks) = false := decide_eq_false (by omega)
      clear hDe hst hr hk hx1 hN hxx hW hZ2 hZ3 HO0 HO6 HOi HPc
      obtain ⟨gq, cap, hq1, hg1, hg2, hg3, hg4⟩ := HO1.out.hdr (by have := HK.out; omega)
      have HQgq := hid (show q1.pr = ⟨some ⟨gq, 0, none⟩, N, cap⟩ from by rw [← HDl.out]; exact hq1)
      have HQq := hid hq1
      clear hq1 hg3
      have FL7 := hid trivial
      have FL8 := hid trivial
      go_wp2_with (first
        | (have hfl := FL7.out
           refine wpList_new rfl 39 rfl _ Try.zeroPa ?_
           intro v10 b h z
           have QB := hid (show BoxAt v10 v5.heap.size 39 (PaV.cells PaV.zero).toArray from b)
           have CB := hid (CB.out.belowAll h)
           have PB := hid (PB.out.belowAll h)
           have HO1 := hid (HO1.out.below h)
           have HB := hid (HB.out.trans (h.mono HB.out.size))
           have hsv10 : v5.heap.size + 1 ≤ v10.heap.size := by omega
           clear b h z hfl FL7)
        | (have hfl := FL8.out
           refine wpList_store_whole rfl 39 _ _ rfl rfl v5.heap.size rfl (PaV.cells q1) rfl _ _ QB.out rfl Try.infoPa (PaV.one _) ?_
           intro v11 b g z
           have hsv11 : v10.heap.size ≤ v11.heap.size := by omega
           have HO1 := hid (HO1.out.turn (Turns.grown (S := fun t => t = 39) QB.out b rfl g))
           have QB := hid (show BoxAt v11 v5.heap.size 39 (PaV.cells q1).toArray from b)
           have CB := hid (CB.out.grown g (fun e => by have := Option.some.inj e; omega))
           have PB := hid (PB.out.grown g (fun e => by have := Option.some.inj e; omega))
           have HB := hid (HB.out.trans (grown_below g (by omega) (by omega)))
           have kQB4 : v11.cell? ⟨v5.heap.size, 4, none⟩ = some (.slice (some ⟨gq, 0, none⟩) N cap) := (BoxAt.cell QB.out 4).trans (by show some q1.pr.val = _; rw [HQgq.out]; rfl)
           clear b g z hfl FL8
           refine Hid.out ?_)
        | fail)
      refine hid ?_
      have HV := hid (Below.refl v11.heap.size v11)
      have FL9 := hid trivial
      have FL10 := hid trivial
      go_wp2_with (first
        | (with_reducible refine wpList_dst 82 rfl ?_
           have hpx1 := HO1.out.rowx HQq.out HK.out HDx.out
           refine wpList_load_px rfl (.tmp 81) rfl gq (k * 18) rfl x1 hpx1 ?_
           clear hpx1)
        | (have hfl := FL9.out
           refine wpList_new rfl 57 rfl _ Try.zeroPx ?_
           intro v12 b h z
           have XB := hid (show BoxAt v12 v11.heap.size 57 (Px.cells Px.zero).toArray from b)
           have CB := hid (CB.out.belowAll h)
           have PB := hid (PB.out.belowAll h)
           have QB := hid (QB.out.belowAll h)
           have HV := hid (HV.out.trans (h.mono HV.out.size))
           have HB := hid (HB.out.trans (h.mono HB.out.size))
           have hsv12 : v11.heap.size + 1 ≤ v12.heap.size := by omega
           clear kQB4
           have kQB4 : v12.cell? ⟨v5.heap.size, 4, none⟩ = some (.slice (some ⟨gq, 0, none⟩) N cap) := (BoxAt.cell QB.out 4).trans (by show some q1.pr.val = _; rw [HQgq.out]; rfl)
           clear b h z hfl FL9)
        | (have hfl := FL10.out
           refine wpList_store_whole rfl 57 _ _ rfl rfl v11.heap.size rfl (Px.cells x1) rfl _ _ XB.out rfl Try.infoPx (Px.one _) ?_
           intro v13 b g z
           have hsv13 : v12.heap.size ≤ v13.heap.size := by omega
           have HV := hid (HV.out.trans (grown_below g (by omega) (by omega)))
           have XB := hid (show BoxAt v13 v11.heap.size 57 (Px.cells x1).toArray from b)
           have CB := hid (CB.out.grown g (fun e => by have := Option.some.inj e; omega))
           have PB := hid (PB.out.grown g (fun e => by have := Option.some.inj e; omega))
           have QB := hid (QB.out.grown g (fun e => by have := Option.some.inj e; omega))
           have HB := hid (HB.out.trans (grown_below g (by omega) (by omega)))
           clear kQB4
           have kQB4 : v13.cell? ⟨v5.heap.size, 4, none⟩ = some (.slice (some ⟨gq, 0, none⟩) N cap) := (BoxAt.cell QB.out 4).trans (by show some q1.pr.val = _; rw [HQgq.out]; rfl)
           have kXB9 : v13.cell? ⟨v11.heap.size, 9, none⟩ = some (.int .i64 (now + ticks)) := (BoxAt.cell XB.out 9).trans (by rw [← HX1.out]; rfl)
           clear b g z hfl FL10)
        | (with_reducible refine wpList_dst 107 rfl ?_
           refine wpList_load_box rfl 28 _ rfl w.heap.size rfl _ _ CB.out _ Try.underlying28 Try.infoPv ?_)
        | (with_reducible refine wpList_dst 108 rfl ?_
           refine wpList_load_box rfl 39 _ rfl v5.heap.size rfl _ _ QB.out _ Try.underlying39 Try.infoPa ?_)
        | fail)
      have HO1 := hid (HO1.out.below HV.out)
      clear HV
      clear kQB4 kXB9 t1 d1 d2
      refine (wake_any (now := now + ticks - 1) (HC.out.below HB.out) HO1.out.sees HDs.out).mono ?_
      rintro e v14 ⟨q2, rfl, ho, hb⟩
      have CB := hid (CB.out.belowAll hb)
      have PB := hid (PB.out.belowAll hb)
      have QB := hid (QB.out.belowAll hb)
      have XB := hid (XB.out.belowAll hb)
      have HO1 := hid (HO1.out.below hb)
      have HB := hid (HB.out.trans (hb.mono HB.out.size))
      have hsv14 : v13.heap.size ≤ v14.heap.size := hb.size
      rw [HZ2.out] at ho
      have HO2 := hid ho
      clear ho
      clear hb
      have FL11 := hid trivial
      have FL12 := hid trivial
      go_wp2_with (first
        | (have hfl := FL11.out
           refine wpList_new rfl 39 rfl _ Try.zeroPa ?_
           intro v15 b h z
           have AB := hid (show BoxAt v15 v14.heap.size 39 (PaV.cells PaV.zero).toArray from b)
           have CB := hid (CB.out.belowAll h)
           have PB := hid (PB.out.belowAll h)
           have QB := hid (QB.out.belowAll h)
           have XB := hid (XB.out.belowAll h)
           have HO1 := hid (HO1.out.below h)
           have HO2 := hid (HO2.out.below h)
           have HB := hid (HB.out.trans (h.mono HB.out.size))
           have hsv15 : v14.heap.size + 1 ≤ v15.heap.size := by omega
           clear b h z hfl FL11)
        | (have hfl := FL12.out
           refine wpList_store_whole rfl 39 _ _ rfl rfl v14.heap.size rfl (PaV.cells q2) rfl _ _ AB.out rfl Try.infoPa (PaV.one _) ?_
           intro v16 b g z
           have hsv16 : v15.heap.size ≤ v16.heap.size := by omega
           have HO1 := hid (HO1.out.turn (Turns.grown (S := fun t => t = 39) AB.out b rfl g))
           have HO2 := hid (HO2.out.turn (Turns.grown (S := fun t => t = 39) AB.out b rfl g))
           have AB := hid (show BoxAt v16 v14.heap.size 39 (PaV.cells q2).toArray from b)
           have CB := hid (CB.out.grown g (fun e => by have := Option.some.inj e; omega))
           have PB := hid (PB.out.grown g (fun e => by have := Option.some.inj e; omega))
           have QB := hid (QB.out.grown g (fun e => by have := Option.some.inj e; omega))
           have XB := hid (XB.out.grown g (fun e => by have := Option.some.inj e; omega))
           have HB := hid (HB.out.trans (grown_below g (by omega) (by omega)))
           clear b g z hfl FL12)
        | (with_reducible refine wpList_dst 114 rfl ?_
           refine wpList_load_box rfl 28 _ rfl w.heap.size rfl _ _ CB.out _ Try.underlying28 Try.infoPv ?_)
        | (with_reducible refine wpList_dst 115 rfl ?_
           refine wpList_load_box rfl 39 _ rfl v5.heap.size rfl _ _ QB.out _ Try.underlying39 Try.infoPa ?_)
        | fail)
      refine (wake_any (now := now + ticks) (HC.out.below HB.out) HO1.out.sees HDs.out).mono ?_
      rintro e v17 ⟨q3, rfl, ho, hb⟩
      have CB := hid (CB.out.belowAll hb)
      have PB := hid (PB.out.belowAll hb)
      have QB := hid (QB.out.belowAll hb)
      have XB := hid (XB.out.belowAll hb)
      have AB := hid (AB.out.belowAll hb)
      have HO1 := hid (HO1.out.below hb)
      have HO2 := hid (HO2.out.below hb)
      have HB := hid (HB.out.trans (hb.mono HB.out.size))
      have hsv17 : v16.heap.size ≤ v17.heap.size := hb.size
      rw [HZ3.out] at ho
      have HO3 := hid ho
      clear ho
      clear hb
      obtain ⟨ga, ca, hqa, _, _, _, _⟩ := HO2.out.hdr (by rw [HZl2.out]; omega)
      obtain ⟨gb, cb, hqb, _, _, _, _⟩ := HO3.out.hdr (by rw [HZl3.out]; omega)
      have HQa := hid hqa
      have HQb := hid hqb
      have HQga := hid (show q2.pr = ⟨some ⟨ga, 0, none⟩, N, ca⟩ from by rw [← HZl2.out]; exact hqa)
      have HQgb := hid (show q3.pr = ⟨some ⟨gb, 0, none⟩, N, cb⟩ from by rw [← HZl3.out]; exact hqb)
      clear hqa hqb
      have FL13 := hid trivial
      have FL14 := hid trivial
      go_wp2_with (first
        | (have hfl := FL13.out
           refine wpList_new rfl 39 rfl _ Try.zeroPa ?_
           intro v18 b h z
           have BB := hid (show BoxAt v18 v17.heap.size 39 (PaV.cells PaV.zero).toArray from b)
           have XB := hid (XB.out.belowAll h)
           have AB := hid (AB.out.belowAll h)
           have HO2 := hid (HO2.out.below h)
           have HO3 := hid (HO3.out.below h)
           have HB := hid (HB.out.trans (h.mono HB.out.size))
           have hsv18 : v17.heap.size + 1 ≤ v18.heap.size := by omega
           have kXB9 : v18.cell? ⟨v11.heap.size, 9, none⟩ = some (.int .i64 (now + ticks)) := (BoxAt.cell XB.out 9).trans (by rw [← HX1.out]; rfl)
           have kAB4 : v18.cell? ⟨v14.heap.size, 4, none⟩ = some (.slice (some ⟨ga, 0, none⟩) N ca) := (BoxAt.cell AB.out 4).trans (by show some q2.pr.val = _; rw [HQga.out]; rfl)
           have ka : v18.cell? ⟨ga, k * 18, none⟩ = some (.int .i64 2) := ((HO2.out.rowx HQa.out (by rw [HZl2.out]; omega) rfl).st.trans (by rw [HZs2.out]))
           have kb : v18.cell? ⟨gb, k * 18, none⟩ = some (.int .i64 1) := ((HO3.out.rowx HQb.out (by rw [HZl3.out]; omega) rfl).st.trans (by rw [HZs3.out]))
           clear b h z hfl FL13)
        | (have hfl := FL14.out
           refine wpList_store_whole rfl 39 _ _ rfl rfl v17.heap.size rfl (PaV.cells q3) rfl _ _ BB.out rfl Try.infoPa (PaV.one _) ?_
           intro v19 b g z
           have hsv19 : v18.heap.size ≤ v19.heap.size := by omega
           have HO2 := hid (HO2.out.turn (Turns.grown (S := fun t => t = 39) BB.out b rfl g))
           have HO3 := hid (HO3.out.turn (Turns.grown (S := fun t => t = 39) BB.out b rfl g))
           have BB := hid (show BoxAt v19 v17.heap.size 39 (PaV.cells q3).toArray from b)
           have XB := hid (XB.out.grown g (fun e => by have := Option.some.inj e; omega))
           have AB := hid (AB.out.grown g (fun e => by have := Option.some.inj e; omega))
           have HB := hid (HB.out.trans (grown_below g (by omega) (by omega)))
           clear kXB9
           have kXB9 : v19.cell? ⟨v11.heap.size, 9, none⟩ = some (.int .i64 (now + ticks)) := (BoxAt.cell XB.out 9).trans (by rw [← HX1.out]; rfl)
           clear kAB4
           have kAB4 : v19.cell? ⟨v14.heap.size, 4, none⟩ = some (.slice (some ⟨ga, 0, none⟩) N ca) := (BoxAt.cell AB.out 4).trans (by show some q2.pr.val = _; rw [HQga.out]; rfl)
           have kBB4 : v19.cell? ⟨v17.heap.size, 4, none⟩ = some (.slice (some ⟨gb, 0, none⟩) N cb) := (BoxAt.cell BB.out 4).trans (by show some q3.pr.val = _; rw [HQgb.out]; rfl)
           clear ka
           have ka : v19.cell? ⟨ga, k * 18, none⟩ = some (.int .i64 2) := ((HO2.out.rowx HQa.out (by rw [HZl2.out]; omega) rfl).st.trans (by rw [HZs2.out]))
           clear kb
           have kb : v19.cell? ⟨gb, k * 18, none⟩ = some (.int .i64 1) := ((HO3.out.rowx HQb.out (by rw [HZl3.out]; omega) rfl).st.trans (by rw [HZs3.out]))
           clear b g z hfl FL14)
        | fail)
      go_ret
      exact ⟨rfl, HB.out⟩
    · rw [HOi.out h0 h6] at HO1
      have t0 : (cd != 0) = true := by simpa using h0
      have t6 : (cd != 6) = true := by simpa using h6
      clear h0 h6 HO0 HO6 HOi
      have FL15 := hid trivial
      have FL16 := hid trivial
      go_wp2_with (first
        | (have hfl := FL15.out
           refine wpList_new rfl 39 rfl _ Try.zeroPa ?_
           intro v20 b h z
           have QB := hid (show BoxAt v20 v5.heap.size 39 (PaV.cells PaV.zero).toArray from b)
           have CB := hid (CB.out.belowAll h)
           have PB := hid (PB.out.belowAll h)
           have HO1 := hid (HO1.out.below h)
           have HB := hid (HB.out.trans (h.mono HB.out.size))
           have hsv20 : v5.heap.size + 1 ≤ v20.heap.size := by omega
           clear b h z hfl FL15)
        | (have hfl := FL16.out
           refine wpList_store_whole rfl 39 _ _ rfl rfl v5.heap.size rfl (PaV.cells q1) rfl _ _ QB.out rfl Try.infoPa (PaV.one _) ?_
           intro v21 b g z
           have hsv21 : v20.heap.size ≤ v21.heap.size := by omega
           have HO1 := hid (HO1.out.turn (Turns.grown (S := fun t => t = 39) QB.out b rfl g))
           have QB := hid (show BoxAt v21 v5.heap.size 39 (PaV.cells q1).toArray from b)
           have CB := hid (CB.out.grown g (fun e => by have := Option.some.inj e; omega))
           have PB := hid (PB.out.grown g (fun e => by have := Option.some.inj e; omega))
           have HB := hid (HB.out.trans (grown_below g (by omega) (by omega)))
           clear b g z hfl FL16)
        | (with_reducible refine wpList_dst 57 rfl ?_
           refine wpList_load_box rfl 39 _ rfl v1.heap.size rfl _ _ PB.out _ Try.underlying39 Try.infoPa ?_)
        | (with_reducible refine wpList_dst 58 rfl ?_
           refine wpList_load_box rfl 39 _ rfl v5.heap.size rfl _ _ QB.out _ Try.underlying39 Try.infoPa ?_)
        | fail)
      refine (same_eq (HA.out.below HB.out) HO1.out.sees).mono ?_
      rintro e v22 ⟨rfl, hb⟩
      have CB := hid (CB.out.belowAll hb)
      have PB := hid (PB.out.belowAll hb)
      have QB := hid (QB.out.belowAll hb)
      have HO1 := hid (HO1.out.below hb)
      have HB := hid (HB.out.trans (hb.mono HB.out.size))
      have hsv22 : v21.heap.size ≤ v22.heap.size := hb.size
      clear hb
      go_wp2_with fail
      go_ret
      exact ⟨rfl, HB.out⟩
end Go.Proofs.Ytdanfnbclbiidaa
