/-
  TimesPeriods: a process that waits for its release is released at the first tick from then on at which that is asked, has its limit from that tick on, and its next release a period behind this one.
-/
import Derived.Test.YtdanfnbclbiidaaUAwake
import Derived.Test.YtdanfnbclbiidaaQLaws1
import Derived.Test.YtdanfnbclbiidaaQSame3E
namespace Go.Proofs.Ytdanfnbclbiidaa
open Go.RowKit
set_option linter.unusedVariables false

theorem PaO.rowx {w : World} {base gq cap k : Nat} {q : PaV} {c : Pa} {x : Px} (h : PaO w base q c) (hq : q.pr = ⟨some ⟨gq, 0, none⟩, c.pr.length, cap⟩) (hk : k < c.pr.length) (hx : c.pr.getD k Px.zero = x) : PxAt w gq (k * 18) x := by
  have h1 := h.pr
  rw [hq] at h1
  rw [← hx]
  exact OP.at h1 k hk

set_option maxRecDepth 100000 in
set_option maxHeartbeats 12800000 in
theorem walk_TimesPeriods (w : World) (x0 : PtX) (f0 : x0.fit w) (x1 : PaX) (f1 : x1.fit w) (i : Int) (w2 : (Lit.int .i64 i).wf = true) (now : Int) (w3 : (Lit.int .i64 now).wf = true) (hN : 2 * (x1.c.bo.length + x1.c.bu.length + x1.c.se.length + x1.c.ev.length) ≤ 1048576) :
    Calls Try.prog 6 #[x0.val, x1.val, .int .i64 i, .int .i64 now] w fun e w' => e = .returned (.bool true) ∧ Below w.heap.size w w' := by
  obtain ⟨qc, cc⟩ := x0
  obtain ⟨q, c⟩ := x1
  unfold PtX.val PaX.val
  simp only at hN ⊢
  have HC := hid f0.1
  have HA := hid f1.1
  have HNm := hid (show c.bo.length + c.bu.length + c.se.length + c.ev.length ≤ 900000 by omega)
  obtain ⟨ac, cpc, hcv, hc1, hc2, hcell⟩ := HC.out.pc.form
  have hmaxc : cpc ≤ 9223372036854775807 := hc2
  have HCv := hid hcv
  have HCc := hid hcell
  clear hcv hc2 hcell
  obtain ⟨ap, cpp, hpv, hp1, hp2, hpcell⟩ := HA.out.pr.form
  have hmax : cpp ≤ 9223372036854775807 := hp2
  have HPv := hid hpv
  have HPc := hid hpcell
  clear hpv hp2 hpcell
  clear hN f0 f1 w2 w3
  have HB := hid (Below.refl w.heap.size w)
  go_enter Try.func6, Try.ntmps6
  have FL1 := hid trivial
  have FL2 := hid trivial
  go_wp2_with (first
    | (have hfl := FL1.out
       refine wpList_box rfl 28 (.tmp 0) rfl (Pv.cells qc).toArray rfl ?_
       intro v1 b h z
       have CB := hid (show BoxAt v1 w.heap.size 28 (Pv.cells qc).toArray from b)
       have HB := hid (HB.out.trans (h.mono HB.out.size))
       have hsv1 : w.heap.size + 1 ≤ v1.heap.size := by omega
       clear b h z hfl FL1)
    | (have hfl := FL2.out
       refine wpList_box rfl 39 (.tmp 1) rfl (PaV.cells q).toArray rfl ?_
       intro v2 b h z
       have PB := hid (show BoxAt v2 v1.heap.size 39 (PaV.cells q).toArray from b)
       have CB := hid (CB.out.belowAll h)
       have HB := hid (HB.out.trans (h.mono HB.out.size))
       have hsv2 : v1.heap.size + 1 ≤ v2.heap.size := by omega
       clear b h z hfl FL2)
    | fail)
  refine (uawake_any _).mono ?_
  rintro e v3 ⟨rfl, hb⟩
  have CB := hid (CB.out.belowAll hb)
  have PB := hid (PB.out.belowAll hb)
  have HB := hid (HB.out.trans (hb.mono HB.out.size))
  have hsv3 : v2.heap.size ≤ v3.heap.size := hb.size
  clear hb
  go_wp2_with (first
    | (refine wpList_load_box rfl 39 _ rfl v1.heap.size rfl _ _ PB.out _ Try.underlying39 Try.infoPa ?_)
    | fail)
  refine (few_tot (HA.out.below HB.out) HNm.out).mono ?_
  rintro e v4 ⟨⟨ok, rfl, hok⟩, hb⟩
  have CB := hid (CB.out.belowAll hb)
  have PB := hid (PB.out.belowAll hb)
  have HB := hid (HB.out.trans (hb.mono HB.out.size))
  have hsv4 : v3.heap.size ≤ v4.heap.size := hb.size
  have HOk := hid hok
  clear hok
  clear hb
  have kCB2 : v4.cell? ⟨w.heap.size, 2, none⟩ = some (.slice ac cc.pc.length cpc) := (BoxAt.cell CB.out 2).trans (by show some qc.v2.val = _; rw [HCv.out])
  have kPB4 : v4.cell? ⟨v1.heap.size, 4, none⟩ = some (.slice ap c.pr.length cpp) := (BoxAt.cell PB.out 4).trans (by show some q.pr.val = _; rw [HPv.out])
  rcases ok with _ | _
  · go_wp2
    go_ret
    exact ⟨rfl, HB.out⟩
  have HT := hid (HOk.out rfl)
  have HSm := hid HT.out.small
  clear HOk
  by_cases hbig : (20 : Int) < (cc.pc.length : Int)
  · go_wp2
    go_ret
    exact ⟨rfl, HB.out⟩
  have hd1 : decide ((20 : Int) < (cc.pc.length : Int)) = false := decide_eq_false hbig
  have HBg := hid (show cc.pc.length ≤ 20 by omega)
  clear hbig
  by_cases hn0 : now < 0
  · have hd2 : decide (now < 0) = true := decide_eq_true hn0
    go_wp2
    go_ret
    exact ⟨rfl, HB.out⟩
  have hd2 : decide (now < 0) = false := decide_eq_false hn0
  by_cases hn1 : 1099511627776 < now
  · have hd3 : decide (1099511627776 < now) = true := decide_eq_true hn1
    go_wp2
    go_ret
    exact ⟨rfl, HB.out⟩
  have hd3 : decide (1099511627776 < now) = false := decide_eq_false hn1
  have HNw := hid (show 0 ≤ now ∧ now ≤ 1099511627776 by omega)
  clear hn0 hn1
  go_wp2_with (first
    | (with_reducible refine wpList_dst 42 rfl ?_
       refine wpList_load_box rfl 28 _ rfl w.heap.size rfl _ _ CB.out _ Try.underlying28 Try.infoPv ?_)
    | (with_reducible refine wpList_dst 43 rfl ?_
       refine wpList_load_box rfl 39 _ rfl v1.heap.size rfl _ _ PB.out _ Try.underlying39 Try.infoPa ?_)
    | fail)
  clear hd1 hd2 hd3 kCB2 kPB4
  refine (period_any (i := i) (HC.out.below HB.out) (HA.out.below HB.out) HSm.out).mono ?_
  rintro e v5 ⟨q1, rfl, ho, hb⟩
  have CB := hid (CB.out.belowAll hb)
  have PB := hid (PB.out.belowAll hb)
  have HB := hid (HB.out.trans (hb.mono HB.out.size))
  have hsv5 : v4.heap.size ≤ v5.heap.size := hb.size
  have HO1 := hid ho
  clear ho
  clear hb
  have HO6 := hid (fun h : (periodP cc c i).2 = 6 => period_ok h)
  have HOi := hid (fun (h6 : (periodP cc c i).2 ≠ 6) => period_idle h6)
  obtain ⟨D, hD⟩ : ∃ D, (periodP cc c i).1 = D := ⟨_, rfl⟩
  obtain ⟨cd, hcd⟩ : ∃ cd, (periodP cc c i).2 = cd := ⟨_, rfl⟩
  rw [hD] at HO1 HO6 HOi
  rw [hcd] at HO6 HOi ⊢
  clear hD hcd
  by_cases h6 : cd = 6
  · obtain ⟨k, hki, hk, hkc, hst, hDe⟩ := HO6.out h6
    subst hki
    subst h6
    obtain ⟨f, hf⟩ : ∃ f, cc.pc.getD k Pc.zero = f := ⟨_, rfl⟩
    obtain ⟨r, hr⟩ : ∃ r, c.pr.getD k Px.zero = r := ⟨_, rfl⟩
    have hPW := fun (h0 : 0 ≤ r.ne) (h1 : r.ne ≤ now) => period_wakes (f := cc) (c := c) (now := now) hk hkc (by rw [hr]; exact h0) (by rw [hr]; exact h1)
    rw [← hDe, hr, hf] at hPW
    rw [hr] at hDe
    obtain ⟨x1, hx1⟩ : ∃ x1, waitsX r = x1 := ⟨_, rfl⟩
    rw [hx1] at hDe
    obtain ⟨N, hN⟩ : ∃ N, c.pr.length = N := ⟨_, rfl⟩
    obtain ⟨M, hM⟩ : ∃ M, cc.pc.length = M := ⟨_, rfl⟩
    have HW := hid hPW
    have HX1 := hid hx1
    have HDl := hid (show D.pr.length = N from by rw [hDe, ← hN]; simp)
    have HDx := hid (show D.pr.getD k Px.zero = x1 from by rw [hDe]; exact getD_set_self hk _)
    have HDs := hid (show D.small from by rw [hDe]; exact ⟨HSm.out.me, by simpa using HSm.out.pr, HSm.out.bo, HSm.out.bu, HSm.out.se, HSm.out.ev, HSm.out.sa, HSm.out.qu, HSm.out.ll, HSm.out.gi, HSm.out.bol, HSm.out.bul, HSm.out.sel, HSm.out.evl, HSm.out.qul⟩)
    obtain ⟨bp, op, hap, hbp, hpx⟩ := HPc.out (by omega)
    subst hap
    have HPx := hid (show PxAt w bp (op + k * 18) r from fun j hj => by rw [← hr]; exact hpx k hk j hj)
    obtain ⟨b2, of2, hac, hcw, hccell⟩ := HCc.out (by omega)
    subst hac
    have HF1 := hid (show w.cell? ⟨b2, of2 + k * 5 + 1, none⟩ = some (.int .i64 f.pe) from by rw [← hf]; exact hccell k hkc 1 (by decide))
    have HF2 := hid (show w.cell? ⟨b2, of2 + k * 5 + 2, none⟩ = some (.int .i64 f.li) from by rw [← hf]; exact hccell k hkc 2 (by decide))
    have hkI : (k : Int) < (N : Int) := by omega
    have hkM : (k : Int) < (M : Int) := by omega
    have HK := hid (show k < D.pr.length from by rw [HDl.out]; omega)
    have HNe := hid hN
    have HMe := hid hM
    have HPL := hid (show q.pr.val = .slice (some ⟨bp, op, none⟩) N cpp from by rw [HPv.out, hN])
    have HCL := hid (show qc.v2.val = .slice (some ⟨b2, of2, none⟩) M cpc from by rw [HCv.out, hM])
    have HN9 := hid (show N ≤ 900000 from by have := HSm.out.pr; omega)
    have hM20 : M ≤ 20 := by have := HBg.out; omega
    clear hDe hst hr hk hkc hx1 hN hM hPW hpx hccell hf HO6 HOi HPc HCc
    obtain ⟨gq, cap, hq1, hg1, hg2, hg3, hg4⟩ := HO1.out.hdr (by have := HK.out; omega)
    have HQgq := hid (show q1.pr = ⟨some ⟨gq, 0, none⟩, N, cap⟩ from by rw [← HDl.out]; exact hq1)
    have HQq := hid hq1
    clear hq1 hg3
    have kCB2 : v5.cell? ⟨w.heap.size, 2, none⟩ = some (.slice (some ⟨b2, of2, none⟩) M cpc) := (BoxAt.cell CB.out 2).trans (by show some qc.v2.val = _; rw [HCL.out])
    have kPB4 : v5.cell? ⟨v1.heap.size, 4, none⟩ = some (.slice (some ⟨bp, op, none⟩) N cpp) := (BoxAt.cell PB.out 4).trans (by show some q.pr.val = _; rw [HPL.out])
    have kne : v5.cell? ⟨bp, op + k * 18 + 13, none⟩ = some (.int .i64 r.ne) := (HPx.out.below HB.out hbp 13 (by decide))
    have kf1 : v5.cell? ⟨b2, of2 + k * 5 + 1, none⟩ = some (.int .i64 f.pe) := ((HB.out.cell (p := ⟨b2, of2 + k * 5 + 1, none⟩) hcw).trans HF1.out)
    have kf2 : v5.cell? ⟨b2, of2 + k * 5 + 2, none⟩ = some (.int .i64 f.li) := ((HB.out.cell (p := ⟨b2, of2 + k * 5 + 2, none⟩) hcw).trans HF2.out)
    clear kCB2
    have kCB2 : v5.cell? ⟨w.heap.size, 2, none⟩ = some (.slice (some ⟨b2, of2, none⟩) M cpc) := (BoxAt.cell CB.out 2).trans (by show some qc.v2.val = _; rw [HCL.out])
    clear kPB4
    have kPB4 : v5.cell? ⟨v1.heap.size, 4, none⟩ = some (.slice (some ⟨bp, op, none⟩) N cpp) := (BoxAt.cell PB.out 4).trans (by show some q.pr.val = _; rw [HPL.out])
    clear kne
    have kne : v5.cell? ⟨bp, op + k * 18 + 13, none⟩ = some (.int .i64 r.ne) := (HPx.out.below HB.out hbp 13 (by decide))
    clear kf1
    have kf1 : v5.cell? ⟨b2, of2 + k * 5 + 1, none⟩ = some (.int .i64 f.pe) := ((HB.out.cell (p := ⟨b2, of2 + k * 5 + 1, none⟩) hcw).trans HF1.out)
    clear kf2
    have kf2 : v5.cell? ⟨b2, of2 + k * 5 + 2, none⟩ = some (.int .i64 f.li) := ((HB.out.cell (p := ⟨b2, of2 + k * 5 + 2, none⟩) hcw).trans HF2.out)
    have kq0 : v5.cell? ⟨gq, k * 18, none⟩ = some (.int .i64 2) := ((HO1.out.rowx HQq.out HK.out HDx.out 0 (by decide)).trans (by rw [← HX1.out]; rfl))
    have kq9 : v5.cell? ⟨gq, k * 18 + 9, none⟩ = some (.int .i64 r.ne) := ((HO1.out.rowx HQq.out HK.out HDx.out 9 (by decide)).trans (by rw [← HX1.out]; rfl))
    have kq12 : v5.cell? ⟨gq, k * 18 + 12, none⟩ = some (.int .i64 (-1)) := ((HO1.out.rowx HQq.out HK.out HDx.out 12 (by decide)).trans (by rw [← HX1.out]; rfl))
    by_cases hq6 : r.ne < 0
    · have d6 : decide (r.ne < 0) = true := decide_eq_true hq6
      clear hq6
      have FL3 := hid trivial
      have FL4 := hid trivial
      go_wp2_with (first
        | (have hfl := FL3.out
           refine wpList_new rfl 39 rfl _ Try.zeroPa ?_
           intro v6 b h z
           have QB := hid (show BoxAt v6 v5.heap.size 39 (PaV.cells PaV.zero).toArray from b)
           have CB := hid (CB.out.belowAll h)
           have PB := hid (PB.out.belowAll h)
           have HO1 := hid (HO1.out.below h)
           have HB := hid (HB.out.trans (h.mono HB.out.size))
           have hsv6 : v5.heap.size + 1 ≤ v6.heap.size := by omega
           clear kCB2
           have kCB2 : v6.cell? ⟨w.heap.size, 2, none⟩ = some (.slice (some ⟨b2, of2, none⟩) M cpc) := (BoxAt.cell CB.out 2).trans (by show some qc.v2.val = _; rw [HCL.out])
           clear kPB4
           have kPB4 : v6.cell? ⟨v1.heap.size, 4, none⟩ = some (.slice (some ⟨bp, op, none⟩) N cpp) := (BoxAt.cell PB.out 4).trans (by show some q.pr.val = _; rw [HPL.out])
           clear kne
           have kne : v6.cell? ⟨bp, op + k * 18 + 13, none⟩ = some (.int .i64 r.ne) := (HPx.out.below HB.out hbp 13 (by decide))
           clear kf1
           have kf1 : v6.cell? ⟨b2, of2 + k * 5 + 1, none⟩ = some (.int .i64 f.pe) := ((HB.out.cell (p := ⟨b2, of2 + k * 5 + 1, none⟩) hcw).trans HF1.out)
           clear kf2
           have kf2 : v6.cell? ⟨b2, of2 + k * 5 + 2, none⟩ = some (.int .i64 f.li) := ((HB.out.cell (p := ⟨b2, of2 + k * 5 + 2, none⟩) hcw).trans HF2.out)
           clear kq0
           have kq0 : v6.cell? ⟨gq, k * 18, none⟩ = some (.int .i64 2) := ((HO1.out.rowx HQq.out HK.out HDx.out 0 (by decide)).trans (by rw [← HX1.out]; rfl))
           clear kq9
           have kq9 : v6.cell? ⟨gq, k * 18 + 9, none⟩ = some (.int .i64 r.ne) := ((HO1.out.rowx HQq.out HK.out HDx.out 9 (by decide)).trans (by rw [← HX1.out]; rfl))
           clear kq12
           have kq12 : v6.cell? ⟨gq, k * 18 + 12, none⟩ = some (.int .i64 (-1)) := ((HO1.out.rowx HQq.out HK.out HDx.out 12 (by decide)).trans (by rw [← HX1.out]; rfl))
           clear b h z hfl FL3)
        | (have hfl := FL4.out
           refine wpList_store_whole rfl 39 _ _ rfl rfl v5.heap.size rfl (PaV.cells q1) rfl _ _ QB.out rfl Try.infoPa (PaV.one _) ?_
           intro v7 b g z
           have hsv7 : v6.heap.size ≤ v7.heap.size := by omega
           have HO1 := hid (HO1.out.turn (Turns.grown (S := fun t => t = 39) QB.out b rfl g))
           have QB := hid (show BoxAt v7 v5.heap.size 39 (PaV.cells q1).toArray from b)
           have CB := hid (CB.out.grown g (fun e => by have := Option.some.inj e; omega))
           have PB := hid (PB.out.grown g (fun e => by have := Option.some.inj e; omega))
           have HB := hid (HB.out.trans (grown_below g (by omega) (by omega)))
           clear kCB2
           have kCB2 : v7.cell? ⟨w.heap.size, 2, none⟩ = some (.slice (some ⟨b2, of2, none⟩) M cpc) := (BoxAt.cell CB.out 2).trans (by show some qc.v2.val = _; rw [HCL.out])
           clear kPB4
           have kPB4 : v7.cell? ⟨v1.heap.size, 4, none⟩ = some (.slice (some ⟨bp, op, none⟩) N cpp) := (BoxAt.cell PB.out 4).trans (by show some q.pr.val = _; rw [HPL.out])
           have kQB4 : v7.cell? ⟨v5.heap.size, 4, none⟩ = some (.slice (some ⟨gq, 0, none⟩) N cap) := (BoxAt.cell QB.out 4).trans (by show some q1.pr.val = _; rw [HQgq.out]; rfl)
           clear kne
           have kne : v7.cell? ⟨bp, op + k * 18 + 13, none⟩ = some (.int .i64 r.ne) := (HPx.out.below HB.out hbp 13 (by decide))
           clear kf1
           have kf1 : v7.cell? ⟨b2, of2 + k * 5 + 1, none⟩ = some (.int .i64 f.pe) := ((HB.out.cell (p := ⟨b2, of2 + k * 5 + 1, none⟩) hcw).trans HF1.out)
           clear kf2
           have kf2 : v7.cell? ⟨b2, of2 + k * 5 + 2, none⟩ = some (.int .i64 f.li) := ((HB.out.cell (p := ⟨b2, of2 + k * 5 + 2, none⟩) hcw).trans HF2.out)
           clear kq0
           have kq0 : v7.cell? ⟨gq, k * 18, none⟩ = some (.int .i64 2) := ((HO1.out.rowx HQq.out HK.out HDx.out 0 (by decide)).trans (by rw [← HX1.out]; rfl))
           clear kq9
           have kq9 : v7.cell? ⟨gq, k * 18 + 9, none⟩ = some (.int .i64 r.ne) := ((HO1.out.rowx HQq.out HK.out HDx.out 9 (by decide)).trans (by rw [← HX1.out]; rfl))
           clear kq12
           have kq12 : v7.cell? ⟨gq, k * 18 + 12, none⟩ = some (.int .i64 (-1)) := ((HO1.out.rowx HQq.out HK.out HDx.out 12 (by decide)).trans (by rw [← HX1.out]; rfl))
           clear b g z hfl FL4)
        | fail)
      go_ret
      exact ⟨rfl, HB.out⟩
    · have d6 : decide (r.ne < 0) = false := decide_eq_false hq6
      by_cases hq5 : now < r.ne
      · have d5 : decide (now < r.ne) = true := decide_eq_true hq5
        clear hq5
        have FL5 := hid trivial
        have FL6 := hid trivial
        go_wp2_with (first
          | (have hfl := FL5.out
             refine wpList_new rfl 39 rfl _ Try.zeroPa ?_
             intro v8 b h z
             have QB := hid (show BoxAt v8 v5.heap.size 39 (PaV.cells PaV.zero).toArray from b)
             have CB := hid (CB.out.belowAll h)
             have PB := hid (PB.out.belowAll h)
             have HO1 := hid (HO1.out.below h)
             have HB := hid (HB.out.trans (h.mono HB.out.size))
             have hsv8 : v5.heap.size + 1 ≤ v8.heap.size := by omega
             clear kCB2
             have kCB2 : v8.cell? ⟨w.heap.size, 2, none⟩ = some (.slice (some ⟨b2, of2, none⟩) M cpc) := (BoxAt.cell CB.out 2).trans (by show some qc.v2.val = _; rw [HCL.out])
             clear kPB4
             have kPB4 : v8.cell? ⟨v1.heap.size, 4, none⟩ = some (.slice (some ⟨bp, op, none⟩) N cpp) := (BoxAt.cell PB.out 4).trans (by show some q.pr.val = _; rw [HPL.out])
             clear kne
             have kne : v8.cell? ⟨bp, op + k * 18 + 13, none⟩ = some (.int .i64 r.ne) := (HPx.out.below HB.out hbp 13 (by decide))
             clear kf1
             have kf1 : v8.cell? ⟨b2, of2 + k * 5 + 1, none⟩ = some (.int .i64 f.pe) := ((HB.out.cell (p := ⟨b2, of2 + k * 5 + 1, none⟩) hcw).trans HF1.out)
             clear kf2
             have kf2 : v8.cell? ⟨b2, of2 + k * 5 + 2, none⟩ = some (.int .i64 f.li) := ((HB.out.cell (p := ⟨b2, of2 + k * 5 + 2, none⟩) hcw).trans HF2.out)
             clear kq0
             have kq0 : v8.cell? ⟨gq, k * 18, none⟩ = some (.int .i64 2) := ((HO1.out.rowx HQq.out HK.out HDx.out 0 (by decide)).trans (by rw [← HX1.out]; rfl))
             clear kq9
             have kq9 : v8.cell? ⟨gq, k * 18 + 9, none⟩ = some (.int .i64 r.ne) := ((HO1.out.rowx HQq.out HK.out HDx.out 9 (by decide)).trans (by rw [← HX1.out]; rfl))
             clear kq12
             have kq12 : v8.cell? ⟨gq, k * 18 + 12, none⟩ = some (.int .i64 (-1)) := ((HO1.out.rowx HQq.out HK.out HDx.out 12 (by decide)).trans (by rw [← HX1.out]; rfl))
             clear b h z hfl FL5)
          | (have hfl := FL6.out
             refine wpList_store_whole rfl 39 _ _ rfl rfl v5.heap.size rfl (PaV.cells q1) rfl _ _ QB.out rfl Try.infoPa (PaV.one _) ?_
             intro v9 b g z
             have hsv9 : v8.heap.size ≤ v9.heap.size := by omega
             have HO1 := hid (HO1.out.turn (Turns.grown (S := fun t => t = 39) QB.out b rfl g))
             have QB := hid (show BoxAt v9 v5.heap.size 39 (PaV.cells q1).toArray from b)
             have CB := hid (CB.out.grown g (fun e => by have := Option.some.inj e; omega))
             have PB := hid (PB.out.grown g (fun e => by have := Option.some.inj e; omega))
             have HB := hid (HB.out.trans (grown_below g (by omega) (by omega)))
             clear kCB2
             have kCB2 : v9.cell? ⟨w.heap.size, 2, none⟩ = some (.slice (some ⟨b2, of2, none⟩) M cpc) := (BoxAt.cell CB.out 2).trans (by show some qc.v2.val = _; rw [HCL.out])
             clear kPB4
             have kPB4 : v9.cell? ⟨v1.heap.size, 4, none⟩ = some (.slice (some ⟨bp, op, none⟩) N cpp) := (BoxAt.cell PB.out 4).trans (by show some q.pr.val = _; rw [HPL.out])
             have kQB4 : v9.cell? ⟨v5.heap.size, 4, none⟩ = some (.slice (some ⟨gq, 0, none⟩) N cap) := (BoxAt.cell QB.out 4).trans (by show some q1.pr.val = _; rw [HQgq.out]; rfl)
             clear kne
             have kne : v9.cell? ⟨bp, op + k * 18 + 13, none⟩ = some (.int .i64 r.ne) := (HPx.out.below HB.out hbp 13 (by decide))
             clear kf1
             have kf1 : v9.cell? ⟨b2, of2 + k * 5 + 1, none⟩ = some (.int .i64 f.pe) := ((HB.out.cell (p := ⟨b2, of2 + k * 5 + 1, none⟩) hcw).trans HF1.out)
             clear kf2
             have kf2 : v9.cell? ⟨b2, of2 + k * 5 + 2, none⟩ = some (.int .i64 f.li) := ((HB.out.cell (p := ⟨b2, of2 + k * 5 + 2, none⟩) hcw).trans HF2.out)
             clear kq0
             have kq0 : v9.cell? ⟨gq, k * 18, none⟩ = some (.int .i64 2) := ((HO1.out.rowx HQq.out HK.out HDx.out 0 (by decide)).trans (by rw [← HX1.out]; rfl))
             clear kq9
             have kq9 : v9.cell? ⟨gq, k * 18 + 9, none⟩ = some (.int .i64 r.ne) := ((HO1.out.rowx HQq.out HK.out HDx.out 9 (by decide)).trans (by rw [← HX1.out]; rfl))
             clear kq12
             have kq12 : v9.cell? ⟨gq, k * 18 + 12, none⟩ = some (.int .i64 (-1)) := ((HO1.out.rowx HQq.out HK.out HDx.out 12 (by decide)).trans (by rw [← HX1.out]; rfl))
             clear b g z hfl FL6)
          | fail)
        go_ret
        exact ⟨rfl, HB.out⟩
      · have d5 : decide (now < r.ne) = false := decide_eq_false hq5
        by_cases hq4 : f.pe < 0
        · have d4 : decide (f.pe < 0) = true := decide_eq_true hq4
          clear hq4
          have FL7 := hid trivial
          have FL8 := hid trivial
          go_wp2_with (first
            | (have hfl := FL7.out
               refine wpList_new rfl 39 rfl _ Try.zeroPa ?_
               intro v10 b h z
               have QB := hid (show BoxAt v10 v5.heap.size 39 (PaV.cells PaV.zero).toArray from b)
               have CB := hid (CB.out.belowAll h)
               have PB := hid (PB.out.belowAll h)
               have HO1 := hid (HO1.out.below h)
               have HB := hid (HB.out.trans (h.mono HB.out.size))
               have hsv10 : v5.heap.size + 1 ≤ v10.heap.size := by omega
               clear kCB2
               have kCB2 : v10.cell? ⟨w.heap.size, 2, none⟩ = some (.slice (some ⟨b2, of2, none⟩) M cpc) := (BoxAt.cell CB.out 2).trans (by show some qc.v2.val = _; rw [HCL.out])
               clear kPB4
               have kPB4 : v10.cell? ⟨v1.heap.size, 4, none⟩ = some (.slice (some ⟨bp, op, none⟩) N cpp) := (BoxAt.cell PB.out 4).trans (by show some q.pr.val = _; rw [HPL.out])
               clear kne
               have kne : v10.cell? ⟨bp, op + k * 18 + 13, none⟩ = some (.int .i64 r.ne) := (HPx.out.below HB.out hbp 13 (by decide))
               clear kf1
               have kf1 : v10.cell? ⟨b2, of2 + k * 5 + 1, none⟩ = some (.int .i64 f.pe) := ((HB.out.cell (p := ⟨b2, of2 + k * 5 + 1, none⟩) hcw).trans HF1.out)
               clear kf2
               have kf2 : v10.cell? ⟨b2, of2 + k * 5 + 2, none⟩ = some (.int .i64 f.li) := ((HB.out.cell (p := ⟨b2, of2 + k * 5 + 2, none⟩) hcw).trans HF2.out)
               clear kq0
               have kq0 : v10.cell? ⟨gq, k * 18, none⟩ = some (.int .i64 2) := ((HO1.out.rowx HQq.out HK.out HDx.out 0 (by decide)).trans (by rw [← HX1.out]; rfl))
               clear kq9
               have kq9 : v10.cell? ⟨gq, k * 18 + 9, none⟩ = some (.int .i64 r.ne) := ((HO1.out.rowx HQq.out HK.out HDx.out 9 (by decide)).trans (by rw [← HX1.out]; rfl))
               clear kq12
               have kq12 : v10.cell? ⟨gq, k * 18 + 12, none⟩ = some (.int .i64 (-1)) := ((HO1.out.rowx HQq.out HK.out HDx.out 12 (by decide)).trans (by rw [← HX1.out]; rfl))
               clear b h z hfl FL7)
            | (have hfl := FL8.out
               refine wpList_store_whole rfl 39 _ _ rfl rfl v5.heap.size rfl (PaV.cells q1) rfl _ _ QB.out rfl Try.infoPa (PaV.one _) ?_
               intro v11 b g z
               have hsv11 : v10.heap.size ≤ v11.heap.size := by omega
               have HO1 := hid (HO1.out.turn (Turns.grown (S := fun t => t = 39) QB.out b rfl g))
               have QB := hid (show BoxAt v11 v5.heap.size 39 (PaV.cells q1).toArray from b)
               have CB := hid (CB.out.grown g (fun e => by have := Option.some.inj e; omega))
               have PB := hid (PB.out.grown g (fun e => by have := Option.some.inj e; omega))
               have HB := hid (HB.out.trans (grown_below g (by omega) (by omega)))
               clear kCB2
               have kCB2 : v11.cell? ⟨w.heap.size, 2, none⟩ = some (.slice (some ⟨b2, of2, none⟩) M cpc) := (BoxAt.cell CB.out 2).trans (by show some qc.v2.val = _; rw [HCL.out])
               clear kPB4
               have kPB4 : v11.cell? ⟨v1.heap.size, 4, none⟩ = some (.slice (some ⟨bp, op, none⟩) N cpp) := (BoxAt.cell PB.out 4).trans (by show some q.pr.val = _; rw [HPL.out])
               have kQB4 : v11.cell? ⟨v5.heap.size, 4, none⟩ = some (.slice (some ⟨gq, 0, none⟩) N cap) := (BoxAt.cell QB.out 4).trans (by show some q1.pr.val = _; rw [HQgq.out]; rfl)
               clear kne
               have kne : v11.cell? ⟨bp, op + k * 18 + 13, none⟩ = some (.int .i64 r.ne) := (HPx.out.below HB.out hbp 13 (by decide))
               clear kf1
               have kf1 : v11.cell? ⟨b2, of2 + k * 5 + 1, none⟩ = some (.int .i64 f.pe) := ((HB.out.cell (p := ⟨b2, of2 + k * 5 + 1, none⟩) hcw).trans HF1.out)
               clear kf2
               have kf2 : v11.cell? ⟨b2, of2 + k * 5 + 2, none⟩ = some (.int .i64 f.li) := ((HB.out.cell (p := ⟨b2, of2 + k * 5 + 2, none⟩) hcw).trans HF2.out)
               clear kq0
               have kq0 : v11.cell? ⟨gq, k * 18, none⟩ = some (.int .i64 2) := ((HO1.out.rowx HQq.out HK.out HDx.out 0 (by decide)).trans (by rw [← HX1.out]; rfl))
               clear kq9
               have kq9 : v11.cell? ⟨gq, k * 18 + 9, none⟩ = some (.int .i64 r.ne) := ((HO1.out.rowx HQq.out HK.out HDx.out 9 (by decide)).trans (by rw [← HX1.out]; rfl))
               clear kq12
               have kq12 : v11.cell? ⟨gq, k * 18 + 12, none⟩ = some (.int .i64 (-1)) := ((HO1.out.rowx HQq.out HK.out HDx.out 12 (by decide)).trans (by rw [← HX1.out]; rfl))
               clear b g z hfl FL8)
            | fail)
          go_ret
          exact ⟨rfl, HB.out⟩
        · have d4 : decide (f.pe < 0) = false := decide_eq_false hq4
          by_cases hq3 : f.li < 0
          · have d3 : decide (f.li < 0) = true := decide_eq_true hq3
            clear hq3
            have FL9 := hid trivial
            have FL10 := hid trivial
            go_wp2_with (first
              | (have hfl := FL9.out
                 refine wpList_new rfl 39 rfl _ Try.zeroPa ?_
                 intro v12 b h z
                 have QB := hid (show BoxAt v12 v5.heap.size 39 (PaV.cells PaV.zero).toArray from b)
                 have CB := hid (CB.out.belowAll h)
                 have PB := hid (PB.out.belowAll h)
                 have HO1 := hid (HO1.out.below h)
                 have HB := hid (HB.out.trans (h.mono HB.out.size))
                 have hsv12 : v5.heap.size + 1 ≤ v12.heap.size := by omega
                 clear kCB2
                 have kCB2 : v12.cell? ⟨w.heap.size, 2, none⟩ = some (.slice (some ⟨b2, of2, none⟩) M cpc) := (BoxAt.cell CB.out 2).trans (by show some qc.v2.val = _; rw [HCL.out])
                 clear kPB4
                 have kPB4 : v12.cell? ⟨v1.heap.size, 4, none⟩ = some (.slice (some ⟨bp, op, none⟩) N cpp) := (BoxAt.cell PB.out 4).trans (by show some q.pr.val = _; rw [HPL.out])
                 clear kne
                 have kne : v12.cell? ⟨bp, op + k * 18 + 13, none⟩ = some (.int .i64 r.ne) := (HPx.out.below HB.out hbp 13 (by decide))
                 clear kf1
                 have kf1 : v12.cell? ⟨b2, of2 + k * 5 + 1, none⟩ = some (.int .i64 f.pe) := ((HB.out.cell (p := ⟨b2, of2 + k * 5 + 1, none⟩) hcw).trans HF1.out)
                 clear kf2
                 have kf2 : v12.cell? ⟨b2, of2 + k * 5 + 2, none⟩ = some (.int .i64 f.li) := ((HB.out.cell (p := ⟨b2, of2 + k * 5 + 2, none⟩) hcw).trans HF2.out)
                 clear kq0
                 have kq0 : v12.cell? ⟨gq, k * 18, none⟩ = some (.int .i64 2) := ((HO1.out.rowx HQq.out HK.out HDx.out 0 (by decide)).trans (by rw [← HX1.out]; rfl))
                 clear kq9
                 have kq9 : v12.cell? ⟨gq, k * 18 + 9, none⟩ = some (.int .i64 r.ne) := ((HO1.out.rowx HQq.out HK.out HDx.out 9 (by decide)).trans (by rw [← HX1.out]; rfl))
                 clear kq12
                 have kq12 : v12.cell? ⟨gq, k * 18 + 12, none⟩ = some (.int .i64 (-1)) := ((HO1.out.rowx HQq.out HK.out HDx.out 12 (by decide)).trans (by rw [← HX1.out]; rfl))
                 clear b h z hfl FL9)
              | (have hfl := FL10.out
                 refine wpList_store_whole rfl 39 _ _ rfl rfl v5.heap.size rfl (PaV.cells q1) rfl _ _ QB.out rfl Try.infoPa (PaV.one _) ?_
                 intro v13 b g z
                 have hsv13 : v12.heap.size ≤ v13.heap.size := by omega
                 have HO1 := hid (HO1.out.turn (Turns.grown (S := fun t => t = 39) QB.out b rfl g))
                 have QB := hid (show BoxAt v13 v5.heap.size 39 (PaV.cells q1).toArray from b)
                 have CB := hid (CB.out.grown g (fun e => by have := Option.some.inj e; omega))
                 have PB := hid (PB.out.grown g (fun e => by have := Option.some.inj e; omega))
                 have HB := hid (HB.out.trans (grown_below g (by omega) (by omega)))
                 clear kCB2
                 have kCB2 : v13.cell? ⟨w.heap.size, 2, none⟩ = some (.slice (some ⟨b2, of2, none⟩) M cpc) := (BoxAt.cell CB.out 2).trans (by show some qc.v2.val = _; rw [HCL.out])
                 clear kPB4
                 have kPB4 : v13.cell? ⟨v1.heap.size, 4, none⟩ = some (.slice (some ⟨bp, op, none⟩) N cpp) := (BoxAt.cell PB.out 4).trans (by show some q.pr.val = _; rw [HPL.out])
                 have kQB4 : v13.cell? ⟨v5.heap.size, 4, none⟩ = some (.slice (some ⟨gq, 0, none⟩) N cap) := (BoxAt.cell QB.out 4).trans (by show some q1.pr.val = _; rw [HQgq.out]; rfl)
                 clear kne
                 have kne : v13.cell? ⟨bp, op + k * 18 + 13, none⟩ = some (.int .i64 r.ne) := (HPx.out.below HB.out hbp 13 (by decide))
                 clear kf1
                 have kf1 : v13.cell? ⟨b2, of2 + k * 5 + 1, none⟩ = some (.int .i64 f.pe) := ((HB.out.cell (p := ⟨b2, of2 + k * 5 + 1, none⟩) hcw).trans HF1.out)
                 clear kf2
                 have kf2 : v13.cell? ⟨b2, of2 + k * 5 + 2, none⟩ = some (.int .i64 f.li) := ((HB.out.cell (p := ⟨b2, of2 + k * 5 + 2, none⟩) hcw).trans HF2.out)
                 clear kq0
                 have kq0 : v13.cell? ⟨gq, k * 18, none⟩ = some (.int .i64 2) := ((HO1.out.rowx HQq.out HK.out HDx.out 0 (by decide)).trans (by rw [← HX1.out]; rfl))
                 clear kq9
                 have kq9 : v13.cell? ⟨gq, k * 18 + 9, none⟩ = some (.int .i64 r.ne) := ((HO1.out.rowx HQq.out HK.out HDx.out 9 (by decide)).trans (by rw [← HX1.out]; rfl))
                 clear kq12
                 have kq12 : v13.cell? ⟨gq, k * 18 + 12, none⟩ = some (.int .i64 (-1)) := ((HO1.out.rowx HQq.out HK.out HDx.out 12 (by decide)).trans (by rw [← HX1.out]; rfl))
                 clear b g z hfl FL10)
              | fail)
            go_ret
            exact ⟨rfl, HB.out⟩
          · have d3 : decide (f.li < 0) = false := decide_eq_false hq3
            by_cases hq2 : 1099511627776 < f.pe
            · have d2 : decide (1099511627776 < f.pe) = true := decide_eq_true hq2
              clear hq2
              have FL11 := hid trivial
              have FL12 := hid trivial
              go_wp2_with (first
                | (have hfl := FL11.out
                   refine wpList_new rfl 39 rfl _ Try.zeroPa ?_
                   intro v14 b h z
                   have QB := hid (show BoxAt v14 v5.heap.size 39 (PaV.cells PaV.zero).toArray from b)
                   have CB := hid (CB.out.belowAll h)
                   have PB := hid (PB.out.belowAll h)
                   have HO1 := hid (HO1.out.below h)
                   have HB := hid (HB.out.trans (h.mono HB.out.size))
                   have hsv14 : v5.heap.size + 1 ≤ v14.heap.size := by omega
                   clear kCB2
                   have kCB2 : v14.cell? ⟨w.heap.size, 2, none⟩ = some (.slice (some ⟨b2, of2, none⟩) M cpc) := (BoxAt.cell CB.out 2).trans (by show some qc.v2.val = _; rw [HCL.out])
                   clear kPB4
                   have kPB4 : v14.cell? ⟨v1.heap.size, 4, none⟩ = some (.slice (some ⟨bp, op, none⟩) N cpp) := (BoxAt.cell PB.out 4).trans (by show some q.pr.val = _; rw [HPL.out])
                   clear kne
                   have kne : v14.cell? ⟨bp, op + k * 18 + 13, none⟩ = some (.int .i64 r.ne) := (HPx.out.below HB.out hbp 13 (by decide))
                   clear kf1
                   have kf1 : v14.cell? ⟨b2, of2 + k * 5 + 1, none⟩ = some (.int .i64 f.pe) := ((HB.out.cell (p := ⟨b2, of2 + k * 5 + 1, none⟩) hcw).trans HF1.out)
                   clear kf2
                   have kf2 : v14.cell? ⟨b2, of2 + k * 5 + 2, none⟩ = some (.int .i64 f.li) := ((HB.out.cell (p := ⟨b2, of2 + k * 5 + 2, none⟩) hcw).trans HF2.out)
                   clear kq0
                   have kq0 : v14.cell? ⟨gq, k * 18, none⟩ = some (.int .i64 2) := ((HO1.out.rowx HQq.out HK.out HDx.out 0 (by decide)).trans (by rw [← HX1.out]; rfl))
                   clear kq9
                   have kq9 : v14.cell? ⟨gq, k * 18 + 9, none⟩ = some (.int .i64 r.ne) := ((HO1.out.rowx HQq.out HK.out HDx.out 9 (by decide)).trans (by rw [← HX1.out]; rfl))
                   clear kq12
                   have kq12 : v14.cell? ⟨gq, k * 18 + 12, none⟩ = some (.int .i64 (-1)) := ((HO1.out.rowx HQq.out HK.out HDx.out 12 (by decide)).trans (by rw [← HX1.out]; rfl))
                   clear b h z hfl FL11)
                | (have hfl := FL12.out
                   refine wpList_store_whole rfl 39 _ _ rfl rfl v5.heap.size rfl (PaV.cells q1) rfl _ _ QB.out rfl Try.infoPa (PaV.one _) ?_
                   intro v15 b g z
                   have hsv15 : v14.heap.size ≤ v15.heap.size := by omega
                   have HO1 := hid (HO1.out.turn (Turns.grown (S := fun t => t = 39) QB.out b rfl g))
                   have QB := hid (show BoxAt v15 v5.heap.size 39 (PaV.cells q1).toArray from b)
                   have CB := hid (CB.out.grown g (fun e => by have := Option.some.inj e; omega))
                   have PB := hid (PB.out.grown g (fun e => by have := Option.some.inj e; omega))
                   have HB := hid (HB.out.trans (grown_below g (by omega) (by omega)))
                   clear kCB2
                   have kCB2 : v15.cell? ⟨w.heap.size, 2, none⟩ = some (.slice (some ⟨b2, of2, none⟩) M cpc) := (BoxAt.cell CB.out 2).trans (by show some qc.v2.val = _; rw [HCL.out])
                   clear kPB4
                   have kPB4 : v15.cell? ⟨v1.heap.size, 4, none⟩ = some (.slice (some ⟨bp, op, none⟩) N cpp) := (BoxAt.cell PB.out 4).trans (by show some q.pr.val = _; rw [HPL.out])
                   have kQB4 : v15.cell? ⟨v5.heap.size, 4, none⟩ = some (.slice (some ⟨gq, 0, none⟩) N cap) := (BoxAt.cell QB.out 4).trans (by show some q1.pr.val = _; rw [HQgq.out]; rfl)
                   clear kne
                   have kne : v15.cell? ⟨bp, op + k * 18 + 13, none⟩ = some (.int .i64 r.ne) := (HPx.out.below HB.out hbp 13 (by decide))
                   clear kf1
                   have kf1 : v15.cell? ⟨b2, of2 + k * 5 + 1, none⟩ = some (.int .i64 f.pe) := ((HB.out.cell (p := ⟨b2, of2 + k * 5 + 1, none⟩) hcw).trans HF1.out)
                   clear kf2
                   have kf2 : v15.cell? ⟨b2, of2 + k * 5 + 2, none⟩ = some (.int .i64 f.li) := ((HB.out.cell (p := ⟨b2, of2 + k * 5 + 2, none⟩) hcw).trans HF2.out)
                   clear kq0
                   have kq0 : v15.cell? ⟨gq, k * 18, none⟩ = some (.int .i64 2) := ((HO1.out.rowx HQq.out HK.out HDx.out 0 (by decide)).trans (by rw [← HX1.out]; rfl))
                   clear kq9
                   have kq9 : v15.cell? ⟨gq, k * 18 + 9, none⟩ = some (.int .i64 r.ne) := ((HO1.out.rowx HQq.out HK.out HDx.out 9 (by decide)).trans (by rw [← HX1.out]; rfl))
                   clear kq12
                   have kq12 : v15.cell? ⟨gq, k * 18 + 12, none⟩ = some (.int .i64 (-1)) := ((HO1.out.rowx HQq.out HK.out HDx.out 12 (by decide)).trans (by rw [← HX1.out]; rfl))
                   clear b g z hfl FL12)
                | fail)
              go_ret
              exact ⟨rfl, HB.out⟩
            · have d2 : decide (1099511627776 < f.pe) = false := decide_eq_false hq2
              by_cases hq1 : 1099511627776 < f.li
              · have d1 : decide (1099511627776 < f.li) = true := decide_eq_true hq1
                clear hq1
                have FL13 := hid trivial
                have FL14 := hid trivial
                go_wp2_with (first
                  | (have hfl := FL13.out
                     refine wpList_new rfl 39 rfl _ Try.zeroPa ?_
                     intro v16 b h z
                     have QB := hid (show BoxAt v16 v5.heap.size 39 (PaV.cells PaV.zero).toArray from b)
                     have CB := hid (CB.out.belowAll h)
                     have PB := hid (PB.out.belowAll h)
                     have HO1 := hid (HO1.out.below h)
                     have HB := hid (HB.out.trans (h.mono HB.out.size))
                     have hsv16 : v5.heap.size + 1 ≤ v16.heap.size := by omega
                     clear kCB2
                     have kCB2 : v16.cell? ⟨w.heap.size, 2, none⟩ = some (.slice (some ⟨b2, of2, none⟩) M cpc) := (BoxAt.cell CB.out 2).trans (by show some qc.v2.val = _; rw [HCL.out])
                     clear kPB4
                     have kPB4 : v16.cell? ⟨v1.heap.size, 4, none⟩ = some (.slice (some ⟨bp, op, none⟩) N cpp) := (BoxAt.cell PB.out 4).trans (by show some q.pr.val = _; rw [HPL.out])
                     clear kne
                     have kne : v16.cell? ⟨bp, op + k * 18 + 13, none⟩ = some (.int .i64 r.ne) := (HPx.out.below HB.out hbp 13 (by decide))
                     clear kf1
                     have kf1 : v16.cell? ⟨b2, of2 + k * 5 + 1, none⟩ = some (.int .i64 f.pe) := ((HB.out.cell (p := ⟨b2, of2 + k * 5 + 1, none⟩) hcw).trans HF1.out)
                     clear kf2
                     have kf2 : v16.cell? ⟨b2, of2 + k * 5 + 2, none⟩ = some (.int .i64 f.li) := ((HB.out.cell (p := ⟨b2, of2 + k * 5 + 2, none⟩) hcw).trans HF2.out)
                     clear kq0
                     have kq0 : v16.cell? ⟨gq, k * 18, none⟩ = some (.int .i64 2) := ((HO1.out.rowx HQq.out HK.out HDx.out 0 (by decide)).trans (by rw [← HX1.out]; rfl))
                     clear kq9
                     have kq9 : v16.cell? ⟨gq, k * 18 + 9, none⟩ = some (.int .i64 r.ne) := ((HO1.out.rowx HQq.out HK.out HDx.out 9 (by decide)).trans (by rw [← HX1.out]; rfl))
                     clear kq12
                     have kq12 : v16.cell? ⟨gq, k * 18 + 12, none⟩ = some (.int .i64 (-1)) := ((HO1.out.rowx HQq.out HK.out HDx.out 12 (by decide)).trans (by rw [← HX1.out]; rfl))
                     clear b h z hfl FL13)
                  | (have hfl := FL14.out
                     refine wpList_store_whole rfl 39 _ _ rfl rfl v5.heap.size rfl (PaV.cells q1) rfl _ _ QB.out rfl Try.infoPa (PaV.one _) ?_
                     intro v17 b g z
                     have hsv17 : v16.heap.size ≤ v17.heap.size := by omega
                     have HO1 := hid (HO1.out.turn (Turns.grown (S := fun t => t = 39) QB.out b rfl g))
                     have QB := hid (show BoxAt v17 v5.heap.size 39 (PaV.cells q1).toArray from b)
                     have CB := hid (CB.out.grown g (fun e => by have := Option.some.inj e; omega))
                     have PB := hid (PB.out.grown g (fun e => by have := Option.some.inj e; omega))
                     have HB := hid (HB.out.trans (grown_below g (by omega) (by omega)))
                     clear kCB2
                     have kCB2 : v17.cell? ⟨w.heap.size, 2, none⟩ = some (.slice (some ⟨b2, of2, none⟩) M cpc) := (BoxAt.cell CB.out 2).trans (by show some qc.v2.val = _; rw [HCL.out])
                     clear kPB4
                     have kPB4 : v17.cell? ⟨v1.heap.size, 4, none⟩ = some (.slice (some ⟨bp, op, none⟩) N cpp) := (BoxAt.cell PB.out 4).trans (by show some q.pr.val = _; rw [HPL.out])
                     have kQB4 : v17.cell? ⟨v5.heap.size, 4, none⟩ = some (.slice (some ⟨gq, 0, none⟩) N cap) := (BoxAt.cell QB.out 4).trans (by show some q1.pr.val = _; rw [HQgq.out]; rfl)
                     clear kne
                     have kne : v17.cell? ⟨bp, op + k * 18 + 13, none⟩ = some (.int .i64 r.ne) := (HPx.out.below HB.out hbp 13 (by decide))
                     clear kf1
                     have kf1 : v17.cell? ⟨b2, of2 + k * 5 + 1, none⟩ = some (.int .i64 f.pe) := ((HB.out.cell (p := ⟨b2, of2 + k * 5 + 1, none⟩) hcw).trans HF1.out)
                     clear kf2
                     have kf2 : v17.cell? ⟨b2, of2 + k * 5 + 2, none⟩ = some (.int .i64 f.li) := ((HB.out.cell (p := ⟨b2, of2 + k * 5 + 2, none⟩) hcw).trans HF2.out)
                     clear kq0
                     have kq0 : v17.cell? ⟨gq, k * 18, none⟩ = some (.int .i64 2) := ((HO1.out.rowx HQq.out HK.out HDx.out 0 (by decide)).trans (by rw [← HX1.out]; rfl))
                     clear kq9
                     have kq9 : v17.cell? ⟨gq, k * 18 + 9, none⟩ = some (.int .i64 r.ne) := ((HO1.out.rowx HQq.out HK.out HDx.out 9 (by decide)).trans (by rw [← HX1.out]; rfl))
                     clear kq12
                     have kq12 : v17.cell? ⟨gq, k * 18 + 12, none⟩ = some (.int .i64 (-1)) := ((HO1.out.rowx HQq.out HK.out HDx.out 12 (by decide)).trans (by rw [← HX1.out]; rfl))
                     clear b g z hfl FL14)
                  | fail)
                go_ret
                exact ⟨rfl, HB.out⟩
              · have d1 : decide (1099511627776 < f.li) = false := decide_eq_false hq1
                have HWk := hid (HW.out (by omega) (by omega))
                have HRg := hid (show 0 ≤ r.ne ∧ r.ne ≤ now ∧ 0 ≤ f.pe ∧ 0 ≤ f.li ∧ f.pe ≤ 1099511627776 ∧ f.li ≤ 1099511627776 by omega)
                clear hq1 hq2 hq3 hq4 hq5 hq6 HW
                have FL15 := hid trivial
                have FL16 := hid trivial
                go_wp2_with (first
                  | (have hfl := FL15.out
                     refine wpList_new rfl 39 rfl _ Try.zeroPa ?_
                     intro v18 b h z
                     have QB := hid (show BoxAt v18 v5.heap.size 39 (PaV.cells PaV.zero).toArray from b)
                     have CB := hid (CB.out.belowAll h)
                     have PB := hid (PB.out.belowAll h)
                     have HO1 := hid (HO1.out.below h)
                     have HB := hid (HB.out.trans (h.mono HB.out.size))
                     have hsv18 : v5.heap.size + 1 ≤ v18.heap.size := by omega
                     clear kCB2
                     have kCB2 : v18.cell? ⟨w.heap.size, 2, none⟩ = some (.slice (some ⟨b2, of2, none⟩) M cpc) := (BoxAt.cell CB.out 2).trans (by show some qc.v2.val = _; rw [HCL.out])
                     clear kPB4
                     have kPB4 : v18.cell? ⟨v1.heap.size, 4, none⟩ = some (.slice (some ⟨bp, op, none⟩) N cpp) := (BoxAt.cell PB.out 4).trans (by show some q.pr.val = _; rw [HPL.out])
                     clear kne
                     have kne : v18.cell? ⟨bp, op + k * 18 + 13, none⟩ = some (.int .i64 r.ne) := (HPx.out.below HB.out hbp 13 (by decide))
                     clear kf1
                     have kf1 : v18.cell? ⟨b2, of2 + k * 5 + 1, none⟩ = some (.int .i64 f.pe) := ((HB.out.cell (p := ⟨b2, of2 + k * 5 + 1, none⟩) hcw).trans HF1.out)
                     clear kf2
                     have kf2 : v18.cell? ⟨b2, of2 + k * 5 + 2, none⟩ = some (.int .i64 f.li) := ((HB.out.cell (p := ⟨b2, of2 + k * 5 + 2, none⟩) hcw).trans HF2.out)
                     clear kq0
                     have kq0 : v18.cell? ⟨gq, k * 18, none⟩ = some (.int .i64 2) := ((HO1.out.rowx HQq.out HK.out HDx.out 0 (by decide)).trans (by rw [← HX1.out]; rfl))
                     clear kq9
                     have kq9 : v18.cell? ⟨gq, k * 18 + 9, none⟩ = some (.int .i64 r.ne) := ((HO1.out.rowx HQq.out HK.out HDx.out 9 (by decide)).trans (by rw [← HX1.out]; rfl))
                     clear kq12
                     have kq12 : v18.cell? ⟨gq, k * 18 + 12, none⟩ = some (.int .i64 (-1)) := ((HO1.out.rowx HQq.out HK.out HDx.out 12 (by decide)).trans (by rw [← HX1.out]; rfl))
                     clear b h z hfl FL15)
                  | (have hfl := FL16.out
                     refine wpList_store_whole rfl 39 _ _ rfl rfl v5.heap.size rfl (PaV.cells q1) rfl _ _ QB.out rfl Try.infoPa (PaV.one _) ?_
                     intro v19 b g z
                     have hsv19 : v18.heap.size ≤ v19.heap.size := by omega
                     have HO1 := hid (HO1.out.turn (Turns.grown (S := fun t => t = 39) QB.out b rfl g))
                     have QB := hid (show BoxAt v19 v5.heap.size 39 (PaV.cells q1).toArray from b)
                     have CB := hid (CB.out.grown g (fun e => by have := Option.some.inj e; omega))
                     have PB := hid (PB.out.grown g (fun e => by have := Option.some.inj e; omega))
                     have HB := hid (HB.out.trans (grown_below g (by omega) (by omega)))
                     clear kCB2
                     have kCB2 : v19.cell? ⟨w.heap.size, 2, none⟩ = some (.slice (some ⟨b2, of2, none⟩) M cpc) := (BoxAt.cell CB.out 2).trans (by show some qc.v2.val = _; rw [HCL.out])
                     clear kPB4
                     have kPB4 : v19.cell? ⟨v1.heap.size, 4, none⟩ = some (.slice (some ⟨bp, op, none⟩) N cpp) := (BoxAt.cell PB.out 4).trans (by show some q.pr.val = _; rw [HPL.out])
                     have kQB4 : v19.cell? ⟨v5.heap.size, 4, none⟩ = some (.slice (some ⟨gq, 0, none⟩) N cap) := (BoxAt.cell QB.out 4).trans (by show some q1.pr.val = _; rw [HQgq.out]; rfl)
                     clear kne
                     have kne : v19.cell? ⟨bp, op + k * 18 + 13, none⟩ = some (.int .i64 r.ne) := (HPx.out.below HB.out hbp 13 (by decide))
                     clear kf1
                     have kf1 : v19.cell? ⟨b2, of2 + k * 5 + 1, none⟩ = some (.int .i64 f.pe) := ((HB.out.cell (p := ⟨b2, of2 + k * 5 + 1, none⟩) hcw).trans HF1.out)
                     clear kf2
                     have kf2 : v19.cell? ⟨b2, of2 + k * 5 + 2, none⟩ = some (.int .i64 f.li) := ((HB.out.cell (p := ⟨b2, of2 + k * 5 + 2, none⟩) hcw).trans HF2.out)
                     clear kq0
                     have kq0 : v19.cell? ⟨gq, k * 18, none⟩ = some (.int .i64 2) := ((HO1.out.rowx HQq.out HK.out HDx.out 0 (by decide)).trans (by rw [← HX1.out]; rfl))
                     clear kq9
                     have kq9 : v19.cell? ⟨gq, k * 18 + 9, none⟩ = some (.int .i64 r.ne) := ((HO1.out.rowx HQq.out HK.out HDx.out 9 (by decide)).trans (by rw [← HX1.out]; rfl))
                     clear kq12
                     have kq12 : v19.cell? ⟨gq, k * 18 + 12, none⟩ = some (.int .i64 (-1)) := ((HO1.out.rowx HQq.out HK.out HDx.out 12 (by decide)).trans (by rw [← HX1.out]; rfl))
                     clear b g z hfl FL16)
                  | (with_reducible refine wpList_dst 162 rfl ?_
                     refine wpList_load_box rfl 28 _ rfl w.heap.size rfl _ _ CB.out _ Try.underlying28 Try.infoPv ?_)
                  | (with_reducible refine wpList_dst 163 rfl ?_
                     refine wpList_load_box rfl 39 _ rfl v5.heap.size rfl _ _ QB.out _ Try.underlying39 Try.infoPa ?_)
                  | fail)
                clear d1 d2 d3 d4 d5 d6
                obtain ⟨Z, hZ⟩ : ∃ Z, wakeP cc D now = Z := ⟨_, rfl⟩
                rw [hZ] at HWk
                have HZ := hid hZ
                have HZl := hid (show Z.pr.length = N from by rw [← hZ, wakeP_len, HDl.out])
                clear hZ
                refine (wake_any (now := now) (HC.out.below HB.out) HO1.out.sees HDs.out).mono ?_
                rintro e v20 ⟨q2, rfl, ho, hb⟩
                have CB := hid (CB.out.belowAll hb)
                have PB := hid (PB.out.belowAll hb)
                have QB := hid (QB.out.belowAll hb)
                have HO1 := hid (HO1.out.below hb)
                have HB := hid (HB.out.trans (hb.mono HB.out.size))
                have hsv20 : v19.heap.size ≤ v20.heap.size := hb.size
                rw [HZ.out] at ho
                have HO2 := hid ho
                clear ho
                clear kCB2
                have kCB2 : v20.cell? ⟨w.heap.size, 2, none⟩ = some (.slice (some ⟨b2, of2, none⟩) M cpc) := (BoxAt.cell CB.out 2).trans (by show some qc.v2.val = _; rw [HCL.out])
                clear kQB4
                have kQB4 : v20.cell? ⟨v5.heap.size, 4, none⟩ = some (.slice (some ⟨gq, 0, none⟩) N cap) := (BoxAt.cell QB.out 4).trans (by show some q1.pr.val = _; rw [HQgq.out]; rfl)
                clear kf1
                have kf1 : v20.cell? ⟨b2, of2 + k * 5 + 1, none⟩ = some (.int .i64 f.pe) := ((HB.out.cell (p := ⟨b2, of2 + k * 5 + 1, none⟩) hcw).trans HF1.out)
                clear kf2
                have kf2 : v20.cell? ⟨b2, of2 + k * 5 + 2, none⟩ = some (.int .i64 f.li) := ((HB.out.cell (p := ⟨b2, of2 + k * 5 + 2, none⟩) hcw).trans HF2.out)
                clear hb
                obtain ⟨ga, ca, hqa, _, _, _, _⟩ := HO2.out.hdr (by rw [HZl.out]; omega)
                have HQa := hid hqa
                have HQga := hid (show q2.pr = ⟨some ⟨ga, 0, none⟩, N, ca⟩ from by rw [← HZl.out]; exact hqa)
                clear hqa
                obtain ⟨y, hy⟩ : ∃ y, Z.pr.getD k Px.zero = y := ⟨_, rfl⟩
                rw [hy] at HWk
                have HY := hid hy
                clear hy
                have hlo : 0 ≤ r.ne ∧ r.ne ≤ 1099511627776 ∧ 0 ≤ f.pe ∧ f.pe ≤ 1099511627776 ∧ 0 ≤ now ∧ now ≤ 1099511627776 ∧ 0 ≤ f.li ∧ f.li ≤ 1099511627776 := by have h1 := HRg.out; have h2 := HNw.out; omega
                have HY1 := hid (show y.ne = r.ne + f.pe from by rw [HWk.out.2.1]; exact wrap_in (by omega) (by omega))
                by_cases hli : 0 < f.li
                · have dl : decide (0 < f.li) = true := decide_eq_true hli
                  have HY2 := hid (show y.du = now + f.li from by rw [HWk.out.2.2.1, if_pos hli]; exact wrap_in (by omega) (by omega))
                  obtain ⟨h0n, h1n, h0p, h1p, h0w, h1w, h0l, h1l⟩ := hlo
                  clear hli
                  have FL17 := hid trivial
                  have FL18 := hid trivial
                  go_wp2_with (first
                    | (have hfl := FL17.out
                       refine wpList_new rfl 39 rfl _ Try.zeroPa ?_
                       intro v21 b h z
                       have AB := hid (show BoxAt v21 v20.heap.size 39 (PaV.cells PaV.zero).toArray from b)
                       have CB := hid (CB.out.belowAll h)
                       have PB := hid (PB.out.belowAll h)
                       have QB := hid (QB.out.belowAll h)
                       have HO2 := hid (HO2.out.below h)
                       have HB := hid (HB.out.trans (h.mono HB.out.size))
                       have hsv21 : v20.heap.size + 1 ≤ v21.heap.size := by omega
                       clear kCB2
                       have kCB2 : v21.cell? ⟨w.heap.size, 2, none⟩ = some (.slice (some ⟨b2, of2, none⟩) M cpc) := (BoxAt.cell CB.out 2).trans (by show some qc.v2.val = _; rw [HCL.out])
                       clear kQB4
                       have kQB4 : v21.cell? ⟨v5.heap.size, 4, none⟩ = some (.slice (some ⟨gq, 0, none⟩) N cap) := (BoxAt.cell QB.out 4).trans (by show some q1.pr.val = _; rw [HQgq.out]; rfl)
                       clear kf1
                       have kf1 : v21.cell? ⟨b2, of2 + k * 5 + 1, none⟩ = some (.int .i64 f.pe) := ((HB.out.cell (p := ⟨b2, of2 + k * 5 + 1, none⟩) hcw).trans HF1.out)
                       clear kf2
                       have kf2 : v21.cell? ⟨b2, of2 + k * 5 + 2, none⟩ = some (.int .i64 f.li) := ((HB.out.cell (p := ⟨b2, of2 + k * 5 + 2, none⟩) hcw).trans HF2.out)
                       clear b h z hfl FL17)
                    | (have hfl := FL18.out
                       refine wpList_store_whole rfl 39 _ _ rfl rfl v20.heap.size rfl (PaV.cells q2) rfl _ _ AB.out rfl Try.infoPa (PaV.one _) ?_
                       intro v22 b g z
                       have hsv22 : v21.heap.size ≤ v22.heap.size := by omega
                       have HO2 := hid (HO2.out.turn (Turns.grown (S := fun t => t = 39) AB.out b rfl g))
                       have AB := hid (show BoxAt v22 v20.heap.size 39 (PaV.cells q2).toArray from b)
                       have CB := hid (CB.out.grown g (fun e => by have := Option.some.inj e; omega))
                       have PB := hid (PB.out.grown g (fun e => by have := Option.some.inj e; omega))
                       have QB := hid (QB.out.grown g (fun e => by have := Option.some.inj e; omega))
                       have HB := hid (HB.out.trans (grown_below g (by omega) (by omega)))
                       clear kCB2
                       have kCB2 : v22.cell? ⟨w.heap.size, 2, none⟩ = some (.slice (some ⟨b2, of2, none⟩) M cpc) := (BoxAt.cell CB.out 2).trans (by show some qc.v2.val = _; rw [HCL.out])
                       clear kQB4
                       have kQB4 : v22.cell? ⟨v5.heap.size, 4, none⟩ = some (.slice (some ⟨gq, 0, none⟩) N cap) := (BoxAt.cell QB.out 4).trans (by show some q1.pr.val = _; rw [HQgq.out]; rfl)
                       have kAB4 : v22.cell? ⟨v20.heap.size, 4, none⟩ = some (.slice (some ⟨ga, 0, none⟩) N ca) := (BoxAt.cell AB.out 4).trans (by show some q2.pr.val = _; rw [HQga.out]; rfl)
                       clear kf1
                       have kf1 : v22.cell? ⟨b2, of2 + k * 5 + 1, none⟩ = some (.int .i64 f.pe) := ((HB.out.cell (p := ⟨b2, of2 + k * 5 + 1, none⟩) hcw).trans HF1.out)
                       clear kf2
                       have kf2 : v22.cell? ⟨b2, of2 + k * 5 + 2, none⟩ = some (.int .i64 f.li) := ((HB.out.cell (p := ⟨b2, of2 + k * 5 + 2, none⟩) hcw).trans HF2.out)
                       clear b g z hfl FL18)
                    | fail)
                  have a4 : v22.drew.cell? ⟨v20.heap.size, 4, none⟩ = some (.slice (some ⟨ga, 0, none⟩) N ca) := (BoxAt.cell (BoxAt.drew AB.out) 4).trans (by show some q2.pr.val = _; rw [HQga.out]; rfl)
                  have a0 : v22.drew.cell? ⟨ga, k * 18, none⟩ = some (.int .i64 1) := ((HO2.out.below ((Below.refl v22.heap.size v22).drew)).rowx HQa.out (by rw [HZl.out]; omega) HY.out 0 (by decide)).trans (by show some (Value.int .i64 y.st) = _; rw [HWk.out.1])
                  have a13 : v22.drew.cell? ⟨ga, k * 18 + 13, none⟩ = some (.int .i64 (r.ne + f.pe)) := ((HO2.out.below ((Below.refl v22.heap.size v22).drew)).rowx HQa.out (by rw [HZl.out]; omega) HY.out 13 (by decide)).trans (by show some (Value.int .i64 y.ne) = _; rw [HY1.out])
                  have a12 : v22.drew.cell? ⟨ga, k * 18 + 12, none⟩ = some (.int .i64 (now + f.li)) := ((HO2.out.below ((Below.refl v22.heap.size v22).drew)).rowx HQa.out (by rw [HZl.out]; omega) HY.out 12 (by decide)).trans (by show some (Value.int .i64 y.du) = _; rw [HY2.out])
                  have a15 : v22.drew.cell? ⟨ga, k * 18 + 15, none⟩ = some (.int .i64 0) := ((HO2.out.below ((Below.refl v22.heap.size v22).drew)).rowx HQa.out (by rw [HZl.out]; omega) HY.out 15 (by decide)).trans (by show some (Value.int .i64 y.co) = _; rw [HWk.out.2.2.2])
                  have c2 : v22.drew.cell? ⟨w.heap.size, 2, none⟩ = some (.slice (some ⟨b2, of2, none⟩) M cpc) := (BoxAt.cell (BoxAt.drew CB.out) 2).trans (by show some qc.v2.val = _; rw [HCL.out])
                  have f1 : v22.drew.cell? ⟨b2, of2 + k * 5 + 1, none⟩ = some (.int .i64 f.pe) := ((HB.out.drew.cell (p := ⟨b2, of2 + k * 5 + 1, none⟩) hcw).trans HF1.out)
                  clear dl kCB2 kAB4 kf1 kf2
                  have hwt : wrap64 (r.ne + f.pe) = r.ne + f.pe := wrap_in (by omega) (by omega)
                  have hws : IntKind.i64.wrap (r.ne + f.pe) = r.ne + f.pe := by rw [IntKind.wrap_i64]; have h := hwt; unfold wrap64 at h; exact h
                  refine wp_region_held_drew (S := (fun W => W.cell? ⟨v20.heap.size, 4, none⟩ = some (.slice (some ⟨ga, 0, none⟩) N ca) ∧ W.cell? ⟨ga, k * 18, none⟩ = some (.int .i64 1) ∧ W.cell? ⟨ga, k * 18 + 13, none⟩ = some (.int .i64 (r.ne + f.pe)) ∧ W.cell? ⟨ga, k * 18 + 12, none⟩ = some (.int .i64 (now + f.li)) ∧ W.cell? ⟨ga, k * 18 + 15, none⟩ = some (.int .i64 0) ∧ W.cell? ⟨w.heap.size, 2, none⟩ = some (.slice (some ⟨b2, of2, none⟩) M cpc) ∧ W.cell? ⟨b2, of2 + k * 5 + 1, none⟩ = some (.int .i64 f.pe))) (by kernel_rfl) (⟨a4, a0, a13, a12, a15, c2, f1⟩) (fun hHeld => ?_)
                  refine wpAnyH_take (i := 0) (oi := { dst := some 188, op := Op.fieldAddr 39 (Operand.tmp 15) 4, type := 0, pos := "more.go:40", after := #[], guard := none }) (v := ?v901) rfl (by kernel_rfl) (by kernel_rfl) (by kernel_rfl) (fun _ _ _ h => h) (Or.inl ⟨by rfl, ?hy901⟩) (by assumption) ?rest901
                  case hy901 => (intro W hSw; obtain ⟨s0, s1, s2, s3, s4, s5, s6⟩ := hSw; go_simp; (try simp only [hws, hwt]); try with_reducible rfl)
                  simp only [Act.put, List.setIfInBounds_toArray, List.set_cons_zero, List.set_cons_succ]
                  refine wpAnyH_take (i := 1) (oi := { dst := some 189, op := Op.load 29 (Operand.tmp 188), type := 29, pos := "more.go:40", after := #[{ on := 0, ground := Ground.data }], guard := none }) (v := ?v902) rfl (by kernel_rfl) (by kernel_rfl) (by kernel_rfl) (fun _ _ _ h => h) (Or.inl ⟨by rfl, ?hy902⟩) (by assumption) ?rest902
                  case hy902 => (intro W hSw; obtain ⟨s0, s1, s2, s3, s4, s5, s6⟩ := hSw; go_simp; (try simp only [hws, hwt]); try with_reducible rfl)
                  simp only [Act.put, List.setIfInBounds_toArray, List.set_cons_zero, List.set_cons_succ]
                  refine wpAnyH_take (i := 2) (oi := { dst := some 190, op := Op.move (Operand.tmp 2), type := 3, pos := "more.go:40", after := #[], guard := none }) (v := ?v903) rfl (by kernel_rfl) (by kernel_rfl) (by kernel_rfl) (fun _ _ _ h => h) (Or.inl ⟨by rfl, ?hy903⟩) (by assumption) ?rest903
                  case hy903 => (intro W hSw; obtain ⟨s0, s1, s2, s3, s4, s5, s6⟩ := hSw; go_simp; (try simp only [hws, hwt]); try with_reducible rfl)
                  simp only [Act.put, List.setIfInBounds_toArray, List.set_cons_zero, List.set_cons_succ]
                  refine wpAnyH_take (i := 3) (oi := { dst := some 191, op := Op.indexAddr 29 (Operand.tmp 189) (Operand.tmp 190), type := 0, pos := "more.go:40", after := #[{ on := 1, ground := Ground.data }, { on := 2, ground := Ground.data }], guard := none }) (v := ?v904) rfl (by kernel_rfl) (by kernel_rfl) (by kernel_rfl) (fun _ _ _ h => h) (Or.inl ⟨by rfl, ?hy904⟩) (by assumption) ?rest904
                  case hy904 => (intro W hSw; obtain ⟨s0, s1, s2, s3, s4, s5, s6⟩ := hSw; go_simp; (try simp only [hws, hwt]); try with_reducible rfl)
                  simp only [Act.put, List.setIfInBounds_toArray, List.set_cons_zero, List.set_cons_succ]
                  refine wpAnyH_take (i := 4) (oi := { dst := some 192, op := Op.fieldAddr 57 (Operand.tmp 191) 0, type := 0, pos := "more.go:40", after := #[{ on := 3, ground := Ground.data }], guard := none }) (v := ?v905) rfl (by kernel_rfl) (by kernel_rfl) (by kernel_rfl) (fun _ _ _ h => h) (Or.inl ⟨by rfl, ?hy905⟩) (by assumption) ?rest905
                  case hy905 => (intro W hSw; obtain ⟨s0, s1, s2, s3, s4, s5, s6⟩ := hSw; go_simp; (try simp only [hws, hwt]); try with_reducible rfl)
                  simp only [Act.put, List.setIfInBounds_toArray, List.set_cons_zero, List.set_cons_succ]
                  refine wpAnyH_take (i := 5) (oi := { dst := some 193, op := Op.load 3 (Operand.tmp 192), type := 3, pos := "more.go:40", after := #[{ on := 4, ground := Ground.data }], guard := none }) (v := ?v906) rfl (by kernel_rfl) (by kernel_rfl) (by kernel_rfl) (fun _ _ _ h => h) (Or.inl ⟨by rfl, ?hy906⟩) (by assumption) ?rest906
                  case hy906 => (intro W hSw; obtain ⟨s0, s1, s2, s3, s4, s5, s6⟩ := hSw; go_simp; (try simp only [hws, hwt]); try with_reducible rfl)
                  simp only [Act.put, List.setIfInBounds_toArray, List.set_cons_zero, List.set_cons_succ]
                  refine wpAnyH_take (i := 6) (oi := { dst := some 194, op := Op.binOp BinOp.eql 3 (Operand.tmp 193) (Operand.const (Value.int IntKind.i64 1)) 3, type := 4, pos := "more.go:40", after := #[{ on := 5, ground := Ground.data }], guard := none }) (v := ?v907) rfl (by kernel_rfl) (by kernel_rfl) (by kernel_rfl) (fun _ _ _ h => h) (Or.inl ⟨by rfl, ?hy907⟩) (by assumption) ?rest907
                  case hy907 => (intro W hSw; obtain ⟨s0, s1, s2, s3, s4, s5, s6⟩ := hSw; go_simp; (try simp only [hws, hwt]); try with_reducible rfl)
                  simp only [Act.put, List.setIfInBounds_toArray, List.set_cons_zero, List.set_cons_succ]
                  refine wpAnyH_take (i := 7) (oi := { dst := some 195, op := Op.move (Operand.tmp 194), type := 4, pos := "more.go:40", after := #[{ on := 6, ground := Ground.data }], guard := none }) (v := ?v908) rfl (by kernel_rfl) (by kernel_rfl) (by kernel_rfl) (fun _ _ _ h => h) (Or.inl ⟨by rfl, ?hy908⟩) (by assumption) ?rest908
                  case hy908 => (intro W hSw; obtain ⟨s0, s1, s2, s3, s4, s5, s6⟩ := hSw; go_simp; (try simp only [hws, hwt]); try with_reducible rfl)
                  simp only [Act.put, List.setIfInBounds_toArray, List.set_cons_zero, List.set_cons_succ]
                  refine wpAnyH_take (i := 8) (oi := { dst := some 196, op := Op.fieldAddr 39 (Operand.tmp 15) 4, type := 0, pos := "more.go:40", after := #[{ on := 7, ground := Ground.guard }], guard := some (7, true) }) (v := ?v909) rfl (by kernel_rfl) (by kernel_rfl) (by kernel_rfl) (fun _ _ _ h => h) (Or.inl ⟨by rfl, ?hy909⟩) (by assumption) ?rest909
                  case hy909 => (intro W hSw; obtain ⟨s0, s1, s2, s3, s4, s5, s6⟩ := hSw; go_simp; (try simp only [hws, hwt]); try with_reducible rfl)
                  simp only [Act.put, List.setIfInBounds_toArray, List.set_cons_zero, List.set_cons_succ]
                  refine wpAnyH_take (i := 9) (oi := { dst := some 197, op := Op.load 29 (Operand.tmp 196), type := 29, pos := "more.go:40", after := #[{ on := 8, ground := Ground.data }, { on := 7, ground := Ground.guard }], guard := some (7, true) }) (v := ?v910) rfl (by kernel_rfl) (by kernel_rfl) (by kernel_rfl) (fun _ _ _ h => h) (Or.inl ⟨by rfl, ?hy910⟩) (by assumption) ?rest910
                  case hy910 => (intro W hSw; obtain ⟨s0, s1, s2, s3, s4, s5, s6⟩ := hSw; go_simp; (try simp only [hws, hwt]); try with_reducible rfl)
                  simp only [Act.put, List.setIfInBounds_toArray, List.set_cons_zero, List.set_cons_succ]
                  refine wpAnyH_take (i := 10) (oi := { dst := some 198, op := Op.move (Operand.tmp 2), type := 3, pos := "more.go:40", after := #[{ on := 7, ground := Ground.guard }], guard := some (7, true) }) (v := ?v911) rfl (by kernel_rfl) (by kernel_rfl) (by kernel_rfl) (fun _ _ _ h => h) (Or.inl ⟨by rfl, ?hy911⟩) (by assumption) ?rest911
                  case hy911 => (intro W hSw; obtain ⟨s0, s1, s2, s3, s4, s5, s6⟩ := hSw; go_simp; (try simp only [hws, hwt]); try with_reducible rfl)
                  simp only [Act.put, List.setIfInBounds_toArray, List.set_cons_zero, List.set_cons_succ]
                  refine wpAnyH_take (i := 11) (oi := { dst := some 199, op := Op.indexAddr 29 (Operand.tmp 197) (Operand.tmp 198), type := 0, pos := "more.go:40", after := #[{ on := 9, ground := Ground.data }, { on := 10, ground := Ground.data }, { on := 7, ground := Ground.guard }], guard := some (7, true) }) (v := ?v912) rfl (by kernel_rfl) (by kernel_rfl) (by kernel_rfl) (fun _ _ _ h => h) (Or.inl ⟨by rfl, ?hy912⟩) (by assumption) ?rest912
                  case hy912 => (intro W hSw; obtain ⟨s0, s1, s2, s3, s4, s5, s6⟩ := hSw; go_simp; (try simp only [hws, hwt]); try with_reducible rfl)
                  simp only [Act.put, List.setIfInBounds_toArray, List.set_cons_zero, List.set_cons_succ]
                  refine wpAnyH_take (i := 12) (oi := { dst := some 200, op := Op.fieldAddr 57 (Operand.tmp 199) 9, type := 0, pos := "more.go:40", after := #[{ on := 11, ground := Ground.data }, { on := 7, ground := Ground.guard }], guard := some (7, true) }) (v := ?v913) rfl (by kernel_rfl) (by kernel_rfl) (by kernel_rfl) (fun _ _ _ h => h) (Or.inl ⟨by rfl, ?hy913⟩) (by assumption) ?rest913
                  case hy913 => (intro W hSw; obtain ⟨s0, s1, s2, s3, s4, s5, s6⟩ := hSw; go_simp; (try simp only [hws, hwt]); try with_reducible rfl)
                  simp only [Act.put, List.setIfInBounds_toArray, List.set_cons_zero, List.set_cons_succ]
                  refine wpAnyH_take (i := 13) (oi := { dst := some 201, op := Op.load 3 (Operand.tmp 200), type := 3, pos := "more.go:40", after := #[{ on := 12, ground := Ground.data }, { on := 7, ground := Ground.guard }], guard := some (7, true) }) (v := ?v914) rfl (by kernel_rfl) (by kernel_rfl) (by kernel_rfl) (fun _ _ _ h => h) (Or.inl ⟨by rfl, ?hy914⟩) (by assumption) ?rest914
                  case hy914 => (intro W hSw; obtain ⟨s0, s1, s2, s3, s4, s5, s6⟩ := hSw; go_simp; (try simp only [hws, hwt]); try with_reducible rfl)
                  simp only [Act.put, List.setIfInBounds_toArray, List.set_cons_zero, List.set_cons_succ]
                  refine wpAnyH_take (i := 14) (oi := { dst := some 202, op := Op.move (Operand.tmp 14), type := 3, pos := "more.go:40", after := #[{ on := 7, ground := Ground.guard }], guard := some (7, true) }) (v := ?v915) rfl (by kernel_rfl) (by kernel_rfl) (by kernel_rfl) (fun _ _ _ h => h) (Or.inl ⟨by rfl, ?hy915⟩) (by assumption) ?rest915
                  case hy915 => (intro W hSw; obtain ⟨s0, s1, s2, s3, s4, s5, s6⟩ := hSw; go_simp; (try simp only [hws, hwt]); try with_reducible rfl)
                  simp only [Act.put, List.setIfInBounds_toArray, List.set_cons_zero, List.set_cons_succ]
                  refine wpAnyH_take (i := 15) (oi := { dst := some 203, op := Op.fieldAddr 28 (Operand.tmp 4) 2, type := 0, pos := "more.go:40", after := #[{ on := 7, ground := Ground.guard }], guard := some (7, true) }) (v := ?v916) rfl (by kernel_rfl) (by kernel_rfl) (by kernel_rfl) (fun _ _ _ h => h) (Or.inl ⟨by rfl, ?hy916⟩) (by assumption) ?rest916
                  case hy916 => (intro W hSw; obtain ⟨s0, s1, s2, s3, s4, s5, s6⟩ := hSw; go_simp; (try simp only [hws, hwt]); try with_reducible rfl)
                  simp only [Act.put, List.setIfInBounds_toArray, List.set_cons_zero, List.set_cons_succ]
                  refine wpAnyH_take (i := 16) (oi := { dst := some 204, op := Op.load 23 (Operand.tmp 203), type := 23, pos := "more.go:40", after := #[{ on := 15, ground := Ground.data }, { on := 7, ground := Ground.guard }], guard := some (7, true) }) (v := ?v917) rfl (by kernel_rfl) (by kernel_rfl) (by kernel_rfl) (fun _ _ _ h => h) (Or.inl ⟨by rfl, ?hy917⟩) (by assumption) ?rest917
                  case hy917 => (intro W hSw; obtain ⟨s0, s1, s2, s3, s4, s5, s6⟩ := hSw; go_simp; (try simp only [hws, hwt]); try with_reducible rfl)
                  simp only [Act.put, List.setIfInBounds_toArray, List.set_cons_zero, List.set_cons_succ]
                  refine wpAnyH_take (i := 17) (oi := { dst := some 205, op := Op.move (Operand.tmp 2), type := 3, pos := "more.go:40", after := #[{ on := 7, ground := Ground.guard }], guard := some (7, true) }) (v := ?v918) rfl (by kernel_rfl) (by kernel_rfl) (by kernel_rfl) (fun _ _ _ h => h) (Or.inl ⟨by rfl, ?hy918⟩) (by assumption) ?rest918
                  case hy918 => (intro W hSw; obtain ⟨s0, s1, s2, s3, s4, s5, s6⟩ := hSw; go_simp; (try simp only [hws, hwt]); try with_reducible rfl)
                  simp only [Act.put, List.setIfInBounds_toArray, List.set_cons_zero, List.set_cons_succ]
                  refine wpAnyH_take (i := 18) (oi := { dst := some 206, op := Op.indexAddr 23 (Operand.tmp 204) (Operand.tmp 205), type := 0, pos := "more.go:40", after := #[{ on := 16, ground := Ground.data }, { on := 17, ground := Ground.data }, { on := 7, ground := Ground.guard }], guard := some (7, true) }) (v := ?v919) rfl (by kernel_rfl) (by kernel_rfl) (by kernel_rfl) (fun _ _ _ h => h) (Or.inl ⟨by rfl, ?hy919⟩) (by assumption) ?rest919
                  case hy919 => (intro W hSw; obtain ⟨s0, s1, s2, s3, s4, s5, s6⟩ := hSw; go_simp; (try simp only [hws, hwt]); try with_reducible rfl)
                  simp only [Act.put, List.setIfInBounds_toArray, List.set_cons_zero, List.set_cons_succ]
                  refine wpAnyH_take (i := 19) (oi := { dst := some 207, op := Op.fieldAddr 60 (Operand.tmp 206) 1, type := 0, pos := "more.go:40", after := #[{ on := 18, ground := Ground.data }, { on := 7, ground := Ground.guard }], guard := some (7, true) }) (v := ?v920) rfl (by kernel_rfl) (by kernel_rfl) (by kernel_rfl) (fun _ _ _ h => h) (Or.inl ⟨by rfl, ?hy920⟩) (by assumption) ?rest920
                  case hy920 => (intro W hSw; obtain ⟨s0, s1, s2, s3, s4, s5, s6⟩ := hSw; go_simp; (try simp only [hws, hwt]); try with_reducible rfl)
                  simp only [Act.put, List.setIfInBounds_toArray, List.set_cons_zero, List.set_cons_succ]
                  refine wpAnyH_take (i := 20) (oi := { dst := some 208, op := Op.load 3 (Operand.tmp 207), type := 3, pos := "more.go:40", after := #[{ on := 19, ground := Ground.data }, { on := 7, ground := Ground.guard }], guard := some (7, true) }) (v := ?v921) rfl (by kernel_rfl) (by kernel_rfl) (by kernel_rfl) (fun _ _ _ h => h) (Or.inl ⟨by rfl, ?hy921⟩) (by assumption) ?rest921
                  case hy921 => (intro W hSw; obtain ⟨s0, s1, s2, s3, s4, s5, s6⟩ := hSw; go_simp; (try simp only [hws, hwt]); try with_reducible rfl)
                  simp only [Act.put, List.setIfInBounds_toArray, List.set_cons_zero, List.set_cons_succ]
                  refine wpAnyH_take (i := 21) (oi := { dst := some 209, op := Op.binOp BinOp.add 3 (Operand.tmp 202) (Operand.tmp 208) 3, type := 3, pos := "more.go:40", after := #[{ on := 14, ground := Ground.data }, { on := 20, ground := Ground.data }, { on := 7, ground := Ground.guard }], guard := some (7, true) }) (v := ?v922) rfl (by kernel_rfl) (by kernel_rfl) (by kernel_rfl) (fun _ _ _ h => h) (Or.inl ⟨by rfl, ?hy922⟩) (by assumption) ?rest922
                  case hy922 => (intro W hSw; obtain ⟨s0, s1, s2, s3, s4, s5, s6⟩ := hSw; go_simp; (try simp only [hws, hwt]); try with_reducible rfl)
                  simp only [Act.put, List.setIfInBounds_toArray, List.set_cons_zero, List.set_cons_succ]
                  refine wpAnyH_take (i := 22) (oi := { dst := some 210, op := Op.binOp BinOp.eql 3 (Operand.tmp 201) (Operand.tmp 209) 3, type := 4, pos := "more.go:40", after := #[{ on := 13, ground := Ground.data }, { on := 21, ground := Ground.data }, { on := 7, ground := Ground.guard }], guard := some (7, true) }) (v := ?v923) rfl (by kernel_rfl) (by kernel_rfl) (by kernel_rfl) (fun _ _ _ h => h) (Or.inl ⟨by rfl, ?hy923⟩) (by assumption) ?rest923
                  case hy923 => (intro W hSw; obtain ⟨s0, s1, s2, s3, s4, s5, s6⟩ := hSw; go_simp; (try simp only [hws, hwt]); try with_reducible rfl)
                  simp only [Act.put, List.setIfInBounds_toArray, List.set_cons_zero, List.set_cons_succ]
                  refine wpAnyH_take (i := 23) (oi := { dst := some 211, op := Op.pick (Operand.tmp 195) (Operand.tmp 210) (Operand.const (Value.bool false)), type := 4, pos := "more.go:40", after := #[{ on := 7, ground := Ground.data }, { on := 22, ground := Ground.data }], guard := none }) (v := ?v924) rfl (by kernel_rfl) (by kernel_rfl) (by kernel_rfl) (fun _ _ _ h => h) (Or.inl ⟨by rfl, ?hy924⟩) (by assumption) ?rest924
                  case hy924 => (intro W hSw; obtain ⟨s0, s1, s2, s3, s4, s5, s6⟩ := hSw; go_simp; (try simp only [hws, hwt]); try with_reducible rfl)
                  simp only [Act.put, List.setIfInBounds_toArray, List.set_cons_zero, List.set_cons_succ]
                  refine wpAnyH_take (i := 24) (oi := { dst := some 212, op := Op.move (Operand.tmp 211), type := 4, pos := "more.go:40", after := #[{ on := 23, ground := Ground.data }, { on := 7, ground := Ground.chain }], guard := none }) (v := ?v925) rfl (by kernel_rfl) (by kernel_rfl) (by kernel_rfl) (fun _ _ _ h => h) (Or.inl ⟨by rfl, ?hy925⟩) (by assumption) ?rest925
                  case hy925 => (intro W hSw; obtain ⟨s0, s1, s2, s3, s4, s5, s6⟩ := hSw; go_simp; (try simp only [hws, hwt]); try with_reducible rfl)
                  simp only [Act.put, List.setIfInBounds_toArray, List.set_cons_zero, List.set_cons_succ]
                  refine wpAnyH_take (i := 25) (oi := { dst := some 213, op := Op.fieldAddr 39 (Operand.tmp 15) 4, type := 0, pos := "more.go:40", after := #[{ on := 24, ground := Ground.guard }], guard := some (24, true) }) (v := ?v926) rfl (by kernel_rfl) (by kernel_rfl) (by kernel_rfl) (fun _ _ _ h => h) (Or.inl ⟨by rfl, ?hy926⟩) (by assumption) ?rest926
                  case hy926 => (intro W hSw; obtain ⟨s0, s1, s2, s3, s4, s5, s6⟩ := hSw; go_simp; (try simp only [hws, hwt]); try with_reducible rfl)
                  simp only [Act.put, List.setIfInBounds_toArray, List.set_cons_zero, List.set_cons_succ]
                  refine wpAnyH_take (i := 26) (oi := { dst := some 214, op := Op.load 29 (Operand.tmp 213), type := 29, pos := "more.go:40", after := #[{ on := 25, ground := Ground.data }, { on := 24, ground := Ground.guard }], guard := some (24, true) }) (v := ?v927) rfl (by kernel_rfl) (by kernel_rfl) (by kernel_rfl) (fun _ _ _ h => h) (Or.inl ⟨by rfl, ?hy927⟩) (by assumption) ?rest927
                  case hy927 => (intro W hSw; obtain ⟨s0, s1, s2, s3, s4, s5, s6⟩ := hSw; go_simp; (try simp only [hws, hwt]); try with_reducible rfl)
                  simp only [Act.put, List.setIfInBounds_toArray, List.set_cons_zero, List.set_cons_succ]
                  refine wpAnyH_take (i := 27) (oi := { dst := some 215, op := Op.move (Operand.tmp 2), type := 3, pos := "more.go:40", after := #[{ on := 24, ground := Ground.guard }], guard := some (24, true) }) (v := ?v928) rfl (by kernel_rfl) (by kernel_rfl) (by kernel_rfl) (fun _ _ _ h => h) (Or.inl ⟨by rfl, ?hy928⟩) (by assumption) ?rest928
                  case hy928 => (intro W hSw; obtain ⟨s0, s1, s2, s3, s4, s5, s6⟩ := hSw; go_simp; (try simp only [hws, hwt]); try with_reducible rfl)
                  simp only [Act.put, List.setIfInBounds_toArray, List.set_cons_zero, List.set_cons_succ]
                  refine wpAnyH_take (i := 28) (oi := { dst := some 216, op := Op.indexAddr 29 (Operand.tmp 214) (Operand.tmp 215), type := 0, pos := "more.go:40", after := #[{ on := 26, ground := Ground.data }, { on := 27, ground := Ground.data }, { on := 24, ground := Ground.guard }], guard := some (24, true) }) (v := ?v929) rfl (by kernel_rfl) (by kernel_rfl) (by kernel_rfl) (fun _ _ _ h => h) (Or.inl ⟨by rfl, ?hy929⟩) (by assumption) ?rest929
                  case hy929 => (intro W hSw; obtain ⟨s0, s1, s2, s3, s4, s5, s6⟩ := hSw; go_simp; (try simp only [hws, hwt]); try with_reducible rfl)
                  simp only [Act.put, List.setIfInBounds_toArray, List.set_cons_zero, List.set_cons_succ]
                  refine wpAnyH_take (i := 29) (oi := { dst := some 217, op := Op.fieldAddr 57 (Operand.tmp 216) 8, type := 0, pos := "more.go:40", after := #[{ on := 28, ground := Ground.data }, { on := 24, ground := Ground.guard }], guard := some (24, true) }) (v := ?v930) rfl (by kernel_rfl) (by kernel_rfl) (by kernel_rfl) (fun _ _ _ h => h) (Or.inl ⟨by rfl, ?hy930⟩) (by assumption) ?rest930
                  case hy930 => (intro W hSw; obtain ⟨s0, s1, s2, s3, s4, s5, s6⟩ := hSw; go_simp; (try simp only [hws, hwt]); try with_reducible rfl)
                  simp only [Act.put, List.setIfInBounds_toArray, List.set_cons_zero, List.set_cons_succ]
                  refine wpAnyH_take (i := 30) (oi := { dst := some 218, op := Op.load 3 (Operand.tmp 217), type := 3, pos := "more.go:40", after := #[{ on := 29, ground := Ground.data }, { on := 24, ground := Ground.guard }], guard := some (24, true) }) (v := ?v931) rfl (by kernel_rfl) (by kernel_rfl) (by kernel_rfl) (fun _ _ _ h => h) (Or.inl ⟨by rfl, ?hy931⟩) (by assumption) ?rest931
                  case hy931 => (intro W hSw; obtain ⟨s0, s1, s2, s3, s4, s5, s6⟩ := hSw; go_simp; (try simp only [hws, hwt]); try with_reducible rfl)
                  simp only [Act.put, List.setIfInBounds_toArray, List.set_cons_zero, List.set_cons_succ]
                  refine wpAnyH_take (i := 31) (oi := { dst := some 219, op := Op.move (Operand.tmp 16), type := 3, pos := "more.go:40", after := #[{ on := 24, ground := Ground.guard }], guard := some (24, true) }) (v := ?v932) rfl (by kernel_rfl) (by kernel_rfl) (by kernel_rfl) (fun _ _ _ h => h) (Or.inl ⟨by rfl, ?hy932⟩) (by assumption) ?rest932
                  case hy932 => (intro W hSw; obtain ⟨s0, s1, s2, s3, s4, s5, s6⟩ := hSw; go_simp; (try simp only [hws, hwt]); try with_reducible rfl)
                  simp only [Act.put, List.setIfInBounds_toArray, List.set_cons_zero, List.set_cons_succ]
                  refine wpAnyH_take (i := 32) (oi := { dst := some 220, op := Op.binOp BinOp.eql 3 (Operand.tmp 218) (Operand.tmp 219) 3, type := 4, pos := "more.go:40", after := #[{ on := 30, ground := Ground.data }, { on := 31, ground := Ground.data }, { on := 24, ground := Ground.guard }], guard := some (24, true) }) (v := ?v933) rfl (by kernel_rfl) (by kernel_rfl) (by kernel_rfl) (fun _ _ _ h => h) (Or.inl ⟨by rfl, ?hy933⟩) (by assumption) ?rest933
                  case hy933 => (intro W hSw; obtain ⟨s0, s1, s2, s3, s4, s5, s6⟩ := hSw; go_simp; (try simp only [hws, hwt]); try with_reducible rfl)
                  simp only [Act.put, List.setIfInBounds_toArray, List.set_cons_zero, List.set_cons_succ]
                  refine wpAnyH_take (i := 33) (oi := { dst := some 221, op := Op.pick (Operand.tmp 212) (Operand.tmp 220) (Operand.const (Value.bool false)), type := 4, pos := "more.go:40", after := #[{ on := 24, ground := Ground.data }, { on := 32, ground := Ground.data }], guard := none }) (v := ?v934) rfl (by kernel_rfl) (by kernel_rfl) (by kernel_rfl) (fun _ _ _ h => h) (Or.inl ⟨by rfl, ?hy934⟩) (by assumption) ?rest934
                  case hy934 => (intro W hSw; obtain ⟨s0, s1, s2, s3, s4, s5, s6⟩ := hSw; go_simp; (try simp only [hws, hwt]); try with_reducible rfl)
                  simp only [Act.put, List.setIfInBounds_toArray, List.set_cons_zero, List.set_cons_succ]
                  refine wpAnyH_take (i := 34) (oi := { dst := some 222, op := Op.move (Operand.tmp 221), type := 4, pos := "more.go:40", after := #[{ on := 33, ground := Ground.data }, { on := 24, ground := Ground.chain }], guard := none }) (v := ?v935) rfl (by kernel_rfl) (by kernel_rfl) (by kernel_rfl) (fun _ _ _ h => h) (Or.inl ⟨by rfl, ?hy935⟩) (by assumption) ?rest935
                  case hy935 => (intro W hSw; obtain ⟨s0, s1, s2, s3, s4, s5, s6⟩ := hSw; go_simp; (try simp only [hws, hwt]); try with_reducible rfl)
                  simp only [Act.put, List.setIfInBounds_toArray, List.set_cons_zero, List.set_cons_succ]
                  refine wpAnyH_take (i := 35) (oi := { dst := some 223, op := Op.fieldAddr 39 (Operand.tmp 15) 4, type := 0, pos := "more.go:40", after := #[{ on := 34, ground := Ground.guard }], guard := some (34, true) }) (v := ?v936) rfl (by kernel_rfl) (by kernel_rfl) (by kernel_rfl) (fun _ _ _ h => h) (Or.inl ⟨by rfl, ?hy936⟩) (by assumption) ?rest936
                  case hy936 => (intro W hSw; obtain ⟨s0, s1, s2, s3, s4, s5, s6⟩ := hSw; go_simp; (try simp only [hws, hwt]); try with_reducible rfl)
                  simp only [Act.put, List.setIfInBounds_toArray, List.set_cons_zero, List.set_cons_succ]
                  refine wpAnyH_take (i := 36) (oi := { dst := some 224, op := Op.load 29 (Operand.tmp 223), type := 29, pos := "more.go:40", after := #[{ on := 35, ground := Ground.data }, { on := 34, ground := Ground.guard }], guard := some (34, true) }) (v := ?v937) rfl (by kernel_rfl) (by kernel_rfl) (by kernel_rfl) (fun _ _ _ h => h) (Or.inl ⟨by rfl, ?hy937⟩) (by assumption) ?rest937
                  case hy937 => (intro W hSw; obtain ⟨s0, s1, s2, s3, s4, s5, s6⟩ := hSw; go_simp; (try simp only [hws, hwt]); try with_reducible rfl)
                  simp only [Act.put, List.setIfInBounds_toArray, List.set_cons_zero, List.set_cons_succ]
                  refine wpAnyH_take (i := 37) (oi := { dst := some 225, op := Op.move (Operand.tmp 2), type := 3, pos := "more.go:40", after := #[{ on := 34, ground := Ground.guard }], guard := some (34, true) }) (v := ?v938) rfl (by kernel_rfl) (by kernel_rfl) (by kernel_rfl) (fun _ _ _ h => h) (Or.inl ⟨by rfl, ?hy938⟩) (by assumption) ?rest938
                  case hy938 => (intro W hSw; obtain ⟨s0, s1, s2, s3, s4, s5, s6⟩ := hSw; go_simp; (try simp only [hws, hwt]); try with_reducible rfl)
                  simp only [Act.put, List.setIfInBounds_toArray, List.set_cons_zero, List.set_cons_succ]
                  refine wpAnyH_take (i := 38) (oi := { dst := some 226, op := Op.indexAddr 29 (Operand.tmp 224) (Operand.tmp 225), type := 0, pos := "more.go:40", after := #[{ on := 36, ground := Ground.data }, { on := 37, ground := Ground.data }, { on := 34, ground := Ground.guard }], guard := some (34, true) }) (v := ?v939) rfl (by kernel_rfl) (by kernel_rfl) (by kernel_rfl) (fun _ _ _ h => h) (Or.inl ⟨by rfl, ?hy939⟩) (by assumption) ?rest939
                  case hy939 => (intro W hSw; obtain ⟨s0, s1, s2, s3, s4, s5, s6⟩ := hSw; go_simp; (try simp only [hws, hwt]); try with_reducible rfl)
                  simp only [Act.put, List.setIfInBounds_toArray, List.set_cons_zero, List.set_cons_succ]
                  refine wpAnyH_take (i := 39) (oi := { dst := some 227, op := Op.fieldAddr 57 (Operand.tmp 226) 11, type := 0, pos := "more.go:40", after := #[{ on := 38, ground := Ground.data }, { on := 34, ground := Ground.guard }], guard := some (34, true) }) (v := ?v940) rfl (by kernel_rfl) (by kernel_rfl) (by kernel_rfl) (fun _ _ _ h => h) (Or.inl ⟨by rfl, ?hy940⟩) (by assumption) ?rest940
                  case hy940 => (intro W hSw; obtain ⟨s0, s1, s2, s3, s4, s5, s6⟩ := hSw; go_simp; (try simp only [hws, hwt]); try with_reducible rfl)
                  simp only [Act.put, List.setIfInBounds_toArray, List.set_cons_zero, List.set_cons_succ]
                  refine wpAnyH_take (i := 40) (oi := { dst := some 228, op := Op.load 3 (Operand.tmp 227), type := 3, pos := "more.go:40", after := #[{ on := 39, ground := Ground.data }, { on := 34, ground := Ground.guard }], guard := some (34, true) }) (v := ?v941) rfl (by kernel_rfl) (by kernel_rfl) (by kernel_rfl) (fun _ _ _ h => h) (Or.inl ⟨by rfl, ?hy941⟩) (by assumption) ?rest941
                  case hy941 => (intro W hSw; obtain ⟨s0, s1, s2, s3, s4, s5, s6⟩ := hSw; go_simp; (try simp only [hws, hwt]); try with_reducible rfl)
                  simp only [Act.put, List.setIfInBounds_toArray, List.set_cons_zero, List.set_cons_succ]
                  refine wpAnyH_take (i := 41) (oi := { dst := some 229, op := Op.binOp BinOp.eql 3 (Operand.tmp 228) (Operand.const (Value.int IntKind.i64 0)) 3, type := 4, pos := "more.go:40", after := #[{ on := 40, ground := Ground.data }, { on := 34, ground := Ground.guard }], guard := some (34, true) }) (v := ?v942) rfl (by kernel_rfl) (by kernel_rfl) (by kernel_rfl) (fun _ _ _ h => h) (Or.inl ⟨by rfl, ?hy942⟩) (by assumption) ?rest942
                  case hy942 => (intro W hSw; obtain ⟨s0, s1, s2, s3, s4, s5, s6⟩ := hSw; go_simp; (try simp only [hws, hwt]); try with_reducible rfl)
                  simp only [Act.put, List.setIfInBounds_toArray, List.set_cons_zero, List.set_cons_succ]
                  refine wpAnyH_take (i := 42) (oi := { dst := some 230, op := Op.pick (Operand.tmp 222) (Operand.tmp 229) (Operand.const (Value.bool false)), type := 4, pos := "more.go:40", after := #[{ on := 34, ground := Ground.data }, { on := 41, ground := Ground.data }], guard := none }) (v := ?v943) rfl (by kernel_rfl) (by kernel_rfl) (by kernel_rfl) (fun _ _ _ h => h) (Or.inl ⟨by rfl, ?hy943⟩) (by assumption) ?rest943
                  case hy943 => (intro W hSw; obtain ⟨s0, s1, s2, s3, s4, s5, s6⟩ := hSw; go_simp; (try simp only [hws, hwt]); try with_reducible rfl)
                  simp only [Act.put, List.setIfInBounds_toArray, List.set_cons_zero, List.set_cons_succ]
                  refine wpAnyH_take (i := 43) (oi := { dst := some 8, op := Op.assign (Operand.tmp 230), type := 4, pos := "more.go:40", after := #[{ on := 42, ground := Ground.data }, { on := 34, ground := Ground.chain }, { on := 0, ground := Ground.phase }, { on := 1, ground := Ground.phase }, { on := 2, ground := Ground.phase }, { on := 3, ground := Ground.phase }, { on := 4, ground := Ground.phase }, { on := 5, ground := Ground.phase }, { on := 6, ground := Ground.phase }, { on := 7, ground := Ground.phase }, { on := 8, ground := Ground.phase }, { on := 9, ground := Ground.phase }, { on := 10, ground := Ground.phase }, { on := 11, ground := Ground.phase }, { on := 12, ground := Ground.phase }, { on := 13, ground := Ground.phase }, { on := 14, ground := Ground.phase }, { on := 15, ground := Ground.phase }, { on := 16, ground := Ground.phase }, { on := 17, ground := Ground.phase }, { on := 18, ground := Ground.phase }, { on := 19, ground := Ground.phase }, { on := 20, ground := Ground.phase }, { on := 21, ground := Ground.phase }, { on := 22, ground := Ground.phase }, { on := 23, ground := Ground.phase }, { on := 24, ground := Ground.phase }, { on := 25, ground := Ground.phase }, { on := 26, ground := Ground.phase }, { on := 27, ground := Ground.phase }, { on := 28, ground := Ground.phase }, { on := 29, ground := Ground.phase }, { on := 30, ground := Ground.phase }, { on := 31, ground := Ground.phase }, { on := 32, ground := Ground.phase }, { on := 33, ground := Ground.phase }, { on := 34, ground := Ground.phase }, { on := 35, ground := Ground.phase }, { on := 36, ground := Ground.phase }, { on := 37, ground := Ground.phase }, { on := 38, ground := Ground.phase }, { on := 39, ground := Ground.phase }, { on := 40, ground := Ground.phase }, { on := 41, ground := Ground.phase }, { on := 42, ground := Ground.phase }], guard := none }) (v := ?v944) rfl (by kernel_rfl) (by kernel_rfl) (by kernel_rfl) (fun _ _ _ h => h) (Or.inl ⟨by rfl, ?hy944⟩) (by assumption) ?rest944
                  case hy944 => (intro W hSw; obtain ⟨s0, s1, s2, s3, s4, s5, s6⟩ := hSw; go_simp; (try simp only [hws, hwt]); try with_reducible rfl)
                  simp only [Act.put, List.setIfInBounds_toArray, List.set_cons_zero, List.set_cons_succ]
                  refine wpAnyH_done (by kernel_rfl) ?_ _
                  clear hHeld
                  have HB := hid HB.out.drew
                  go_wp2_with fail
                  go_ret
                  exact ⟨rfl, HB.out⟩
                · have dl : decide (0 < f.li) = false := decide_eq_false hli
                  have HY2 := hid (show y.du = -1 from by rw [HWk.out.2.2.1, if_neg hli])
                  obtain ⟨h0n, h1n, h0p, h1p, h0w, h1w, h0l, h1l⟩ := hlo
                  clear hli
                  have FL19 := hid trivial
                  have FL20 := hid trivial
                  go_wp2_with (first
                    | (have hfl := FL19.out
                       refine wpList_new rfl 39 rfl _ Try.zeroPa ?_
                       intro v23 b h z
                       have AB := hid (show BoxAt v23 v20.heap.size 39 (PaV.cells PaV.zero).toArray from b)
                       have CB := hid (CB.out.belowAll h)
                       have PB := hid (PB.out.belowAll h)
                       have QB := hid (QB.out.belowAll h)
                       have HO2 := hid (HO2.out.below h)
                       have HB := hid (HB.out.trans (h.mono HB.out.size))
                       have hsv23 : v20.heap.size + 1 ≤ v23.heap.size := by omega
                       clear kCB2
                       have kCB2 : v23.cell? ⟨w.heap.size, 2, none⟩ = some (.slice (some ⟨b2, of2, none⟩) M cpc) := (BoxAt.cell CB.out 2).trans (by show some qc.v2.val = _; rw [HCL.out])
                       clear kQB4
                       have kQB4 : v23.cell? ⟨v5.heap.size, 4, none⟩ = some (.slice (some ⟨gq, 0, none⟩) N cap) := (BoxAt.cell QB.out 4).trans (by show some q1.pr.val = _; rw [HQgq.out]; rfl)
                       clear kf1
                       have kf1 : v23.cell? ⟨b2, of2 + k * 5 + 1, none⟩ = some (.int .i64 f.pe) := ((HB.out.cell (p := ⟨b2, of2 + k * 5 + 1, none⟩) hcw).trans HF1.out)
                       clear kf2
                       have kf2 : v23.cell? ⟨b2, of2 + k * 5 + 2, none⟩ = some (.int .i64 f.li) := ((HB.out.cell (p := ⟨b2, of2 + k * 5 + 2, none⟩) hcw).trans HF2.out)
                       clear b h z hfl FL19)
                    | (have hfl := FL20.out
                       refine wpList_store_whole rfl 39 _ _ rfl rfl v20.heap.size rfl (PaV.cells q2) rfl _ _ AB.out rfl Try.infoPa (PaV.one _) ?_
                       intro v24 b g z
                       have hsv24 : v23.heap.size ≤ v24.heap.size := by omega
                       have HO2 := hid (HO2.out.turn (Turns.grown (S := fun t => t = 39) AB.out b rfl g))
                       have AB := hid (show BoxAt v24 v20.heap.size 39 (PaV.cells q2).toArray from b)
                       have CB := hid (CB.out.grown g (fun e => by have := Option.some.inj e; omega))
                       have PB := hid (PB.out.grown g (fun e => by have := Option.some.inj e; omega))
                       have QB := hid (QB.out.grown g (fun e => by have := Option.some.inj e; omega))
                       have HB := hid (HB.out.trans (grown_below g (by omega) (by omega)))
                       clear kCB2
                       have kCB2 : v24.cell? ⟨w.heap.size, 2, none⟩ = some (.slice (some ⟨b2, of2, none⟩) M cpc) := (BoxAt.cell CB.out 2).trans (by show some qc.v2.val = _; rw [HCL.out])
                       clear kQB4
                       have kQB4 : v24.cell? ⟨v5.heap.size, 4, none⟩ = some (.slice (some ⟨gq, 0, none⟩) N cap) := (BoxAt.cell QB.out 4).trans (by show some q1.pr.val = _; rw [HQgq.out]; rfl)
                       have kAB4 : v24.cell? ⟨v20.heap.size, 4, none⟩ = some (.slice (some ⟨ga, 0, none⟩) N ca) := (BoxAt.cell AB.out 4).trans (by show some q2.pr.val = _; rw [HQga.out]; rfl)
                       clear kf1
                       have kf1 : v24.cell? ⟨b2, of2 + k * 5 + 1, none⟩ = some (.int .i64 f.pe) := ((HB.out.cell (p := ⟨b2, of2 + k * 5 + 1, none⟩) hcw).trans HF1.out)
                       clear kf2
                       have kf2 : v24.cell? ⟨b2, of2 + k * 5 + 2, none⟩ = some (.int .i64 f.li) := ((HB.out.cell (p := ⟨b2, of2 + k * 5 + 2, none⟩) hcw).trans HF2.out)
                       clear b g z hfl FL20)
                    | fail)
                  have a4 : v24.drew.cell? ⟨v20.heap.size, 4, none⟩ = some (.slice (some ⟨ga, 0, none⟩) N ca) := (BoxAt.cell (BoxAt.drew AB.out) 4).trans (by show some q2.pr.val = _; rw [HQga.out]; rfl)
                  have a0 : v24.drew.cell? ⟨ga, k * 18, none⟩ = some (.int .i64 1) := ((HO2.out.below ((Below.refl v24.heap.size v24).drew)).rowx HQa.out (by rw [HZl.out]; omega) HY.out 0 (by decide)).trans (by show some (Value.int .i64 y.st) = _; rw [HWk.out.1])
                  have a13 : v24.drew.cell? ⟨ga, k * 18 + 13, none⟩ = some (.int .i64 (r.ne + f.pe)) := ((HO2.out.below ((Below.refl v24.heap.size v24).drew)).rowx HQa.out (by rw [HZl.out]; omega) HY.out 13 (by decide)).trans (by show some (Value.int .i64 y.ne) = _; rw [HY1.out])
                  have a12 : v24.drew.cell? ⟨ga, k * 18 + 12, none⟩ = some (.int .i64 (-1)) := ((HO2.out.below ((Below.refl v24.heap.size v24).drew)).rowx HQa.out (by rw [HZl.out]; omega) HY.out 12 (by decide)).trans (by show some (Value.int .i64 y.du) = _; rw [HY2.out])
                  have a15 : v24.drew.cell? ⟨ga, k * 18 + 15, none⟩ = some (.int .i64 0) := ((HO2.out.below ((Below.refl v24.heap.size v24).drew)).rowx HQa.out (by rw [HZl.out]; omega) HY.out 15 (by decide)).trans (by show some (Value.int .i64 y.co) = _; rw [HWk.out.2.2.2])
                  have c2 : v24.drew.cell? ⟨w.heap.size, 2, none⟩ = some (.slice (some ⟨b2, of2, none⟩) M cpc) := (BoxAt.cell (BoxAt.drew CB.out) 2).trans (by show some qc.v2.val = _; rw [HCL.out])
                  have f1 : v24.drew.cell? ⟨b2, of2 + k * 5 + 1, none⟩ = some (.int .i64 f.pe) := ((HB.out.drew.cell (p := ⟨b2, of2 + k * 5 + 1, none⟩) hcw).trans HF1.out)
                  clear dl kCB2 kAB4 kf1 kf2
                  have hwt : wrap64 (r.ne + f.pe) = r.ne + f.pe := wrap_in (by omega) (by omega)
                  have hws : IntKind.i64.wrap (r.ne + f.pe) = r.ne + f.pe := by rw [IntKind.wrap_i64]; have h := hwt; unfold wrap64 at h; exact h
                  refine wp_region_held_drew (S := (fun W => W.cell? ⟨v20.heap.size, 4, none⟩ = some (.slice (some ⟨ga, 0, none⟩) N ca) ∧ W.cell? ⟨ga, k * 18, none⟩ = some (.int .i64 1) ∧ W.cell? ⟨ga, k * 18 + 13, none⟩ = some (.int .i64 (r.ne + f.pe)) ∧ W.cell? ⟨ga, k * 18 + 12, none⟩ = some (.int .i64 (-1)) ∧ W.cell? ⟨ga, k * 18 + 15, none⟩ = some (.int .i64 0) ∧ W.cell? ⟨w.heap.size, 2, none⟩ = some (.slice (some ⟨b2, of2, none⟩) M cpc) ∧ W.cell? ⟨b2, of2 + k * 5 + 1, none⟩ = some (.int .i64 f.pe))) (by kernel_rfl) (⟨a4, a0, a13, a12, a15, c2, f1⟩) (fun hHeld => ?_)
                  refine wpAnyH_take (i := 0) (oi := { dst := some 188, op := Op.fieldAddr 39 (Operand.tmp 15) 4, type := 0, pos := "more.go:40", after := #[], guard := none }) (v := ?v1201) rfl (by kernel_rfl) (by kernel_rfl) (by kernel_rfl) (fun _ _ _ h => h) (Or.inl ⟨by rfl, ?hy1201⟩) (by assumption) ?rest1201
                  case hy1201 => (intro W hSw; obtain ⟨s0, s1, s2, s3, s4, s5, s6⟩ := hSw; go_simp; (try simp only [hws, hwt]); try with_reducible rfl)
                  simp only [Act.put, List.setIfInBounds_toArray, List.set_cons_zero, List.set_cons_succ]
                  refine wpAnyH_take (i := 1) (oi := { dst := some 189, op := Op.load 29 (Operand.tmp 188), type := 29, pos := "more.go:40", after := #[{ on := 0, ground := Ground.data }], guard := none }) (v := ?v1202) rfl (by kernel_rfl) (by kernel_rfl) (by kernel_rfl) (fun _ _ _ h => h) (Or.inl ⟨by rfl, ?hy1202⟩) (by assumption) ?rest1202
                  case hy1202 => (intro W hSw; obtain ⟨s0, s1, s2, s3, s4, s5, s6⟩ := hSw; go_simp; (try simp only [hws, hwt]); try with_reducible rfl)
                  simp only [Act.put, List.setIfInBounds_toArray, List.set_cons_zero, List.set_cons_succ]
                  refine wpAnyH_take (i := 2) (oi := { dst := some 190, op := Op.move (Operand.tmp 2), type := 3, pos := "more.go:40", after := #[], guard := none }) (v := ?v1203) rfl (by kernel_rfl) (by kernel_rfl) (by kernel_rfl) (fun _ _ _ h => h) (Or.inl ⟨by rfl, ?hy1203⟩) (by assumption) ?rest1203
                  case hy1203 => (intro W hSw; obtain ⟨s0, s1, s2, s3, s4, s5, s6⟩ := hSw; go_simp; (try simp only [hws, hwt]); try with_reducible rfl)
                  simp only [Act.put, List.setIfInBounds_toArray, List.set_cons_zero, List.set_cons_succ]
                  refine wpAnyH_take (i := 3) (oi := { dst := some 191, op := Op.indexAddr 29 (Operand.tmp 189) (Operand.tmp 190), type := 0, pos := "more.go:40", after := #[{ on := 1, ground := Ground.data }, { on := 2, ground := Ground.data }], guard := none }) (v := ?v1204) rfl (by kernel_rfl) (by kernel_rfl) (by kernel_rfl) (fun _ _ _ h => h) (Or.inl ⟨by rfl, ?hy1204⟩) (by assumption) ?rest1204
                  case hy1204 => (intro W hSw; obtain ⟨s0, s1, s2, s3, s4, s5, s6⟩ := hSw; go_simp; (try simp only [hws, hwt]); try with_reducible rfl)
                  simp only [Act.put, List.setIfInBounds_toArray, List.set_cons_zero, List.set_cons_succ]
                  refine wpAnyH_take (i := 4) (oi := { dst := some 192, op := Op.fieldAddr 57 (Operand.tmp 191) 0, type := 0, pos := "more.go:40", after := #[{ on := 3, ground := Ground.data }], guard := none }) (v := ?v1205) rfl (by kernel_rfl) (by kernel_rfl) (by kernel_rfl) (fun _ _ _ h => h) (Or.inl ⟨by rfl, ?hy1205⟩) (by assumption) ?rest1205
                  case hy1205 => (intro W hSw; obtain ⟨s0, s1, s2, s3, s4, s5, s6⟩ := hSw; go_simp; (try simp only [hws, hwt]); try with_reducible rfl)
                  simp only [Act.put, List.setIfInBounds_toArray, List.set_cons_zero, List.set_cons_succ]
                  refine wpAnyH_take (i := 5) (oi := { dst := some 193, op := Op.load 3 (Operand.tmp 192), type := 3, pos := "more.go:40", after := #[{ on := 4, ground := Ground.data }], guard := none }) (v := ?v1206) rfl (by kernel_rfl) (by kernel_rfl) (by kernel_rfl) (fun _ _ _ h => h) (Or.inl ⟨by rfl, ?hy1206⟩) (by assumption) ?rest1206
                  case hy1206 => (intro W hSw; obtain ⟨s0, s1, s2, s3, s4, s5, s6⟩ := hSw; go_simp; (try simp only [hws, hwt]); try with_reducible rfl)
                  simp only [Act.put, List.setIfInBounds_toArray, List.set_cons_zero, List.set_cons_succ]
                  refine wpAnyH_take (i := 6) (oi := { dst := some 194, op := Op.binOp BinOp.eql 3 (Operand.tmp 193) (Operand.const (Value.int IntKind.i64 1)) 3, type := 4, pos := "more.go:40", after := #[{ on := 5, ground := Ground.data }], guard := none }) (v := ?v1207) rfl (by kernel_rfl) (by kernel_rfl) (by kernel_rfl) (fun _ _ _ h => h) (Or.inl ⟨by rfl, ?hy1207⟩) (by assumption) ?rest1207
                  case hy1207 => (intro W hSw; obtain ⟨s0, s1, s2, s3, s4, s5, s6⟩ := hSw; go_simp; (try simp only [hws, hwt]); try with_reducible rfl)
                  simp only [Act.put, List.setIfInBounds_toArray, List.set_cons_zero, List.set_cons_succ]
                  refine wpAnyH_take (i := 7) (oi := { dst := some 195, op := Op.move (Operand.tmp 194), type := 4, pos := "more.go:40", after := #[{ on := 6, ground := Ground.data }], guard := none }) (v := ?v1208) rfl (by kernel_rfl) (by kernel_rfl) (by kernel_rfl) (fun _ _ _ h => h) (Or.inl ⟨by rfl, ?hy1208⟩) (by assumption) ?rest1208
                  case hy1208 => (intro W hSw; obtain ⟨s0, s1, s2, s3, s4, s5, s6⟩ := hSw; go_simp; (try simp only [hws, hwt]); try with_reducible rfl)
                  simp only [Act.put, List.setIfInBounds_toArray, List.set_cons_zero, List.set_cons_succ]
                  refine wpAnyH_take (i := 8) (oi := { dst := some 196, op := Op.fieldAddr 39 (Operand.tmp 15) 4, type := 0, pos := "more.go:40", after := #[{ on := 7, ground := Ground.guard }], guard := some (7, true) }) (v := ?v1209) rfl (by kernel_rfl) (by kernel_rfl) (by kernel_rfl) (fun _ _ _ h => h) (Or.inl ⟨by rfl, ?hy1209⟩) (by assumption) ?rest1209
                  case hy1209 => (intro W hSw; obtain ⟨s0, s1, s2, s3, s4, s5, s6⟩ := hSw; go_simp; (try simp only [hws, hwt]); try with_reducible rfl)
                  simp only [Act.put, List.setIfInBounds_toArray, List.set_cons_zero, List.set_cons_succ]
                  refine wpAnyH_take (i := 9) (oi := { dst := some 197, op := Op.load 29 (Operand.tmp 196), type := 29, pos := "more.go:40", after := #[{ on := 8, ground := Ground.data }, { on := 7, ground := Ground.guard }], guard := some (7, true) }) (v := ?v1210) rfl (by kernel_rfl) (by kernel_rfl) (by kernel_rfl) (fun _ _ _ h => h) (Or.inl ⟨by rfl, ?hy1210⟩) (by assumption) ?rest1210
                  case hy1210 => (intro W hSw; obtain ⟨s0, s1, s2, s3, s4, s5, s6⟩ := hSw; go_simp; (try simp only [hws, hwt]); try with_reducible rfl)
                  simp only [Act.put, List.setIfInBounds_toArray, List.set_cons_zero, List.set_cons_succ]
                  refine wpAnyH_take (i := 10) (oi := { dst := some 198, op := Op.move (Operand.tmp 2), type := 3, pos := "more.go:40", after := #[{ on := 7, ground := Ground.guard }], guard := some (7, true) }) (v := ?v1211) rfl (by kernel_rfl) (by kernel_rfl) (by kernel_rfl) (fun _ _ _ h => h) (Or.inl ⟨by rfl, ?hy1211⟩) (by assumption) ?rest1211
                  case hy1211 => (intro W hSw; obtain ⟨s0, s1, s2, s3, s4, s5, s6⟩ := hSw; go_simp; (try simp only [hws, hwt]); try with_reducible rfl)
                  simp only [Act.put, List.setIfInBounds_toArray, List.set_cons_zero, List.set_cons_succ]
                  refine wpAnyH_take (i := 11) (oi := { dst := some 199, op := Op.indexAddr 29 (Operand.tmp 197) (Operand.tmp 198), type := 0, pos := "more.go:40", after := #[{ on := 9, ground := Ground.data }, { on := 10, ground := Ground.data }, { on := 7, ground := Ground.guard }], guard := some (7, true) }) (v := ?v1212) rfl (by kernel_rfl) (by kernel_rfl) (by kernel_rfl) (fun _ _ _ h => h) (Or.inl ⟨by rfl, ?hy1212⟩) (by assumption) ?rest1212
                  case hy1212 => (intro W hSw; obtain ⟨s0, s1, s2, s3, s4, s5, s6⟩ := hSw; go_simp; (try simp only [hws, hwt]); try with_reducible rfl)
                  simp only [Act.put, List.setIfInBounds_toArray, List.set_cons_zero, List.set_cons_succ]
                  refine wpAnyH_take (i := 12) (oi := { dst := some 200, op := Op.fieldAddr 57 (Operand.tmp 199) 9, type := 0, pos := "more.go:40", after := #[{ on := 11, ground := Ground.data }, { on := 7, ground := Ground.guard }], guard := some (7, true) }) (v := ?v1213) rfl (by kernel_rfl) (by kernel_rfl) (by kernel_rfl) (fun _ _ _ h => h) (Or.inl ⟨by rfl, ?hy1213⟩) (by assumption) ?rest1213
                  case hy1213 => (intro W hSw; obtain ⟨s0, s1, s2, s3, s4, s5, s6⟩ := hSw; go_simp; (try simp only [hws, hwt]); try with_reducible rfl)
                  simp only [Act.put, List.setIfInBounds_toArray, List.set_cons_zero, List.set_cons_succ]
                  refine wpAnyH_take (i := 13) (oi := { dst := some 201, op := Op.load 3 (Operand.tmp 200), type := 3, pos := "more.go:40", after := #[{ on := 12, ground := Ground.data }, { on := 7, ground := Ground.guard }], guard := some (7, true) }) (v := ?v1214) rfl (by kernel_rfl) (by kernel_rfl) (by kernel_rfl) (fun _ _ _ h => h) (Or.inl ⟨by rfl, ?hy1214⟩) (by assumption) ?rest1214
                  case hy1214 => (intro W hSw; obtain ⟨s0, s1, s2, s3, s4, s5, s6⟩ := hSw; go_simp; (try simp only [hws, hwt]); try with_reducible rfl)
                  simp only [Act.put, List.setIfInBounds_toArray, List.set_cons_zero, List.set_cons_succ]
                  refine wpAnyH_take (i := 14) (oi := { dst := some 202, op := Op.move (Operand.tmp 14), type := 3, pos := "more.go:40", after := #[{ on := 7, ground := Ground.guard }], guard := some (7, true) }) (v := ?v1215) rfl (by kernel_rfl) (by kernel_rfl) (by kernel_rfl) (fun _ _ _ h => h) (Or.inl ⟨by rfl, ?hy1215⟩) (by assumption) ?rest1215
                  case hy1215 => (intro W hSw; obtain ⟨s0, s1, s2, s3, s4, s5, s6⟩ := hSw; go_simp; (try simp only [hws, hwt]); try with_reducible rfl)
                  simp only [Act.put, List.setIfInBounds_toArray, List.set_cons_zero, List.set_cons_succ]
                  refine wpAnyH_take (i := 15) (oi := { dst := some 203, op := Op.fieldAddr 28 (Operand.tmp 4) 2, type := 0, pos := "more.go:40", after := #[{ on := 7, ground := Ground.guard }], guard := some (7, true) }) (v := ?v1216) rfl (by kernel_rfl) (by kernel_rfl) (by kernel_rfl) (fun _ _ _ h => h) (Or.inl ⟨by rfl, ?hy1216⟩) (by assumption) ?rest1216
                  case hy1216 => (intro W hSw; obtain ⟨s0, s1, s2, s3, s4, s5, s6⟩ := hSw; go_simp; (try simp only [hws, hwt]); try with_reducible rfl)
                  simp only [Act.put, List.setIfInBounds_toArray, List.set_cons_zero, List.set_cons_succ]
                  refine wpAnyH_take (i := 16) (oi := { dst := some 204, op := Op.load 23 (Operand.tmp 203), type := 23, pos := "more.go:40", after := #[{ on := 15, ground := Ground.data }, { on := 7, ground := Ground.guard }], guard := some (7, true) }) (v := ?v1217) rfl (by kernel_rfl) (by kernel_rfl) (by kernel_rfl) (fun _ _ _ h => h) (Or.inl ⟨by rfl, ?hy1217⟩) (by assumption) ?rest1217
                  case hy1217 => (intro W hSw; obtain ⟨s0, s1, s2, s3, s4, s5, s6⟩ := hSw; go_simp; (try simp only [hws, hwt]); try with_reducible rfl)
                  simp only [Act.put, List.setIfInBounds_toArray, List.set_cons_zero, List.set_cons_succ]
                  refine wpAnyH_take (i := 17) (oi := { dst := some 205, op := Op.move (Operand.tmp 2), type := 3, pos := "more.go:40", after := #[{ on := 7, ground := Ground.guard }], guard := some (7, true) }) (v := ?v1218) rfl (by kernel_rfl) (by kernel_rfl) (by kernel_rfl) (fun _ _ _ h => h) (Or.inl ⟨by rfl, ?hy1218⟩) (by assumption) ?rest1218
                  case hy1218 => (intro W hSw; obtain ⟨s0, s1, s2, s3, s4, s5, s6⟩ := hSw; go_simp; (try simp only [hws, hwt]); try with_reducible rfl)
                  simp only [Act.put, List.setIfInBounds_toArray, List.set_cons_zero, List.set_cons_succ]
                  refine wpAnyH_take (i := 18) (oi := { dst := some 206, op := Op.indexAddr 23 (Operand.tmp 204) (Operand.tmp 205), type := 0, pos := "more.go:40", after := #[{ on := 16, ground := Ground.data }, { on := 17, ground := Ground.data }, { on := 7, ground := Ground.guard }], guard := some (7, true) }) (v := ?v1219) rfl (by kernel_rfl) (by kernel_rfl) (by kernel_rfl) (fun _ _ _ h => h) (Or.inl ⟨by rfl, ?hy1219⟩) (by assumption) ?rest1219
                  case hy1219 => (intro W hSw; obtain ⟨s0, s1, s2, s3, s4, s5, s6⟩ := hSw; go_simp; (try simp only [hws, hwt]); try with_reducible rfl)
                  simp only [Act.put, List.setIfInBounds_toArray, List.set_cons_zero, List.set_cons_succ]
                  refine wpAnyH_take (i := 19) (oi := { dst := some 207, op := Op.fieldAddr 60 (Operand.tmp 206) 1, type := 0, pos := "more.go:40", after := #[{ on := 18, ground := Ground.data }, { on := 7, ground := Ground.guard }], guard := some (7, true) }) (v := ?v1220) rfl (by kernel_rfl) (by kernel_rfl) (by kernel_rfl) (fun _ _ _ h => h) (Or.inl ⟨by rfl, ?hy1220⟩) (by assumption) ?rest1220
                  case hy1220 => (intro W hSw; obtain ⟨s0, s1, s2, s3, s4, s5, s6⟩ := hSw; go_simp; (try simp only [hws, hwt]); try with_reducible rfl)
                  simp only [Act.put, List.setIfInBounds_toArray, List.set_cons_zero, List.set_cons_succ]
                  refine wpAnyH_take (i := 20) (oi := { dst := some 208, op := Op.load 3 (Operand.tmp 207), type := 3, pos := "more.go:40", after := #[{ on := 19, ground := Ground.data }, { on := 7, ground := Ground.guard }], guard := some (7, true) }) (v := ?v1221) rfl (by kernel_rfl) (by kernel_rfl) (by kernel_rfl) (fun _ _ _ h => h) (Or.inl ⟨by rfl, ?hy1221⟩) (by assumption) ?rest1221
                  case hy1221 => (intro W hSw; obtain ⟨s0, s1, s2, s3, s4, s5, s6⟩ := hSw; go_simp; (try simp only [hws, hwt]); try with_reducible rfl)
                  simp only [Act.put, List.setIfInBounds_toArray, List.set_cons_zero, List.set_cons_succ]
                  refine wpAnyH_take (i := 21) (oi := { dst := some 209, op := Op.binOp BinOp.add 3 (Operand.tmp 202) (Operand.tmp 208) 3, type := 3, pos := "more.go:40", after := #[{ on := 14, ground := Ground.data }, { on := 20, ground := Ground.data }, { on := 7, ground := Ground.guard }], guard := some (7, true) }) (v := ?v1222) rfl (by kernel_rfl) (by kernel_rfl) (by kernel_rfl) (fun _ _ _ h => h) (Or.inl ⟨by rfl, ?hy1222⟩) (by assumption) ?rest1222
                  case hy1222 => (intro W hSw; obtain ⟨s0, s1, s2, s3, s4, s5, s6⟩ := hSw; go_simp; (try simp only [hws, hwt]); try with_reducible rfl)
                  simp only [Act.put, List.setIfInBounds_toArray, List.set_cons_zero, List.set_cons_succ]
                  refine wpAnyH_take (i := 22) (oi := { dst := some 210, op := Op.binOp BinOp.eql 3 (Operand.tmp 201) (Operand.tmp 209) 3, type := 4, pos := "more.go:40", after := #[{ on := 13, ground := Ground.data }, { on := 21, ground := Ground.data }, { on := 7, ground := Ground.guard }], guard := some (7, true) }) (v := ?v1223) rfl (by kernel_rfl) (by kernel_rfl) (by kernel_rfl) (fun _ _ _ h => h) (Or.inl ⟨by rfl, ?hy1223⟩) (by assumption) ?rest1223
                  case hy1223 => (intro W hSw; obtain ⟨s0, s1, s2, s3, s4, s5, s6⟩ := hSw; go_simp; (try simp only [hws, hwt]); try with_reducible rfl)
                  simp only [Act.put, List.setIfInBounds_toArray, List.set_cons_zero, List.set_cons_succ]
                  refine wpAnyH_take (i := 23) (oi := { dst := some 211, op := Op.pick (Operand.tmp 195) (Operand.tmp 210) (Operand.const (Value.bool false)), type := 4, pos := "more.go:40", after := #[{ on := 7, ground := Ground.data }, { on := 22, ground := Ground.data }], guard := none }) (v := ?v1224) rfl (by kernel_rfl) (by kernel_rfl) (by kernel_rfl) (fun _ _ _ h => h) (Or.inl ⟨by rfl, ?hy1224⟩) (by assumption) ?rest1224
                  case hy1224 => (intro W hSw; obtain ⟨s0, s1, s2, s3, s4, s5, s6⟩ := hSw; go_simp; (try simp only [hws, hwt]); try with_reducible rfl)
                  simp only [Act.put, List.setIfInBounds_toArray, List.set_cons_zero, List.set_cons_succ]
                  refine wpAnyH_take (i := 24) (oi := { dst := some 212, op := Op.move (Operand.tmp 211), type := 4, pos := "more.go:40", after := #[{ on := 23, ground := Ground.data }, { on := 7, ground := Ground.chain }], guard := none }) (v := ?v1225) rfl (by kernel_rfl) (by kernel_rfl) (by kernel_rfl) (fun _ _ _ h => h) (Or.inl ⟨by rfl, ?hy1225⟩) (by assumption) ?rest1225
                  case hy1225 => (intro W hSw; obtain ⟨s0, s1, s2, s3, s4, s5, s6⟩ := hSw; go_simp; (try simp only [hws, hwt]); try with_reducible rfl)
                  simp only [Act.put, List.setIfInBounds_toArray, List.set_cons_zero, List.set_cons_succ]
                  refine wpAnyH_take (i := 25) (oi := { dst := some 213, op := Op.fieldAddr 39 (Operand.tmp 15) 4, type := 0, pos := "more.go:40", after := #[{ on := 24, ground := Ground.guard }], guard := some (24, true) }) (v := ?v1226) rfl (by kernel_rfl) (by kernel_rfl) (by kernel_rfl) (fun _ _ _ h => h) (Or.inl ⟨by rfl, ?hy1226⟩) (by assumption) ?rest1226
                  case hy1226 => (intro W hSw; obtain ⟨s0, s1, s2, s3, s4, s5, s6⟩ := hSw; go_simp; (try simp only [hws, hwt]); try with_reducible rfl)
                  simp only [Act.put, List.setIfInBounds_toArray, List.set_cons_zero, List.set_cons_succ]
                  refine wpAnyH_take (i := 26) (oi := { dst := some 214, op := Op.load 29 (Operand.tmp 213), type := 29, pos := "more.go:40", after := #[{ on := 25, ground := Ground.data }, { on := 24, ground := Ground.guard }], guard := some (24, true) }) (v := ?v1227) rfl (by kernel_rfl) (by kernel_rfl) (by kernel_rfl) (fun _ _ _ h => h) (Or.inl ⟨by rfl, ?hy1227⟩) (by assumption) ?rest1227
                  case hy1227 => (intro W hSw; obtain ⟨s0, s1, s2, s3, s4, s5, s6⟩ := hSw; go_simp; (try simp only [hws, hwt]); try with_reducible rfl)
                  simp only [Act.put, List.setIfInBounds_toArray, List.set_cons_zero, List.set_cons_succ]
                  refine wpAnyH_take (i := 27) (oi := { dst := some 215, op := Op.move (Operand.tmp 2), type := 3, pos := "more.go:40", after := #[{ on := 24, ground := Ground.guard }], guard := some (24, true) }) (v := ?v1228) rfl (by kernel_rfl) (by kernel_rfl) (by kernel_rfl) (fun _ _ _ h => h) (Or.inl ⟨by rfl, ?hy1228⟩) (by assumption) ?rest1228
                  case hy1228 => (intro W hSw; obtain ⟨s0, s1, s2, s3, s4, s5, s6⟩ := hSw; go_simp; (try simp only [hws, hwt]); try with_reducible rfl)
                  simp only [Act.put, List.setIfInBounds_toArray, List.set_cons_zero, List.set_cons_succ]
                  refine wpAnyH_take (i := 28) (oi := { dst := some 216, op := Op.indexAddr 29 (Operand.tmp 214) (Operand.tmp 215), type := 0, pos := "more.go:40", after := #[{ on := 26, ground := Ground.data }, { on := 27, ground := Ground.data }, { on := 24, ground := Ground.guard }], guard := some (24, true) }) (v := ?v1229) rfl (by kernel_rfl) (by kernel_rfl) (by kernel_rfl) (fun _ _ _ h => h) (Or.inl ⟨by rfl, ?hy1229⟩) (by assumption) ?rest1229
                  case hy1229 => (intro W hSw; obtain ⟨s0, s1, s2, s3, s4, s5, s6⟩ := hSw; go_simp; (try simp only [hws, hwt]); try with_reducible rfl)
                  simp only [Act.put, List.setIfInBounds_toArray, List.set_cons_zero, List.set_cons_succ]
                  refine wpAnyH_take (i := 29) (oi := { dst := some 217, op := Op.fieldAddr 57 (Operand.tmp 216) 8, type := 0, pos := "more.go:40", after := #[{ on := 28, ground := Ground.data }, { on := 24, ground := Ground.guard }], guard := some (24, true) }) (v := ?v1230) rfl (by kernel_rfl) (by kernel_rfl) (by kernel_rfl) (fun _ _ _ h => h) (Or.inl ⟨by rfl, ?hy1230⟩) (by assumption) ?rest1230
                  case hy1230 => (intro W hSw; obtain ⟨s0, s1, s2, s3, s4, s5, s6⟩ := hSw; go_simp; (try simp only [hws, hwt]); try with_reducible rfl)
                  simp only [Act.put, List.setIfInBounds_toArray, List.set_cons_zero, List.set_cons_succ]
                  refine wpAnyH_take (i := 30) (oi := { dst := some 218, op := Op.load 3 (Operand.tmp 217), type := 3, pos := "more.go:40", after := #[{ on := 29, ground := Ground.data }, { on := 24, ground := Ground.guard }], guard := some (24, true) }) (v := ?v1231) rfl (by kernel_rfl) (by kernel_rfl) (by kernel_rfl) (fun _ _ _ h => h) (Or.inl ⟨by rfl, ?hy1231⟩) (by assumption) ?rest1231
                  case hy1231 => (intro W hSw; obtain ⟨s0, s1, s2, s3, s4, s5, s6⟩ := hSw; go_simp; (try simp only [hws, hwt]); try with_reducible rfl)
                  simp only [Act.put, List.setIfInBounds_toArray, List.set_cons_zero, List.set_cons_succ]
                  refine wpAnyH_take (i := 31) (oi := { dst := some 219, op := Op.move (Operand.tmp 16), type := 3, pos := "more.go:40", after := #[{ on := 24, ground := Ground.guard }], guard := some (24, true) }) (v := ?v1232) rfl (by kernel_rfl) (by kernel_rfl) (by kernel_rfl) (fun _ _ _ h => h) (Or.inl ⟨by rfl, ?hy1232⟩) (by assumption) ?rest1232
                  case hy1232 => (intro W hSw; obtain ⟨s0, s1, s2, s3, s4, s5, s6⟩ := hSw; go_simp; (try simp only [hws, hwt]); try with_reducible rfl)
                  simp only [Act.put, List.setIfInBounds_toArray, List.set_cons_zero, List.set_cons_succ]
                  refine wpAnyH_take (i := 32) (oi := { dst := some 220, op := Op.binOp BinOp.eql 3 (Operand.tmp 218) (Operand.tmp 219) 3, type := 4, pos := "more.go:40", after := #[{ on := 30, ground := Ground.data }, { on := 31, ground := Ground.data }, { on := 24, ground := Ground.guard }], guard := some (24, true) }) (v := ?v1233) rfl (by kernel_rfl) (by kernel_rfl) (by kernel_rfl) (fun _ _ _ h => h) (Or.inl ⟨by rfl, ?hy1233⟩) (by assumption) ?rest1233
                  case hy1233 => (intro W hSw; obtain ⟨s0, s1, s2, s3, s4, s5, s6⟩ := hSw; go_simp; (try simp only [hws, hwt]); try with_reducible rfl)
                  simp only [Act.put, List.setIfInBounds_toArray, List.set_cons_zero, List.set_cons_succ]
                  refine wpAnyH_take (i := 33) (oi := { dst := some 221, op := Op.pick (Operand.tmp 212) (Operand.tmp 220) (Operand.const (Value.bool false)), type := 4, pos := "more.go:40", after := #[{ on := 24, ground := Ground.data }, { on := 32, ground := Ground.data }], guard := none }) (v := ?v1234) rfl (by kernel_rfl) (by kernel_rfl) (by kernel_rfl) (fun _ _ _ h => h) (Or.inl ⟨by rfl, ?hy1234⟩) (by assumption) ?rest1234
                  case hy1234 => (intro W hSw; obtain ⟨s0, s1, s2, s3, s4, s5, s6⟩ := hSw; go_simp; (try simp only [hws, hwt]); try with_reducible rfl)
                  simp only [Act.put, List.setIfInBounds_toArray, List.set_cons_zero, List.set_cons_succ]
                  refine wpAnyH_take (i := 34) (oi := { dst := some 222, op := Op.move (Operand.tmp 221), type := 4, pos := "more.go:40", after := #[{ on := 33, ground := Ground.data }, { on := 24, ground := Ground.chain }], guard := none }) (v := ?v1235) rfl (by kernel_rfl) (by kernel_rfl) (by kernel_rfl) (fun _ _ _ h => h) (Or.inl ⟨by rfl, ?hy1235⟩) (by assumption) ?rest1235
                  case hy1235 => (intro W hSw; obtain ⟨s0, s1, s2, s3, s4, s5, s6⟩ := hSw; go_simp; (try simp only [hws, hwt]); try with_reducible rfl)
                  simp only [Act.put, List.setIfInBounds_toArray, List.set_cons_zero, List.set_cons_succ]
                  refine wpAnyH_take (i := 35) (oi := { dst := some 223, op := Op.fieldAddr 39 (Operand.tmp 15) 4, type := 0, pos := "more.go:40", after := #[{ on := 34, ground := Ground.guard }], guard := some (34, true) }) (v := ?v1236) rfl (by kernel_rfl) (by kernel_rfl) (by kernel_rfl) (fun _ _ _ h => h) (Or.inl ⟨by rfl, ?hy1236⟩) (by assumption) ?rest1236
                  case hy1236 => (intro W hSw; obtain ⟨s0, s1, s2, s3, s4, s5, s6⟩ := hSw; go_simp; (try simp only [hws, hwt]); try with_reducible rfl)
                  simp only [Act.put, List.setIfInBounds_toArray, List.set_cons_zero, List.set_cons_succ]
                  refine wpAnyH_take (i := 36) (oi := { dst := some 224, op := Op.load 29 (Operand.tmp 223), type := 29, pos := "more.go:40", after := #[{ on := 35, ground := Ground.data }, { on := 34, ground := Ground.guard }], guard := some (34, true) }) (v := ?v1237) rfl (by kernel_rfl) (by kernel_rfl) (by kernel_rfl) (fun _ _ _ h => h) (Or.inl ⟨by rfl, ?hy1237⟩) (by assumption) ?rest1237
                  case hy1237 => (intro W hSw; obtain ⟨s0, s1, s2, s3, s4, s5, s6⟩ := hSw; go_simp; (try simp only [hws, hwt]); try with_reducible rfl)
                  simp only [Act.put, List.setIfInBounds_toArray, List.set_cons_zero, List.set_cons_succ]
                  refine wpAnyH_take (i := 37) (oi := { dst := some 225, op := Op.move (Operand.tmp 2), type := 3, pos := "more.go:40", after := #[{ on := 34, ground := Ground.guard }], guard := some (34, true) }) (v := ?v1238) rfl (by kernel_rfl) (by kernel_rfl) (by kernel_rfl) (fun _ _ _ h => h) (Or.inl ⟨by rfl, ?hy1238⟩) (by assumption) ?rest1238
                  case hy1238 => (intro W hSw; obtain ⟨s0, s1, s2, s3, s4, s5, s6⟩ := hSw; go_simp; (try simp only [hws, hwt]); try with_reducible rfl)
                  simp only [Act.put, List.setIfInBounds_toArray, List.set_cons_zero, List.set_cons_succ]
                  refine wpAnyH_take (i := 38) (oi := { dst := some 226, op := Op.indexAddr 29 (Operand.tmp 224) (Operand.tmp 225), type := 0, pos := "more.go:40", after := #[{ on := 36, ground := Ground.data }, { on := 37, ground := Ground.data }, { on := 34, ground := Ground.guard }], guard := some (34, true) }) (v := ?v1239) rfl (by kernel_rfl) (by kernel_rfl) (by kernel_rfl) (fun _ _ _ h => h) (Or.inl ⟨by rfl, ?hy1239⟩) (by assumption) ?rest1239
                  case hy1239 => (intro W hSw; obtain ⟨s0, s1, s2, s3, s4, s5, s6⟩ := hSw; go_simp; (try simp only [hws, hwt]); try with_reducible rfl)
                  simp only [Act.put, List.setIfInBounds_toArray, List.set_cons_zero, List.set_cons_succ]
                  refine wpAnyH_take (i := 39) (oi := { dst := some 227, op := Op.fieldAddr 57 (Operand.tmp 226) 11, type := 0, pos := "more.go:40", after := #[{ on := 38, ground := Ground.data }, { on := 34, ground := Ground.guard }], guard := some (34, true) }) (v := ?v1240) rfl (by kernel_rfl) (by kernel_rfl) (by kernel_rfl) (fun _ _ _ h => h) (Or.inl ⟨by rfl, ?hy1240⟩) (by assumption) ?rest1240
                  case hy1240 => (intro W hSw; obtain ⟨s0, s1, s2, s3, s4, s5, s6⟩ := hSw; go_simp; (try simp only [hws, hwt]); try with_reducible rfl)
                  simp only [Act.put, List.setIfInBounds_toArray, List.set_cons_zero, List.set_cons_succ]
                  refine wpAnyH_take (i := 40) (oi := { dst := some 228, op := Op.load 3 (Operand.tmp 227), type := 3, pos := "more.go:40", after := #[{ on := 39, ground := Ground.data }, { on := 34, ground := Ground.guard }], guard := some (34, true) }) (v := ?v1241) rfl (by kernel_rfl) (by kernel_rfl) (by kernel_rfl) (fun _ _ _ h => h) (Or.inl ⟨by rfl, ?hy1241⟩) (by assumption) ?rest1241
                  case hy1241 => (intro W hSw; obtain ⟨s0, s1, s2, s3, s4, s5, s6⟩ := hSw; go_simp; (try simp only [hws, hwt]); try with_reducible rfl)
                  simp only [Act.put, List.setIfInBounds_toArray, List.set_cons_zero, List.set_cons_succ]
                  refine wpAnyH_take (i := 41) (oi := { dst := some 229, op := Op.binOp BinOp.eql 3 (Operand.tmp 228) (Operand.const (Value.int IntKind.i64 0)) 3, type := 4, pos := "more.go:40", after := #[{ on := 40, ground := Ground.data }, { on := 34, ground := Ground.guard }], guard := some (34, true) }) (v := ?v1242) rfl (by kernel_rfl) (by kernel_rfl) (by kernel_rfl) (fun _ _ _ h => h) (Or.inl ⟨by rfl, ?hy1242⟩) (by assumption) ?rest1242
                  case hy1242 => (intro W hSw; obtain ⟨s0, s1, s2, s3, s4, s5, s6⟩ := hSw; go_simp; (try simp only [hws, hwt]); try with_reducible rfl)
                  simp only [Act.put, List.setIfInBounds_toArray, List.set_cons_zero, List.set_cons_succ]
                  refine wpAnyH_take (i := 42) (oi := { dst := some 230, op := Op.pick (Operand.tmp 222) (Operand.tmp 229) (Operand.const (Value.bool false)), type := 4, pos := "more.go:40", after := #[{ on := 34, ground := Ground.data }, { on := 41, ground := Ground.data }], guard := none }) (v := ?v1243) rfl (by kernel_rfl) (by kernel_rfl) (by kernel_rfl) (fun _ _ _ h => h) (Or.inl ⟨by rfl, ?hy1243⟩) (by assumption) ?rest1243
                  case hy1243 => (intro W hSw; obtain ⟨s0, s1, s2, s3, s4, s5, s6⟩ := hSw; go_simp; (try simp only [hws, hwt]); try with_reducible rfl)
                  simp only [Act.put, List.setIfInBounds_toArray, List.set_cons_zero, List.set_cons_succ]
                  refine wpAnyH_take (i := 43) (oi := { dst := some 8, op := Op.assign (Operand.tmp 230), type := 4, pos := "more.go:40", after := #[{ on := 42, ground := Ground.data }, { on := 34, ground := Ground.chain }, { on := 0, ground := Ground.phase }, { on := 1, ground := Ground.phase }, { on := 2, ground := Ground.phase }, { on := 3, ground := Ground.phase }, { on := 4, ground := Ground.phase }, { on := 5, ground := Ground.phase }, { on := 6, ground := Ground.phase }, { on := 7, ground := Ground.phase }, { on := 8, ground := Ground.phase }, { on := 9, ground := Ground.phase }, { on := 10, ground := Ground.phase }, { on := 11, ground := Ground.phase }, { on := 12, ground := Ground.phase }, { on := 13, ground := Ground.phase }, { on := 14, ground := Ground.phase }, { on := 15, ground := Ground.phase }, { on := 16, ground := Ground.phase }, { on := 17, ground := Ground.phase }, { on := 18, ground := Ground.phase }, { on := 19, ground := Ground.phase }, { on := 20, ground := Ground.phase }, { on := 21, ground := Ground.phase }, { on := 22, ground := Ground.phase }, { on := 23, ground := Ground.phase }, { on := 24, ground := Ground.phase }, { on := 25, ground := Ground.phase }, { on := 26, ground := Ground.phase }, { on := 27, ground := Ground.phase }, { on := 28, ground := Ground.phase }, { on := 29, ground := Ground.phase }, { on := 30, ground := Ground.phase }, { on := 31, ground := Ground.phase }, { on := 32, ground := Ground.phase }, { on := 33, ground := Ground.phase }, { on := 34, ground := Ground.phase }, { on := 35, ground := Ground.phase }, { on := 36, ground := Ground.phase }, { on := 37, ground := Ground.phase }, { on := 38, ground := Ground.phase }, { on := 39, ground := Ground.phase }, { on := 40, ground := Ground.phase }, { on := 41, ground := Ground.phase }, { on := 42, ground := Ground.phase }], guard := none }) (v := ?v1244) rfl (by kernel_rfl) (by kernel_rfl) (by kernel_rfl) (fun _ _ _ h => h) (Or.inl ⟨by rfl, ?hy1244⟩) (by assumption) ?rest1244
                  case hy1244 => (intro W hSw; obtain ⟨s0, s1, s2, s3, s4, s5, s6⟩ := hSw; go_simp; (try simp only [hws, hwt]); try with_reducible rfl)
                  simp only [Act.put, List.setIfInBounds_toArray, List.set_cons_zero, List.set_cons_succ]
                  refine wpAnyH_done (by kernel_rfl) ?_ _
                  clear hHeld
                  have HB := hid HB.out.drew
                  go_wp2_with fail
                  go_ret
                  exact ⟨rfl, HB.out⟩
  · obtain ⟨hDe, hcc⟩ := HOi.out h6
    rw [hDe] at HO1
    have t6 : (cd != 6) = true := by simpa using h6
    clear hDe HO6 HOi h6
    have FL21 := hid trivial
    have FL22 := hid trivial
    go_wp2_with (first
      | (have hfl := FL21.out
         refine wpList_new rfl 39 rfl _ Try.zeroPa ?_
         intro v25 b h z
         have QB := hid (show BoxAt v25 v5.heap.size 39 (PaV.cells PaV.zero).toArray from b)
         have CB := hid (CB.out.belowAll h)
         have PB := hid (PB.out.belowAll h)
         have HO1 := hid (HO1.out.below h)
         have HB := hid (HB.out.trans (h.mono HB.out.size))
         have hsv25 : v5.heap.size + 1 ≤ v25.heap.size := by omega
         clear b h z hfl FL21)
      | (have hfl := FL22.out
         refine wpList_store_whole rfl 39 _ _ rfl rfl v5.heap.size rfl (PaV.cells q1) rfl _ _ QB.out rfl Try.infoPa (PaV.one _) ?_
         intro v26 b g z
         have hsv26 : v25.heap.size ≤ v26.heap.size := by omega
         have HO1 := hid (HO1.out.turn (Turns.grown (S := fun t => t = 39) QB.out b rfl g))
         have QB := hid (show BoxAt v26 v5.heap.size 39 (PaV.cells q1).toArray from b)
         have CB := hid (CB.out.grown g (fun e => by have := Option.some.inj e; omega))
         have PB := hid (PB.out.grown g (fun e => by have := Option.some.inj e; omega))
         have HB := hid (HB.out.trans (grown_below g (by omega) (by omega)))
         clear b g z hfl FL22)
      | (with_reducible refine wpList_dst 50 rfl ?_
         refine wpList_load_box rfl 39 _ rfl v1.heap.size rfl _ _ PB.out _ Try.underlying39 Try.infoPa ?_)
      | (with_reducible refine wpList_dst 51 rfl ?_
         refine wpList_load_box rfl 39 _ rfl v5.heap.size rfl _ _ QB.out _ Try.underlying39 Try.infoPa ?_)
      | fail)
    clear t6
    refine (same_eq (HA.out.below HB.out) HO1.out.sees).mono ?_
    rintro e v27 ⟨rfl, hb⟩
    have CB := hid (CB.out.belowAll hb)
    have PB := hid (PB.out.belowAll hb)
    have QB := hid (QB.out.belowAll hb)
    have HO1 := hid (HO1.out.below hb)
    have HB := hid (HB.out.trans (hb.mono HB.out.size))
    have hsv27 : v26.heap.size ≤ v27.heap.size := hb.size
    clear hb
    rcases hcc with rfl | rfl
    · go_wp2_with fail
      go_ret
      exact ⟨rfl, HB.out⟩
    · go_wp2_with fail
      go_ret
      exact ⟨rfl, HB.out⟩
end Go.Proofs.Ytdanfnbclbiidaa
