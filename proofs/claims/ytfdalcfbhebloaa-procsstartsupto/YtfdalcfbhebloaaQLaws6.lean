/-
  ProcsStarts: a process that is started is ready, behind all others, where it begins, with its priority, and with a deadline, if it has a limit; stopped it is dormant, and waits for nothing.
-/
import Derived.Test.YtfdalcfbhebloaaQLaws1
import Derived.Test.YtfdalcfbhebloaaQSame3E
import Derived.Test.YtfdalcfbhebloaaQLeaM
import Derived.Test.YtfdalcfbhebloaaQFacts3
namespace Go.Proofs.Ytfdalcfbhebloaa
open Go.RowKit
set_option linter.unusedVariables false

set_option maxRecDepth 100000 in
set_option maxHeartbeats 12800000 in
theorem walk_ProcsStarts (w : World) (x0 : PtX) (f0 : x0.fit w) (x1 : PaX) (f1 : x1.fit w) (i : Int) (w2 : (Lit.int .i64 i).wf = true) (now : Int) (w3 : (Lit.int .i64 now).wf = true) (hN : 2 * (x1.c.bo.length + x1.c.bu.length + x1.c.se.length + x1.c.ev.length) ≤ 1048576) :
    Calls Try.prog 7 #[x0.val, x1.val, .int .i64 i, .int .i64 now] w fun e w' => e = .returned (.bool true) ∧ Below w.heap.size w w' := by
  obtain ⟨qc, cc⟩ := x0
  obtain ⟨q, c⟩ := x1
  unfold PtX.val PaX.val
  simp only at hN ⊢
  have HC := hid f0.1
  have HA := hid f1.1
  have HNm := hid (show c.bo.length + c.bu.length + c.se.length + c.ev.length ≤ 900000 by omega)
  obtain ⟨ac, cpc, hcv, hc1, hc2, hcell⟩ := HC.out.pc.form
  have hmaxc : cpc ≤ 9223372036854775807 := hc2
  have HCv := hid hcv
  have HCc := hid hcell
  clear hcv hc2 hcell
  obtain ⟨ap, cpp, hpv, hp1, hp2, hpcell⟩ := HA.out.pr.form
  have hmax : cpp ≤ 9223372036854775807 := hp2
  have HPv := hid hpv
  have HPc := hid hpcell
  clear hpv hp2 hpcell
  clear hN f0 f1 w2 w3
  have HB := hid (Below.refl w.heap.size w)
  go_enter Try.func7, Try.ntmps7
  have FL1 := hid trivial
  have FL2 := hid trivial
  go_wp2_with (first
    | (have hfl := FL1.out
       refine wpList_box rfl 28 (.tmp 0) rfl (Pv.cells qc).toArray rfl ?_
       intro v1 b h z
       have CB := hid (show BoxAt v1 w.heap.size 28 (Pv.cells qc).toArray from b)
       have HB := hid (HB.out.trans (h.mono HB.out.size))
       have hsv1 : w.heap.size + 1 ≤ v1.heap.size := by omega
       clear b h z hfl FL1)
    | (have hfl := FL2.out
       refine wpList_box rfl 39 (.tmp 1) rfl (PaV.cells q).toArray rfl ?_
       intro v2 b h z
       have PB := hid (show BoxAt v2 v1.heap.size 39 (PaV.cells q).toArray from b)
       have CB := hid (CB.out.belowAll h)
       have HB := hid (HB.out.trans (h.mono HB.out.size))
       have hsv2 : v1.heap.size + 1 ≤ v2.heap.size := by omega
       clear b h z hfl FL2)
    | fail)
  refine (qawake_any _).mono ?_
  rintro e v3 ⟨rfl, hb⟩
  have CB := hid (CB.out.belowAll hb)
  have PB := hid (PB.out.belowAll hb)
  have HB := hid (HB.out.trans (hb.mono HB.out.size))
  have hsv3 : v2.heap.size ≤ v3.heap.size := hb.size
  clear hb
  go_wp2_with (first
    | (refine wpList_load_box rfl 39 _ rfl v1.heap.size rfl _ _ PB.out _ Try.underlying39 Try.infoPa ?_)
    | fail)
  refine (few_tot (HA.out.below HB.out) HNm.out).mono ?_
  rintro e v4 ⟨⟨ok, rfl, hok⟩, hb⟩
  have CB := hid (CB.out.belowAll hb)
  have PB := hid (PB.out.belowAll hb)
  have HB := hid (HB.out.trans (hb.mono HB.out.size))
  have hsv4 : v3.heap.size ≤ v4.heap.size := hb.size
  have HOk := hid hok
  clear hok
  clear hb
  have kCB2 : v4.cell? ⟨w.heap.size, 2, none⟩ = some (.slice ac cc.pc.length cpc) := (BoxAt.cell CB.out 2).trans (by show some qc.v2.val = _; rw [HCv.out])
  have kPB4 : v4.cell? ⟨v1.heap.size, 4, none⟩ = some (.slice ap c.pr.length cpp) := (BoxAt.cell PB.out 4).trans (by show some q.pr.val = _; rw [HPv.out])
  rcases ok with _ | _
  · go_wp2
    go_ret
    exact ⟨rfl, HB.out⟩
  have HT := hid (HOk.out rfl)
  have HSm := hid HT.out.small
  clear HOk
  by_cases hbig : (20 : Int) < (cc.pc.length : Int)
  · go_wp2
    go_ret
    exact ⟨rfl, HB.out⟩
  by_cases hn0 : now < 0
  · go_wp2
    go_ret
    exact ⟨rfl, HB.out⟩
  by_cases hn1 : 1099511627776 < now
  · go_wp2
    go_ret
    exact ⟨rfl, HB.out⟩
  have hd1 : decide ((20 : Int) < (cc.pc.length : Int)) = false := decide_eq_false hbig
  have hd2 : decide (now < 0) = false := decide_eq_false hn0
  have hd3 : decide ((1099511627776 : Int) < now) = false := decide_eq_false hn1
  go_wp2_with (first
    | (refine wpList_load_box rfl 28 _ rfl w.heap.size rfl _ _ CB.out _ Try.underlying28 Try.infoPv ?_)
    | (refine wpList_load_box rfl 39 _ rfl v1.heap.size rfl _ _ PB.out _ Try.underlying39 Try.infoPa ?_)
    | fail)
  clear hd1 hd2 hd3 hbig hn0 hn1
  obtain ⟨⟨C1, kd⟩, hD⟩ : ∃ D, startP cc c i now = D := ⟨_, rfl⟩
  have HD := hid hD
  clear hD
  refine (start_api (i := i) (now := now) (HC.out.below HB.out) (HA.out.below HB.out) HSm.out).mono ?_
  rintro e v5 ⟨qa, rfl, ho, hb⟩
  have CB := hid (CB.out.belowAll hb)
  have PB := hid (PB.out.belowAll hb)
  have HB := hid (HB.out.trans (hb.mono HB.out.size))
  have hsv5 : v4.heap.size ≤ v5.heap.size := hb.size
  rw [HD.out] at ho ⊢
  clear kCB2
  have kCB2 : v5.cell? ⟨w.heap.size, 2, none⟩ = some (.slice ac cc.pc.length cpc) := (BoxAt.cell CB.out 2).trans (by show some qc.v2.val = _; rw [HCv.out])
  clear kPB4
  have kPB4 : v5.cell? ⟨v1.heap.size, 4, none⟩ = some (.slice ap c.pr.length cpp) := (BoxAt.cell PB.out 4).trans (by show some q.pr.val = _; rw [HPv.out])
  clear hb
  have HBa := hid (Below.refl v5.heap.size v5)
  by_cases hkd : kd = 0
  · subst hkd
    obtain ⟨k, hki, hk, hkc, hC1⟩ := start_ok (f := cc) (c := c) (i := i) (now := now) (by rw [HD.out])
    subst hki
    rw [HD.out] at hC1
    simp only at hC1
    obtain ⟨f, hf⟩ : ∃ f, cc.pc.getD k Pc.zero = f := ⟨_, rfl⟩
    rw [hf] at hC1
    obtain ⟨b2, of2, rfl, hbw2, hpc⟩ := HCc.out (by omega)
    have HF0 := hid (show ∀ j, j < 5 → w.cell? ⟨b2, of2 + k * 5 + j, none⟩ = some (f.cells.getD j .nilIface) from fun j hj => by rw [← hf]; exact hpc k hkc j hj)
    obtain ⟨y1, hy1⟩ : ∃ y, begun f now c.nx = y := ⟨_, rfl⟩
    rw [hy1] at hC1
    have HL1 := hid (show C1.pr.length = c.pr.length by rw [hC1]; simp)
    have HE1 := hid (show C1.pr.getD k Px.zero = y1 from by rw [hC1]; exact getD_set_self hk _)
    have HN1 := hid (show C1.nx = wrap64 (c.nx + 1) from by rw [hC1])
    have HS1 := hid (show C1.small from by rw [hC1]; exact ⟨HSm.out.me, by simpa using HSm.out.pr, HSm.out.bo, HSm.out.bu, HSm.out.se, HSm.out.ev, HSm.out.sa, HSm.out.qu, HSm.out.ll, HSm.out.gi, HSm.out.bol, HSm.out.bul, HSm.out.sel, HSm.out.evl, HSm.out.qul⟩)
    have HK := hid hk
    have HKc := hid hkc
    have HY1 := hid hy1
    clear hf hpc hC1 hy1 HD
    have HO1 := hid ho
    obtain ⟨a1, cp1, hv, hm0, hm1, hg⟩ := row_form ho.pr
    rw [HL1.out] at hv hm0 hg
    have HV1 := hid hv
    have HG1 := hid hg
    have hcl1 : c.pr.length ≤ cp1 := hm0
    have hcm1 : cp1 ≤ 9223372036854775807 := hm1
    clear ho hv hm0 hm1 hg
    obtain ⟨g1, ha1, _, hgl1⟩ := HG1.out (by omega)
    subst ha1
    have HP1 := hid (show PxAt v5 g1 (k * 18) y1 from by have h4 := HO1.out.pr; rw [HV1.out, ← HL1.out] at h4; have h5 := OP.at h4 k (by rw [HL1.out]; exact HK.out); rw [HE1.out] at h5; exact h5)
    have tk0 : decide ((k : Int) < 0) = false := decide_eq_false (by omega)
    have tk1 : decide (c.pr.length ≤ k) = false := decide_eq_false (by omega)
    have tk2 : decide (cc.pc.length ≤ k) = false := decide_eq_false (by omega)
    have hnx : q.nx = c.nx := HA.out.nx
    have HNx := hid hnx
    clear hnx
    by_cases hli : 0 < f.li
    · have tlj : decide (f.li ≤ 0) = false := decide_eq_false (by omega)
      have HLi := hid hli
      obtain ⟨du, hdu⟩ : ∃ d, y1.du = d := ⟨_, rfl⟩
      have tdu : (du != wrap64 (now + f.li)) = false := by rw [show du = wrap64 (now + f.li) from by rw [← hdu, ← HY1.out]; exact if_pos hli]; exact bne_self_eq_false _
      have HDu := hid hdu
      have tli : decide (0 < f.li) = true := decide_eq_true hli
      clear hdu
      clear hli
      clear kCB2
      have kCB2 : v5.cell? ⟨w.heap.size, 2, none⟩ = some (.slice (some ⟨b2, of2, none⟩) cc.pc.length cpc) := (BoxAt.cell CB.out 2).trans (by show some qc.v2.val = _; rw [HCv.out])
      have kPB2 : v5.cell? ⟨v1.heap.size, 2, none⟩ = some (.int .i64 c.nx) := (BoxAt.cell PB.out 2).trans (by show some (Value.int .i64 q.nx) = _; rw [HNx.out])
      have FL3 := hid trivial
      have FL4 := hid trivial
      have FL5 := hid trivial
      have FL6 := hid trivial
      have FL7 := hid trivial
      have FL8 := hid trivial
      go_wp2_with (first
        | (have hfl := FL3.out
           refine wpList_new rfl 39 rfl _ Try.zeroPa ?_
           intro v6 b h z
           have QB := hid (show BoxAt v6 v5.heap.size 39 (PaV.cells PaV.zero).toArray from b)
           have CB := hid (CB.out.belowAll h)
           have PB := hid (PB.out.belowAll h)
           have HBa := hid (HBa.out.trans (h.mono (by omega)))
           have HB := hid (HB.out.trans (h.mono HB.out.size))
           have hsv6 : v5.heap.size + 1 ≤ v6.heap.size := by omega
           clear kCB2
           have kCB2 : v6.cell? ⟨w.heap.size, 2, none⟩ = some (.slice (some ⟨b2, of2, none⟩) cc.pc.length cpc) := (BoxAt.cell CB.out 2).trans (by show some qc.v2.val = _; rw [HCv.out])
           clear kPB2
           have kPB2 : v6.cell? ⟨v1.heap.size, 2, none⟩ = some (.int .i64 c.nx) := (BoxAt.cell PB.out 2).trans (by show some (Value.int .i64 q.nx) = _; rw [HNx.out])
           clear b h z hfl FL3)
        | (have hfl := FL4.out
           refine wpList_store_whole rfl 39 _ _ rfl rfl v5.heap.size rfl (PaV.cells qa) rfl _ _ QB.out rfl Try.infoPa (PaV.one _) ?_
           intro v7 b g z
           have hsv7 : v6.heap.size ≤ v7.heap.size := by omega
           have HBa := hid (HBa.out.trans (grown_below g (by omega) (by omega)))
           have QB := hid (show BoxAt v7 v5.heap.size 39 (PaV.cells qa).toArray from b)
           have CB := hid (CB.out.grown g (fun e => by have := Option.some.inj e; omega))
           have PB := hid (PB.out.grown g (fun e => by have := Option.some.inj e; omega))
           have HB := hid (HB.out.trans (grown_below g (by omega) (by omega)))
           clear kCB2
           have kCB2 : v7.cell? ⟨w.heap.size, 2, none⟩ = some (.slice (some ⟨b2, of2, none⟩) cc.pc.length cpc) := (BoxAt.cell CB.out 2).trans (by show some qc.v2.val = _; rw [HCv.out])
           clear kPB2
           have kPB2 : v7.cell? ⟨v1.heap.size, 2, none⟩ = some (.int .i64 c.nx) := (BoxAt.cell PB.out 2).trans (by show some (Value.int .i64 q.nx) = _; rw [HNx.out])
           have kQB4 : v7.cell? ⟨v5.heap.size, 4, none⟩ = some (.slice (some ⟨g1, 0, none⟩) c.pr.length cp1) := (BoxAt.cell QB.out 4).trans (by show some qa.pr.val = _; rw [HV1.out])
           have kQB2 : v7.cell? ⟨v5.heap.size, 2, none⟩ = some (.int .i64 (wrap64 (c.nx + 1))) := (BoxAt.cell QB.out 2).trans (by show some (Value.int .i64 qa.nx) = _; rw [show qa.nx = C1.nx from HO1.out.nx, HN1.out])
           clear b g z hfl FL4)
        | (refine wpList_load_px rfl _ rfl g1 (k * 18) rfl y1 (HP1.out.below HBa.out (by omega)) ?_)
        | (have hfl := FL5.out
           refine wpList_new rfl 58 rfl _ Try.zeroPx ?_
           intro v8 b h z
           have XB := hid (show BoxAt v8 v7.heap.size 58 (Px.cells Px.zero).toArray from b)
           have CB := hid (CB.out.belowAll h)
           have PB := hid (PB.out.belowAll h)
           have QB := hid (QB.out.belowAll h)
           have HBa := hid (HBa.out.trans (h.mono (by omega)))
           have HB := hid (HB.out.trans (h.mono HB.out.size))
           have hsv8 : v7.heap.size + 1 ≤ v8.heap.size := by omega
           clear kCB2
           have kCB2 : v8.cell? ⟨w.heap.size, 2, none⟩ = some (.slice (some ⟨b2, of2, none⟩) cc.pc.length cpc) := (BoxAt.cell CB.out 2).trans (by show some qc.v2.val = _; rw [HCv.out])
           clear kPB2
           have kPB2 : v8.cell? ⟨v1.heap.size, 2, none⟩ = some (.int .i64 c.nx) := (BoxAt.cell PB.out 2).trans (by show some (Value.int .i64 q.nx) = _; rw [HNx.out])
           clear kQB4
           have kQB4 : v8.cell? ⟨v5.heap.size, 4, none⟩ = some (.slice (some ⟨g1, 0, none⟩) c.pr.length cp1) := (BoxAt.cell QB.out 4).trans (by show some qa.pr.val = _; rw [HV1.out])
           clear kQB2
           have kQB2 : v8.cell? ⟨v5.heap.size, 2, none⟩ = some (.int .i64 (wrap64 (c.nx + 1))) := (BoxAt.cell QB.out 2).trans (by show some (Value.int .i64 qa.nx) = _; rw [show qa.nx = C1.nx from HO1.out.nx, HN1.out])
           clear b h z hfl FL5)
        | (have hfl := FL6.out
           refine wpList_store_whole rfl 58 _ _ rfl rfl v7.heap.size rfl (Px.cells y1) rfl _ _ XB.out rfl Try.infoPx (Px.one _) ?_
           intro v9 b g z
           have hsv9 : v8.heap.size ≤ v9.heap.size := by omega
           have HBa := hid (HBa.out.trans (grown_below g (by omega) (by omega)))
           have XB := hid (show BoxAt v9 v7.heap.size 58 (Px.cells y1).toArray from b)
           have CB := hid (CB.out.grown g (fun e => by have := Option.some.inj e; omega))
           have PB := hid (PB.out.grown g (fun e => by have := Option.some.inj e; omega))
           have QB := hid (QB.out.grown g (fun e => by have := Option.some.inj e; omega))
           have HB := hid (HB.out.trans (grown_below g (by omega) (by omega)))
           clear kCB2
           have kCB2 : v9.cell? ⟨w.heap.size, 2, none⟩ = some (.slice (some ⟨b2, of2, none⟩) cc.pc.length cpc) := (BoxAt.cell CB.out 2).trans (by show some qc.v2.val = _; rw [HCv.out])
           clear kPB2
           have kPB2 : v9.cell? ⟨v1.heap.size, 2, none⟩ = some (.int .i64 c.nx) := (BoxAt.cell PB.out 2).trans (by show some (Value.int .i64 q.nx) = _; rw [HNx.out])
           clear kQB4
           have kQB4 : v9.cell? ⟨v5.heap.size, 4, none⟩ = some (.slice (some ⟨g1, 0, none⟩) c.pr.length cp1) := (BoxAt.cell QB.out 4).trans (by show some qa.pr.val = _; rw [HV1.out])
           clear kQB2
           have kQB2 : v9.cell? ⟨v5.heap.size, 2, none⟩ = some (.int .i64 (wrap64 (c.nx + 1))) := (BoxAt.cell QB.out 2).trans (by show some (Value.int .i64 qa.nx) = _; rw [show qa.nx = C1.nx from HO1.out.nx, HN1.out])
           have kXB0 : v9.cell? ⟨v7.heap.size, 0, none⟩ = some (.int .i64 1) := (BoxAt.cell XB.out 0).trans (by rw [← HY1.out]; rfl)
           have kXB2 : v9.cell? ⟨v7.heap.size, 2, none⟩ = some (.bool false) := (BoxAt.cell XB.out 2).trans (by rw [← HY1.out]; rfl)
           have kXB1 : v9.cell? ⟨v7.heap.size, 1, none⟩ = some (.int .i64 f.pr) := (BoxAt.cell XB.out 1).trans (by rw [← HY1.out]; rfl)
           have kXB3 : v9.cell? ⟨v7.heap.size, 3, none⟩ = some (.int .i64 f.en) := (BoxAt.cell XB.out 3).trans (by rw [← HY1.out]; rfl)
           have kXB8 : v9.cell? ⟨v7.heap.size, 8, none⟩ = some (.int .i64 c.nx) := (BoxAt.cell XB.out 8).trans (by rw [← HY1.out]; rfl)
           have kXB12 : v9.cell? ⟨v7.heap.size, 12, none⟩ = some (.int .i64 du) := (BoxAt.cell XB.out 12).trans (by show some (Value.int .i64 y1.du) = _; rw [HDu.out])
           clear b g z hfl FL6)
        | (refine wpList_load_mid rfl 65 _ rfl b2 (of2 + k * 5) rfl f.cells _ (range_of f.cells (fun j hj => (HB.out.cell (by exact hbw2)).trans (HF0.out j hj))) Try.underlying65 rfl Try.infoPc ?_)
        | (have hfl := FL7.out
           refine wpList_new rfl 65 rfl _ Try.zeroPc ?_
           intro v10 b h z
           have FB := hid (show BoxAt v10 v9.heap.size 65 (Pc.cells Pc.zero).toArray from b)
           have CB := hid (CB.out.belowAll h)
           have PB := hid (PB.out.belowAll h)
           have QB := hid (QB.out.belowAll h)
           have XB := hid (XB.out.belowAll h)
           have HBa := hid (HBa.out.trans (h.mono (by omega)))
           have HB := hid (HB.out.trans (h.mono HB.out.size))
           have hsv10 : v9.heap.size + 1 ≤ v10.heap.size := by omega
           clear kCB2
           have kCB2 : v10.cell? ⟨w.heap.size, 2, none⟩ = some (.slice (some ⟨b2, of2, none⟩) cc.pc.length cpc) := (BoxAt.cell CB.out 2).trans (by show some qc.v2.val = _; rw [HCv.out])
           clear kPB2
           have kPB2 : v10.cell? ⟨v1.heap.size, 2, none⟩ = some (.int .i64 c.nx) := (BoxAt.cell PB.out 2).trans (by show some (Value.int .i64 q.nx) = _; rw [HNx.out])
           clear kQB4
           have kQB4 : v10.cell? ⟨v5.heap.size, 4, none⟩ = some (.slice (some ⟨g1, 0, none⟩) c.pr.length cp1) := (BoxAt.cell QB.out 4).trans (by show some qa.pr.val = _; rw [HV1.out])
           clear kQB2
           have kQB2 : v10.cell? ⟨v5.heap.size, 2, none⟩ = some (.int .i64 (wrap64 (c.nx + 1))) := (BoxAt.cell QB.out 2).trans (by show some (Value.int .i64 qa.nx) = _; rw [show qa.nx = C1.nx from HO1.out.nx, HN1.out])
           clear kXB0
           have kXB0 : v10.cell? ⟨v7.heap.size, 0, none⟩ = some (.int .i64 1) := (BoxAt.cell XB.out 0).trans (by rw [← HY1.out]; rfl)
           clear kXB2
           have kXB2 : v10.cell? ⟨v7.heap.size, 2, none⟩ = some (.bool false) := (BoxAt.cell XB.out 2).trans (by rw [← HY1.out]; rfl)
           clear kXB1
           have kXB1 : v10.cell? ⟨v7.heap.size, 1, none⟩ = some (.int .i64 f.pr) := (BoxAt.cell XB.out 1).trans (by rw [← HY1.out]; rfl)
           clear kXB3
           have kXB3 : v10.cell? ⟨v7.heap.size, 3, none⟩ = some (.int .i64 f.en) := (BoxAt.cell XB.out 3).trans (by rw [← HY1.out]; rfl)
           clear kXB8
           have kXB8 : v10.cell? ⟨v7.heap.size, 8, none⟩ = some (.int .i64 c.nx) := (BoxAt.cell XB.out 8).trans (by rw [← HY1.out]; rfl)
           clear kXB12
           have kXB12 : v10.cell? ⟨v7.heap.size, 12, none⟩ = some (.int .i64 du) := (BoxAt.cell XB.out 12).trans (by show some (Value.int .i64 y1.du) = _; rw [HDu.out])
           clear b h z hfl FL7)
        | (have hfl := FL8.out
           refine wpList_store_whole rfl 65 _ _ rfl rfl v9.heap.size rfl (Pc.cells f) rfl _ _ FB.out rfl Try.infoPc (Pc.one _) ?_
           intro v11 b g z
           have hsv11 : v10.heap.size ≤ v11.heap.size := by omega
           have HBa := hid (HBa.out.trans (grown_below g (by omega) (by omega)))
           have FB := hid (show BoxAt v11 v9.heap.size 65 (Pc.cells f).toArray from b)
           have CB := hid (CB.out.grown g (fun e => by have := Option.some.inj e; omega))
           have PB := hid (PB.out.grown g (fun e => by have := Option.some.inj e; omega))
           have QB := hid (QB.out.grown g (fun e => by have := Option.some.inj e; omega))
           have XB := hid (XB.out.grown g (fun e => by have := Option.some.inj e; omega))
           have HB := hid (HB.out.trans (grown_below g (by omega) (by omega)))
           clear kCB2
           have kCB2 : v11.cell? ⟨w.heap.size, 2, none⟩ = some (.slice (some ⟨b2, of2, none⟩) cc.pc.length cpc) := (BoxAt.cell CB.out 2).trans (by show some qc.v2.val = _; rw [HCv.out])
           clear kPB2
           have kPB2 : v11.cell? ⟨v1.heap.size, 2, none⟩ = some (.int .i64 c.nx) := (BoxAt.cell PB.out 2).trans (by show some (Value.int .i64 q.nx) = _; rw [HNx.out])
           clear kQB4
           have kQB4 : v11.cell? ⟨v5.heap.size, 4, none⟩ = some (.slice (some ⟨g1, 0, none⟩) c.pr.length cp1) := (BoxAt.cell QB.out 4).trans (by show some qa.pr.val = _; rw [HV1.out])
           clear kQB2
           have kQB2 : v11.cell? ⟨v5.heap.size, 2, none⟩ = some (.int .i64 (wrap64 (c.nx + 1))) := (BoxAt.cell QB.out 2).trans (by show some (Value.int .i64 qa.nx) = _; rw [show qa.nx = C1.nx from HO1.out.nx, HN1.out])
           clear kXB0
           have kXB0 : v11.cell? ⟨v7.heap.size, 0, none⟩ = some (.int .i64 1) := (BoxAt.cell XB.out 0).trans (by rw [← HY1.out]; rfl)
           clear kXB2
           have kXB2 : v11.cell? ⟨v7.heap.size, 2, none⟩ = some (.bool false) := (BoxAt.cell XB.out 2).trans (by rw [← HY1.out]; rfl)
           clear kXB1
           have kXB1 : v11.cell? ⟨v7.heap.size, 1, none⟩ = some (.int .i64 f.pr) := (BoxAt.cell XB.out 1).trans (by rw [← HY1.out]; rfl)
           clear kXB3
           have kXB3 : v11.cell? ⟨v7.heap.size, 3, none⟩ = some (.int .i64 f.en) := (BoxAt.cell XB.out 3).trans (by rw [← HY1.out]; rfl)
           clear kXB8
           have kXB8 : v11.cell? ⟨v7.heap.size, 8, none⟩ = some (.int .i64 c.nx) := (BoxAt.cell XB.out 8).trans (by rw [← HY1.out]; rfl)
           clear kXB12
           have kXB12 : v11.cell? ⟨v7.heap.size, 12, none⟩ = some (.int .i64 du) := (BoxAt.cell XB.out 12).trans (by show some (Value.int .i64 y1.du) = _; rw [HDu.out])
           have kFB0 : v11.cell? ⟨v9.heap.size, 0, none⟩ = some (.int .i64 f.pr) := (BoxAt.cell FB.out 0).trans rfl
           have kFB2 : v11.cell? ⟨v9.heap.size, 2, none⟩ = some (.int .i64 f.li) := (BoxAt.cell FB.out 2).trans rfl
           have kFB3 : v11.cell? ⟨v9.heap.size, 3, none⟩ = some (.int .i64 f.en) := (BoxAt.cell FB.out 3).trans rfl
           clear b g z hfl FL8
           refine Hid.out ?_)
        | fail)
      refine hid ?_
      go_wp2_with (first
        | (with_reducible refine wpList_dst 144 rfl ?_
           refine wpList_load_box rfl 39 _ rfl v5.heap.size rfl _ _ QB.out _ Try.underlying39 Try.infoPa ?_)
        | fail)
      obtain ⟨⟨C2, ke⟩, hD2⟩ : ∃ D, stopP C1 (k : Int) = D := ⟨_, rfl⟩
      have hsd := stop_does (c := C1) (k := k) (by rw [HL1.out]; exact HK.out) (by rw [HE1.out, ← HY1.out]; show ¬ ((1 : Int) = 0); decide)
      rw [hD2] at hsd
      obtain ⟨hke, hpr2⟩ := hsd
      simp only at hke hpr2
      subst hke
      have HL2 := hid (show C2.pr.length = c.pr.length by rw [hpr2, List.length_set, HL1.out])
      have HE2 := hid (show C2.pr.getD k Px.zero = Px.dorm f.pr from by rw [hpr2, getD_set_self (by rw [HL1.out]; exact HK.out), HE1.out, ← HY1.out]; rfl)
      have HD2 := hid hD2
      clear hD2 hpr2
      refine (stop_api (i := (k : Int)) (HO1.out.below HBa.out).sees HS1.out).mono ?_
      rintro e v12 ⟨qb, rfl, ho, hb⟩
      have CB := hid (CB.out.belowAll hb)
      have PB := hid (PB.out.belowAll hb)
      have QB := hid (QB.out.belowAll hb)
      have XB := hid (XB.out.belowAll hb)
      have FB := hid (FB.out.belowAll hb)
      have HBa := hid (HBa.out.trans (hb.mono (by omega)))
      have HB := hid (HB.out.trans (hb.mono HB.out.size))
      have hsv12 : v11.heap.size ≤ v12.heap.size := hb.size
      rw [HD2.out] at ho ⊢
      have HO2 := hid ho
      obtain ⟨a2, cp2, hv, hm0, hm1, hg⟩ := row_form ho.pr
      rw [HL2.out] at hv hm0 hg
      have HV2 := hid hv
      have HG2 := hid hg
      have hcl2 : c.pr.length ≤ cp2 := hm0
      have hcm2 : cp2 ≤ 9223372036854775807 := hm1
      clear ho hv hm0 hm1 hg
      clear kFB0
      have kFB0 : v12.cell? ⟨v9.heap.size, 0, none⟩ = some (.int .i64 f.pr) := (BoxAt.cell FB.out 0).trans rfl
      clear kFB2
      have kFB2 : v12.cell? ⟨v9.heap.size, 2, none⟩ = some (.int .i64 f.li) := (BoxAt.cell FB.out 2).trans rfl
      clear kFB3
      have kFB3 : v12.cell? ⟨v9.heap.size, 3, none⟩ = some (.int .i64 f.en) := (BoxAt.cell FB.out 3).trans rfl
      clear hb
      have HBb := hid (Below.refl v12.heap.size v12)
      obtain ⟨g2, ha2, _, hgl2⟩ := HG2.out (by omega)
      subst ha2
      have HP2 := hid (show PxAt v12 g2 (k * 18) (Px.dorm f.pr) from by have h4 := HO2.out.pr; rw [HV2.out, ← HL2.out] at h4; have h5 := OP.at h4 k (by rw [HL2.out]; exact HK.out); rw [HE2.out] at h5; exact h5)
      have FL9 := hid trivial
      have FL10 := hid trivial
      go_wp2_with (first
        | (have hfl := FL9.out
           refine wpList_new rfl 39 rfl _ Try.zeroPa ?_
           intro v13 b h z
           have TB := hid (show BoxAt v13 v12.heap.size 39 (PaV.cells PaV.zero).toArray from b)
           have CB := hid (CB.out.belowAll h)
           have PB := hid (PB.out.belowAll h)
           have QB := hid (QB.out.belowAll h)
           have XB := hid (XB.out.belowAll h)
           have FB := hid (FB.out.belowAll h)
           have HBa := hid (HBa.out.trans (h.mono (by omega)))
           have HBb := hid (HBb.out.trans (h.mono (by omega)))
           have HB := hid (HB.out.trans (h.mono HB.out.size))
           have hsv13 : v12.heap.size + 1 ≤ v13.heap.size := by omega
           clear kFB0
           have kFB0 : v13.cell? ⟨v9.heap.size, 0, none⟩ = some (.int .i64 f.pr) := (BoxAt.cell FB.out 0).trans rfl
           clear kFB2
           have kFB2 : v13.cell? ⟨v9.heap.size, 2, none⟩ = some (.int .i64 f.li) := (BoxAt.cell FB.out 2).trans rfl
           clear kFB3
           have kFB3 : v13.cell? ⟨v9.heap.size, 3, none⟩ = some (.int .i64 f.en) := (BoxAt.cell FB.out 3).trans rfl
           clear b h z hfl FL9)
        | (have hfl := FL10.out
           refine wpList_store_whole rfl 39 _ _ rfl rfl v12.heap.size rfl (PaV.cells qb) rfl _ _ TB.out rfl Try.infoPa (PaV.one _) ?_
           intro v14 b g z
           have hsv14 : v13.heap.size ≤ v14.heap.size := by omega
           have HBa := hid (HBa.out.trans (grown_below g (by omega) (by omega)))
           have HBb := hid (HBb.out.trans (grown_below g (by omega) (by omega)))
           have TB := hid (show BoxAt v14 v12.heap.size 39 (PaV.cells qb).toArray from b)
           have CB := hid (CB.out.grown g (fun e => by have := Option.some.inj e; omega))
           have PB := hid (PB.out.grown g (fun e => by have := Option.some.inj e; omega))
           have QB := hid (QB.out.grown g (fun e => by have := Option.some.inj e; omega))
           have XB := hid (XB.out.grown g (fun e => by have := Option.some.inj e; omega))
           have FB := hid (FB.out.grown g (fun e => by have := Option.some.inj e; omega))
           have HB := hid (HB.out.trans (grown_below g (by omega) (by omega)))
           clear kFB0
           have kFB0 : v14.cell? ⟨v9.heap.size, 0, none⟩ = some (.int .i64 f.pr) := (BoxAt.cell FB.out 0).trans rfl
           clear kFB2
           have kFB2 : v14.cell? ⟨v9.heap.size, 2, none⟩ = some (.int .i64 f.li) := (BoxAt.cell FB.out 2).trans rfl
           clear kFB3
           have kFB3 : v14.cell? ⟨v9.heap.size, 3, none⟩ = some (.int .i64 f.en) := (BoxAt.cell FB.out 3).trans rfl
           have kTB4 : v14.cell? ⟨v12.heap.size, 4, none⟩ = some (.slice (some ⟨g2, 0, none⟩) c.pr.length cp2) := (BoxAt.cell TB.out 4).trans (by show some qb.pr.val = _; rw [HV2.out])
           clear b g z hfl FL10)
        | fail)
      have TB := hid (BoxAt.drew TB.out)
      have FB := hid (BoxAt.drew FB.out)
      have HBb := hid (HBb.out.drew)
      have HB := hid HB.out.drew
      clear kTB4 kFB0 kFB2 kFB3
      have HPr := hid (HP2.out.below HBb.out (by omega))
      refine wp_region_held_drew (S := (fun W => W.cell? ⟨v12.heap.size, 4, none⟩ = some (.slice (some ⟨g2, 0, none⟩) c.pr.length cp2) ∧ W.cell? ⟨g2, k * 18, none⟩ = some (.int .i64 0) ∧ W.cell? ⟨g2, k * 18 + 1, none⟩ = some (.int .i64 f.pr) ∧ W.cell? ⟨g2, k * 18 + 12, none⟩ = some (.int .i64 (-1)) ∧ W.cell? ⟨v9.heap.size, 0, none⟩ = some (.int .i64 f.pr))) (by kernel_rfl) (⟨(BoxAt.cell TB.out 4).trans (by show some qb.pr.val = _; rw [HV2.out]), (HPr.out 0 (by decide)).trans rfl, (HPr.out 1 (by decide)).trans rfl, (HPr.out 12 (by decide)).trans rfl, (BoxAt.cell FB.out 0).trans rfl⟩) (fun hHeld => ?_)
      refine wpAnyH_take (i := 0) (oi := { dst := some 154, op := Op.move (Operand.tmp 17), type := 3, pos := "more.go:33", after := #[], guard := none }) (v := ?v2001) rfl (by kernel_rfl) (by kernel_rfl) (by kernel_rfl) (fun _ _ _ h => h) (Or.inl ⟨by rfl, ?hy2001⟩) (by assumption) ?rest2001
      case hy2001 => (intro w hSw; (try dsimp only at hSw); go_simp; try with_reducible rfl)
      simp only [Act.put, List.setIfInBounds_toArray, List.set_cons_zero, List.set_cons_succ]
      refine wpAnyH_take (i := 1) (oi := { dst := some 155, op := Op.binOp BinOp.eql 3 (Operand.tmp 154) (Operand.const (Value.int IntKind.i64 0)) 3, type := 4, pos := "more.go:33", after := #[{ on := 0, ground := Ground.data }], guard := none }) (v := ?v2002) rfl (by kernel_rfl) (by kernel_rfl) (by kernel_rfl) (fun _ _ _ h => h) (Or.inl ⟨by rfl, ?hy2002⟩) (by assumption) ?rest2002
      case hy2002 => (intro w hSw; (try dsimp only at hSw); go_simp; try with_reducible rfl)
      simp only [Act.put, List.setIfInBounds_toArray, List.set_cons_zero, List.set_cons_succ]
      refine wpAnyH_take (i := 2) (oi := { dst := some 156, op := Op.move (Operand.tmp 155), type := 4, pos := "more.go:33", after := #[{ on := 1, ground := Ground.data }], guard := none }) (v := ?v2003) rfl (by kernel_rfl) (by kernel_rfl) (by kernel_rfl) (fun _ _ _ h => h) (Or.inl ⟨by rfl, ?hy2003⟩) (by assumption) ?rest2003
      case hy2003 => (intro w hSw; (try dsimp only at hSw); go_simp; try with_reducible rfl)
      simp only [Act.put, List.setIfInBounds_toArray, List.set_cons_zero, List.set_cons_succ]
      refine wpAnyH_take (i := 3) (oi := { dst := some 157, op := Op.fieldAddr 39 (Operand.tmp 16) 4, type := 0, pos := "more.go:33", after := #[{ on := 2, ground := Ground.guard }], guard := some (2, true) }) (v := ?v2004) rfl (by kernel_rfl) (by kernel_rfl) (by kernel_rfl) (fun _ _ _ h => h) (Or.inl ⟨by rfl, ?hy2004⟩) (by assumption) ?rest2004
      case hy2004 => (intro w hSw; (try dsimp only at hSw); go_simp; try with_reducible rfl)
      simp only [Act.put, List.setIfInBounds_toArray, List.set_cons_zero, List.set_cons_succ]
      refine wpAnyH_take (i := 4) (oi := { dst := some 158, op := Op.load 29 (Operand.tmp 157), type := 29, pos := "more.go:33", after := #[{ on := 3, ground := Ground.data }, { on := 2, ground := Ground.guard }], guard := some (2, true) }) (v := ?v2005) rfl (by kernel_rfl) (by kernel_rfl) (by kernel_rfl) (fun _ _ _ h => h) (Or.inl ⟨by rfl, ?hy2005⟩) (by assumption) ?rest2005
      case hy2005 => (intro w hSw; (try dsimp only at hSw); go_simp; try with_reducible rfl)
      simp only [Act.put, List.setIfInBounds_toArray, List.set_cons_zero, List.set_cons_succ]
      refine wpAnyH_take (i := 5) (oi := { dst := some 159, op := Op.move (Operand.tmp 2), type := 3, pos := "more.go:33", after := #[{ on := 2, ground := Ground.guard }], guard := some (2, true) }) (v := ?v2006) rfl (by kernel_rfl) (by kernel_rfl) (by kernel_rfl) (fun _ _ _ h => h) (Or.inl ⟨by rfl, ?hy2006⟩) (by assumption) ?rest2006
      case hy2006 => (intro w hSw; (try dsimp only at hSw); go_simp; try with_reducible rfl)
      simp only [Act.put, List.setIfInBounds_toArray, List.set_cons_zero, List.set_cons_succ]
      refine wpAnyH_take (i := 6) (oi := { dst := some 160, op := Op.indexAddr 29 (Operand.tmp 158) (Operand.tmp 159), type := 0, pos := "more.go:33", after := #[{ on := 4, ground := Ground.data }, { on := 5, ground := Ground.data }, { on := 2, ground := Ground.guard }], guard := some (2, true) }) (v := ?v2007) rfl (by kernel_rfl) (by kernel_rfl) (by kernel_rfl) (fun _ _ _ h => h) (Or.inl ⟨by rfl, ?hy2007⟩) (by assumption) ?rest2007
      case hy2007 => (intro w hSw; (try dsimp only at hSw); go_simp; try with_reducible rfl)
      simp only [Act.put, List.setIfInBounds_toArray, List.set_cons_zero, List.set_cons_succ]
      refine wpAnyH_take (i := 7) (oi := { dst := some 161, op := Op.fieldAddr 58 (Operand.tmp 160) 0, type := 0, pos := "more.go:33", after := #[{ on := 6, ground := Ground.data }, { on := 2, ground := Ground.guard }], guard := some (2, true) }) (v := ?v2008) rfl (by kernel_rfl) (by kernel_rfl) (by kernel_rfl) (fun _ _ _ h => h) (Or.inl ⟨by rfl, ?hy2008⟩) (by assumption) ?rest2008
      case hy2008 => (intro w hSw; (try dsimp only at hSw); go_simp; try with_reducible rfl)
      simp only [Act.put, List.setIfInBounds_toArray, List.set_cons_zero, List.set_cons_succ]
      refine wpAnyH_take (i := 8) (oi := { dst := some 162, op := Op.load 3 (Operand.tmp 161), type := 3, pos := "more.go:33", after := #[{ on := 7, ground := Ground.data }, { on := 2, ground := Ground.guard }], guard := some (2, true) }) (v := ?v2009) rfl (by kernel_rfl) (by kernel_rfl) (by kernel_rfl) (fun _ _ _ h => h) (Or.inl ⟨by rfl, ?hy2009⟩) (by assumption) ?rest2009
      case hy2009 => (intro w hSw; (try dsimp only at hSw); go_simp; try with_reducible rfl)
      simp only [Act.put, List.setIfInBounds_toArray, List.set_cons_zero, List.set_cons_succ]
      refine wpAnyH_take (i := 9) (oi := { dst := some 163, op := Op.binOp BinOp.eql 3 (Operand.tmp 162) (Operand.const (Value.int IntKind.i64 0)) 3, type := 4, pos := "more.go:33", after := #[{ on := 8, ground := Ground.data }, { on := 2, ground := Ground.guard }], guard := some (2, true) }) (v := ?v2010) rfl (by kernel_rfl) (by kernel_rfl) (by kernel_rfl) (fun _ _ _ h => h) (Or.inl ⟨by rfl, ?hy2010⟩) (by assumption) ?rest2010
      case hy2010 => (intro w hSw; (try dsimp only at hSw); go_simp; try with_reducible rfl)
      simp only [Act.put, List.setIfInBounds_toArray, List.set_cons_zero, List.set_cons_succ]
      refine wpAnyH_take (i := 10) (oi := { dst := some 164, op := Op.pick (Operand.tmp 156) (Operand.tmp 163) (Operand.const (Value.bool false)), type := 4, pos := "more.go:33", after := #[{ on := 2, ground := Ground.data }, { on := 9, ground := Ground.data }], guard := none }) (v := ?v2011) rfl (by kernel_rfl) (by kernel_rfl) (by kernel_rfl) (fun _ _ _ h => h) (Or.inl ⟨by rfl, ?hy2011⟩) (by assumption) ?rest2011
      case hy2011 => (intro w hSw; (try dsimp only at hSw); go_simp; try with_reducible rfl)
      simp only [Act.put, List.setIfInBounds_toArray, List.set_cons_zero, List.set_cons_succ]
      refine wpAnyH_take (i := 11) (oi := { dst := some 165, op := Op.move (Operand.tmp 164), type := 4, pos := "more.go:33", after := #[{ on := 10, ground := Ground.data }, { on := 2, ground := Ground.chain }], guard := none }) (v := ?v2012) rfl (by kernel_rfl) (by kernel_rfl) (by kernel_rfl) (fun _ _ _ h => h) (Or.inl ⟨by rfl, ?hy2012⟩) (by assumption) ?rest2012
      case hy2012 => (intro w hSw; (try dsimp only at hSw); go_simp; try with_reducible rfl)
      simp only [Act.put, List.setIfInBounds_toArray, List.set_cons_zero, List.set_cons_succ]
      refine wpAnyH_take (i := 12) (oi := { dst := some 166, op := Op.fieldAddr 39 (Operand.tmp 16) 4, type := 0, pos := "more.go:33", after := #[{ on := 11, ground := Ground.guard }], guard := some (11, true) }) (v := ?v2013) rfl (by kernel_rfl) (by kernel_rfl) (by kernel_rfl) (fun _ _ _ h => h) (Or.inl ⟨by rfl, ?hy2013⟩) (by assumption) ?rest2013
      case hy2013 => (intro w hSw; (try dsimp only at hSw); go_simp; try with_reducible rfl)
      simp only [Act.put, List.setIfInBounds_toArray, List.set_cons_zero, List.set_cons_succ]
      refine wpAnyH_take (i := 13) (oi := { dst := some 167, op := Op.load 29 (Operand.tmp 166), type := 29, pos := "more.go:33", after := #[{ on := 12, ground := Ground.data }, { on := 11, ground := Ground.guard }], guard := some (11, true) }) (v := ?v2014) rfl (by kernel_rfl) (by kernel_rfl) (by kernel_rfl) (fun _ _ _ h => h) (Or.inl ⟨by rfl, ?hy2014⟩) (by assumption) ?rest2014
      case hy2014 => (intro w hSw; (try dsimp only at hSw); go_simp; try with_reducible rfl)
      simp only [Act.put, List.setIfInBounds_toArray, List.set_cons_zero, List.set_cons_succ]
      refine wpAnyH_take (i := 14) (oi := { dst := some 168, op := Op.move (Operand.tmp 2), type := 3, pos := "more.go:33", after := #[{ on := 11, ground := Ground.guard }], guard := some (11, true) }) (v := ?v2015) rfl (by kernel_rfl) (by kernel_rfl) (by kernel_rfl) (fun _ _ _ h => h) (Or.inl ⟨by rfl, ?hy2015⟩) (by assumption) ?rest2015
      case hy2015 => (intro w hSw; (try dsimp only at hSw); go_simp; try with_reducible rfl)
      simp only [Act.put, List.setIfInBounds_toArray, List.set_cons_zero, List.set_cons_succ]
      refine wpAnyH_take (i := 15) (oi := { dst := some 169, op := Op.indexAddr 29 (Operand.tmp 167) (Operand.tmp 168), type := 0, pos := "more.go:33", after := #[{ on := 13, ground := Ground.data }, { on := 14, ground := Ground.data }, { on := 11, ground := Ground.guard }], guard := some (11, true) }) (v := ?v2016) rfl (by kernel_rfl) (by kernel_rfl) (by kernel_rfl) (fun _ _ _ h => h) (Or.inl ⟨by rfl, ?hy2016⟩) (by assumption) ?rest2016
      case hy2016 => (intro w hSw; (try dsimp only at hSw); go_simp; try with_reducible rfl)
      simp only [Act.put, List.setIfInBounds_toArray, List.set_cons_zero, List.set_cons_succ]
      refine wpAnyH_take (i := 16) (oi := { dst := some 170, op := Op.fieldAddr 58 (Operand.tmp 169) 1, type := 0, pos := "more.go:33", after := #[{ on := 15, ground := Ground.data }, { on := 11, ground := Ground.guard }], guard := some (11, true) }) (v := ?v2017) rfl (by kernel_rfl) (by kernel_rfl) (by kernel_rfl) (fun _ _ _ h => h) (Or.inl ⟨by rfl, ?hy2017⟩) (by assumption) ?rest2017
      case hy2017 => (intro w hSw; (try dsimp only at hSw); go_simp; try with_reducible rfl)
      simp only [Act.put, List.setIfInBounds_toArray, List.set_cons_zero, List.set_cons_succ]
      refine wpAnyH_take (i := 17) (oi := { dst := some 171, op := Op.load 3 (Operand.tmp 170), type := 3, pos := "more.go:33", after := #[{ on := 16, ground := Ground.data }, { on := 11, ground := Ground.guard }], guard := some (11, true) }) (v := ?v2018) rfl (by kernel_rfl) (by kernel_rfl) (by kernel_rfl) (fun _ _ _ h => h) (Or.inl ⟨by rfl, ?hy2018⟩) (by assumption) ?rest2018
      case hy2018 => (intro w hSw; (try dsimp only at hSw); go_simp; try with_reducible rfl)
      simp only [Act.put, List.setIfInBounds_toArray, List.set_cons_zero, List.set_cons_succ]
      refine wpAnyH_take (i := 18) (oi := { dst := some 172, op := Op.fieldAddr 65 (Operand.tmp 15) 0, type := 0, pos := "more.go:33", after := #[{ on := 11, ground := Ground.guard }], guard := some (11, true) }) (v := ?v2019) rfl (by kernel_rfl) (by kernel_rfl) (by kernel_rfl) (fun _ _ _ h => h) (Or.inl ⟨by rfl, ?hy2019⟩) (by assumption) ?rest2019
      case hy2019 => (intro w hSw; (try dsimp only at hSw); go_simp; try with_reducible rfl)
      simp only [Act.put, List.setIfInBounds_toArray, List.set_cons_zero, List.set_cons_succ]
      refine wpAnyH_take (i := 19) (oi := { dst := some 173, op := Op.load 3 (Operand.tmp 172), type := 3, pos := "more.go:33", after := #[{ on := 18, ground := Ground.data }, { on := 11, ground := Ground.guard }], guard := some (11, true) }) (v := ?v2020) rfl (by kernel_rfl) (by kernel_rfl) (by kernel_rfl) (fun _ _ _ h => h) (Or.inl ⟨by rfl, ?hy2020⟩) (by assumption) ?rest2020
      case hy2020 => (intro w hSw; (try dsimp only at hSw); go_simp; try with_reducible rfl)
      simp only [Act.put, List.setIfInBounds_toArray, List.set_cons_zero, List.set_cons_succ]
      refine wpAnyH_take (i := 20) (oi := { dst := some 174, op := Op.binOp BinOp.eql 3 (Operand.tmp 171) (Operand.tmp 173) 3, type := 4, pos := "more.go:33", after := #[{ on := 17, ground := Ground.data }, { on := 19, ground := Ground.data }, { on := 11, ground := Ground.guard }], guard := some (11, true) }) (v := ?v2021) rfl (by kernel_rfl) (by kernel_rfl) (by kernel_rfl) (fun _ _ _ h => h) (Or.inl ⟨by rfl, ?hy2021⟩) (by assumption) ?rest2021
      case hy2021 => (intro w hSw; (try dsimp only at hSw); go_simp; try with_reducible rfl)
      simp only [Act.put, List.setIfInBounds_toArray, List.set_cons_zero, List.set_cons_succ]
      refine wpAnyH_take (i := 21) (oi := { dst := some 175, op := Op.pick (Operand.tmp 165) (Operand.tmp 174) (Operand.const (Value.bool false)), type := 4, pos := "more.go:33", after := #[{ on := 11, ground := Ground.data }, { on := 20, ground := Ground.data }], guard := none }) (v := ?v2022) rfl (by kernel_rfl) (by kernel_rfl) (by kernel_rfl) (fun _ _ _ h => h) (Or.inl ⟨by rfl, ?hy2022⟩) (by assumption) ?rest2022
      case hy2022 => (intro w hSw; (try dsimp only at hSw); go_simp; try with_reducible rfl)
      simp only [Act.put, List.setIfInBounds_toArray, List.set_cons_zero, List.set_cons_succ]
      refine wpAnyH_take (i := 22) (oi := { dst := some 176, op := Op.move (Operand.tmp 175), type := 4, pos := "more.go:33", after := #[{ on := 21, ground := Ground.data }, { on := 11, ground := Ground.chain }], guard := none }) (v := ?v2023) rfl (by kernel_rfl) (by kernel_rfl) (by kernel_rfl) (fun _ _ _ h => h) (Or.inl ⟨by rfl, ?hy2023⟩) (by assumption) ?rest2023
      case hy2023 => (intro w hSw; (try dsimp only at hSw); go_simp; try with_reducible rfl)
      simp only [Act.put, List.setIfInBounds_toArray, List.set_cons_zero, List.set_cons_succ]
      refine wpAnyH_take (i := 23) (oi := { dst := some 177, op := Op.fieldAddr 39 (Operand.tmp 16) 4, type := 0, pos := "more.go:33", after := #[{ on := 22, ground := Ground.guard }], guard := some (22, true) }) (v := ?v2024) rfl (by kernel_rfl) (by kernel_rfl) (by kernel_rfl) (fun _ _ _ h => h) (Or.inl ⟨by rfl, ?hy2024⟩) (by assumption) ?rest2024
      case hy2024 => (intro w hSw; (try dsimp only at hSw); go_simp; try with_reducible rfl)
      simp only [Act.put, List.setIfInBounds_toArray, List.set_cons_zero, List.set_cons_succ]
      refine wpAnyH_take (i := 24) (oi := { dst := some 178, op := Op.load 29 (Operand.tmp 177), type := 29, pos := "more.go:33", after := #[{ on := 23, ground := Ground.data }, { on := 22, ground := Ground.guard }], guard := some (22, true) }) (v := ?v2025) rfl (by kernel_rfl) (by kernel_rfl) (by kernel_rfl) (fun _ _ _ h => h) (Or.inl ⟨by rfl, ?hy2025⟩) (by assumption) ?rest2025
      case hy2025 => (intro w hSw; (try dsimp only at hSw); go_simp; try with_reducible rfl)
      simp only [Act.put, List.setIfInBounds_toArray, List.set_cons_zero, List.set_cons_succ]
      refine wpAnyH_take (i := 25) (oi := { dst := some 179, op := Op.move (Operand.tmp 2), type := 3, pos := "more.go:33", after := #[{ on := 22, ground := Ground.guard }], guard := some (22, true) }) (v := ?v2026) rfl (by kernel_rfl) (by kernel_rfl) (by kernel_rfl) (fun _ _ _ h => h) (Or.inl ⟨by rfl, ?hy2026⟩) (by assumption) ?rest2026
      case hy2026 => (intro w hSw; (try dsimp only at hSw); go_simp; try with_reducible rfl)
      simp only [Act.put, List.setIfInBounds_toArray, List.set_cons_zero, List.set_cons_succ]
      refine wpAnyH_take (i := 26) (oi := { dst := some 180, op := Op.indexAddr 29 (Operand.tmp 178) (Operand.tmp 179), type := 0, pos := "more.go:33", after := #[{ on := 24, ground := Ground.data }, { on := 25, ground := Ground.data }, { on := 22, ground := Ground.guard }], guard := some (22, true) }) (v := ?v2027) rfl (by kernel_rfl) (by kernel_rfl) (by kernel_rfl) (fun _ _ _ h => h) (Or.inl ⟨by rfl, ?hy2027⟩) (by assumption) ?rest2027
      case hy2027 => (intro w hSw; (try dsimp only at hSw); go_simp; try with_reducible rfl)
      simp only [Act.put, List.setIfInBounds_toArray, List.set_cons_zero, List.set_cons_succ]
      refine wpAnyH_take (i := 27) (oi := { dst := some 181, op := Op.fieldAddr 58 (Operand.tmp 180) 8, type := 0, pos := "more.go:33", after := #[{ on := 26, ground := Ground.data }, { on := 22, ground := Ground.guard }], guard := some (22, true) }) (v := ?v2028) rfl (by kernel_rfl) (by kernel_rfl) (by kernel_rfl) (fun _ _ _ h => h) (Or.inl ⟨by rfl, ?hy2028⟩) (by assumption) ?rest2028
      case hy2028 => (intro w hSw; (try dsimp only at hSw); go_simp; try with_reducible rfl)
      simp only [Act.put, List.setIfInBounds_toArray, List.set_cons_zero, List.set_cons_succ]
      refine wpAnyH_take (i := 28) (oi := { dst := some 182, op := Op.load 3 (Operand.tmp 181), type := 3, pos := "more.go:33", after := #[{ on := 27, ground := Ground.data }, { on := 22, ground := Ground.guard }], guard := some (22, true) }) (v := ?v2029) rfl (by kernel_rfl) (by kernel_rfl) (by kernel_rfl) (fun _ _ _ h => h) (Or.inl ⟨by rfl, ?hy2029⟩) (by assumption) ?rest2029
      case hy2029 => (intro w hSw; (try dsimp only at hSw); go_simp; try with_reducible rfl)
      simp only [Act.put, List.setIfInBounds_toArray, List.set_cons_zero, List.set_cons_succ]
      refine wpAnyH_take (i := 29) (oi := { dst := some 183, op := Op.binOp BinOp.eql 3 (Operand.tmp 182) (Operand.const (Value.int IntKind.i64 (-1))) 3, type := 4, pos := "more.go:33", after := #[{ on := 28, ground := Ground.data }, { on := 22, ground := Ground.guard }], guard := some (22, true) }) (v := ?v2030) rfl (by kernel_rfl) (by kernel_rfl) (by kernel_rfl) (fun _ _ _ h => h) (Or.inl ⟨by rfl, ?hy2030⟩) (by assumption) ?rest2030
      case hy2030 => (intro w hSw; (try dsimp only at hSw); go_simp; try with_reducible rfl)
      simp only [Act.put, List.setIfInBounds_toArray, List.set_cons_zero, List.set_cons_succ]
      refine wpAnyH_take (i := 30) (oi := { dst := some 184, op := Op.pick (Operand.tmp 176) (Operand.tmp 183) (Operand.const (Value.bool false)), type := 4, pos := "more.go:33", after := #[{ on := 22, ground := Ground.data }, { on := 29, ground := Ground.data }], guard := none }) (v := ?v2031) rfl (by kernel_rfl) (by kernel_rfl) (by kernel_rfl) (fun _ _ _ h => h) (Or.inl ⟨by rfl, ?hy2031⟩) (by assumption) ?rest2031
      case hy2031 => (intro w hSw; (try dsimp only at hSw); go_simp; try with_reducible rfl)
      simp only [Act.put, List.setIfInBounds_toArray, List.set_cons_zero, List.set_cons_succ]
      refine wpAnyH_take (i := 31) (oi := { dst := some 8, op := Op.assign (Operand.tmp 184), type := 4, pos := "more.go:33", after := #[{ on := 30, ground := Ground.data }, { on := 22, ground := Ground.chain }, { on := 0, ground := Ground.phase }, { on := 1, ground := Ground.phase }, { on := 2, ground := Ground.phase }, { on := 3, ground := Ground.phase }, { on := 4, ground := Ground.phase }, { on := 5, ground := Ground.phase }, { on := 6, ground := Ground.phase }, { on := 7, ground := Ground.phase }, { on := 8, ground := Ground.phase }, { on := 9, ground := Ground.phase }, { on := 10, ground := Ground.phase }, { on := 11, ground := Ground.phase }, { on := 12, ground := Ground.phase }, { on := 13, ground := Ground.phase }, { on := 14, ground := Ground.phase }, { on := 15, ground := Ground.phase }, { on := 16, ground := Ground.phase }, { on := 17, ground := Ground.phase }, { on := 18, ground := Ground.phase }, { on := 19, ground := Ground.phase }, { on := 20, ground := Ground.phase }, { on := 21, ground := Ground.phase }, { on := 22, ground := Ground.phase }, { on := 23, ground := Ground.phase }, { on := 24, ground := Ground.phase }, { on := 25, ground := Ground.phase }, { on := 26, ground := Ground.phase }, { on := 27, ground := Ground.phase }, { on := 28, ground := Ground.phase }, { on := 29, ground := Ground.phase }, { on := 30, ground := Ground.phase }], guard := none }) (v := ?v2032) rfl (by kernel_rfl) (by kernel_rfl) (by kernel_rfl) (fun _ _ _ h => h) (Or.inl ⟨by rfl, ?hy2032⟩) (by assumption) ?rest2032
      case hy2032 => (intro w hSw; (try dsimp only at hSw); go_simp; try with_reducible rfl)
      simp only [Act.put, List.setIfInBounds_toArray, List.set_cons_zero, List.set_cons_succ]
      refine wpAnyH_done (by kernel_rfl) ?_ _
      clear hHeld
      go_wp2_with fail
      go_ret
      exact ⟨rfl, HB.out⟩
    · have tli : decide (0 < f.li) = false := decide_eq_false hli
      have tlj : decide (f.li ≤ 0) = true := decide_eq_true (by omega)
      have HLi := hid hli
      obtain ⟨du, hdu⟩ : ∃ d, y1.du = d := ⟨_, rfl⟩
      have tdu : (du != -1) = false := by rw [show du = -1 from by rw [← hdu, ← HY1.out]; exact if_neg hli]; exact bne_self_eq_false _
      have HDu := hid hdu
      clear hdu
      clear hli
      clear kCB2
      have kCB2 : v5.cell? ⟨w.heap.size, 2, none⟩ = some (.slice (some ⟨b2, of2, none⟩) cc.pc.length cpc) := (BoxAt.cell CB.out 2).trans (by show some qc.v2.val = _; rw [HCv.out])
      have kPB2 : v5.cell? ⟨v1.heap.size, 2, none⟩ = some (.int .i64 c.nx) := (BoxAt.cell PB.out 2).trans (by show some (Value.int .i64 q.nx) = _; rw [HNx.out])
      have FL11 := hid trivial
      have FL12 := hid trivial
      have FL13 := hid trivial
      have FL14 := hid trivial
      have FL15 := hid trivial
      have FL16 := hid trivial
      go_wp2_with (first
        | (have hfl := FL11.out
           refine wpList_new rfl 39 rfl _ Try.zeroPa ?_
           intro v15 b h z
           have QB := hid (show BoxAt v15 v5.heap.size 39 (PaV.cells PaV.zero).toArray from b)
           have CB := hid (CB.out.belowAll h)
           have PB := hid (PB.out.belowAll h)
           have HBa := hid (HBa.out.trans (h.mono (by omega)))
           have HB := hid (HB.out.trans (h.mono HB.out.size))
           have hsv15 : v5.heap.size + 1 ≤ v15.heap.size := by omega
           clear kCB2
           have kCB2 : v15.cell? ⟨w.heap.size, 2, none⟩ = some (.slice (some ⟨b2, of2, none⟩) cc.pc.length cpc) := (BoxAt.cell CB.out 2).trans (by show some qc.v2.val = _; rw [HCv.out])
           clear kPB2
           have kPB2 : v15.cell? ⟨v1.heap.size, 2, none⟩ = some (.int .i64 c.nx) := (BoxAt.cell PB.out 2).trans (by show some (Value.int .i64 q.nx) = _; rw [HNx.out])
           clear b h z hfl FL11)
        | (have hfl := FL12.out
           refine wpList_store_whole rfl 39 _ _ rfl rfl v5.heap.size rfl (PaV.cells qa) rfl _ _ QB.out rfl Try.infoPa (PaV.one _) ?_
           intro v16 b g z
           have hsv16 : v15.heap.size ≤ v16.heap.size := by omega
           have HBa := hid (HBa.out.trans (grown_below g (by omega) (by omega)))
           have QB := hid (show BoxAt v16 v5.heap.size 39 (PaV.cells qa).toArray from b)
           have CB := hid (CB.out.grown g (fun e => by have := Option.some.inj e; omega))
           have PB := hid (PB.out.grown g (fun e => by have := Option.some.inj e; omega))
           have HB := hid (HB.out.trans (grown_below g (by omega) (by omega)))
           clear kCB2
           have kCB2 : v16.cell? ⟨w.heap.size, 2, none⟩ = some (.slice (some ⟨b2, of2, none⟩) cc.pc.length cpc) := (BoxAt.cell CB.out 2).trans (by show some qc.v2.val = _; rw [HCv.out])
           clear kPB2
           have kPB2 : v16.cell? ⟨v1.heap.size, 2, none⟩ = some (.int .i64 c.nx) := (BoxAt.cell PB.out 2).trans (by show some (Value.int .i64 q.nx) = _; rw [HNx.out])
           have kQB4 : v16.cell? ⟨v5.heap.size, 4, none⟩ = some (.slice (some ⟨g1, 0, none⟩) c.pr.length cp1) := (BoxAt.cell QB.out 4).trans (by show some qa.pr.val = _; rw [HV1.out])
           have kQB2 : v16.cell? ⟨v5.heap.size, 2, none⟩ = some (.int .i64 (wrap64 (c.nx + 1))) := (BoxAt.cell QB.out 2).trans (by show some (Value.int .i64 qa.nx) = _; rw [show qa.nx = C1.nx from HO1.out.nx, HN1.out])
           clear b g z hfl FL12)
        | (refine wpList_load_px rfl _ rfl g1 (k * 18) rfl y1 (HP1.out.below HBa.out (by omega)) ?_)
        | (have hfl := FL13.out
           refine wpList_new rfl 58 rfl _ Try.zeroPx ?_
           intro v17 b h z
           have XB := hid (show BoxAt v17 v16.heap.size 58 (Px.cells Px.zero).toArray from b)
           have CB := hid (CB.out.belowAll h)
           have PB := hid (PB.out.belowAll h)
           have QB := hid (QB.out.belowAll h)
           have HBa := hid (HBa.out.trans (h.mono (by omega)))
           have HB := hid (HB.out.trans (h.mono HB.out.size))
           have hsv17 : v16.heap.size + 1 ≤ v17.heap.size := by omega
           clear kCB2
           have kCB2 : v17.cell? ⟨w.heap.size, 2, none⟩ = some (.slice (some ⟨b2, of2, none⟩) cc.pc.length cpc) := (BoxAt.cell CB.out 2).trans (by show some qc.v2.val = _; rw [HCv.out])
           clear kPB2
           have kPB2 : v17.cell? ⟨v1.heap.size, 2, none⟩ = some (.int .i64 c.nx) := (BoxAt.cell PB.out 2).trans (by show some (Value.int .i64 q.nx) = _; rw [HNx.out])
           clear kQB4
           have kQB4 : v17.cell? ⟨v5.heap.size, 4, none⟩ = some (.slice (some ⟨g1, 0, none⟩) c.pr.length cp1) := (BoxAt.cell QB.out 4).trans (by show some qa.pr.val = _; rw [HV1.out])
           clear kQB2
           have kQB2 : v17.cell? ⟨v5.heap.size, 2, none⟩ = some (.int .i64 (wrap64 (c.nx + 1))) := (BoxAt.cell QB.out 2).trans (by show some (Value.int .i64 qa.nx) = _; rw [show qa.nx = C1.nx from HO1.out.nx, HN1.out])
           clear b h z hfl FL13)
        | (have hfl := FL14.out
           refine wpList_store_whole rfl 58 _ _ rfl rfl v16.heap.size rfl (Px.cells y1) rfl _ _ XB.out rfl Try.infoPx (Px.one _) ?_
           intro v18 b g z
           have hsv18 : v17.heap.size ≤ v18.heap.size := by omega
           have HBa := hid (HBa.out.trans (grown_below g (by omega) (by omega)))
           have XB := hid (show BoxAt v18 v16.heap.size 58 (Px.cells y1).toArray from b)
           have CB := hid (CB.out.grown g (fun e => by have := Option.some.inj e; omega))
           have PB := hid (PB.out.grown g (fun e => by have := Option.some.inj e; omega))
           have QB := hid (QB.out.grown g (fun e => by have := Option.some.inj e; omega))
           have HB := hid (HB.out.trans (grown_below g (by omega) (by omega)))
           clear kCB2
           have kCB2 : v18.cell? ⟨w.heap.size, 2, none⟩ = some (.slice (some ⟨b2, of2, none⟩) cc.pc.length cpc) := (BoxAt.cell CB.out 2).trans (by show some qc.v2.val = _; rw [HCv.out])
           clear kPB2
           have kPB2 : v18.cell? ⟨v1.heap.size, 2, none⟩ = some (.int .i64 c.nx) := (BoxAt.cell PB.out 2).trans (by show some (Value.int .i64 q.nx) = _; rw [HNx.out])
           clear kQB4
           have kQB4 : v18.cell? ⟨v5.heap.size, 4, none⟩ = some (.slice (some ⟨g1, 0, none⟩) c.pr.length cp1) := (BoxAt.cell QB.out 4).trans (by show some qa.pr.val = _; rw [HV1.out])
           clear kQB2
           have kQB2 : v18.cell? ⟨v5.heap.size, 2, none⟩ = some (.int .i64 (wrap64 (c.nx + 1))) := (BoxAt.cell QB.out 2).trans (by show some (Value.int .i64 qa.nx) = _; rw [show qa.nx = C1.nx from HO1.out.nx, HN1.out])
           have kXB0 : v18.cell? ⟨v16.heap.size, 0, none⟩ = some (.int .i64 1) := (BoxAt.cell XB.out 0).trans (by rw [← HY1.out]; rfl)
           have kXB2 : v18.cell? ⟨v16.heap.size, 2, none⟩ = some (.bool false) := (BoxAt.cell XB.out 2).trans (by rw [← HY1.out]; rfl)
           have kXB1 : v18.cell? ⟨v16.heap.size, 1, none⟩ = some (.int .i64 f.pr) := (BoxAt.cell XB.out 1).trans (by rw [← HY1.out]; rfl)
           have kXB3 : v18.cell? ⟨v16.heap.size, 3, none⟩ = some (.int .i64 f.en) := (BoxAt.cell XB.out 3).trans (by rw [← HY1.out]; rfl)
           have kXB8 : v18.cell? ⟨v16.heap.size, 8, none⟩ = some (.int .i64 c.nx) := (BoxAt.cell XB.out 8).trans (by rw [← HY1.out]; rfl)
           have kXB12 : v18.cell? ⟨v16.heap.size, 12, none⟩ = some (.int .i64 du) := (BoxAt.cell XB.out 12).trans (by show some (Value.int .i64 y1.du) = _; rw [HDu.out])
           clear b g z hfl FL14)
        | (refine wpList_load_mid rfl 65 _ rfl b2 (of2 + k * 5) rfl f.cells _ (range_of f.cells (fun j hj => (HB.out.cell (by exact hbw2)).trans (HF0.out j hj))) Try.underlying65 rfl Try.infoPc ?_)
        | (have hfl := FL15.out
           refine wpList_new rfl 65 rfl _ Try.zeroPc ?_
           intro v19 b h z
           have FB := hid (show BoxAt v19 v18.heap.size 65 (Pc.cells Pc.zero).toArray from b)
           have CB := hid (CB.out.belowAll h)
           have PB := hid (PB.out.belowAll h)
           have QB := hid (QB.out.belowAll h)
           have XB := hid (XB.out.belowAll h)
           have HBa := hid (HBa.out.trans (h.mono (by omega)))
           have HB := hid (HB.out.trans (h.mono HB.out.size))
           have hsv19 : v18.heap.size + 1 ≤ v19.heap.size := by omega
           clear kCB2
           have kCB2 : v19.cell? ⟨w.heap.size, 2, none⟩ = some (.slice (some ⟨b2, of2, none⟩) cc.pc.length cpc) := (BoxAt.cell CB.out 2).trans (by show some qc.v2.val = _; rw [HCv.out])
           clear kPB2
           have kPB2 : v19.cell? ⟨v1.heap.size, 2, none⟩ = some (.int .i64 c.nx) := (BoxAt.cell PB.out 2).trans (by show some (Value.int .i64 q.nx) = _; rw [HNx.out])
           clear kQB4
           have kQB4 : v19.cell? ⟨v5.heap.size, 4, none⟩ = some (.slice (some ⟨g1, 0, none⟩) c.pr.length cp1) := (BoxAt.cell QB.out 4).trans (by show some qa.pr.val = _; rw [HV1.out])
           clear kQB2
           have kQB2 : v19.cell? ⟨v5.heap.size, 2, none⟩ = some (.int .i64 (wrap64 (c.nx + 1))) := (BoxAt.cell QB.out 2).trans (by show some (Value.int .i64 qa.nx) = _; rw [show qa.nx = C1.nx from HO1.out.nx, HN1.out])
           clear kXB0
           have kXB0 : v19.cell? ⟨v16.heap.size, 0, none⟩ = some (.int .i64 1) := (BoxAt.cell XB.out 0).trans (by rw [← HY1.out]; rfl)
           clear kXB2
           have kXB2 : v19.cell? ⟨v16.heap.size, 2, none⟩ = some (.bool false) := (BoxAt.cell XB.out 2).trans (by rw [← HY1.out]; rfl)
           clear kXB1
           have kXB1 : v19.cell? ⟨v16.heap.size, 1, none⟩ = some (.int .i64 f.pr) := (BoxAt.cell XB.out 1).trans (by rw [← HY1.out]; rfl)
           clear kXB3
           have kXB3 : v19.cell? ⟨v16.heap.size, 3, none⟩ = some (.int .i64 f.en) := (BoxAt.cell XB.out 3).trans (by rw [← HY1.out]; rfl)
           clear kXB8
           have kXB8 : v19.cell? ⟨v16.heap.size, 8, none⟩ = some (.int .i64 c.nx) := (BoxAt.cell XB.out 8).trans (by rw [← HY1.out]; rfl)
           clear kXB12
           have kXB12 : v19.cell? ⟨v16.heap.size, 12, none⟩ = some (.int .i64 du) := (BoxAt.cell XB.out 12).trans (by show some (Value.int .i64 y1.du) = _; rw [HDu.out])
           clear b h z hfl FL15)
        | (have hfl := FL16.out
           refine wpList_store_whole rfl 65 _ _ rfl rfl v18.heap.size rfl (Pc.cells f) rfl _ _ FB.out rfl Try.infoPc (Pc.one _) ?_
           intro v20 b g z
           have hsv20 : v19.heap.size ≤ v20.heap.size := by omega
           have HBa := hid (HBa.out.trans (grown_below g (by omega) (by omega)))
           have FB := hid (show BoxAt v20 v18.heap.size 65 (Pc.cells f).toArray from b)
           have CB := hid (CB.out.grown g (fun e => by have := Option.some.inj e; omega))
           have PB := hid (PB.out.grown g (fun e => by have := Option.some.inj e; omega))
           have QB := hid (QB.out.grown g (fun e => by have := Option.some.inj e; omega))
           have XB := hid (XB.out.grown g (fun e => by have := Option.some.inj e; omega))
           have HB := hid (HB.out.trans (grown_below g (by omega) (by omega)))
           clear kCB2
           have kCB2 : v20.cell? ⟨w.heap.size, 2, none⟩ = some (.slice (some ⟨b2, of2, none⟩) cc.pc.length cpc) := (BoxAt.cell CB.out 2).trans (by show some qc.v2.val = _; rw [HCv.out])
           clear kPB2
           have kPB2 : v20.cell? ⟨v1.heap.size, 2, none⟩ = some (.int .i64 c.nx) := (BoxAt.cell PB.out 2).trans (by show some (Value.int .i64 q.nx) = _; rw [HNx.out])
           clear kQB4
           have kQB4 : v20.cell? ⟨v5.heap.size, 4, none⟩ = some (.slice (some ⟨g1, 0, none⟩) c.pr.length cp1) := (BoxAt.cell QB.out 4).trans (by show some qa.pr.val = _; rw [HV1.out])
           clear kQB2
           have kQB2 : v20.cell? ⟨v5.heap.size, 2, none⟩ = some (.int .i64 (wrap64 (c.nx + 1))) := (BoxAt.cell QB.out 2).trans (by show some (Value.int .i64 qa.nx) = _; rw [show qa.nx = C1.nx from HO1.out.nx, HN1.out])
           clear kXB0
           have kXB0 : v20.cell? ⟨v16.heap.size, 0, none⟩ = some (.int .i64 1) := (BoxAt.cell XB.out 0).trans (by rw [← HY1.out]; rfl)
           clear kXB2
           have kXB2 : v20.cell? ⟨v16.heap.size, 2, none⟩ = some (.bool false) := (BoxAt.cell XB.out 2).trans (by rw [← HY1.out]; rfl)
           clear kXB1
           have kXB1 : v20.cell? ⟨v16.heap.size, 1, none⟩ = some (.int .i64 f.pr) := (BoxAt.cell XB.out 1).trans (by rw [← HY1.out]; rfl)
           clear kXB3
           have kXB3 : v20.cell? ⟨v16.heap.size, 3, none⟩ = some (.int .i64 f.en) := (BoxAt.cell XB.out 3).trans (by rw [← HY1.out]; rfl)
           clear kXB8
           have kXB8 : v20.cell? ⟨v16.heap.size, 8, none⟩ = some (.int .i64 c.nx) := (BoxAt.cell XB.out 8).trans (by rw [← HY1.out]; rfl)
           clear kXB12
           have kXB12 : v20.cell? ⟨v16.heap.size, 12, none⟩ = some (.int .i64 du) := (BoxAt.cell XB.out 12).trans (by show some (Value.int .i64 y1.du) = _; rw [HDu.out])
           have kFB0 : v20.cell? ⟨v18.heap.size, 0, none⟩ = some (.int .i64 f.pr) := (BoxAt.cell FB.out 0).trans rfl
           have kFB2 : v20.cell? ⟨v18.heap.size, 2, none⟩ = some (.int .i64 f.li) := (BoxAt.cell FB.out 2).trans rfl
           have kFB3 : v20.cell? ⟨v18.heap.size, 3, none⟩ = some (.int .i64 f.en) := (BoxAt.cell FB.out 3).trans rfl
           clear b g z hfl FL16
           refine Hid.out ?_)
        | fail)
      refine hid ?_
      go_wp2_with (first
        | (with_reducible refine wpList_dst 144 rfl ?_
           refine wpList_load_box rfl 39 _ rfl v5.heap.size rfl _ _ QB.out _ Try.underlying39 Try.infoPa ?_)
        | fail)
      obtain ⟨⟨C2, ke⟩, hD2⟩ : ∃ D, stopP C1 (k : Int) = D := ⟨_, rfl⟩
      have hsd := stop_does (c := C1) (k := k) (by rw [HL1.out]; exact HK.out) (by rw [HE1.out, ← HY1.out]; show ¬ ((1 : Int) = 0); decide)
      rw [hD2] at hsd
      obtain ⟨hke, hpr2⟩ := hsd
      simp only at hke hpr2
      subst hke
      have HL2 := hid (show C2.pr.length = c.pr.length by rw [hpr2, List.length_set, HL1.out])
      have HE2 := hid (show C2.pr.getD k Px.zero = Px.dorm f.pr from by rw [hpr2, getD_set_self (by rw [HL1.out]; exact HK.out), HE1.out, ← HY1.out]; rfl)
      have HD2 := hid hD2
      clear hD2 hpr2
      refine (stop_api (i := (k : Int)) (HO1.out.below HBa.out).sees HS1.out).mono ?_
      rintro e v21 ⟨qb, rfl, ho, hb⟩
      have CB := hid (CB.out.belowAll hb)
      have PB := hid (PB.out.belowAll hb)
      have QB := hid (QB.out.belowAll hb)
      have XB := hid (XB.out.belowAll hb)
      have FB := hid (FB.out.belowAll hb)
      have HBa := hid (HBa.out.trans (hb.mono (by omega)))
      have HB := hid (HB.out.trans (hb.mono HB.out.size))
      have hsv21 : v20.heap.size ≤ v21.heap.size := hb.size
      rw [HD2.out] at ho ⊢
      have HO2 := hid ho
      obtain ⟨a2, cp2, hv, hm0, hm1, hg⟩ := row_form ho.pr
      rw [HL2.out] at hv hm0 hg
      have HV2 := hid hv
      have HG2 := hid hg
      have hcl2 : c.pr.length ≤ cp2 := hm0
      have hcm2 : cp2 ≤ 9223372036854775807 := hm1
      clear ho hv hm0 hm1 hg
      clear kFB0
      have kFB0 : v21.cell? ⟨v18.heap.size, 0, none⟩ = some (.int .i64 f.pr) := (BoxAt.cell FB.out 0).trans rfl
      clear kFB2
      have kFB2 : v21.cell? ⟨v18.heap.size, 2, none⟩ = some (.int .i64 f.li) := (BoxAt.cell FB.out 2).trans rfl
      clear kFB3
      have kFB3 : v21.cell? ⟨v18.heap.size, 3, none⟩ = some (.int .i64 f.en) := (BoxAt.cell FB.out 3).trans rfl
      clear hb
      have HBb := hid (Below.refl v21.heap.size v21)
      obtain ⟨g2, ha2, _, hgl2⟩ := HG2.out (by omega)
      subst ha2
      have HP2 := hid (show PxAt v21 g2 (k * 18) (Px.dorm f.pr) from by have h4 := HO2.out.pr; rw [HV2.out, ← HL2.out] at h4; have h5 := OP.at h4 k (by rw [HL2.out]; exact HK.out); rw [HE2.out] at h5; exact h5)
      have FL17 := hid trivial
      have FL18 := hid trivial
      go_wp2_with (first
        | (have hfl := FL17.out
           refine wpList_new rfl 39 rfl _ Try.zeroPa ?_
           intro v22 b h z
           have TB := hid (show BoxAt v22 v21.heap.size 39 (PaV.cells PaV.zero).toArray from b)
           have CB := hid (CB.out.belowAll h)
           have PB := hid (PB.out.belowAll h)
           have QB := hid (QB.out.belowAll h)
           have XB := hid (XB.out.belowAll h)
           have FB := hid (FB.out.belowAll h)
           have HBa := hid (HBa.out.trans (h.mono (by omega)))
           have HBb := hid (HBb.out.trans (h.mono (by omega)))
           have HB := hid (HB.out.trans (h.mono HB.out.size))
           have hsv22 : v21.heap.size + 1 ≤ v22.heap.size := by omega
           clear kFB0
           have kFB0 : v22.cell? ⟨v18.heap.size, 0, none⟩ = some (.int .i64 f.pr) := (BoxAt.cell FB.out 0).trans rfl
           clear kFB2
           have kFB2 : v22.cell? ⟨v18.heap.size, 2, none⟩ = some (.int .i64 f.li) := (BoxAt.cell FB.out 2).trans rfl
           clear kFB3
           have kFB3 : v22.cell? ⟨v18.heap.size, 3, none⟩ = some (.int .i64 f.en) := (BoxAt.cell FB.out 3).trans rfl
           clear b h z hfl FL17)
        | (have hfl := FL18.out
           refine wpList_store_whole rfl 39 _ _ rfl rfl v21.heap.size rfl (PaV.cells qb) rfl _ _ TB.out rfl Try.infoPa (PaV.one _) ?_
           intro v23 b g z
           have hsv23 : v22.heap.size ≤ v23.heap.size := by omega
           have HBa := hid (HBa.out.trans (grown_below g (by omega) (by omega)))
           have HBb := hid (HBb.out.trans (grown_below g (by omega) (by omega)))
           have TB := hid (show BoxAt v23 v21.heap.size 39 (PaV.cells qb).toArray from b)
           have CB := hid (CB.out.grown g (fun e => by have := Option.some.inj e; omega))
           have PB := hid (PB.out.grown g (fun e => by have := Option.some.inj e; omega))
           have QB := hid (QB.out.grown g (fun e => by have := Option.some.inj e; omega))
           have XB := hid (XB.out.grown g (fun e => by have := Option.some.inj e; omega))
           have FB := hid (FB.out.grown g (fun e => by have := Option.some.inj e; omega))
           have HB := hid (HB.out.trans (grown_below g (by omega) (by omega)))
           clear kFB0
           have kFB0 : v23.cell? ⟨v18.heap.size, 0, none⟩ = some (.int .i64 f.pr) := (BoxAt.cell FB.out 0).trans rfl
           clear kFB2
           have kFB2 : v23.cell? ⟨v18.heap.size, 2, none⟩ = some (.int .i64 f.li) := (BoxAt.cell FB.out 2).trans rfl
           clear kFB3
           have kFB3 : v23.cell? ⟨v18.heap.size, 3, none⟩ = some (.int .i64 f.en) := (BoxAt.cell FB.out 3).trans rfl
           have kTB4 : v23.cell? ⟨v21.heap.size, 4, none⟩ = some (.slice (some ⟨g2, 0, none⟩) c.pr.length cp2) := (BoxAt.cell TB.out 4).trans (by show some qb.pr.val = _; rw [HV2.out])
           clear b g z hfl FL18)
        | fail)
      have TB := hid (BoxAt.drew TB.out)
      have FB := hid (BoxAt.drew FB.out)
      have HBb := hid (HBb.out.drew)
      have HB := hid HB.out.drew
      clear kTB4 kFB0 kFB2 kFB3
      have HPr := hid (HP2.out.below HBb.out (by omega))
      refine wp_region_held_drew (S := (fun W => W.cell? ⟨v21.heap.size, 4, none⟩ = some (.slice (some ⟨g2, 0, none⟩) c.pr.length cp2) ∧ W.cell? ⟨g2, k * 18, none⟩ = some (.int .i64 0) ∧ W.cell? ⟨g2, k * 18 + 1, none⟩ = some (.int .i64 f.pr) ∧ W.cell? ⟨g2, k * 18 + 12, none⟩ = some (.int .i64 (-1)) ∧ W.cell? ⟨v18.heap.size, 0, none⟩ = some (.int .i64 f.pr))) (by kernel_rfl) (⟨(BoxAt.cell TB.out 4).trans (by show some qb.pr.val = _; rw [HV2.out]), (HPr.out 0 (by decide)).trans rfl, (HPr.out 1 (by decide)).trans rfl, (HPr.out 12 (by decide)).trans rfl, (BoxAt.cell FB.out 0).trans rfl⟩) (fun hHeld => ?_)
      refine wpAnyH_take (i := 0) (oi := { dst := some 154, op := Op.move (Operand.tmp 17), type := 3, pos := "more.go:33", after := #[], guard := none }) (v := ?v3001) rfl (by kernel_rfl) (by kernel_rfl) (by kernel_rfl) (fun _ _ _ h => h) (Or.inl ⟨by rfl, ?hy3001⟩) (by assumption) ?rest3001
      case hy3001 => (intro w hSw; (try dsimp only at hSw); go_simp; try with_reducible rfl)
      simp only [Act.put, List.setIfInBounds_toArray, List.set_cons_zero, List.set_cons_succ]
      refine wpAnyH_take (i := 1) (oi := { dst := some 155, op := Op.binOp BinOp.eql 3 (Operand.tmp 154) (Operand.const (Value.int IntKind.i64 0)) 3, type := 4, pos := "more.go:33", after := #[{ on := 0, ground := Ground.data }], guard := none }) (v := ?v3002) rfl (by kernel_rfl) (by kernel_rfl) (by kernel_rfl) (fun _ _ _ h => h) (Or.inl ⟨by rfl, ?hy3002⟩) (by assumption) ?rest3002
      case hy3002 => (intro w hSw; (try dsimp only at hSw); go_simp; try with_reducible rfl)
      simp only [Act.put, List.setIfInBounds_toArray, List.set_cons_zero, List.set_cons_succ]
      refine wpAnyH_take (i := 2) (oi := { dst := some 156, op := Op.move (Operand.tmp 155), type := 4, pos := "more.go:33", after := #[{ on := 1, ground := Ground.data }], guard := none }) (v := ?v3003) rfl (by kernel_rfl) (by kernel_rfl) (by kernel_rfl) (fun _ _ _ h => h) (Or.inl ⟨by rfl, ?hy3003⟩) (by assumption) ?rest3003
      case hy3003 => (intro w hSw; (try dsimp only at hSw); go_simp; try with_reducible rfl)
      simp only [Act.put, List.setIfInBounds_toArray, List.set_cons_zero, List.set_cons_succ]
      refine wpAnyH_take (i := 3) (oi := { dst := some 157, op := Op.fieldAddr 39 (Operand.tmp 16) 4, type := 0, pos := "more.go:33", after := #[{ on := 2, ground := Ground.guard }], guard := some (2, true) }) (v := ?v3004) rfl (by kernel_rfl) (by kernel_rfl) (by kernel_rfl) (fun _ _ _ h => h) (Or.inl ⟨by rfl, ?hy3004⟩) (by assumption) ?rest3004
      case hy3004 => (intro w hSw; (try dsimp only at hSw); go_simp; try with_reducible rfl)
      simp only [Act.put, List.setIfInBounds_toArray, List.set_cons_zero, List.set_cons_succ]
      refine wpAnyH_take (i := 4) (oi := { dst := some 158, op := Op.load 29 (Operand.tmp 157), type := 29, pos := "more.go:33", after := #[{ on := 3, ground := Ground.data }, { on := 2, ground := Ground.guard }], guard := some (2, true) }) (v := ?v3005) rfl (by kernel_rfl) (by kernel_rfl) (by kernel_rfl) (fun _ _ _ h => h) (Or.inl ⟨by rfl, ?hy3005⟩) (by assumption) ?rest3005
      case hy3005 => (intro w hSw; (try dsimp only at hSw); go_simp; try with_reducible rfl)
      simp only [Act.put, List.setIfInBounds_toArray, List.set_cons_zero, List.set_cons_succ]
      refine wpAnyH_take (i := 5) (oi := { dst := some 159, op := Op.move (Operand.tmp 2), type := 3, pos := "more.go:33", after := #[{ on := 2, ground := Ground.guard }], guard := some (2, true) }) (v := ?v3006) rfl (by kernel_rfl) (by kernel_rfl) (by kernel_rfl) (fun _ _ _ h => h) (Or.inl ⟨by rfl, ?hy3006⟩) (by assumption) ?rest3006
      case hy3006 => (intro w hSw; (try dsimp only at hSw); go_simp; try with_reducible rfl)
      simp only [Act.put, List.setIfInBounds_toArray, List.set_cons_zero, List.set_cons_succ]
      refine wpAnyH_take (i := 6) (oi := { dst := some 160, op := Op.indexAddr 29 (Operand.tmp 158) (Operand.tmp 159), type := 0, pos := "more.go:33", after := #[{ on := 4, ground := Ground.data }, { on := 5, ground := Ground.data }, { on := 2, ground := Ground.guard }], guard := some (2, true) }) (v := ?v3007) rfl (by kernel_rfl) (by kernel_rfl) (by kernel_rfl) (fun _ _ _ h => h) (Or.inl ⟨by rfl, ?hy3007⟩) (by assumption) ?rest3007
      case hy3007 => (intro w hSw; (try dsimp only at hSw); go_simp; try with_reducible rfl)
      simp only [Act.put, List.setIfInBounds_toArray, List.set_cons_zero, List.set_cons_succ]
      refine wpAnyH_take (i := 7) (oi := { dst := some 161, op := Op.fieldAddr 58 (Operand.tmp 160) 0, type := 0, pos := "more.go:33", after := #[{ on := 6, ground := Ground.data }, { on := 2, ground := Ground.guard }], guard := some (2, true) }) (v := ?v3008) rfl (by kernel_rfl) (by kernel_rfl) (by kernel_rfl) (fun _ _ _ h => h) (Or.inl ⟨by rfl, ?hy3008⟩) (by assumption) ?rest3008
      case hy3008 => (intro w hSw; (try dsimp only at hSw); go_simp; try with_reducible rfl)
      simp only [Act.put, List.setIfInBounds_toArray, List.set_cons_zero, List.set_cons_succ]
      refine wpAnyH_take (i := 8) (oi := { dst := some 162, op := Op.load 3 (Operand.tmp 161), type := 3, pos := "more.go:33", after := #[{ on := 7, ground := Ground.data }, { on := 2, ground := Ground.guard }], guard := some (2, true) }) (v := ?v3009) rfl (by kernel_rfl) (by kernel_rfl) (by kernel_rfl) (fun _ _ _ h => h) (Or.inl ⟨by rfl, ?hy3009⟩) (by assumption) ?rest3009
      case hy3009 => (intro w hSw; (try dsimp only at hSw); go_simp; try with_reducible rfl)
      simp only [Act.put, List.setIfInBounds_toArray, List.set_cons_zero, List.set_cons_succ]
      refine wpAnyH_take (i := 9) (oi := { dst := some 163, op := Op.binOp BinOp.eql 3 (Operand.tmp 162) (Operand.const (Value.int IntKind.i64 0)) 3, type := 4, pos := "more.go:33", after := #[{ on := 8, ground := Ground.data }, { on := 2, ground := Ground.guard }], guard := some (2, true) }) (v := ?v3010) rfl (by kernel_rfl) (by kernel_rfl) (by kernel_rfl) (fun _ _ _ h => h) (Or.inl ⟨by rfl, ?hy3010⟩) (by assumption) ?rest3010
      case hy3010 => (intro w hSw; (try dsimp only at hSw); go_simp; try with_reducible rfl)
      simp only [Act.put, List.setIfInBounds_toArray, List.set_cons_zero, List.set_cons_succ]
      refine wpAnyH_take (i := 10) (oi := { dst := some 164, op := Op.pick (Operand.tmp 156) (Operand.tmp 163) (Operand.const (Value.bool false)), type := 4, pos := "more.go:33", after := #[{ on := 2, ground := Ground.data }, { on := 9, ground := Ground.data }], guard := none }) (v := ?v3011) rfl (by kernel_rfl) (by kernel_rfl) (by kernel_rfl) (fun _ _ _ h => h) (Or.inl ⟨by rfl, ?hy3011⟩) (by assumption) ?rest3011
      case hy3011 => (intro w hSw; (try dsimp only at hSw); go_simp; try with_reducible rfl)
      simp only [Act.put, List.setIfInBounds_toArray, List.set_cons_zero, List.set_cons_succ]
      refine wpAnyH_take (i := 11) (oi := { dst := some 165, op := Op.move (Operand.tmp 164), type := 4, pos := "more.go:33", after := #[{ on := 10, ground := Ground.data }, { on := 2, ground := Ground.chain }], guard := none }) (v := ?v3012) rfl (by kernel_rfl) (by kernel_rfl) (by kernel_rfl) (fun _ _ _ h => h) (Or.inl ⟨by rfl, ?hy3012⟩) (by assumption) ?rest3012
      case hy3012 => (intro w hSw; (try dsimp only at hSw); go_simp; try with_reducible rfl)
      simp only [Act.put, List.setIfInBounds_toArray, List.set_cons_zero, List.set_cons_succ]
      refine wpAnyH_take (i := 12) (oi := { dst := some 166, op := Op.fieldAddr 39 (Operand.tmp 16) 4, type := 0, pos := "more.go:33", after := #[{ on := 11, ground := Ground.guard }], guard := some (11, true) }) (v := ?v3013) rfl (by kernel_rfl) (by kernel_rfl) (by kernel_rfl) (fun _ _ _ h => h) (Or.inl ⟨by rfl, ?hy3013⟩) (by assumption) ?rest3013
      case hy3013 => (intro w hSw; (try dsimp only at hSw); go_simp; try with_reducible rfl)
      simp only [Act.put, List.setIfInBounds_toArray, List.set_cons_zero, List.set_cons_succ]
      refine wpAnyH_take (i := 13) (oi := { dst := some 167, op := Op.load 29 (Operand.tmp 166), type := 29, pos := "more.go:33", after := #[{ on := 12, ground := Ground.data }, { on := 11, ground := Ground.guard }], guard := some (11, true) }) (v := ?v3014) rfl (by kernel_rfl) (by kernel_rfl) (by kernel_rfl) (fun _ _ _ h => h) (Or.inl ⟨by rfl, ?hy3014⟩) (by assumption) ?rest3014
      case hy3014 => (intro w hSw; (try dsimp only at hSw); go_simp; try with_reducible rfl)
      simp only [Act.put, List.setIfInBounds_toArray, List.set_cons_zero, List.set_cons_succ]
      refine wpAnyH_take (i := 14) (oi := { dst := some 168, op := Op.move (Operand.tmp 2), type := 3, pos := "more.go:33", after := #[{ on := 11, ground := Ground.guard }], guard := some (11, true) }) (v := ?v3015) rfl (by kernel_rfl) (by kernel_rfl) (by kernel_rfl) (fun _ _ _ h => h) (Or.inl ⟨by rfl, ?hy3015⟩) (by assumption) ?rest3015
      case hy3015 => (intro w hSw; (try dsimp only at hSw); go_simp; try with_reducible rfl)
      simp only [Act.put, List.setIfInBounds_toArray, List.set_cons_zero, List.set_cons_succ]
      refine wpAnyH_take (i := 15) (oi := { dst := some 169, op := Op.indexAddr 29 (Operand.tmp 167) (Operand.tmp 168), type := 0, pos := "more.go:33", after := #[{ on := 13, ground := Ground.data }, { on := 14, ground := Ground.data }, { on := 11, ground := Ground.guard }], guard := some (11, true) }) (v := ?v3016) rfl (by kernel_rfl) (by kernel_rfl) (by kernel_rfl) (fun _ _ _ h => h) (Or.inl ⟨by rfl, ?hy3016⟩) (by assumption) ?rest3016
      case hy3016 => (intro w hSw; (try dsimp only at hSw); go_simp; try with_reducible rfl)
      simp only [Act.put, List.setIfInBounds_toArray, List.set_cons_zero, List.set_cons_succ]
      refine wpAnyH_take (i := 16) (oi := { dst := some 170, op := Op.fieldAddr 58 (Operand.tmp 169) 1, type := 0, pos := "more.go:33", after := #[{ on := 15, ground := Ground.data }, { on := 11, ground := Ground.guard }], guard := some (11, true) }) (v := ?v3017) rfl (by kernel_rfl) (by kernel_rfl) (by kernel_rfl) (fun _ _ _ h => h) (Or.inl ⟨by rfl, ?hy3017⟩) (by assumption) ?rest3017
      case hy3017 => (intro w hSw; (try dsimp only at hSw); go_simp; try with_reducible rfl)
      simp only [Act.put, List.setIfInBounds_toArray, List.set_cons_zero, List.set_cons_succ]
      refine wpAnyH_take (i := 17) (oi := { dst := some 171, op := Op.load 3 (Operand.tmp 170), type := 3, pos := "more.go:33", after := #[{ on := 16, ground := Ground.data }, { on := 11, ground := Ground.guard }], guard := some (11, true) }) (v := ?v3018) rfl (by kernel_rfl) (by kernel_rfl) (by kernel_rfl) (fun _ _ _ h => h) (Or.inl ⟨by rfl, ?hy3018⟩) (by assumption) ?rest3018
      case hy3018 => (intro w hSw; (try dsimp only at hSw); go_simp; try with_reducible rfl)
      simp only [Act.put, List.setIfInBounds_toArray, List.set_cons_zero, List.set_cons_succ]
      refine wpAnyH_take (i := 18) (oi := { dst := some 172, op := Op.fieldAddr 65 (Operand.tmp 15) 0, type := 0, pos := "more.go:33", after := #[{ on := 11, ground := Ground.guard }], guard := some (11, true) }) (v := ?v3019) rfl (by kernel_rfl) (by kernel_rfl) (by kernel_rfl) (fun _ _ _ h => h) (Or.inl ⟨by rfl, ?hy3019⟩) (by assumption) ?rest3019
      case hy3019 => (intro w hSw; (try dsimp only at hSw); go_simp; try with_reducible rfl)
      simp only [Act.put, List.setIfInBounds_toArray, List.set_cons_zero, List.set_cons_succ]
      refine wpAnyH_take (i := 19) (oi := { dst := some 173, op := Op.load 3 (Operand.tmp 172), type := 3, pos := "more.go:33", after := #[{ on := 18, ground := Ground.data }, { on := 11, ground := Ground.guard }], guard := some (11, true) }) (v := ?v3020) rfl (by kernel_rfl) (by kernel_rfl) (by kernel_rfl) (fun _ _ _ h => h) (Or.inl ⟨by rfl, ?hy3020⟩) (by assumption) ?rest3020
      case hy3020 => (intro w hSw; (try dsimp only at hSw); go_simp; try with_reducible rfl)
      simp only [Act.put, List.setIfInBounds_toArray, List.set_cons_zero, List.set_cons_succ]
      refine wpAnyH_take (i := 20) (oi := { dst := some 174, op := Op.binOp BinOp.eql 3 (Operand.tmp 171) (Operand.tmp 173) 3, type := 4, pos := "more.go:33", after := #[{ on := 17, ground := Ground.data }, { on := 19, ground := Ground.data }, { on := 11, ground := Ground.guard }], guard := some (11, true) }) (v := ?v3021) rfl (by kernel_rfl) (by kernel_rfl) (by kernel_rfl) (fun _ _ _ h => h) (Or.inl ⟨by rfl, ?hy3021⟩) (by assumption) ?rest3021
      case hy3021 => (intro w hSw; (try dsimp only at hSw); go_simp; try with_reducible rfl)
      simp only [Act.put, List.setIfInBounds_toArray, List.set_cons_zero, List.set_cons_succ]
      refine wpAnyH_take (i := 21) (oi := { dst := some 175, op := Op.pick (Operand.tmp 165) (Operand.tmp 174) (Operand.const (Value.bool false)), type := 4, pos := "more.go:33", after := #[{ on := 11, ground := Ground.data }, { on := 20, ground := Ground.data }], guard := none }) (v := ?v3022) rfl (by kernel_rfl) (by kernel_rfl) (by kernel_rfl) (fun _ _ _ h => h) (Or.inl ⟨by rfl, ?hy3022⟩) (by assumption) ?rest3022
      case hy3022 => (intro w hSw; (try dsimp only at hSw); go_simp; try with_reducible rfl)
      simp only [Act.put, List.setIfInBounds_toArray, List.set_cons_zero, List.set_cons_succ]
      refine wpAnyH_take (i := 22) (oi := { dst := some 176, op := Op.move (Operand.tmp 175), type := 4, pos := "more.go:33", after := #[{ on := 21, ground := Ground.data }, { on := 11, ground := Ground.chain }], guard := none }) (v := ?v3023) rfl (by kernel_rfl) (by kernel_rfl) (by kernel_rfl) (fun _ _ _ h => h) (Or.inl ⟨by rfl, ?hy3023⟩) (by assumption) ?rest3023
      case hy3023 => (intro w hSw; (try dsimp only at hSw); go_simp; try with_reducible rfl)
      simp only [Act.put, List.setIfInBounds_toArray, List.set_cons_zero, List.set_cons_succ]
      refine wpAnyH_take (i := 23) (oi := { dst := some 177, op := Op.fieldAddr 39 (Operand.tmp 16) 4, type := 0, pos := "more.go:33", after := #[{ on := 22, ground := Ground.guard }], guard := some (22, true) }) (v := ?v3024) rfl (by kernel_rfl) (by kernel_rfl) (by kernel_rfl) (fun _ _ _ h => h) (Or.inl ⟨by rfl, ?hy3024⟩) (by assumption) ?rest3024
      case hy3024 => (intro w hSw; (try dsimp only at hSw); go_simp; try with_reducible rfl)
      simp only [Act.put, List.setIfInBounds_toArray, List.set_cons_zero, List.set_cons_succ]
      refine wpAnyH_take (i := 24) (oi := { dst := some 178, op := Op.load 29 (Operand.tmp 177), type := 29, pos := "more.go:33", after := #[{ on := 23, ground := Ground.data }, { on := 22, ground := Ground.guard }], guard := some (22, true) }) (v := ?v3025) rfl (by kernel_rfl) (by kernel_rfl) (by kernel_rfl) (fun _ _ _ h => h) (Or.inl ⟨by rfl, ?hy3025⟩) (by assumption) ?rest3025
      case hy3025 => (intro w hSw; (try dsimp only at hSw); go_simp; try with_reducible rfl)
      simp only [Act.put, List.setIfInBounds_toArray, List.set_cons_zero, List.set_cons_succ]
      refine wpAnyH_take (i := 25) (oi := { dst := some 179, op := Op.move (Operand.tmp 2), type := 3, pos := "more.go:33", after := #[{ on := 22, ground := Ground.guard }], guard := some (22, true) }) (v := ?v3026) rfl (by kernel_rfl) (by kernel_rfl) (by kernel_rfl) (fun _ _ _ h => h) (Or.inl ⟨by rfl, ?hy3026⟩) (by assumption) ?rest3026
      case hy3026 => (intro w hSw; (try dsimp only at hSw); go_simp; try with_reducible rfl)
      simp only [Act.put, List.setIfInBounds_toArray, List.set_cons_zero, List.set_cons_succ]
      refine wpAnyH_take (i := 26) (oi := { dst := some 180, op := Op.indexAddr 29 (Operand.tmp 178) (Operand.tmp 179), type := 0, pos := "more.go:33", after := #[{ on := 24, ground := Ground.data }, { on := 25, ground := Ground.data }, { on := 22, ground := Ground.guard }], guard := some (22, true) }) (v := ?v3027) rfl (by kernel_rfl) (by kernel_rfl) (by kernel_rfl) (fun _ _ _ h => h) (Or.inl ⟨by rfl, ?hy3027⟩) (by assumption) ?rest3027
      case hy3027 => (intro w hSw; (try dsimp only at hSw); go_simp; try with_reducible rfl)
      simp only [Act.put, List.setIfInBounds_toArray, List.set_cons_zero, List.set_cons_succ]
      refine wpAnyH_take (i := 27) (oi := { dst := some 181, op := Op.fieldAddr 58 (Operand.tmp 180) 8, type := 0, pos := "more.go:33", after := #[{ on := 26, ground := Ground.data }, { on := 22, ground := Ground.guard }], guard := some (22, true) }) (v := ?v3028) rfl (by kernel_rfl) (by kernel_rfl) (by kernel_rfl) (fun _ _ _ h => h) (Or.inl ⟨by rfl, ?hy3028⟩) (by assumption) ?rest3028
      case hy3028 => (intro w hSw; (try dsimp only at hSw); go_simp; try with_reducible rfl)
      simp only [Act.put, List.setIfInBounds_toArray, List.set_cons_zero, List.set_cons_succ]
      refine wpAnyH_take (i := 28) (oi := { dst := some 182, op := Op.load 3 (Operand.tmp 181), type := 3, pos := "more.go:33", after := #[{ on := 27, ground := Ground.data }, { on := 22, ground := Ground.guard }], guard := some (22, true) }) (v := ?v3029) rfl (by kernel_rfl) (by kernel_rfl) (by kernel_rfl) (fun _ _ _ h => h) (Or.inl ⟨by rfl, ?hy3029⟩) (by assumption) ?rest3029
      case hy3029 => (intro w hSw; (try dsimp only at hSw); go_simp; try with_reducible rfl)
      simp only [Act.put, List.setIfInBounds_toArray, List.set_cons_zero, List.set_cons_succ]
      refine wpAnyH_take (i := 29) (oi := { dst := some 183, op := Op.binOp BinOp.eql 3 (Operand.tmp 182) (Operand.const (Value.int IntKind.i64 (-1))) 3, type := 4, pos := "more.go:33", after := #[{ on := 28, ground := Ground.data }, { on := 22, ground := Ground.guard }], guard := some (22, true) }) (v := ?v3030) rfl (by kernel_rfl) (by kernel_rfl) (by kernel_rfl) (fun _ _ _ h => h) (Or.inl ⟨by rfl, ?hy3030⟩) (by assumption) ?rest3030
      case hy3030 => (intro w hSw; (try dsimp only at hSw); go_simp; try with_reducible rfl)
      simp only [Act.put, List.setIfInBounds_toArray, List.set_cons_zero, List.set_cons_succ]
      refine wpAnyH_take (i := 30) (oi := { dst := some 184, op := Op.pick (Operand.tmp 176) (Operand.tmp 183) (Operand.const (Value.bool false)), type := 4, pos := "more.go:33", after := #[{ on := 22, ground := Ground.data }, { on := 29, ground := Ground.data }], guard := none }) (v := ?v3031) rfl (by kernel_rfl) (by kernel_rfl) (by kernel_rfl) (fun _ _ _ h => h) (Or.inl ⟨by rfl, ?hy3031⟩) (by assumption) ?rest3031
      case hy3031 => (intro w hSw; (try dsimp only at hSw); go_simp; try with_reducible rfl)
      simp only [Act.put, List.setIfInBounds_toArray, List.set_cons_zero, List.set_cons_succ]
      refine wpAnyH_take (i := 31) (oi := { dst := some 8, op := Op.assign (Operand.tmp 184), type := 4, pos := "more.go:33", after := #[{ on := 30, ground := Ground.data }, { on := 22, ground := Ground.chain }, { on := 0, ground := Ground.phase }, { on := 1, ground := Ground.phase }, { on := 2, ground := Ground.phase }, { on := 3, ground := Ground.phase }, { on := 4, ground := Ground.phase }, { on := 5, ground := Ground.phase }, { on := 6, ground := Ground.phase }, { on := 7, ground := Ground.phase }, { on := 8, ground := Ground.phase }, { on := 9, ground := Ground.phase }, { on := 10, ground := Ground.phase }, { on := 11, ground := Ground.phase }, { on := 12, ground := Ground.phase }, { on := 13, ground := Ground.phase }, { on := 14, ground := Ground.phase }, { on := 15, ground := Ground.phase }, { on := 16, ground := Ground.phase }, { on := 17, ground := Ground.phase }, { on := 18, ground := Ground.phase }, { on := 19, ground := Ground.phase }, { on := 20, ground := Ground.phase }, { on := 21, ground := Ground.phase }, { on := 22, ground := Ground.phase }, { on := 23, ground := Ground.phase }, { on := 24, ground := Ground.phase }, { on := 25, ground := Ground.phase }, { on := 26, ground := Ground.phase }, { on := 27, ground := Ground.phase }, { on := 28, ground := Ground.phase }, { on := 29, ground := Ground.phase }, { on := 30, ground := Ground.phase }], guard := none }) (v := ?v3032) rfl (by kernel_rfl) (by kernel_rfl) (by kernel_rfl) (fun _ _ _ h => h) (Or.inl ⟨by rfl, ?hy3032⟩) (by assumption) ?rest3032
      case hy3032 => (intro w hSw; (try dsimp only at hSw); go_simp; try with_reducible rfl)
      simp only [Act.put, List.setIfInBounds_toArray, List.set_cons_zero, List.set_cons_succ]
      refine wpAnyH_done (by kernel_rfl) ?_ _
      clear hHeld
      go_wp2_with fail
      go_ret
      exact ⟨rfl, HB.out⟩
  · have HO1 := hid ho
    clear ho
    have HI := hid (show C1 = c from by have h := start_idle (f := cc) (c := c) (i := i) (now := now) (by rw [HD.out]; exact hkd); rw [HD.out] at h; exact h)
    have tkd : (kd != 0) = true := by simpa using hkd
    clear hkd
    have FL19 := hid trivial
    have FL20 := hid trivial
    go_wp2_with (first
      | (have hfl := FL19.out
         refine wpList_new rfl 39 rfl _ Try.zeroPa ?_
         intro v24 b h z
         have QB := hid (show BoxAt v24 v5.heap.size 39 (PaV.cells PaV.zero).toArray from b)
         have CB := hid (CB.out.belowAll h)
         have PB := hid (PB.out.belowAll h)
         have HBa := hid (HBa.out.trans (h.mono (by omega)))
         have HB := hid (HB.out.trans (h.mono HB.out.size))
         have hsv24 : v5.heap.size + 1 ≤ v24.heap.size := by omega
         clear kCB2
         have kCB2 : v24.cell? ⟨w.heap.size, 2, none⟩ = some (.slice ac cc.pc.length cpc) := (BoxAt.cell CB.out 2).trans (by show some qc.v2.val = _; rw [HCv.out])
         clear kPB4
         have kPB4 : v24.cell? ⟨v1.heap.size, 4, none⟩ = some (.slice ap c.pr.length cpp) := (BoxAt.cell PB.out 4).trans (by show some q.pr.val = _; rw [HPv.out])
         clear b h z hfl FL19)
      | (have hfl := FL20.out
         refine wpList_store_whole rfl 39 _ _ rfl rfl v5.heap.size rfl (PaV.cells qa) rfl _ _ QB.out rfl Try.infoPa (PaV.one _) ?_
         intro v25 b g z
         have hsv25 : v24.heap.size ≤ v25.heap.size := by omega
         have HBa := hid (HBa.out.trans (grown_below g (by omega) (by omega)))
         have QB := hid (show BoxAt v25 v5.heap.size 39 (PaV.cells qa).toArray from b)
         have CB := hid (CB.out.grown g (fun e => by have := Option.some.inj e; omega))
         have PB := hid (PB.out.grown g (fun e => by have := Option.some.inj e; omega))
         have HB := hid (HB.out.trans (grown_below g (by omega) (by omega)))
         clear kCB2
         have kCB2 : v25.cell? ⟨w.heap.size, 2, none⟩ = some (.slice ac cc.pc.length cpc) := (BoxAt.cell CB.out 2).trans (by show some qc.v2.val = _; rw [HCv.out])
         clear kPB4
         have kPB4 : v25.cell? ⟨v1.heap.size, 4, none⟩ = some (.slice ap c.pr.length cpp) := (BoxAt.cell PB.out 4).trans (by show some q.pr.val = _; rw [HPv.out])
         clear b g z hfl FL20)
      | (refine wpList_load_box rfl 39 _ rfl v1.heap.size rfl _ _ PB.out _ Try.underlying39 Try.infoPa ?_)
      | (refine wpList_load_box rfl 39 _ rfl v5.heap.size rfl _ _ QB.out _ Try.underlying39 Try.infoPa ?_)
      | fail)
    refine (same_eq (HA.out.below HB.out) (by have h := (HO1.out.below HBa.out).sees; rw [HI.out] at h; exact h)).mono ?_
    rintro e v26 ⟨rfl, hb⟩
    have CB := hid (CB.out.belowAll hb)
    have PB := hid (PB.out.belowAll hb)
    have QB := hid (QB.out.belowAll hb)
    have HBa := hid (HBa.out.trans (hb.mono (by omega)))
    have HB := hid (HB.out.trans (hb.mono HB.out.size))
    have hsv26 : v25.heap.size ≤ v26.heap.size := hb.size
    clear kCB2
    have kCB2 : v26.cell? ⟨w.heap.size, 2, none⟩ = some (.slice ac cc.pc.length cpc) := (BoxAt.cell CB.out 2).trans (by show some qc.v2.val = _; rw [HCv.out])
    clear kPB4
    have kPB4 : v26.cell? ⟨v1.heap.size, 4, none⟩ = some (.slice ap c.pr.length cpp) := (BoxAt.cell PB.out 4).trans (by show some q.pr.val = _; rw [HPv.out])
    clear hb
    go_wp2
    go_ret
    exact ⟨rfl, HB.out⟩

end Go.Proofs.Ytfdalcfbhebloaa
