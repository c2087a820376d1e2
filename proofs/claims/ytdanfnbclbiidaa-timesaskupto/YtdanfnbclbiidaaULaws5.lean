/-
  TimesAsk: what any process's waiting for its release, or some ticks, or its getting another deadline, comes to, is what the document says.
-/
import Derived.Test.YtdanfnbclbiidaaUAwake
import Derived.Test.YtdanfnbclbiidaaQLaws1
import Derived.Test.YtdanfnbclbiidaaQSame3E
import Derived.Test.YtdanfnbclbiidaaURef2
namespace Go.Proofs.Ytdanfnbclbiidaa
open Go.RowKit
set_option linter.unusedVariables false

set_option maxRecDepth 100000 in
set_option maxHeartbeats 12800000 in
theorem walk_TimesAsk (w : World) (x0 : PtX) (f0 : x0.fit w) (x1 : PaX) (f1 : x1.fit w) (i : Int) (w2 : (Lit.int .i64 i).wf = true) (ticks : Int) (w3 : (Lit.int .i64 ticks).wf = true) (now : Int) (w4 : (Lit.int .i64 now).wf = true) (hN : 2 * (x1.c.bo.length + x1.c.bu.length + x1.c.se.length + x1.c.ev.length) ≤ 1048576) :
    Calls Try.prog 4 #[x0.val, x1.val, .int .i64 i, .int .i64 ticks, .int .i64 now] w fun e w' => e = .returned (.bool true) ∧ Below w.heap.size w w' := by
  obtain ⟨qc, cc⟩ := x0
  obtain ⟨q, c⟩ := x1
  unfold PtX.val PaX.val
  simp only at hN ⊢
  have HC := hid f0.1
  have HA := hid f1.1
  have HNm := hid (show c.bo.length + c.bu.length + c.se.length + c.ev.length ≤ 900000 by omega)
  obtain ⟨ac, cpc, hcv, hc1, hc2, hcell⟩ := HC.out.pc.form
  have hmaxc : cpc ≤ 9223372036854775807 := hc2
  have HCv := hid hcv
  have HCc := hid hcell
  clear hcv hc2 hcell
  obtain ⟨ap, cpp, hpv, hp1, hp2, hpcell⟩ := HA.out.pr.form
  have hmax : cpp ≤ 9223372036854775807 := hp2
  have HPv := hid hpv
  have HPc := hid hpcell
  clear hpv hp2 hpcell
  clear hN f0 f1 w2 w3 w4
  have HB := hid (Below.refl w.heap.size w)
  go_enter Try.func4, Try.ntmps4
  have FL1 := hid trivial
  have FL2 := hid trivial
  go_wp2_with (first
    | (have hfl := FL1.out
       refine wpList_box rfl 28 (.tmp 0) rfl (Pv.cells qc).toArray rfl ?_
       intro v1 b h z
       have CB := hid (show BoxAt v1 w.heap.size 28 (Pv.cells qc).toArray from b)
       have HB := hid (HB.out.trans (h.mono HB.out.size))
       have hsv1 : w.heap.size + 1 ≤ v1.heap.size := by omega
       clear b h z hfl FL1)
    | (have hfl := FL2.out
       refine wpList_box rfl 39 (.tmp 1) rfl (PaV.cells q).toArray rfl ?_
       intro v2 b h z
       have PB := hid (show BoxAt v2 v1.heap.size 39 (PaV.cells q).toArray from b)
       have CB := hid (CB.out.belowAll h)
       have HB := hid (HB.out.trans (h.mono HB.out.size))
       have hsv2 : v1.heap.size + 1 ≤ v2.heap.size := by omega
       clear b h z hfl FL2)
    | fail)
  refine (uawake_any _).mono ?_
  rintro e v3 ⟨rfl, hb⟩
  have CB := hid (CB.out.belowAll hb)
  have PB := hid (PB.out.belowAll hb)
  have HB := hid (HB.out.trans (hb.mono HB.out.size))
  have hsv3 : v2.heap.size ≤ v3.heap.size := hb.size
  clear hb
  go_wp2_with (first
    | (refine wpList_load_box rfl 39 _ rfl v1.heap.size rfl _ _ PB.out _ Try.underlying39 Try.infoPa ?_)
    | fail)
  refine (few_tot (HA.out.below HB.out) HNm.out).mono ?_
  rintro e v4 ⟨⟨ok, rfl, hok⟩, hb⟩
  have CB := hid (CB.out.belowAll hb)
  have PB := hid (PB.out.belowAll hb)
  have HB := hid (HB.out.trans (hb.mono HB.out.size))
  have hsv4 : v3.heap.size ≤ v4.heap.size := hb.size
  have HOk := hid hok
  clear hok
  clear hb
  have kCB2 : v4.cell? ⟨w.heap.size, 2, none⟩ = some (.slice ac cc.pc.length cpc) := (BoxAt.cell CB.out 2).trans (by show some qc.v2.val = _; rw [HCv.out])
  have kPB4 : v4.cell? ⟨v1.heap.size, 4, none⟩ = some (.slice ap c.pr.length cpp) := (BoxAt.cell PB.out 4).trans (by show some q.pr.val = _; rw [HPv.out])
  rcases ok with _ | _
  · go_wp2
    go_ret
    exact ⟨rfl, HB.out⟩
  have HT := hid (HOk.out rfl)
  have HSm := hid HT.out.small
  clear HOk
  by_cases hbig : (20 : Int) < (cc.pc.length : Int)
  · go_wp2
    go_ret
    exact ⟨rfl, HB.out⟩
  have hd1 : decide ((20 : Int) < (cc.pc.length : Int)) = false := decide_eq_false hbig
  have HBg := hid (show cc.pc.length ≤ 20 by omega)
  clear hbig
  obtain ⟨⟨D1, k1⟩, hD1⟩ : ∃ D, periodP cc c i = D := ⟨_, rfl⟩
  have HD1 := hid hD1
  clear hD1
  have ke1 : (k1 == k1) = true := beq_self_eq_true k1
  obtain ⟨⟨D2, k2⟩, hD2⟩ : ∃ D, delayP c i ticks now = D := ⟨_, rfl⟩
  have HD2 := hid hD2
  clear hD2
  have ke2 : (k2 == k2) = true := beq_self_eq_true k2
  obtain ⟨⟨D3, k3⟩, hD3⟩ : ∃ D, replP cc c i ticks now = D := ⟨_, rfl⟩
  have HD3 := hid hD3
  clear hD3
  have ke3 : (k3 == k3) = true := beq_self_eq_true k3
  go_wp2_with (first
    | (with_reducible refine wpList_dst 45 rfl ?_
       refine wpList_load_box rfl 28 _ rfl w.heap.size rfl _ _ CB.out _ Try.underlying28 Try.infoPv ?_)
    | (with_reducible refine wpList_dst 46 rfl ?_
       refine wpList_load_box rfl 39 _ rfl v1.heap.size rfl _ _ PB.out _ Try.underlying39 Try.infoPa ?_)
    | fail)
  clear hd1 kCB2 kPB4
  refine (period_any (i := i) (HC.out.below HB.out) (HA.out.below HB.out) HSm.out).mono ?_
  rintro e v5 ⟨qa, rfl, ho, hb⟩
  have CB := hid (CB.out.belowAll hb)
  have PB := hid (PB.out.belowAll hb)
  have HB := hid (HB.out.trans (hb.mono HB.out.size))
  have hsv5 : v4.heap.size ≤ v5.heap.size := hb.size
  rw [HD1.out] at ho ⊢
  have HOa := hid ho
  clear ho
  clear hb
  have FL3 := hid trivial
  have FL4 := hid trivial
  go_wp2_with (first
    | (have hfl := FL3.out
       refine wpList_new rfl 39 rfl _ Try.zeroPa ?_
       intro v6 b h z
       have Ba := hid (show BoxAt v6 v5.heap.size 39 (PaV.cells PaV.zero).toArray from b)
       have CB := hid (CB.out.belowAll h)
       have PB := hid (PB.out.belowAll h)
       have HOa := hid (HOa.out.below h)
       have HB := hid (HB.out.trans (h.mono HB.out.size))
       have hsv6 : v5.heap.size + 1 ≤ v6.heap.size := by omega
       clear b h z hfl FL3)
    | (have hfl := FL4.out
       refine wpList_store_whole rfl 39 _ _ rfl rfl v5.heap.size rfl (PaV.cells qa) rfl _ _ Ba.out rfl Try.infoPa (PaV.one _) ?_
       intro v7 b g z
       have hsv7 : v6.heap.size ≤ v7.heap.size := by omega
       have HOa := hid (HOa.out.turn (Turns.grown (S := fun t => t = 39) Ba.out b rfl g))
       have Ba := hid (show BoxAt v7 v5.heap.size 39 (PaV.cells qa).toArray from b)
       have CB := hid (CB.out.grown g (fun e => by have := Option.some.inj e; omega))
       have PB := hid (PB.out.grown g (fun e => by have := Option.some.inj e; omega))
       have HB := hid (HB.out.trans (grown_below g (by omega) (by omega)))
       clear b g z hfl FL4)
    | (with_reducible refine wpList_dst 52 rfl ?_
       refine wpList_load_box rfl 28 _ rfl w.heap.size rfl _ _ CB.out _ Try.underlying28 Try.infoPv ?_)
    | (with_reducible refine wpList_dst 53 rfl ?_
       refine wpList_load_box rfl 39 _ rfl v1.heap.size rfl _ _ PB.out _ Try.underlying39 Try.infoPa ?_)
    | fail)
  refine (rperiod_any (i := i) HC.out HA.out HB.out HSm.out).mono ?_
  rintro e v8 ⟨qb, rfl, ho, hb⟩
  have CB := hid (CB.out.belowAll hb)
  have PB := hid (PB.out.belowAll hb)
  have Ba := hid (Ba.out.belowAll hb)
  have HOa := hid (HOa.out.below hb)
  have HB := hid (HB.out.trans (hb.mono HB.out.size))
  have hsv8 : v7.heap.size ≤ v8.heap.size := hb.size
  rw [HD1.out] at ho ⊢
  have HOb := hid ho
  clear ho
  clear hb
  have FL5 := hid trivial
  have FL6 := hid trivial
  go_wp2_with (first
    | (have hfl := FL5.out
       refine wpList_new rfl 39 rfl _ Try.zeroPa ?_
       intro v9 b h z
       have Bb := hid (show BoxAt v9 v8.heap.size 39 (PaV.cells PaV.zero).toArray from b)
       have CB := hid (CB.out.belowAll h)
       have PB := hid (PB.out.belowAll h)
       have Ba := hid (Ba.out.belowAll h)
       have HOa := hid (HOa.out.below h)
       have HOb := hid (HOb.out.below (by omega) h)
       have HB := hid (HB.out.trans (h.mono HB.out.size))
       have hsv9 : v8.heap.size + 1 ≤ v9.heap.size := by omega
       clear b h z hfl FL5)
    | (have hfl := FL6.out
       refine wpList_store_whole rfl 39 _ _ rfl rfl v8.heap.size rfl (PaV.cells qb) rfl _ _ Bb.out rfl Try.infoPa (PaV.one _) ?_
       intro v10 b g z
       have hsv10 : v9.heap.size ≤ v10.heap.size := by omega
       have HOa := hid (HOa.out.turn (Turns.grown (S := fun t => t = 39) Bb.out b rfl g))
       have HOb := hid (HOb.out.put (by omega) (by omega) g Bb.out b)
       have Bb := hid (show BoxAt v10 v8.heap.size 39 (PaV.cells qb).toArray from b)
       have CB := hid (CB.out.grown g (fun e => by have := Option.some.inj e; omega))
       have PB := hid (PB.out.grown g (fun e => by have := Option.some.inj e; omega))
       have Ba := hid (Ba.out.grown g (fun e => by have := Option.some.inj e; omega))
       have HB := hid (HB.out.trans (grown_below g (by omega) (by omega)))
       clear b g z hfl FL6)
    | (with_reducible refine wpList_dst 59 rfl ?_
       refine wpList_load_box rfl 39 _ rfl v1.heap.size rfl _ _ PB.out _ Try.underlying39 Try.infoPa ?_)
    | fail)
  refine (delay_any (i := i) (ticks := ticks) (now := now) (HA.out.below HB.out) HSm.out).mono ?_
  rintro e v11 ⟨qd, rfl, ho, hb⟩
  have CB := hid (CB.out.belowAll hb)
  have PB := hid (PB.out.belowAll hb)
  have Ba := hid (Ba.out.belowAll hb)
  have Bb := hid (Bb.out.belowAll hb)
  have HOa := hid (HOa.out.below hb)
  have HOb := hid (HOb.out.below (by omega) hb)
  have HB := hid (HB.out.trans (hb.mono HB.out.size))
  have hsv11 : v10.heap.size ≤ v11.heap.size := hb.size
  rw [HD2.out] at ho ⊢
  have HOd := hid ho
  clear ho
  clear hb
  have FL7 := hid trivial
  have FL8 := hid trivial
  go_wp2_with (first
    | (have hfl := FL7.out
       refine wpList_new rfl 39 rfl _ Try.zeroPa ?_
       intro v12 b h z
       have Bd := hid (show BoxAt v12 v11.heap.size 39 (PaV.cells PaV.zero).toArray from b)
       have CB := hid (CB.out.belowAll h)
       have PB := hid (PB.out.belowAll h)
       have Ba := hid (Ba.out.belowAll h)
       have Bb := hid (Bb.out.belowAll h)
       have HOa := hid (HOa.out.below h)
       have HOb := hid (HOb.out.below (by omega) h)
       have HOd := hid (HOd.out.below h)
       have HB := hid (HB.out.trans (h.mono HB.out.size))
       have hsv12 : v11.heap.size + 1 ≤ v12.heap.size := by omega
       clear b h z hfl FL7)
    | (have hfl := FL8.out
       refine wpList_store_whole rfl 39 _ _ rfl rfl v11.heap.size rfl (PaV.cells qd) rfl _ _ Bd.out rfl Try.infoPa (PaV.one _) ?_
       intro v13 b g z
       have hsv13 : v12.heap.size ≤ v13.heap.size := by omega
       have HOa := hid (HOa.out.turn (Turns.grown (S := fun t => t = 39) Bd.out b rfl g))
       have HOb := hid (HOb.out.put (by omega) (by omega) g Bd.out b)
       have HOd := hid (HOd.out.turn (Turns.grown (S := fun t => t = 39) Bd.out b rfl g))
       have Bd := hid (show BoxAt v13 v11.heap.size 39 (PaV.cells qd).toArray from b)
       have CB := hid (CB.out.grown g (fun e => by have := Option.some.inj e; omega))
       have PB := hid (PB.out.grown g (fun e => by have := Option.some.inj e; omega))
       have Ba := hid (Ba.out.grown g (fun e => by have := Option.some.inj e; omega))
       have Bb := hid (Bb.out.grown g (fun e => by have := Option.some.inj e; omega))
       have HB := hid (HB.out.trans (grown_below g (by omega) (by omega)))
       clear b g z hfl FL8)
    | (with_reducible refine wpList_dst 67 rfl ?_
       refine wpList_load_box rfl 39 _ rfl v1.heap.size rfl _ _ PB.out _ Try.underlying39 Try.infoPa ?_)
    | fail)
  refine (rdelay_any (i := i) (ticks := ticks) (now := now) HA.out HB.out HSm.out).mono ?_
  rintro e v14 ⟨qh, rfl, ho, hb⟩
  have CB := hid (CB.out.belowAll hb)
  have PB := hid (PB.out.belowAll hb)
  have Ba := hid (Ba.out.belowAll hb)
  have Bb := hid (Bb.out.belowAll hb)
  have Bd := hid (Bd.out.belowAll hb)
  have HOa := hid (HOa.out.below hb)
  have HOb := hid (HOb.out.below (by omega) hb)
  have HOd := hid (HOd.out.below hb)
  have HB := hid (HB.out.trans (hb.mono HB.out.size))
  have hsv14 : v13.heap.size ≤ v14.heap.size := hb.size
  rw [HD2.out] at ho ⊢
  have HOh := hid ho
  clear ho
  clear hb
  have FL9 := hid trivial
  have FL10 := hid trivial
  go_wp2_with (first
    | (have hfl := FL9.out
       refine wpList_new rfl 39 rfl _ Try.zeroPa ?_
       intro v15 b h z
       have Bh := hid (show BoxAt v15 v14.heap.size 39 (PaV.cells PaV.zero).toArray from b)
       have CB := hid (CB.out.belowAll h)
       have PB := hid (PB.out.belowAll h)
       have Ba := hid (Ba.out.belowAll h)
       have Bb := hid (Bb.out.belowAll h)
       have Bd := hid (Bd.out.belowAll h)
       have HOa := hid (HOa.out.below h)
       have HOb := hid (HOb.out.below (by omega) h)
       have HOd := hid (HOd.out.below h)
       have HOh := hid (HOh.out.below (by omega) h)
       have HB := hid (HB.out.trans (h.mono HB.out.size))
       have hsv15 : v14.heap.size + 1 ≤ v15.heap.size := by omega
       clear b h z hfl FL9)
    | (have hfl := FL10.out
       refine wpList_store_whole rfl 39 _ _ rfl rfl v14.heap.size rfl (PaV.cells qh) rfl _ _ Bh.out rfl Try.infoPa (PaV.one _) ?_
       intro v16 b g z
       have hsv16 : v15.heap.size ≤ v16.heap.size := by omega
       have HOa := hid (HOa.out.turn (Turns.grown (S := fun t => t = 39) Bh.out b rfl g))
       have HOb := hid (HOb.out.put (by omega) (by omega) g Bh.out b)
       have HOd := hid (HOd.out.turn (Turns.grown (S := fun t => t = 39) Bh.out b rfl g))
       have HOh := hid (HOh.out.put (by omega) (by omega) g Bh.out b)
       have Bh := hid (show BoxAt v16 v14.heap.size 39 (PaV.cells qh).toArray from b)
       have CB := hid (CB.out.grown g (fun e => by have := Option.some.inj e; omega))
       have PB := hid (PB.out.grown g (fun e => by have := Option.some.inj e; omega))
       have Ba := hid (Ba.out.grown g (fun e => by have := Option.some.inj e; omega))
       have Bb := hid (Bb.out.grown g (fun e => by have := Option.some.inj e; omega))
       have Bd := hid (Bd.out.grown g (fun e => by have := Option.some.inj e; omega))
       have HB := hid (HB.out.trans (grown_below g (by omega) (by omega)))
       clear b g z hfl FL10)
    | (with_reducible refine wpList_dst 75 rfl ?_
       refine wpList_load_box rfl 28 _ rfl w.heap.size rfl _ _ CB.out _ Try.underlying28 Try.infoPv ?_)
    | (with_reducible refine wpList_dst 76 rfl ?_
       refine wpList_load_box rfl 39 _ rfl v1.heap.size rfl _ _ PB.out _ Try.underlying39 Try.infoPa ?_)
    | fail)
  refine (repl_any (i := i) (ticks := ticks) (now := now) (HC.out.below HB.out) (HA.out.below HB.out) HSm.out).mono ?_
  rintro e v17 ⟨qk, rfl, ho, hb⟩
  have CB := hid (CB.out.belowAll hb)
  have PB := hid (PB.out.belowAll hb)
  have Ba := hid (Ba.out.belowAll hb)
  have Bb := hid (Bb.out.belowAll hb)
  have Bd := hid (Bd.out.belowAll hb)
  have Bh := hid (Bh.out.belowAll hb)
  have HOa := hid (HOa.out.below hb)
  have HOb := hid (HOb.out.below (by omega) hb)
  have HOd := hid (HOd.out.below hb)
  have HOh := hid (HOh.out.below (by omega) hb)
  have HB := hid (HB.out.trans (hb.mono HB.out.size))
  have hsv17 : v16.heap.size ≤ v17.heap.size := hb.size
  rw [HD3.out] at ho ⊢
  have HOk := hid ho
  clear ho
  clear hb
  have FL11 := hid trivial
  have FL12 := hid trivial
  go_wp2_with (first
    | (have hfl := FL11.out
       refine wpList_new rfl 39 rfl _ Try.zeroPa ?_
       intro v18 b h z
       have Bk := hid (show BoxAt v18 v17.heap.size 39 (PaV.cells PaV.zero).toArray from b)
       have CB := hid (CB.out.belowAll h)
       have PB := hid (PB.out.belowAll h)
       have Ba := hid (Ba.out.belowAll h)
       have Bb := hid (Bb.out.belowAll h)
       have Bd := hid (Bd.out.belowAll h)
       have Bh := hid (Bh.out.belowAll h)
       have HOa := hid (HOa.out.below h)
       have HOb := hid (HOb.out.below (by omega) h)
       have HOd := hid (HOd.out.below h)
       have HOh := hid (HOh.out.below (by omega) h)
       have HOk := hid (HOk.out.below h)
       have HB := hid (HB.out.trans (h.mono HB.out.size))
       have hsv18 : v17.heap.size + 1 ≤ v18.heap.size := by omega
       clear b h z hfl FL11)
    | (have hfl := FL12.out
       refine wpList_store_whole rfl 39 _ _ rfl rfl v17.heap.size rfl (PaV.cells qk) rfl _ _ Bk.out rfl Try.infoPa (PaV.one _) ?_
       intro v19 b g z
       have hsv19 : v18.heap.size ≤ v19.heap.size := by omega
       have HOa := hid (HOa.out.turn (Turns.grown (S := fun t => t = 39) Bk.out b rfl g))
       have HOb := hid (HOb.out.put (by omega) (by omega) g Bk.out b)
       have HOd := hid (HOd.out.turn (Turns.grown (S := fun t => t = 39) Bk.out b rfl g))
       have HOh := hid (HOh.out.put (by omega) (by omega) g Bk.out b)
       have HOk := hid (HOk.out.turn (Turns.grown (S := fun t => t = 39) Bk.out b rfl g))
       have Bk := hid (show BoxAt v19 v17.heap.size 39 (PaV.cells qk).toArray from b)
       have CB := hid (CB.out.grown g (fun e => by have := Option.some.inj e; omega))
       have PB := hid (PB.out.grown g (fun e => by have := Option.some.inj e; omega))
       have Ba := hid (Ba.out.grown g (fun e => by have := Option.some.inj e; omega))
       have Bb := hid (Bb.out.grown g (fun e => by have := Option.some.inj e; omega))
       have Bd := hid (Bd.out.grown g (fun e => by have := Option.some.inj e; omega))
       have Bh := hid (Bh.out.grown g (fun e => by have := Option.some.inj e; omega))
       have HB := hid (HB.out.trans (grown_below g (by omega) (by omega)))
       clear b g z hfl FL12)
    | (with_reducible refine wpList_dst 84 rfl ?_
       refine wpList_load_box rfl 28 _ rfl w.heap.size rfl _ _ CB.out _ Try.underlying28 Try.infoPv ?_)
    | (with_reducible refine wpList_dst 85 rfl ?_
       refine wpList_load_box rfl 39 _ rfl v1.heap.size rfl _ _ PB.out _ Try.underlying39 Try.infoPa ?_)
    | fail)
  refine (rrepl_any (i := i) (ticks := ticks) (now := now) HC.out HA.out HB.out HSm.out).mono ?_
  rintro e v20 ⟨qn, rfl, ho, hb⟩
  have CB := hid (CB.out.belowAll hb)
  have PB := hid (PB.out.belowAll hb)
  have Ba := hid (Ba.out.belowAll hb)
  have Bb := hid (Bb.out.belowAll hb)
  have Bd := hid (Bd.out.belowAll hb)
  have Bh := hid (Bh.out.belowAll hb)
  have Bk := hid (Bk.out.belowAll hb)
  have HOa := hid (HOa.out.below hb)
  have HOb := hid (HOb.out.below (by omega) hb)
  have HOd := hid (HOd.out.below hb)
  have HOh := hid (HOh.out.below (by omega) hb)
  have HOk := hid (HOk.out.below hb)
  have HB := hid (HB.out.trans (hb.mono HB.out.size))
  have hsv20 : v19.heap.size ≤ v20.heap.size := hb.size
  rw [HD3.out] at ho ⊢
  have HOn := hid ho
  clear ho
  clear hb
  have FL13 := hid trivial
  have FL14 := hid trivial
  go_wp2_with (first
    | (have hfl := FL13.out
       refine wpList_new rfl 39 rfl _ Try.zeroPa ?_
       intro v21 b h z
       have Bn := hid (show BoxAt v21 v20.heap.size 39 (PaV.cells PaV.zero).toArray from b)
       have Ba := hid (Ba.out.belowAll h)
       have Bb := hid (Bb.out.belowAll h)
       have Bd := hid (Bd.out.belowAll h)
       have Bh := hid (Bh.out.belowAll h)
       have Bk := hid (Bk.out.belowAll h)
       have HOa := hid (HOa.out.below h)
       have HOb := hid (HOb.out.below (by omega) h)
       have HOd := hid (HOd.out.below h)
       have HOh := hid (HOh.out.below (by omega) h)
       have HOk := hid (HOk.out.below h)
       have HOn := hid (HOn.out.below (by omega) h)
       have HB := hid (HB.out.trans (h.mono HB.out.size))
       have hsv21 : v20.heap.size + 1 ≤ v21.heap.size := by omega
       clear b h z hfl FL13)
    | (have hfl := FL14.out
       refine wpList_store_whole rfl 39 _ _ rfl rfl v20.heap.size rfl (PaV.cells qn) rfl _ _ Bn.out rfl Try.infoPa (PaV.one _) ?_
       intro v22 b g z
       have hsv22 : v21.heap.size ≤ v22.heap.size := by omega
       have HOa := hid (HOa.out.turn (Turns.grown (S := fun t => t = 39) Bn.out b rfl g))
       have HOb := hid (HOb.out.put (by omega) (by omega) g Bn.out b)
       have HOd := hid (HOd.out.turn (Turns.grown (S := fun t => t = 39) Bn.out b rfl g))
       have HOh := hid (HOh.out.put (by omega) (by omega) g Bn.out b)
       have HOk := hid (HOk.out.turn (Turns.grown (S := fun t => t = 39) Bn.out b rfl g))
       have HOn := hid (HOn.out.put (by omega) (by omega) g Bn.out b)
       have Bn := hid (show BoxAt v22 v20.heap.size 39 (PaV.cells qn).toArray from b)
       have Ba := hid (Ba.out.grown g (fun e => by have := Option.some.inj e; omega))
       have Bb := hid (Bb.out.grown g (fun e => by have := Option.some.inj e; omega))
       have Bd := hid (Bd.out.grown g (fun e => by have := Option.some.inj e; omega))
       have Bh := hid (Bh.out.grown g (fun e => by have := Option.some.inj e; omega))
       have Bk := hid (Bk.out.grown g (fun e => by have := Option.some.inj e; omega))
       have HB := hid (HB.out.trans (grown_below g (by omega) (by omega)))
       clear b g z hfl FL14)
    | (with_reducible refine wpList_dst 92 rfl ?_
       refine wpList_load_box rfl 39 _ rfl v5.heap.size rfl _ _ Ba.out _ Try.underlying39 Try.infoPa ?_)
    | (with_reducible refine wpList_dst 93 rfl ?_
       refine wpList_load_box rfl 39 _ rfl v8.heap.size rfl _ _ Bb.out _ Try.underlying39 Try.infoPa ?_)
    | fail)
  refine (same_eq HOa.out.sees HOb.out.at).mono ?_
  rintro e v23 ⟨rfl, hb⟩
  have Ba := hid (Ba.out.belowAll hb)
  have Bb := hid (Bb.out.belowAll hb)
  have Bd := hid (Bd.out.belowAll hb)
  have Bh := hid (Bh.out.belowAll hb)
  have Bk := hid (Bk.out.belowAll hb)
  have Bn := hid (Bn.out.belowAll hb)
  have HOa := hid (HOa.out.below hb)
  have HOb := hid (HOb.out.below (by omega) hb)
  have HOd := hid (HOd.out.below hb)
  have HOh := hid (HOh.out.below (by omega) hb)
  have HOk := hid (HOk.out.below hb)
  have HOn := hid (HOn.out.below (by omega) hb)
  have HB := hid (HB.out.trans (hb.mono HB.out.size))
  have hsv23 : v22.heap.size ≤ v23.heap.size := hb.size
  clear hb
  go_wp2_with (first
    | (with_reducible refine wpList_dst 95 rfl ?_
       refine wpList_load_box rfl 39 _ rfl v11.heap.size rfl _ _ Bd.out _ Try.underlying39 Try.infoPa ?_)
    | (with_reducible refine wpList_dst 96 rfl ?_
       refine wpList_load_box rfl 39 _ rfl v14.heap.size rfl _ _ Bh.out _ Try.underlying39 Try.infoPa ?_)
    | fail)
  refine (same_eq HOd.out.sees HOh.out.at).mono ?_
  rintro e v24 ⟨rfl, hb⟩
  have Bd := hid (Bd.out.belowAll hb)
  have Bh := hid (Bh.out.belowAll hb)
  have Bk := hid (Bk.out.belowAll hb)
  have Bn := hid (Bn.out.belowAll hb)
  have HOd := hid (HOd.out.below hb)
  have HOh := hid (HOh.out.below (by omega) hb)
  have HOk := hid (HOk.out.below hb)
  have HOn := hid (HOn.out.below (by omega) hb)
  have HB := hid (HB.out.trans (hb.mono HB.out.size))
  have hsv24 : v23.heap.size ≤ v24.heap.size := hb.size
  clear hb
  go_wp2_with (first
    | (with_reducible refine wpList_dst 98 rfl ?_
       refine wpList_load_box rfl 39 _ rfl v17.heap.size rfl _ _ Bk.out _ Try.underlying39 Try.infoPa ?_)
    | (with_reducible refine wpList_dst 99 rfl ?_
       refine wpList_load_box rfl 39 _ rfl v20.heap.size rfl _ _ Bn.out _ Try.underlying39 Try.infoPa ?_)
    | fail)
  refine (same_eq HOk.out.sees HOn.out.at).mono ?_
  rintro e v25 ⟨rfl, hb⟩
  have Bk := hid (Bk.out.belowAll hb)
  have Bn := hid (Bn.out.belowAll hb)
  have HOk := hid (HOk.out.below hb)
  have HOn := hid (HOn.out.below (by omega) hb)
  have HB := hid (HB.out.trans (hb.mono HB.out.size))
  have hsv25 : v24.heap.size ≤ v25.heap.size := hb.size
  clear hb
  go_wp2_with fail
  go_ret
  exact ⟨rfl, HB.out⟩
end Go.Proofs.Ytdanfnbclbiidaa
