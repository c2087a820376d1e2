/-
  TimesReplenished: who gets another deadline is late from then on, and not ahead of it.
-/
import Derived.Test.YtdanfnbclbiidaaUAwake
import Derived.Test.YtdanfnbclbiidaaQLaws1
namespace Go.Proofs.Ytdanfnbclbiidaa
open Go.RowKit
set_option linter.unusedVariables false

theorem nat_mem {l : List Nat} {k n : Nat} (hn : l.length = n) (h : k < n) : l.getD k 0 ∈ l := by
  rw [List.getD_eq_getElem?_getD, List.getElem?_eq_getElem (by omega)]
  exact List.getElem_mem _
theorem nat_int {l : List Nat} {k n : Nat} (hn : l.length = n) (h : k < n) : (l.map fun i : Nat => (i : Int)).getD k 0 = ((l.getD k 0 : Nat) : Int) := by
  simp [List.getD, List.getElem?_map, List.getElem?_eq_getElem (show k < l.length by omega)]

set_option maxRecDepth 100000 in
set_option maxHeartbeats 12800000 in
theorem walk_TimesReplenished (w : World) (x0 : PtX) (f0 : x0.fit w) (x1 : PaX) (f1 : x1.fit w) (i : Int) (w2 : (Lit.int .i64 i).wf = true) (ticks : Int) (w3 : (Lit.int .i64 ticks).wf = true) (now : Int) (w4 : (Lit.int .i64 now).wf = true) (hN : 2 * (x1.c.bo.length + x1.c.bu.length + x1.c.se.length + x1.c.ev.length) ≤ 1048576) :
    Calls Try.prog 8 #[x0.val, x1.val, .int .i64 i, .int .i64 ticks, .int .i64 now] w fun e w' => e = .returned (.bool true) ∧ Below w.heap.size w w' := by
  obtain ⟨qc, cc⟩ := x0
  obtain ⟨q, c⟩ := x1
  unfold PtX.val PaX.val
  simp only at hN ⊢
  have HC := hid f0.1
  have HA := hid f1.1
  have HNm := hid (show c.bo.length + c.bu.length + c.se.length + c.ev.length ≤ 900000 by omega)
  obtain ⟨ac, cpc, hcv, hc1, hc2, hcell⟩ := HC.out.pc.form
  have hmaxc : cpc ≤ 9223372036854775807 := hc2
  have HCv := hid hcv
  have HCc := hid hcell
  clear hcv hc2 hcell
  obtain ⟨ap, cpp, hpv, hp1, hp2, hpcell⟩ := HA.out.pr.form
  have hmax : cpp ≤ 9223372036854775807 := hp2
  have HPv := hid hpv
  have HPc := hid hpcell
  clear hpv hp2 hpcell
  clear hN f0 f1 w2 w3 w4
  have HB := hid (Below.refl w.heap.size w)
  go_enter Try.func8, Try.ntmps8
  have FL1 := hid trivial
  have FL2 := hid trivial
  go_wp2_with (first
    | (have hfl := FL1.out
       refine wpList_box rfl 28 (.tmp 0) rfl (Pv.cells qc).toArray rfl ?_
       intro v1 b h z
       have CB := hid (show BoxAt v1 w.heap.size 28 (Pv.cells qc).toArray from b)
       have HB := hid (HB.out.trans (h.mono HB.out.size))
       have hsv1 : w.heap.size + 1 ≤ v1.heap.size := by omega
       clear b h z hfl FL1)
    | (have hfl := FL2.out
       refine wpList_box rfl 39 (.tmp 1) rfl (PaV.cells q).toArray rfl ?_
       intro v2 b h z
       have PB := hid (show BoxAt v2 v1.heap.size 39 (PaV.cells q).toArray from b)
       have CB := hid (CB.out.belowAll h)
       have HB := hid (HB.out.trans (h.mono HB.out.size))
       have hsv2 : v1.heap.size + 1 ≤ v2.heap.size := by omega
       clear b h z hfl FL2)
    | fail)
  refine (uawake_any _).mono ?_
  rintro e v3 ⟨rfl, hb⟩
  have CB := hid (CB.out.belowAll hb)
  have PB := hid (PB.out.belowAll hb)
  have HB := hid (HB.out.trans (hb.mono HB.out.size))
  have hsv3 : v2.heap.size ≤ v3.heap.size := hb.size
  clear hb
  go_wp2_with (first
    | (refine wpList_load_box rfl 39 _ rfl v1.heap.size rfl _ _ PB.out _ Try.underlying39 Try.infoPa ?_)
    | fail)
  refine (few_tot (HA.out.below HB.out) HNm.out).mono ?_
  rintro e v4 ⟨⟨ok, rfl, hok⟩, hb⟩
  have CB := hid (CB.out.belowAll hb)
  have PB := hid (PB.out.belowAll hb)
  have HB := hid (HB.out.trans (hb.mono HB.out.size))
  have hsv4 : v3.heap.size ≤ v4.heap.size := hb.size
  have HOk := hid hok
  clear hok
  clear hb
  have kCB2 : v4.cell? ⟨w.heap.size, 2, none⟩ = some (.slice ac cc.pc.length cpc) := (BoxAt.cell CB.out 2).trans (by show some qc.v2.val = _; rw [HCv.out])
  have kPB4 : v4.cell? ⟨v1.heap.size, 4, none⟩ = some (.slice ap c.pr.length cpp) := (BoxAt.cell PB.out 4).trans (by show some q.pr.val = _; rw [HPv.out])
  rcases ok with _ | _
  · go_wp2
    go_ret
    exact ⟨rfl, HB.out⟩
  have HT := hid (HOk.out rfl)
  have HSm := hid HT.out.small
  clear HOk
  by_cases hbig : (20 : Int) < (cc.pc.length : Int)
  · go_wp2
    go_ret
    exact ⟨rfl, HB.out⟩
  have hd1 : decide ((20 : Int) < (cc.pc.length : Int)) = false := decide_eq_false hbig
  have HBg := hid (show cc.pc.length ≤ 20 by omega)
  clear hbig
  by_cases hn0 : now < 0
  · have hd2 : decide (now < 0) = true := decide_eq_true hn0
    go_wp2
    go_ret
    exact ⟨rfl, HB.out⟩
  have hd2 : decide (now < 0) = false := decide_eq_false hn0
  by_cases hn1 : 1099511627776 < now
  · have hd3 : decide (1099511627776 < now) = true := decide_eq_true hn1
    go_wp2
    go_ret
    exact ⟨rfl, HB.out⟩
  have hd3 : decide (1099511627776 < now) = false := decide_eq_false hn1
  have HNw := hid (show 0 ≤ now ∧ now ≤ 1099511627776 by omega)
  clear hn0 hn1
  go_wp2_with (first
    | (with_reducible refine wpList_dst 48 rfl ?_
       refine wpList_load_box rfl 28 _ rfl w.heap.size rfl _ _ CB.out _ Try.underlying28 Try.infoPv ?_)
    | (with_reducible refine wpList_dst 49 rfl ?_
       refine wpList_load_box rfl 39 _ rfl v1.heap.size rfl _ _ PB.out _ Try.underlying39 Try.infoPa ?_)
    | fail)
  clear hd1 hd2 hd3 kCB2 kPB4
  refine (repl_any (i := i) (ticks := ticks) (now := now) (HC.out.below HB.out) (HA.out.below HB.out) HSm.out).mono ?_
  rintro e v5 ⟨q1, rfl, ho, hb⟩
  have CB := hid (CB.out.belowAll hb)
  have PB := hid (PB.out.belowAll hb)
  have HB := hid (HB.out.trans (hb.mono HB.out.size))
  have hsv5 : v4.heap.size ≤ v5.heap.size := hb.size
  have HO1 := hid ho
  clear ho
  clear hb
  have HOk := hid (fun h : (replP cc c i ticks now).2 = 0 => repl_ok h)
  obtain ⟨D, hD⟩ : ∃ D, (replP cc c i ticks now).1 = D := ⟨_, rfl⟩
  obtain ⟨cd, hcd⟩ : ∃ cd, (replP cc c i ticks now).2 = cd := ⟨_, rfl⟩
  rw [hD] at HO1 HOk
  rw [hcd] at HOk ⊢
  clear hD hcd
  by_cases hcode : cd = 0
  rotate_left
  · have t1 : (cd != 0) = true := by simpa using hcode
    clear hcode
    have FL3 := hid trivial
    have FL4 := hid trivial
    go_wp2_with (first
      | (have hfl := FL3.out
         refine wpList_new rfl 39 rfl _ Try.zeroPa ?_
         intro v6 b h z
         have QB := hid (show BoxAt v6 v5.heap.size 39 (PaV.cells PaV.zero).toArray from b)
         have CB := hid (CB.out.belowAll h)
         have PB := hid (PB.out.belowAll h)
         have HO1 := hid (HO1.out.below h)
         have HB := hid (HB.out.trans (h.mono HB.out.size))
         have hsv6 : v5.heap.size + 1 ≤ v6.heap.size := by omega
         clear b h z hfl FL3)
      | (have hfl := FL4.out
         refine wpList_store_whole rfl 39 _ _ rfl rfl v5.heap.size rfl (PaV.cells q1) rfl _ _ QB.out rfl Try.infoPa (PaV.one _) ?_
         intro v7 b g z
         have hsv7 : v6.heap.size ≤ v7.heap.size := by omega
         have HO1 := hid (HO1.out.turn (Turns.grown (S := fun t => t = 39) QB.out b rfl g))
         have QB := hid (show BoxAt v7 v5.heap.size 39 (PaV.cells q1).toArray from b)
         have CB := hid (CB.out.grown g (fun e => by have := Option.some.inj e; omega))
         have PB := hid (PB.out.grown g (fun e => by have := Option.some.inj e; omega))
         have HB := hid (HB.out.trans (grown_below g (by omega) (by omega)))
         clear b g z hfl FL4)
      | fail)
    go_ret
    exact ⟨rfl, HB.out⟩
  have t1 : (cd != 0) = false := by simpa using hcode
  obtain ⟨k, hki, hk, hkc, ht1, ht2, hst, hDe⟩ := HOk.out hcode
  subst hki
  subst hcode
  obtain ⟨r, hr⟩ : ∃ r, c.pr.getD k Px.zero = r := ⟨_, rfl⟩
  rw [hr] at hst hDe
  obtain ⟨bp, op, hap, hbp, hpx⟩ := HPc.out (by omega)
  subst hap
  have HPx := hid (show PxAt w bp (op + k * 18) r from fun j hj => by rw [← hr]; exact hpx k hk j hj)
  have HR := hid hr
  have HK := hid hk
  have HTk := hid (And.intro ht1 ht2)
  have HSt := hid hst
  have HDe := hid hDe
  have hkI : (k : Int) < (c.pr.length : Int) := by omega
  clear hpx hr hk hkc ht1 ht2 hst hDe HOk HPc
  have kPB4 : v5.cell? ⟨v1.heap.size, 4, none⟩ = some (.slice (some ⟨bp, op, none⟩) c.pr.length cpp) := (BoxAt.cell PB.out 4).trans (by show some q.pr.val = _; rw [HPv.out])
  have kst : v5.cell? ⟨bp, op + k * 18, none⟩ = some (.int .i64 r.st) := ((HPx.out.below HB.out hbp).st)
  by_cases hw2 : r.st = 2
  · have t2 : (r.st == 2) = true := by simpa using hw2
    clear hw2
    have FL5 := hid trivial
    have FL6 := hid trivial
    go_wp2_with (first
      | (have hfl := FL5.out
         refine wpList_new rfl 39 rfl _ Try.zeroPa ?_
         intro v8 b h z
         have QB := hid (show BoxAt v8 v5.heap.size 39 (PaV.cells PaV.zero).toArray from b)
         have CB := hid (CB.out.belowAll h)
         have PB := hid (PB.out.belowAll h)
         have HO1 := hid (HO1.out.below h)
         have HB := hid (HB.out.trans (h.mono HB.out.size))
         have hsv8 : v5.heap.size + 1 ≤ v8.heap.size := by omega
         clear kPB4
         have kPB4 : v8.cell? ⟨v1.heap.size, 4, none⟩ = some (.slice (some ⟨bp, op, none⟩) c.pr.length cpp) := (BoxAt.cell PB.out 4).trans (by show some q.pr.val = _; rw [HPv.out])
         clear kst
         have kst : v8.cell? ⟨bp, op + k * 18, none⟩ = some (.int .i64 r.st) := ((HPx.out.below HB.out hbp).st)
         clear b h z hfl FL5)
      | (have hfl := FL6.out
         refine wpList_store_whole rfl 39 _ _ rfl rfl v5.heap.size rfl (PaV.cells q1) rfl _ _ QB.out rfl Try.infoPa (PaV.one _) ?_
         intro v9 b g z
         have hsv9 : v8.heap.size ≤ v9.heap.size := by omega
         have HO1 := hid (HO1.out.turn (Turns.grown (S := fun t => t = 39) QB.out b rfl g))
         have QB := hid (show BoxAt v9 v5.heap.size 39 (PaV.cells q1).toArray from b)
         have CB := hid (CB.out.grown g (fun e => by have := Option.some.inj e; omega))
         have PB := hid (PB.out.grown g (fun e => by have := Option.some.inj e; omega))
         have HB := hid (HB.out.trans (grown_below g (by omega) (by omega)))
         clear kPB4
         have kPB4 : v9.cell? ⟨v1.heap.size, 4, none⟩ = some (.slice (some ⟨bp, op, none⟩) c.pr.length cpp) := (BoxAt.cell PB.out 4).trans (by show some q.pr.val = _; rw [HPv.out])
         clear kst
         have kst : v9.cell? ⟨bp, op + k * 18, none⟩ = some (.int .i64 r.st) := ((HPx.out.below HB.out hbp).st)
         clear b g z hfl FL6)
      | fail)
    go_ret
    exact ⟨rfl, HB.out⟩
  · have t2 : (r.st == 2) = false := by simpa using hw2
    have HW2 := hid hw2
    clear hw2
    have hwk : wrap64 (now + ticks) = now + ticks := by have h1 := HNw.out; have h2 := HTk.out; exact wrap_in (by omega) (by omega)
    have hwl : wrap64 (now + ticks - 1) = now + ticks - 1 := by have h1 := HNw.out; have h2 := HTk.out; exact wrap_in (by omega) (by omega)
    have HLt := hid (fun (n : Int) => repl_late (u := now + ticks) (now := n) HK.out (by rw [HR.out]; exact HSt.out) (by rw [HR.out]; exact HW2.out) (by have h1 := HNw.out; have h2 := HTk.out; omega))
    rw [hwk] at HDe
    rw [HR.out, ← HDe.out] at HLt
    have hlo : 0 ≤ now + ticks ∧ now + ticks ≤ 1099511631872 := by have h1 := HNw.out; have h2 := HTk.out; omega
    have hlo1 : 0 ≤ now := HNw.out.1
    have hlo2 : 1 ≤ ticks := HTk.out.1
    have HDs := hid (show D.small from by rw [HDe.out]; exact ⟨HSm.out.me, by simpa using HSm.out.pr, HSm.out.bo, HSm.out.bu, HSm.out.se, HSm.out.ev, HSm.out.sa, HSm.out.qu, HSm.out.ll, HSm.out.gi, HSm.out.bol, HSm.out.bul, HSm.out.sel, HSm.out.evl, HSm.out.qul⟩)
    clear HDe
    have FL7 := hid trivial
    have FL8 := hid trivial
    go_wp2_with (first
      | (have hfl := FL7.out
         refine wpList_new rfl 39 rfl _ Try.zeroPa ?_
         intro v10 b h z
         have QB := hid (show BoxAt v10 v5.heap.size 39 (PaV.cells PaV.zero).toArray from b)
         have CB := hid (CB.out.belowAll h)
         have PB := hid (PB.out.belowAll h)
         have HO1 := hid (HO1.out.below h)
         have HB := hid (HB.out.trans (h.mono HB.out.size))
         have hsv10 : v5.heap.size + 1 ≤ v10.heap.size := by omega
         clear kPB4
         have kPB4 : v10.cell? ⟨v1.heap.size, 4, none⟩ = some (.slice (some ⟨bp, op, none⟩) c.pr.length cpp) := (BoxAt.cell PB.out 4).trans (by show some q.pr.val = _; rw [HPv.out])
         clear kst
         have kst : v10.cell? ⟨bp, op + k * 18, none⟩ = some (.int .i64 r.st) := ((HPx.out.below HB.out hbp).st)
         clear b h z hfl FL7)
      | (have hfl := FL8.out
         refine wpList_store_whole rfl 39 _ _ rfl rfl v5.heap.size rfl (PaV.cells q1) rfl _ _ QB.out rfl Try.infoPa (PaV.one _) ?_
         intro v11 b g z
         have hsv11 : v10.heap.size ≤ v11.heap.size := by omega
         have HO1 := hid (HO1.out.turn (Turns.grown (S := fun t => t = 39) QB.out b rfl g))
         have QB := hid (show BoxAt v11 v5.heap.size 39 (PaV.cells q1).toArray from b)
         have CB := hid (CB.out.grown g (fun e => by have := Option.some.inj e; omega))
         have PB := hid (PB.out.grown g (fun e => by have := Option.some.inj e; omega))
         have HB := hid (HB.out.trans (grown_below g (by omega) (by omega)))
         clear kPB4
         have kPB4 : v11.cell? ⟨v1.heap.size, 4, none⟩ = some (.slice (some ⟨bp, op, none⟩) c.pr.length cpp) := (BoxAt.cell PB.out 4).trans (by show some q.pr.val = _; rw [HPv.out])
         clear kst
         have kst : v11.cell? ⟨bp, op + k * 18, none⟩ = some (.int .i64 r.st) := ((HPx.out.below HB.out hbp).st)
         clear b g z hfl FL8)
      | (with_reducible refine wpList_dst 92 rfl ?_
         refine wpList_load_box rfl 39 _ rfl v5.heap.size rfl _ _ QB.out _ Try.underlying39 Try.infoPa ?_)
      | fail)
    clear kPB4 kst t1 t2
    refine (late_any (now := now + ticks - 1) HO1.out.sees HDs.out).mono ?_
    rintro e v12 ⟨l1, q2, rfl, hl, ho, hb⟩
    have CB := hid (CB.out.belowAll hb)
    have PB := hid (PB.out.belowAll hb)
    have QB := hid (QB.out.belowAll hb)
    have HO1 := hid (HO1.out.below hb)
    have HB := hid (HB.out.trans (hb.mono HB.out.size))
    have hsv12 : v11.heap.size ≤ v12.heap.size := hb.size
    have HL1 := hid hl
    have HO2 := hid ho
    clear hl ho
    clear hb
    have FL9 := hid trivial
    have FL10 := hid trivial
    go_wp2_with (first
      | (have hfl := FL9.out
         refine wpList_new rfl 39 rfl _ Try.zeroPa ?_
         intro v13 b h z
         have RB := hid (show BoxAt v13 v12.heap.size 39 (PaV.cells PaV.zero).toArray from b)
         have CB := hid (CB.out.belowAll h)
         have PB := hid (PB.out.belowAll h)
         have QB := hid (QB.out.belowAll h)
         have HO1 := hid (HO1.out.below h)
         have HL1 := hid (HL1.out.below h)
         have HB := hid (HB.out.trans (h.mono HB.out.size))
         have hsv13 : v12.heap.size + 1 ≤ v13.heap.size := by omega
         clear b h z hfl FL9)
      | (have hfl := FL10.out
         refine wpList_store_whole rfl 39 _ _ rfl rfl v12.heap.size rfl (PaV.cells q2) rfl _ _ RB.out rfl Try.infoPa (PaV.one _) ?_
         intro v14 b g z
         have hsv14 : v13.heap.size ≤ v14.heap.size := by omega
         have HO1 := hid (HO1.out.turn (Turns.grown (S := fun t => t = 39) RB.out b rfl g))
         have HL1 := hid (OI.turn (S := fun t => t = 39) HL1.out (by decide) (Turns.grown (S := fun t => t = 39) RB.out b rfl g))
         have RB := hid (show BoxAt v14 v12.heap.size 39 (PaV.cells q2).toArray from b)
         have CB := hid (CB.out.grown g (fun e => by have := Option.some.inj e; omega))
         have PB := hid (PB.out.grown g (fun e => by have := Option.some.inj e; omega))
         have QB := hid (QB.out.grown g (fun e => by have := Option.some.inj e; omega))
         have HB := hid (HB.out.trans (grown_below g (by omega) (by omega)))
         clear b g z hfl FL10)
      | (with_reducible refine wpList_dst 101 rfl ?_
         refine wpList_load_box rfl 39 _ rfl v5.heap.size rfl _ _ QB.out _ Try.underlying39 Try.infoPa ?_)
      | fail)
    refine (late_any (now := now + ticks) HO1.out.sees HDs.out).mono ?_
    rintro e v15 ⟨l3, q3, rfl, hl, ho, hb⟩
    have CB := hid (CB.out.belowAll hb)
    have PB := hid (PB.out.belowAll hb)
    have QB := hid (QB.out.belowAll hb)
    have RB := hid (RB.out.belowAll hb)
    have HO1 := hid (HO1.out.below hb)
    have HL1 := hid (HL1.out.below hb)
    have HB := hid (HB.out.trans (hb.mono HB.out.size))
    have hsv15 : v14.heap.size ≤ v15.heap.size := hb.size
    have HL3 := hid hl
    clear hl ho HO2
    clear hb
    have HNo := hid (show ¬ k ∈ lateL D (now + ticks - 1) from fun h => by have := (HLt.out _).1 h; omega)
    have HYes := hid (show k ∈ lateL D (now + ticks) from (HLt.out _).2 (Int.le_refl _))
    obtain ⟨L1, hL1⟩ : ∃ L, lateL D (now + ticks - 1) = L := ⟨_, rfl⟩
    obtain ⟨L3, hL3⟩ : ∃ L, lateL D (now + ticks) = L := ⟨_, rfl⟩
    rw [hL1] at HL1 HNo
    rw [hL3] at HL3 HYes
    clear hL1 hL3 HLt hwk hwl hlo hlo1 hlo2
    have FL11 := hid trivial
    have FL12 := hid trivial
    go_wp2_with (first
      | (have hfl := FL11.out
         refine wpList_new rfl 39 rfl _ Try.zeroPa ?_
         intro v16 b h z
         have SB := hid (show BoxAt v16 v15.heap.size 39 (PaV.cells PaV.zero).toArray from b)
         have CB := hid (CB.out.belowAll h)
         have PB := hid (PB.out.belowAll h)
         have HO1 := hid (HO1.out.below h)
         have HL1 := hid (HL1.out.below h)
         have HL3 := hid (HL3.out.below h)
         have HB := hid (HB.out.trans (h.mono HB.out.size))
         have hsv16 : v15.heap.size + 1 ≤ v16.heap.size := by omega
         clear b h z hfl FL11)
      | (have hfl := FL12.out
         refine wpList_store_whole rfl 39 _ _ rfl rfl v15.heap.size rfl (PaV.cells q3) rfl _ _ SB.out rfl Try.infoPa (PaV.one _) ?_
         intro v17 b g z
         have hsv17 : v16.heap.size ≤ v17.heap.size := by omega
         have HO1 := hid (HO1.out.turn (Turns.grown (S := fun t => t = 39) SB.out b rfl g))
         have HL1 := hid (OI.turn (S := fun t => t = 39) HL1.out (by decide) (Turns.grown (S := fun t => t = 39) SB.out b rfl g))
         have HL3 := hid (OI.turn (S := fun t => t = 39) HL3.out (by decide) (Turns.grown (S := fun t => t = 39) SB.out b rfl g))
         have SB := hid (show BoxAt v17 v15.heap.size 39 (PaV.cells q3).toArray from b)
         have CB := hid (CB.out.grown g (fun e => by have := Option.some.inj e; omega))
         have PB := hid (PB.out.grown g (fun e => by have := Option.some.inj e; omega))
         have HB := hid (HB.out.trans (grown_below g (by omega) (by omega)))
         clear b g z hfl FL12)
      | fail)
    obtain ⟨a1, c1, e1, h11, h12, h13⟩ := HL1.out.sees.form
    obtain ⟨a3, c3, e3, h31, h32, h33⟩ := HL3.out.sees.form
    simp only [List.length_map] at e1 h13 e3 h33 h11 h31
    obtain ⟨n1, hn1⟩ : ∃ n, L1.length = n := ⟨_, rfl⟩
    obtain ⟨n3, hn3⟩ : ∃ n, L3.length = n := ⟨_, rfl⟩
    rw [hn1] at e1 h13 h11
    rw [hn3] at e3 h33 h31
    subst e1
    subst e3
    have H13 := hid h13
    have H33 := hid h33
    have HN1 := hid hn1
    have HN3 := hid hn3
    have hb1 : n1 ≤ 9223372036854775807 := by unfold maxLen at h12; omega
    have hb3 : n3 ≤ 9223372036854775807 := by unfold maxLen at h32; omega
    clear h11 h31 h12 h32 h13 h33 hn1 hn3 HL1 HL3 HO1 hkI
    go_loopw [19, 20] (fun s t wr => ∃ m : Nat, m ≤ n1 ∧ s = .bool false ∧ t = .int .i64 m ∧ wr = v17) (fun _ t _ => n1 - (intOf t).toNat)
    case atStart => exact ⟨0, Nat.zero_le _, rfl, rfl, rfl⟩
    case round =>
      obtain ⟨m, hm, rfl, rfl, hw⟩ := hrel
      subst hw
      obtain ⟨x1, hx1⟩ : ∃ W, W = wr := ⟨_, rfl⟩
      subst hx1
      by_cases hlm : m < n1
      · obtain ⟨bm, om, ham, hbm, hcm⟩ := H13.out (by omega)
        subst ham
        obtain ⟨j, hj⟩ : ∃ j, L1.getD m 0 = j := ⟨_, rfl⟩
        have hjm : j ∈ L1 := by rw [← hj]; exact nat_mem HN1.out hlm
        have km : x1.cell? ⟨bm, om + m, none⟩ = some (.int .i64 (j : Int)) := by
          rw [hcm m hlm, ← hj, nat_int HN1.out hlm]
        have hne : j ≠ k := fun e => HNo.out (e ▸ hjm)
        have t4 : ((j : Int) == (k : Int)) = false := by rw [beq_eq_false_iff_ne]; omega
        have HLm := hid hlm
        clear hjm hj hcm hne hlm
        go_wp2_with fail
        go_roundw
        case rel => exact ⟨m + 1, by have := HLm.out; omega, by first | rfl | trivial, by go_num, by first | rfl | trivial⟩
        case measure => have := HLm.out; simp [intOf]; omega
      · obtain rfl : m = n1 := by omega
        clear hlm
        go_wp2_with fail
        go_loopw [21, 22] (fun s t wr => ∃ (m : Nat) (B : Bool), m ≤ n3 ∧ s = .bool B ∧ t = .int .i64 m ∧ Hid (B = true ↔ ∃ p, p < m ∧ L3.getD p 0 = k) ∧ wr = x1) (fun _ t _ => n3 - (intOf t).toNat)
        case atStart => exact ⟨0, false, Nat.zero_le _, rfl, rfl, hid ⟨fun h => (by cases h), fun ⟨p, hp, _⟩ => absurd hp (Nat.not_lt_zero _)⟩, rfl⟩
        case round =>
          obtain ⟨m, B, hm, rfl, rfl, HBB, hw⟩ := hrel
          subst hw
          by_cases hlm : m < n3
          · have HLm := hid hlm
            cases B with
            | true =>
              clear hlm
              go_wp2_with fail
              go_roundw
              case rel => exact ⟨m + 1, true, by have := HLm.out; omega, rfl, by go_num, hid ⟨fun _ => let ⟨p, hp, e⟩ := HBB.out.1 rfl; ⟨p, by omega, e⟩, fun _ => rfl⟩, by first | rfl | trivial⟩
              case measure => have := HLm.out; simp [intOf]; omega
            | false =>
              obtain ⟨bm, om, ham, hbm, hcm⟩ := H33.out (by omega)
              subst ham
              obtain ⟨j, hj⟩ : ∃ j, L3.getD m 0 = j := ⟨_, rfl⟩
              have km : wr.cell? ⟨bm, om + m, none⟩ = some (.int .i64 (j : Int)) := by
                rw [hcm m hlm, ← hj, nat_int HN3.out hlm]
              have HJ := hid hj
              clear hj hcm hlm
              by_cases hjk : j = k
              · have t4 : ((j : Int) == (k : Int)) = true := by rw [hjk]; exact beq_self_eq_true _
                have HJk := hid hjk
                clear hjk
                go_wp2_with fail
                go_roundw
                case rel => exact ⟨m + 1, true, by have := HLm.out; omega, by first | rfl | trivial, by go_num, hid ⟨fun _ => ⟨m, by omega, HJ.out.trans HJk.out⟩, fun _ => rfl⟩, by first | rfl | trivial⟩
                case measure => have := HLm.out; simp [intOf]; omega
              · have t4 : ((j : Int) == (k : Int)) = false := by rw [beq_eq_false_iff_ne]; omega
                have HJk := hid hjk
                clear hjk
                go_wp2_with fail
                go_roundw
                case rel =>
                  exact ⟨m + 1, false, by have := HLm.out; omega, by first | rfl | trivial, by go_num, hid ⟨fun h => (by cases h), fun ⟨p, hp, e⟩ => by
                    rcases Nat.lt_or_ge p m with h | h
                    · exact HBB.out.2 ⟨p, h, e⟩
                    · have hpm : p = m := by omega
                      rw [hpm, HJ.out] at e
                      exact absurd e HJk.out⟩, by first | rfl | trivial⟩
                case measure => have := HLm.out; simp [intOf]; omega
          · obtain rfl : m = n3 := by omega
            have hBt : B = true := HBB.out.2 (by
              obtain ⟨p, hp, e⟩ := List.getElem_of_mem HYes.out
              exact ⟨p, by rw [← HN3.out]; exact hp, by rw [List.getD_eq_getElem?_getD, List.getElem?_eq_getElem hp, e]; rfl⟩)
            subst hBt
            clear hlm
            go_wp2_with fail
            go_ret
            exact ⟨rfl, HB.out⟩
end Go.Proofs.Ytdanfnbclbiidaa
