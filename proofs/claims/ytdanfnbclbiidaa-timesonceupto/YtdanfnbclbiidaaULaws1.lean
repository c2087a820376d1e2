/-
  TimesOnce: a deadline that went by is told once, at the first tick from then on at which that is asked; nobody that is dormant is late.
-/
import Derived.Test.YtdanfnbclbiidaaUAwake
import Derived.Test.YtdanfnbclbiidaaQLaws1
namespace Go.Proofs.Ytdanfnbclbiidaa
open Go.RowKit
set_option linter.unusedVariables false

theorem nat_mem {l : List Nat} {k n : Nat} (hn : l.length = n) (h : k < n) : l.getD k 0 ∈ l := by
  rw [List.getD_eq_getElem?_getD, List.getElem?_eq_getElem (by omega)]
  exact List.getElem_mem _
theorem nat_int {l : List Nat} {k n : Nat} (hn : l.length = n) (h : k < n) : (l.map fun i : Nat => (i : Int)).getD k 0 = ((l.getD k 0 : Nat) : Int) := by
  simp [List.getD, List.getElem?_map, List.getElem?_eq_getElem (show k < l.length by omega)]

set_option maxRecDepth 100000 in
set_option maxHeartbeats 12800000 in
theorem walk_TimesOnce (w : World) (x0 : PaX) (f0 : x0.fit w) (now : Int) (w1 : (Lit.int .i64 now).wf = true) (later : Int) (w2 : (Lit.int .i64 later).wf = true) (hN : 2 * (x0.c.bo.length + x0.c.bu.length + x0.c.se.length + x0.c.ev.length) ≤ 1048576) :
    Calls Try.prog 5 #[x0.val, .int .i64 now, .int .i64 later] w fun e w' => e = .returned (.bool true) ∧ Below w.heap.size w w' := by
  obtain ⟨q, c⟩ := x0
  unfold PaX.val
  simp only at hN ⊢
  have HA := hid f0.1
  have HNm := hid (show c.bo.length + c.bu.length + c.se.length + c.ev.length ≤ 900000 by omega)
  obtain ⟨ap, cpp, hpv, hp1, hp2, hpcell⟩ := HA.out.pr.form
  have hmax : cpp ≤ 9223372036854775807 := hp2
  have HPv := hid hpv
  have HPc := hid hpcell
  clear hpv hp2 hpcell
  clear hN f0 w1 w2
  have HB := hid (Below.refl w.heap.size w)
  go_enter Try.func5, Try.ntmps5
  have FL1 := hid trivial
  go_wp2_with (first
    | (have hfl := FL1.out
       refine wpList_box rfl 39 (.tmp 0) rfl (PaV.cells q).toArray rfl ?_
       intro v1 b h z
       have PB := hid (show BoxAt v1 w.heap.size 39 (PaV.cells q).toArray from b)
       have HB := hid (HB.out.trans (h.mono HB.out.size))
       have hsv1 : w.heap.size + 1 ≤ v1.heap.size := by omega
       clear b h z hfl FL1)
    | fail)
  refine (uawake_any _).mono ?_
  rintro e v2 ⟨rfl, hb⟩
  have PB := hid (PB.out.belowAll hb)
  have HB := hid (HB.out.trans (hb.mono HB.out.size))
  have hsv2 : v1.heap.size ≤ v2.heap.size := hb.size
  clear hb
  go_wp2_with (first
    | (refine wpList_load_box rfl 39 _ rfl w.heap.size rfl _ _ PB.out _ Try.underlying39 Try.infoPa ?_)
    | fail)
  refine (few_tot (HA.out.below HB.out) HNm.out).mono ?_
  rintro e v3 ⟨⟨ok, rfl, hok⟩, hb⟩
  have PB := hid (PB.out.belowAll hb)
  have HB := hid (HB.out.trans (hb.mono HB.out.size))
  have hsv3 : v2.heap.size ≤ v3.heap.size := hb.size
  have HOk := hid hok
  clear hok
  clear hb
  have kPB4 : v3.cell? ⟨w.heap.size, 4, none⟩ = some (.slice ap c.pr.length cpp) := (BoxAt.cell PB.out 4).trans (by show some q.pr.val = _; rw [HPv.out])
  rcases ok with _ | _
  · go_wp2
    go_ret
    exact ⟨rfl, HB.out⟩
  have HT := hid (HOk.out rfl)
  have HSm := hid HT.out.small
  clear HOk
  by_cases hlt : later < now
  · have d1 : decide (later < now) = true := decide_eq_true hlt
    go_wp2
    go_ret
    exact ⟨rfl, HB.out⟩
  have d1 : decide (later < now) = false := decide_eq_false hlt
  clear hlt
  go_wp2_with (first
    | (with_reducible refine wpList_dst 34 rfl ?_
       refine wpList_load_box rfl 39 _ rfl w.heap.size rfl _ _ PB.out _ Try.underlying39 Try.infoPa ?_)
    | fail)
  clear d1
  refine (late_any (now := now) (HA.out.below HB.out) HSm.out).mono ?_
  rintro e v4 ⟨l1, q1, rfl, hl, ho, hb⟩
  have PB := hid (PB.out.belowAll hb)
  have HB := hid (HB.out.trans (hb.mono HB.out.size))
  have hsv4 : v3.heap.size ≤ v4.heap.size := hb.size
  have HL1 := hid hl
  have HO1 := hid ho
  clear hl ho
  clear kPB4
  have kPB4 : v4.cell? ⟨w.heap.size, 4, none⟩ = some (.slice ap c.pr.length cpp) := (BoxAt.cell PB.out 4).trans (by show some q.pr.val = _; rw [HPv.out])
  clear hb
  have HS1 := hid (show (lateC c now).small from ⟨HSm.out.me, by rw [lateC_len]; exact HSm.out.pr, HSm.out.bo, HSm.out.bu, HSm.out.se, HSm.out.ev, HSm.out.sa, HSm.out.qu, HSm.out.ll, HSm.out.gi, HSm.out.bol, HSm.out.bul, HSm.out.sel, HSm.out.evl, HSm.out.qul⟩)
  have FL2 := hid trivial
  have FL3 := hid trivial
  go_wp2_with (first
    | (have hfl := FL2.out
       refine wpList_new rfl 39 rfl _ Try.zeroPa ?_
       intro v5 b h z
       have QB := hid (show BoxAt v5 v4.heap.size 39 (PaV.cells PaV.zero).toArray from b)
       have PB := hid (PB.out.belowAll h)
       have HO1 := hid (HO1.out.below h)
       have HL1 := hid (HL1.out.below h)
       have HB := hid (HB.out.trans (h.mono HB.out.size))
       have hsv5 : v4.heap.size + 1 ≤ v5.heap.size := by omega
       clear b h z hfl FL2)
    | (have hfl := FL3.out
       refine wpList_store_whole rfl 39 _ _ rfl rfl v4.heap.size rfl (PaV.cells q1) rfl _ _ QB.out rfl Try.infoPa (PaV.one _) ?_
       intro v6 b g z
       have hsv6 : v5.heap.size ≤ v6.heap.size := by omega
       have HO1 := hid (HO1.out.turn (Turns.grown (S := fun t => t = 39) QB.out b rfl g))
       have HL1 := hid (OI.turn (S := fun t => t = 39) HL1.out (by decide) (Turns.grown (S := fun t => t = 39) QB.out b rfl g))
       have QB := hid (show BoxAt v6 v4.heap.size 39 (PaV.cells q1).toArray from b)
       have PB := hid (PB.out.grown g (fun e => by have := Option.some.inj e; omega))
       have HB := hid (HB.out.trans (grown_below g (by omega) (by omega)))
       clear b g z hfl FL3)
    | (with_reducible refine wpList_dst 40 rfl ?_
       refine wpList_load_box rfl 39 _ rfl v4.heap.size rfl _ _ QB.out _ Try.underlying39 Try.infoPa ?_)
    | fail)
  refine (late_any (now := now) HO1.out.sees HS1.out).mono ?_
  rintro e v7 ⟨l2, q2, rfl, hl, ho, hb⟩
  have PB := hid (PB.out.belowAll hb)
  have QB := hid (QB.out.belowAll hb)
  have HO1 := hid (HO1.out.below hb)
  have HL1 := hid (HL1.out.below hb)
  have HB := hid (HB.out.trans (hb.mono HB.out.size))
  have hsv7 : v6.heap.size ≤ v7.heap.size := hb.size
  rw [late_again, List.map_nil] at hl
  have HL2 := hid hl
  clear hl ho
  clear hb
  have FL4 := hid trivial
  have FL5 := hid trivial
  go_wp2_with (first
    | (have hfl := FL4.out
       refine wpList_new rfl 39 rfl _ Try.zeroPa ?_
       intro v8 b h z
       have RB := hid (show BoxAt v8 v7.heap.size 39 (PaV.cells PaV.zero).toArray from b)
       have PB := hid (PB.out.belowAll h)
       have QB := hid (QB.out.belowAll h)
       have HO1 := hid (HO1.out.below h)
       have HL1 := hid (HL1.out.below h)
       have HL2 := hid (HL2.out.below h)
       have HB := hid (HB.out.trans (h.mono HB.out.size))
       have hsv8 : v7.heap.size + 1 ≤ v8.heap.size := by omega
       clear b h z hfl FL4)
    | (have hfl := FL5.out
       refine wpList_store_whole rfl 39 _ _ rfl rfl v7.heap.size rfl (PaV.cells q2) rfl _ _ RB.out rfl Try.infoPa (PaV.one _) ?_
       intro v9 b g z
       have hsv9 : v8.heap.size ≤ v9.heap.size := by omega
       have HO1 := hid (HO1.out.turn (Turns.grown (S := fun t => t = 39) RB.out b rfl g))
       have HL1 := hid (OI.turn (S := fun t => t = 39) HL1.out (by decide) (Turns.grown (S := fun t => t = 39) RB.out b rfl g))
       have HL2 := hid (OI.turn (S := fun t => t = 39) HL2.out (by decide) (Turns.grown (S := fun t => t = 39) RB.out b rfl g))
       have RB := hid (show BoxAt v9 v7.heap.size 39 (PaV.cells q2).toArray from b)
       have PB := hid (PB.out.grown g (fun e => by have := Option.some.inj e; omega))
       have QB := hid (QB.out.grown g (fun e => by have := Option.some.inj e; omega))
       have HB := hid (HB.out.trans (grown_below g (by omega) (by omega)))
       clear b g z hfl FL5)
    | (with_reducible refine wpList_dst 46 rfl ?_
       refine wpList_load_box rfl 39 _ rfl v4.heap.size rfl _ _ QB.out _ Try.underlying39 Try.infoPa ?_)
    | fail)
  refine (late_any (now := later) HO1.out.sees HS1.out).mono ?_
  rintro e v10 ⟨l3, q3, rfl, hl, ho, hb⟩
  have PB := hid (PB.out.belowAll hb)
  have QB := hid (QB.out.belowAll hb)
  have RB := hid (RB.out.belowAll hb)
  have HO1 := hid (HO1.out.below hb)
  have HL1 := hid (HL1.out.below hb)
  have HL2 := hid (HL2.out.below hb)
  have HB := hid (HB.out.trans (hb.mono HB.out.size))
  have hsv10 : v9.heap.size ≤ v10.heap.size := hb.size
  have HL3 := hid hl
  clear hl ho
  clear hb
  obtain ⟨a2, c2, e2, _, _, _⟩ := HL2.out.sees.form
  simp only [List.length_nil] at e2
  subst e2
  have HOn := hid (fun (j : Nat) (h : j ∈ lateL c now) => late_once (later := later) h)
  have HMe := hid (fun (j : Nat) (h : j ∈ lateL c now) => mem_lateL.1 h)
  obtain ⟨L1, hL1⟩ : ∃ L, lateL c now = L := ⟨_, rfl⟩
  obtain ⟨L3, hL3⟩ : ∃ L, lateL (lateC c now) later = L := ⟨_, rfl⟩
  rw [hL1] at HL1 HOn HMe
  rw [hL3] at HL3 HOn
  clear hL1 hL3 HL2
  have FL6 := hid trivial
  have FL7 := hid trivial
  go_wp2_with (first
    | (have hfl := FL6.out
       refine wpList_new rfl 39 rfl _ Try.zeroPa ?_
       intro v11 b h z
       have SB := hid (show BoxAt v11 v10.heap.size 39 (PaV.cells PaV.zero).toArray from b)
       have PB := hid (PB.out.belowAll h)
       have HO1 := hid (HO1.out.below h)
       have HL1 := hid (HL1.out.below h)
       have HL3 := hid (HL3.out.below h)
       have HB := hid (HB.out.trans (h.mono HB.out.size))
       have hsv11 : v10.heap.size + 1 ≤ v11.heap.size := by omega
       clear b h z hfl FL6)
    | (have hfl := FL7.out
       refine wpList_store_whole rfl 39 _ _ rfl rfl v10.heap.size rfl (PaV.cells q3) rfl _ _ SB.out rfl Try.infoPa (PaV.one _) ?_
       intro v12 b g z
       have hsv12 : v11.heap.size ≤ v12.heap.size := by omega
       have HO1 := hid (HO1.out.turn (Turns.grown (S := fun t => t = 39) SB.out b rfl g))
       have HL1 := hid (OI.turn (S := fun t => t = 39) HL1.out (by decide) (Turns.grown (S := fun t => t = 39) SB.out b rfl g))
       have HL3 := hid (OI.turn (S := fun t => t = 39) HL3.out (by decide) (Turns.grown (S := fun t => t = 39) SB.out b rfl g))
       have SB := hid (show BoxAt v12 v10.heap.size 39 (PaV.cells q3).toArray from b)
       have PB := hid (PB.out.grown g (fun e => by have := Option.some.inj e; omega))
       have HB := hid (HB.out.trans (grown_below g (by omega) (by omega)))
       clear b g z hfl FL7)
    | fail)
  obtain ⟨a1, c1, e1, h11, h12, h13⟩ := HL1.out.sees.form
  obtain ⟨a3, c3, e3, h31, h32, h33⟩ := HL3.out.sees.form
  simp only [List.length_map] at e1 h13 e3 h33 h11 h31
  obtain ⟨n1, hn1⟩ : ∃ n, L1.length = n := ⟨_, rfl⟩
  obtain ⟨n3, hn3⟩ : ∃ n, L3.length = n := ⟨_, rfl⟩
  rw [hn1] at e1 h13 h11
  rw [hn3] at e3 h33 h31
  subst e1
  subst e3
  have H13 := hid h13
  have H33 := hid h33
  have HN1 := hid hn1
  have HN3 := hid hn3
  have hb1 : n1 ≤ 9223372036854775807 := by unfold maxLen at h12; omega
  have hb3 : n3 ≤ 9223372036854775807 := by unfold maxLen at h32; omega
  have kp : v12.cell? ⟨w.heap.size, 4, none⟩ = some (.slice ap c.pr.length cpp) := (BoxAt.cell PB.out 4).trans (by show some q.pr.val = _; rw [HPv.out])
  obtain ⟨N, hN⟩ : ∃ N, c.pr.length = N := ⟨_, rfl⟩
  rw [hN] at kp HPc HMe hp1
  clear h11 h31 h12 h32 h13 h33 hn1 hn3 hN HL1 HL3 HO1
  go_loopw [15] (fun t wr => ∃ k : Nat, k ≤ n1 ∧ t = .int .i64 k ∧ wr = v12) (fun t _ => n1 - (intOf t).toNat)
  case atStart => exact ⟨0, Nat.zero_le _, rfl, rfl⟩
  case round =>
    obtain ⟨k, hk, rfl, hw⟩ := hrel
    subst hw
    obtain ⟨x1, hx1⟩ : ∃ W, W = wr := ⟨_, rfl⟩
    subst hx1
    by_cases hlt : k < n1
    · have HLt := hid hlt
      obtain ⟨bl, ol, hal, hblw, hcl⟩ := H13.out (by omega)
      obtain ⟨j, hj⟩ : ∃ j, L1.getD k 0 = j := ⟨_, rfl⟩
      have hjm : j ∈ L1 := by rw [← hj]; exact nat_mem HN1.out hlt
      have kc : x1.cell? ⟨bl, ol + k, none⟩ = some (.int .i64 (j : Int)) := by
        rw [hcl k hlt, ← hj, nat_int HN1.out hlt]
      obtain ⟨hjN, hjl⟩ := HMe.out j hjm
      have HON := hid (HOn.out j hjm)
      obtain ⟨r, hr⟩ : ∃ r, c.pr.getD j Px.zero = r := ⟨_, rfl⟩
      rw [hr] at hjl
      obtain ⟨hl1, hl2, hl3, hl4⟩ := (lateX_iff now r).1 hjl
      obtain ⟨bp, op, hap, hbp, hpx⟩ := HPc.out (by omega)
      have HPx := hid (show PxAt x1 bp (op + j * 18) r from PxAt.below (fun i hi => by rw [← hr]; exact hpx j hjN i hi) HB.out hbp)
      subst hal
      subst hap
      have kst := HPx.out.st
      have kdu : x1.cell? ⟨bp, op + j * 18 + 12, none⟩ = some (.int .i64 r.du) := HPx.out 12 (by decide)
      have t1 : (r.st == 0) = false := by simpa using hl1
      have t2 : decide (r.du < 0) = false := decide_eq_false (by omega)
      have t3 : decide (now < r.du) = false := decide_eq_false (by omega)
      have hjI : (j : Int) < (N : Int) := by omega
      clear hl1 hl2 hl3 hl4 hjl hr hj hcl hpx hjm hlt hjN
      go_wp2_with fail
      clear kc kst kdu t1 t2 t3
      go_loopw [17] (fun t wr => ∃ m : Nat, m ≤ n3 ∧ t = .int .i64 m ∧ wr = x1) (fun t _ => n3 - (intOf t).toNat)
      case atStart => exact ⟨0, Nat.zero_le _, rfl, rfl⟩
      case round =>
        obtain ⟨m, hm, rfl, hw⟩ := hrel
        subst hw
        by_cases hlm : m < n3
        · obtain ⟨bm, om, ham, hbm, hcm⟩ := H33.out (by omega)
          subst ham
          obtain ⟨i, hi⟩ : ∃ i, L3.getD m 0 = i := ⟨_, rfl⟩
          have him : i ∈ L3 := by rw [← hi]; exact nat_mem HN3.out hlm
          have km : wr.cell? ⟨bm, om + m, none⟩ = some (.int .i64 (i : Int)) := by
            rw [hcm m hlm, ← hi, nat_int HN3.out hlm]
          have hne : i ≠ j := fun e => HON.out (e ▸ him)
          have t4 : ((i : Int) == (j : Int)) = false := by rw [beq_eq_false_iff_ne]; omega
          have HLm := hid hlm
          clear him hi hcm hne hlm
          go_wp2_with fail
          go_roundw
          case rel => exact ⟨m + 1, by have := HLm.out; omega, by go_num, by first | rfl | trivial⟩
          case measure => have := HLm.out; simp [intOf]; omega
        · obtain rfl : m = n3 := by omega
          clear hlm
          go_wp2_with fail
          go_roundw
          case rel => exact ⟨k + 1, by have := HLt.out; omega, by go_num, by first | rfl | trivial⟩
          case measure => have := HLt.out; simp [intOf]; omega
    · obtain rfl : k = n1 := by omega
      clear hlt
      go_wp2_with fail
      go_ret
      exact ⟨rfl, HB.out⟩
end Go.Proofs.Ytdanfnbclbiidaa
