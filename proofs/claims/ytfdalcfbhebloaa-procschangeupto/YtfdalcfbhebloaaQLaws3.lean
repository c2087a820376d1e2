/-
  ProcsChange: what any partition becomes when any process is started, stopped, suspended, resumed, or gets a priority, and what that returns, is what the document says.
-/
import Derived.Test.YtfdalcfbhebloaaQLaws1
import Derived.Test.YtfdalcfbhebloaaQSame3E
import Derived.Test.YtfdalcfbhebloaaQShould
namespace Go.Proofs.Ytfdalcfbhebloaa
open Go.RowKit
set_option linter.unusedVariables false

set_option maxRecDepth 100000 in
set_option maxHeartbeats 6400000 in
theorem walk_ProcsChange (w : World) (x0 : PtX) (f0 : x0.fit w) (x1 : PaX) (f1 : x1.fit w) (i : Int) (w2 : (Lit.int .i64 i).wf = true) (n : Int) (w3 : (Lit.int .i64 n).wf = true) (hN : 2 * (x1.c.bo.length + x1.c.bu.length + x1.c.se.length + x1.c.ev.length) ≤ 1048576) :
    Calls Try.prog 3 #[x0.val, x1.val, .int .i64 i, .int .i64 n] w fun e w' => e = .returned (.bool true) ∧ Below w.heap.size w w' := by
  obtain ⟨qc, cc⟩ := x0
  obtain ⟨q, c⟩ := x1
  unfold PtX.val PaX.val
  simp only at hN ⊢
  have HC := hid f0.1
  have HA := hid f1.1
  have HNm := hid (show c.bo.length + c.bu.length + c.se.length + c.ev.length ≤ 900000 by omega)
  clear f0 f1 hN w2 w3
  obtain ⟨ac, cpc, hcv, hc1, hc2, hcell⟩ := HC.out.pc.form
  obtain ⟨ap, cpp, hpv, hp1, hp2, hpcell⟩ := HA.out.pr.form
  have hmax : cpp ≤ 9223372036854775807 := hp2
  have HCv := hid hcv
  have HPv := hid hpv
  have HPc := hid hpcell
  clear hcv hc1 hc2 hcell hpv hp2 hpcell
  go_enter Try.func3, Try.ntmps3
  go_wp2_with (first
    | (refine wpList_box rfl 28 (.tmp 0) rfl qc.cells.toArray rfl ?_
       intro v1 b1 h1 z1
       have CB := hid b1
       have HB := hid h1
       clear b1 h1)
    | (refine wpList_box rfl 39 (.tmp 1) rfl q.cells.toArray rfl ?_
       intro v2 b2 h2 z2
       rw [z1] at b2
       have PB := hid (show PaB v2 (w.heap.size + 1) q from b2)
       have CB := hid (CB.out.belowAll h2)
       have HB := hid (HB.out.trans (h2.mono (by omega)))
       have hsz : w.heap.size + 2 ≤ v2.heap.size := by omega
       clear b2 h2)
    | fail)
  refine (qawake_any _).mono ?_
  rintro e v3 ⟨rfl, hb⟩
  have PB := hid (show PaB v3 (w.heap.size + 1) q from BoxAt.belowAll PB.out hb)
  have CB := hid (CB.out.belowAll hb)
  have HB := hid (HB.out.trans (hb.mono HB.out.size))
  have hsz3 : w.heap.size + 2 ≤ v3.heap.size := by have := hb.size; omega
  clear hb hsz z1 z2
  go_wp2_with (first
    | (refine wpList_load_box rfl 39 _ rfl (w.heap.size + 1) rfl _ _ PB.out _ Try.underlying39 Try.infoPa ?_)
    | fail)
  refine (few_tot (HA.out.below HB.out) HNm.out).mono ?_
  rintro e v4 ⟨⟨ok, rfl, hok⟩, hb⟩
  have PB := hid (show PaB v4 (w.heap.size + 1) q from BoxAt.belowAll PB.out hb)
  have CB := hid (CB.out.belowAll hb)
  have HB := hid (HB.out.trans (hb.mono HB.out.size))
  have hsz4 : w.heap.size + 2 ≤ v4.heap.size := by have := hb.size; omega
  have HOk := hid hok
  have kcc : v4.cell? ⟨w.heap.size, 2, none⟩ = some (.slice ac cc.pc.length cpc) := (CB.out.cell 2).trans (by show some qc.v2.val = _; rw [HCv.out])
  clear hb hok hsz3
  rcases ok with _ | _
  · go_wp2
    go_ret
    exact ⟨rfl, HB.out⟩
  have HT := hid (HOk.out rfl)
  have HSm := hid HT.out.small
  by_cases hbig : (20 : Int) < (cc.pc.length : Int)
  · go_wp2
    go_ret
    exact ⟨rfl, HB.out⟩
  have hd1 : decide ((20 : Int) < (cc.pc.length : Int)) = false := decide_eq_false hbig
  have PB := hid (show BoxAt v4 (w.heap.size + 1) 39 (PaV.cells q).toArray from PB.out)
  go_wp2_with fail
  clear hd1 hbig kcc
  go_loopw [11] (fun t wr => ∃ k : Nat, k ≤ 5 ∧ t = .int .i64 k ∧ Hid (BoxAt wr w.heap.size 28 (Pv.cells qc).toArray) ∧ Hid (BoxAt wr (w.heap.size + 1) 39 (PaV.cells q).toArray) ∧ Hid (Below w.heap.size w wr) ∧ v4.heap.size ≤ wr.heap.size) (fun t _ => 5 - (intOf t).toNat)
  case atStart => exact ⟨0, by omega, rfl, CB, PB, HB, Nat.le_refl _⟩
  case round =>
    clear CB PB HB
    obtain ⟨k, hk, rfl, CB, PB, HB, hsr⟩ := hrel
    by_cases hlt : k < 5
    · have HLt := hid hlt
      go_wp2_with (first
        | (refine wpList_load_box rfl 28 _ rfl w.heap.size rfl _ _ CB.out _ Try.underlying28 Try.infoPv ?_)
        | (refine wpList_load_box rfl 39 _ rfl (w.heap.size + 1) rfl _ _ PB.out _ Try.underlying39 Try.infoPa ?_)
        | fail)
      obtain ⟨⟨D, kd⟩, hD⟩ : ∃ D, changeP cc c (k : Int) i n = D := ⟨_, rfl⟩
      have HD := hid hD
      clear hD
      refine (lchange_any (k := (k : Int)) (i := i) (n := n) (HC.out.below HB.out) (HA.out.below HB.out) HSm.out).mono ?_
      rintro e v1 ⟨qa, rfl, ho, hb⟩
      have CB := hid (CB.out.belowAll hb)
      have PB := hid (PB.out.belowAll hb)
      have HB := hid (HB.out.trans (hb.mono HB.out.size))
      have hsv1 : wr.heap.size ≤ v1.heap.size := hb.size
      rw [HD.out] at ho ⊢
      have HOa := hid ho
      clear ho
      clear hb
      have FL1 := hid trivial
      have FL2 := hid trivial
      go_wp2_with (first
        | (have hfl := FL1.out
           refine wpList_new rfl 39 rfl _ Try.zeroPa ?_
           intro v2 b h z
           have AB := hid (show BoxAt v2 v1.heap.size 39 (PaV.cells PaV.zero).toArray from b)
           have CB := hid (CB.out.belowAll h)
           have PB := hid (PB.out.belowAll h)
           have HOa := hid (HOa.out.below h)
           have HB := hid (HB.out.trans (h.mono HB.out.size))
           have hsv2 : v1.heap.size + 1 ≤ v2.heap.size := by omega
           clear b h z hfl FL1)
        | (have hfl := FL2.out
           refine wpList_store_whole rfl 39 _ _ rfl rfl v1.heap.size rfl (PaV.cells qa) rfl _ _ AB.out rfl Try.infoPa (PaV.one _) ?_
           intro v3 b g z
           have hsv3 : v2.heap.size ≤ v3.heap.size := by omega
           have HOa := hid (HOa.out.turn (Turns.grown (S := fun t => t = 39) AB.out b rfl g))
           have AB := hid (show BoxAt v3 v1.heap.size 39 (PaV.cells qa).toArray from b)
           have CB := hid (CB.out.grown g (fun e => by have := Option.some.inj e; omega))
           have PB := hid (PB.out.grown g (fun e => by have := Option.some.inj e; omega))
           have HB := hid (HB.out.trans (grown_below g (by omega) (by omega)))
           clear b g z hfl FL2)
        | (refine wpList_load_box rfl 28 _ rfl w.heap.size rfl _ _ CB.out _ Try.underlying28 Try.infoPv ?_)
        | (refine wpList_load_box rfl 39 _ rfl (w.heap.size + 1) rfl _ _ PB.out _ Try.underlying39 Try.infoPa ?_)
        | fail)
      refine (rshould_any (k := (k : Int)) (i := i) (n := n) HC.out HA.out HB.out HSm.out).mono ?_
      rintro e v4 ⟨qb, rfl, ho, hb⟩
      have CB := hid (CB.out.belowAll hb)
      have PB := hid (PB.out.belowAll hb)
      have AB := hid (AB.out.belowAll hb)
      have HOa := hid (HOa.out.below hb)
      have HB := hid (HB.out.trans (hb.mono HB.out.size))
      have hsv4 : v3.heap.size ≤ v4.heap.size := hb.size
      rw [HD.out] at ho ⊢
      have HOb := hid ho
      clear ho
      clear hb
      have FL3 := hid trivial
      have FL4 := hid trivial
      go_wp2_with (first
        | (have hfl := FL3.out
           refine wpList_new rfl 39 rfl _ Try.zeroPa ?_
           intro v5 b h z
           have BB := hid (show BoxAt v5 v4.heap.size 39 (PaV.cells PaV.zero).toArray from b)
           have CB := hid (CB.out.belowAll h)
           have PB := hid (PB.out.belowAll h)
           have AB := hid (AB.out.belowAll h)
           have HOa := hid (HOa.out.below h)
           have HOb := hid (HOb.out.below (by omega) h)
           have HB := hid (HB.out.trans (h.mono HB.out.size))
           have hsv5 : v4.heap.size + 1 ≤ v5.heap.size := by omega
           clear b h z hfl FL3)
        | (have hfl := FL4.out
           refine wpList_store_whole rfl 39 _ _ rfl rfl v4.heap.size rfl (PaV.cells qb) rfl _ _ BB.out rfl Try.infoPa (PaV.one _) ?_
           intro v6 b g z
           have hsv6 : v5.heap.size ≤ v6.heap.size := by omega
           have HOa := hid (HOa.out.turn (Turns.grown (S := fun t => t = 39) BB.out b rfl g))
           have HOb := hid (HOb.out.put (by omega) (by omega) g BB.out b)
           have BB := hid (show BoxAt v6 v4.heap.size 39 (PaV.cells qb).toArray from b)
           have CB := hid (CB.out.grown g (fun e => by have := Option.some.inj e; omega))
           have PB := hid (PB.out.grown g (fun e => by have := Option.some.inj e; omega))
           have AB := hid (AB.out.grown g (fun e => by have := Option.some.inj e; omega))
           have HB := hid (HB.out.trans (grown_below g (by omega) (by omega)))
           clear b g z hfl FL4)
        | (refine wpList_load_box rfl 39 _ rfl v1.heap.size rfl _ _ AB.out _ Try.underlying39 Try.infoPa ?_)
        | (refine wpList_load_box rfl 39 _ rfl v4.heap.size rfl _ _ BB.out _ Try.underlying39 Try.infoPa ?_)
        | fail)
      refine (same_eq HOa.out.sees HOb.out.at).mono ?_
      rintro e v7 ⟨rfl, hb⟩
      have CB := hid (CB.out.belowAll hb)
      have PB := hid (PB.out.belowAll hb)
      have AB := hid (AB.out.belowAll hb)
      have BB := hid (BB.out.belowAll hb)
      have HOa := hid (HOa.out.below hb)
      have HOb := hid (HOb.out.below (by omega) hb)
      have HB := hid (HB.out.trans (hb.mono HB.out.size))
      have hsv7 : v6.heap.size ≤ v7.heap.size := hb.size
      clear hb
      have CB := hid (show BoxAt v7 w.heap.size 28 (Pv.cells qc).toArray from CB.out)
      go_wp2_with fail
      go_roundw
      case rel => exact ⟨k + 1, by have := HLt.out; omega, by go_num, CB, PB, HB, by omega⟩
      case measure => have := HLt.out; simp [intOf]; omega
    · have hke : k = 5 := by omega
      subst hke
      go_wp2
      go_ret
      exact ⟨rfl, HB.out⟩
end Go.Proofs.Ytfdalcfbhebloaa
