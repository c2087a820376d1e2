/-
  What the law's own change returns: one of five, by the program.
-/
import Derived.Test.YtfdalcfbhebloaaQApi2
namespace Go.Proofs.Ytfdalcfbhebloaa
open Go.RowKit
set_option linter.unusedVariables false

/-- One of five that are done to a process. -/
def changeP (f : Pt) (c : Pa) (k i n : Int) : Pa × Int := if k = 0 then startP f c i n else if k = 1 then stopP c i else if k = 2 then suspP f c i else if k = 3 then resP c i else prioP c i n

set_option maxRecDepth 100000 in
set_option maxHeartbeats 3200000 in
theorem lchange_any {qc : Pv} {cc : Pt} {q : PaV} {c : Pa} {k i n : Int} {w : World} (hc : PtAt w qc cc) (ha : PaAt w q c) (hn : c.small) :
    Calls Try.prog 12 #[qc.val, q.val, .int .i64 k, .int .i64 i, .int .i64 n] w fun e w' => ∃ q', e = .returned (.tuple #[PaV.val q', .int .i64 (changeP cc c k i n).2]) ∧ PaO w' w.heap.size q' (changeP cc c k i n).1 ∧ Below w.heap.size w w' := by
  have HC := hid hc
  have HA := hid ha
  have HN := hid hn
  clear hc ha hn
  by_cases h0 : k = 0
  · rw [show changeP cc c k i n = startP cc c i n from by unfold changeP; rw [if_pos h0]]
    subst h0
    go_enter Try.func12, Try.ntmps12
    go_wp2_with (first
      | (refine wpList_box rfl 28 (.tmp 0) rfl qc.cells.toArray rfl ?_
         intro w1 b1 h1 z1
         have CB := hid b1
         have HBc := hid h1
         clear b1 h1)
      | (refine wpList_box rfl 39 (.tmp 1) rfl q.cells.toArray rfl ?_
         intro w2 b2 h2 z2
         rw [z1] at b2
         have CB := hid (CB.out.belowAll h2)
         have PB := hid (show PaB w2 (w.heap.size + 1) q from b2)
         have HBc := hid (HBc.out.trans (h2.mono (by omega)))
         clear b2 h2)
      | (refine wpList_new rfl 39 rfl _ Try.zeroPa ?_
         intro w3 b3 h3 z3
         rw [z2, z1] at b3
         have RB := hid b3
         have CB := hid (CB.out.belowAll h3)
         have PB := hid (show PaB w3 (w.heap.size + 1) q from BoxAt.belowAll PB.out h3)
         have HBc := hid (HBc.out.trans (h3.mono (by omega)))
         clear b3 h3)
      | (refine wpList_load_box rfl 28 _ rfl w.heap.size rfl _ _ CB.out _ Try.underlying28 Try.infoPv ?_)
      | (refine wpList_load_box rfl 39 _ rfl (w.heap.size + 1) rfl _ _ PB.out _ Try.underlying39 Try.infoPa ?_)
      | fail)
    refine (start_api (i := i) (now := n) (HC.out.below HBc.out) (HA.out.below HBc.out) HN.out).mono ?_
    rintro e wv ⟨q', rfl, ho, hb⟩
    have HO := hid (ho.mono HBc.out.size)
    have RB := hid (RB.out.belowAll hb)
    have hsz : w.heap.size + 3 ≤ wv.heap.size := by have := hb.size; omega
    have HBc := hid (HBc.out.trans (hb.mono HBc.out.size))
    clear ho hb z1 z2 z3
    go_wp2_with (first
      | (refine wpList_new rfl 39 rfl _ Try.zeroPa ?_
         intro wx b h z
         have XB := hid b
         have RB := hid (RB.out.belowAll h)
         have HBc := hid (HBc.out.trans (h.mono (by omega)))
         have HO := hid (HO.out.below h)
         clear b h)
      | (refine wpList_store_whole rfl 39 _ _ rfl rfl wv.heap.size rfl (PaV.cells q') rfl _ _ XB.out rfl Try.infoPa (PaV.one _) ?_
         intro wy b g z
         have HT := hid (Turns.grown (S := fun t => t = 39) XB.out b rfl g)
         have XB := hid b
         have RB := hid (RB.out.grown g (fun e => by have := Option.some.inj e; omega))
         have HBc := hid (HBc.out.trans (grown_below g (by omega) (by omega)))
         have HO := hid (HO.out.turn HT.out)
         clear b g HT)
      | (refine wpList_load_box rfl 39 _ rfl wv.heap.size rfl _ _ XB.out _ Try.underlying39 Try.infoPa ?_)
      | (refine wpList_store_whole rfl 39 _ _ rfl rfl (w.heap.size + 1 + 1) rfl (PaV.cells q') rfl _ _ RB.out rfl Try.infoPa (PaV.one _) ?_
         intro wz b g z
         have HT := hid (Turns.grown (S := fun t => t = 39) RB.out b rfl g)
         have RB := hid b
         have HBc := hid (HBc.out.trans (grown_below g (by omega) (by omega)))
         have HO := hid (HO.out.turn HT.out)
         clear b g z HT))
    refine bodyPost_ret (results_box_tmp rfl _ _ (w.heap.size + 1 + 1) 39 _ (0, 0) _ rfl RB.out Try.underlying39 rfl Try.infoPa) rfl ?_
    exact ⟨q', rfl, HO.out, HBc.out⟩
  by_cases h1 : k = 1
  · rw [show changeP cc c k i n = stopP c i from by unfold changeP; rw [if_neg h0]; rw [if_pos h1]]
    have hb0 : (k == 0) = false := by simpa using h0
    subst h1
    go_enter Try.func12, Try.ntmps12
    go_wp2_with (first
      | (refine wpList_box rfl 28 (.tmp 0) rfl qc.cells.toArray rfl ?_
         intro w1 b1 h1 z1
         have CB := hid b1
         have HBc := hid h1
         clear b1 h1)
      | (refine wpList_box rfl 39 (.tmp 1) rfl q.cells.toArray rfl ?_
         intro w2 b2 h2 z2
         rw [z1] at b2
         have CB := hid (CB.out.belowAll h2)
         have PB := hid (show PaB w2 (w.heap.size + 1) q from b2)
         have HBc := hid (HBc.out.trans (h2.mono (by omega)))
         clear b2 h2)
      | (refine wpList_new rfl 39 rfl _ Try.zeroPa ?_
         intro w3 b3 h3 z3
         rw [z2, z1] at b3
         have RB := hid b3
         have CB := hid (CB.out.belowAll h3)
         have PB := hid (show PaB w3 (w.heap.size + 1) q from BoxAt.belowAll PB.out h3)
         have HBc := hid (HBc.out.trans (h3.mono (by omega)))
         clear b3 h3)
      | (refine wpList_load_box rfl 28 _ rfl w.heap.size rfl _ _ CB.out _ Try.underlying28 Try.infoPv ?_)
      | (refine wpList_load_box rfl 39 _ rfl (w.heap.size + 1) rfl _ _ PB.out _ Try.underlying39 Try.infoPa ?_)
      | fail)
    refine (stop_api (i := i) (HA.out.below HBc.out) HN.out).mono ?_
    rintro e wv ⟨q', rfl, ho, hb⟩
    have HO := hid (ho.mono HBc.out.size)
    have RB := hid (RB.out.belowAll hb)
    have hsz : w.heap.size + 3 ≤ wv.heap.size := by have := hb.size; omega
    have HBc := hid (HBc.out.trans (hb.mono HBc.out.size))
    clear ho hb z1 z2 z3
    go_wp2_with (first
      | (refine wpList_new rfl 39 rfl _ Try.zeroPa ?_
         intro wx b h z
         have XB := hid b
         have RB := hid (RB.out.belowAll h)
         have HBc := hid (HBc.out.trans (h.mono (by omega)))
         have HO := hid (HO.out.below h)
         clear b h)
      | (refine wpList_store_whole rfl 39 _ _ rfl rfl wv.heap.size rfl (PaV.cells q') rfl _ _ XB.out rfl Try.infoPa (PaV.one _) ?_
         intro wy b g z
         have HT := hid (Turns.grown (S := fun t => t = 39) XB.out b rfl g)
         have XB := hid b
         have RB := hid (RB.out.grown g (fun e => by have := Option.some.inj e; omega))
         have HBc := hid (HBc.out.trans (grown_below g (by omega) (by omega)))
         have HO := hid (HO.out.turn HT.out)
         clear b g HT)
      | (refine wpList_load_box rfl 39 _ rfl wv.heap.size rfl _ _ XB.out _ Try.underlying39 Try.infoPa ?_)
      | (refine wpList_store_whole rfl 39 _ _ rfl rfl (w.heap.size + 1 + 1) rfl (PaV.cells q') rfl _ _ RB.out rfl Try.infoPa (PaV.one _) ?_
         intro wz b g z
         have HT := hid (Turns.grown (S := fun t => t = 39) RB.out b rfl g)
         have RB := hid b
         have HBc := hid (HBc.out.trans (grown_below g (by omega) (by omega)))
         have HO := hid (HO.out.turn HT.out)
         clear b g z HT))
    refine bodyPost_ret (results_box_tmp rfl _ _ (w.heap.size + 1 + 1) 39 _ (0, 0) _ rfl RB.out Try.underlying39 rfl Try.infoPa) rfl ?_
    exact ⟨q', rfl, HO.out, HBc.out⟩
  by_cases h2 : k = 2
  · rw [show changeP cc c k i n = suspP cc c i from by unfold changeP; rw [if_neg h0]; rw [if_neg h1]; rw [if_pos h2]]
    have hb0 : (k == 0) = false := by simpa using h0
    have hb1 : (k == 1) = false := by simpa using h1
    subst h2
    go_enter Try.func12, Try.ntmps12
    go_wp2_with (first
      | (refine wpList_box rfl 28 (.tmp 0) rfl qc.cells.toArray rfl ?_
         intro w1 b1 h1 z1
         have CB := hid b1
         have HBc := hid h1
         clear b1 h1)
      | (refine wpList_box rfl 39 (.tmp 1) rfl q.cells.toArray rfl ?_
         intro w2 b2 h2 z2
         rw [z1] at b2
         have CB := hid (CB.out.belowAll h2)
         have PB := hid (show PaB w2 (w.heap.size + 1) q from b2)
         have HBc := hid (HBc.out.trans (h2.mono (by omega)))
         clear b2 h2)
      | (refine wpList_new rfl 39 rfl _ Try.zeroPa ?_
         intro w3 b3 h3 z3
         rw [z2, z1] at b3
         have RB := hid b3
         have CB := hid (CB.out.belowAll h3)
         have PB := hid (show PaB w3 (w.heap.size + 1) q from BoxAt.belowAll PB.out h3)
         have HBc := hid (HBc.out.trans (h3.mono (by omega)))
         clear b3 h3)
      | (refine wpList_load_box rfl 28 _ rfl w.heap.size rfl _ _ CB.out _ Try.underlying28 Try.infoPv ?_)
      | (refine wpList_load_box rfl 39 _ rfl (w.heap.size + 1) rfl _ _ PB.out _ Try.underlying39 Try.infoPa ?_)
      | fail)
    refine (suspend_api (i := i) (HC.out.below HBc.out) (HA.out.below HBc.out) HN.out).mono ?_
    rintro e wv ⟨q', rfl, ho, hb⟩
    have HO := hid (ho.mono HBc.out.size)
    have RB := hid (RB.out.belowAll hb)
    have hsz : w.heap.size + 3 ≤ wv.heap.size := by have := hb.size; omega
    have HBc := hid (HBc.out.trans (hb.mono HBc.out.size))
    clear ho hb z1 z2 z3
    go_wp2_with (first
      | (refine wpList_new rfl 39 rfl _ Try.zeroPa ?_
         intro wx b h z
         have XB := hid b
         have RB := hid (RB.out.belowAll h)
         have HBc := hid (HBc.out.trans (h.mono (by omega)))
         have HO := hid (HO.out.below h)
         clear b h)
      | (refine wpList_store_whole rfl 39 _ _ rfl rfl wv.heap.size rfl (PaV.cells q') rfl _ _ XB.out rfl Try.infoPa (PaV.one _) ?_
         intro wy b g z
         have HT := hid (Turns.grown (S := fun t => t = 39) XB.out b rfl g)
         have XB := hid b
         have RB := hid (RB.out.grown g (fun e => by have := Option.some.inj e; omega))
         have HBc := hid (HBc.out.trans (grown_below g (by omega) (by omega)))
         have HO := hid (HO.out.turn HT.out)
         clear b g HT)
      | (refine wpList_load_box rfl 39 _ rfl wv.heap.size rfl _ _ XB.out _ Try.underlying39 Try.infoPa ?_)
      | (refine wpList_store_whole rfl 39 _ _ rfl rfl (w.heap.size + 1 + 1) rfl (PaV.cells q') rfl _ _ RB.out rfl Try.infoPa (PaV.one _) ?_
         intro wz b g z
         have HT := hid (Turns.grown (S := fun t => t = 39) RB.out b rfl g)
         have RB := hid b
         have HBc := hid (HBc.out.trans (grown_below g (by omega) (by omega)))
         have HO := hid (HO.out.turn HT.out)
         clear b g z HT))
    refine bodyPost_ret (results_box_tmp rfl _ _ (w.heap.size + 1 + 1) 39 _ (0, 0) _ rfl RB.out Try.underlying39 rfl Try.infoPa) rfl ?_
    exact ⟨q', rfl, HO.out, HBc.out⟩
  by_cases h3 : k = 3
  · rw [show changeP cc c k i n = resP c i from by unfold changeP; rw [if_neg h0]; rw [if_neg h1]; rw [if_neg h2]; rw [if_pos h3]]
    have hb0 : (k == 0) = false := by simpa using h0
    have hb1 : (k == 1) = false := by simpa using h1
    have hb2 : (k == 2) = false := by simpa using h2
    subst h3
    go_enter Try.func12, Try.ntmps12
    go_wp2_with (first
      | (refine wpList_box rfl 28 (.tmp 0) rfl qc.cells.toArray rfl ?_
         intro w1 b1 h1 z1
         have CB := hid b1
         have HBc := hid h1
         clear b1 h1)
      | (refine wpList_box rfl 39 (.tmp 1) rfl q.cells.toArray rfl ?_
         intro w2 b2 h2 z2
         rw [z1] at b2
         have CB := hid (CB.out.belowAll h2)
         have PB := hid (show PaB w2 (w.heap.size + 1) q from b2)
         have HBc := hid (HBc.out.trans (h2.mono (by omega)))
         clear b2 h2)
      | (refine wpList_new rfl 39 rfl _ Try.zeroPa ?_
         intro w3 b3 h3 z3
         rw [z2, z1] at b3
         have RB := hid b3
         have CB := hid (CB.out.belowAll h3)
         have PB := hid (show PaB w3 (w.heap.size + 1) q from BoxAt.belowAll PB.out h3)
         have HBc := hid (HBc.out.trans (h3.mono (by omega)))
         clear b3 h3)
      | (refine wpList_load_box rfl 28 _ rfl w.heap.size rfl _ _ CB.out _ Try.underlying28 Try.infoPv ?_)
      | (refine wpList_load_box rfl 39 _ rfl (w.heap.size + 1) rfl _ _ PB.out _ Try.underlying39 Try.infoPa ?_)
      | fail)
    refine (resume_api (i := i) (HA.out.below HBc.out) HN.out).mono ?_
    rintro e wv ⟨q', rfl, ho, hb⟩
    have HO := hid (ho.mono HBc.out.size)
    have RB := hid (RB.out.belowAll hb)
    have hsz : w.heap.size + 3 ≤ wv.heap.size := by have := hb.size; omega
    have HBc := hid (HBc.out.trans (hb.mono HBc.out.size))
    clear ho hb z1 z2 z3
    go_wp2_with (first
      | (refine wpList_new rfl 39 rfl _ Try.zeroPa ?_
         intro wx b h z
         have XB := hid b
         have RB := hid (RB.out.belowAll h)
         have HBc := hid (HBc.out.trans (h.mono (by omega)))
         have HO := hid (HO.out.below h)
         clear b h)
      | (refine wpList_store_whole rfl 39 _ _ rfl rfl wv.heap.size rfl (PaV.cells q') rfl _ _ XB.out rfl Try.infoPa (PaV.one _) ?_
         intro wy b g z
         have HT := hid (Turns.grown (S := fun t => t = 39) XB.out b rfl g)
         have XB := hid b
         have RB := hid (RB.out.grown g (fun e => by have := Option.some.inj e; omega))
         have HBc := hid (HBc.out.trans (grown_below g (by omega) (by omega)))
         have HO := hid (HO.out.turn HT.out)
         clear b g HT)
      | (refine wpList_load_box rfl 39 _ rfl wv.heap.size rfl _ _ XB.out _ Try.underlying39 Try.infoPa ?_)
      | (refine wpList_store_whole rfl 39 _ _ rfl rfl (w.heap.size + 1 + 1) rfl (PaV.cells q') rfl _ _ RB.out rfl Try.infoPa (PaV.one _) ?_
         intro wz b g z
         have HT := hid (Turns.grown (S := fun t => t = 39) RB.out b rfl g)
         have RB := hid b
         have HBc := hid (HBc.out.trans (grown_below g (by omega) (by omega)))
         have HO := hid (HO.out.turn HT.out)
         clear b g z HT))
    refine bodyPost_ret (results_box_tmp rfl _ _ (w.heap.size + 1 + 1) 39 _ (0, 0) _ rfl RB.out Try.underlying39 rfl Try.infoPa) rfl ?_
    exact ⟨q', rfl, HO.out, HBc.out⟩
  rw [show changeP cc c k i n = prioP c i n from by unfold changeP; rw [if_neg h0]; rw [if_neg h1]; rw [if_neg h2]; rw [if_neg h3]]
  have hb0 : (k == 0) = false := by simpa using h0
  have hb1 : (k == 1) = false := by simpa using h1
  have hb2 : (k == 2) = false := by simpa using h2
  have hb3 : (k == 3) = false := by simpa using h3
  go_enter Try.func12, Try.ntmps12
  go_wp2_with (first
    | (refine wpList_box rfl 28 (.tmp 0) rfl qc.cells.toArray rfl ?_
       intro w1 b1 h1 z1
       have CB := hid b1
       have HBc := hid h1
       clear b1 h1)
    | (refine wpList_box rfl 39 (.tmp 1) rfl q.cells.toArray rfl ?_
       intro w2 b2 h2 z2
       rw [z1] at b2
       have CB := hid (CB.out.belowAll h2)
       have PB := hid (show PaB w2 (w.heap.size + 1) q from b2)
       have HBc := hid (HBc.out.trans (h2.mono (by omega)))
       clear b2 h2)
    | (refine wpList_new rfl 39 rfl _ Try.zeroPa ?_
       intro w3 b3 h3 z3
       rw [z2, z1] at b3
       have RB := hid b3
       have CB := hid (CB.out.belowAll h3)
       have PB := hid (show PaB w3 (w.heap.size + 1) q from BoxAt.belowAll PB.out h3)
       have HBc := hid (HBc.out.trans (h3.mono (by omega)))
       clear b3 h3)
    | (refine wpList_load_box rfl 28 _ rfl w.heap.size rfl _ _ CB.out _ Try.underlying28 Try.infoPv ?_)
    | (refine wpList_load_box rfl 39 _ rfl (w.heap.size + 1) rfl _ _ PB.out _ Try.underlying39 Try.infoPa ?_)
    | fail)
  refine (prio_api (i := i) (n := n) (HA.out.below HBc.out) HN.out).mono ?_
  rintro e wv ⟨q', rfl, ho, hb⟩
  have HO := hid (ho.mono HBc.out.size)
  have RB := hid (RB.out.belowAll hb)
  have hsz : w.heap.size + 3 ≤ wv.heap.size := by have := hb.size; omega
  have HBc := hid (HBc.out.trans (hb.mono HBc.out.size))
  clear ho hb z1 z2 z3
  go_wp2_with (first
    | (refine wpList_new rfl 39 rfl _ Try.zeroPa ?_
       intro wx b h z
       have XB := hid b
       have RB := hid (RB.out.belowAll h)
       have HBc := hid (HBc.out.trans (h.mono (by omega)))
       have HO := hid (HO.out.below h)
       clear b h)
    | (refine wpList_store_whole rfl 39 _ _ rfl rfl wv.heap.size rfl (PaV.cells q') rfl _ _ XB.out rfl Try.infoPa (PaV.one _) ?_
       intro wy b g z
       have HT := hid (Turns.grown (S := fun t => t = 39) XB.out b rfl g)
       have XB := hid b
       have RB := hid (RB.out.grown g (fun e => by have := Option.some.inj e; omega))
       have HBc := hid (HBc.out.trans (grown_below g (by omega) (by omega)))
       have HO := hid (HO.out.turn HT.out)
       clear b g HT)
    | (refine wpList_load_box rfl 39 _ rfl wv.heap.size rfl _ _ XB.out _ Try.underlying39 Try.infoPa ?_)
    | (refine wpList_store_whole rfl 39 _ _ rfl rfl (w.heap.size + 1 + 1) rfl (PaV.cells q') rfl _ _ RB.out rfl Try.infoPa (PaV.one _) ?_
       intro wz b g z
       have HT := hid (Turns.grown (S := fun t => t = 39) RB.out b rfl g)
       have RB := hid b
       have HBc := hid (HBc.out.trans (grown_below g (by omega) (by omega)))
       have HO := hid (HO.out.turn HT.out)
       clear b g z HT))
  refine bodyPost_ret (results_box_tmp rfl _ _ (w.heap.size + 1 + 1) 39 _ (0, 0) _ rfl RB.out Try.underlying39 rfl Try.infoPa) rfl ?_
  exact ⟨q', rfl, HO.out, HBc.out⟩

end Go.Proofs.Ytfdalcfbhebloaa
