/-
  What the document's with returns (times).
-/
import Derived.Test.YtdanfnbclbiidaaQRef3
namespace Go.Proofs.Ytdanfnbclbiidaa
open Go.RowKit
set_option linter.unusedVariables false

set_option maxRecDepth 100000 in
set_option maxHeartbeats 1600000 in
theorem rwith11_own {q : PaV} {c : Pa} {w : World} (k : Nat) (r : Px) (ha : PaAt w q c) (hlen : c.pr.length ≤ 900000) (hk : k < c.pr.length) :
    Calls Try.prog 38 #[q.val, .int .i64 k, r.val] w fun e w' => ∃ s : Sl, e = .returned (PaV.val { q with pr := s }) ∧ OP w' w.heap.size s.val (c.pr.set k r) ∧ Below w.heap.size w w' := by
  have HA := hid ha
  have HK := hid hk
  have HLn := hid hlen
  clear ha hlen
  go_enter Try.func38, Try.ntmps38
  go_wp2_with (first
    | (refine wpList_box rfl 39 (.tmp 0) rfl q.cells.toArray rfl ?_
       intro w1 b1 h1 z1
       have PB := hid (show PaB w1 w.heap.size q from b1)
       have HB := hid h1
       clear b1 h1)
    | (refine wpList_box rfl 57 (.tmp 2) rfl r.cells.toArray rfl ?_
       intro w2 b2 h2 z2
       rw [z1] at b2
       have XB := hid b2
       have PB := hid (show PaB w2 w.heap.size q from BoxAt.belowAll PB.out h2)
       have HB := hid (HB.out.trans (h2.mono (by omega)))
       clear b2 h2)
    | (refine wpList_new rfl 39 rfl _ Try.zeroPa ?_
       intro w3 b3 h3 z3
       rw [z2, z1] at b3
       have RB := hid b3
       have XB := hid (XB.out.belowAll h3)
       have PB := hid (show PaB w3 w.heap.size q from BoxAt.belowAll PB.out h3)
       have HB := hid (HB.out.trans (h3.mono (by omega)))
       have kc : w3.cell? ⟨w.heap.size, 4, none⟩ = some (.slice q.pr.a q.pr.n q.pr.c) := (BoxAt.cell PB.out 4).trans rfl
       have hsz : w.heap.size + 3 ≤ w3.heap.size := by omega
       clear b3 h3)
    | (at_builtin
       refine app_px rfl _ _ rfl w3.heap.size (.slice none 0 0) [] rfl (OP.nil _ _) _ c.pr rfl (HA.out.below HB.out).pr (by have := HLn.out; simp; omega) (Nat.le_refl _) ?_
       intro v' w4 ho hg hb
       rw [List.nil_append] at ho
       obtain ⟨g, cap, rfl, hg1, hg2, _, _⟩ := OP.form ho (by have := HK.out; omega)
       have HO := hid ho
       have RB := hid (RB.out.belowAll hb)
       have XB := hid (XB.out.belowAll hb)
       have PB := hid (show PaB w4 w.heap.size q from BoxAt.belowAll PB.out hb)
       have HB4 := hid (HB.out.trans (hb.mono HB.out.size))
       have hsz4 : w.heap.size + 3 ≤ w4.heap.size := by omega
       clear ho hg hb z1 z2 z3)
    | (refine wpList_load_box rfl 57 _ rfl (w.heap.size + 1) rfl _ _ XB.out _ Try.underlying57 Try.infoPx ?_)
    | (refine wpList_store_el rfl 57 _ _ rfl rfl HO.out (px_lens _) k (by simpa using HK.out) (Px.cells r) rfl rfl rfl Try.infoPx (Px.one _) ?_
       intro w5 ho hgr hz
       rw [← List.map_set] at ho
       have HO5 := hid (show OP w5 w3.heap.size (.slice (some ⟨g, 0, none⟩) c.pr.length cap) (c.pr.set k r) by unfold OP; rw [List.length_set]; exact ho)
       have RB := hid (RB.out.grown hgr (fun e => by have := Option.some.inj e; omega))
       have PB := hid (show PaB w5 w.heap.size q from BoxAt.grown PB.out hgr (fun e => by have := Option.some.inj e; omega))
       have HB5 := hid (HB4.out.trans (grown_below hgr (by omega) (by omega)))
       have hsz5 : w.heap.size + 3 ≤ w5.heap.size := by omega
       clear ho hgr)
    | (refine wpList_store_box rfl 29 _ _ rfl rfl w.heap.size 4 (.slice (some ⟨g, 0, none⟩) c.pr.length cap) rfl rfl rfl rfl (by kernel_rfl) _ _ PB.out (by simp [PaV.cells]) ?_
       intro w6 b g' z
       have HT := hid (Turns.grown (S := fun t => t = 39) PB.out b rfl g')
       have PB := hid (show PaB w6 w.heap.size { q with pr := ⟨some ⟨g, 0, none⟩, c.pr.length, cap⟩ } by simpa [PaB, PaV.cells] using b)
       have HO6 := hid (HO5.out.turn (by decide) HT.out)
       have RB := hid (RB.out.grown g' (fun e => by have := Option.some.inj e; omega))
       have HB6 := hid (HB5.out.trans (grown_below g' (Nat.le_refl _) (by omega)))
       have hsz6 : w.heap.size + 3 ≤ w6.heap.size := by omega
       clear b g' HT)
    | (refine wpList_load_box rfl 39 _ rfl w.heap.size rfl _ _ PB.out _ Try.underlying39 Try.infoPa ?_)
    | (refine wpList_store_whole rfl 39 _ _ rfl rfl (w.heap.size + 1 + 1) rfl (PaV.cells { q with pr := ⟨some ⟨g, 0, none⟩, c.pr.length, cap⟩ }) rfl _ _ RB.out rfl Try.infoPa (PaV.one _) ?_
       intro w7 b g' z
       have HT := hid (Turns.grown (S := fun t => t = 39) RB.out b rfl g')
       have RB := hid b
       have HO7 := hid (HO6.out.turn (by decide) HT.out)
       have HB7 := hid (HB6.out.trans (grown_below g' (by omega) (by omega)))
       clear b g' HT)
    | fail)
  refine bodyPost_ret (results_cell_row rfl _ _ (w.heap.size + 1 + 1) 39 _ (0, 0) _ rfl RB.out Try.underlying39 rfl Try.infoPa) rfl ?_
  exact ⟨⟨some ⟨g, 0, none⟩, c.pr.length, cap⟩, rfl, OP.mono (show OP w7 w3.heap.size (.slice (some ⟨g, 0, none⟩) c.pr.length cap) (c.pr.set k r) from HO7.out) (by omega), HB7.out⟩
theorem rwith11_s {n : Nat} {q : PaV} {c : Pa} {w : World} (k : Nat) (r : Px) (hs : PaS n w q c) (hn : n ≤ w.heap.size) (hlen : c.pr.length ≤ 900000) (hk : k < c.pr.length) :
    Calls Try.prog 38 #[q.val, .int .i64 k, r.val] w fun e w' => ∃ q', e = .returned (PaV.val q') ∧ PaS n w' q' { c with pr := c.pr.set k r } ∧ Below w.heap.size w w' := by
  refine (rwith11_own k r hs.at hlen hk).mono ?_
  rintro e w' ⟨s, rfl, ho, hb⟩
  exact ⟨_, rfl, hs.pr hn hb ho, hb⟩
end Go.Proofs.Ytdanfnbclbiidaa
