/-
  What the document's small helpers of package procs return.
-/
import Derived.Test.YtdanfnbclbiidaaQNew
import Derived.Test.YtdanfnbclbiidaaQFacts
namespace Go.Proofs.Ytdanfnbclbiidaa
open Go.RowKit
set_option linter.unusedVariables false

set_option maxRecDepth 100000 in
set_option maxHeartbeats 800000 in
theorem rthere_any {q : PaV} {c : Pa} {w : World} (i : Int) (ha : PaAt w q c) : Calls Try.prog 55 #[q.val, .int .i64 i] w fun e w' => e = .returned (.bool (decide (0 ≤ i ∧ i < c.pr.length))) ∧ Below w.heap.size w w' := by
  obtain ⟨ap, cpp, hpv, hp1, hp2, _⟩ := ha.pr.form
  have hmax : cpp ≤ 9223372036854775807 := hp2
  have HPv := hid hpv
  clear ha hpv hp2
  by_cases h0 : 0 ≤ i
  · by_cases h1 : i < c.pr.length
    · rw [decide_eq_true (show 0 ≤ i ∧ i < c.pr.length from ⟨h0, h1⟩)]
      go_enter Try.func55, Try.ntmps55
      go_wp2_with (
        (refine wpList_box rfl 39 (.tmp 0) rfl q.cells.toArray rfl ?_
         intro w1 b1 h1 z1
         have HB := hid h1
         have kc : w1.cell? ⟨w.heap.size, 4, none⟩ = some (.slice ap c.pr.length cpp) := (b1.cell 4).trans (by show some q.pr.val = _; rw [HPv.out])
         clear b1 h1))
      go_ret
      exact ⟨rfl, HB.out⟩
    · rw [decide_eq_false (show ¬ (0 ≤ i ∧ i < c.pr.length) from fun h => h1 h.2)]
      go_enter Try.func55, Try.ntmps55
      go_wp2_with (
        (refine wpList_box rfl 39 (.tmp 0) rfl q.cells.toArray rfl ?_
         intro w1 b1 h1 z1
         have HB := hid h1
         have kc : w1.cell? ⟨w.heap.size, 4, none⟩ = some (.slice ap c.pr.length cpp) := (b1.cell 4).trans (by show some q.pr.val = _; rw [HPv.out])
         clear b1 h1))
      go_ret
      exact ⟨rfl, HB.out⟩
  · rw [decide_eq_false (show ¬ (0 ≤ i ∧ i < c.pr.length) from fun h => h0 h.1)]
    go_enter Try.func55, Try.ntmps55
    go_wp2_with (
      (refine wpList_box rfl 39 (.tmp 0) rfl q.cells.toArray rfl ?_
       intro w1 b1 h1 z1
       have HB := hid h1
       clear b1 h1))
    go_ret
    exact ⟨rfl, HB.out⟩

theorem seesWt_box {w : World} {g : Nat} {t : TypeId} {x : Wt} (h : BoxAt w g t x.cells.toArray) : SeesWt w (.slice (some ⟨g, 0, none⟩) 1 1) [x] := by
  refine .inr ⟨⟨g, 0, none⟩, 1, rfl, by simp, by decide, fun i hi j hj => ?_⟩
  have hi0 : i = 0 := by simp at hi; omega
  subst hi0
  rw [add_none, Nat.zero_mul, Nat.zero_add, Nat.zero_add, h.cell]
  match j, hj with
  | 0, _ => rfl
  | 1, _ => rfl
  | 2, _ => rfl
  | j + 3, h => exact absurd h (by omega)

set_option maxRecDepth 100000 in
set_option maxHeartbeats 1600000 in
theorem rwithout_any {v : Value} {l : List Wt} {w : World} (i : Int) (hv : SeesWt w v l) (hlen : l.length ≤ 900000) :
    Calls Try.prog 54 #[v, .int .i64 i] w fun e w' => ∃ u, e = .returned u ∧ OWt w' w.heap.size u (l.filter fun x => !isW i x) ∧ Below w.heap.size w w' := by
  obtain ⟨al, cl, rfl, hl1, hl2, hlc⟩ := hv.form
  unfold maxLen at hl2
  have HC := hid hlc
  have HLn := hid hlen
  clear hlc hv hlen
  go_enter Try.func54, Try.ntmps54
  go_wp2
  go_loopw [5, 6] (fun s t wr => ∃ k : Nat, k ≤ l.length ∧ t = .int .i64 k ∧ Hid (OWt wr w.heap.size s ((l.take k).filter fun x => !isW i x)) ∧ Below w.heap.size w wr) (fun _ t _ => l.length - (intOf t).toNat)
  case atStart => exact ⟨0, by omega, rfl, hid (OWt.nil _ _), Below.refl _ _⟩
  case round =>
    obtain ⟨k, hk, rfl, HO, hbel⟩ := hrel
    by_cases hlt : k < l.length
    · have HLt := hid hlt
      obtain ⟨b, off, rfl, hbw, hcell⟩ := HC.out (by omega)
      have c0 := (hbel.cell (by exact hbw)).trans (hcell k hlt 0 (by decide))
      have c1 := (hbel.cell (by exact hbw)).trans (hcell k hlt 1 (by decide))
      have c2 := (hbel.cell (by exact hbw)).trans (hcell k hlt 2 (by decide))
      have HSn := hid (Kept.snoc hlt)
      obtain ⟨x, hx⟩ : ∃ x, l.getD k Wt.zero = x := ⟨_, rfl⟩
      rw [hx] at c0 c1 c2 HSn
      clear hcell HC hx
      obtain ⟨x0, x1, x2⟩ := x
      simp only [Wt.cells, List.getD_cons_zero, List.getD_cons_succ, Nat.add_zero] at c0 c1 c2
      by_cases hxi : x0 = i
      · have HE := hid (show (l.take (k + 1)).filter (fun x => !isW i x) = (l.take k).filter (fun x => !isW i x) by rw [HSn.out, List.filter_append]; simp [isW, hxi])
        have hb : (x0 != i) = false := by simp [hxi]
        clear hxi
        go_wp2
        go_roundw
        case rel => exact ⟨k + 1, by have := HLt.out; omega, by go_num, by rw [HE.out]; exact HO, hbel⟩
        case measure => have := HLt.out; simp [intOf]; omega
      · have HE := hid (show (l.take (k + 1)).filter (fun x => !isW i x) = (l.take k).filter (fun x => !isW i x) ++ [⟨x0, x1, x2⟩] by rw [HSn.out, List.filter_append]; simp [isW, hxi])
        have hb : (x0 != i) = true := by simp [hxi]
        have HLf := hid (show ((l.take k).filter fun x => !isW i x).length ≤ 900000 from Nat.le_trans (List.length_filter_le _ _) (by have := HLn.out; simp; omega))
        clear hxi
        go_wp2_with (
          (at_builtin
           have hA := (Below.refl wr.heap.size wr).alloc (Nat.le_refl _) (.cells #[.int .i64 x0, .int .i64 x1, .int .i64 x2] 104)
           have HA2 := hid (hbel.trans (hA.mono hbel.size))
           have HSe := hid (seesWt_box (x := ⟨x0, x1, x2⟩) (BoxAt.new wr 104 #[.int .i64 x0, .int .i64 x1, .int .i64 x2]))
           have HO3 := hid (HO.out.below hA)
           clear hA
           refine app_row 104 65 3 24 _ Try.underlying65 Try.infoOWt rfl (by decide) (by decide) rfl _ _ rfl w.heap.size _ _ _ rfl HO3.out _ ([(⟨x0, x1, x2⟩ : Wt)].map Wt.cells) rfl HSe.out (lensWt _) (oneWt _) (by have := HLf.out; simp only [List.map_cons, List.map_nil, List.length_cons, List.length_nil]; omega) HA2.out.size ?_
           intro v' w3 ho hg hb3
           have HO4 := hid (show OWt w3 w.heap.size v' ((l.take (k + 1)).filter fun x => !isW i x) by
             rw [HE.out]
             unfold OWt
             rw [List.map_append, List.flatten_append, List.length_append]
             exact ho)
           have HB3 := hid (HA2.out.trans hb3)
           clear ho hg hb3))
        go_roundw
        case rel => exact ⟨k + 1, by have := HLt.out; omega, by go_num, HO4, HB3.out⟩
        case measure => have := HLt.out; simp [intOf]; omega
    · have hke : k = l.length := by omega
      subst hke
      rw [List.take_length] at HO
      go_wp2
      go_ret
      exact ⟨_, rfl, HO.out, hbel⟩

set_option maxRecDepth 100000 in
set_option maxHeartbeats 1600000 in
theorem rwith_own {q : PaV} {c : Pa} {w : World} (k : Nat) (r : Px) (ha : PaAt w q c) (hlen : c.pr.length ≤ 900000) (hk : k < c.pr.length) :
    Calls Try.prog 57 #[q.val, .int .i64 k, r.val] w fun e w' => ∃ s : Sl, e = .returned (PaV.val { q with pr := s }) ∧ OP w' w.heap.size s.val (c.pr.set k r) ∧ Below w.heap.size w w' := by
  have HA := hid ha
  have HK := hid hk
  have HLn := hid hlen
  clear ha hlen
  go_enter Try.func57, Try.ntmps57
  go_wp2_with (first
    | (refine wpList_box rfl 39 (.tmp 0) rfl q.cells.toArray rfl ?_
       intro w1 b1 h1 z1
       have PB := hid (show PaB w1 w.heap.size q from b1)
       have HB := hid h1
       clear b1 h1)
    | (refine wpList_box rfl 57 (.tmp 2) rfl r.cells.toArray rfl ?_
       intro w2 b2 h2 z2
       rw [z1] at b2
       have XB := hid b2
       have PB := hid (show PaB w2 w.heap.size q from BoxAt.belowAll PB.out h2)
       have HB := hid (HB.out.trans (h2.mono (by omega)))
       clear b2 h2)
    | (refine wpList_new rfl 39 rfl _ Try.zeroPa ?_
       intro w3 b3 h3 z3
       rw [z2, z1] at b3
       have RB := hid b3
       have XB := hid (XB.out.belowAll h3)
       have PB := hid (show PaB w3 w.heap.size q from BoxAt.belowAll PB.out h3)
       have HB := hid (HB.out.trans (h3.mono (by omega)))
       have kc : w3.cell? ⟨w.heap.size, 4, none⟩ = some (.slice q.pr.a q.pr.n q.pr.c) := (BoxAt.cell PB.out 4).trans rfl
       have hsz : w.heap.size + 3 ≤ w3.heap.size := by omega
       clear b3 h3)
    | (at_builtin
       refine app_px rfl _ _ rfl w3.heap.size (.slice none 0 0) [] rfl (OP.nil _ _) _ c.pr rfl (HA.out.below HB.out).pr (by have := HLn.out; simp; omega) (Nat.le_refl _) ?_
       intro v' w4 ho hg hb
       rw [List.nil_append] at ho
       obtain ⟨g, cap, rfl, hg1, hg2, _, _⟩ := OP.form ho (by have := HK.out; omega)
       have HO := hid ho
       have RB := hid (RB.out.belowAll hb)
       have XB := hid (XB.out.belowAll hb)
       have PB := hid (show PaB w4 w.heap.size q from BoxAt.belowAll PB.out hb)
       have HB4 := hid (HB.out.trans (hb.mono HB.out.size))
       have hsz4 : w.heap.size + 3 ≤ w4.heap.size := by omega
       clear ho hg hb z1 z2 z3)
    | (refine wpList_load_box rfl 57 _ rfl (w.heap.size + 1) rfl _ _ XB.out _ Try.underlying57 Try.infoPx ?_)
    | (refine wpList_store_el rfl 57 _ _ rfl rfl HO.out (px_lens _) k (by simpa using HK.out) (Px.cells r) rfl rfl rfl Try.infoPx (Px.one _) ?_
       intro w5 ho hgr hz
       rw [← List.map_set] at ho
       have HO5 := hid (show OP w5 w3.heap.size (.slice (some ⟨g, 0, none⟩) c.pr.length cap) (c.pr.set k r) by unfold OP; rw [List.length_set]; exact ho)
       have RB := hid (RB.out.grown hgr (fun e => by have := Option.some.inj e; omega))
       have PB := hid (show PaB w5 w.heap.size q from BoxAt.grown PB.out hgr (fun e => by have := Option.some.inj e; omega))
       have HB5 := hid (HB4.out.trans (grown_below hgr (by omega) (by omega)))
       have hsz5 : w.heap.size + 3 ≤ w5.heap.size := by omega
       clear ho hgr)
    | (refine wpList_store_box rfl 29 _ _ rfl rfl w.heap.size 4 (.slice (some ⟨g, 0, none⟩) c.pr.length cap) rfl rfl rfl rfl (by kernel_rfl) _ _ PB.out (by simp [PaV.cells]) ?_
       intro w6 b g' z
       have HT := hid (Turns.grown (S := fun t => t = 39) PB.out b rfl g')
       have PB := hid (show PaB w6 w.heap.size { q with pr := ⟨some ⟨g, 0, none⟩, c.pr.length, cap⟩ } by simpa [PaB, PaV.cells] using b)
       have HO6 := hid (HO5.out.turn (by decide) HT.out)
       have RB := hid (RB.out.grown g' (fun e => by have := Option.some.inj e; omega))
       have HB6 := hid (HB5.out.trans (grown_below g' (Nat.le_refl _) (by omega)))
       have hsz6 : w.heap.size + 3 ≤ w6.heap.size := by omega
       clear b g' HT)
    | (refine wpList_load_box rfl 39 _ rfl w.heap.size rfl _ _ PB.out _ Try.underlying39 Try.infoPa ?_)
    | (refine wpList_store_whole rfl 39 _ _ rfl rfl (w.heap.size + 1 + 1) rfl (PaV.cells { q with pr := ⟨some ⟨g, 0, none⟩, c.pr.length, cap⟩ }) rfl _ _ RB.out rfl Try.infoPa (PaV.one _) ?_
       intro w7 b g' z
       have HT := hid (Turns.grown (S := fun t => t = 39) RB.out b rfl g')
       have RB := hid b
       have HO7 := hid (HO6.out.turn (by decide) HT.out)
       have HB7 := hid (HB6.out.trans (grown_below g' (by omega) (by omega)))
       clear b g' HT)
    | fail)
  refine bodyPost_ret (results_cell_row rfl _ _ (w.heap.size + 1 + 1) 39 _ (0, 0) _ rfl RB.out Try.underlying39 rfl Try.infoPa) rfl ?_
  exact ⟨⟨some ⟨g, 0, none⟩, c.pr.length, cap⟩, rfl, OP.mono (show OP w7 w3.heap.size (.slice (some ⟨g, 0, none⟩) c.pr.length cap) (c.pr.set k r) from HO7.out) (by omega), HB7.out⟩
end Go.Proofs.Ytdanfnbclbiidaa
