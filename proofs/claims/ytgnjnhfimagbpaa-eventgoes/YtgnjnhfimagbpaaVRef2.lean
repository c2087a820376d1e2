/-
  What the document's Has and All return, whatever lists they are given; Same and Wakes of two lists that read the same.
-/
import Derived.Test.YtgnjnhfimagbpaaVRef
namespace Go.Proofs.Ytgnjnhfimagbpaa
open Go.RowKit
set_option linter.unusedVariables false

set_option maxRecDepth 100000 in
set_option maxHeartbeats 800000 in
theorem same_Wt {va vb : Value} {l : List Wt} {w : World} (ha : SeesWt w va l) (hb : SeesWt w vb l) :
    Calls Try.prog 22 #[va, vb] w fun e w' => e = .returned (.bool true) ∧ Below w.heap.size w w' := by
  obtain ⟨a, ca, rfl, ha1, ha2, hac⟩ := ha.form
  obtain ⟨b, cb, rfl, hb1, hb2, hbc⟩ := hb.form
  unfold maxLen at ha2 hb2
  have HA := hid hac
  have HB := hid hbc
  clear ha hb hac hbc
  have hlb : ((l.length : Int) != (l.length : Int)) = false := by simp
  go_enter Try.func22, Try.ntmps22
  go_wp2
  go_loopw [5] (fun i wr => ∃ k : Nat, k ≤ l.length ∧ i = .int .i64 k ∧ Below w.heap.size w wr) (fun i _ => l.length - (intOf i).toNat)
  case atStart => exact ⟨0, by omega, rfl, Below.refl _ _⟩
  case round =>
    obtain ⟨k, hk, rfl, hbel⟩ := hrel
    by_cases hlt : k < l.length
    · obtain ⟨b1, o1, rfl, hw1, hc1⟩ := HA.out (by omega)
      obtain ⟨b2, o2, rfl, hw2, hc2⟩ := HB.out (by omega)
      have c0 := (hbel.cell (by exact hw1)).trans (hc1 k hlt 0 (by decide))
      have c1 := (hbel.cell (by exact hw1)).trans (hc1 k hlt 1 (by decide))
      have c2 := (hbel.cell (by exact hw1)).trans (hc1 k hlt 2 (by decide))
      have d0 := (hbel.cell (by exact hw2)).trans (hc2 k hlt 0 (by decide))
      have d1 := (hbel.cell (by exact hw2)).trans (hc2 k hlt 1 (by decide))
      have d2 := (hbel.cell (by exact hw2)).trans (hc2 k hlt 2 (by decide))
      clear hc1 hc2 HA HB
      obtain ⟨r, hr⟩ : ∃ r, l.getD k Wt.zero = r := ⟨_, rfl⟩
      rw [hr] at c0 c1 c2 d0 d1 d2
      clear hr
      obtain ⟨x0, x1, x2⟩ := r
      simp only [Wt.cells, List.getD_cons_zero, List.getD_cons_succ, Nat.add_zero] at c0 c1 c2 d0 d1 d2
      have e0 : (x0 != x0) = false := by simp
      have e1 : (x1 != x1) = false := by simp
      have e2 : (x2 != x2) = false := by simp
      have HBE := hid hbel
      clear hbel
      go_wp2
      go_quiet (fail)
      go_wp2
      go_roundw
      case rel => exact ⟨k + 1, by omega, by go_num, below_drewV HBE.out nq⟩
      case measure => simp [intOf]; omega
    · go_wp2
      go_ret
      exact ⟨rfl, hbel⟩

set_option maxRecDepth 100000 in
set_option maxHeartbeats 800000 in
theorem same_Wk {va vb : Value} {l : List Wk} {w : World} (ha : SeesWk w va l) (hb : SeesWk w vb l) :
    Calls Try.prog 12 #[va, vb] w fun e w' => e = .returned (.bool true) ∧ Below w.heap.size w w' := by
  obtain ⟨a, ca, rfl, ha1, ha2, hac⟩ := ha.form
  obtain ⟨b, cb, rfl, hb1, hb2, hbc⟩ := hb.form
  unfold maxLen at ha2 hb2
  have HA := hid hac
  have HB := hid hbc
  clear ha hb hac hbc
  have hlb : ((l.length : Int) != (l.length : Int)) = false := by simp
  go_enter Try.func12, Try.ntmps12
  go_wp2
  go_loopw [5] (fun i wr => ∃ k : Nat, k ≤ l.length ∧ i = .int .i64 k ∧ Below w.heap.size w wr) (fun i _ => l.length - (intOf i).toNat)
  case atStart => exact ⟨0, by omega, rfl, Below.refl _ _⟩
  case round =>
    obtain ⟨k, hk, rfl, hbel⟩ := hrel
    by_cases hlt : k < l.length
    · obtain ⟨b1, o1, rfl, hw1, hc1⟩ := HA.out (by omega)
      obtain ⟨b2, o2, rfl, hw2, hc2⟩ := HB.out (by omega)
      have c0 := (hbel.cell (by exact hw1)).trans (hc1 k hlt 0 (by decide))
      have c1 := (hbel.cell (by exact hw1)).trans (hc1 k hlt 1 (by decide))
      have c2 := (hbel.cell (by exact hw1)).trans (hc1 k hlt 2 (by decide))
      have d0 := (hbel.cell (by exact hw2)).trans (hc2 k hlt 0 (by decide))
      have d1 := (hbel.cell (by exact hw2)).trans (hc2 k hlt 1 (by decide))
      have d2 := (hbel.cell (by exact hw2)).trans (hc2 k hlt 2 (by decide))
      clear hc1 hc2 HA HB
      obtain ⟨r, hr⟩ : ∃ r, l.getD k Wk.zero = r := ⟨_, rfl⟩
      rw [hr] at c0 c1 c2 d0 d1 d2
      clear hr
      obtain ⟨x0, x1, x2⟩ := r
      simp only [Wk.cells, List.getD_cons_zero, List.getD_cons_succ, Nat.add_zero] at c0 c1 c2 d0 d1 d2
      have e0 : (x0 != x0) = false := by simp
      have e1 : (x1 != x1) = false := by simp
      have e2 : (x2 != x2) = false := by simp
      have HBE := hid hbel
      clear hbel
      go_wp2
      go_quiet (fail)
      go_wp2
      go_roundw
      case rel => exact ⟨k + 1, by omega, by go_num, below_drewV HBE.out nq⟩
      case measure => simp [intOf]; omega
    · go_wp2
      go_ret
      exact ⟨rfl, hbel⟩

theorem has_at (l : List Wt) (p : Int) (k : Nat) (hk : k < l.length) (h : (l.getD k Wt.zero).p = p) : hasP l p = true := by
  unfold hasP
  rw [List.any_eq_true]
  exact ⟨l[k], List.getElem_mem hk, by simpa [List.getD, List.getElem?_eq_getElem hk] using h⟩
theorem has_none (l : List Wt) (p : Int) (h : ∀ j, j < l.length → ¬ (l.getD j Wt.zero).p = p) : hasP l p = false := by
  unfold hasP
  rw [List.any_eq_false]
  intro y hy
  obtain ⟨j, hj, rfl⟩ := List.getElem_of_mem hy
  have := h j hj
  simpa [List.getD, List.getElem?_eq_getElem hj] using this

theorem allP_next (l : List Wt) (c v : Int) (i : Nat) (hi : i < l.length) : allP (l.take (i + 1)) c v = allP (l.take i) c v ++ [wakeW c v (l.getD i Wt.zero)] := by
  rw [take_snoc l i hi]
  simp only [allP, List.map_append, List.map_cons, List.map_nil]
theorem allP_len (l : List Wt) (c v : Int) (i : Nat) (hi : i ≤ l.length) : (allP (l.take i) c v).length = i := by simp [allP]; omega

set_option maxRecDepth 100000 in
set_option maxHeartbeats 1600000 in
theorem rall_any (c v : Int) {vl : Value} {l : List Wt} {w : World} (hv : SeesWt w vl l) (hlen : l.length ≤ 800000) :
    Calls Try.prog 21 #[vl, .int .i64 c, .int .i64 v] w fun e w' => ∃ u, e = .returned u ∧ OWk w' w.heap.size u (allP l c v) ∧ Below w.heap.size w w' := by
  obtain ⟨al, cl, rfl, hl1, hl2, hlc⟩ := hv.form
  unfold maxLen at hl2
  have HC := hid hlc
  clear hlc hv
  go_enter Try.func21, Try.ntmps21
  go_wp2
  go_loopw [7, 8] (fun o t wc => ∃ i : Nat, i ≤ l.length ∧ t = .int .i64 i ∧ OWk wc w.heap.size o (allP (l.take i) c v) ∧ Below w.heap.size w wc) (fun _ t _ => l.length - (intOf t).toNat)
  case atStart => exact ⟨0, by omega, rfl, OWk.nil _ _, Below.refl _ _⟩
  case round =>
    obtain ⟨i, hi, rfl, hown, hbel⟩ := hrel
    have HOo := hid hown
    have HBo := hid hbel
    have hzo : w.heap.size ≤ wr.heap.size := hbel.size
    clear hown
    by_cases hlt : i < l.length
    · obtain ⟨b, off, rfl, hbw, hcell⟩ := HC.out (by omega)
      have c0 := (hbel.cell (by exact hbw)).trans (hcell i hlt 0 (by decide))
      have HN := hid (allP_next l c v i hlt)
      have hM := allP_len l c v i hi
      clear hcell HC hbel
      obtain ⟨r, hr⟩ : ∃ r, l.getD i Wt.zero = r := ⟨_, rfl⟩
      rw [hr] at c0 HN
      clear hr
      obtain ⟨x0, x1, x2⟩ := r
      simp only [Wt.cells, List.getD_cons_zero, Nat.add_zero] at c0
      obtain ⟨M, hMM⟩ : ∃ M, allP (l.take i) c v = M := ⟨_, rfl⟩
      rw [hMM] at HOo HN hM
      clear hMM
      have HLEN1 := hid (show M.length + ([wakeW c v (⟨x0, x1, x2⟩ : Wt)].map Wk.cells).length ≤ 1000000 by simp; omega)
      have FA1 := hid trivial
      have FB1 := hid trivial
      clear hM
      go_wp2_with (first
             | (have hFa1 := FA1.out
                refine Wk.wpList_lit1 rfl _ rfl (wakeW c v (⟨x0, x1, x2⟩ : Wt)) rfl ?_
                intro u1 hbx1 hbu1
                have HU1 := hid (HBo.out.trans (hbu1.mono HBo.out.size))
                have HS1 := hid (SeesWk.box hbx1)
                have HP1 := hid (HOo.out.below hbu1)
                have hzu1 := Nat.le_trans hzo hbu1.size
                
                
                clear FA1 hFa1 hbx1 hbu1 HOo)
             | (have hFb1 := FB1.out
                at_builtin
                go_must (refine app_row 42 28 3 24 _ Try.underlying28 Try.infoOWk rfl (by decide) (by decide) rfl _ _ rfl (w.heap.size) _ (M).length _ rfl HP1.out _ ([wakeW c v (⟨x0, x1, x2⟩ : Wt)].map Wk.cells) rfl HS1.out (lensWk _) (oneWk _) HLEN1.out ?_ ?_)
                · go_must (exact hzu1)
                intro v1 w1 hown hgrow hb
                go_must (have HO1 := hid (OWk.app (by simpa using hown) : OWk w1 (w.heap.size) v1 (M ++ [wakeW c v (⟨x0, x1, x2⟩ : Wt)])))
                go_must (have HB1 := hid (HU1.out.trans (hb.mono (by omega))))
                have hz1 := Nat.le_trans hzu1 hb.size
                
                
                clear FB1 hFb1 hown hgrow hb HP1 HS1 HU1))
      go_roundw
      case rel => exact ⟨i + 1, by omega, by go_num, by rw [HN.out]; exact HO1.out, HB1.out⟩
      case measure => simp [intOf]; omega
    · have hin : i = l.length := by omega
      subst hin
      have HE := hid (show OWk wr w.heap.size _ (allP l c v) from by have := HOo.out; rw [List.take_length] at this; exact this)
      clear HOo
      go_wp2
      go_ret
      exact ⟨_, rfl, HE.out, HBo.out⟩
end Go.Proofs.Ytgnjnhfimagbpaa
