/-
  What the document's Add, Has, All, Same and Wakes return, whatever lists they are given.
-/
import Derived.Test.YtgnjnhfimagbpaaVAdd
import Derived.Test.YtgnjnhfimagbpaaVAll
import Derived.BigQuiet
namespace Go.Proofs.Ytgnjnhfimagbpaa
open Go.RowKit
set_option linter.unusedVariables false

theorem below_drewV {B : Nat} {a w : World} (h : Below B a w) (n : Nat) : Below B a (w.drewN n) := ⟨h.os, h.tape, h.output, h.size, h.block⟩

theorem wpList_lit1 {ops : Array Oper} {rest : List Oper} {o : Oper} {a : Act} {w : World} {Q : Exit → Act → World → Prop} (hg : o.guard = none) (x : Operand) (ho : o.op = .buildSlice 22 1 #[(0, x)]) (r : Wt) (hx : a.eval x = r.val)
    (h : ∀ w', BoxAt w' w.heap.size 26 r.cells.toArray → Below w.heap.size w w' → wpList Try.prog ops Q rest (a.put o.dst (.slice (some ⟨w.heap.size, 0, none⟩) 1 1)) w') : wpList Try.prog ops Q (o :: rest) a w := by
  refine wpList_plain hg fun K hK => ?_
  unfold Oper.wp execOp
  simp only [ho, List.map_toArray, List.map_cons, List.map_nil, hx, Sem.run_bind, run_lit1, Result.andThen_ok, Sem.run_pure]
  exact hK _ _ (h _ (BoxAt.new w _ _) ((Below.refl _ w).alloc (Nat.le_refl _) _))
theorem Wk.run_lit1 (x : Wk) (w : World) : (Instr.buildSlice 28 1 #[(0, x.val)]).run Try.prog w = .ok (.slice (some ⟨w.heap.size, 0, none⟩) 1 1) (w.alloc (.cells x.cells.toArray 42)) := by
  obtain ⟨i0, hi, hz0, hz1, hz2⟩ := info_parts Try.infoOWk
  have hs : (sizeOf 42).run Try.prog w = .ok 3 w := by unfold sizeOf; simp [typeInfo, hi, hz1]
  have hz : (zeroValue 42).run Try.prog w = .ok (.agg Wk.zero.cells.toArray) w := by unfold zeroValue; simp [typeInfo, hi, hz0]
  have hf : Instr.fill (fun i => some (i * 3, 3)) ((Array.range (1 * 3)).map (fun j => (Value.agg Wk.zero.cells.toArray).cells[j % (Value.agg Wk.zero.cells.toArray).cells.size]!)) [(0, x.val)] = some x.cells.toArray := by kernel_rfl
  unfold Instr.buildSlice
  simp only [Sem.run_bind, run_underlying Try.underlying28, Result.andThen_ok, hs]
  rw [if_neg (by decide), if_neg (by decide)]
  simp only [Sem.run_bind, hz, Sem.run_pure, Result.andThen_ok, hf, newRow, run_newObj_alloc]
theorem Wk.wpList_lit1 {ops : Array Oper} {rest : List Oper} {o : Oper} {a : Act} {w : World} {Q : Exit → Act → World → Prop} (hg : o.guard = none) (x : Operand) (ho : o.op = .buildSlice 28 1 #[(0, x)]) (r : Wk) (hx : a.eval x = r.val)
    (h : ∀ w', BoxAt w' w.heap.size 42 r.cells.toArray → Below w.heap.size w w' → wpList Try.prog ops Q rest (a.put o.dst (.slice (some ⟨w.heap.size, 0, none⟩) 1 1)) w') : wpList Try.prog ops Q (o :: rest) a w := by
  refine wpList_plain hg fun K hK => ?_
  unfold Oper.wp execOp
  simp only [ho, List.map_toArray, List.map_cons, List.map_nil, hx, Sem.run_bind, Wk.run_lit1, Result.andThen_ok, Sem.run_pure]
  exact hK _ _ (h _ (BoxAt.new w _ _) ((Below.refl _ w).alloc (Nat.le_refl _) _))

/-- What the document's Add has made of the first i of a list, k being the place of who comes. -/
def outK (l : List Wt) (x : Wt) (k i : Nat) : List Wt := if k < i then l.take k ++ [x] ++ (l.take i).drop k else l.take i
theorem outK_zero (l : List Wt) (x : Wt) (k : Nat) : outK l x k 0 = [] := by simp [outK]
theorem take_snoc (l : List Wt) (i : Nat) (hi : i < l.length) : l.take (i + 1) = l.take i ++ [l.getD i Wt.zero] := by
  rw [List.take_add_one, List.getElem?_eq_getElem hi]; simp [List.getD, List.getElem?_eq_getElem hi]
theorem outK_same (l : List Wt) (x : Wt) (k i : Nat) (hi : i < l.length) (hk : k ≠ i) : outK l x k (i + 1) = outK l x k i ++ [l.getD i Wt.zero] := by
  unfold outK
  by_cases h : k < i
  · rw [if_pos h, if_pos (by omega), take_snoc l i hi, List.drop_append_of_le_length (by simp; omega)]
    simp only [List.append_assoc]
  · rw [if_neg h, if_neg (by omega), take_snoc l i hi]
theorem outK_at (l : List Wt) (x : Wt) (i : Nat) (hi : i < l.length) : outK l x i (i + 1) = outK l x i i ++ [x] ++ [l.getD i Wt.zero] := by
  unfold outK
  rw [if_pos (by omega), if_neg (by omega), take_snoc l i hi, List.drop_append_of_le_length (by simp; omega), List.drop_eq_nil_of_le (by simp; omega)]
  simp only [List.nil_append]
theorem outK_len (l : List Wt) (x : Wt) (k i : Nat) : (outK l x k i).length ≤ l.length + 1 := by
  unfold outK; split <;> simp <;> omega
theorem outK_end (l : List Wt) (x : Wt) (q : Bool) (h : putP l x q < l.length) : outK l x (putP l x q) l.length = addP l x q := by
  unfold outK addP; rw [if_pos h, List.take_length]
theorem outK_end2 (l : List Wt) (x : Wt) (q : Bool) (h : ¬ putP l x q < l.length) : outK l x (putP l x q) l.length ++ [x] = addP l x q := by
  have h2 := putP_le l x q
  have h3 : putP l x q = l.length := by omega
  unfold outK addP; rw [h3, if_neg (by omega), List.drop_length, List.append_nil]
/-- At the place, and ahead of it. -/
theorem putP_test (l : List Wt) (x : Wt) (q : Bool) (i : Nat) (hi : i < l.length) : (putP l x q = i → q = true ∧ (l.getD i Wt.zero).r < x.r) ∧ (i < putP l x q → q = true → ¬ (l.getD i Wt.zero).r < x.r) := by
  unfold putP
  cases q with
  | false => simp; omega
  | true =>
    simp only [if_true]
    unfold placeP
    refine ⟨fun h => ⟨trivial, ?_⟩, fun h _ => ?_⟩
    · have := List.findIdx_getElem (xs := l) (p := fun y => decide (y.r < x.r)) (w := by rw [h]; exact hi)
      simp only [h] at this
      simpa [List.getD, List.getElem?_eq_getElem hi] using this
    · have := List.not_of_lt_findIdx h
      simpa [List.getD, List.getElem?_eq_getElem hi] using this

theorem OWk.app {w : World} {base : Nat} {v : Value} {l1 l2 : List Wk} (h : w.ownsRow base 42 3 v (l1.length + l2.length) ((l1.map Wk.cells).flatten ++ (l2.map Wk.cells).flatten)) : OWk w base v (l1 ++ l2) := by
  unfold OWk; simpa using h

set_option maxRecDepth 100000 in
set_option maxHeartbeats 3200000 in
theorem radd_any (x : Wt) (q : Bool) {v : Value} {l : List Wt} {w : World} (hv : SeesWt w v l) (hlen : l.length ≤ 800000) :
    Calls Try.prog 24 #[v, x.val, .bool q] w fun e w' => ∃ u, e = .returned u ∧ OWt w' w.heap.size u (addP l x q) ∧ Below w.heap.size w w' := by
  obtain ⟨al, cl, rfl, hl1, hl2, hlc⟩ := hv.form
  unfold maxLen at hl2
  have HC := hid hlc
  have hkl := putP_le l x q
  have HT := hid (fun i hi => putP_test l x q i hi)
  have HE1 := hid (fun h => outK_end l x q h)
  have HE2 := hid (fun h => outK_end2 l x q h)
  clear hlc hv
  obtain ⟨k, hk⟩ : ∃ k, putP l x q = k := ⟨_, rfl⟩
  obtain ⟨R, hR⟩ : ∃ R, addP l x q = R := ⟨_, rfl⟩
  rw [hk] at hkl HT HE1 HE2
  rw [hR] at HE1 HE2 ⊢
  clear hk hR
  have BX := hid (BoxAt.new w 26 x.cells.toArray)
  have hb0 : Below w.heap.size w (w.alloc (.cells x.cells.toArray 26)) := (Below.refl _ _).alloc (Nat.le_refl _) _
  have HB0 := hid hb0
  have hsz0 : w.heap.size + 1 ≤ (w.alloc (.cells x.cells.toArray 26)).heap.size := by simp
  clear hb0
  obtain ⟨p, pr, vl⟩ := x
  simp only [Wt.val, Wt.cells] at *
  go_enter Try.func24, Try.ntmps24
  go_wp2
  go_loopw [7, 8, 9] (fun o dn t wc => ∃ (i : Nat) (M : List Wt), i ≤ l.length ∧ t = .int .i64 i ∧ dn = .bool (decide (k < i)) ∧ OWt wc (w.heap.size + 1) o M ∧ M = outK l ⟨p, pr, vl⟩ k i ∧ BoxAt wc w.heap.size 26 #[.int .i64 p, .int .i64 pr, .int .i64 vl] ∧ Below w.heap.size w wc) (fun _ _ t _ => l.length - (intOf t).toNat)
  case atStart => exact ⟨0, [], by omega, rfl, by simp, OWt.nil _ _, (outK_zero _ _ _).symm, BX.out, HB0.out⟩
  case round =>
    obtain ⟨i, M, hi, rfl, rfl, hown, hM, hbox, hbel⟩ := hrel
    have HM := hid hM
    have hMl : M.length ≤ l.length + 1 := by rw [hM]; exact outK_len _ _ _ _
    have HOo := hid hown
    have HBo := hid hbel
    have HXo := hid hbox
    have hzr : w.heap.size + 1 ≤ wr.heap.size := hbox.lt
    have hx0 := hbox.cell 0
    have hx1 := hbox.cell 1
    have hx2 := hbox.cell 2
    simp at hx0 hx1 hx2
    clear hM BX HB0 hsz0 hown hbox
    by_cases hlt : i < l.length
    · obtain ⟨b, off, rfl, hbw, hcell⟩ := HC.out (by omega)
      have hmk : ∀ W, Below w.heap.size w W → W.cell? ⟨b, off + i * 3, none⟩ = some (.int .i64 (l.getD i Wt.zero).p) ∧ W.cell? ⟨b, off + i * 3 + 1, none⟩ = some (.int .i64 (l.getD i Wt.zero).r) ∧ W.cell? ⟨b, off + i * 3 + 2, none⟩ = some (.int .i64 (l.getD i Wt.zero).v) := fun W hW =>
        ⟨(hW.cell (by exact hbw)).trans (hcell i hlt 0 (by decide)), (hW.cell (by exact hbw)).trans (hcell i hlt 1 (by decide)), (hW.cell (by exact hbw)).trans (hcell i hlt 2 (by decide))⟩
      have MK := hid hmk
      have HTi := hid (HT.out i hlt)
      have HSM := hid (outK_same l ⟨p, pr, vl⟩ k i hlt)
      have HAT := hid (fun (h : k = i) => show outK l ⟨p, pr, vl⟩ k (i + 1) = outK l ⟨p, pr, vl⟩ k i ++ [⟨p, pr, vl⟩] ++ [l.getD i Wt.zero] by subst h; exact outK_at l ⟨p, pr, vl⟩ k hlt)
      clear hmk hcell HC HT HE1 HE2
      obtain ⟨r, hr⟩ : ∃ r, l.getD i Wt.zero = r := ⟨_, rfl⟩
      rw [hr] at MK HTi HSM HAT
      clear hr
      obtain ⟨x0, x1, x2⟩ := r
      simp only at MK HTi HSM HAT
      obtain ⟨c0, c1, c2⟩ := MK.out _ hbel
      have HLEN1 := hid (show M.length + ([(⟨x0, x1, x2⟩ : Wt)].map Wt.cells).length ≤ 1000000 by simp; omega)
      have HLEN2 := hid (show M.length + ([(⟨p, pr, vl⟩ : Wt)].map Wt.cells).length ≤ 1000000 by simp; omega)
      have HLEN3 := hid (show (M ++ [(⟨p, pr, vl⟩ : Wt)]).length + ([(⟨x0, x1, x2⟩ : Wt)].map Wt.cells).length ≤ 1000000 by simp; omega)
      have FA1 := hid trivial
      have FB1 := hid trivial
      have FA2 := hid trivial
      have FB2 := hid trivial
      clear hMl
      by_cases hki : k = i
      · have hd : decide (k < i) = false := decide_eq_false (by omega)
        obtain ⟨rfl, hless⟩ := HTi.out.1 hki
        rw [hd]
        clear hd HTi HSM
        go_wp2
        go_quiet (fail)
        have HOq := hid (HOo.out.below (below_drewV (Below.refl _ _) nq))
        have HBq := hid (below_drewV HBo.out nq)
        have HXq := hid (HXo.out.below (below_drewV (Below.refl _ _) nq) HXo.out.lt)
        have hzq : w.heap.size + 1 ≤ (wr.drewN nq).heap.size := hzr
        go_wp2_with (first
               | (have hFa1 := FA1.out
                  refine wpList_lit1 rfl _ rfl (⟨p, pr, vl⟩ : Wt) rfl ?_
                  intro u1 hbx1 hbu1
                  have HU1 := hid (HBq.out.trans (hbu1.mono HBq.out.size))
                  have HS1 := hid (SeesWt.box hbx1)
                  have HP1 := hid (HOq.out.below hbu1)
                  have hzu1 := Nat.le_trans hzq hbu1.size
                  have HXu1 := hid (HXq.out.belowAll hbu1)
                  
                  clear FA1 hFa1 hbx1 hbu1 HOq)
               | (have hFb1 := FB1.out
                  at_builtin
                  go_must (refine app_row 26 22 3 24 _ Try.underlying22 Try.infoOWt rfl (by decide) (by decide) rfl _ _ rfl (w.heap.size + 1) _ (M).length _ rfl HP1.out _ ([(⟨p, pr, vl⟩ : Wt)].map Wt.cells) rfl HS1.out (lensWt _) (oneWt _) HLEN2.out ?_ ?_)
                  · go_must (exact hzu1)
                  intro v1 w1 hown hgrow hb
                  go_must (have HO1 := hid (OWt.app (by simpa using hown) : OWt w1 (w.heap.size + 1) v1 (M ++ [(⟨p, pr, vl⟩ : Wt)])))
                  go_must (have HB1 := hid (HU1.out.trans (hb.mono (by omega))))
                  have hz1 := Nat.le_trans hzu1 hb.size
                  have HX1 := hid (HXu1.out.below hb (by omega))
                  obtain ⟨d0, d1, d2⟩ := MK.out _ HB1.out
                  clear FB1 hFb1 hown hgrow hb HP1 HS1 HU1)
               | (have hFa2 := FA2.out
                  refine wpList_lit1 rfl _ rfl ⟨x0, x1, x2⟩ rfl ?_
                  intro u2 hbx2 hbu2
                  have HU2 := hid (HB1.out.trans (hbu2.mono HB1.out.size))
                  have HS2 := hid (SeesWt.box hbx2)
                  have HP2 := hid (HO1.out.below hbu2)
                  have hzu2 := Nat.le_trans hz1 hbu2.size
                  have HXu2 := hid (HX1.out.belowAll hbu2)
                  
                  clear FA2 hFa2 hbx2 hbu2 HO1)
               | (have hFb2 := FB2.out
                  at_builtin
                  go_must (refine app_row 26 22 3 24 _ Try.underlying22 Try.infoOWt rfl (by decide) (by decide) rfl _ _ rfl (w.heap.size + 1) _ (M ++ [(⟨p, pr, vl⟩ : Wt)]).length _ rfl HP2.out _ ([(⟨x0, x1, x2⟩ : Wt)].map Wt.cells) rfl HS2.out (lensWt _) (oneWt _) HLEN3.out ?_ ?_)
                  · go_must (exact hzu2)
                  intro v2 w2 hown hgrow hb
                  go_must (have HO2 := hid (OWt.app (by simpa using hown) : OWt w2 (w.heap.size + 1) v2 (M ++ [(⟨p, pr, vl⟩ : Wt)] ++ [(⟨x0, x1, x2⟩ : Wt)])))
                  go_must (have HB2 := hid (HU2.out.trans (hb.mono (by omega))))
                  have hz2 := Nat.le_trans hzu2 hb.size
                  have HX2 := hid (HXu2.out.below hb (by omega))
                  
                  clear FB2 hFb2 hown hgrow hb HP2 HS2 HU2))
        go_roundw
        case rel => exact ⟨i + 1, _, by omega, by go_num, by rw [decide_eq_true (show k < i + 1 by omega)], HO2.out, by rw [HAT.out hki, ← HM.out], HX2.out, HB2.out⟩
        case measure => simp [intOf]; omega
      · by_cases hlt2 : k < i
        · rw [decide_eq_true hlt2]
          have HQ := hid (HTi.out.2)
          clear HTi HAT
          rcases q with _ | _
          case' false =>
            clear HQ
            go_wp2
            go_quiet (fail)
            have HOq := hid (HOo.out.below (below_drewV (Below.refl _ _) nq))
            have HBq := hid (below_drewV HBo.out nq)
            have HXq := hid (HXo.out.below (below_drewV (Below.refl _ _) nq) HXo.out.lt)
            have hzq : w.heap.size + 1 ≤ (wr.drewN nq).heap.size := hzr
            go_wp2_with (first
                   | (have hFa1 := FA1.out
                      refine wpList_lit1 rfl _ rfl ⟨x0, x1, x2⟩ rfl ?_
                      intro u1 hbx1 hbu1
                      have HU1 := hid (HBq.out.trans (hbu1.mono HBq.out.size))
                      have HS1 := hid (SeesWt.box hbx1)
                      have HP1 := hid (HOq.out.below hbu1)
                      have hzu1 := Nat.le_trans hzq hbu1.size
                      have HXu1 := hid (HXq.out.belowAll hbu1)
                      
                      clear FA1 hFa1 hbx1 hbu1 HOq)
                   | (have hFb1 := FB1.out
                      at_builtin
                      go_must (refine app_row 26 22 3 24 _ Try.underlying22 Try.infoOWt rfl (by decide) (by decide) rfl _ _ rfl (w.heap.size + 1) _ (M).length _ rfl HP1.out _ ([(⟨x0, x1, x2⟩ : Wt)].map Wt.cells) rfl HS1.out (lensWt _) (oneWt _) HLEN1.out ?_ ?_)
                      · go_must (exact hzu1)
                      intro v1 w1 hown hgrow hb
                      go_must (have HO1 := hid (OWt.app (by simpa using hown) : OWt w1 (w.heap.size + 1) v1 (M ++ [(⟨x0, x1, x2⟩ : Wt)])))
                      go_must (have HB1 := hid (HU1.out.trans (hb.mono (by omega))))
                      have hz1 := Nat.le_trans hzu1 hb.size
                      have HX1 := hid (HXu1.out.below hb (by omega))
                      
                      clear FB1 hFb1 hown hgrow hb HP1 HS1 HU1))
            go_roundw
            case rel => exact ⟨i + 1, _, by omega, by go_num, by rw [decide_eq_true (show k < i + 1 by omega)], HO1.out, by rw [HSM.out hki, ← HM.out], HX1.out, HB1.out⟩
            case measure => simp [intOf]; omega
          case' true =>
            clear HQ
            go_wp2
            go_quiet (fail)
            have HOq := hid (HOo.out.below (below_drewV (Below.refl _ _) nq))
            have HBq := hid (below_drewV HBo.out nq)
            have HXq := hid (HXo.out.below (below_drewV (Below.refl _ _) nq) HXo.out.lt)
            have hzq : w.heap.size + 1 ≤ (wr.drewN nq).heap.size := hzr
            go_wp2_with (first
                   | (have hFa1 := FA1.out
                      refine wpList_lit1 rfl _ rfl ⟨x0, x1, x2⟩ rfl ?_
                      intro u1 hbx1 hbu1
                      have HU1 := hid (HBq.out.trans (hbu1.mono HBq.out.size))
                      have HS1 := hid (SeesWt.box hbx1)
                      have HP1 := hid (HOq.out.below hbu1)
                      have hzu1 := Nat.le_trans hzq hbu1.size
                      have HXu1 := hid (HXq.out.belowAll hbu1)
                      
                      clear FA1 hFa1 hbx1 hbu1 HOq)
                   | (have hFb1 := FB1.out
                      at_builtin
                      go_must (refine app_row 26 22 3 24 _ Try.underlying22 Try.infoOWt rfl (by decide) (by decide) rfl _ _ rfl (w.heap.size + 1) _ (M).length _ rfl HP1.out _ ([(⟨x0, x1, x2⟩ : Wt)].map Wt.cells) rfl HS1.out (lensWt _) (oneWt _) HLEN1.out ?_ ?_)
                      · go_must (exact hzu1)
                      intro v1 w1 hown hgrow hb
                      go_must (have HO1 := hid (OWt.app (by simpa using hown) : OWt w1 (w.heap.size + 1) v1 (M ++ [(⟨x0, x1, x2⟩ : Wt)])))
                      go_must (have HB1 := hid (HU1.out.trans (hb.mono (by omega))))
                      have hz1 := Nat.le_trans hzu1 hb.size
                      have HX1 := hid (HXu1.out.below hb (by omega))
                      
                      clear FB1 hFb1 hown hgrow hb HP1 HS1 HU1))
            go_roundw
            case rel => exact ⟨i + 1, _, by omega, by go_num, by rw [decide_eq_true (show k < i + 1 by omega)], HO1.out, by rw [HSM.out hki, ← HM.out], HX1.out, HB1.out⟩
            case measure => simp [intOf]; omega
        · rw [decide_eq_false hlt2]
          have HQ := hid (HTi.out.2 (by omega))
          clear HTi HAT
          rcases q with _ | _
          case' false =>
            skip
            clear HQ
            go_wp2
            go_quiet (fail)
            have HOq := hid (HOo.out.below (below_drewV (Below.refl _ _) nq))
            have HBq := hid (below_drewV HBo.out nq)
            have HXq := hid (HXo.out.below (below_drewV (Below.refl _ _) nq) HXo.out.lt)
            have hzq : w.heap.size + 1 ≤ (wr.drewN nq).heap.size := hzr
            go_wp2_with (first
                   | (have hFa1 := FA1.out
                      refine wpList_lit1 rfl _ rfl ⟨x0, x1, x2⟩ rfl ?_
                      intro u1 hbx1 hbu1
                      have HU1 := hid (HBq.out.trans (hbu1.mono HBq.out.size))
                      have HS1 := hid (SeesWt.box hbx1)
                      have HP1 := hid (HOq.out.below hbu1)
                      have hzu1 := Nat.le_trans hzq hbu1.size
                      have HXu1 := hid (HXq.out.belowAll hbu1)
                      
                      clear FA1 hFa1 hbx1 hbu1 HOq)
                   | (have hFb1 := FB1.out
                      at_builtin
                      go_must (refine app_row 26 22 3 24 _ Try.underlying22 Try.infoOWt rfl (by decide) (by decide) rfl _ _ rfl (w.heap.size + 1) _ (M).length _ rfl HP1.out _ ([(⟨x0, x1, x2⟩ : Wt)].map Wt.cells) rfl HS1.out (lensWt _) (oneWt _) HLEN1.out ?_ ?_)
                      · go_must (exact hzu1)
                      intro v1 w1 hown hgrow hb
                      go_must (have HO1 := hid (OWt.app (by simpa using hown) : OWt w1 (w.heap.size + 1) v1 (M ++ [(⟨x0, x1, x2⟩ : Wt)])))
                      go_must (have HB1 := hid (HU1.out.trans (hb.mono (by omega))))
                      have hz1 := Nat.le_trans hzu1 hb.size
                      have HX1 := hid (HXu1.out.below hb (by omega))
                      
                      clear FB1 hFb1 hown hgrow hb HP1 HS1 HU1))
            go_roundw
            case rel => exact ⟨i + 1, _, by omega, by go_num, by rw [decide_eq_false (show ¬ k < i + 1 by omega)], HO1.out, by rw [HSM.out hki, ← HM.out], HX1.out, HB1.out⟩
            case measure => simp [intOf]; omega
          case' true =>
            have hnl : ¬ x1 < pr := by have := HQ.out rfl; omega
            clear HQ
            go_wp2
            go_quiet (fail)
            have HOq := hid (HOo.out.below (below_drewV (Below.refl _ _) nq))
            have HBq := hid (below_drewV HBo.out nq)
            have HXq := hid (HXo.out.below (below_drewV (Below.refl _ _) nq) HXo.out.lt)
            have hzq : w.heap.size + 1 ≤ (wr.drewN nq).heap.size := hzr
            go_wp2_with (first
                   | (have hFa1 := FA1.out
                      refine wpList_lit1 rfl _ rfl ⟨x0, x1, x2⟩ rfl ?_
                      intro u1 hbx1 hbu1
                      have HU1 := hid (HBq.out.trans (hbu1.mono HBq.out.size))
                      have HS1 := hid (SeesWt.box hbx1)
                      have HP1 := hid (HOq.out.below hbu1)
                      have hzu1 := Nat.le_trans hzq hbu1.size
                      have HXu1 := hid (HXq.out.belowAll hbu1)
                      
                      clear FA1 hFa1 hbx1 hbu1 HOq)
                   | (have hFb1 := FB1.out
                      at_builtin
                      go_must (refine app_row 26 22 3 24 _ Try.underlying22 Try.infoOWt rfl (by decide) (by decide) rfl _ _ rfl (w.heap.size + 1) _ (M).length _ rfl HP1.out _ ([(⟨x0, x1, x2⟩ : Wt)].map Wt.cells) rfl HS1.out (lensWt _) (oneWt _) HLEN1.out ?_ ?_)
                      · go_must (exact hzu1)
                      intro v1 w1 hown hgrow hb
                      go_must (have HO1 := hid (OWt.app (by simpa using hown) : OWt w1 (w.heap.size + 1) v1 (M ++ [(⟨x0, x1, x2⟩ : Wt)])))
                      go_must (have HB1 := hid (HU1.out.trans (hb.mono (by omega))))
                      have hz1 := Nat.le_trans hzu1 hb.size
                      have HX1 := hid (HXu1.out.below hb (by omega))
                      
                      clear FB1 hFb1 hown hgrow hb HP1 HS1 HU1))
            go_roundw
            case rel => exact ⟨i + 1, _, by omega, by go_num, by rw [decide_eq_false (show ¬ k < i + 1 by omega)], HO1.out, by rw [HSM.out hki, ← HM.out], HX1.out, HB1.out⟩
            case measure => simp [intOf]; omega
    · have hin : i = l.length := by omega
      subst hin
      have HL := hid (show M.length + ([(⟨p, pr, vl⟩ : Wt)].map Wt.cells).length ≤ 1000000 by simp; omega)
      clear HC HT
      by_cases hlt2 : k < l.length
      · rw [decide_eq_true hlt2]
        have HR := hid (show M = R by rw [HM.out]; exact HE1.out hlt2)
        have HO := hid (show OWt wr w.heap.size _ R from by rw [← HR.out]; exact HOo.out.mono (by omega))
        clear HE1 HE2 HM HR
        go_wp2
        go_ret
        exact ⟨_, rfl, HO.out, HBo.out⟩
      · rw [decide_eq_false hlt2]
        have HR := hid (show M ++ [(⟨p, pr, vl⟩ : Wt)] = R by rw [HM.out]; exact HE2.out hlt2)
        have FA1 := hid trivial
        have FB1 := hid trivial
        clear HE1 HE2 HM
        have hzo := hzr
        go_wp2_with (first
               | (have hFa1 := FA1.out
                  refine wpList_lit1 rfl _ rfl (⟨p, pr, vl⟩ : Wt) rfl ?_
                  intro u1 hbx1 hbu1
                  have HU1 := hid (HBo.out.trans (hbu1.mono HBo.out.size))
                  have HS1 := hid (SeesWt.box hbx1)
                  have HP1 := hid (HOo.out.below hbu1)
                  have hzu1 := Nat.le_trans hzo hbu1.size
                  have HXu1 := hid (HXo.out.belowAll hbu1)
                  
                  clear FA1 hFa1 hbx1 hbu1 HOo)
               | (have hFb1 := FB1.out
                  at_builtin
                  go_must (refine app_row 26 22 3 24 _ Try.underlying22 Try.infoOWt rfl (by decide) (by decide) rfl _ _ rfl (w.heap.size + 1) _ (M).length _ rfl HP1.out _ ([(⟨p, pr, vl⟩ : Wt)].map Wt.cells) rfl HS1.out (lensWt _) (oneWt _) HL.out ?_ ?_)
                  · go_must (exact hzu1)
                  intro v1 w1 hown hgrow hb
                  go_must (have HO1 := hid (OWt.app (by simpa using hown) : OWt w1 (w.heap.size + 1) v1 (M ++ [(⟨p, pr, vl⟩ : Wt)])))
                  go_must (have HB1 := hid (HU1.out.trans (hb.mono (by omega))))
                  have hz1 := Nat.le_trans hzu1 hb.size
                  have HX1 := hid (HXu1.out.below hb (by omega))
                  
                  clear FB1 hFb1 hown hgrow hb HP1 HS1 HU1))
        go_ret
        exact ⟨_, rfl, by rw [← HR.out]; exact HO1.out.mono (by omega), HB1.out⟩
end Go.Proofs.Ytgnjnhfimagbpaa
