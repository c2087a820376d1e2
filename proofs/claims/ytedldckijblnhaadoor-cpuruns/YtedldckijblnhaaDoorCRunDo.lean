/-
  An instruction that is done by a function of its own, on a machine.
-/
import Derived.Test.YtedldckijblnhaaDoorCRun
namespace Go.Proofs.YtedldckijblnhaaDoor
open Go.RowKit
set_option linter.unusedVariables false

set_option maxRecDepth 100000 in
set_option maxHeartbeats 3200000 in
theorem run_do (X : Mc → World → Prop) (K : Nat) (o A B : Int) (hidx : ∀ w, (Instr.index 73 rowsV (.int .i64 o)).run Tryd.prog w = .ok (.agg #[.nilFunc, .func (.func K) #[] #[]]) w) (N : Nat) (M : Mc) (w : World) (hM : MAt w N M)
    (hcf : ∀ (w : World), (callFunc K #[.pointer (some ⟨N, 0, none⟩), .agg #[.int .i64 o, .int .i64 A, .int .i64 B]]).run Tryd.prog w = .ok (.enter K #[.pointer (some ⟨N, 0, none⟩), .agg #[.int .i64 o, .int .i64 A, .int .i64 B]]) w) (hX : ∀ M' w' v, X M' w' → X M' (w'.setCell ⟨N, 0, none⟩ v))
    (HF : ∀ w', MAt w' N M → Below N w w' → Calls Tryd.prog K #[.pointer (some ⟨N, 0, none⟩), .agg #[.int .i64 o, .int .i64 A, .int .i64 B]] w' fun e w'' => ∃ M', e = .returned (.tuple #[]) ∧ MAt w'' N M' ∧ X M' w'' ∧ Below N w' w'') :
    Calls Tryd.prog 22 #[.pointer (some ⟨N, 0, none⟩), .agg #[.int .i64 o, .int .i64 A, .int .i64 B]] w fun e w' => ∃ M', e = .returned (.tuple #[]) ∧ MAt w' N { M' with c := M'.c.at M'.nx } ∧ X M' w' ∧ Below N w w' := by
  have hlt := hM.1
  have hb0 := alloc_belowI w (.cells #[.int .i64 o, .int .i64 A, .int .i64 B] 44)
  have hbN := alloc_belowN w N (by omega) (.cells #[.int .i64 o, .int .i64 A, .int .i64 B] 44)
  obtain ⟨W, hW⟩ : ∃ W, W = w.alloc (.cells #[.int .i64 o, .int .i64 A, .int .i64 B] 44) := ⟨_, rfl⟩
  rw [← hW] at hb0 hbN
  have hM1 := hM.below hb0
  have d0 : W.cell? ⟨w.heap.size, 0, none⟩ = some (.int .i64 o) := by rw [hW]; simp
  have d1 : W.cell? ⟨w.heap.size, 1, none⟩ = some (.int .i64 A) := by rw [hW]; simp
  have d2 : W.cell? ⟨w.heap.size, 2, none⟩ = some (.int .i64 B) := by rw [hW]; simp
  have hWs : W.heap.size = w.heap.size + 1 := by rw [hW]; simp
  have MK := hid (show ∀ w', Below W.heap.size W w' → Below W.heap.size W w' ∧ w'.cell? ⟨w.heap.size, 0, none⟩ = some (.int .i64 o) by
    intro w' hb'
    exact ⟨hb', (hb'.cell (by show w.heap.size < _; omega)).trans d0⟩)
  have MW := hid (show ∀ w', Below W.heap.size W w' → MAt w' N M ∧ w'.cell? ⟨w.heap.size, 0, none⟩ = some (.int .i64 o) ∧ w'.cell? ⟨w.heap.size, 1, none⟩ = some (.int .i64 A) ∧ w'.cell? ⟨w.heap.size, 2, none⟩ = some (.int .i64 B) ∧ Below N w w' by
    intro w' hb'
    exact ⟨hM1.below hb', (hb'.cell (by show w.heap.size < _; omega)).trans d0, (hb'.cell (by show w.heap.size < _; omega)).trans d1, (hb'.cell (by show w.heap.size < _; omega)).trans d2, hbN.trans (hb'.mono (by omega))⟩)
  have HW := hid hW
  have HWS := hid hWs
  have HHF := hid HF
  clear HF hW d0 d1 d2 hM hM1 hWs
  go_enter Tryd.func22, Tryd.ntmps22
  go_wp2_with fail
  rw [← HW.out]
  go_cut [4] from 4 to 8 (fun s wx => RowAt W wx s (.nilFunc) (.func (.func K) #[] #[]))
  case first =>
    go_region_held3 (fun w' => Below W.heap.size W w' ∧ w'.cell? ⟨w.heap.size, 0, none⟩ = some (.int .i64 o))
      ((go_split_ands; refine MK.out _ ?_; first
        | exact (Below.refl _ _).drew
        | exact belowN_set (belowN_set (by assumption))
        | exact below_realloc (by assumption) hb7.size
        | exact Below.alloc (by assumption) (Below.size (by assumption)) _
        | exact Below.trans (by assumption) (Below.mono hb7 (Below.size (by assumption)))))
      ((go_split_ands; first
        | (go_at_call 34
           refine (rows_any _).mono ?_
           rintro e w7 ⟨rfl, hb7⟩
           first | (obtain ⟨q0, q1, q2, q3⟩ := row_facts hb7 rfl) | skip)))
    all_goals
      go_wp2_with fail
      go_meet
      first | exact row_end1 hb7 | exact row_end2 hb7
  case rest =>
    obtain ⟨g, rfl, hg1, hg2, hbk, hc0, hc1⟩ := hcut
    obtain ⟨hmc, e0, e1, e2, hbn⟩ := MW.out wc hbk
    have hg : w.heap.size < g := by have := HWS.out; omega
    have hwc : w.heap.size < wc.heap.size := by omega
    have HCALL := hid (HHF.out wc hmc hbn)
    have HBN := hid hbn
    have hne := nil_ne
    clear hmc hbn hbk
    go_wp2_with fail
    refine (HCALL.out).mono ?_
    rintro e w9 ⟨M', rfl, hm9, hx9, hb9⟩
    have m5 := hm9.2.2.2.2.1
    have m2 := hm9.2.2.1
    have f0 := hm9.2.1 0
    have HMQ := hid hm9
    have HXQ := hid hx9
    have HBQ := hid (HBN.out.trans hb9)
    clear hm9 hx9 hb9 e0 e1 e2 hc0 hc1
    go_wp2
    go_end0
    exact ⟨M', rfl, HMQ.out.setP _, hX _ _ _ HXQ.out, belowN_set HBQ.out⟩

set_option maxRecDepth 100000 in
set_option maxHeartbeats 3200000 in
theorem run_dobad (K : Nat) (o A B : Int) (hidx : ∀ w, (Instr.index 73 rowsV (.int .i64 o)).run Tryd.prog w = .ok (.agg #[.nilFunc, .func (.func K) #[] #[]]) w) (N : Nat) (M : Mc) (w : World) (hM : MAt w N M)
    (hcf : ∀ (w : World), (callFunc K #[.pointer (some ⟨N, 0, none⟩), .agg #[.int .i64 o, .int .i64 A, .int .i64 B]]).run Tryd.prog w = .ok (.enter K #[.pointer (some ⟨N, 0, none⟩), .agg #[.int .i64 o, .int .i64 A, .int .i64 B]]) w) (f : Int)
    (HF : ∀ w', MAt w' N M → Below N w w' → Calls Tryd.prog K #[.pointer (some ⟨N, 0, none⟩), .agg #[.int .i64 o, .int .i64 A, .int .i64 B]] w' fun e w'' => e = faultE f ∧ Below N w' w'') :
    Calls Tryd.prog 22 #[.pointer (some ⟨N, 0, none⟩), .agg #[.int .i64 o, .int .i64 A, .int .i64 B]] w fun e w' => e = faultE f ∧ Below N w w' := by
  have hlt := hM.1
  have hb0 := alloc_belowI w (.cells #[.int .i64 o, .int .i64 A, .int .i64 B] 44)
  have hbN := alloc_belowN w N (by omega) (.cells #[.int .i64 o, .int .i64 A, .int .i64 B] 44)
  obtain ⟨W, hW⟩ : ∃ W, W = w.alloc (.cells #[.int .i64 o, .int .i64 A, .int .i64 B] 44) := ⟨_, rfl⟩
  rw [← hW] at hb0 hbN
  have hM1 := hM.below hb0
  have d0 : W.cell? ⟨w.heap.size, 0, none⟩ = some (.int .i64 o) := by rw [hW]; simp
  have d1 : W.cell? ⟨w.heap.size, 1, none⟩ = some (.int .i64 A) := by rw [hW]; simp
  have d2 : W.cell? ⟨w.heap.size, 2, none⟩ = some (.int .i64 B) := by rw [hW]; simp
  have hWs : W.heap.size = w.heap.size + 1 := by rw [hW]; simp
  have MK := hid (show ∀ w', Below W.heap.size W w' → Below W.heap.size W w' ∧ w'.cell? ⟨w.heap.size, 0, none⟩ = some (.int .i64 o) by
    intro w' hb'
    exact ⟨hb', (hb'.cell (by show w.heap.size < _; omega)).trans d0⟩)
  have MW := hid (show ∀ w', Below W.heap.size W w' → MAt w' N M ∧ w'.cell? ⟨w.heap.size, 0, none⟩ = some (.int .i64 o) ∧ w'.cell? ⟨w.heap.size, 1, none⟩ = some (.int .i64 A) ∧ w'.cell? ⟨w.heap.size, 2, none⟩ = some (.int .i64 B) ∧ Below N w w' by
    intro w' hb'
    exact ⟨hM1.below hb', (hb'.cell (by show w.heap.size < _; omega)).trans d0, (hb'.cell (by show w.heap.size < _; omega)).trans d1, (hb'.cell (by show w.heap.size < _; omega)).trans d2, hbN.trans (hb'.mono (by omega))⟩)
  have HW := hid hW
  have HWS := hid hWs
  have HHF := hid HF
  clear HF hW d0 d1 d2 hM hM1 hWs
  go_enter Tryd.func22, Tryd.ntmps22
  go_wp2_with fail
  rw [← HW.out]
  go_cut [4] from 4 to 8 (fun s wx => RowAt W wx s (.nilFunc) (.func (.func K) #[] #[]))
  case first =>
    go_region_held3 (fun w' => Below W.heap.size W w' ∧ w'.cell? ⟨w.heap.size, 0, none⟩ = some (.int .i64 o))
      ((go_split_ands; refine MK.out _ ?_; first
        | exact (Below.refl _ _).drew
        | exact belowN_set (belowN_set (by assumption))
        | exact below_realloc (by assumption) hb7.size
        | exact Below.alloc (by assumption) (Below.size (by assumption)) _
        | exact Below.trans (by assumption) (Below.mono hb7 (Below.size (by assumption)))))
      ((go_split_ands; first
        | (go_at_call 34
           refine (rows_any _).mono ?_
           rintro e w7 ⟨rfl, hb7⟩
           first | (obtain ⟨q0, q1, q2, q3⟩ := row_facts hb7 rfl) | skip)))
    all_goals
      go_wp2_with fail
      go_meet
      first | exact row_end1 hb7 | exact row_end2 hb7
  case rest =>
    obtain ⟨g, rfl, hg1, hg2, hbk, hc0, hc1⟩ := hcut
    obtain ⟨hmc, e0, e1, e2, hbn⟩ := MW.out wc hbk
    have hg : w.heap.size < g := by have := HWS.out; omega
    have hwc : w.heap.size < wc.heap.size := by omega
    have HCALL := hid (HHF.out wc hmc hbn)
    have HBN := hid hbn
    have hne := nil_ne
    clear hmc hbn hbk
    go_wp2_with fail
    refine (HCALL.out).mono ?_
    rintro e w9 ⟨rfl, hb9⟩
    have HBQ := hid (HBN.out.trans hb9)
    clear hb9 e0 e1 e2 hc0 hc1
    unfold faultE
    go_wp2
    exact ⟨rfl, rfl, HBQ.out⟩
end Go.Proofs.YtedldckijblnhaaDoor
