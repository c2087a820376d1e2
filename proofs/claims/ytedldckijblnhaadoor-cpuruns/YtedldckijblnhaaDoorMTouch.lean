/-
  What mem.refused, mem.number, mem.Load, mem.Store return, whatever memory and regions they are given, and that nothing that was there is written.
-/
import Derived.Test.YtedldckijblnhaaDoorMReg
namespace Go.Proofs.YtedldckijblnhaaDoor
open Go.RowKit
set_option linter.unusedVariables false

def okB (r : Rg) (k : Int) (q : Bool) : Bool := hasB r k && (r.wr || !q)
def touchE (n : Nat) (l : List Rg) (k : Int) (q : Bool) : Int := if k < 0 ∨ (n : Int) ≤ k then 4 else if l.any (okB · k q) then 0 else 6
def refV (e : Int) : Value := if e = 0 then .nilIface else if e = 4 then .iface 80 (.agg #[]) else .iface 81 (.agg #[])

theorem any_at (l : List Rg) (p : Rg → Bool) (k : Nat) (hk : k < l.length) (h : p (l.getD k Rg.zero) = true) : l.any p = true := by
  rw [List.any_eq_true]
  exact ⟨l[k], List.getElem_mem hk, by simpa [List.getD, List.getElem?_eq_getElem hk] using h⟩
theorem any_none (l : List Rg) (p : Rg → Bool) (h : ∀ j, j < l.length → p (l.getD j Rg.zero) = false) : l.any p = false := by
  rw [List.any_eq_false]
  intro x hx
  obtain ⟨j, hj, rfl⟩ := List.getElem_of_mem hx
  have := h j hj
  simpa [List.getD, List.getElem?_eq_getElem hj] using this
theorem fit_at {l : List Rg} (hl : ∀ r ∈ l, r.fit) (k : Nat) (hk : k < l.length) : (l.getD k Rg.zero).fit := by
  have := hl l[k] (List.getElem_mem hk)
  simpa [List.getD, List.getElem?_eq_getElem hk] using this

set_option maxRecDepth 100000 in
set_option maxHeartbeats 400000 in
theorem refused_any (vm vl : Value) (m : List Int) (l : List Rg) (k : Int) (q : Bool) (w : World) (hm : Sees w .i64 vm m) (hv : SeesR w vl l) (hl : ∀ r ∈ l, r.fit) (hk : -9223372036854775808 ≤ k ∧ k ≤ 9223372036854775807) :
    Calls Tryd.prog 31 #[vm, vl, .int .i64 k, .bool q] w fun e w' => e = .returned (refV (touchE m.length l k q)) ∧ Below w.heap.size w w' := by
  obtain ⟨am, cm, rfl, hm1, hm2, hmc⟩ := hm.form
  obtain ⟨al, cl, rfl, hl1, hl2, hlc⟩ := hv.form
  unfold maxLen at hm2 hl2
  have HC := hid hlc
  have HL := hid hl
  clear hmc hlc hm hv hl
  obtain ⟨hk1, hk2⟩ := hk
  by_cases hin : 0 ≤ k ∧ k < m.length
  · obtain ⟨hin1, hin2⟩ := hin
    go_enter Tryd.func31, Tryd.ntmps31
    go_wp2
    go_loopw [23] (fun i wc => ∃ j : Nat, j ≤ l.length ∧ i = .int .i64 j ∧ (∀ i, i < j → okB (l.getD i Rg.zero) k q = false) ∧ Below w.heap.size w wc) (fun i _ => l.length - (intOf i).toNat)
    case atStart => exact ⟨0, by omega, rfl, by intro i hi; omega, Below.refl _ _⟩
    case round =>
      obtain ⟨j, hj, rfl, hno, hbel⟩ := hrel
      have HN := hid hno
      clear hno
      by_cases hlt : j < l.length
      · obtain ⟨b, off, rfl, hbw, hcell⟩ := HC.out (by omega)
        obtain ⟨c1, c2, c3⟩ := hcell j hlt
        replace c1 := (hbel.cell (by exact hbw)).trans c1
        replace c2 := (hbel.cell (by exact hbw)).trans c2
        replace c3 := (hbel.cell (by exact hbw)).trans c3
        clear hcell HC
        have hfit := fit_at HL.out j hlt
        have HJ := hid (show okB (l.getD j Rg.zero) k q = true → touchE m.length l k q = 0 by
          intro h; unfold touchE; rw [if_neg (by omega), if_pos (any_at l _ j hlt h)])
        have HX := hid (show okB (l.getD j Rg.zero) k q = false → ∀ i, i < j + 1 → okB (l.getD i Rg.zero) k q = false by
          intro h i hi
          by_cases e : i = j
          · subst e; exact h
          · exact HN.out i (by omega))
        clear HL HN
        generalize l.getD j Rg.zero = r at *
        obtain ⟨f, n, rw⟩ := r
        simp only at c1 c2 c3
        go_wp2_with fail
        refine (has_any ⟨f, n, rw⟩ k hfit ⟨hk1, hk2⟩ _).mono ?_
        rintro e w1 ⟨rfl, hb1⟩
        have hx : w1.cell? ⟨wr.heap.size, 2, none⟩ = some (.bool rw) := (hb1.cell (by simp)).trans (by simp)
        have hbb : Below w.heap.size w w1 := (hbel.alloc hbel.size _).trans (hb1.mono (by have := hbel.size; simp; omega))
        unfold okB at HJ HX
        simp only at HJ HX
        generalize hasB ⟨f, n, rw⟩ k = hB at *
        clear hb1 hfit c1 c2 c3 hbel
        rcases hB with _ | _ <;> rcases rw with _ | _ <;> rcases q with _ | _
        all_goals go_wp2
        all_goals first
          | (go_ret
             exact ⟨by rw [HJ.out rfl]; rfl, hbb⟩)
          | (go_roundw
             case rel => exact ⟨j + 1, by omega, by go_num, HX.out rfl, hbb⟩
             case measure => simp [intOf]; omega)
      · have HE := hid (show touchE m.length l k q = 6 by
          unfold touchE; rw [if_neg (by omega), any_none l _ (fun i hi => HN.out i (by omega))]; rfl)
        go_wp2
        go_ret
        exact ⟨by rw [HE.out]; rfl, hbel⟩
  · have HE := hid (show touchE m.length l k q = 4 by unfold touchE; rw [if_pos (by omega)])
    by_cases hk0 : k < 0
    · clear hin
      go_enter Tryd.func31, Tryd.ntmps31
      go_wp2
      go_ret
      exact ⟨by rw [HE.out]; rfl, Below.refl _ _⟩
    · have hk3 : (m.length : Int) ≤ k := by omega
      clear hin
      go_enter Tryd.func31, Tryd.ntmps31
      go_wp2
      go_ret
      exact ⟨by rw [HE.out]; rfl, Below.refl _ _⟩

theorem Tryd.ta_absent (w : World) : (Instr.typeAssert (.iface 80 (.agg #[])) 66 80 true).run Tryd.prog w = .ok (.tuple #[.agg #[], .bool true]) w := by
  simp [Instr.typeAssert, run_underlying Tryd.underlying80]
theorem Tryd.ta_closed_absent (w : World) : (Instr.typeAssert (.iface 81 (.agg #[])) 66 80 true).run Tryd.prog w = .ok (.tuple #[.agg #[], .bool false]) w := by
  have h : (zeroValue 80).run Tryd.prog w = .ok (.agg #[]) w := by kernel_rfl
  simp [Instr.typeAssert, run_underlying Tryd.underlying80, h]
theorem Tryd.ta_closed (w : World) : (Instr.typeAssert (.iface 81 (.agg #[])) 66 81 true).run Tryd.prog w = .ok (.tuple #[.agg #[], .bool true]) w := by
  simp [Instr.typeAssert, run_underlying Tryd.underlying81]
theorem Tryd.ta_nil_absent (w : World) : (Instr.typeAssert .nilIface 66 80 true).run Tryd.prog w = .ok (.tuple #[.agg #[], .bool false]) w := by
  have h : (zeroValue 80).run Tryd.prog w = .ok (.agg #[]) w := by kernel_rfl
  simp [Instr.typeAssert, run_underlying Tryd.underlying80, h]
theorem Tryd.ta_nil_closed (w : World) : (Instr.typeAssert .nilIface 66 81 true).run Tryd.prog w = .ok (.tuple #[.agg #[], .bool false]) w := by
  have h : (zeroValue 81).run Tryd.prog w = .ok (.agg #[]) w := by kernel_rfl
  simp [Instr.typeAssert, run_underlying Tryd.underlying81, h]

set_option maxRecDepth 100000 in
set_option maxHeartbeats 400000 in
theorem number_any (e : Int) (he : e = 0 ∨ e = 4 ∨ e = 6) (w : World) :
    Calls Tryd.prog 30 #[refV e] w fun r w' => r = .returned (.int .i64 e) ∧ w' = w := by
  have h1 := Tryd.ta_absent
  have h2 := Tryd.ta_closed_absent
  have h3 := Tryd.ta_closed
  have h4 := Tryd.ta_nil_absent
  have h5 := Tryd.ta_nil_closed
  rcases he with rfl | rfl | rfl
  · rw [show refV 0 = .nilIface from rfl]
    go_enter Tryd.func30, Tryd.ntmps30
    go_wp2
    go_ret
    exact ⟨rfl, rfl⟩
  · rw [show refV 4 = .iface 80 (.agg #[]) from rfl]
    go_enter Tryd.func30, Tryd.ntmps30
    go_wp2
    go_ret
    exact ⟨rfl, rfl⟩
  · rw [show refV 6 = .iface 81 (.agg #[]) from rfl]
    go_enter Tryd.func30, Tryd.ntmps30
    go_wp2
    go_ret
    exact ⟨rfl, rfl⟩
end Go.Proofs.YtedldckijblnhaaDoor
