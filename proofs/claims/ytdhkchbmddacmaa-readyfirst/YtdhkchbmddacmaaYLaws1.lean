/-
  ReadyOrders, ReadyModes: the walks.
-/
import Derived.Test.YtdhkchbmddacmaaYAwake
import Derived.Test.YtdhkchbmddacmaaYRefOrd
import Derived.Test.YtdhkchbmddacmaaWSame
import Derived.Test.YtdhkchbmddacmaaPOpen
namespace Go.Proofs.Ytdhkchbmddacmaa
open Go.RowKit
set_option linter.unusedVariables false

set_option maxRecDepth 100000 in
set_option maxHeartbeats 1600000 in
theorem walk_ReadyOrders (w : World) (v : Value) (l : List Px) (hv : SeesPx w v l) (hf : ∀ r ∈ l, r.fit) (mode : Int) (hm : (Lit.int .i64 mode).wf = true) :
    Calls Try.prog 3 #[v, .int .i64 mode] w fun e w' => e = .returned (.bool true) ∧ Below w.heap.size w w' := by
  clear hm hf
  have HV := hid hv
  obtain ⟨al, cl, rfl, hl1, hl2, _⟩ := hv.form
  clear hv hl2
  obtain ⟨vl, hvl⟩ : ∃ vl, vl = Value.slice al l.length cl := ⟨_, rfl⟩
  go_enter Try.func3, Try.ntmps3
  go_wp2_with fail
  refine (yawake_any _).mono ?_
  rintro e w1 ⟨rfl, hb1⟩
  have HB1 := hid hb1
  clear hb1
  by_cases h40 : 40 < l.length
  · have h40' : (40 : Int) < l.length := by omega
    go_wp2
    go_ret
    exact ⟨rfl, HB1.out⟩
  have hl : l.length ≤ 900000 := by omega
  have h40' : ¬ (40 : Int) < l.length := by omega
  have HO := hid (fun W (hW : Below w.heap.size w W) => order_any _ l mode W (HV.out.below hW) hl)
  have HRO := hid (fun W (hW : Below w.heap.size w W) => rorder_any _ l mode W (HV.out.below hW) hl)
  have HP := hid (fun W (hW : Below w.heap.size w W) => pick_any _ l mode W (HV.out.below hW) hl)
  have HRP := hid (fun W (hW : Below w.heap.size w W) => rpick_any _ l mode W (HV.out.below hW) hl)
  generalize orderI l mode = M at *
  generalize pickS l mode = p at *
  go_wp2_with fail
  refine (HO.out _ HB1.out).mono ?_
  rintro e w2 ⟨u2, rfl, ho2, hb2⟩
  have HO2 := hid ho2
  have HB2 := hid (HB1.out.trans (hb2.mono HB1.out.size))
  clear ho2 hb2 HO
  go_wp2_with fail
  refine (HRO.out _ HB2.out).mono ?_
  rintro e w3 ⟨u3, rfl, ho3, hb3⟩
  have HO2b := hid (HO2.out.below hb3)
  have HO3 := hid ho3
  have HB3 := hid (HB2.out.trans (hb3.mono HB2.out.size))
  clear ho3 hb3 HRO HO2
  go_wp2_with fail
  refine (same_any _ _ M M _ HO2b.out.sees HO3.out.sees).mono ?_
  rintro e w4 ⟨rfl, hb4⟩
  have HB4 := hid (HB3.out.trans (hb4.mono HB3.out.size))
  clear hb4 HO2b HO3
  rw [decide_eq_true rfl]
  go_wp2_with fail
  refine (HP.out _ HB4.out).mono ?_
  rintro e w5 ⟨rfl, hb5⟩
  have HB5 := hid (HB4.out.trans (hb5.mono HB4.out.size))
  clear hb5 HP
  go_wp2_with fail
  refine (HRP.out _ HB5.out).mono ?_
  rintro e w6 ⟨rfl, hb6⟩
  have HB6 := hid (HB5.out.trans (hb6.mono HB5.out.size))
  clear hb6 HRP
  go_wp2
  go_ret
  exact ⟨rfl, HB6.out⟩

theorem modes_cold_le (l : List Px) : (orderS l 1).length ≤ 1 := by
  refine Nat.le_trans (by rw [order_len]; unfold idxS; exact List.length_filter_le _ _) ?_
  unfold modeN
  simp
  omega
theorem modes_cold (l : List Px) : orderS l 1 = [] ∨ orderS l 1 = [0] := by
  have h := modes_cold_le l
  match e : orderS l 1, h with
  | [], _ => exact .inl rfl
  | [x], _ =>
    right
    have hx : x ∈ orderS l 1 := by rw [e]; simp
    have := ((mem_order l 1 x).1 hx).1
    unfold modeN at this
    rw [if_pos rfl] at this
    have : x = 0 := by omega
    rw [this]
  | x :: y :: t, h => simp at h
theorem modes_zero (l : List Px) : (0 ∈ orderS l 2) ↔ orderS l 1 = [0] := by
  constructor
  · intro h
    have h2 := (mem_order l 2 0).1 h
    have h1 : 0 ∈ orderS l 1 := (mem_order l 1 0).2 ⟨by have := order_lt l 2 0 h; unfold modeN; rw [if_pos rfl]; omega, h2.2⟩
    rcases modes_cold l with e | e
    · rw [e] at h1; simp at h1
    · exact e
  · intro h
    have h1 : 0 ∈ orderS l 1 := by rw [h]; simp
    have h2 := (mem_order l 1 0).1 h1
    refine (mem_order l 2 0).2 ⟨?_, h2.2⟩
    have := order_lt l 1 0 h1
    unfold modeN
    rw [if_neg (by decide), if_pos rfl]
    exact this
theorem modes_none (l : List Px) (mode : Int) (h1 : mode ≠ 1) (h2 : mode ≠ 2) : orderS l mode = [] := by
  have : (orderS l mode).length = 0 := by
    rw [order_len]; unfold idxS modeN; rw [if_neg h1, if_neg h2]; rfl
  exact List.eq_nil_of_length_eq_zero this
theorem modes_pick (l : List Px) (mode : Int) (h1 : mode ≠ 1) (h2 : mode ≠ 2) : pickS l mode = -1 := by
  unfold pickS; rw [modes_none l mode h1 h2]
end Go.Proofs.Ytdhkchbmddacmaa
