/-
  The chapter's example of package ready.
-/
import Derived.Test.YtdhkchbmddacmaaYOrder
import Derived.Laws.EntriesVeiled
namespace Go.Proofs.Ytdhkchbmddacmaa
open Go.RowKit
set_option linter.unusedVariables false

def yex (p s : Int) : Px := ⟨1, p, false, 0, 0, 0, 0, 0, s, 0, 0, 0, 0, 0, false, 0, 0, 0⟩
def yexL : List Px := [yex 1 5, yex 2 9, yex 2 7]
theorem yex_order : orderS yexL 2 = [2, 1, 0] := by
  refine (order_eq yexL 2 [2, 1, 0] (by decide) fun i => ?_).symm
  constructor
  · intro h
    simp only [List.mem_cons, List.not_mem_nil, or_false] at h
    rcases h with rfl | rfl | rfl <;> decide
  · rintro ⟨h, _⟩
    have : i < 3 := h
    match i, this with
    | 0, _ => simp
    | 1, _ => simp
    | 2, _ => simp
theorem yex_cold : orderS yexL 1 = [0] := by
  refine (order_eq yexL 1 [0] (by decide) fun i => ?_).symm
  constructor
  · intro h
    simp only [List.mem_cons, List.not_mem_nil, or_false] at h
    subst h
    decide
  · rintro ⟨h, _⟩
    have : i < 1 := h
    match i, this with
    | 0, _ => simp
theorem yex_idle : orderS yexL 0 = [] := by
  refine (order_eq yexL 0 [] (by decide) fun i => ?_).symm
  constructor
  · intro h; simp at h
  · rintro ⟨h, _⟩; exact absurd h (Nat.not_lt_zero _)
theorem yex_orderI : orderI yexL 2 = [2, 1, 0] := by unfold orderI; rw [yex_order]; rfl
theorem yex_pick2 : pickS yexL 2 = 2 := by unfold pickS; rw [yex_order]; rfl
theorem yex_pick1 : pickS yexL 1 = 0 := by unfold pickS; rw [yex_cold]; rfl
theorem yex_pick0 : pickS yexL 0 = -1 := by unfold pickS; rw [yex_idle]

set_option maxRecDepth 100000 in
set_option maxHeartbeats 1600000 in
theorem yawake_any (w : World) : Calls Try.prog 9 #[] w fun e w' => e = .returned (.bool true) ∧ Below w.heap.size w w' := by
  obtain ⟨C, hC⟩ : ∃ C, C = (yexL.flatMap Px.cells).toArray := ⟨_, rfl⟩
  have hs : ∀ w', Below (w.alloc (.cells C 33)).heap.size (w.alloc (.cells C 33)) w' → SeesPx w' (.slice (some ⟨w.heap.size, 0, none⟩) 3 3) yexL := by
    intro w' hb
    have hbx := (BoxAt.new w 33 C).belowAll hb
    refine .inr ⟨⟨w.heap.size, 0, none⟩, 3, rfl, by decide, by decide, fun i hi j hj => ?_⟩
    rw [add_none, Nat.zero_add, hbx.cell, hC]
    have hi2 : i < 3 := hi
    have h54 : ∀ i, i < 3 → ∀ j, j < 18 → (yexL.flatMap Px.cells).toArray[i * 18 + j]? = some (((yexL.map Px.cells).getD i []).getD j .nilIface) := by
      intro i hi j hj
      match i, hi with
      | 0, _ => match j, hj with
        | 0, _ => rfl
        | 1, _ => rfl
        | 2, _ => rfl
        | 3, _ => rfl
        | 4, _ => rfl
        | 5, _ => rfl
        | 6, _ => rfl
        | 7, _ => rfl
        | 8, _ => rfl
        | 9, _ => rfl
        | 10, _ => rfl
        | 11, _ => rfl
        | 12, _ => rfl
        | 13, _ => rfl
        | 14, _ => rfl
        | 15, _ => rfl
        | 16, _ => rfl
        | 17, _ => rfl
        | j + 18, h => exact absurd h (by omega)
      | 1, _ => match j, hj with
        | 0, _ => rfl
        | 1, _ => rfl
        | 2, _ => rfl
        | 3, _ => rfl
        | 4, _ => rfl
        | 5, _ => rfl
        | 6, _ => rfl
        | 7, _ => rfl
        | 8, _ => rfl
        | 9, _ => rfl
        | 10, _ => rfl
        | 11, _ => rfl
        | 12, _ => rfl
        | 13, _ => rfl
        | 14, _ => rfl
        | 15, _ => rfl
        | 16, _ => rfl
        | 17, _ => rfl
        | j + 18, h => exact absurd h (by omega)
      | 2, _ => match j, hj with
        | 0, _ => rfl
        | 1, _ => rfl
        | 2, _ => rfl
        | 3, _ => rfl
        | 4, _ => rfl
        | 5, _ => rfl
        | 6, _ => rfl
        | 7, _ => rfl
        | 8, _ => rfl
        | 9, _ => rfl
        | 10, _ => rfl
        | 11, _ => rfl
        | 12, _ => rfl
        | 13, _ => rfl
        | 14, _ => rfl
        | 15, _ => rfl
        | 16, _ => rfl
        | 17, _ => rfl
        | j + 18, h => exact absurd h (by omega)
    exact h54 i hi2 j hj
  have HO := hid (fun w' h => order_any _ yexL 2 w' (hs w' h) (by decide))
  have HP2 := hid (fun w' h => pick_any _ yexL 2 w' (hs w' h) (by decide))
  have HP1 := hid (fun w' h => pick_any _ yexL 1 w' (hs w' h) (by decide))
  have HP0 := hid (fun w' h => pick_any _ yexL 0 w' (hs w' h) (by decide))
  simp only [yex_orderI, yex_pick2, yex_pick1, yex_pick0] at HO HP2 HP1 HP0
  have HB0 := hid (show Below w.heap.size w (w.alloc (.cells C 33)) from (Below.refl _ _).alloc (Nat.le_refl _) _)
  have hC2 : C = #[.int .i64 1, .int .i64 1, .bool false, .int .i64 0, .int .i64 0, .int .i64 0, .int .i64 0, .int .i64 0, .int .i64 5, .int .i64 0, .int .i64 0, .int .i64 0, .int .i64 0, .int .i64 0, .bool false, .int .i64 0, .int .i64 0, .int .i64 0,
    .int .i64 1, .int .i64 2, .bool false, .int .i64 0, .int .i64 0, .int .i64 0, .int .i64 0, .int .i64 0, .int .i64 9, .int .i64 0, .int .i64 0, .int .i64 0, .int .i64 0, .int .i64 0, .bool false, .int .i64 0, .int .i64 0, .int .i64 0,
    .int .i64 1, .int .i64 2, .bool false, .int .i64 0, .int .i64 0, .int .i64 0, .int .i64 0, .int .i64 0, .int .i64 7, .int .i64 0, .int .i64 0, .int .i64 0, .int .i64 0, .int .i64 0, .bool false, .int .i64 0, .int .i64 0, .int .i64 0] := by rw [hC]; rfl
  subst hC2
  clear hC hs
  go_enter Try.func9, Try.ntmps9
  go_wp2_with fail
  refine (HO.out _ (Below.refl _ _)).mono ?_
  rintro e w1 ⟨u, rfl, ho, hb1⟩
  obtain ⟨pu, cu, rfl, h1, h2, h3⟩ := ho.sees.form
  obtain ⟨b, off, rfl, hbw, hc⟩ := h3 (by decide)
  have c0 : w1.cell? ⟨b, off, none⟩ = some (.int .i64 2) := hc 0 (by decide)
  have c1 : w1.cell? ⟨b, off + 1, none⟩ = some (.int .i64 1) := hc 1 (by decide)
  have HB1 := hid hb1
  clear hc h3 ho HO hb1
  go_wp2_with fail
  refine (HP2.out _ HB1.out).mono ?_
  rintro e w2 ⟨rfl, hb2⟩
  have HB2 := hid (HB1.out.trans (hb2.mono HB1.out.size))
  clear hb2 HP2 c0 c1
  go_wp2_with fail
  refine (HP1.out _ HB2.out).mono ?_
  rintro e w3 ⟨rfl, hb3⟩
  have HB3 := hid (HB2.out.trans (hb3.mono HB2.out.size))
  clear hb3 HP1
  go_wp2_with fail
  refine (HP0.out _ HB3.out).mono ?_
  rintro e w4 ⟨rfl, hb4⟩
  have HB4 := hid (HB3.out.trans (hb4.mono HB3.out.size))
  clear hb4 HP0
  go_wp2
  go_ret
  exact ⟨rfl, HB0.out.trans (HB4.out.mono (by simp))⟩
end Go.Proofs.Ytdhkchbmddacmaa
