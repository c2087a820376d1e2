/-
  What an instruction that stores does to a machine.
-/
import Derived.Test.YtedldckijblnhaaDoorCLoad
namespace Go.Proofs.YtedldckijblnhaaDoor
open Go.RowKit
set_option linter.unusedVariables false

set_option maxRecDepth 100000 in
set_option maxHeartbeats 3200000 in
theorem st_ok (i : In) (a b : Nat) (ha : a < 4) (hb : b < 4) (hi : i.a = a) (hj : i.b = b) (N : Nat) (M : Mc) (m : List Int) (l : List Rg) (w : World) (hM : MAt w N M) (hS : ∀ w', Below N w w' → Sees w' .i64 M.wv m) (hR : ∀ w', Below N w w' → SeesR w' M.rv l) (hl : ∀ r ∈ l, r.fit) (hx : fit64 (M.c.reg b)) (hlen : m.length ≤ 100000) (ht : touchE m.length l (M.c.reg b) true = 0) :
    Calls Tryd.prog 57 #[.pointer (some ⟨N, 0, none⟩), i.val] w fun e w' => ∃ u, e = .returned (.tuple #[]) ∧ MAt w' N { M with wv := u } ∧ w'.ownsRow (N + 1) 3 1 u (storeL m l (M.c.reg b) (M.c.reg a)).length ((storeL m l (M.c.reg b) (M.c.reg a)).map (Value.int .i64)) ∧ Below N w w' := by
  obtain ⟨o, a', b'⟩ := i
  simp only at hi hj
  subst hi
  subst hj
  have hlt := hM.1
  have hb0 := alloc_belowI w (.cells #[.int .i64 o, .int .i64 a, .int .i64 b] 44)
  have hbN := alloc_belowN w N (by omega) (.cells #[.int .i64 o, .int .i64 a, .int .i64 b] 44)
  obtain ⟨W, hW⟩ : ∃ W, W = w.alloc (.cells #[.int .i64 o, .int .i64 a, .int .i64 b] 44) := ⟨_, rfl⟩
  rw [← hW] at hb0 hbN
  have hM1 := hM.below hb0
  have d0 : W.cell? ⟨w.heap.size, 0, none⟩ = some (.int .i64 o) := by rw [hW]; simp
  have d1 : W.cell? ⟨w.heap.size, 1, none⟩ = some (.int .i64 a) := by rw [hW]; simp
  have d2 : W.cell? ⟨w.heap.size, 2, none⟩ = some (.int .i64 b) := by rw [hW]; simp
  have hWs : W.heap.size = w.heap.size + 1 := by rw [hW]; simp
  obtain ⟨x, hxe⟩ : ∃ x, M.c.reg a = x := ⟨_, rfl⟩
  obtain ⟨y, hye⟩ : ∃ y, M.c.reg b = y := ⟨_, rfl⟩
  rw [hye] at hx ht
  have MK := hid (show ∀ w', Below W.heap.size W w' → Below W.heap.size W w' ∧ w'.cell? ⟨w.heap.size, 0, none⟩ = some (.int .i64 o) ∧ w'.cell? ⟨w.heap.size, 1, none⟩ = some (.int .i64 a) ∧ w'.cell? ⟨w.heap.size, 2, none⟩ = some (.int .i64 b) ∧
      w'.cell? ⟨N, 6, none⟩ = some M.wv ∧ w'.cell? ⟨N, 7, none⟩ = some M.rv ∧ w'.cell? ⟨N, 1 + a, none⟩ = some (.int .i64 x) ∧ w'.cell? ⟨N, 1 + b, none⟩ = some (.int .i64 y) by
    intro w' hb'
    obtain ⟨m0, m1, m2, m3, m4, m5, m6, m7, m8, m9, m10, m11, m12⟩ := hM1.below hb'
    exact ⟨hb', (hb'.cell (by show w.heap.size < _; omega)).trans d0, (hb'.cell (by show w.heap.size < _; omega)).trans d1, (hb'.cell (by show w.heap.size < _; omega)).trans d2, m5, m6, hxe ▸ m3 a ha, hye ▸ m3 b hb⟩)
  have HSW := hid (show ∀ w', Below W.heap.size W w' → Sees w' .i64 M.wv m from fun w' h => hS w' (hbN.trans (h.mono (by omega))))
  have HRW := hid (show ∀ w', Below W.heap.size W w' → SeesR w' M.rv l from fun w' h => hR w' (hbN.trans (h.mono (by omega))))
  have HMW := hid (show ∀ w', Below W.heap.size W w' → MAt w' N M ∧ Below N w w' from fun w' h => ⟨hM1.below h, hbN.trans (h.mono (by omega))⟩)
  have HW := hid hW
  have HT := hid ht
  have HL := hid hl
  have HX := hid hx
  have HXE := hid hxe
  have HYE := hid hye
  have ha0 : (0 : Int) ≤ (a : Int) := by omega
  have hb00 : (0 : Int) ≤ (b : Int) := by omega
  have ha4 : (a : Int) < 4 := by omega
  have hb4 : (b : Int) < 4 := by omega
  unfold In.val
  simp only
  clear hb0 hbN hM1 hM hS hR d0 d1 d2 hW hl hx ht hxe
  rw [hye, HXE.out]
  clear hye
  go_enter Tryd.func57, Tryd.ntmps57
  go_wp2
  rw [← HW.out]
  go_region_held3 (fun w' => Below W.heap.size W w' ∧ w'.cell? ⟨w.heap.size, 0, none⟩ = some (.int .i64 o) ∧ w'.cell? ⟨w.heap.size, 1, none⟩ = some (.int .i64 a) ∧ w'.cell? ⟨w.heap.size, 2, none⟩ = some (.int .i64 b) ∧
      w'.cell? ⟨N, 6, none⟩ = some M.wv ∧ w'.cell? ⟨N, 7, none⟩ = some M.rv ∧ w'.cell? ⟨N, 1 + a, none⟩ = some (.int .i64 x) ∧ w'.cell? ⟨N, 1 + b, none⟩ = some (.int .i64 y))
    ((go_split_ands; refine MK.out _ ?_; first
      | exact (Below.refl _ _).drew
      | exact Below.trans (by assumption) (Below.mono hb7 (Below.size (by assumption)))))
    ((go_split_ands; first
      | (go_at_call 16
         refine (store_any _ _ m l y x _ (HSW.out _ (by assumption)) (HRW.out _ (by assumption)) HL.out HX.out hlen).mono ?_
         have hsz := Below.size (show Below W.heap.size W _ by assumption)
         rintro e w7 ⟨u, rfl, hown, hb7⟩
         have HO := hid (owns_base hown (show N + 1 ≤ _ by rw [hWs] at hsz; exact Nat.le_trans (by omega) hsz))
         clear hown hsz
         rw [HT.out])))
  go_split_ands
  rename_i hbk _ _ _ _ _ _ _
  obtain ⟨hmk, hbn⟩ := HMW.out _ hbk
  have HMK := hid hmk
  have HBN := hid hbn
  clear hmk hbn
  go_wp2_with fail
  refine (allow_ok _).mono ?_
  rintro e w8 ⟨rfl, rfl⟩
  have f6 := HMK.out.2.1 6
  obtain ⟨ua, ul, uc, rfl⟩ := owns_slice HO.out
  go_wp2
  go_end0
  exact ⟨_, rfl, HMK.out.setW _, owns_set HO.out _ _, belowN_set HBN.out⟩
end Go.Proofs.YtedldckijblnhaaDoor
