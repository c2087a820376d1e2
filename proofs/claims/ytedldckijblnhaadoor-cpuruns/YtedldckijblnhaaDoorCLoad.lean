/-
  What an instruction that loads, or stores, does to a machine.
-/
import Derived.Test.YtedldckijblnhaaDoorCVals
namespace Go.Proofs.YtedldckijblnhaaDoor
open Go.RowKit
set_option linter.unusedVariables false

theorem owns_base {w : World} {base base' : Nat} {e : TypeId} {v : Value} {n : Nat} {xs : List Value} (h : w.ownsRow base e 1 v n xs) (hb : base' ≤ base) : w.ownsRow base' e 1 v n xs := by
  obtain ⟨h1, h2⟩ := h
  refine ⟨h1, ?_⟩
  rcases h2 with h2 | ⟨g, cap, cur, hv, hg, hr⟩
  · exact .inl h2
  · exact .inr ⟨g, cap, cur, hv, Nat.le_trans hb hg, hr⟩
theorem owns_slice {w : World} {base : Nat} {e : TypeId} {v : Value} {n : Nat} {xs : List Value} (h : w.ownsRow base e 1 v n xs) : ∃ a l c, v = .slice a l c := by
  rcases h.2 with h2 | ⟨g, cap, cur, hv, _⟩
  · exact ⟨_, _, _, h2.1⟩
  · exact ⟨_, _, _, hv⟩
/-- What is owned above a block stays owned where a cell of that block is written. -/
theorem owns_set {w : World} {N : Nat} {e : TypeId} {v : Value} {n : Nat} {xs : List Value} (h : w.ownsRow (N + 1) e 1 v n xs) (j : Nat) (x : Value) : (w.setCell ⟨N, j, none⟩ x).ownsRow (N + 1) e 1 v n xs := by
  exact ownsRow_setCell_below h (show N < N + 1 by omega) _

set_option maxRecDepth 100000 in
set_option maxHeartbeats 3200000 in
theorem ld_ok (i : In) (a b : Nat) (ha : a < 4) (hb : b < 4) (hi : i.a = a) (hj : i.b = b) (N : Nat) (M : Mc) (m : List Int) (l : List Rg) (w : World) (hM : MAt w N M) (hS : ∀ w', Below N w w' → Sees w' .i64 M.wv m) (hR : ∀ w', Below N w w' → SeesR w' M.rv l) (hl : ∀ r ∈ l, r.fit) (hx : fit64 (M.c.reg b)) (ht : touchE m.length l (M.c.reg b) false = 0) :
    Calls Tryd.prog 56 #[.pointer (some ⟨N, 0, none⟩), i.val] w fun e w' => e = .returned (.tuple #[]) ∧ MAt w' N { M with c := M.c.set a (loadV m l (M.c.reg b)), o := { { M.o with r := true } with v := loadV m l (M.c.reg b) } } ∧ Below N w w' := by
  obtain ⟨o, a', b'⟩ := i
  simp only at hi hj
  subst hi
  subst hj
  have hlt := hM.1
  have hb0 := alloc_belowI w (.cells #[.int .i64 o, .int .i64 a, .int .i64 b] 44)
  have hbN := alloc_belowN w N (by omega) (.cells #[.int .i64 o, .int .i64 a, .int .i64 b] 44)
  obtain ⟨W, hW⟩ : ∃ W, W = w.alloc (.cells #[.int .i64 o, .int .i64 a, .int .i64 b] 44) := ⟨_, rfl⟩
  rw [← hW] at hb0 hbN
  have hM1 := hM.below hb0
  have d0 : W.cell? ⟨w.heap.size, 0, none⟩ = some (.int .i64 o) := by rw [hW]; simp
  have d1 : W.cell? ⟨w.heap.size, 1, none⟩ = some (.int .i64 a) := by rw [hW]; simp
  have d2 : W.cell? ⟨w.heap.size, 2, none⟩ = some (.int .i64 b) := by rw [hW]; simp
  have hWs : W.heap.size = w.heap.size + 1 := by rw [hW]; simp
  obtain ⟨x, hxe⟩ : ∃ x, M.c.reg a = x := ⟨_, rfl⟩
  obtain ⟨y, hye⟩ : ∃ y, M.c.reg b = y := ⟨_, rfl⟩
  rw [hye] at hx ht
  have MK := hid (show ∀ w', Below W.heap.size W w' → Below W.heap.size W w' ∧ w'.cell? ⟨w.heap.size, 0, none⟩ = some (.int .i64 o) ∧ w'.cell? ⟨w.heap.size, 1, none⟩ = some (.int .i64 a) ∧ w'.cell? ⟨w.heap.size, 2, none⟩ = some (.int .i64 b) ∧
      w'.cell? ⟨N, 6, none⟩ = some M.wv ∧ w'.cell? ⟨N, 7, none⟩ = some M.rv ∧ w'.cell? ⟨N, 1 + a, none⟩ = some (.int .i64 x) ∧ w'.cell? ⟨N, 1 + b, none⟩ = some (.int .i64 y) by
    intro w' hb'
    obtain ⟨m0, m1, m2, m3, m4, m5, m6, m7, m8, m9, m10, m11, m12⟩ := hM1.below hb'
    exact ⟨hb', (hb'.cell (by show w.heap.size < _; omega)).trans d0, (hb'.cell (by show w.heap.size < _; omega)).trans d1, (hb'.cell (by show w.heap.size < _; omega)).trans d2, m5, m6, hxe ▸ m3 a ha, hye ▸ m3 b hb⟩)
  have HSW := hid (show ∀ w', Below W.heap.size W w' → Sees w' .i64 M.wv m from fun w' h => hS w' (hbN.trans (h.mono (by omega))))
  have HRW := hid (show ∀ w', Below W.heap.size W w' → SeesR w' M.rv l from fun w' h => hR w' (hbN.trans (h.mono (by omega))))
  have HMW := hid (show ∀ w', Below W.heap.size W w' → MAt w' N M ∧ Below N w w' from fun w' h => ⟨hM1.below h, hbN.trans (h.mono (by omega))⟩)
  have HW := hid hW
  have HT := hid ht
  have HL := hid hl
  have HX := hid hx
  have HXE := hid hxe
  have HYE := hid hye
  have ha0 : (0 : Int) ≤ (a : Int) := by omega
  have hb00 : (0 : Int) ≤ (b : Int) := by omega
  have ha4 : (a : Int) < 4 := by omega
  have hb4 : (b : Int) < 4 := by omega
  unfold In.val
  simp only
  clear hb0 hbN hM1 hM hS hR d0 d1 d2 hW hl hx ht hxe
  rw [hye]
  obtain ⟨lv, hlv⟩ : ∃ v, loadV m l y = v := ⟨_, rfl⟩
  rw [hlv]
  have HV := hid hlv
  clear hlv hye
  go_enter Tryd.func56, Tryd.ntmps56
  go_wp2
  rw [← HW.out]
  go_region_held3 (fun w' => Below W.heap.size W w' ∧ w'.cell? ⟨w.heap.size, 0, none⟩ = some (.int .i64 o) ∧ w'.cell? ⟨w.heap.size, 1, none⟩ = some (.int .i64 a) ∧ w'.cell? ⟨w.heap.size, 2, none⟩ = some (.int .i64 b) ∧
      w'.cell? ⟨N, 6, none⟩ = some M.wv ∧ w'.cell? ⟨N, 7, none⟩ = some M.rv ∧ w'.cell? ⟨N, 1 + a, none⟩ = some (.int .i64 x) ∧ w'.cell? ⟨N, 1 + b, none⟩ = some (.int .i64 y))
    ((go_split_ands; refine MK.out _ ?_; first
      | exact (Below.refl _ _).drew
      | exact Below.trans (by assumption) (Below.mono hb7 (Below.size (by assumption)))))
    ((go_split_ands; first
      | (go_at_call 17
         refine (load_any _ _ m l y _ (HSW.out _ (by assumption)) (HRW.out _ (by assumption)) HL.out HX.out).mono ?_
         rintro e w7 ⟨rfl, hb7⟩
         rw [HV.out, HT.out])))
  go_split_ands
  rename_i hbk _ _ _ _ _ _ _
  obtain ⟨hmk, hbn⟩ := HMW.out _ hbk
  have HMK := hid hmk
  have HBN := hid hbn
  clear hmk hbn
  go_wp2_with fail
  refine (allow_ok _).mono ?_
  rintro e w8 ⟨rfl, rfl⟩
  go_wp2_with fail
  refine (read_any ⟨o, a, b⟩ lv a ha rfl N M _ HMK.out).mono ?_
  rintro e w9 ⟨rfl, hm9, hb9⟩
  go_wp2
  go_end0
  exact ⟨rfl, hm9, HBN.out.trans hb9⟩

set_option maxRecDepth 100000 in
set_option maxHeartbeats 3200000 in
theorem ld_bad (i : In) (a b : Nat) (ha : a < 4) (hb : b < 4) (hi : i.a = a) (hj : i.b = b) (N : Nat) (M : Mc) (m : List Int) (l : List Rg) (w : World) (hM : MAt w N M) (hS : ∀ w', Below N w w' → Sees w' .i64 M.wv m) (hR : ∀ w', Below N w w' → SeesR w' M.rv l) (hl : ∀ r ∈ l, r.fit) (hx : fit64 (M.c.reg b)) (ht : ¬ touchE m.length l (M.c.reg b) false = 0) :
    Calls Tryd.prog 56 #[.pointer (some ⟨N, 0, none⟩), i.val] w fun e w' => e = faultE 5 ∧ Below N w w' := by
  obtain ⟨o, a', b'⟩ := i
  simp only at hi hj
  subst hi
  subst hj
  have hlt := hM.1
  have hb0 := alloc_belowI w (.cells #[.int .i64 o, .int .i64 a, .int .i64 b] 44)
  have hbN := alloc_belowN w N (by omega) (.cells #[.int .i64 o, .int .i64 a, .int .i64 b] 44)
  obtain ⟨W, hW⟩ : ∃ W, W = w.alloc (.cells #[.int .i64 o, .int .i64 a, .int .i64 b] 44) := ⟨_, rfl⟩
  rw [← hW] at hb0 hbN
  have hM1 := hM.below hb0
  have d0 : W.cell? ⟨w.heap.size, 0, none⟩ = some (.int .i64 o) := by rw [hW]; simp
  have d1 : W.cell? ⟨w.heap.size, 1, none⟩ = some (.int .i64 a) := by rw [hW]; simp
  have d2 : W.cell? ⟨w.heap.size, 2, none⟩ = some (.int .i64 b) := by rw [hW]; simp
  have hWs : W.heap.size = w.heap.size + 1 := by rw [hW]; simp
  obtain ⟨x, hxe⟩ : ∃ x, M.c.reg a = x := ⟨_, rfl⟩
  obtain ⟨y, hye⟩ : ∃ y, M.c.reg b = y := ⟨_, rfl⟩
  rw [hye] at hx ht
  have MK := hid (show ∀ w', Below W.heap.size W w' → Below W.heap.size W w' ∧ w'.cell? ⟨w.heap.size, 0, none⟩ = some (.int .i64 o) ∧ w'.cell? ⟨w.heap.size, 1, none⟩ = some (.int .i64 a) ∧ w'.cell? ⟨w.heap.size, 2, none⟩ = some (.int .i64 b) ∧
      w'.cell? ⟨N, 6, none⟩ = some M.wv ∧ w'.cell? ⟨N, 7, none⟩ = some M.rv ∧ w'.cell? ⟨N, 1 + a, none⟩ = some (.int .i64 x) ∧ w'.cell? ⟨N, 1 + b, none⟩ = some (.int .i64 y) by
    intro w' hb'
    obtain ⟨m0, m1, m2, m3, m4, m5, m6, m7, m8, m9, m10, m11, m12⟩ := hM1.below hb'
    exact ⟨hb', (hb'.cell (by show w.heap.size < _; omega)).trans d0, (hb'.cell (by show w.heap.size < _; omega)).trans d1, (hb'.cell (by show w.heap.size < _; omega)).trans d2, m5, m6, hxe ▸ m3 a ha, hye ▸ m3 b hb⟩)
  have HSW := hid (show ∀ w', Below W.heap.size W w' → Sees w' .i64 M.wv m from fun w' h => hS w' (hbN.trans (h.mono (by omega))))
  have HRW := hid (show ∀ w', Below W.heap.size W w' → SeesR w' M.rv l from fun w' h => hR w' (hbN.trans (h.mono (by omega))))
  have HMW := hid (show ∀ w', Below W.heap.size W w' → MAt w' N M ∧ Below N w w' from fun w' h => ⟨hM1.below h, hbN.trans (h.mono (by omega))⟩)
  have HW := hid hW
  have HT := hid ht
  have HL := hid hl
  have HX := hid hx
  have HXE := hid hxe
  have HYE := hid hye
  have ha0 : (0 : Int) ≤ (a : Int) := by omega
  have hb00 : (0 : Int) ≤ (b : Int) := by omega
  have ha4 : (a : Int) < 4 := by omega
  have hb4 : (b : Int) < 4 := by omega
  unfold In.val
  simp only
  clear hb0 hbN hM1 hM hS hR d0 d1 d2 hW hl hx ht hxe
  obtain ⟨lv, hlv⟩ : ∃ v, loadV m l y = v := ⟨_, rfl⟩
  have HV := hid hlv
  obtain ⟨t, hte⟩ : ∃ v, touchE m.length l y false = v := ⟨_, rfl⟩
  rw [hte] at HT
  have HTB := HT
  replace HT := hid hte
  clear hlv hye hte
  go_enter Tryd.func56, Tryd.ntmps56
  go_wp2
  rw [← HW.out]
  go_region_held3 (fun w' => Below W.heap.size W w' ∧ w'.cell? ⟨w.heap.size, 0, none⟩ = some (.int .i64 o) ∧ w'.cell? ⟨w.heap.size, 1, none⟩ = some (.int .i64 a) ∧ w'.cell? ⟨w.heap.size, 2, none⟩ = some (.int .i64 b) ∧
      w'.cell? ⟨N, 6, none⟩ = some M.wv ∧ w'.cell? ⟨N, 7, none⟩ = some M.rv ∧ w'.cell? ⟨N, 1 + a, none⟩ = some (.int .i64 x) ∧ w'.cell? ⟨N, 1 + b, none⟩ = some (.int .i64 y))
    ((go_split_ands; refine MK.out _ ?_; first
      | exact (Below.refl _ _).drew
      | exact Below.trans (by assumption) (Below.mono hb7 (Below.size (by assumption)))))
    ((go_split_ands; first
      | (go_at_call 17
         refine (load_any _ _ m l y _ (HSW.out _ (by assumption)) (HRW.out _ (by assumption)) HL.out HX.out).mono ?_
         rintro e w7 ⟨rfl, hb7⟩
         rw [HV.out, HT.out])))
  go_split_ands
  rename_i hbk _ _ _ _ _ _ _
  obtain ⟨hmk, hbn⟩ := HMW.out _ hbk
  have HMK := hid hmk
  have HBN := hid hbn
  clear hmk hbn
  go_wp2_with fail
  refine (allow_bad t HTB.out _).mono ?_
  rintro e w8 ⟨rfl, rfl⟩
  unfold faultE
  go_wp2
  exact ⟨rfl, rfl, HBN.out⟩

set_option maxRecDepth 100000 in
set_option maxHeartbeats 3200000 in
theorem st_bad (i : In) (a b : Nat) (ha : a < 4) (hb : b < 4) (hi : i.a = a) (hj : i.b = b) (N : Nat) (M : Mc) (m : List Int) (l : List Rg) (w : World) (hM : MAt w N M) (hS : ∀ w', Below N w w' → Sees w' .i64 M.wv m) (hR : ∀ w', Below N w w' → SeesR w' M.rv l) (hl : ∀ r ∈ l, r.fit) (hx : fit64 (M.c.reg b)) (hlen : m.length ≤ 100000) (ht : ¬ touchE m.length l (M.c.reg b) true = 0) :
    Calls Tryd.prog 57 #[.pointer (some ⟨N, 0, none⟩), i.val] w fun e w' => e = faultE 5 ∧ Below N w w' := by
  obtain ⟨o, a', b'⟩ := i
  simp only at hi hj
  subst hi
  subst hj
  have hlt := hM.1
  have hb0 := alloc_belowI w (.cells #[.int .i64 o, .int .i64 a, .int .i64 b] 44)
  have hbN := alloc_belowN w N (by omega) (.cells #[.int .i64 o, .int .i64 a, .int .i64 b] 44)
  obtain ⟨W, hW⟩ : ∃ W, W = w.alloc (.cells #[.int .i64 o, .int .i64 a, .int .i64 b] 44) := ⟨_, rfl⟩
  rw [← hW] at hb0 hbN
  have hM1 := hM.below hb0
  have d0 : W.cell? ⟨w.heap.size, 0, none⟩ = some (.int .i64 o) := by rw [hW]; simp
  have d1 : W.cell? ⟨w.heap.size, 1, none⟩ = some (.int .i64 a) := by rw [hW]; simp
  have d2 : W.cell? ⟨w.heap.size, 2, none⟩ = some (.int .i64 b) := by rw [hW]; simp
  have hWs : W.heap.size = w.heap.size + 1 := by rw [hW]; simp
  obtain ⟨x, hxe⟩ : ∃ x, M.c.reg a = x := ⟨_, rfl⟩
  obtain ⟨y, hye⟩ : ∃ y, M.c.reg b = y := ⟨_, rfl⟩
  rw [hye] at hx ht
  have MK := hid (show ∀ w', Below W.heap.size W w' → Below W.heap.size W w' ∧ w'.cell? ⟨w.heap.size, 0, none⟩ = some (.int .i64 o) ∧ w'.cell? ⟨w.heap.size, 1, none⟩ = some (.int .i64 a) ∧ w'.cell? ⟨w.heap.size, 2, none⟩ = some (.int .i64 b) ∧
      w'.cell? ⟨N, 6, none⟩ = some M.wv ∧ w'.cell? ⟨N, 7, none⟩ = some M.rv ∧ w'.cell? ⟨N, 1 + a, none⟩ = some (.int .i64 x) ∧ w'.cell? ⟨N, 1 + b, none⟩ = some (.int .i64 y) by
    intro w' hb'
    obtain ⟨m0, m1, m2, m3, m4, m5, m6, m7, m8, m9, m10, m11, m12⟩ := hM1.below hb'
    exact ⟨hb', (hb'.cell (by show w.heap.size < _; omega)).trans d0, (hb'.cell (by show w.heap.size < _; omega)).trans d1, (hb'.cell (by show w.heap.size < _; omega)).trans d2, m5, m6, hxe ▸ m3 a ha, hye ▸ m3 b hb⟩)
  have HSW := hid (show ∀ w', Below W.heap.size W w' → Sees w' .i64 M.wv m from fun w' h => hS w' (hbN.trans (h.mono (by omega))))
  have HRW := hid (show ∀ w', Below W.heap.size W w' → SeesR w' M.rv l from fun w' h => hR w' (hbN.trans (h.mono (by omega))))
  have HMW := hid (show ∀ w', Below W.heap.size W w' → MAt w' N M ∧ Below N w w' from fun w' h => ⟨hM1.below h, hbN.trans (h.mono (by omega))⟩)
  have HW := hid hW
  have HT := hid ht
  have HL := hid hl
  have HX := hid hx
  have HXE := hid hxe
  have HYE := hid hye
  have ha0 : (0 : Int) ≤ (a : Int) := by omega
  have hb00 : (0 : Int) ≤ (b : Int) := by omega
  have ha4 : (a : Int) < 4 := by omega
  have hb4 : (b : Int) < 4 := by omega
  unfold In.val
  simp only
  clear hb0 hbN hM1 hM hS hR d0 d1 d2 hW hl hx ht hxe
  obtain ⟨t, hte⟩ : ∃ v, touchE m.length l y true = v := ⟨_, rfl⟩
  rw [hte] at HT
  have HTB := HT
  replace HT := hid hte
  clear hye hte
  go_enter Tryd.func57, Tryd.ntmps57
  go_wp2
  rw [← HW.out]
  go_region_held3 (fun w' => Below W.heap.size W w' ∧ w'.cell? ⟨w.heap.size, 0, none⟩ = some (.int .i64 o) ∧ w'.cell? ⟨w.heap.size, 1, none⟩ = some (.int .i64 a) ∧ w'.cell? ⟨w.heap.size, 2, none⟩ = some (.int .i64 b) ∧
      w'.cell? ⟨N, 6, none⟩ = some M.wv ∧ w'.cell? ⟨N, 7, none⟩ = some M.rv ∧ w'.cell? ⟨N, 1 + a, none⟩ = some (.int .i64 x) ∧ w'.cell? ⟨N, 1 + b, none⟩ = some (.int .i64 y))
    ((go_split_ands; refine MK.out _ ?_; first
      | exact (Below.refl _ _).drew
      | exact Below.trans (by assumption) (Below.mono hb7 (Below.size (by assumption)))))
    ((go_split_ands; first
      | (go_at_call 16
         refine (store_any _ _ m l y x _ (HSW.out _ (by assumption)) (HRW.out _ (by assumption)) HL.out HX.out hlen).mono ?_
         have hsz := Below.size (show Below W.heap.size W _ by assumption)
         rintro e w7 ⟨u, rfl, hown, hb7⟩
         have HO := hid (owns_base hown (show N + 1 ≤ _ by rw [hWs] at hsz; exact Nat.le_trans (by omega) hsz))
         clear hown hsz
         rw [HT.out])))
  go_split_ands
  rename_i hbk _ _ _ _ _ _ _
  obtain ⟨hmk, hbn⟩ := HMW.out _ hbk
  have HMK := hid hmk
  have HBN := hid hbn
  clear hmk hbn
  go_wp2_with fail
  refine (allow_bad t HTB.out _).mono ?_
  rintro e w8 ⟨rfl, rfl⟩
  unfold faultE
  go_wp2
  exact ⟨rfl, rfl, HBN.out⟩

end Go.Proofs.YtedldckijblnhaaDoor
