/-
  What procs.each returns at the kinds of a partition's objects, whatever they become.
-/
import Derived.Test.YtdanfnbclbiidaaQStay
namespace Go.Proofs.Ytdanfnbclbiidaa
open Go.RowKit
set_option linter.unusedVariables false

set_option maxRecDepth 100000 in
set_option maxHeartbeats 1600000 in
theorem each_Bd (gb : Nat) (cb : Array Value) (F : Bd → Bd) (eg : ∀ args w, (callFunc gb args).run Try.prog w = .ok (.enter gb args) w) {v : Value} {l : List Bd} {w : World} (hv : LBd w v l) (hlen : l.length ≤ 900000)
    (hp : ∀ W, Below w.heap.size w W → ∀ (q : BdV) (x : Bd), x ∈ l → BdAt W q x → Calls Try.prog gb (#[q.val] ++ cb) W fun e w' => ∃ q', e = .returned (BdV.val q') ∧ BdO w' W.heap.size q' (F x) ∧ Below W.heap.size W w') :
    Calls Try.prog 66 #[v, .func (.func gb) #[] cb] w fun e w' => ∃ u, e = .returned u ∧ OBd w' w.heap.size u (l.map F) ∧ Below w.heap.size w w' := by
  obtain ⟨rs0, hs, hn, hat⟩ := hv
  have HCl := hid (qclone_BdV hs (by omega))
  have HAt := hid hat
  have HP := hid hp
  have HL := hid hn
  clear hs hat hp hn
  go_enter Try.func66, Try.ntmps66
  go_wp2_with fail
  refine HCl.out.mono ?_
  rintro e w1 ⟨u, rfl, ho, hb⟩
  obtain ⟨a, cap, rfl, hc1, hc2, _⟩ := ho.sees.form
  have hc3 : cap ≤ 9223372036854775807 := hc2
  have HO := hid (show w1.ownsRow w.heap.size 67 3 (.slice a rs0.length cap) rs0.length (rs0.map BdV.cells).flatten from ho)
  clear ho hc2 HCl
  go_wp2
  go_loopw [12] (fun t wc => ∃ (i : Nat) (rs : List BdV), i ≤ rs0.length ∧ t = .int .i64 i ∧ rs.length = rs0.length ∧ Hid (wc.ownsRow w.heap.size 67 3 (.slice a rs0.length cap) rs0.length (rs.map BdV.cells).flatten) ∧
      Hid (∀ k, k < i → BdO wc w.heap.size (rs.getD k BdV.zero) (F (l.getD k Bd.zero))) ∧ Hid (∀ k, i ≤ k → k < rs0.length → rs.getD k BdV.zero = rs0.getD k BdV.zero) ∧ Below w.heap.size w wc) (fun t _ => rs0.length - (intOf t).toNat)
  case atStart => exact ⟨0, rs0, by omega, rfl, rfl, HO, hid (fun k hk => absurd hk (Nat.not_lt_zero _)), hid (fun k _ _ => rfl), hb⟩
  case round =>
    clear HO hb
    obtain ⟨i, rs, hi, rfl, hrs, HO, HD, HR, hbel⟩ := hrel
    have hsz := hbel.size
    by_cases hlt : i < rs0.length
    · obtain ⟨g, cap', he, hg1, hg2, hg3, hg4⟩ := owns_formQ HO.out (by omega)
      obtain ⟨rfl, rfl⟩ : a = some ⟨g, 0, none⟩ ∧ cap = cap' := by simpa using he
      clear he
      have c0 : wr.cell? ⟨g, i * 3, none⟩ = some (((rs.map BdV.cells).getD i []).getD 0 .nilIface) := (HO.out.cellAt (i * 3 + 0) (by omega)).trans (flat_get 3 _ (lensBdV rs) i 0 (by simp; omega) (by decide))
      have c1 : wr.cell? ⟨g, i * 3 + 1, none⟩ = some (((rs.map BdV.cells).getD i []).getD 1 .nilIface) := (HO.out.cellAt (i * 3 + 1) (by omega)).trans (flat_get 3 _ (lensBdV rs) i 1 (by simp; omega) (by decide))
      have c2 : wr.cell? ⟨g, i * 3 + 2, none⟩ = some (((rs.map BdV.cells).getD i []).getD 2 .nilIface) := (HO.out.cellAt (i * 3 + 2) (by omega)).trans (flat_get 3 _ (lensBdV rs) i 2 (by simp; omega) (by decide))
      rw [cells_getDBdV rs i (by omega), HR.out i (Nat.le_refl _) hlt] at c0 c1 c2
      have HPi := hid (HP.out (wr.alloc (.cells (rs0.getD i BdV.zero).cells.toArray 67)) (hbel.alloc hbel.size _) (rs0.getD i BdV.zero) (l.getD i Bd.zero) (by rw [List.getD, List.getElem?_eq_getElem (show i < l.length by have := HL.out; omega)]; exact List.getElem_mem _) ((HAt.out i hlt).below (hbel.alloc hbel.size _)))
      have hF : ∀ z, F (l.getD i Bd.zero) = z → F (l.getD i Bd.zero) = z := fun _ h => h
      clear hF
      obtain ⟨y, hy⟩ : ∃ y, F (l.getD i Bd.zero) = y := ⟨_, rfl⟩
      rw [hy] at HPi
      have HY := hid hy
      obtain ⟨q, hq⟩ : ∃ q, rs0.getD i BdV.zero = q := ⟨_, rfl⟩
      rw [hq] at HPi c0 c1 c2
      clear hy hq HP HAt
      obtain ⟨x0, x1, ⟨a2, n2, k2⟩⟩ := q
      have e0 : wr.cell? ⟨g, i * 3, none⟩ = some (.bool x0) := c0.trans rfl
      have e1 : wr.cell? ⟨g, i * 3 + 1, none⟩ = some (.int .i64 x1) := c1.trans rfl
      have e2 : wr.cell? ⟨g, i * 3 + 2, none⟩ = some (.slice a2 n2 k2) := c2.trans rfl
      clear c0 c1 c2
      go_wp2_with fail
      refine HPi.out.mono ?_
      rintro e w2 ⟨q', rfl, hq', hb2⟩
      have hB2 : Below w.heap.size w w2 := (hbel.alloc hbel.size _).trans (hb2.mono (by simp; omega))
      have hA2 : Below wr.heap.size wr w2 := ((Below.refl wr.heap.size wr).alloc (Nat.le_refl _) _).trans (hb2.mono (by simp))
      have HO2 := hid (owns_below HO.out hA2)
      have HD2 := hid (fun k hk => (HD.out k hk).below hA2)
      have HQ2 := hid (hq'.mono (show w.heap.size ≤ _ by simp; omega))
      have hg2' : g < w2.heap.size := by have := hA2.size; omega
      clear hb2 hA2 hq' HPi HO HD e0 e1 e2
      go_wp2_with (
        (refine wpList_store_el rfl 67 _ _ rfl rfl HO2.out (lensBdV rs) i (by simp; omega) (BdV.cells q') rfl rfl rfl (by kernel_rfl) (BdV.one _) ?_
         intro w3 ho3 hgr3 hz3
         have hw3 : Below w.heap.size w w3 := hB2.trans (grown_below hgr3 hg1 (by omega))
         obtain ⟨b0, hbx, _, _⟩ := owns_box HO2.out
         obtain ⟨b1, hby, _, _⟩ := owns_box ho3
         have HT := hid (Turns.grown (S := fun t => t = 67) hbx hby rfl hgr3)
         have HO3 := hid ho3
         clear ho3 hgr3 hbx hby))
      go_roundw
      case rel =>
        refine ⟨i + 1, rs.set i q', by omega, by go_num, by simpa using hrs, hid ?_, hid (fun k hk => ?_), hid (fun k hk1 hk2 => ?_), hw3⟩
        · rw [List.map_set]; exact HO3.out
        · by_cases hki : k = i
          · subst hki
            rw [show (rs.set k q').getD k BdV.zero = q' by simp [List.getD, show k < rs.length by omega], HY.out]
            exact HQ2.out.turn (by decide) HT.out
          · rw [show (rs.set i q').getD k BdV.zero = rs.getD k BdV.zero by simp [List.getD, List.getElem?_set_ne (Ne.symm hki)]]
            exact (HD2.out k (by omega)).turn (by decide) HT.out
        · rw [show (rs.set i q').getD k BdV.zero = rs.getD k BdV.zero by simp [List.getD, List.getElem?_set_ne (show i ≠ k by omega)]]
          exact HR.out k (by omega) hk2
      case measure => simp [intOf]; omega
    · have hie : i = rs0.length := by omega
      subst hie
      clear HP HAt
      go_wp2
      go_ret
      refine ⟨_, rfl, ⟨rs, ?_, ?_, fun k hk => ?_⟩, hbel⟩
      · unfold OBdV; rw [hrs]; exact HO.out
      · rw [hrs, List.length_map]; exact HL.out
      · have hkl : k < l.length := by have := HL.out; omega
        rw [show (l.map F).getD k Bd.zero = F (l.getD k Bd.zero) by simp [List.getD, List.getElem?_eq_getElem hkl]]
        exact HD.out k (by omega)

set_option maxRecDepth 100000 in
set_option maxHeartbeats 1600000 in
theorem each_Bf (gb : Nat) (cb : Array Value) (F : Bf → Bf) (eg : ∀ args w, (callFunc gb args).run Try.prog w = .ok (.enter gb args) w) {v : Value} {l : List Bf} {w : World} (hv : LBf w v l) (hlen : l.length ≤ 900000)
    (hp : ∀ W, Below w.heap.size w W → ∀ (q : BfV) (x : Bf), x ∈ l → BfAt W q x → Calls Try.prog gb (#[q.val] ++ cb) W fun e w' => ∃ q', e = .returned (BfV.val q') ∧ BfO w' W.heap.size q' (F x) ∧ Below W.heap.size W w') :
    Calls Try.prog 68 #[v, .func (.func gb) #[] cb] w fun e w' => ∃ u, e = .returned u ∧ OBf w' w.heap.size u (l.map F) ∧ Below w.heap.size w w' := by
  obtain ⟨rs0, hs, hn, hat⟩ := hv
  have HCl := hid (qclone_BfV hs (by omega))
  have HAt := hid hat
  have HP := hid hp
  have HL := hid hn
  clear hs hat hp hn
  go_enter Try.func68, Try.ntmps68
  go_wp2_with fail
  refine HCl.out.mono ?_
  rintro e w1 ⟨u, rfl, ho, hb⟩
  obtain ⟨a, cap, rfl, hc1, hc2, _⟩ := ho.sees.form
  have hc3 : cap ≤ 9223372036854775807 := hc2
  have HO := hid (show w1.ownsRow w.heap.size 69 4 (.slice a rs0.length cap) rs0.length (rs0.map BfV.cells).flatten from ho)
  clear ho hc2 HCl
  go_wp2
  go_loopw [12] (fun t wc => ∃ (i : Nat) (rs : List BfV), i ≤ rs0.length ∧ t = .int .i64 i ∧ rs.length = rs0.length ∧ Hid (wc.ownsRow w.heap.size 69 4 (.slice a rs0.length cap) rs0.length (rs.map BfV.cells).flatten) ∧
      Hid (∀ k, k < i → BfO wc w.heap.size (rs.getD k BfV.zero) (F (l.getD k Bf.zero))) ∧ Hid (∀ k, i ≤ k → k < rs0.length → rs.getD k BfV.zero = rs0.getD k BfV.zero) ∧ Below w.heap.size w wc) (fun t _ => rs0.length - (intOf t).toNat)
  case atStart => exact ⟨0, rs0, by omega, rfl, rfl, HO, hid (fun k hk => absurd hk (Nat.not_lt_zero _)), hid (fun k _ _ => rfl), hb⟩
  case round =>
    clear HO hb
    obtain ⟨i, rs, hi, rfl, hrs, HO, HD, HR, hbel⟩ := hrel
    have hsz := hbel.size
    by_cases hlt : i < rs0.length
    · obtain ⟨g, cap', he, hg1, hg2, hg3, hg4⟩ := owns_formQ HO.out (by omega)
      obtain ⟨rfl, rfl⟩ : a = some ⟨g, 0, none⟩ ∧ cap = cap' := by simpa using he
      clear he
      have c0 : wr.cell? ⟨g, i * 4, none⟩ = some (((rs.map BfV.cells).getD i []).getD 0 .nilIface) := (HO.out.cellAt (i * 4 + 0) (by omega)).trans (flat_get 4 _ (lensBfV rs) i 0 (by simp; omega) (by decide))
      have c1 : wr.cell? ⟨g, i * 4 + 1, none⟩ = some (((rs.map BfV.cells).getD i []).getD 1 .nilIface) := (HO.out.cellAt (i * 4 + 1) (by omega)).trans (flat_get 4 _ (lensBfV rs) i 1 (by simp; omega) (by decide))
      have c2 : wr.cell? ⟨g, i * 4 + 2, none⟩ = some (((rs.map BfV.cells).getD i []).getD 2 .nilIface) := (HO.out.cellAt (i * 4 + 2) (by omega)).trans (flat_get 4 _ (lensBfV rs) i 2 (by simp; omega) (by decide))
      have c3 : wr.cell? ⟨g, i * 4 + 3, none⟩ = some (((rs.map BfV.cells).getD i []).getD 3 .nilIface) := (HO.out.cellAt (i * 4 + 3) (by omega)).trans (flat_get 4 _ (lensBfV rs) i 3 (by simp; omega) (by decide))
      rw [cells_getDBfV rs i (by omega), HR.out i (Nat.le_refl _) hlt] at c0 c1 c2 c3
      have HPi := hid (HP.out (wr.alloc (.cells (rs0.getD i BfV.zero).cells.toArray 69)) (hbel.alloc hbel.size _) (rs0.getD i BfV.zero) (l.getD i Bf.zero) (by rw [List.getD, List.getElem?_eq_getElem (show i < l.length by have := HL.out; omega)]; exact List.getElem_mem _) ((HAt.out i hlt).below (hbel.alloc hbel.size _)))
      have hF : ∀ z, F (l.getD i Bf.zero) = z → F (l.getD i Bf.zero) = z := fun _ h => h
      clear hF
      obtain ⟨y, hy⟩ : ∃ y, F (l.getD i Bf.zero) = y := ⟨_, rfl⟩
      rw [hy] at HPi
      have HY := hid hy
      obtain ⟨q, hq⟩ : ∃ q, rs0.getD i BfV.zero = q := ⟨_, rfl⟩
      rw [hq] at HPi c0 c1 c2 c3
      clear hy hq HP HAt
      obtain ⟨x0, x1, ⟨a2, n2, k2⟩, ⟨a3, n3, k3⟩⟩ := q
      have e0 : wr.cell? ⟨g, i * 4, none⟩ = some (.int .i64 x0) := c0.trans rfl
      have e1 : wr.cell? ⟨g, i * 4 + 1, none⟩ = some (.bool x1) := c1.trans rfl
      have e2 : wr.cell? ⟨g, i * 4 + 2, none⟩ = some (.slice a2 n2 k2) := c2.trans rfl
      have e3 : wr.cell? ⟨g, i * 4 + 3, none⟩ = some (.slice a3 n3 k3) := c3.trans rfl
      clear c0 c1 c2 c3
      go_wp2_with fail
      refine HPi.out.mono ?_
      rintro e w2 ⟨q', rfl, hq', hb2⟩
      have hB2 : Below w.heap.size w w2 := (hbel.alloc hbel.size _).trans (hb2.mono (by simp; omega))
      have hA2 : Below wr.heap.size wr w2 := ((Below.refl wr.heap.size wr).alloc (Nat.le_refl _) _).trans (hb2.mono (by simp))
      have HO2 := hid (owns_below HO.out hA2)
      have HD2 := hid (fun k hk => (HD.out k hk).below hA2)
      have HQ2 := hid (hq'.mono (show w.heap.size ≤ _ by simp; omega))
      have hg2' : g < w2.heap.size := by have := hA2.size; omega
      clear hb2 hA2 hq' HPi HO HD e0 e1 e2 e3
      go_wp2_with (
        (refine wpList_store_el rfl 69 _ _ rfl rfl HO2.out (lensBfV rs) i (by simp; omega) (BfV.cells q') rfl rfl rfl (by kernel_rfl) (BfV.one _) ?_
         intro w3 ho3 hgr3 hz3
         have hw3 : Below w.heap.size w w3 := hB2.trans (grown_below hgr3 hg1 (by omega))
         obtain ⟨b0, hbx, _, _⟩ := owns_box HO2.out
         obtain ⟨b1, hby, _, _⟩ := owns_box ho3
         have HT := hid (Turns.grown (S := fun t => t = 69) hbx hby rfl hgr3)
         have HO3 := hid ho3
         clear ho3 hgr3 hbx hby))
      go_roundw
      case rel =>
        refine ⟨i + 1, rs.set i q', by omega, by go_num, by simpa using hrs, hid ?_, hid (fun k hk => ?_), hid (fun k hk1 hk2 => ?_), hw3⟩
        · rw [List.map_set]; exact HO3.out
        · by_cases hki : k = i
          · subst hki
            rw [show (rs.set k q').getD k BfV.zero = q' by simp [List.getD, show k < rs.length by omega], HY.out]
            exact HQ2.out.turn (by decide) (by decide) HT.out
          · rw [show (rs.set i q').getD k BfV.zero = rs.getD k BfV.zero by simp [List.getD, List.getElem?_set_ne (Ne.symm hki)]]
            exact (HD2.out k (by omega)).turn (by decide) (by decide) HT.out
        · rw [show (rs.set i q').getD k BfV.zero = rs.getD k BfV.zero by simp [List.getD, List.getElem?_set_ne (show i ≠ k by omega)]]
          exact HR.out k (by omega) hk2
      case measure => simp [intOf]; omega
    · have hie : i = rs0.length := by omega
      subst hie
      clear HP HAt
      go_wp2
      go_ret
      refine ⟨_, rfl, ⟨rs, ?_, ?_, fun k hk => ?_⟩, hbel⟩
      · unfold OBfV; rw [hrs]; exact HO.out
      · rw [hrs, List.length_map]; exact HL.out
      · have hkl : k < l.length := by have := HL.out; omega
        rw [show (l.map F).getD k Bf.zero = F (l.getD k Bf.zero) by simp [List.getD, List.getElem?_eq_getElem hkl]]
        exact HD.out k (by omega)

set_option maxRecDepth 100000 in
set_option maxHeartbeats 1600000 in
theorem each_Se (gb : Nat) (cb : Array Value) (F : Se → Se) (eg : ∀ args w, (callFunc gb args).run Try.prog w = .ok (.enter gb args) w) {v : Value} {l : List Se} {w : World} (hv : LSe w v l) (hlen : l.length ≤ 900000)
    (hp : ∀ W, Below w.heap.size w W → ∀ (q : SeV) (x : Se), x ∈ l → SeAt W q x → Calls Try.prog gb (#[q.val] ++ cb) W fun e w' => ∃ q', e = .returned (SeV.val q') ∧ SeO w' W.heap.size q' (F x) ∧ Below W.heap.size W w') :
    Calls Try.prog 70 #[v, .func (.func gb) #[] cb] w fun e w' => ∃ u, e = .returned u ∧ OSe w' w.heap.size u (l.map F) ∧ Below w.heap.size w w' := by
  obtain ⟨rs0, hs, hn, hat⟩ := hv
  have HCl := hid (qclone_SeV hs (by omega))
  have HAt := hid hat
  have HP := hid hp
  have HL := hid hn
  clear hs hat hp hn
  go_enter Try.func70, Try.ntmps70
  go_wp2_with fail
  refine HCl.out.mono ?_
  rintro e w1 ⟨u, rfl, ho, hb⟩
  obtain ⟨a, cap, rfl, hc1, hc2, _⟩ := ho.sees.form
  have hc3 : cap ≤ 9223372036854775807 := hc2
  have HO := hid (show w1.ownsRow w.heap.size 71 4 (.slice a rs0.length cap) rs0.length (rs0.map SeV.cells).flatten from ho)
  clear ho hc2 HCl
  go_wp2
  go_loopw [12] (fun t wc => ∃ (i : Nat) (rs : List SeV), i ≤ rs0.length ∧ t = .int .i64 i ∧ rs.length = rs0.length ∧ Hid (wc.ownsRow w.heap.size 71 4 (.slice a rs0.length cap) rs0.length (rs.map SeV.cells).flatten) ∧
      Hid (∀ k, k < i → SeO wc w.heap.size (rs.getD k SeV.zero) (F (l.getD k Se.zero))) ∧ Hid (∀ k, i ≤ k → k < rs0.length → rs.getD k SeV.zero = rs0.getD k SeV.zero) ∧ Below w.heap.size w wc) (fun t _ => rs0.length - (intOf t).toNat)
  case atStart => exact ⟨0, rs0, by omega, rfl, rfl, HO, hid (fun k hk => absurd hk (Nat.not_lt_zero _)), hid (fun k _ _ => rfl), hb⟩
  case round =>
    clear HO hb
    obtain ⟨i, rs, hi, rfl, hrs, HO, HD, HR, hbel⟩ := hrel
    have hsz := hbel.size
    by_cases hlt : i < rs0.length
    · obtain ⟨g, cap', he, hg1, hg2, hg3, hg4⟩ := owns_formQ HO.out (by omega)
      obtain ⟨rfl, rfl⟩ : a = some ⟨g, 0, none⟩ ∧ cap = cap' := by simpa using he
      clear he
      have c0 : wr.cell? ⟨g, i * 4, none⟩ = some (((rs.map SeV.cells).getD i []).getD 0 .nilIface) := (HO.out.cellAt (i * 4 + 0) (by omega)).trans (flat_get 4 _ (lensSeV rs) i 0 (by simp; omega) (by decide))
      have c1 : wr.cell? ⟨g, i * 4 + 1, none⟩ = some (((rs.map SeV.cells).getD i []).getD 1 .nilIface) := (HO.out.cellAt (i * 4 + 1) (by omega)).trans (flat_get 4 _ (lensSeV rs) i 1 (by simp; omega) (by decide))
      have c2 : wr.cell? ⟨g, i * 4 + 2, none⟩ = some (((rs.map SeV.cells).getD i []).getD 2 .nilIface) := (HO.out.cellAt (i * 4 + 2) (by omega)).trans (flat_get 4 _ (lensSeV rs) i 2 (by simp; omega) (by decide))
      have c3 : wr.cell? ⟨g, i * 4 + 3, none⟩ = some (((rs.map SeV.cells).getD i []).getD 3 .nilIface) := (HO.out.cellAt (i * 4 + 3) (by omega)).trans (flat_get 4 _ (lensSeV rs) i 3 (by simp; omega) (by decide))
      rw [cells_getDSeV rs i (by omega), HR.out i (Nat.le_refl _) hlt] at c0 c1 c2 c3
      have HPi := hid (HP.out (wr.alloc (.cells (rs0.getD i SeV.zero).cells.toArray 71)) (hbel.alloc hbel.size _) (rs0.getD i SeV.zero) (l.getD i Se.zero) (by rw [List.getD, List.getElem?_eq_getElem (show i < l.length by have := HL.out; omega)]; exact List.getElem_mem _) ((HAt.out i hlt).below (hbel.alloc hbel.size _)))
      have hF : ∀ z, F (l.getD i Se.zero) = z → F (l.getD i Se.zero) = z := fun _ h => h
      clear hF
      obtain ⟨y, hy⟩ : ∃ y, F (l.getD i Se.zero) = y := ⟨_, rfl⟩
      rw [hy] at HPi
      have HY := hid hy
      obtain ⟨q, hq⟩ : ∃ q, rs0.getD i SeV.zero = q := ⟨_, rfl⟩
      rw [hq] at HPi c0 c1 c2 c3
      clear hy hq HP HAt
      obtain ⟨x0, x1, x2, ⟨a3, n3, k3⟩⟩ := q
      have e0 : wr.cell? ⟨g, i * 4, none⟩ = some (.int .i64 x0) := c0.trans rfl
      have e1 : wr.cell? ⟨g, i * 4 + 1, none⟩ = some (.int .i64 x1) := c1.trans rfl
      have e2 : wr.cell? ⟨g, i * 4 + 2, none⟩ = some (.bool x2) := c2.trans rfl
      have e3 : wr.cell? ⟨g, i * 4 + 3, none⟩ = some (.slice a3 n3 k3) := c3.trans rfl
      clear c0 c1 c2 c3
      go_wp2_with fail
      refine HPi.out.mono ?_
      rintro e w2 ⟨q', rfl, hq', hb2⟩
      have hB2 : Below w.heap.size w w2 := (hbel.alloc hbel.size _).trans (hb2.mono (by simp; omega))
      have hA2 : Below wr.heap.size wr w2 := ((Below.refl wr.heap.size wr).alloc (Nat.le_refl _) _).trans (hb2.mono (by simp))
      have HO2 := hid (owns_below HO.out hA2)
      have HD2 := hid (fun k hk => (HD.out k hk).below hA2)
      have HQ2 := hid (hq'.mono (show w.heap.size ≤ _ by simp; omega))
      have hg2' : g < w2.heap.size := by have := hA2.size; omega
      clear hb2 hA2 hq' HPi HO HD e0 e1 e2 e3
      go_wp2_with (
        (refine wpList_store_el rfl 71 _ _ rfl rfl HO2.out (lensSeV rs) i (by simp; omega) (SeV.cells q') rfl rfl rfl (by kernel_rfl) (SeV.one _) ?_
         intro w3 ho3 hgr3 hz3
         have hw3 : Below w.heap.size w w3 := hB2.trans (grown_below hgr3 hg1 (by omega))
         obtain ⟨b0, hbx, _, _⟩ := owns_box HO2.out
         obtain ⟨b1, hby, _, _⟩ := owns_box ho3
         have HT := hid (Turns.grown (S := fun t => t = 71) hbx hby rfl hgr3)
         have HO3 := hid ho3
         clear ho3 hgr3 hbx hby))
      go_roundw
      case rel =>
        refine ⟨i + 1, rs.set i q', by omega, by go_num, by simpa using hrs, hid ?_, hid (fun k hk => ?_), hid (fun k hk1 hk2 => ?_), hw3⟩
        · rw [List.map_set]; exact HO3.out
        · by_cases hki : k = i
          · subst hki
            rw [show (rs.set k q').getD k SeV.zero = q' by simp [List.getD, show k < rs.length by omega], HY.out]
            exact HQ2.out.turn (by decide) HT.out
          · rw [show (rs.set i q').getD k SeV.zero = rs.getD k SeV.zero by simp [List.getD, List.getElem?_set_ne (Ne.symm hki)]]
            exact (HD2.out k (by omega)).turn (by decide) HT.out
        · rw [show (rs.set i q').getD k SeV.zero = rs.getD k SeV.zero by simp [List.getD, List.getElem?_set_ne (show i ≠ k by omega)]]
          exact HR.out k (by omega) hk2
      case measure => simp [intOf]; omega
    · have hie : i = rs0.length := by omega
      subst hie
      clear HP HAt
      go_wp2
      go_ret
      refine ⟨_, rfl, ⟨rs, ?_, ?_, fun k hk => ?_⟩, hbel⟩
      · unfold OSeV; rw [hrs]; exact HO.out
      · rw [hrs, List.length_map]; exact HL.out
      · have hkl : k < l.length := by have := HL.out; omega
        rw [show (l.map F).getD k Se.zero = F (l.getD k Se.zero) by simp [List.getD, List.getElem?_eq_getElem hkl]]
        exact HD.out k (by omega)

set_option maxRecDepth 100000 in
set_option maxHeartbeats 1600000 in
theorem each_Ev (gb : Nat) (cb : Array Value) (F : Ev → Ev) (eg : ∀ args w, (callFunc gb args).run Try.prog w = .ok (.enter gb args) w) {v : Value} {l : List Ev} {w : World} (hv : LEv w v l) (hlen : l.length ≤ 900000)
    (hp : ∀ W, Below w.heap.size w W → ∀ (q : EvV) (x : Ev), x ∈ l → EvAt W q x → Calls Try.prog gb (#[q.val] ++ cb) W fun e w' => ∃ q', e = .returned (EvV.val q') ∧ EvO w' W.heap.size q' (F x) ∧ Below W.heap.size W w') :
    Calls Try.prog 72 #[v, .func (.func gb) #[] cb] w fun e w' => ∃ u, e = .returned u ∧ OEv w' w.heap.size u (l.map F) ∧ Below w.heap.size w w' := by
  obtain ⟨rs0, hs, hn, hat⟩ := hv
  have HCl := hid (qclone_EvV hs (by omega))
  have HAt := hid hat
  have HP := hid hp
  have HL := hid hn
  clear hs hat hp hn
  go_enter Try.func72, Try.ntmps72
  go_wp2_with fail
  refine HCl.out.mono ?_
  rintro e w1 ⟨u, rfl, ho, hb⟩
  obtain ⟨a, cap, rfl, hc1, hc2, _⟩ := ho.sees.form
  have hc3 : cap ≤ 9223372036854775807 := hc2
  have HO := hid (show w1.ownsRow w.heap.size 73 2 (.slice a rs0.length cap) rs0.length (rs0.map EvV.cells).flatten from ho)
  clear ho hc2 HCl
  go_wp2
  go_loopw [12] (fun t wc => ∃ (i : Nat) (rs : List EvV), i ≤ rs0.length ∧ t = .int .i64 i ∧ rs.length = rs0.length ∧ Hid (wc.ownsRow w.heap.size 73 2 (.slice a rs0.length cap) rs0.length (rs.map EvV.cells).flatten) ∧
      Hid (∀ k, k < i → EvO wc w.heap.size (rs.getD k EvV.zero) (F (l.getD k Ev.zero))) ∧ Hid (∀ k, i ≤ k → k < rs0.length → rs.getD k EvV.zero = rs0.getD k EvV.zero) ∧ Below w.heap.size w wc) (fun t _ => rs0.length - (intOf t).toNat)
  case atStart => exact ⟨0, rs0, by omega, rfl, rfl, HO, hid (fun k hk => absurd hk (Nat.not_lt_zero _)), hid (fun k _ _ => rfl), hb⟩
  case round =>
    clear HO hb
    obtain ⟨i, rs, hi, rfl, hrs, HO, HD, HR, hbel⟩ := hrel
    have hsz := hbel.size
    by_cases hlt : i < rs0.length
    · obtain ⟨g, cap', he, hg1, hg2, hg3, hg4⟩ := owns_formQ HO.out (by omega)
      obtain ⟨rfl, rfl⟩ : a = some ⟨g, 0, none⟩ ∧ cap = cap' := by simpa using he
      clear he
      have c0 : wr.cell? ⟨g, i * 2, none⟩ = some (((rs.map EvV.cells).getD i []).getD 0 .nilIface) := (HO.out.cellAt (i * 2 + 0) (by omega)).trans (flat_get 2 _ (lensEvV rs) i 0 (by simp; omega) (by decide))
      have c1 : wr.cell? ⟨g, i * 2 + 1, none⟩ = some (((rs.map EvV.cells).getD i []).getD 1 .nilIface) := (HO.out.cellAt (i * 2 + 1) (by omega)).trans (flat_get 2 _ (lensEvV rs) i 1 (by simp; omega) (by decide))
      rw [cells_getDEvV rs i (by omega), HR.out i (Nat.le_refl _) hlt] at c0 c1
      have HPi := hid (HP.out (wr.alloc (.cells (rs0.getD i EvV.zero).cells.toArray 73)) (hbel.alloc hbel.size _) (rs0.getD i EvV.zero) (l.getD i Ev.zero) (by rw [List.getD, List.getElem?_eq_getElem (show i < l.length by have := HL.out; omega)]; exact List.getElem_mem _) ((HAt.out i hlt).below (hbel.alloc hbel.size _)))
      have hF : ∀ z, F (l.getD i Ev.zero) = z → F (l.getD i Ev.zero) = z := fun _ h => h
      clear hF
      obtain ⟨y, hy⟩ : ∃ y, F (l.getD i Ev.zero) = y := ⟨_, rfl⟩
      rw [hy] at HPi
      have HY := hid hy
      obtain ⟨q, hq⟩ : ∃ q, rs0.getD i EvV.zero = q := ⟨_, rfl⟩
      rw [hq] at HPi c0 c1
      clear hy hq HP HAt
      obtain ⟨x0, ⟨a1, n1, k1⟩⟩ := q
      have e0 : wr.cell? ⟨g, i * 2, none⟩ = some (.bool x0) := c0.trans rfl
      have e1 : wr.cell? ⟨g, i * 2 + 1, none⟩ = some (.slice a1 n1 k1) := c1.trans rfl
      clear c0 c1
      go_wp2_with fail
      refine HPi.out.mono ?_
      rintro e w2 ⟨q', rfl, hq', hb2⟩
      have hB2 : Below w.heap.size w w2 := (hbel.alloc hbel.size _).trans (hb2.mono (by simp; omega))
      have hA2 : Below wr.heap.size wr w2 := ((Below.refl wr.heap.size wr).alloc (Nat.le_refl _) _).trans (hb2.mono (by simp))
      have HO2 := hid (owns_below HO.out hA2)
      have HD2 := hid (fun k hk => (HD.out k hk).below hA2)
      have HQ2 := hid (hq'.mono (show w.heap.size ≤ _ by simp; omega))
      have hg2' : g < w2.heap.size := by have := hA2.size; omega
      clear hb2 hA2 hq' HPi HO HD e0 e1
      go_wp2_with (
        (refine wpList_store_el rfl 73 _ _ rfl rfl HO2.out (lensEvV rs) i (by simp; omega) (EvV.cells q') rfl rfl rfl (by kernel_rfl) (EvV.one _) ?_
         intro w3 ho3 hgr3 hz3
         have hw3 : Below w.heap.size w w3 := hB2.trans (grown_below hgr3 hg1 (by omega))
         obtain ⟨b0, hbx, _, _⟩ := owns_box HO2.out
         obtain ⟨b1, hby, _, _⟩ := owns_box ho3
         have HT := hid (Turns.grown (S := fun t => t = 73) hbx hby rfl hgr3)
         have HO3 := hid ho3
         clear ho3 hgr3 hbx hby))
      go_roundw
      case rel =>
        refine ⟨i + 1, rs.set i q', by omega, by go_num, by simpa using hrs, hid ?_, hid (fun k hk => ?_), hid (fun k hk1 hk2 => ?_), hw3⟩
        · rw [List.map_set]; exact HO3.out
        · by_cases hki : k = i
          · subst hki
            rw [show (rs.set k q').getD k EvV.zero = q' by simp [List.getD, show k < rs.length by omega], HY.out]
            exact HQ2.out.turn (by decide) HT.out
          · rw [show (rs.set i q').getD k EvV.zero = rs.getD k EvV.zero by simp [List.getD, List.getElem?_set_ne (Ne.symm hki)]]
            exact (HD2.out k (by omega)).turn (by decide) HT.out
        · rw [show (rs.set i q').getD k EvV.zero = rs.getD k EvV.zero by simp [List.getD, List.getElem?_set_ne (show i ≠ k by omega)]]
          exact HR.out k (by omega) hk2
      case measure => simp [intOf]; omega
    · have hie : i = rs0.length := by omega
      subst hie
      clear HP HAt
      go_wp2
      go_ret
      refine ⟨_, rfl, ⟨rs, ?_, ?_, fun k hk => ?_⟩, hbel⟩
      · unfold OEvV; rw [hrs]; exact HO.out
      · rw [hrs, List.length_map]; exact HL.out
      · have hkl : k < l.length := by have := HL.out; omega
        rw [show (l.map F).getD k Ev.zero = F (l.getD k Ev.zero) by simp [List.getD, List.getElem?_eq_getElem hkl]]
        exact HD.out k (by omega)

set_option maxRecDepth 100000 in
set_option maxHeartbeats 1600000 in
theorem each_Qu (gb : Nat) (cb : Array Value) (F : Qu → Qu) (eg : ∀ args w, (callFunc gb args).run Try.prog w = .ok (.enter gb args) w) {v : Value} {l : List Qu} {w : World} (hv : LQu w v l) (hlen : l.length ≤ 900000)
    (hp : ∀ W, Below w.heap.size w W → ∀ (q : QuV) (x : Qu), x ∈ l → QuAt W q x → Calls Try.prog gb (#[q.val] ++ cb) W fun e w' => ∃ q', e = .returned (QuV.val q') ∧ QuO w' W.heap.size q' (F x) ∧ Below W.heap.size W w') :
    Calls Try.prog 75 #[v, .func (.func gb) #[] cb] w fun e w' => ∃ u, e = .returned u ∧ OQu w' w.heap.size u (l.map F) ∧ Below w.heap.size w w' := by
  obtain ⟨rs0, hs, hn, hat⟩ := hv
  have HCl := hid (qclone_QuV hs (by omega))
  have HAt := hid hat
  have HP := hid hp
  have HL := hid hn
  clear hs hat hp hn
  go_enter Try.func75, Try.ntmps75
  go_wp2_with fail
  refine HCl.out.mono ?_
  rintro e w1 ⟨u, rfl, ho, hb⟩
  obtain ⟨a, cap, rfl, hc1, hc2, _⟩ := ho.sees.form
  have hc3 : cap ≤ 9223372036854775807 := hc2
  have HO := hid (show w1.ownsRow w.heap.size 75 3 (.slice a rs0.length cap) rs0.length (rs0.map QuV.cells).flatten from ho)
  clear ho hc2 HCl
  go_wp2
  go_loopw [12] (fun t wc => ∃ (i : Nat) (rs : List QuV), i ≤ rs0.length ∧ t = .int .i64 i ∧ rs.length = rs0.length ∧ Hid (wc.ownsRow w.heap.size 75 3 (.slice a rs0.length cap) rs0.length (rs.map QuV.cells).flatten) ∧
      Hid (∀ k, k < i → QuO wc w.heap.size (rs.getD k QuV.zero) (F (l.getD k Qu.zero))) ∧ Hid (∀ k, i ≤ k → k < rs0.length → rs.getD k QuV.zero = rs0.getD k QuV.zero) ∧ Below w.heap.size w wc) (fun t _ => rs0.length - (intOf t).toNat)
  case atStart => exact ⟨0, rs0, by omega, rfl, rfl, HO, hid (fun k hk => absurd hk (Nat.not_lt_zero _)), hid (fun k _ _ => rfl), hb⟩
  case round =>
    clear HO hb
    obtain ⟨i, rs, hi, rfl, hrs, HO, HD, HR, hbel⟩ := hrel
    have hsz := hbel.size
    by_cases hlt : i < rs0.length
    · obtain ⟨g, cap', he, hg1, hg2, hg3, hg4⟩ := owns_formQ HO.out (by omega)
      obtain ⟨rfl, rfl⟩ : a = some ⟨g, 0, none⟩ ∧ cap = cap' := by simpa using he
      clear he
      have c0 : wr.cell? ⟨g, i * 3, none⟩ = some (((rs.map QuV.cells).getD i []).getD 0 .nilIface) := (HO.out.cellAt (i * 3 + 0) (by omega)).trans (flat_get 3 _ (lensQuV rs) i 0 (by simp; omega) (by decide))
      have c1 : wr.cell? ⟨g, i * 3 + 1, none⟩ = some (((rs.map QuV.cells).getD i []).getD 1 .nilIface) := (HO.out.cellAt (i * 3 + 1) (by omega)).trans (flat_get 3 _ (lensQuV rs) i 1 (by simp; omega) (by decide))
      have c2 : wr.cell? ⟨g, i * 3 + 2, none⟩ = some (((rs.map QuV.cells).getD i []).getD 2 .nilIface) := (HO.out.cellAt (i * 3 + 2) (by omega)).trans (flat_get 3 _ (lensQuV rs) i 2 (by simp; omega) (by decide))
      rw [cells_getDQuV rs i (by omega), HR.out i (Nat.le_refl _) hlt] at c0 c1 c2
      have HPi := hid (HP.out (wr.alloc (.cells (rs0.getD i QuV.zero).cells.toArray 75)) (hbel.alloc hbel.size _) (rs0.getD i QuV.zero) (l.getD i Qu.zero) (by rw [List.getD, List.getElem?_eq_getElem (show i < l.length by have := HL.out; omega)]; exact List.getElem_mem _) ((HAt.out i hlt).below (hbel.alloc hbel.size _)))
      have hF : ∀ z, F (l.getD i Qu.zero) = z → F (l.getD i Qu.zero) = z := fun _ h => h
      clear hF
      obtain ⟨y, hy⟩ : ∃ y, F (l.getD i Qu.zero) = y := ⟨_, rfl⟩
      rw [hy] at HPi
      have HY := hid hy
      obtain ⟨q, hq⟩ : ∃ q, rs0.getD i QuV.zero = q := ⟨_, rfl⟩
      rw [hq] at HPi c0 c1 c2
      clear hy hq HP HAt
      obtain ⟨x0, ⟨a1, n1, k1⟩, x2⟩ := q
      have e0 : wr.cell? ⟨g, i * 3, none⟩ = some (.int .i64 x0) := c0.trans rfl
      have e1 : wr.cell? ⟨g, i * 3 + 1, none⟩ = some (.slice a1 n1 k1) := c1.trans rfl
      have e2 : wr.cell? ⟨g, i * 3 + 2, none⟩ = some (.int .i64 x2) := c2.trans rfl
      clear c0 c1 c2
      go_wp2_with fail
      refine HPi.out.mono ?_
      rintro e w2 ⟨q', rfl, hq', hb2⟩
      have hB2 : Below w.heap.size w w2 := (hbel.alloc hbel.size _).trans (hb2.mono (by simp; omega))
      have hA2 : Below wr.heap.size wr w2 := ((Below.refl wr.heap.size wr).alloc (Nat.le_refl _) _).trans (hb2.mono (by simp))
      have HO2 := hid (owns_below HO.out hA2)
      have HD2 := hid (fun k hk => (HD.out k hk).below hA2)
      have HQ2 := hid (hq'.mono (show w.heap.size ≤ _ by simp; omega))
      have hg2' : g < w2.heap.size := by have := hA2.size; omega
      clear hb2 hA2 hq' HPi HO HD e0 e1 e2
      go_wp2_with (
        (refine wpList_store_el rfl 75 _ _ rfl rfl HO2.out (lensQuV rs) i (by simp; omega) (QuV.cells q') rfl rfl rfl (by kernel_rfl) (QuV.one _) ?_
         intro w3 ho3 hgr3 hz3
         have hw3 : Below w.heap.size w w3 := hB2.trans (grown_below hgr3 hg1 (by omega))
         obtain ⟨b0, hbx, _, _⟩ := owns_box HO2.out
         obtain ⟨b1, hby, _, _⟩ := owns_box ho3
         have HT := hid (Turns.grown (S := fun t => t = 75) hbx hby rfl hgr3)
         have HO3 := hid ho3
         clear ho3 hgr3 hbx hby))
      go_roundw
      case rel =>
        refine ⟨i + 1, rs.set i q', by omega, by go_num, by simpa using hrs, hid ?_, hid (fun k hk => ?_), hid (fun k hk1 hk2 => ?_), hw3⟩
        · rw [List.map_set]; exact HO3.out
        · by_cases hki : k = i
          · subst hki
            rw [show (rs.set k q').getD k QuV.zero = q' by simp [List.getD, show k < rs.length by omega], HY.out]
            exact HQ2.out.turn (by decide) HT.out
          · rw [show (rs.set i q').getD k QuV.zero = rs.getD k QuV.zero by simp [List.getD, List.getElem?_set_ne (Ne.symm hki)]]
            exact (HD2.out k (by omega)).turn (by decide) HT.out
        · rw [show (rs.set i q').getD k QuV.zero = rs.getD k QuV.zero by simp [List.getD, List.getElem?_set_ne (show i ≠ k by omega)]]
          exact HR.out k (by omega) hk2
      case measure => simp [intOf]; omega
    · have hie : i = rs0.length := by omega
      subst hie
      clear HP HAt
      go_wp2
      go_ret
      refine ⟨_, rfl, ⟨rs, ?_, ?_, fun k hk => ?_⟩, hbel⟩
      · unfold OQuV; rw [hrs]; exact HO.out
      · rw [hrs, List.length_map]; exact HL.out
      · have hkl : k < l.length := by have := HL.out; omega
        rw [show (l.map F).getD k Qu.zero = F (l.getD k Qu.zero) by simp [List.getD, List.getElem?_eq_getElem hkl]]
        exact HD.out k (by omega)

end Go.Proofs.Ytdanfnbclbiidaa
