/-
  What instr.within, instr.May, instr.unsigned, instr.signed and the document's own May return, and that nothing that was there is written.
-/
import Derived.Test.YtedldckijblnhaaDoorIMath
namespace Go.Proofs.YtedldckijblnhaaDoor
open Go.RowKit
set_option linter.unusedVariables false

/-- The two tables hold what their text lays. -/
def Laid (w : World) : Prop := 0 < w.heap.size ∧ 1 < w.heap.size ∧
  (∀ o, o < 20 → w.cell? ⟨0, o * 2, none⟩ = some (.int .i64 (rowA o)) ∧ w.cell? ⟨0, o * 2 + 1, none⟩ = some (.int .i64 (rowB o))) ∧
  (∀ r, r < 5 → w.cell? ⟨1, r * 2, none⟩ = some (.int .i64 (rowLo r)) ∧ w.cell? ⟨1, r * 2 + 1, none⟩ = some (.int .i64 (rowHi r)))
theorem Laid.below {w w' : World} (h : Laid w) (hb : Below w.heap.size w w') : Laid w' := by
  obtain ⟨h1, h2, h3, h4⟩ := h
  have hs := hb.size
  refine ⟨by omega, by omega, fun o ho => ⟨?_, ?_⟩, fun r hr => ⟨?_, ?_⟩⟩
  · rw [hb.cell (by exact h1)]; exact (h3 o ho).1
  · rw [hb.cell (by exact h1)]; exact (h3 o ho).2
  · rw [hb.cell (by exact h2)]; exact (h4 r hr).1
  · rw [hb.cell (by exact h2)]; exact (h4 r hr).2

theorem alloc_belowI (w : World) (b : Obj) : Below w.heap.size w (w.alloc b) := (Below.refl _ _).alloc (Nat.le_refl _) _

set_option maxRecDepth 100000 in
set_option maxHeartbeats 400000 in
theorem within_any (r : Nat) (n : Int) (w : World) (hl : Laid w) (hr : r < 5) :
    Calls Tryd.prog 46 #[.int .i64 r, .int .i64 n] w fun e w' => e = .returned (.bool (wiB r n)) ∧ Below w.heap.size w w' := by
  obtain ⟨h1, h2, _, h4⟩ := hl
  obtain ⟨c1, c2⟩ := h4 r hr
  clear h4
  unfold wiB
  generalize rowLo r = lo at *
  generalize rowHi r = hi at *
  by_cases hlo : lo ≤ n
  · by_cases hhi : n ≤ hi
    all_goals
      go_enter Tryd.func46, Tryd.ntmps46
      go_wp2
      go_ret
      exact ⟨by congr; simp [hlo, hhi], alloc_belowI _ _⟩
  · go_enter Tryd.func46, Tryd.ntmps46
    go_wp2
    go_ret
    exact ⟨by congr; simp; omega, alloc_belowI _ _⟩

set_option maxRecDepth 100000 in
set_option maxHeartbeats 800000 in
theorem imay_any (i : In) (w : World) (hl : Laid w) :
    Calls Tryd.prog 33 #[i.val] w fun e w' => e = .returned (.bool (mayI i)) ∧ Below w.heap.size w w' := by
  obtain ⟨o, a, b⟩ := i
  unfold In.val
  simp only
  have HL := hid hl
  by_cases h0 : 0 ≤ o
  · by_cases h1 : o < 20
    · obtain ⟨k, rfl⟩ : ∃ k : Nat, o = k := ⟨o.toNat, by omega⟩
      obtain ⟨g1, g2, h3, _⟩ := hl
      have hk : k < 20 := by omega
      obtain ⟨c1, c2⟩ := h3 k hk
      have hra : rowA k < 5 := by unfold rowA; split <;> omega
      have hrb : rowB k < 5 := by unfold rowB; repeat' split
                                  all_goals omega
      have HM := hid (show mayI ⟨k, a, b⟩ = (wiB (rowA k) a && wiB (rowB k) b) by simp [mayI, h1])
      clear h3
      generalize mayI ⟨(k : Int), a, b⟩ = mm at *
      generalize rowA k = ra at *
      generalize rowB k = rb at *
      have hb0 := alloc_belowI w (.cells #[.int .i64 k, .int .i64 a, .int .i64 b] 44)
      have hb1 := hb0.alloc (by simp) (.cells #[.int .i64 ra, .int .i64 rb] 83)
      have c1' : (w.alloc (.cells #[.int .i64 k, .int .i64 a, .int .i64 b] 44)).cell? ⟨0, k * 2, none⟩ = some (.int .i64 ra) := (hb0.cell (by exact g1)).trans c1
      have c2' : (w.alloc (.cells #[.int .i64 k, .int .i64 a, .int .i64 b] 44)).cell? ⟨0, k * 2 + 1, none⟩ = some (.int .i64 rb) := (hb0.cell (by exact g1)).trans c2
      have HL1 := hid (HL.out.below hb1)
      have HB1 := hid hb1
      clear hb0 hb1 c1 c2
      go_enter Tryd.func33, Tryd.ntmps33
      go_wp2_with fail
      refine (within_any ra a _ HL1.out hra).mono ?_
      rintro e w1 ⟨rfl, hb2⟩
      have hd : w1.cell? ⟨w.heap.size, 2, none⟩ = some (.int .i64 b) := (hb2.cell (by simp; omega)).trans (by simp)
      have hd2 : w1.cell? ⟨w.heap.size + 1, 1, none⟩ = some (.int .i64 rb) := (hb2.cell (by simp)).trans (by simp)
      have hb3 := HB1.out.trans (hb2.mono HB1.out.size)
      have HL2 := hid (HL1.out.below hb2)
      clear hb2
      generalize wiB ra a = x at *
      cases x
      · go_wp2
        go_ret
        exact ⟨by rw [HM.out]; rfl, hb3⟩
      · go_wp2_with fail
        refine (within_any rb b _ HL2.out hrb).mono ?_
        rintro e w2 ⟨rfl, hb4⟩
        go_wp2
        go_ret
        exact ⟨by rw [HM.out]; rfl, hb3.trans (hb4.mono hb3.size)⟩
    · go_enter Tryd.func33, Tryd.ntmps33
      go_wp2
      go_ret
      exact ⟨by congr; simp [mayI]; omega, alloc_belowI _ _⟩
  · go_enter Tryd.func33, Tryd.ntmps33
    go_wp2
    go_ret
    exact ⟨by congr; simp [mayI]; omega, alloc_belowI _ _⟩

set_option maxRecDepth 100000 in
set_option maxHeartbeats 400000 in
theorem register_any (n : Int) (w : World) :
    Calls Tryd.prog 35 #[.int .i64 n] w fun e w' => e = .returned (.bool (wiB 1 n)) ∧ w' = w := by
  by_cases h0 : 0 ≤ n
  · by_cases h1 : n < 4
    all_goals
      go_enter Tryd.func35, Tryd.ntmps35
      go_wp2
      go_ret
      exact ⟨by congr; simp [wiB, rowLo, rowHi]; omega, rfl⟩
  · go_enter Tryd.func35, Tryd.ntmps35
    go_wp2
    go_ret
    exact ⟨by congr; simp [wiB, rowLo, rowHi]; omega, rfl⟩
end Go.Proofs.YtedldckijblnhaaDoor
