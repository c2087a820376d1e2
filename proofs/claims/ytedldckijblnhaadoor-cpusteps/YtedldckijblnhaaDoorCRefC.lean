/-
  What stands where the document for one instruction has asked whether it may be.
-/
import Derived.Test.YtedldckijblnhaaDoorCRefB
namespace Go.Proofs.YtedldckijblnhaaDoor
open Go.RowKit
set_option linter.unusedVariables false

/-- What stands where the document's Step has asked whether the instruction may be. -/
def Asked (w w1 : World) (p r0 r1 r2 r3 o A B : Int) (G1 G2 G3 G4 : Nat) : Prop := FiveAt w1 w.heap.size (.int .i64 p) (.int .i64 r0) (.int .i64 r1) (.int .i64 r2) (.int .i64 r3) ∧ FiveAt w1 G1 (.int .i64 0) (.int .i64 0) (.int .i64 0) (.int .i64 0) (.int .i64 0) ∧ FiveAt w1 G2 (.int .i64 0) (.int .i64 0) (.bool false) (.bool false) (.int .i64 0) ∧ FiveAt w1 G3 (.int .i64 0) (.int .i64 (-1)) (.bool false) (.bool false) (.int .i64 0) ∧
  (w1.cell? ⟨G4, 0, none⟩ = some (.int .i64 o) ∧ w1.cell? ⟨G4, 1, none⟩ = some (.int .i64 A) ∧ w1.cell? ⟨G4, 2, none⟩ = some (.int .i64 B)) ∧ G4 < w1.heap.size ∧ Below w.heap.size w w1

theorem new3 (w : World) (x y z : Value) (t : TypeId) : (w.alloc (.cells #[x, y, z] t)).cell? ⟨w.heap.size, 0, none⟩ = some x ∧ (w.alloc (.cells #[x, y, z] t)).cell? ⟨w.heap.size, 1, none⟩ = some y ∧ (w.alloc (.cells #[x, y, z] t)).cell? ⟨w.heap.size, 2, none⟩ = some z := ⟨by simp, by simp, by simp⟩
theorem asked (w W w1 : World) (p r0 r1 r2 r3 o A B : Int) (G1 G2 G3 : Nat) (F0 : FiveAt W w.heap.size (.int .i64 p) (.int .i64 r0) (.int .i64 r1) (.int .i64 r2) (.int .i64 r3)) (F1 : FiveAt W G1 (.int .i64 0) (.int .i64 0) (.int .i64 0) (.int .i64 0) (.int .i64 0)) (F2 : FiveAt W G2 (.int .i64 0) (.int .i64 0) (.bool false) (.bool false) (.int .i64 0)) (F3 : FiveAt W G3 (.int .i64 0) (.int .i64 (-1)) (.bool false) (.bool false) (.int .i64 0)) (hbel : Below w.heap.size w W) (hs : w.heap.size ≤ W.heap.size)
    (hb : Below (W.alloc (.cells #[.int .i64 o, .int .i64 A, .int .i64 B] 44)).heap.size (W.alloc (.cells #[.int .i64 o, .int .i64 A, .int .i64 B] 44)) w1) : Asked w w1 p r0 r1 r2 r3 o A B G1 G2 G3 W.heap.size := by
  have hb' : Below W.heap.size W w1 := (alloc_belowI _ _).trans (hb.mono (by simp))
  have hg : W.heap.size < (W.alloc (.cells #[.int .i64 o, .int .i64 A, .int .i64 B] 44)).heap.size := by simp
  have hss := hb.size
  refine ⟨F0.below hb' F0.1, F1.below hb' F1.1, F2.below hb' F2.1, F3.below hb' F3.1, ⟨?_, ?_, ?_⟩, by omega, hbel.trans (hb'.mono hs)⟩
  · rw [hb.cell (by exact hg)]; exact (new3 _ _ _ _ _).1
  · rw [hb.cell (by exact hg)]; exact (new3 _ _ _ _ _).2.1
  · rw [hb.cell (by exact hg)]; exact (new3 _ _ _ _ _).2.2

theorem Asked.below {w w1 w2 : World} {p r0 r1 r2 r3 o A B : Int} {G1 G2 G3 G4 : Nat} (h : Asked w w1 p r0 r1 r2 r3 o A B G1 G2 G3 G4) (hb : Below w1.heap.size w1 w2) (hs : w.heap.size ≤ w1.heap.size) : Asked w w2 p r0 r1 r2 r3 o A B G1 G2 G3 G4 := by
  obtain ⟨F0, F1, F2, F3, ⟨i0, i1, i2⟩, hg, hbel⟩ := h
  have := hb.size
  exact ⟨F0.below hb F0.1, F1.below hb F1.1, F2.below hb F2.1, F3.below hb F3.1, ⟨(hb.cell (by exact hg)).trans i0, (hb.cell (by exact hg)).trans i1, (hb.cell (by exact hg)).trans i2⟩, by omega, hbel.trans (hb.mono hs)⟩
theorem five_reg {w : World} {g : Nat} {p r0 r1 r2 r3 : Int} (h : FiveAt w g (.int .i64 p) (.int .i64 r0) (.int .i64 r1) (.int .i64 r2) (.int .i64 r3)) (k : Nat) (hk : k < 4) : w.cell? ⟨g, 1 + k, none⟩ = some (.int .i64 (Co.reg ⟨p, r0, r1, r2, r3⟩ k)) := by
  obtain ⟨_, _, h2, h3, h4, h5, h6⟩ := h
  match k, hk with
  | 0, _ => exact h3
  | 1, _ => exact h4
  | 2, _ => exact h5
  | 3, _ => exact h6

/-- Five cells lie there. -/
def ThereAt (w : World) (g : Nat) : Prop := ∃ x0 x1 x2 x3 x4, FiveAt w g x0 x1 x2 x3 x4
theorem ThereAt.of {w : World} {g : Nat} {x0 x1 x2 x3 x4 : Value} (h : FiveAt w g x0 x1 x2 x3 x4) : ThereAt w g := ⟨_, _, _, _, _, h⟩
theorem ThereAt.drew {w : World} {g : Nat} (h : ThereAt w g) : ThereAt w.drew g := by obtain ⟨_, _, _, _, _, h⟩ := h; exact .of h.drew
theorem ThereAt.alloc {w : World} {g : Nat} {o : Obj} (h : ThereAt w g) : ThereAt (w.alloc o) g := by obtain ⟨_, _, _, _, _, h⟩ := h; exact .of h.alloc
theorem ThereAt.other {w : World} {g g' j : Nat} {v : Value} (h : ThereAt w g) (hg : g ≠ g') : ThereAt (w.setCell ⟨g', j, none⟩ v) g := by obtain ⟨_, _, _, _, _, h⟩ := h; exact .of (h.other hg)
theorem ThereAt.other5 {w : World} {g g' : Nat} {v0 v1 v2 v3 v4 : Value} (h : ThereAt w g') (e : g' ≠ g) : ThereAt (((((w.setCell ⟨g, 0, none⟩ v0).setCell ⟨g, 1, none⟩ v1).setCell ⟨g, 2, none⟩ v2).setCell ⟨g, 3, none⟩ v3).setCell ⟨g, 4, none⟩ v4) g' := by obtain ⟨_, _, _, _, _, h⟩ := h; exact .of (h.other5 e)
theorem FiveAt.setT {w : World} {g : Nat} {v0 v1 v2 v3 v4 : Value} (h : ThereAt w g) : FiveAt (((((w.setCell ⟨g, 0, none⟩ v0).setCell ⟨g, 1, none⟩ v1).setCell ⟨g, 2, none⟩ v2).setCell ⟨g, 3, none⟩ v3).setCell ⟨g, 4, none⟩ v4) g v0 v1 v2 v3 v4 := by obtain ⟨_, _, _, _, _, h⟩ := h; exact h.set5
theorem belowG {B g j : Nat} {a w : World} {v : Value} (h : Below B a w) (hg : B ≤ g) : Below B a (w.setCell ⟨g, j, none⟩ v) := h.setCell hg _
theorem belowA {a w : World} {o : Obj} (h : Below a.heap.size a w) : Below a.heap.size a (w.alloc o) := h.alloc h.size _
theorem owns_drew {w : World} {base : Nat} {e : TypeId} {v : Value} {n : Nat} {xs : List Value} (h : w.ownsRow base e 1 v n xs) : w.drew.ownsRow base e 1 v n xs := owns_below h (Below.refl w.heap.size w).drew
theorem owns_one {w : World} {base g j : Nat} {e : TypeId} {v x : Value} {n : Nat} {xs : List Value} (h : w.ownsRow base e 1 v n xs) (hg : g < base) : (w.setCell ⟨g, j, none⟩ x).ownsRow base e 1 v n xs := ownsRow_setCell_below h (a := ⟨g, j, none⟩) hg _
end Go.Proofs.YtedldckijblnhaaDoor
