/-
  A process loaded out of a slice, and stored into a block of its own, as one step each.
-/
import Derived.Test.YtdanfnbclbiidaaRows
import Derived.Test.YtdanfnbclbiidaaPReg
import Derived.Test.YtdanfnbclbiidaaLLib
import Derived.Deep.MidRow
namespace Go.Proofs.Ytdanfnbclbiidaa
open Go.RowKit
set_option linter.unusedVariables false

theorem Try.infoPx : (Try.prog.info? 57).map (·.size) = some 18 := by kernel_rfl

/-- The cells of a process lie at an address. -/
def PxAt (w : World) (b off : Nat) (r : Px) : Prop := ∀ j, j < 18 → w.cell? ⟨b, off + j, none⟩ = some (r.cells.getD j .nilIface)
theorem PxAt.below {w w' : World} {B b off : Nat} {r : Px} (h : PxAt w b off r) (hb : Below B w w') (hg : b < B) : PxAt w' b off r := fun j hj => (hb.cell (by exact hg)).trans (h j hj)
theorem PxAt.box {w : World} {g : Nat} {t : TypeId} {r : Px} (h : BoxAt w g t r.cells.toArray) : PxAt w g 0 r := fun j hj => by
  have hl : r.cells.length = 18 := rfl
  rw [Nat.zero_add, h.cell j]
  simp [List.getD, List.getElem?_eq_getElem (show j < r.cells.length by omega)]
theorem PxAt.st {w : World} {b off : Nat} {r : Px} (h : PxAt w b off r) : w.cell? ⟨b, off, none⟩ = some (.int .i64 r.st) := h 0 (by decide)
theorem PxAt.pr {w : World} {b off : Nat} {r : Px} (h : PxAt w b off r) : w.cell? ⟨b, off + 1, none⟩ = some (.int .i64 r.pr) := h 1 (by decide)
theorem PxAt.su {w : World} {b off : Nat} {r : Px} (h : PxAt w b off r) : w.cell? ⟨b, off + 2, none⟩ = some (.bool r.su) := h 2 (by decide)
theorem PxAt.si {w : World} {b off : Nat} {r : Px} (h : PxAt w b off r) : w.cell? ⟨b, off + 8, none⟩ = some (.int .i64 r.si) := h 8 (by decide)

theorem wpList_load_px {ops : Array Oper} {rest : List Oper} {o : Oper} {a : Act} {w : World} {Q : Exit → Act → World → Prop} (hgd : o.guard = none) (x : Operand) (ho : o.op = .load 57 x)
    (b off : Nat) (hx : a.eval x = .pointer (some ⟨b, off, none⟩)) (r : Px) (hc : PxAt w b off r)
    (h : wpList Try.prog ops Q rest (a.put o.dst r.val) w) : wpList Try.prog ops Q (o :: rest) a w := by
  refine wpList_load_mid hgd _ x ho b off hx r.cells _ (fun j v hj => ?_) Try.underlying57 rfl (by rw [Try.infoPx]; rfl) h
  have hl : r.cells.length = 18 := rfl
  rcases Nat.lt_or_ge j 18 with h' | h'
  · rw [hc j h', ← hj]; simp [List.getD, List.getElem?_eq_getElem (show j < r.cells.length by omega)]
  · rw [List.getElem?_eq_none (by omega)] at hj; cases hj

theorem wpList_store_px {ops : Array Oper} {rest : List Oper} {o : Oper} {a : Act} {w : World} {Q : Exit → Act → World → Prop} (hgd : o.guard = none) (x y : Operand) (ho : o.op = .store 57 x y) (hd : o.dst = none)
    (g : Nat) (hx : a.eval x = .pointer (some ⟨g, 0, none⟩)) (r : Px) (hy : a.eval y = r.val) (old : Array Value) (hg : BoxAt w g 57 old) (hold : old.size = 18)
    (h : ∀ w', BoxAt w' g 57 r.cells.toArray → w.grownBy w' (some g) → w'.heap.size = w.heap.size → wpList Try.prog ops Q rest a w') : wpList Try.prog ops Q (o :: rest) a w := by
  refine wpList_store_row hgd _ x y ho g r.cells.toArray hx hy 57 old hg (by rw [Try.infoPx]; rfl) hold (by unfold Px.cells; simp [Value.oneCell']) ?_
  rw [hd]
  exact h _ (setRow_heap w g old _ 57 _ hg) ⟨rfl, rfl, rfl, by simp, fun j _ hj => setRow_other w g j _ (fun e => hj (by simp [e]))⟩ (by simp)

/-- .. and in a region that draws its order. -/
theorem px_yields {o : Oper} {a : Act} (x : Operand) (ho : o.op = .load 57 x) (b off : Nat) (hx : a.eval x = .pointer (some ⟨b, off, none⟩)) (r : Px) {w : World} (hc : PxAt w b off r) :
    (execOp a.eval o).run Try.prog w = .ok (.value r.val) w := by
  have hr : w.rangeAt b off r.cells := fun j v hj => by
    have hl : r.cells.length = 18 := rfl
    rcases Nat.lt_or_ge j 18 with h' | h'
    · rw [hc j h', ← hj]; simp [List.getD, List.getElem?_eq_getElem (show j < r.cells.length by omega)]
    · rw [List.getElem?_eq_none (by omega)] at hj; cases hj
  unfold execOp
  simp only [ho, hx, Instr.loadAt, Instr.sureAddr, Sem.run_bind, Sem.run_pure, Result.andThen_ok, run_loadVar_mid w b off 57 r.cells _ hr Try.underlying57 rfl (by rw [Try.infoPx]; rfl)]
  rfl
end Go.Proofs.Ytdanfnbclbiidaa
