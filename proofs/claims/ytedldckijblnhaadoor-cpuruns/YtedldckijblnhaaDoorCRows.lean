/-
  The table of instructions.
-/
import Derived.Test.YtedldckijblnhaaDoorCStore
import Derived.Deep.MidRow
namespace Go.Proofs.YtedldckijblnhaaDoor
open Go.RowKit
set_option linter.unusedVariables false

/-- The table's cells. -/
def rowsL : List Value := [.nilFunc, .func (.func 47) #[] #[], .nilFunc, .func (.func 48) #[] #[], .func (.func 49) #[] #[], .nilFunc, .func (.func 50) #[] #[], .nilFunc, .func (.func 51) #[] #[], .nilFunc, .func (.func 52) #[] #[], .nilFunc, .func (.func 53) #[] #[], .nilFunc, .func (.func 54) #[] #[], .nilFunc, .nilFunc, .func (.func 56) #[] #[], .nilFunc, .func (.func 57) #[] #[], .nilFunc, .func (.func 58) #[] #[], .nilFunc, .func (.func 59) #[] #[], .func (.func 60) #[] #[], .nilFunc, .func (.func 62) #[] #[], .nilFunc, .func (.func 64) #[] #[], .nilFunc, .func (.func 66) #[] #[], .nilFunc, .func (.func 68) #[] #[], .nilFunc, .func (.func 70) #[] #[], .nilFunc, .nilFunc, .func (.func 72) #[] #[], .nilFunc, .func (.func 73) #[] #[]]
def rowsV : Value := .agg rowsL.toArray

theorem idx_row0 (w : World) : (Instr.index 73 rowsV (.int .i64 0)).run Tryd.prog w = .ok (.agg #[.nilFunc, .func (.func 47) #[] #[]]) w := by kernel_rfl
theorem idx_row1 (w : World) : (Instr.index 73 rowsV (.int .i64 1)).run Tryd.prog w = .ok (.agg #[.nilFunc, .func (.func 48) #[] #[]]) w := by kernel_rfl
theorem idx_row2 (w : World) : (Instr.index 73 rowsV (.int .i64 2)).run Tryd.prog w = .ok (.agg #[.func (.func 49) #[] #[], .nilFunc]) w := by kernel_rfl
theorem idx_row3 (w : World) : (Instr.index 73 rowsV (.int .i64 3)).run Tryd.prog w = .ok (.agg #[.func (.func 50) #[] #[], .nilFunc]) w := by kernel_rfl
theorem idx_row4 (w : World) : (Instr.index 73 rowsV (.int .i64 4)).run Tryd.prog w = .ok (.agg #[.func (.func 51) #[] #[], .nilFunc]) w := by kernel_rfl
theorem idx_row5 (w : World) : (Instr.index 73 rowsV (.int .i64 5)).run Tryd.prog w = .ok (.agg #[.func (.func 52) #[] #[], .nilFunc]) w := by kernel_rfl
theorem idx_row6 (w : World) : (Instr.index 73 rowsV (.int .i64 6)).run Tryd.prog w = .ok (.agg #[.func (.func 53) #[] #[], .nilFunc]) w := by kernel_rfl
theorem idx_row7 (w : World) : (Instr.index 73 rowsV (.int .i64 7)).run Tryd.prog w = .ok (.agg #[.func (.func 54) #[] #[], .nilFunc]) w := by kernel_rfl
theorem idx_row8 (w : World) : (Instr.index 73 rowsV (.int .i64 8)).run Tryd.prog w = .ok (.agg #[.nilFunc, .func (.func 56) #[] #[]]) w := by kernel_rfl
theorem idx_row9 (w : World) : (Instr.index 73 rowsV (.int .i64 9)).run Tryd.prog w = .ok (.agg #[.nilFunc, .func (.func 57) #[] #[]]) w := by kernel_rfl
theorem idx_row10 (w : World) : (Instr.index 73 rowsV (.int .i64 10)).run Tryd.prog w = .ok (.agg #[.nilFunc, .func (.func 58) #[] #[]]) w := by kernel_rfl
theorem idx_row11 (w : World) : (Instr.index 73 rowsV (.int .i64 11)).run Tryd.prog w = .ok (.agg #[.nilFunc, .func (.func 59) #[] #[]]) w := by kernel_rfl
theorem idx_row12 (w : World) : (Instr.index 73 rowsV (.int .i64 12)).run Tryd.prog w = .ok (.agg #[.func (.func 60) #[] #[], .nilFunc]) w := by kernel_rfl
theorem idx_row13 (w : World) : (Instr.index 73 rowsV (.int .i64 13)).run Tryd.prog w = .ok (.agg #[.func (.func 62) #[] #[], .nilFunc]) w := by kernel_rfl
theorem idx_row14 (w : World) : (Instr.index 73 rowsV (.int .i64 14)).run Tryd.prog w = .ok (.agg #[.func (.func 64) #[] #[], .nilFunc]) w := by kernel_rfl
theorem idx_row15 (w : World) : (Instr.index 73 rowsV (.int .i64 15)).run Tryd.prog w = .ok (.agg #[.func (.func 66) #[] #[], .nilFunc]) w := by kernel_rfl
theorem idx_row16 (w : World) : (Instr.index 73 rowsV (.int .i64 16)).run Tryd.prog w = .ok (.agg #[.func (.func 68) #[] #[], .nilFunc]) w := by kernel_rfl
theorem idx_row17 (w : World) : (Instr.index 73 rowsV (.int .i64 17)).run Tryd.prog w = .ok (.agg #[.func (.func 70) #[] #[], .nilFunc]) w := by kernel_rfl
theorem idx_row18 (w : World) : (Instr.index 73 rowsV (.int .i64 18)).run Tryd.prog w = .ok (.agg #[.nilFunc, .func (.func 72) #[] #[]]) w := by kernel_rfl
theorem idx_row19 (w : World) : (Instr.index 73 rowsV (.int .i64 19)).run Tryd.prog w = .ok (.agg #[.nilFunc, .func (.func 73) #[] #[]]) w := by kernel_rfl

theorem rows_info : (Tryd.prog.info? 73).map (·.size) = some rowsL.length := by kernel_rfl
theorem rows_one : rowsL.toArray.all (·.oneCell') = true := by simp [rowsL, Value.oneCell']

theorem rows_there (w : World) : (w.alloc (.cells #[.nilFunc, .nilFunc, .nilFunc, .nilFunc, .nilFunc, .nilFunc, .nilFunc, .nilFunc, .nilFunc, .nilFunc, .nilFunc, .nilFunc, .nilFunc, .nilFunc, .nilFunc, .nilFunc, .nilFunc, .nilFunc, .nilFunc, .nilFunc, .nilFunc, .nilFunc, .nilFunc, .nilFunc, .nilFunc, .nilFunc, .nilFunc, .nilFunc, .nilFunc, .nilFunc, .nilFunc, .nilFunc, .nilFunc, .nilFunc, .nilFunc, .nilFunc, .nilFunc, .nilFunc, .nilFunc, .nilFunc] 73)).there w.heap.size 0 rowsL.toArray.size := by
  intro j hj
  have hj' : j < 40 := hj
  rw [Nat.zero_add]
  refine ⟨?_, by simp⟩
  have h := heap_alloc_new w (.cells #[.nilFunc, .nilFunc, .nilFunc, .nilFunc, .nilFunc, .nilFunc, .nilFunc, .nilFunc, .nilFunc, .nilFunc, .nilFunc, .nilFunc, .nilFunc, .nilFunc, .nilFunc, .nilFunc, .nilFunc, .nilFunc, .nilFunc, .nilFunc, .nilFunc, .nilFunc, .nilFunc, .nilFunc, .nilFunc, .nilFunc, .nilFunc, .nilFunc, .nilFunc, .nilFunc, .nilFunc, .nilFunc, .nilFunc, .nilFunc, .nilFunc, .nilFunc, .nilFunc, .nilFunc, .nilFunc, .nilFunc] 73)
  simp only [World.cell?, h]
  simp
  omega
theorem below_setCells {N b : Nat} (hN : N ≤ b) : ∀ (vs : List Value) (o : Nat) (w w' : World), Below N w w' → Below N w (w'.setCells b o vs)
  | [], _, _, _, h => h
  | v :: r, o, w, w', h => by
    rw [World.setCells]
    exact below_setCells hN r (o + 1) w _ (h.setCell hN _)

theorem results_cell1 {fn : Func} {p : Tmp} {ty : TypeId} (h : fn.results = #[.cell p ty]) (tmps : Array Value) (P : Program) (w : World) (a : Addr) (x : Value)
    (hp : tmps.getD p undef = .pointer (some a)) (hx : (loadVar ty a).run P w = .ok x w) : (results fn tmps).run P w = .ok x w := by
  have hp' : tmps[p]?.getD undef = .pointer (some a) := by simpa using hp
  simp [results, h, hp', asAddr, hx]

set_option maxRecDepth 100000 in
set_option maxHeartbeats 3200000 in
theorem rows_any (w : World) : Calls Tryd.prog 34 #[] w fun e w' => e = .returned rowsV ∧ Below w.heap.size w w' := by
  have hst0 := rows_there w
  have hl0 := run_loadVar_mid (P := Tryd.prog) _ w.heap.size 0 73 rowsL _ (World.rangeAt_setCells_same _ _ _ _ (by simpa using rows_there w)) Tryd.underlying73 rfl rows_info
  have hb0 : Below w.heap.size w ((w.alloc (.cells #[.nilFunc, .nilFunc, .nilFunc, .nilFunc, .nilFunc, .nilFunc, .nilFunc, .nilFunc, .nilFunc, .nilFunc, .nilFunc, .nilFunc, .nilFunc, .nilFunc, .nilFunc, .nilFunc, .nilFunc, .nilFunc, .nilFunc, .nilFunc, .nilFunc, .nilFunc, .nilFunc, .nilFunc, .nilFunc, .nilFunc, .nilFunc, .nilFunc, .nilFunc, .nilFunc, .nilFunc, .nilFunc, .nilFunc, .nilFunc, .nilFunc, .nilFunc, .nilFunc, .nilFunc, .nilFunc, .nilFunc] 73)).setCells w.heap.size 0 rowsL) := below_setCells (Nat.le_refl _) _ _ _ _ (alloc_belowI _ _)
  obtain ⟨W, hW⟩ : ∃ W, (w.alloc (.cells #[.nilFunc, .nilFunc, .nilFunc, .nilFunc, .nilFunc, .nilFunc, .nilFunc, .nilFunc, .nilFunc, .nilFunc, .nilFunc, .nilFunc, .nilFunc, .nilFunc, .nilFunc, .nilFunc, .nilFunc, .nilFunc, .nilFunc, .nilFunc, .nilFunc, .nilFunc, .nilFunc, .nilFunc, .nilFunc, .nilFunc, .nilFunc, .nilFunc, .nilFunc, .nilFunc, .nilFunc, .nilFunc, .nilFunc, .nilFunc, .nilFunc, .nilFunc, .nilFunc, .nilFunc, .nilFunc, .nilFunc] 73)).setCells w.heap.size 0 rowsL = W := ⟨_, rfl⟩
  rw [hW] at hl0 hb0
  have HT := hid hst0
  have HW := hid (show (w.alloc (.cells #[.nilFunc, .nilFunc, .nilFunc, .nilFunc, .nilFunc, .nilFunc, .nilFunc, .nilFunc, .nilFunc, .nilFunc, .nilFunc, .nilFunc, .nilFunc, .nilFunc, .nilFunc, .nilFunc, .nilFunc, .nilFunc, .nilFunc, .nilFunc, .nilFunc, .nilFunc, .nilFunc, .nilFunc, .nilFunc, .nilFunc, .nilFunc, .nilFunc, .nilFunc, .nilFunc, .nilFunc, .nilFunc, .nilFunc, .nilFunc, .nilFunc, .nilFunc, .nilFunc, .nilFunc, .nilFunc, .nilFunc] 73)).setCells w.heap.size 0 rowsL.toArray.toList = W from hW)
  have HL := hid hl0
  have HB := hid hb0
  clear hst0 hl0 hb0 hW
  go_enter Tryd.func34, Tryd.ntmps34
  go_wp2_with (refine wpList_store_mid rfl 73 _ _ rfl w.heap.size 0 rowsL.toArray rfl rfl HT.out (by simpa using rows_info) rows_one ?_; rw [HW.out])
  try simp only [Exit.inBlock, Exit.then]
  refine bodyPost_ret (results_cell1 rfl _ _ _ ⟨w.heap.size, 0, none⟩ _ rfl HL.out) rfl ?_
  exact ⟨rfl, HB.out⟩
end Go.Proofs.YtedldckijblnhaaDoor
