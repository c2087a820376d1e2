/-
  One instruction done on a machine.
-/
import Derived.Test.YtedldckijblnhaaDoorCRows
import Derived.Laws.EntriesVeiled
import Derived.Deep.CutRange
namespace Go.Proofs.YtedldckijblnhaaDoor
open Go.RowKit
set_option linter.unusedVariables false

theorem below_realloc {B : Nat} {a w : World} {x y : Obj} (h : Below B a (w.alloc x)) (hB : B ≤ w.heap.size) : Below B a (w.alloc y) :=
  ⟨h.os, h.tape, h.output, by have := h.size; simpa using this, fun k hk => (Below.heap_alloc w y k (by omega)).trans ((Below.heap_alloc w x k (by omega)).symm.trans (h.block k hk))⟩
theorem row_facts {W wX w7 : World} (hb7 : Below wX.heap.size wX w7) (h : wX = (W.alloc (.cells #[.nilFunc, .nilFunc] 72)).drew) :
    w7.cell? ⟨W.heap.size, 0, none⟩ = some .nilFunc ∧ w7.cell? ⟨W.heap.size, 1, none⟩ = some .nilFunc ∧ w7.frozen? ⟨W.heap.size, 0, none⟩ = false ∧ w7.frozen? ⟨W.heap.size, 1, none⟩ = false := by
  subst h
  exact ⟨(hb7.cell (by simp)).trans (by simp), (hb7.cell (by simp)).trans (by simp), (hb7.frozen (by simp)).trans (by simp), (hb7.frozen (by simp)).trans (by simp)⟩

theorem fn_ne (K : Nat) (w : World) : (binOp .neq 69 (.func (.func K) #[] #[]) .nilFunc).run Tryd.prog w = .ok (.bool true) w := by kernel_rfl
theorem nil_ne (w : World) : (binOp .neq 69 .nilFunc .nilFunc).run Tryd.prog w = .ok (.bool false) w := by kernel_rfl

/-- A new variable that holds a row of the table. -/
def RowAt (W wx : World) (s V D : Value) : Prop := ∃ g, s = .pointer (some ⟨g, 0, none⟩) ∧ W.heap.size ≤ g ∧ g < wx.heap.size ∧ Below W.heap.size W wx ∧ wx.cell? ⟨g, 0, none⟩ = some V ∧ wx.cell? ⟨g, 1, none⟩ = some D
theorem row_end1 {W w7 : World} {V D : Value} (h : Below W.drew.heap.size W.drew w7) : RowAt W (w7.alloc (.cells #[V, D] 72)) (.pointer (some ⟨w7.heap.size, 0, none⟩)) V D :=
  ⟨_, rfl, h.size, by simp, ((Below.refl W.heap.size W).drew.trans h).alloc h.size _, by simp, by simp⟩
theorem row_end2 {W w7 : World} {V D : Value} (h : Below (W.alloc (.cells #[.nilFunc, .nilFunc] 72)).drew.heap.size (W.alloc (.cells #[.nilFunc, .nilFunc] 72)).drew w7) :
    RowAt W ((w7.setCell ⟨W.heap.size, 0, none⟩ V).setCell ⟨W.heap.size, 1, none⟩ D) (.pointer (some ⟨W.heap.size, 0, none⟩)) V D := by
  obtain ⟨q0, q1, q2, q3⟩ := row_facts h rfl
  have hs := h.size
  simp at hs
  have hb : Below W.heap.size W w7 := (alloc_belowI W _).drew.trans (h.mono (by simp))
  refine ⟨_, rfl, Nat.le_refl _, by simp; omega, (hb.setCell (Nat.le_refl _) _).setCell (Nat.le_refl _) _, ?_, ?_⟩
  · rw [World.cell?_setCell_other _ _ _ _ (cadr_ne (by omega))]
    exact World.cell?_setCell_same _ _ _ q0
  · refine World.cell?_setCell_same _ _ _ (u := .nilFunc) ?_
    rw [World.cell?_setCell_other _ _ _ _ (cadr_ne (by omega))]
    exact q1

set_option maxRecDepth 100000 in
set_option maxHeartbeats 3200000 in
theorem run_val (K : Nat) (o x y z : Int) (a b : Nat) (ha : a < 4) (hb : b < 4) (hidx : ∀ w, (Instr.index 73 rowsV (.int .i64 o)).run Tryd.prog w = .ok (.agg #[.func (.func K) #[] #[], .nilFunc]) w)
    (hcf : ∀ (w : World), (callFunc K #[.int .i64 x, .int .i64 y]).run Tryd.prog w = .ok (.enter K #[.int .i64 x, .int .i64 y]) w) (N : Nat) (M : Mc) (w : World) (hM : MAt w N M) (hx : M.c.reg a = x) (hy : M.c.reg b = y)
    (HF : ∀ w', Calls Tryd.prog K #[.int .i64 x, .int .i64 y] w' fun e w'' => e = .returned (.int .i64 z) ∧ Below w'.heap.size w' w'') :
    Calls Tryd.prog 22 #[.pointer (some ⟨N, 0, none⟩), .agg #[.int .i64 o, .int .i64 a, .int .i64 b]] w fun e w' => e = .returned (.tuple #[]) ∧ MAt w' N { M with c := (M.c.set a z).at M.nx } ∧ Below N w w' := by
  have hlt := hM.1
  have hb0 := alloc_belowI w (.cells #[.int .i64 o, .int .i64 a, .int .i64 b] 44)
  have hbN := alloc_belowN w N (by omega) (.cells #[.int .i64 o, .int .i64 a, .int .i64 b] 44)
  obtain ⟨W, hW⟩ : ∃ W, W = w.alloc (.cells #[.int .i64 o, .int .i64 a, .int .i64 b] 44) := ⟨_, rfl⟩
  rw [← hW] at hb0 hbN
  have hM1 := hM.below hb0
  have d0 : W.cell? ⟨w.heap.size, 0, none⟩ = some (.int .i64 o) := by rw [hW]; simp
  have d1 : W.cell? ⟨w.heap.size, 1, none⟩ = some (.int .i64 a) := by rw [hW]; simp
  have d2 : W.cell? ⟨w.heap.size, 2, none⟩ = some (.int .i64 b) := by rw [hW]; simp
  have hWs : W.heap.size = w.heap.size + 1 := by rw [hW]; simp
  have MK := hid (show ∀ w', Below W.heap.size W w' → Below W.heap.size W w' ∧ w'.cell? ⟨w.heap.size, 0, none⟩ = some (.int .i64 o) by
    intro w' hb'
    exact ⟨hb', (hb'.cell (by show w.heap.size < _; omega)).trans d0⟩)
  have MW := hid (show ∀ w', Below W.heap.size W w' → MAt w' N M ∧ w'.cell? ⟨w.heap.size, 0, none⟩ = some (.int .i64 o) ∧ w'.cell? ⟨w.heap.size, 1, none⟩ = some (.int .i64 a) ∧ w'.cell? ⟨w.heap.size, 2, none⟩ = some (.int .i64 b) ∧ Below N w w' by
    intro w' hb'
    exact ⟨hM1.below hb', (hb'.cell (by show w.heap.size < _; omega)).trans d0, (hb'.cell (by show w.heap.size < _; omega)).trans d1, (hb'.cell (by show w.heap.size < _; omega)).trans d2, hbN.trans (hb'.mono (by omega))⟩)
  have HW := hid hW
  have HWS := hid hWs
  have HHF := hid HF
  have HX := hid hx
  have HY := hid hy
  have ha0 : (0 : Int) ≤ (a : Int) := by omega
  have hb00 : (0 : Int) ≤ (b : Int) := by omega
  have ha4 : (a : Int) < 4 := by omega
  have hb4 : (b : Int) < 4 := by omega
  clear HF hW d0 d1 d2 hM hM1 hWs hx hy
  go_enter Tryd.func22, Tryd.ntmps22
  go_wp2_with fail
  rw [← HW.out]
  go_cut [4] from 4 to 8 (fun s wx => RowAt W wx s (.func (.func K) #[] #[]) (.nilFunc))
  case first =>
    go_region_held3 (fun w' => Below W.heap.size W w' ∧ w'.cell? ⟨w.heap.size, 0, none⟩ = some (.int .i64 o))
      ((go_split_ands; refine MK.out _ ?_; first
        | exact (Below.refl _ _).drew
        | exact belowN_set (belowN_set (by assumption))
        | exact below_realloc (by assumption) hb7.size
        | exact Below.alloc (by assumption) (Below.size (by assumption)) _
        | exact Below.trans (by assumption) (Below.mono hb7 (Below.size (by assumption)))))
      ((go_split_ands; first
        | (go_at_call 34
           refine (rows_any _).mono ?_
           rintro e w7 ⟨rfl, hb7⟩
           first | (obtain ⟨q0, q1, q2, q3⟩ := row_facts hb7 rfl) | skip)))
    all_goals
      go_wp2_with fail
      go_meet
      first | exact row_end1 hb7 | exact row_end2 hb7
  case rest =>
    obtain ⟨g, rfl, hg1, hg2, hbk, hc0, hc1⟩ := hcut
    obtain ⟨hmc, e0, e1, e2, hbn⟩ := MW.out wc hbk
    have hg : w.heap.size < g := by have := HWS.out; omega
    have hwc : w.heap.size < wc.heap.size := by omega
    have hS0 : ∀ w', Below wc.heap.size wc w' → w'.cell? ⟨w.heap.size, 1, none⟩ = some (.int .i64 a) ∧ w'.cell? ⟨w.heap.size, 2, none⟩ = some (.int .i64 b) ∧ w'.cell? ⟨g, 0, none⟩ = some (.func (.func K) #[] #[]) := fun w' h =>
      ⟨(h.cell (by exact hwc)).trans e1, (h.cell (by exact hwc)).trans e2, (h.cell (by exact hg2)).trans hc0⟩
    have HS0 := hid hS0
    have HS1 := hid (show ∀ (w' : World) (v : Value), (w'.cell? ⟨w.heap.size, 1, none⟩ = some (.int .i64 a) ∧ w'.cell? ⟨w.heap.size, 2, none⟩ = some (.int .i64 b) ∧ w'.cell? ⟨g, 0, none⟩ = some (.func (.func K) #[] #[])) →
        ((w'.setCell ⟨N, 1 + a, none⟩ v).cell? ⟨w.heap.size, 1, none⟩ = some (.int .i64 a) ∧ (w'.setCell ⟨N, 1 + a, none⟩ v).cell? ⟨w.heap.size, 2, none⟩ = some (.int .i64 b) ∧ (w'.setCell ⟨N, 1 + a, none⟩ v).cell? ⟨g, 0, none⟩ = some (.func (.func K) #[] #[])) by
      rintro w' v ⟨h1, h2, h3⟩
      refine ⟨?_, ?_, ?_⟩
      · rw [World.cell?_setCell_other _ _ _ _ (cadr_ne (by omega))]; exact h1
      · rw [World.cell?_setCell_other _ _ _ _ (cadr_ne (by omega))]; exact h2
      · rw [World.cell?_setCell_other _ _ _ _ (cadr_ne (by omega))]; exact h3)
    have HQ := hid (show ∀ w7 : World, Below wc.drew.heap.size wc.drew w7 → w7.cell? ⟨N, 1 + a, none⟩ = some (.int .i64 x) ∧ w7.frozen? ⟨N, 1 + a, none⟩ = false ∧
        MAt (w7.setCell ⟨N, 1 + a, none⟩ (.int .i64 z)) N { M with c := M.c.set a z } ∧ Below N w (w7.setCell ⟨N, 1 + a, none⟩ (.int .i64 z)) by
      intro w7 h
      have h' : Below wc.heap.size wc w7 := (Below.refl wc.heap.size wc).drew.trans h
      have hm7 := hmc.below h'
      have hm8 := hm7.setR a ha z
      obtain ⟨m0, m1, m2, m3, m4, m5, m6, m7, m8, m9, m10, m11, m12⟩ := hm7
      exact ⟨HX.out ▸ m3 a ha, m1 _, hm8, belowN_set (hbn.trans (h'.mono (by have := HWS.out; omega)))⟩)
    have c5 : wc.cell? ⟨N, 1 + a, none⟩ = some (.int .i64 x) := HX.out ▸ hmc.2.2.2.1 a ha
    have c6 : wc.cell? ⟨N, 1 + b, none⟩ = some (.int .i64 y) := HY.out ▸ hmc.2.2.2.1 b hb
    have hne := fn_ne K
    clear hmc hS0 hbn hbk
    go_wp2_with fail
    refine wp_region_held_drew (S := (fun w' => w'.cell? ⟨w.heap.size, 1, none⟩ = some (.int .i64 a) ∧ w'.cell? ⟨w.heap.size, 2, none⟩ = some (.int .i64 b) ∧ w'.cell? ⟨g, 0, none⟩ = some (.func (.func K) #[] #[]))) (by kernel_rfl) (HS0.out _ (Below.refl _ _).drew) (fun hHeld => ?_)
    refine wpAnyH_take (i := 0) (oi := { dst := some 12, op := Op.move (Operand.tmp 0), type := 68, pos := "cpu.go:62", after := #[], guard := none }) (v := ?v1) rfl (by kernel_rfl) (by kernel_rfl) (by kernel_rfl) (fun _ _ _ h => h) (Or.inl ⟨by rfl, ?hy1⟩) (by assumption) ?rest1
    case hy1 => (intro w hSw; (try dsimp only at hSw); go_simp; try with_reducible rfl)
    simp only [Act.put, List.setIfInBounds_toArray, List.set_cons_zero, List.set_cons_succ]
    refine wpAnyH_take (i := 1) (oi := { dst := some 13, op := Op.fieldAddr 44 (Operand.tmp 3) 1, type := 0, pos := "cpu.go:62", after := #[], guard := none }) (v := ?v2) rfl (by kernel_rfl) (by kernel_rfl) (by kernel_rfl) (fun _ _ _ h => h) (Or.inl ⟨by rfl, ?hy2⟩) (by assumption) ?rest2
    case hy2 => (intro w hSw; (try dsimp only at hSw); go_simp; try with_reducible rfl)
    simp only [Act.put, List.setIfInBounds_toArray, List.set_cons_zero, List.set_cons_succ]
    refine wpAnyH_take (i := 2) (oi := { dst := some 14, op := Op.load 3 (Operand.tmp 13), type := 3, pos := "cpu.go:62", after := #[{ on := 1, ground := Ground.data }], guard := none }) (v := ?v3) rfl (by kernel_rfl) (by kernel_rfl) (by kernel_rfl) (fun _ _ _ h => h) (Or.inl ⟨by rfl, ?hy3⟩) (by assumption) ?rest3
    case hy3 => (intro w hSw; (try dsimp only at hSw); go_simp; try with_reducible rfl)
    simp only [Act.put, List.setIfInBounds_toArray, List.set_cons_zero, List.set_cons_succ]
    refine wpAnyH_take (i := 3) (oi := { dst := some 15, op := Op.fieldAddr 72 (Operand.tmp 4) 0, type := 0, pos := "cpu.go:62", after := #[], guard := none }) (v := ?v4) rfl (by kernel_rfl) (by kernel_rfl) (by kernel_rfl) (fun _ _ _ h => h) (Or.inl ⟨by rfl, ?hy4⟩) (by assumption) ?rest4
    case hy4 => (intro w hSw; (try dsimp only at hSw); go_simp; try with_reducible rfl)
    simp only [Act.put, List.setIfInBounds_toArray, List.set_cons_zero, List.set_cons_succ]
    refine wpAnyH_take (i := 4) (oi := { dst := some 16, op := Op.load 69 (Operand.tmp 15), type := 69, pos := "cpu.go:62", after := #[{ on := 3, ground := Ground.data }], guard := none }) (v := ?v5) rfl (by kernel_rfl) (by kernel_rfl) (by kernel_rfl) (fun _ _ _ h => h) (Or.inl ⟨by rfl, ?hy5⟩) (by assumption) ?rest5
    case hy5 => (intro w hSw; (try dsimp only at hSw); go_simp; try with_reducible rfl)
    simp only [Act.put, List.setIfInBounds_toArray, List.set_cons_zero, List.set_cons_succ]
    refine wpAnyH_take (i := 5) (oi := { dst := some 17, op := Op.move (Operand.tmp 0), type := 68, pos := "cpu.go:62", after := #[], guard := none }) (v := ?v6) rfl (by kernel_rfl) (by kernel_rfl) (by kernel_rfl) (fun _ _ _ h => h) (Or.inl ⟨by rfl, ?hy6⟩) (by assumption) ?rest6
    case hy6 => (intro w hSw; (try dsimp only at hSw); go_simp; try with_reducible rfl)
    simp only [Act.put, List.setIfInBounds_toArray, List.set_cons_zero, List.set_cons_succ]
    refine wpAnyH_take (i := 6) (oi := { dst := some 18, op := Op.fieldAddr 44 (Operand.tmp 3) 1, type := 0, pos := "cpu.go:62", after := #[], guard := none }) (v := ?v7) rfl (by kernel_rfl) (by kernel_rfl) (by kernel_rfl) (fun _ _ _ h => h) (Or.inl ⟨by rfl, ?hy7⟩) (by assumption) ?rest7
    case hy7 => (intro w hSw; (try dsimp only at hSw); go_simp; try with_reducible rfl)
    simp only [Act.put, List.setIfInBounds_toArray, List.set_cons_zero, List.set_cons_succ]
    refine wpAnyH_take (i := 7) (oi := { dst := some 19, op := Op.load 3 (Operand.tmp 18), type := 3, pos := "cpu.go:62", after := #[{ on := 6, ground := Ground.data }], guard := none }) (v := ?v8) rfl (by kernel_rfl) (by kernel_rfl) (by kernel_rfl) (fun _ _ _ h => h) (Or.inl ⟨by rfl, ?hy8⟩) (by assumption) ?rest8
    case hy8 => (intro w hSw; (try dsimp only at hSw); go_simp; try with_reducible rfl)
    simp only [Act.put, List.setIfInBounds_toArray, List.set_cons_zero, List.set_cons_succ]
    refine wpAnyH_take (i := 8) (oi := { dst := some 20, op := Op.nilCheck (Operand.tmp 17), type := 0, pos := "cpu.go:62", after := #[{ on := 5, ground := Ground.data }], guard := none }) (v := ?v9) rfl (by kernel_rfl) (by kernel_rfl) (by kernel_rfl) (fun _ _ _ h => h) (Or.inl ⟨by rfl, ?hy9⟩) (by assumption) ?rest9
    case hy9 => (intro w hSw; (try dsimp only at hSw); go_simp; try with_reducible rfl)
    simp only [Act.put, List.setIfInBounds_toArray, List.set_cons_zero, List.set_cons_succ]
    refine wpAnyH_take (i := 9) (oi := { dst := some 21, op := Op.fieldAddr 57 (Operand.tmp 20) 0, type := 0, pos := "cpu.go:62", after := #[{ on := 8, ground := Ground.data }], guard := none }) (v := ?v10) rfl (by kernel_rfl) (by kernel_rfl) (by kernel_rfl) (fun _ _ _ h => h) (Or.inl ⟨by rfl, ?hy10⟩) (by assumption) ?rest10
    case hy10 => (intro w hSw; (try dsimp only at hSw); go_simp; try with_reducible rfl)
    simp only [Act.put, List.setIfInBounds_toArray, List.set_cons_zero, List.set_cons_succ]
    refine wpAnyH_take (i := 10) (oi := { dst := some 22, op := Op.fieldAddr 25 (Operand.tmp 21) 1, type := 0, pos := "cpu.go:62", after := #[{ on := 9, ground := Ground.data }], guard := none }) (v := ?v11) rfl (by kernel_rfl) (by kernel_rfl) (by kernel_rfl) (fun _ _ _ h => h) (Or.inl ⟨by rfl, ?hy11⟩) (by assumption) ?rest11
    case hy11 => (intro w hSw; (try dsimp only at hSw); go_simp; try with_reducible rfl)
    simp only [Act.put, List.setIfInBounds_toArray, List.set_cons_zero, List.set_cons_succ]
    refine wpAnyH_take (i := 11) (oi := { dst := some 23, op := Op.indexAddr 23 (Operand.tmp 22) (Operand.tmp 19), type := 0, pos := "cpu.go:62", after := #[{ on := 10, ground := Ground.data }, { on := 7, ground := Ground.data }], guard := none }) (v := ?v12) rfl (by kernel_rfl) (by kernel_rfl) (by kernel_rfl) (fun _ _ _ h => h) (Or.inl ⟨by rfl, ?hy12⟩) (by assumption) ?rest12
    case hy12 => (intro w hSw; (try dsimp only at hSw); go_simp; try with_reducible rfl)
    simp only [Act.put, List.setIfInBounds_toArray, List.set_cons_zero, List.set_cons_succ]
    refine wpAnyH_take (i := 13) (oi := { dst := some 25, op := Op.move (Operand.tmp 0), type := 68, pos := "cpu.go:62", after := #[], guard := none }) (v := ?v13) rfl (by kernel_rfl) (by kernel_rfl) (by kernel_rfl) (fun _ _ _ h => h) (Or.inl ⟨by rfl, ?hy13⟩) (by assumption) ?rest13
    case hy13 => (intro w hSw; (try dsimp only at hSw); go_simp; try with_reducible rfl)
    simp only [Act.put, List.setIfInBounds_toArray, List.set_cons_zero, List.set_cons_succ]
    refine wpAnyH_take (i := 14) (oi := { dst := some 26, op := Op.fieldAddr 44 (Operand.tmp 3) 2, type := 0, pos := "cpu.go:62", after := #[], guard := none }) (v := ?v14) rfl (by kernel_rfl) (by kernel_rfl) (by kernel_rfl) (fun _ _ _ h => h) (Or.inl ⟨by rfl, ?hy14⟩) (by assumption) ?rest14
    case hy14 => (intro w hSw; (try dsimp only at hSw); go_simp; try with_reducible rfl)
    simp only [Act.put, List.setIfInBounds_toArray, List.set_cons_zero, List.set_cons_succ]
    refine wpAnyH_take (i := 15) (oi := { dst := some 27, op := Op.load 3 (Operand.tmp 26), type := 3, pos := "cpu.go:62", after := #[{ on := 14, ground := Ground.data }], guard := none }) (v := ?v15) rfl (by kernel_rfl) (by kernel_rfl) (by kernel_rfl) (fun _ _ _ h => h) (Or.inl ⟨by rfl, ?hy15⟩) (by assumption) ?rest15
    case hy15 => (intro w hSw; (try dsimp only at hSw); go_simp; try with_reducible rfl)
    simp only [Act.put, List.setIfInBounds_toArray, List.set_cons_zero, List.set_cons_succ]
    refine wpAnyH_take (i := 16) (oi := { dst := some 28, op := Op.nilCheck (Operand.tmp 25), type := 0, pos := "cpu.go:62", after := #[{ on := 13, ground := Ground.data }], guard := none }) (v := ?v16) rfl (by kernel_rfl) (by kernel_rfl) (by kernel_rfl) (fun _ _ _ h => h) (Or.inl ⟨by rfl, ?hy16⟩) (by assumption) ?rest16
    case hy16 => (intro w hSw; (try dsimp only at hSw); go_simp; try with_reducible rfl)
    simp only [Act.put, List.setIfInBounds_toArray, List.set_cons_zero, List.set_cons_succ]
    refine wpAnyH_take (i := 17) (oi := { dst := some 29, op := Op.fieldAddr 57 (Operand.tmp 28) 0, type := 0, pos := "cpu.go:62", after := #[{ on := 16, ground := Ground.data }], guard := none }) (v := ?v17) rfl (by kernel_rfl) (by kernel_rfl) (by kernel_rfl) (fun _ _ _ h => h) (Or.inl ⟨by rfl, ?hy17⟩) (by assumption) ?rest17
    case hy17 => (intro w hSw; (try dsimp only at hSw); go_simp; try with_reducible rfl)
    simp only [Act.put, List.setIfInBounds_toArray, List.set_cons_zero, List.set_cons_succ]
    refine wpAnyH_take (i := 18) (oi := { dst := some 30, op := Op.fieldAddr 25 (Operand.tmp 29) 1, type := 0, pos := "cpu.go:62", after := #[{ on := 17, ground := Ground.data }], guard := none }) (v := ?v18) rfl (by kernel_rfl) (by kernel_rfl) (by kernel_rfl) (fun _ _ _ h => h) (Or.inl ⟨by rfl, ?hy18⟩) (by assumption) ?rest18
    case hy18 => (intro w hSw; (try dsimp only at hSw); go_simp; try with_reducible rfl)
    simp only [Act.put, List.setIfInBounds_toArray, List.set_cons_zero, List.set_cons_succ]
    refine wpAnyH_take (i := 19) (oi := { dst := some 31, op := Op.indexAddr 23 (Operand.tmp 30) (Operand.tmp 27), type := 0, pos := "cpu.go:62", after := #[{ on := 18, ground := Ground.data }, { on := 15, ground := Ground.data }], guard := none }) (v := ?v19) rfl (by kernel_rfl) (by kernel_rfl) (by kernel_rfl) (fun _ _ _ h => h) (Or.inl ⟨by rfl, ?hy19⟩) (by assumption) ?rest19
    case hy19 => (intro w hSw; (try dsimp only at hSw); go_simp; try with_reducible rfl)
    simp only [Act.put, List.setIfInBounds_toArray, List.set_cons_zero, List.set_cons_succ]
    refine wpAnyH_take (i := 22) (oi := { dst := some 34, op := Op.nilCheck (Operand.tmp 12), type := 0, pos := "cpu.go:62", after := #[{ on := 0, ground := Ground.data }], guard := none }) (v := ?v20) rfl (by kernel_rfl) (by kernel_rfl) (by kernel_rfl) (fun _ _ _ h => h) (Or.inl ⟨by rfl, ?hy20⟩) (by assumption) ?rest20
    case hy20 => (intro w hSw; (try dsimp only at hSw); go_simp; try with_reducible rfl)
    simp only [Act.put, List.setIfInBounds_toArray, List.set_cons_zero, List.set_cons_succ]
    refine wpAnyH_take (i := 23) (oi := { dst := some 35, op := Op.fieldAddr 57 (Operand.tmp 34) 0, type := 0, pos := "cpu.go:62", after := #[{ on := 22, ground := Ground.data }], guard := none }) (v := ?v21) rfl (by kernel_rfl) (by kernel_rfl) (by kernel_rfl) (fun _ _ _ h => h) (Or.inl ⟨by rfl, ?hy21⟩) (by assumption) ?rest21
    case hy21 => (intro w hSw; (try dsimp only at hSw); go_simp; try with_reducible rfl)
    simp only [Act.put, List.setIfInBounds_toArray, List.set_cons_zero, List.set_cons_succ]
    refine wpAnyH_take (i := 24) (oi := { dst := some 36, op := Op.fieldAddr 25 (Operand.tmp 35) 1, type := 0, pos := "cpu.go:62", after := #[{ on := 23, ground := Ground.data }], guard := none }) (v := ?v22) rfl (by kernel_rfl) (by kernel_rfl) (by kernel_rfl) (fun _ _ _ h => h) (Or.inl ⟨by rfl, ?hy22⟩) (by assumption) ?rest22
    case hy22 => (intro w hSw; (try dsimp only at hSw); go_simp; try with_reducible rfl)
    simp only [Act.put, List.setIfInBounds_toArray, List.set_cons_zero, List.set_cons_succ]
    refine wpAnyH_ready (rs := [12, 20]) (by kernel_rfl) (by simp) (AllReadyH.cons (o := { dst := some 24, op := Op.load 3 (Operand.tmp 23), type := 3, pos := "cpu.go:62", after := #[{ on := 11, ground := Ground.data }], guard := none }) rfl (fun K0 hK0 => ?b12) (AllReadyH.cons (o := { dst := some 32, op := Op.load 3 (Operand.tmp 31), type := 3, pos := "cpu.go:62", after := #[{ on := 19, ground := Ground.data }], guard := none }) rfl (fun K0 hK0 => ?b20) AllReadyH.nil))
    case b12 =>
      go_simp
      refine hK0.out _ _ hHeld (fun hHeld0 => ?_)
      clear hK0 K0
      try simp only [Act.put, List.setIfInBounds_toArray, List.set_cons_zero, List.set_cons_succ]
      refine wpAnyH_ready (rs := [20]) (by kernel_rfl) (by simp) (AllReadyH.cons (o := { dst := some 32, op := Op.load 3 (Operand.tmp 31), type := 3, pos := "cpu.go:62", after := #[{ on := 19, ground := Ground.data }], guard := none }) rfl (fun K1 hK1 => ?_) AllReadyH.nil)
      go_simp
      refine hK1.out _ _ hHeld (fun hHeld1 => ?_)
      clear hK1 K1
      try simp only [Act.put, List.setIfInBounds_toArray, List.set_cons_zero, List.set_cons_succ]
      refine wpAnyH_ready (rs := [21]) (by kernel_rfl) (by simp) (AllReadyH.cons (o := { dst := some 33, op := Op.call { callee := Callee.value (Operand.tmp 16), args := #[Operand.tmp 24, Operand.tmp 32], argTypes := #[3, 3] }, type := 3, pos := "cpu.go:62", after := #[{ on := 4, ground := Ground.data }, { on := 12, ground := Ground.data }, { on := 20, ground := Ground.data }], guard := none }) rfl (fun K1 hK1 => ?_) AllReadyH.nil)
      go_simp
      try go_wp2_with fail
      refine (HHF.out _).mono ?_
      rintro e w7 ⟨rfl, hb7⟩
      obtain ⟨q0, q1, hmq, hbq⟩ := HQ.out _ hb7
      refine hK1.out _ _ (HS0.out _ ((Below.refl wc.heap.size wc).drew.trans hb7)) (fun hHeld1 => ?_)
      clear hK1 K1
      try simp only [Act.put, List.setIfInBounds_toArray, List.set_cons_zero, List.set_cons_succ]
      refine wpAnyH_take (i := 25) (oi := { dst := some 37, op := Op.indexAddr 23 (Operand.tmp 36) (Operand.tmp 14), type := 0, pos := "cpu.go:62", after := #[{ on := 24, ground := Ground.data }, { on := 2, ground := Ground.data }, { on := 0, ground := Ground.phase }, { on := 1, ground := Ground.phase }, { on := 2, ground := Ground.phase }, { on := 3, ground := Ground.phase }, { on := 4, ground := Ground.phase }, { on := 5, ground := Ground.phase }, { on := 6, ground := Ground.phase }, { on := 7, ground := Ground.phase }, { on := 8, ground := Ground.phase }, { on := 9, ground := Ground.phase }, { on := 10, ground := Ground.phase }, { on := 11, ground := Ground.phase }, { on := 12, ground := Ground.phase }, { on := 13, ground := Ground.phase }, { on := 14, ground := Ground.phase }, { on := 15, ground := Ground.phase }, { on := 16, ground := Ground.phase }, { on := 17, ground := Ground.phase }, { on := 18, ground := Ground.phase }, { on := 19, ground := Ground.phase }, { on := 20, ground := Ground.phase }, { on := 21, ground := Ground.phase }], guard := none }) (v := ?v23) rfl (by kernel_rfl) (by kernel_rfl) (by kernel_rfl) (fun _ _ _ h => h) (Or.inl ⟨by rfl, ?hy23⟩) (by assumption) ?rest23
      case hy23 => (intro w hSw; (try dsimp only at hSw); go_simp; try with_reducible rfl)
      simp only [Act.put, List.setIfInBounds_toArray, List.set_cons_zero, List.set_cons_succ]
      refine wpAnyH_ready (rs := [26]) (by kernel_rfl) (by simp) (AllReadyH.cons (o := { dst := none, op := Op.store 3 (Operand.tmp 37) (Operand.tmp 33), type := 0, pos := "cpu.go:62", after := #[{ on := 25, ground := Ground.data }, { on := 21, ground := Ground.data }, { on := 21, ground := Ground.chain }, { on := 0, ground := Ground.phase }, { on := 1, ground := Ground.phase }, { on := 2, ground := Ground.phase }, { on := 3, ground := Ground.phase }, { on := 4, ground := Ground.phase }, { on := 5, ground := Ground.phase }, { on := 6, ground := Ground.phase }, { on := 7, ground := Ground.phase }, { on := 8, ground := Ground.phase }, { on := 9, ground := Ground.phase }, { on := 10, ground := Ground.phase }, { on := 11, ground := Ground.phase }, { on := 12, ground := Ground.phase }, { on := 13, ground := Ground.phase }, { on := 14, ground := Ground.phase }, { on := 15, ground := Ground.phase }, { on := 16, ground := Ground.phase }, { on := 17, ground := Ground.phase }, { on := 18, ground := Ground.phase }, { on := 19, ground := Ground.phase }, { on := 20, ground := Ground.phase }, { on := 21, ground := Ground.phase }], guard := none }) rfl (fun K1 hK1 => ?_) AllReadyH.nil)
      go_simp
      refine hK1.out _ _ (HS1.out _ _ (by assumption)) (fun hHeld2 => ?_)
      clear hK1 K1
      refine wpAnyH_done (by kernel_rfl) ?_ _
      have m5 := hmq.2.2.2.2.1
      have m2 := hmq.2.2.1
      have f0 := hmq.2.1 0
      have HMQ := hid hmq
      have HBQ := hid hbq
      clear hmq hbq hHeld1 hHeld2
      go_wp2
      go_end0
      exact ⟨rfl, HMQ.out.setP _, belowN_set HBQ.out⟩
    case b20 =>
      go_simp
      refine hK0.out _ _ hHeld (fun hHeld0 => ?_)
      clear hK0 K0
      try simp only [Act.put, List.setIfInBounds_toArray, List.set_cons_zero, List.set_cons_succ]
      refine wpAnyH_ready (rs := [12]) (by kernel_rfl) (by simp) (AllReadyH.cons (o := { dst := some 24, op := Op.load 3 (Operand.tmp 23), type := 3, pos := "cpu.go:62", after := #[{ on := 11, ground := Ground.data }], guard := none }) rfl (fun K1 hK1 => ?_) AllReadyH.nil)
      go_simp
      refine hK1.out _ _ hHeld (fun hHeld1 => ?_)
      clear hK1 K1
      try simp only [Act.put, List.setIfInBounds_toArray, List.set_cons_zero, List.set_cons_succ]
      refine wpAnyH_ready (rs := [21]) (by kernel_rfl) (by simp) (AllReadyH.cons (o := { dst := some 33, op := Op.call { callee := Callee.value (Operand.tmp 16), args := #[Operand.tmp 24, Operand.tmp 32], argTypes := #[3, 3] }, type := 3, pos := "cpu.go:62", after := #[{ on := 4, ground := Ground.data }, { on := 12, ground := Ground.data }, { on := 20, ground := Ground.data }], guard := none }) rfl (fun K1 hK1 => ?_) AllReadyH.nil)
      go_simp
      try go_wp2_with fail
      refine (HHF.out _).mono ?_
      rintro e w7 ⟨rfl, hb7⟩
      obtain ⟨q0, q1, hmq, hbq⟩ := HQ.out _ hb7
      refine hK1.out _ _ (HS0.out _ ((Below.refl wc.heap.size wc).drew.trans hb7)) (fun hHeld1 => ?_)
      clear hK1 K1
      try simp only [Act.put, List.setIfInBounds_toArray, List.set_cons_zero, List.set_cons_succ]
      refine wpAnyH_take (i := 25) (oi := { dst := some 37, op := Op.indexAddr 23 (Operand.tmp 36) (Operand.tmp 14), type := 0, pos := "cpu.go:62", after := #[{ on := 24, ground := Ground.data }, { on := 2, ground := Ground.data }, { on := 0, ground := Ground.phase }, { on := 1, ground := Ground.phase }, { on := 2, ground := Ground.phase }, { on := 3, ground := Ground.phase }, { on := 4, ground := Ground.phase }, { on := 5, ground := Ground.phase }, { on := 6, ground := Ground.phase }, { on := 7, ground := Ground.phase }, { on := 8, ground := Ground.phase }, { on := 9, ground := Ground.phase }, { on := 10, ground := Ground.phase }, { on := 11, ground := Ground.phase }, { on := 12, ground := Ground.phase }, { on := 13, ground := Ground.phase }, { on := 14, ground := Ground.phase }, { on := 15, ground := Ground.phase }, { on := 16, ground := Ground.phase }, { on := 17, ground := Ground.phase }, { on := 18, ground := Ground.phase }, { on := 19, ground := Ground.phase }, { on := 20, ground := Ground.phase }, { on := 21, ground := Ground.phase }], guard := none }) (v := ?v24) rfl (by kernel_rfl) (by kernel_rfl) (by kernel_rfl) (fun _ _ _ h => h) (Or.inl ⟨by rfl, ?hy24⟩) (by assumption) ?rest24
      case hy24 => (intro w hSw; (try dsimp only at hSw); go_simp; try with_reducible rfl)
      simp only [Act.put, List.setIfInBounds_toArray, List.set_cons_zero, List.set_cons_succ]
      refine wpAnyH_ready (rs := [26]) (by kernel_rfl) (by simp) (AllReadyH.cons (o := { dst := none, op := Op.store 3 (Operand.tmp 37) (Operand.tmp 33), type := 0, pos := "cpu.go:62", after := #[{ on := 25, ground := Ground.data }, { on := 21, ground := Ground.data }, { on := 21, ground := Ground.chain }, { on := 0, ground := Ground.phase }, { on := 1, ground := Ground.phase }, { on := 2, ground := Ground.phase }, { on := 3, ground := Ground.phase }, { on := 4, ground := Ground.phase }, { on := 5, ground := Ground.phase }, { on := 6, ground := Ground.phase }, { on := 7, ground := Ground.phase }, { on := 8, ground := Ground.phase }, { on := 9, ground := Ground.phase }, { on := 10, ground := Ground.phase }, { on := 11, ground := Ground.phase }, { on := 12, ground := Ground.phase }, { on := 13, ground := Ground.phase }, { on := 14, ground := Ground.phase }, { on := 15, ground := Ground.phase }, { on := 16, ground := Ground.phase }, { on := 17, ground := Ground.phase }, { on := 18, ground := Ground.phase }, { on := 19, ground := Ground.phase }, { on := 20, ground := Ground.phase }, { on := 21, ground := Ground.phase }], guard := none }) rfl (fun K1 hK1 => ?_) AllReadyH.nil)
      go_simp
      refine hK1.out _ _ (HS1.out _ _ (by assumption)) (fun hHeld2 => ?_)
      clear hK1 K1
      refine wpAnyH_done (by kernel_rfl) ?_ _
      have m5 := hmq.2.2.2.2.1
      have m2 := hmq.2.2.1
      have f0 := hmq.2.1 0
      have HMQ := hid hmq
      have HBQ := hid hbq
      clear hmq hbq hHeld1 hHeld2
      go_wp2
      go_end0
      exact ⟨rfl, HMQ.out.setP _, belowN_set HBQ.out⟩

set_option maxRecDepth 100000 in
set_option maxHeartbeats 3200000 in
theorem run_bad (K : Nat) (f o x y : Int) (a b : Nat) (ha : a < 4) (hb : b < 4) (hidx : ∀ w, (Instr.index 73 rowsV (.int .i64 o)).run Tryd.prog w = .ok (.agg #[.func (.func K) #[] #[], .nilFunc]) w)
    (hcf : ∀ (w : World), (callFunc K #[.int .i64 x, .int .i64 y]).run Tryd.prog w = .ok (.enter K #[.int .i64 x, .int .i64 y]) w) (N : Nat) (M : Mc) (w : World) (hM : MAt w N M) (hx : M.c.reg a = x) (hy : M.c.reg b = y)
    (HF : ∀ w', Calls Tryd.prog K #[.int .i64 x, .int .i64 y] w' fun e w'' => e = faultE f ∧ Below w'.heap.size w' w'') :
    Calls Tryd.prog 22 #[.pointer (some ⟨N, 0, none⟩), .agg #[.int .i64 o, .int .i64 a, .int .i64 b]] w fun e w' => e = faultE f ∧ Below N w w' := by
  have hlt := hM.1
  have hb0 := alloc_belowI w (.cells #[.int .i64 o, .int .i64 a, .int .i64 b] 44)
  have hbN := alloc_belowN w N (by omega) (.cells #[.int .i64 o, .int .i64 a, .int .i64 b] 44)
  obtain ⟨W, hW⟩ : ∃ W, W = w.alloc (.cells #[.int .i64 o, .int .i64 a, .int .i64 b] 44) := ⟨_, rfl⟩
  rw [← hW] at hb0 hbN
  have hM1 := hM.below hb0
  have d0 : W.cell? ⟨w.heap.size, 0, none⟩ = some (.int .i64 o) := by rw [hW]; simp
  have d1 : W.cell? ⟨w.heap.size, 1, none⟩ = some (.int .i64 a) := by rw [hW]; simp
  have d2 : W.cell? ⟨w.heap.size, 2, none⟩ = some (.int .i64 b) := by rw [hW]; simp
  have hWs : W.heap.size = w.heap.size + 1 := by rw [hW]; simp
  have MK := hid (show ∀ w', Below W.heap.size W w' → Below W.heap.size W w' ∧ w'.cell? ⟨w.heap.size, 0, none⟩ = some (.int .i64 o) by
    intro w' hb'
    exact ⟨hb', (hb'.cell (by show w.heap.size < _; omega)).trans d0⟩)
  have MW := hid (show ∀ w', Below W.heap.size W w' → MAt w' N M ∧ w'.cell? ⟨w.heap.size, 0, none⟩ = some (.int .i64 o) ∧ w'.cell? ⟨w.heap.size, 1, none⟩ = some (.int .i64 a) ∧ w'.cell? ⟨w.heap.size, 2, none⟩ = some (.int .i64 b) ∧ Below N w w' by
    intro w' hb'
    exact ⟨hM1.below hb', (hb'.cell (by show w.heap.size < _; omega)).trans d0, (hb'.cell (by show w.heap.size < _; omega)).trans d1, (hb'.cell (by show w.heap.size < _; omega)).trans d2, hbN.trans (hb'.mono (by omega))⟩)
  have HW := hid hW
  have HWS := hid hWs
  have HHF := hid HF
  have HX := hid hx
  have HY := hid hy
  have ha0 : (0 : Int) ≤ (a : Int) := by omega
  have hb00 : (0 : Int) ≤ (b : Int) := by omega
  have ha4 : (a : Int) < 4 := by omega
  have hb4 : (b : Int) < 4 := by omega
  clear HF hW d0 d1 d2 hM hM1 hWs hx hy
  go_enter Tryd.func22, Tryd.ntmps22
  go_wp2_with fail
  rw [← HW.out]
  go_cut [4] from 4 to 8 (fun s wx => RowAt W wx s (.func (.func K) #[] #[]) (.nilFunc))
  case first =>
    go_region_held3 (fun w' => Below W.heap.size W w' ∧ w'.cell? ⟨w.heap.size, 0, none⟩ = some (.int .i64 o))
      ((go_split_ands; refine MK.out _ ?_; first
        | exact (Below.refl _ _).drew
        | exact belowN_set (belowN_set (by assumption))
        | exact below_realloc (by assumption) hb7.size
        | exact Below.alloc (by assumption) (Below.size (by assumption)) _
        | exact Below.trans (by assumption) (Below.mono hb7 (Below.size (by assumption)))))
      ((go_split_ands; first
        | (go_at_call 34
           refine (rows_any _).mono ?_
           rintro e w7 ⟨rfl, hb7⟩
           first | (obtain ⟨q0, q1, q2, q3⟩ := row_facts hb7 rfl) | skip)))
    all_goals
      go_wp2_with fail
      go_meet
      first | exact row_end1 hb7 | exact row_end2 hb7
  case rest =>
    obtain ⟨g, rfl, hg1, hg2, hbk, hc0, hc1⟩ := hcut
    obtain ⟨hmc, e0, e1, e2, hbn⟩ := MW.out wc hbk
    have hg : w.heap.size < g := by have := HWS.out; omega
    have hwc : w.heap.size < wc.heap.size := by omega
    have c5 : wc.cell? ⟨N, 1 + a, none⟩ = some (.int .i64 x) := HX.out ▸ hmc.2.2.2.1 a ha
    have c6 : wc.cell? ⟨N, 1 + b, none⟩ = some (.int .i64 y) := HY.out ▸ hmc.2.2.2.1 b hb
    have HS0 := hid (show (fun w' => w'.cell? ⟨w.heap.size, 1, none⟩ = some (.int .i64 a) ∧ w'.cell? ⟨w.heap.size, 2, none⟩ = some (.int .i64 b) ∧ w'.cell? ⟨g, 0, none⟩ = some (.func (.func K) #[] #[]) ∧ w'.cell? ⟨N, 1 + a, none⟩ = some (.int .i64 x) ∧ w'.cell? ⟨N, 1 + b, none⟩ = some (.int .i64 y)) wc.drew from ⟨e1, e2, hc0, c5, c6⟩)
    have HQ := hid (show ∀ w7 : World, Below wc.drew.heap.size wc.drew w7 → Below N w w7 from fun w7 h => hbn.trans (((Below.refl wc.heap.size wc).drew.trans h).mono (by have := HWS.out; omega)))
    have hne := fn_ne K
    clear hmc hbn hbk
    go_wp2_with fail
    refine wp_region_held_drew (S := (fun w' => w'.cell? ⟨w.heap.size, 1, none⟩ = some (.int .i64 a) ∧ w'.cell? ⟨w.heap.size, 2, none⟩ = some (.int .i64 b) ∧ w'.cell? ⟨g, 0, none⟩ = some (.func (.func K) #[] #[]) ∧ w'.cell? ⟨N, 1 + a, none⟩ = some (.int .i64 x) ∧ w'.cell? ⟨N, 1 + b, none⟩ = some (.int .i64 y))) (by kernel_rfl) HS0.out (fun hHeld => ?_)
    refine wpAnyH_take (i := 0) (oi := { dst := some 12, op := Op.move (Operand.tmp 0), type := 68, pos := "cpu.go:62", after := #[], guard := none }) (v := ?v25) rfl (by kernel_rfl) (by kernel_rfl) (by kernel_rfl) (fun _ _ _ h => h) (Or.inl ⟨by rfl, ?hy25⟩) (by assumption) ?rest25
    case hy25 => (intro w hSw; (try dsimp only at hSw); go_simp; try with_reducible rfl)
    simp only [Act.put, List.setIfInBounds_toArray, List.set_cons_zero, List.set_cons_succ]
    refine wpAnyH_take (i := 1) (oi := { dst := some 13, op := Op.fieldAddr 44 (Operand.tmp 3) 1, type := 0, pos := "cpu.go:62", after := #[], guard := none }) (v := ?v26) rfl (by kernel_rfl) (by kernel_rfl) (by kernel_rfl) (fun _ _ _ h => h) (Or.inl ⟨by rfl, ?hy26⟩) (by assumption) ?rest26
    case hy26 => (intro w hSw; (try dsimp only at hSw); go_simp; try with_reducible rfl)
    simp only [Act.put, List.setIfInBounds_toArray, List.set_cons_zero, List.set_cons_succ]
    refine wpAnyH_take (i := 2) (oi := { dst := some 14, op := Op.load 3 (Operand.tmp 13), type := 3, pos := "cpu.go:62", after := #[{ on := 1, ground := Ground.data }], guard := none }) (v := ?v27) rfl (by kernel_rfl) (by kernel_rfl) (by kernel_rfl) (fun _ _ _ h => h) (Or.inl ⟨by rfl, ?hy27⟩) (by assumption) ?rest27
    case hy27 => (intro w hSw; (try dsimp only at hSw); go_simp; try with_reducible rfl)
    simp only [Act.put, List.setIfInBounds_toArray, List.set_cons_zero, List.set_cons_succ]
    refine wpAnyH_take (i := 3) (oi := { dst := some 15, op := Op.fieldAddr 72 (Operand.tmp 4) 0, type := 0, pos := "cpu.go:62", after := #[], guard := none }) (v := ?v28) rfl (by kernel_rfl) (by kernel_rfl) (by kernel_rfl) (fun _ _ _ h => h) (Or.inl ⟨by rfl, ?hy28⟩) (by assumption) ?rest28
    case hy28 => (intro w hSw; (try dsimp only at hSw); go_simp; try with_reducible rfl)
    simp only [Act.put, List.setIfInBounds_toArray, List.set_cons_zero, List.set_cons_succ]
    refine wpAnyH_take (i := 4) (oi := { dst := some 16, op := Op.load 69 (Operand.tmp 15), type := 69, pos := "cpu.go:62", after := #[{ on := 3, ground := Ground.data }], guard := none }) (v := ?v29) rfl (by kernel_rfl) (by kernel_rfl) (by kernel_rfl) (fun _ _ _ h => h) (Or.inl ⟨by rfl, ?hy29⟩) (by assumption) ?rest29
    case hy29 => (intro w hSw; (try dsimp only at hSw); go_simp; try with_reducible rfl)
    simp only [Act.put, List.setIfInBounds_toArray, List.set_cons_zero, List.set_cons_succ]
    refine wpAnyH_take (i := 5) (oi := { dst := some 17, op := Op.move (Operand.tmp 0), type := 68, pos := "cpu.go:62", after := #[], guard := none }) (v := ?v30) rfl (by kernel_rfl) (by kernel_rfl) (by kernel_rfl) (fun _ _ _ h => h) (Or.inl ⟨by rfl, ?hy30⟩) (by assumption) ?rest30
    case hy30 => (intro w hSw; (try dsimp only at hSw); go_simp; try with_reducible rfl)
    simp only [Act.put, List.setIfInBounds_toArray, List.set_cons_zero, List.set_cons_succ]
    refine wpAnyH_take (i := 6) (oi := { dst := some 18, op := Op.fieldAddr 44 (Operand.tmp 3) 1, type := 0, pos := "cpu.go:62", after := #[], guard := none }) (v := ?v31) rfl (by kernel_rfl) (by kernel_rfl) (by kernel_rfl) (fun _ _ _ h => h) (Or.inl ⟨by rfl, ?hy31⟩) (by assumption) ?rest31
    case hy31 => (intro w hSw; (try dsimp only at hSw); go_simp; try with_reducible rfl)
    simp only [Act.put, List.setIfInBounds_toArray, List.set_cons_zero, List.set_cons_succ]
    refine wpAnyH_take (i := 7) (oi := { dst := some 19, op := Op.load 3 (Operand.tmp 18), type := 3, pos := "cpu.go:62", after := #[{ on := 6, ground := Ground.data }], guard := none }) (v := ?v32) rfl (by kernel_rfl) (by kernel_rfl) (by kernel_rfl) (fun _ _ _ h => h) (Or.inl ⟨by rfl, ?hy32⟩) (by assumption) ?rest32
    case hy32 => (intro w hSw; (try dsimp only at hSw); go_simp; try with_reducible rfl)
    simp only [Act.put, List.setIfInBounds_toArray, List.set_cons_zero, List.set_cons_succ]
    refine wpAnyH_take (i := 8) (oi := { dst := some 20, op := Op.nilCheck (Operand.tmp 17), type := 0, pos := "cpu.go:62", after := #[{ on := 5, ground := Ground.data }], guard := none }) (v := ?v33) rfl (by kernel_rfl) (by kernel_rfl) (by kernel_rfl) (fun _ _ _ h => h) (Or.inl ⟨by rfl, ?hy33⟩) (by assumption) ?rest33
    case hy33 => (intro w hSw; (try dsimp only at hSw); go_simp; try with_reducible rfl)
    simp only [Act.put, List.setIfInBounds_toArray, List.set_cons_zero, List.set_cons_succ]
    refine wpAnyH_take (i := 9) (oi := { dst := some 21, op := Op.fieldAddr 57 (Operand.tmp 20) 0, type := 0, pos := "cpu.go:62", after := #[{ on := 8, ground := Ground.data }], guard := none }) (v := ?v34) rfl (by kernel_rfl) (by kernel_rfl) (by kernel_rfl) (fun _ _ _ h => h) (Or.inl ⟨by rfl, ?hy34⟩) (by assumption) ?rest34
    case hy34 => (intro w hSw; (try dsimp only at hSw); go_simp; try with_reducible rfl)
    simp only [Act.put, List.setIfInBounds_toArray, List.set_cons_zero, List.set_cons_succ]
    refine wpAnyH_take (i := 10) (oi := { dst := some 22, op := Op.fieldAddr 25 (Operand.tmp 21) 1, type := 0, pos := "cpu.go:62", after := #[{ on := 9, ground := Ground.data }], guard := none }) (v := ?v35) rfl (by kernel_rfl) (by kernel_rfl) (by kernel_rfl) (fun _ _ _ h => h) (Or.inl ⟨by rfl, ?hy35⟩) (by assumption) ?rest35
    case hy35 => (intro w hSw; (try dsimp only at hSw); go_simp; try with_reducible rfl)
    simp only [Act.put, List.setIfInBounds_toArray, List.set_cons_zero, List.set_cons_succ]
    refine wpAnyH_take (i := 11) (oi := { dst := some 23, op := Op.indexAddr 23 (Operand.tmp 22) (Operand.tmp 19), type := 0, pos := "cpu.go:62", after := #[{ on := 10, ground := Ground.data }, { on := 7, ground := Ground.data }], guard := none }) (v := ?v36) rfl (by kernel_rfl) (by kernel_rfl) (by kernel_rfl) (fun _ _ _ h => h) (Or.inl ⟨by rfl, ?hy36⟩) (by assumption) ?rest36
    case hy36 => (intro w hSw; (try dsimp only at hSw); go_simp; try with_reducible rfl)
    simp only [Act.put, List.setIfInBounds_toArray, List.set_cons_zero, List.set_cons_succ]
    refine wpAnyH_take (i := 12) (oi := { dst := some 24, op := Op.load 3 (Operand.tmp 23), type := 3, pos := "cpu.go:62", after := #[{ on := 11, ground := Ground.data }], guard := none }) (v := ?v37) rfl (by kernel_rfl) (by kernel_rfl) (by kernel_rfl) (fun _ _ _ h => h) (Or.inl ⟨by rfl, ?hy37⟩) (by assumption) ?rest37
    case hy37 => (intro w hSw; (try dsimp only at hSw); go_simp; try with_reducible rfl)
    simp only [Act.put, List.setIfInBounds_toArray, List.set_cons_zero, List.set_cons_succ]
    refine wpAnyH_take (i := 13) (oi := { dst := some 25, op := Op.move (Operand.tmp 0), type := 68, pos := "cpu.go:62", after := #[], guard := none }) (v := ?v38) rfl (by kernel_rfl) (by kernel_rfl) (by kernel_rfl) (fun _ _ _ h => h) (Or.inl ⟨by rfl, ?hy38⟩) (by assumption) ?rest38
    case hy38 => (intro w hSw; (try dsimp only at hSw); go_simp; try with_reducible rfl)
    simp only [Act.put, List.setIfInBounds_toArray, List.set_cons_zero, List.set_cons_succ]
    refine wpAnyH_take (i := 14) (oi := { dst := some 26, op := Op.fieldAddr 44 (Operand.tmp 3) 2, type := 0, pos := "cpu.go:62", after := #[], guard := none }) (v := ?v39) rfl (by kernel_rfl) (by kernel_rfl) (by kernel_rfl) (fun _ _ _ h => h) (Or.inl ⟨by rfl, ?hy39⟩) (by assumption) ?rest39
    case hy39 => (intro w hSw; (try dsimp only at hSw); go_simp; try with_reducible rfl)
    simp only [Act.put, List.setIfInBounds_toArray, List.set_cons_zero, List.set_cons_succ]
    refine wpAnyH_take (i := 15) (oi := { dst := some 27, op := Op.load 3 (Operand.tmp 26), type := 3, pos := "cpu.go:62", after := #[{ on := 14, ground := Ground.data }], guard := none }) (v := ?v40) rfl (by kernel_rfl) (by kernel_rfl) (by kernel_rfl) (fun _ _ _ h => h) (Or.inl ⟨by rfl, ?hy40⟩) (by assumption) ?rest40
    case hy40 => (intro w hSw; (try dsimp only at hSw); go_simp; try with_reducible rfl)
    simp only [Act.put, List.setIfInBounds_toArray, List.set_cons_zero, List.set_cons_succ]
    refine wpAnyH_take (i := 16) (oi := { dst := some 28, op := Op.nilCheck (Operand.tmp 25), type := 0, pos := "cpu.go:62", after := #[{ on := 13, ground := Ground.data }], guard := none }) (v := ?v41) rfl (by kernel_rfl) (by kernel_rfl) (by kernel_rfl) (fun _ _ _ h => h) (Or.inl ⟨by rfl, ?hy41⟩) (by assumption) ?rest41
    case hy41 => (intro w hSw; (try dsimp only at hSw); go_simp; try with_reducible rfl)
    simp only [Act.put, List.setIfInBounds_toArray, List.set_cons_zero, List.set_cons_succ]
    refine wpAnyH_take (i := 17) (oi := { dst := some 29, op := Op.fieldAddr 57 (Operand.tmp 28) 0, type := 0, pos := "cpu.go:62", after := #[{ on := 16, ground := Ground.data }], guard := none }) (v := ?v42) rfl (by kernel_rfl) (by kernel_rfl) (by kernel_rfl) (fun _ _ _ h => h) (Or.inl ⟨by rfl, ?hy42⟩) (by assumption) ?rest42
    case hy42 => (intro w hSw; (try dsimp only at hSw); go_simp; try with_reducible rfl)
    simp only [Act.put, List.setIfInBounds_toArray, List.set_cons_zero, List.set_cons_succ]
    refine wpAnyH_take (i := 18) (oi := { dst := some 30, op := Op.fieldAddr 25 (Operand.tmp 29) 1, type := 0, pos := "cpu.go:62", after := #[{ on := 17, ground := Ground.data }], guard := none }) (v := ?v43) rfl (by kernel_rfl) (by kernel_rfl) (by kernel_rfl) (fun _ _ _ h => h) (Or.inl ⟨by rfl, ?hy43⟩) (by assumption) ?rest43
    case hy43 => (intro w hSw; (try dsimp only at hSw); go_simp; try with_reducible rfl)
    simp only [Act.put, List.setIfInBounds_toArray, List.set_cons_zero, List.set_cons_succ]
    refine wpAnyH_take (i := 19) (oi := { dst := some 31, op := Op.indexAddr 23 (Operand.tmp 30) (Operand.tmp 27), type := 0, pos := "cpu.go:62", after := #[{ on := 18, ground := Ground.data }, { on := 15, ground := Ground.data }], guard := none }) (v := ?v44) rfl (by kernel_rfl) (by kernel_rfl) (by kernel_rfl) (fun _ _ _ h => h) (Or.inl ⟨by rfl, ?hy44⟩) (by assumption) ?rest44
    case hy44 => (intro w hSw; (try dsimp only at hSw); go_simp; try with_reducible rfl)
    simp only [Act.put, List.setIfInBounds_toArray, List.set_cons_zero, List.set_cons_succ]
    refine wpAnyH_take (i := 20) (oi := { dst := some 32, op := Op.load 3 (Operand.tmp 31), type := 3, pos := "cpu.go:62", after := #[{ on := 19, ground := Ground.data }], guard := none }) (v := ?v45) rfl (by kernel_rfl) (by kernel_rfl) (by kernel_rfl) (fun _ _ _ h => h) (Or.inl ⟨by rfl, ?hy45⟩) (by assumption) ?rest45
    case hy45 => (intro w hSw; (try dsimp only at hSw); go_simp; try with_reducible rfl)
    simp only [Act.put, List.setIfInBounds_toArray, List.set_cons_zero, List.set_cons_succ]
    refine wpAnyH_take (i := 22) (oi := { dst := some 34, op := Op.nilCheck (Operand.tmp 12), type := 0, pos := "cpu.go:62", after := #[{ on := 0, ground := Ground.data }], guard := none }) (v := ?v46) rfl (by kernel_rfl) (by kernel_rfl) (by kernel_rfl) (fun _ _ _ h => h) (Or.inl ⟨by rfl, ?hy46⟩) (by assumption) ?rest46
    case hy46 => (intro w hSw; (try dsimp only at hSw); go_simp; try with_reducible rfl)
    simp only [Act.put, List.setIfInBounds_toArray, List.set_cons_zero, List.set_cons_succ]
    refine wpAnyH_take (i := 23) (oi := { dst := some 35, op := Op.fieldAddr 57 (Operand.tmp 34) 0, type := 0, pos := "cpu.go:62", after := #[{ on := 22, ground := Ground.data }], guard := none }) (v := ?v47) rfl (by kernel_rfl) (by kernel_rfl) (by kernel_rfl) (fun _ _ _ h => h) (Or.inl ⟨by rfl, ?hy47⟩) (by assumption) ?rest47
    case hy47 => (intro w hSw; (try dsimp only at hSw); go_simp; try with_reducible rfl)
    simp only [Act.put, List.setIfInBounds_toArray, List.set_cons_zero, List.set_cons_succ]
    refine wpAnyH_take (i := 24) (oi := { dst := some 36, op := Op.fieldAddr 25 (Operand.tmp 35) 1, type := 0, pos := "cpu.go:62", after := #[{ on := 23, ground := Ground.data }], guard := none }) (v := ?v48) rfl (by kernel_rfl) (by kernel_rfl) (by kernel_rfl) (fun _ _ _ h => h) (Or.inl ⟨by rfl, ?hy48⟩) (by assumption) ?rest48
    case hy48 => (intro w hSw; (try dsimp only at hSw); go_simp; try with_reducible rfl)
    simp only [Act.put, List.setIfInBounds_toArray, List.set_cons_zero, List.set_cons_succ]
    refine wpAnyH_ready (rs := [21]) (by kernel_rfl) (by simp) (AllReadyH.cons (o := { dst := some 33, op := Op.call { callee := Callee.value (Operand.tmp 16), args := #[Operand.tmp 24, Operand.tmp 32], argTypes := #[3, 3] }, type := 3, pos := "cpu.go:62", after := #[{ on := 4, ground := Ground.data }, { on := 12, ground := Ground.data }, { on := 20, ground := Ground.data }], guard := none }) rfl (fun K1 hK1 => ?_) AllReadyH.nil)
    go_simp
    try go_wp2_with fail
    refine (HHF.out _).mono ?_
    rintro e w7 ⟨rfl, hb7⟩
    have hbq := HQ.out _ hb7
    clear hK1
    unfold faultE
    go_wp2
    exact ⟨rfl, rfl, hbq⟩
end Go.Proofs.YtedldckijblnhaaDoor
