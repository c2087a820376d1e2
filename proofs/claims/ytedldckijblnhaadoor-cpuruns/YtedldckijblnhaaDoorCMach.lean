/-
  The machine that an instruction is done on, as a block of fourteen cells.
-/
import Derived.Test.YtedldckijblnhaaDoorCSpec
import Derived.Deep.RegionHeld3
import Derived.Deep.QuietTactic
import Derived.BigQuiet
namespace Go.Proofs.YtedldckijblnhaaDoor
open Go.RowKit
set_option linter.unusedVariables false

structure Mc where
  c : Co
  nx : Int
  wv : Value
  rv : Value
  now : Int
  o : Ou

/-- Block N, in w, is this machine. -/
def MAt (w : World) (N : Nat) (M : Mc) : Prop := N < w.heap.size ∧ (∀ j, w.frozen? ⟨N, j, none⟩ = false) ∧
  w.cell? ⟨N, 0, none⟩ = some (.int .i64 M.c.p) ∧ (∀ a, a < 4 → w.cell? ⟨N, 1 + a, none⟩ = some (.int .i64 (M.c.reg a))) ∧
  w.cell? ⟨N, 5, none⟩ = some (.int .i64 M.nx) ∧ w.cell? ⟨N, 6, none⟩ = some M.wv ∧ w.cell? ⟨N, 7, none⟩ = some M.rv ∧ w.cell? ⟨N, 8, none⟩ = some (.int .i64 M.now) ∧
  w.cell? ⟨N, 9, none⟩ = some (.int .i64 M.o.f) ∧ w.cell? ⟨N, 10, none⟩ = some (.int .i64 M.o.c) ∧ w.cell? ⟨N, 11, none⟩ = some (.bool M.o.h) ∧ w.cell? ⟨N, 12, none⟩ = some (.bool M.o.r) ∧ w.cell? ⟨N, 13, none⟩ = some (.int .i64 M.o.v)

theorem cadr_ne {b b' o o' : Nat} (h : b ≠ b' ∨ o ≠ o') : (⟨b, o, none⟩ : Addr) ≠ ⟨b', o', none⟩ := by
  intro e; simp at e; omega

theorem MAt.below {w w' : World} {N : Nat} {M : Mc} (h : MAt w N M) (hb : Below w.heap.size w w') : MAt w' N M := by
  obtain ⟨h0, h1, h2, h3, h4, h5, h6, h7, h8, h9, h10, h11, h12⟩ := h
  have hs := hb.size
  refine ⟨by omega, fun j => ?_, ?_, fun a ha => ?_, ?_, ?_, ?_, ?_, ?_, ?_, ?_, ?_, ?_⟩
  · rw [hb.frozen (by exact h0)]; exact h1 j
  · rw [hb.cell (by exact h0)]; exact h2
  · rw [hb.cell (by exact h0)]; exact h3 a ha
  all_goals (rw [hb.cell (by exact h0)]; assumption)

theorem MAt.setP {w : World} {N : Nat} {M : Mc} (h : MAt w N M) (v : Int) : MAt (w.setCell ⟨N, 0, none⟩ (.int .i64 v)) N { M with c := M.c.at v } := by
  obtain ⟨h0, h1, h2, h3, h4, h5, h6, h7, h8, h9, h10, h11, h12⟩ := h
  refine ⟨by simpa using h0, fun j => by simpa using h1 j, World.cell?_setCell_same _ _ _ h2, fun a ha => ?_, ?_, ?_, ?_, ?_, ?_, ?_, ?_, ?_, ?_⟩
  · rw [World.cell?_setCell_other _ _ _ _ (cadr_ne (by omega))]; rw [h3 a ha]; simp [Co.at_reg]
  all_goals (rw [World.cell?_setCell_other _ _ _ _ (cadr_ne (by omega))]; assumption)

theorem MAt.setR {w : World} {N : Nat} {M : Mc} (h : MAt w N M) (k : Nat) (hk : k < 4) (v : Int) : MAt (w.setCell ⟨N, 1 + k, none⟩ (.int .i64 v)) N { M with c := M.c.set k v } := by
  obtain ⟨h0, h1, h2, h3, h4, h5, h6, h7, h8, h9, h10, h11, h12⟩ := h
  refine ⟨by simpa using h0, fun j => by simpa using h1 j, ?_, fun a ha => ?_, ?_, ?_, ?_, ?_, ?_, ?_, ?_, ?_, ?_⟩
  · rw [World.cell?_setCell_other _ _ _ _ (cadr_ne (by omega))]; rw [h2]; simp [Co.set_p]
  · simp only [Co.set_reg M.c k a v hk ha]
    by_cases e : a = k
    · subst e; rw [if_pos rfl]; exact World.cell?_setCell_same _ _ _ (h3 a ha)
    · rw [if_neg e, World.cell?_setCell_other _ _ _ _ (cadr_ne (by omega))]; exact h3 a ha
  all_goals (rw [World.cell?_setCell_other _ _ _ _ (cadr_ne (by omega))]; assumption)

theorem MAt.setN {w : World} {N : Nat} {M : Mc} (h : MAt w N M) (v : Int) : MAt (w.setCell ⟨N, 5, none⟩ (.int .i64 v)) N { M with nx := v } := by
  obtain ⟨h0, h1, h2, h3, h4, h5, h6, h7, h8, h9, h10, h11, h12⟩ := h
  refine ⟨by simpa using h0, fun j => by simpa using h1 j, ?_, fun a ha => ?_, World.cell?_setCell_same _ _ _ h4, ?_, ?_, ?_, ?_, ?_, ?_, ?_, ?_⟩
  · rw [World.cell?_setCell_other _ _ _ _ (cadr_ne (by omega))]; exact h2
  · rw [World.cell?_setCell_other _ _ _ _ (cadr_ne (by omega))]; exact h3 a ha
  all_goals (rw [World.cell?_setCell_other _ _ _ _ (cadr_ne (by omega))]; assumption)
theorem MAt.setW {w : World} {N : Nat} {M : Mc} (h : MAt w N M) (v : Value) : MAt (w.setCell ⟨N, 6, none⟩ v) N { M with wv := v } := by
  obtain ⟨h0, h1, h2, h3, h4, h5, h6, h7, h8, h9, h10, h11, h12⟩ := h
  refine ⟨by simpa using h0, fun j => by simpa using h1 j, ?_, fun a ha => ?_, ?_, World.cell?_setCell_same _ _ _ h5, ?_, ?_, ?_, ?_, ?_, ?_, ?_⟩
  · rw [World.cell?_setCell_other _ _ _ _ (cadr_ne (by omega))]; exact h2
  · rw [World.cell?_setCell_other _ _ _ _ (cadr_ne (by omega))]; exact h3 a ha
  all_goals (rw [World.cell?_setCell_other _ _ _ _ (cadr_ne (by omega))]; assumption)
theorem MAt.setC {w : World} {N : Nat} {M : Mc} (h : MAt w N M) (v : Int) : MAt (w.setCell ⟨N, 10, none⟩ (.int .i64 v)) N { M with o := { M.o with c := v } } := by
  obtain ⟨h0, h1, h2, h3, h4, h5, h6, h7, h8, h9, h10, h11, h12⟩ := h
  refine ⟨by simpa using h0, fun j => by simpa using h1 j, ?_, fun a ha => ?_, ?_, ?_, ?_, ?_, ?_, World.cell?_setCell_same _ _ _ h9, ?_, ?_, ?_⟩
  · rw [World.cell?_setCell_other _ _ _ _ (cadr_ne (by omega))]; exact h2
  · rw [World.cell?_setCell_other _ _ _ _ (cadr_ne (by omega))]; exact h3 a ha
  all_goals (rw [World.cell?_setCell_other _ _ _ _ (cadr_ne (by omega))]; assumption)
theorem MAt.setH {w : World} {N : Nat} {M : Mc} (h : MAt w N M) (v : Bool) : MAt (w.setCell ⟨N, 11, none⟩ (.bool v)) N { M with o := { M.o with h := v } } := by
  obtain ⟨h0, h1, h2, h3, h4, h5, h6, h7, h8, h9, h10, h11, h12⟩ := h
  refine ⟨by simpa using h0, fun j => by simpa using h1 j, ?_, fun a ha => ?_, ?_, ?_, ?_, ?_, ?_, ?_, World.cell?_setCell_same _ _ _ h10, ?_, ?_⟩
  · rw [World.cell?_setCell_other _ _ _ _ (cadr_ne (by omega))]; exact h2
  · rw [World.cell?_setCell_other _ _ _ _ (cadr_ne (by omega))]; exact h3 a ha
  all_goals (rw [World.cell?_setCell_other _ _ _ _ (cadr_ne (by omega))]; assumption)
theorem MAt.setRd {w : World} {N : Nat} {M : Mc} (h : MAt w N M) (v : Bool) : MAt (w.setCell ⟨N, 12, none⟩ (.bool v)) N { M with o := { M.o with r := v } } := by
  obtain ⟨h0, h1, h2, h3, h4, h5, h6, h7, h8, h9, h10, h11, h12⟩ := h
  refine ⟨by simpa using h0, fun j => by simpa using h1 j, ?_, fun a ha => ?_, ?_, ?_, ?_, ?_, ?_, ?_, ?_, World.cell?_setCell_same _ _ _ h11, ?_⟩
  · rw [World.cell?_setCell_other _ _ _ _ (cadr_ne (by omega))]; exact h2
  · rw [World.cell?_setCell_other _ _ _ _ (cadr_ne (by omega))]; exact h3 a ha
  all_goals (rw [World.cell?_setCell_other _ _ _ _ (cadr_ne (by omega))]; assumption)
theorem MAt.setV {w : World} {N : Nat} {M : Mc} (h : MAt w N M) (v : Int) : MAt (w.setCell ⟨N, 13, none⟩ (.int .i64 v)) N { M with o := { M.o with v := v } } := by
  obtain ⟨h0, h1, h2, h3, h4, h5, h6, h7, h8, h9, h10, h11, h12⟩ := h
  refine ⟨by simpa using h0, fun j => by simpa using h1 j, ?_, fun a ha => ?_, ?_, ?_, ?_, ?_, ?_, ?_, ?_, ?_, World.cell?_setCell_same _ _ _ h12⟩
  · rw [World.cell?_setCell_other _ _ _ _ (cadr_ne (by omega))]; exact h2
  · rw [World.cell?_setCell_other _ _ _ _ (cadr_ne (by omega))]; exact h3 a ha
  all_goals (rw [World.cell?_setCell_other _ _ _ _ (cadr_ne (by omega))]; assumption)

theorem alloc_belowN (w : World) (N : Nat) (h : N ≤ w.heap.size) (b : Obj) : Below N w (w.alloc b) := (Below.refl _ _).alloc h _

theorem belowN_alloc {w w' : World} {N : Nat} {b : Obj} (h : Below N w w') (hN : N ≤ w.heap.size) : Below N w (w'.alloc b) := h.alloc (Nat.le_trans hN h.size) _
theorem belowN_drew {w w' : World} {N : Nat} (h : Below N w w') : Below N w w'.drew := h.drew
theorem belowN_set {w w' : World} {N j : Nat} {v : Value} (h : Below N w w') : Below N w (w'.setCell ⟨N, j, none⟩ v) := h.setCell (Nat.le_refl _) _

set_option maxRecDepth 100000 in
set_option maxHeartbeats 400000 in
theorem jump_any (i : In) (N : Nat) (M : Mc) (w : World) (hM : MAt w N M) :
    Calls Tryd.prog 58 #[.pointer (some ⟨N, 0, none⟩), i.val] w fun e w' => e = .returned (.tuple #[]) ∧ MAt w' N { M with nx := i.b } ∧ Below N w w' := by
  obtain ⟨o, a, b⟩ := i
  unfold In.val
  simp only
  have HM := hid hM
  have hlt := hM.1
  obtain ⟨m0, m1, m2, m3, m4, m5, m6, m7, m8, m9, m10, m11, m12⟩ := hM
  have f5 := m1 5
  clear m1 m2 m3 m5 m6 m7 m8 m9 m10 m11 m12
  go_enter Tryd.func58, Tryd.ntmps58
  go_wp2
  go_end0
  exact ⟨rfl, (HM.out.setN b).below (alloc_belowI _ _), belowN_alloc (belowN_set (Below.refl _ _)) (by omega)⟩

set_option maxRecDepth 100000 in
set_option maxHeartbeats 400000 in
theorem call_any (i : In) (N : Nat) (M : Mc) (w : World) (hM : MAt w N M) :
    Calls Tryd.prog 73 #[.pointer (some ⟨N, 0, none⟩), i.val] w fun e w' => e = .returned (.tuple #[]) ∧ MAt w' N { M with o := { M.o with c := i.b } } ∧ Below N w w' := by
  obtain ⟨o, a, b⟩ := i
  unfold In.val
  simp only
  have HM := hid hM
  have hlt := hM.1
  obtain ⟨m0, m1, m2, m3, m4, m5, m6, m7, m8, m9, m10, m11, m12⟩ := hM
  have f5 := m1 10
  clear m1 m2 m3 m4 m5 m6 m7 m8 m10 m11 m12
  go_enter Tryd.func73, Tryd.ntmps73
  go_wp2
  go_end0
  exact ⟨rfl, (HM.out.setC b).below (alloc_belowI _ _), belowN_alloc (belowN_set (Below.refl _ _)) (by omega)⟩

set_option maxRecDepth 100000 in
set_option maxHeartbeats 400000 in
theorem halt_any (i : In) (N : Nat) (M : Mc) (w : World) (hM : MAt w N M) :
    Calls Tryd.prog 47 #[.pointer (some ⟨N, 0, none⟩), i.val] w fun e w' => e = .returned (.tuple #[]) ∧ MAt w' N { M with nx := M.c.p, o := { M.o with h := true } } ∧ Below N w w' := by
  obtain ⟨o, a, b⟩ := i
  unfold In.val
  simp only
  have HM := hid hM
  have hlt := hM.1
  obtain ⟨m0, m1, m2, m3, m4, m5, m6, m7, m8, m9, m10, m11, m12⟩ := hM
  have f5 := m1 5
  have f11 := m1 11
  clear m1 m3 m5 m6 m7 m8 m9 m11 m12
  go_enter Tryd.func47, Tryd.ntmps47
  go_wp2
  go_end0
  exact ⟨rfl, ((HM.out.setN M.c.p).setH true).below (alloc_belowI _ _), belowN_alloc (belowN_set (belowN_set (Below.refl _ _))) (by omega)⟩

set_option maxRecDepth 100000 in
set_option maxHeartbeats 400000 in
theorem zero_any (i : In) (a : Nat) (ha : a < 4) (hi : i.a = a) (N : Nat) (M : Mc) (w : World) (hM : MAt w N M) :
    Calls Tryd.prog 59 #[.pointer (some ⟨N, 0, none⟩), i.val] w fun e w' => e = .returned (.tuple #[]) ∧ MAt w' N { M with nx := if M.c.reg a = 0 then i.b else M.nx } ∧ Below N w w' := by
  obtain ⟨o, a', b⟩ := i
  simp only at hi
  subst hi
  unfold In.val
  simp only
  have HM := hid hM
  have hlt := hM.1
  obtain ⟨m0, m1, m2, m3, m4, m5, m6, m7, m8, m9, m10, m11, m12⟩ := hM
  have f5 := m1 5
  have c5 := m3 a ha
  clear m1 m2 m3 m5 m6 m7 m8 m9 m10 m11 m12
  by_cases hz : M.c.reg a = 0
  · rw [if_pos hz]
    rw [hz] at c5
    go_enter Tryd.func59, Tryd.ntmps59
    go_wp2
    go_quiet (fail)
    go_wp2
    go_end0
    exact ⟨rfl, (HM.out.below (below_drewN (alloc_belowI _ _) nq)).setN b, belowN_set (below_drewN (alloc_belowN _ _ (by omega) _) nq)⟩
  · rw [if_neg hz]
    have hz' : (M.c.reg a == 0) = false := by simpa using hz
    go_enter Tryd.func59, Tryd.ntmps59
    go_wp2
    go_quiet (fail)
    go_wp2
    go_end0
    exact ⟨rfl, HM.out.below (below_drewN (alloc_belowI _ _) nq), below_drewN (alloc_belowN _ _ (by omega) _) nq⟩

set_option maxRecDepth 100000 in
set_option maxHeartbeats 400000 in
theorem set_any (i : In) (a : Nat) (ha : a < 4) (hi : i.a = a) (N : Nat) (M : Mc) (w : World) (hM : MAt w N M) :
    Calls Tryd.prog 48 #[.pointer (some ⟨N, 0, none⟩), i.val] w fun e w' => e = .returned (.tuple #[]) ∧ MAt w' N { M with c := M.c.set a i.b } ∧ Below N w w' := by
  obtain ⟨o, a', b⟩ := i
  simp only at hi
  subst hi
  unfold In.val
  simp only
  have HM := hid hM
  have hlt := hM.1
  obtain ⟨m0, m1, m2, m3, m4, m5, m6, m7, m8, m9, m10, m11, m12⟩ := hM
  have f5 := m1 (1 + a)
  have c5 := m3 a ha
  clear m1 m2 m3 m5 m6 m7 m8 m9 m10 m11 m12
  go_enter Tryd.func48, Tryd.ntmps48
  go_wp2
  go_region
  all_goals
    go_wp2
    go_end0
    exact ⟨rfl, (HM.out.setR a ha b).below (alloc_belowI _ _).drew, belowN_drew (belowN_alloc (belowN_set (Below.refl _ _)) (by omega))⟩

set_option maxRecDepth 100000 in
set_option maxHeartbeats 400000 in
theorem read_any (i : In) (x : Int) (a : Nat) (ha : a < 4) (hi : i.a = a) (N : Nat) (M : Mc) (w : World) (hM : MAt w N M) :
    Calls Tryd.prog 83 #[.pointer (some ⟨N, 0, none⟩), i.val, .int .i64 x] w fun e w' => e = .returned (.tuple #[]) ∧ MAt w' N { M with c := M.c.set a x, o := { { M.o with r := true } with v := x } } ∧ Below N w w' := by
  obtain ⟨o, a', b⟩ := i
  simp only at hi
  subst hi
  unfold In.val
  simp only
  have HM := hid hM
  have hlt := hM.1
  obtain ⟨m0, m1, m2, m3, m4, m5, m6, m7, m8, m9, m10, m11, m12⟩ := hM
  have f5 := m1 (1 + a)
  have c5 := m3 a ha
  have f12 := m1 12
  have f13 := m1 13
  clear m1 m2 m3 m4 m5 m6 m7 m8 m9 m10
  go_enter Tryd.func83, Tryd.ntmps83
  go_wp2
  go_region
  all_goals
    go_wp2
    go_end0
    exact ⟨rfl, (((HM.out.setR a ha x).setRd true).setV x).below (alloc_belowI _ _).drew, belowN_drew (belowN_alloc (belowN_set (belowN_set (belowN_set (Below.refl _ _)))) (by omega))⟩
end Go.Proofs.YtedldckijblnhaaDoor
