/-
  What is asked in turn (the struct Op of statement package 16): a slice of such, as it lies, and as an argument.
-/
import Derived.Test.YtgnjnhfimagbpaaRows
import Derived.Test.YtgnjnhfimagbpaaVOpen
import Derived.Deep.Strs
import Derived.RowKit
namespace Go.Proofs.Ytgnjnhfimagbpaa
open Go.RowKit Go.Deep Go.ChangeShapes Go.WideShapes
set_option linter.unusedVariables false

/-- One that is asked. -/
structure Opr where
  c : Int
  m : Bool
  p : Int
  r : Int
  v : Int
def Opr.zero : Opr := ⟨0, false, 0, 0, 0⟩
def Opr.cells (r : Opr) : List Value := [.int .i64 r.c, .bool r.m, .int .i64 r.p, .int .i64 r.r, .int .i64 r.v]
def Opr.fit (r : Opr) : Prop := (-9223372036854775808 ≤ r.c ∧ r.c ≤ 9223372036854775807) ∧ (-9223372036854775808 ≤ r.p ∧ r.p ≤ 9223372036854775807) ∧ (-9223372036854775808 ≤ r.r ∧ r.r ≤ 9223372036854775807) ∧ (-9223372036854775808 ≤ r.v ∧ r.v ≤ 9223372036854775807)

/-- A slice of these that reads, in w, as l. -/
def SeesOp (w : World) (v : Value) (l : List Opr) : Prop := SeesC w 5 v (l.map Opr.cells)
theorem SeesOp.nil (w : World) : SeesOp w (.slice none 0 0) [] := SeesC.nil _ _
theorem cells_getDOp (l : List Opr) (i : Nat) (hi : i < l.length) : (l.map Opr.cells).getD i [] = (l.getD i Opr.zero).cells := by
  simp [List.getD, List.getElem?_eq_getElem hi]
theorem SeesOp.form {w : World} {v : Value} {l : List Opr} (h : SeesOp w v l) : ∃ a cap, v = .slice a l.length cap ∧ l.length ≤ cap ∧ cap ≤ maxLen ∧
    (0 < l.length → ∃ b off, a = some ⟨b, off, none⟩ ∧ b < w.heap.size ∧ ∀ i, i < l.length → ∀ j, j < 5 → w.cell? ⟨b, off + i * 5 + j, none⟩ = some ((l.getD i Opr.zero).cells.getD j .nilIface)) := by
  obtain ⟨a, cap, h1, h2, h3, h4⟩ := SeesC.form (by decide) h
  simp only [List.length_map] at h1 h2 h4
  refine ⟨a, cap, h1, h2, h3, fun hp => ?_⟩
  obtain ⟨b, off, ha, hb, hc⟩ := h4 hp
  refine ⟨b, off, ha, hb, fun i hi j hj => ?_⟩
  have h0 := hc i hi j hj
  rw [cells_getDOp l i hi] at h0
  rw [Nat.add_assoc]
  exact h0

set_option maxRecDepth 100000 in
theorem open_cells_Op {H : Type} {enc : TypeId × Value → H} {w : World} {base : Nat} {spare : Nat → Bool} {held : Bool} {fuel : Nat} {cs : List Value} {x : DataW H × List MemPlace}
    (h : DataW.trod enc Try.prog w base spare held fuel 40 cs = some x) : ∃ r : Opr, cs = r.cells ∧ r.fit := by
  obtain ⟨y0, y1, y2, n, _, hl, h0, h1, h2⟩ := trod_struct3 Try.underlying40 h
  have hc : Try.prog.cellsOf 40 = 5 := by kernel_rfl
  have hi : Try.prog.cellsOf 3 = 1 := by kernel_rfl
  have hb : Try.prog.cellsOf 4 = 1 := by kernel_rfl
  have hw : Try.prog.cellsOf 26 = 3 := by kernel_rfl
  rw [hc] at hl
  match cs, hl with
  | [c0, c1, c2, c3, c4], _ =>
    simp [hi] at h0
    obtain ⟨a0, e0, _, u0⟩ := DataW.trod_int Try.underlying3 h0
    simp at e0
    subst e0
    simp [hb] at h1
    obtain ⟨a1, e1, _⟩ := DataW.trod_bool Try.underlying4 h1
    simp at e1
    subst e1
    simp [hw] at h2
    obtain ⟨⟨p2, r2, v2⟩, e2, u2⟩ := open_cells_Wt h2
    simp [Wt.cells] at e2
    obtain ⟨rfl, rfl, rfl⟩ := e2
    exact ⟨⟨a0, a1, p2, r2, v2⟩, rfl, bounds_i64 u0, u2.1, u2.2.1, u2.2.2⟩

theorem open_rows_Opr {H : Type} {enc : TypeId × Value → H} {w : World} {a : Option Addr} {len cap : Nat} {d : DataW H} {p : List MemPlace}
    (h : DataW.Trod enc Try.prog w 0 (fun _ => true) true 37 (.slice a len cap) d p) : ∃ l : List Opr, SeesOp w (.slice a len cap) l ∧ ∀ r ∈ l, r.fit := by
  obtain ⟨fuel, hf⟩ := h
  have hc : Try.prog.cellsOf 40 = 5 := by kernel_rfl
  rcases open_slice Try.underlying37 hf with ⟨hcs, _⟩ | ⟨x, len', cap', m, n, D, Pl, hcs, _, hl, hm, hmm, _, hx⟩
  · simp [Value.cells] at hcs
    obtain ⟨rfl, rfl, rfl⟩ := hcs
    exact ⟨[], SeesOp.nil _, by simp⟩
  · simp [Value.cells] at hcs
    obtain ⟨rfl, rfl, rfl⟩ := hcs
    simp at hmm
    subst hmm
    have hin : Inhabited Opr := ⟨Opr.zero⟩
    obtain ⟨R, hR⟩ := choose_lt (α := Opr) (n := m) (p := fun i r => r.fit ∧ ∀ j, j < 5 → w.cell? (x.add (i * 5 + j)) = some (r.cells.getD j .nilIface)) (fun i hi => by
      obtain ⟨cs', h1, h2⟩ := hx i hi
      obtain ⟨r, rfl, hfit⟩ := open_cells_Op h2
      refine ⟨r, hfit, fun j hj => ?_⟩
      rw [hc] at h1
      obtain ⟨_, _, hcell⟩ := World.cells?_some h1
      have := hcell j hj
      rw [add_add] at this
      rw [this]
      match j, hj with
      | 0, _ => rfl
      | 1, _ => rfl
      | 2, _ => rfl
      | 3, _ => rfl
      | 4, _ => rfl)
    refine ⟨(List.range len).map R, .inr ⟨x, m, by simp, by simpa using hl, hm, fun i hi j hj => ?_⟩, ?_⟩
    · simp at hi
      rw [(hR i (by omega)).2 j hj]
      simp [List.getD, hi]
    · intro r hr
      simp at hr
      obtain ⟨i, hi, rfl⟩ := hr
      exact (hR i (by omega)).1
end Go.Proofs.Ytgnjnhfimagbpaa
