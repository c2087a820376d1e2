/-
  A process, as it lies in a world: its cells; a slice of processes that is read, whatever the program.
-/
import Derived.Test.YtdanfnbclbiidaaLibC
namespace Go.Proofs.Ytdanfnbclbiidaa
open Go.RowKit
set_option linter.unusedVariables false

/-- A number of a machine. -/
def wideP (x : Int) : Prop := -9223372036854775808 ≤ x ∧ x ≤ 9223372036854775807

/-- A process. -/
structure Px where
  st : Int
  pr : Int
  su : Bool
  pc : Int
  r0 : Int
  r1 : Int
  r2 : Int
  r3 : Int
  si : Int
  un : Int
  ki : Int
  ob : Int
  du : Int
  ne : Int
  pe : Bool
  co : Int
  va : Int
  ca : Int
def Px.zero : Px := ⟨0, 0, false, 0, 0, 0, 0, 0, 0, 0, 0, 0, 0, 0, false, 0, 0, 0⟩
def Px.val (r : Px) : Value := .agg #[.int .i64 r.st, .int .i64 r.pr, .bool r.su, .int .i64 r.pc, .int .i64 r.r0, .int .i64 r.r1, .int .i64 r.r2, .int .i64 r.r3, .int .i64 r.si, .int .i64 r.un, .int .i64 r.ki, .int .i64 r.ob, .int .i64 r.du, .int .i64 r.ne, .bool r.pe, .int .i64 r.co, .int .i64 r.va, .int .i64 r.ca]
def Px.cells (r : Px) : List Value := [.int .i64 r.st, .int .i64 r.pr, .bool r.su, .int .i64 r.pc, .int .i64 r.r0, .int .i64 r.r1, .int .i64 r.r2, .int .i64 r.r3, .int .i64 r.si, .int .i64 r.un, .int .i64 r.ki, .int .i64 r.ob, .int .i64 r.du, .int .i64 r.ne, .bool r.pe, .int .i64 r.co, .int .i64 r.va, .int .i64 r.ca]

/-- Its numbers are those of a machine. -/
def Px.fit (r : Px) : Prop := wideP r.st ∧ wideP r.pr ∧ wideP r.pc ∧ wideP r.r0 ∧ wideP r.r1 ∧ wideP r.r2 ∧ wideP r.r3 ∧ wideP r.si ∧ wideP r.un ∧ wideP r.ki ∧ wideP r.ob ∧ wideP r.du ∧ wideP r.ne ∧ wideP r.co ∧ wideP r.va ∧ wideP r.ca

/-- A slice of these that reads, in w, as l. -/
def SeesPx (w : World) (v : Value) (l : List Px) : Prop := SeesC w 18 v (l.map Px.cells)
theorem SeesPx.nil (w : World) : SeesPx w (.slice none 0 0) [] := SeesC.nil _ _
theorem SeesPx.below {w w' : World} {v : Value} {l : List Px} (h : SeesPx w v l) (hb : Below w.heap.size w w') : SeesPx w' v l := SeesC.below h hb
theorem SeesPx.le {w : World} {v : Value} {l : List Px} (h : SeesPx w v l) : l.length ≤ maxLen := by have := SeesC.le h; simpa using this
theorem cells_getDPx (l : List Px) (i : Nat) (hi : i < l.length) : (l.map Px.cells).getD i [] = (l.getD i Px.zero).cells := by
  simp [List.getD, List.getElem?_eq_getElem hi]
theorem SeesPx.form {w : World} {v : Value} {l : List Px} (h : SeesPx w v l) : ∃ a cap, v = .slice a l.length cap ∧ l.length ≤ cap ∧ cap ≤ maxLen ∧
    (0 < l.length → ∃ b off, a = some ⟨b, off, none⟩ ∧ b < w.heap.size ∧ ∀ i, i < l.length → ∀ j, j < 18 → w.cell? ⟨b, off + i * 18 + j, none⟩ = some ((l.getD i Px.zero).cells.getD j .nilIface)) := by
  obtain ⟨a, cap, h1, h2, h3, h4⟩ := SeesC.form (by decide) h
  simp only [List.length_map] at h1 h2 h4
  refine ⟨a, cap, h1, h2, h3, fun hp => ?_⟩
  obtain ⟨b, off, ha, hb, hc⟩ := h4 hp
  refine ⟨b, off, ha, hb, fun i hi j hj => ?_⟩
  have h0 := hc i hi j hj
  rw [cells_getDPx l i hi] at h0
  rw [Nat.add_assoc]
  exact h0
theorem SeesPx.owned {w : World} {base : Nat} {e : TypeId} {v : Value} {n : Nat} {l : List Px} (hn : n = l.length) (h : w.ownsRow base e 18 v n (l.map Px.cells).flatten) : SeesPx w v l :=
  SeesC.of_owns (fun e he => by obtain ⟨x, _, rfl⟩ := List.mem_map.1 he; rfl) (by simp [hn]) h

/-- The first n of a slice that lies at an address. -/
theorem SeesPx.taken {w : World} {b off cap : Nat} {l : List Px} (n : Nat) (hn : n ≤ l.length) (h1 : l.length ≤ cap) (h2 : cap ≤ maxLen)
    (hc : ∀ i, i < l.length → ∀ j, j < 18 → w.cell? ⟨b, off + i * 18 + j, none⟩ = some ((l.getD i Px.zero).cells.getD j .nilIface)) : SeesPx w (.slice (some ⟨b, off, none⟩) n cap) (l.take n) := by
  unfold SeesPx
  rw [List.map_take]
  refine SeesC.taken n (by simpa using hn) (by simpa using h1) h2 fun i hi j hj => ?_
  simp only [List.length_map] at hi
  rw [cells_getDPx l i hi, ← Nat.add_assoc]
  exact hc i hi j hj

end Go.Proofs.Ytdanfnbclbiidaa
