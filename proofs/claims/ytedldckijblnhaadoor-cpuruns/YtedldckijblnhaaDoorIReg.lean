/-
  An instruction, and a slice of instructions that is read.
-/
import Derived.Test.YtedldckijblnhaaDoorRows
import Derived.Test.YtedldckijblnhaaDoorLibC
namespace Go.Proofs.YtedldckijblnhaaDoor
open Go.RowKit
set_option linter.unusedVariables false

/-- An instruction: its operation, A and B. -/
structure In where
  o : Int
  a : Int
  b : Int
def In.zero : In := ⟨0, 0, 0⟩

def In.val (r : In) : Value := .agg #[.int .i64 r.o, .int .i64 r.a, .int .i64 r.b]
def In.cells (r : In) : List Value := [.int .i64 r.o, .int .i64 r.a, .int .i64 r.b]
/-- Its numbers are those of a machine. -/
def In.fit (r : In) : Prop := -9223372036854775808 ≤ r.o ∧ r.o ≤ 9223372036854775807 ∧ -9223372036854775808 ≤ r.a ∧ r.a ≤ 9223372036854775807 ∧ -9223372036854775808 ≤ r.b ∧ r.b ≤ 9223372036854775807

/-- A slice of instructions that reads, in w, as l. -/
def SeesI (w : World) (v : Value) (l : List In) : Prop := SeesC w 3 v (l.map In.cells)

theorem SeesI.nil (w : World) : SeesI w (.slice none 0 0) [] := SeesC.nil _ _
theorem SeesI.below {w w' : World} {v : Value} {l : List In} (h : SeesI w v l) (hb : Below w.heap.size w w') : SeesI w' v l := SeesC.below h hb
theorem SeesI.le {w : World} {v : Value} {l : List In} (h : SeesI w v l) : l.length ≤ maxLen := by have := SeesC.le h; simpa using this
theorem in_cells_getD (l : List In) (i : Nat) (hi : i < l.length) : (l.map In.cells).getD i [] = (l.getD i In.zero).cells := by
  simp [List.getD, List.getElem?_eq_getElem hi]

theorem SeesI.form {w : World} {v : Value} {l : List In} (h : SeesI w v l) : ∃ a cap, v = .slice a l.length cap ∧ l.length ≤ cap ∧ cap ≤ maxLen ∧
    (0 < l.length → ∃ b off, a = some ⟨b, off, none⟩ ∧ b < w.heap.size ∧ ∀ i, i < l.length →
      w.cell? ⟨b, off + i * 3, none⟩ = some (.int .i64 (l.getD i In.zero).o) ∧ w.cell? ⟨b, off + i * 3 + 1, none⟩ = some (.int .i64 (l.getD i In.zero).a) ∧ w.cell? ⟨b, off + i * 3 + 2, none⟩ = some (.int .i64 (l.getD i In.zero).b)) := by
  obtain ⟨a, cap, h1, h2, h3, h4⟩ := SeesC.form (by decide) h
  simp only [List.length_map] at h1 h2 h4
  refine ⟨a, cap, h1, h2, h3, fun hp => ?_⟩
  obtain ⟨b, off, ha, hb, hc⟩ := h4 hp
  refine ⟨b, off, ha, hb, fun i hi => ?_⟩
  have h0 := hc i hi 0 (by decide)
  have h1 := hc i hi 1 (by decide)
  have h2 := hc i hi 2 (by decide)
  rw [in_cells_getD l i hi] at h0 h1 h2
  exact ⟨h0, h1, h2⟩

theorem Tryd.infoN : (Tryd.prog.info? 44).map (fun i => (i.zero, i.size, i.bytes)) = some (some (.agg #[.int .i64 0, .int .i64 0, .int .i64 0]), 3, 24) := by kernel_rfl

theorem in_len (l : List In) : ∀ e ∈ l.map In.cells, e.length = 3 := by intro e he; simp at he; obtain ⟨r, _, rfl⟩ := he; rfl
theorem in_flat (l : List In) : (l.map In.cells).flatten.length = l.length * 3 := by have := flat_len 3 _ (in_len l); simpa using this
theorem in_one (l : List In) : ∀ u ∈ (l.map In.cells).flatten, u.oneCell' = true := by
  intro u hu
  obtain ⟨e, he, hr⟩ := List.mem_flatten.1 hu
  obtain ⟨r, _, rfl⟩ := List.mem_map.1 he
  simp [In.cells] at hr
  rcases hr with rfl | rfl | rfl <;> rfl
theorem in_snoc (l : List In) (r : In) : ((l ++ [r]).map In.cells).flatten = (l.map In.cells).flatten ++ [.int .i64 r.o, .int .i64 r.a, .int .i64 r.b] := by simp [In.cells]

theorem SeesI.of_owns {w : World} {base : Nat} {e : TypeId} {v : Value} {n : Nat} {l : List In} (hn : n = l.length) (h : w.ownsRow base e 3 v n (l.map In.cells).flatten) : SeesI w v l :=
  SeesC.of_owns (in_len l) (by simpa using hn) h

theorem SeesI.news {w : World} {b off len cap : Nat} {l : List In} (h : SeesI w (.slice (some ⟨b, off, none⟩) len cap) l) : ∀ j u, (l.map In.cells).flatten[j]? = some u → w.cell? ((⟨b, off, none⟩ : Addr).add j) = some u := by
  rcases h with ⟨hv, _⟩ | ⟨x, cap', hv, _, _, hc⟩
  · simp at hv
  · simp only [Value.slice.injEq, Option.some.injEq] at hv
    obtain ⟨rfl, _, _⟩ := hv
    exact SeesC.cells (in_len l) hc
end Go.Proofs.YtedldckijblnhaaDoor
