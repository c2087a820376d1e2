/-
  Lists of those who wait and of those who are woken, as they lie in a world, whatever the program.
-/
import Derived.Test.YtgnjnhfimagbpaaLibC
import Derived.Test.YtgnjnhfimagbpaaLLib
namespace Go.Proofs.Ytgnjnhfimagbpaa
open Go.RowKit
set_option linter.unusedVariables false

/-- One who waits. -/
structure Wt where
  p : Int
  r : Int
  v : Int
def Wt.zero : Wt := ⟨0, 0, 0⟩
def Wt.val (r : Wt) : Value := .agg #[.int .i64 r.p, .int .i64 r.r, .int .i64 r.v]
def Wt.cells (r : Wt) : List Value := [.int .i64 r.p, .int .i64 r.r, .int .i64 r.v]

/-- A slice of these that reads, in w, as l. -/
def SeesWt (w : World) (v : Value) (l : List Wt) : Prop := SeesC w 3 v (l.map Wt.cells)
theorem SeesWt.nil (w : World) : SeesWt w (.slice none 0 0) [] := SeesC.nil _ _
theorem SeesWt.below {w w' : World} {v : Value} {l : List Wt} (h : SeesWt w v l) (hb : Below w.heap.size w w') : SeesWt w' v l := SeesC.below h hb
theorem SeesWt.le {w : World} {v : Value} {l : List Wt} (h : SeesWt w v l) : l.length ≤ maxLen := by have := SeesC.le h; simpa using this
theorem cells_getDWt (l : List Wt) (i : Nat) (hi : i < l.length) : (l.map Wt.cells).getD i [] = (l.getD i Wt.zero).cells := by
  simp [List.getD, List.getElem?_eq_getElem hi]
theorem SeesWt.form {w : World} {v : Value} {l : List Wt} (h : SeesWt w v l) : ∃ a cap, v = .slice a l.length cap ∧ l.length ≤ cap ∧ cap ≤ maxLen ∧
    (0 < l.length → ∃ b off, a = some ⟨b, off, none⟩ ∧ b < w.heap.size ∧ ∀ i, i < l.length → ∀ j, j < 3 → w.cell? ⟨b, off + i * 3 + j, none⟩ = some ((l.getD i Wt.zero).cells.getD j .nilIface)) := by
  obtain ⟨a, cap, h1, h2, h3, h4⟩ := SeesC.form (by decide) h
  simp only [List.length_map] at h1 h2 h4
  refine ⟨a, cap, h1, h2, h3, fun hp => ?_⟩
  obtain ⟨b, off, ha, hb, hc⟩ := h4 hp
  refine ⟨b, off, ha, hb, fun i hi j hj => ?_⟩
  have h0 := hc i hi j hj
  rw [cells_getDWt l i hi] at h0
  rw [Nat.add_assoc]
  exact h0
theorem lensWt (l : List Wt) : ∀ e ∈ l.map Wt.cells, e.length = 3 := fun e he => by obtain ⟨x, _, rfl⟩ := List.mem_map.1 he; rfl
theorem SeesWt.owned {w : World} {base : Nat} {e : TypeId} {v : Value} {n : Nat} {l : List Wt} (hn : n = l.length) (h : w.ownsRow base e 3 v n (l.map Wt.cells).flatten) : SeesWt w v l :=
  SeesC.of_owns (lensWt l) (by simp [hn]) h
theorem flatWt (l : List Wt) : (l.map Wt.cells).flatten.length = l.length * 3 := by rw [flat_len 3 _ (lensWt l), List.length_map]
theorem oneWt (l : List Wt) : ∀ u ∈ (l.map Wt.cells).flatten, u.oneCell' = true := by
  intro u hu
  obtain ⟨e, he, hu⟩ := List.mem_flatten.1 hu
  obtain ⟨x, _, rfl⟩ := List.mem_map.1 he
  simp only [Wt.cells, List.mem_cons, List.not_mem_nil, or_false] at hu
  rcases hu with rfl | rfl | rfl <;> rfl

/-- A slice of these, the call's own, that reads, in w, as l. -/
def OWt (w : World) (base : Nat) (v : Value) (l : List Wt) : Prop := w.ownsRow base 26 3 v l.length (l.map Wt.cells).flatten
theorem OWt.nil (w : World) (base : Nat) : OWt w base (.slice none 0 0) [] := ⟨rfl, .inl ⟨rfl, rfl⟩⟩
theorem OWt.sees {w : World} {base : Nat} {v : Value} {l : List Wt} (h : OWt w base v l) : SeesWt w v l := SeesWt.owned rfl h
theorem OWt.below {w w' : World} {base : Nat} {v : Value} {l : List Wt} (h : OWt w base v l) (hb : Below w.heap.size w w') : OWt w' base v l := owns_below h hb
theorem OWt.lt {w : World} {base : Nat} {v : Value} {l : List Wt} (h : OWt w base v l) : ∀ k, v.ownBlock = some k → base ≤ k ∧ k < w.heap.size := World.ownsRow.lt h
theorem OWt.mono {w : World} {base base' : Nat} {v : Value} {l : List Wt} (h : OWt w base v l) (hb : base' ≤ base) : OWt w base' v l := owns_lower h hb
theorem snocWt (l : List Wt) (r : Wt) : ((l ++ [r]).map Wt.cells).flatten = (l.map Wt.cells).flatten ++ r.cells := by simp
def Wt.fit (r : Wt) : Prop := (-9223372036854775808 ≤ r.p ∧ r.p ≤ 9223372036854775807) ∧ (-9223372036854775808 ≤ r.r ∧ r.r ≤ 9223372036854775807) ∧ (-9223372036854775808 ≤ r.v ∧ r.v ≤ 9223372036854775807)

/-- One in a block of its own, as a slice. -/
theorem SeesWt.box {w : World} {g : Nat} {t : TypeId} {r : Wt} (h : BoxAt w g t r.cells.toArray) : SeesWt w (.slice (some ⟨g, 0, none⟩) 1 1) [r] := by
  refine .inr ⟨⟨g, 0, none⟩, 1, rfl, by simp, by unfold maxLen; decide, fun i hi j hj => ?_⟩
  have hi0 : i = 0 := by simp at hi; omega
  subst hi0
  rw [add_none]
  have h1 := h.cell (0 + (0 * 3 + j))
  rw [h1]
  match j, hj with
  | 0, _ => rfl
  | 1, _ => rfl
  | 2, _ => rfl

/-- One who is woken. -/
structure Wk where
  p : Int
  c : Int
  v : Int
def Wk.zero : Wk := ⟨0, 0, 0⟩
def Wk.val (r : Wk) : Value := .agg #[.int .i64 r.p, .int .i64 r.c, .int .i64 r.v]
def Wk.cells (r : Wk) : List Value := [.int .i64 r.p, .int .i64 r.c, .int .i64 r.v]

/-- A slice of these that reads, in w, as l. -/
def SeesWk (w : World) (v : Value) (l : List Wk) : Prop := SeesC w 3 v (l.map Wk.cells)
theorem SeesWk.nil (w : World) : SeesWk w (.slice none 0 0) [] := SeesC.nil _ _
theorem SeesWk.below {w w' : World} {v : Value} {l : List Wk} (h : SeesWk w v l) (hb : Below w.heap.size w w') : SeesWk w' v l := SeesC.below h hb
theorem SeesWk.le {w : World} {v : Value} {l : List Wk} (h : SeesWk w v l) : l.length ≤ maxLen := by have := SeesC.le h; simpa using this
theorem cells_getDWk (l : List Wk) (i : Nat) (hi : i < l.length) : (l.map Wk.cells).getD i [] = (l.getD i Wk.zero).cells := by
  simp [List.getD, List.getElem?_eq_getElem hi]
theorem SeesWk.form {w : World} {v : Value} {l : List Wk} (h : SeesWk w v l) : ∃ a cap, v = .slice a l.length cap ∧ l.length ≤ cap ∧ cap ≤ maxLen ∧
    (0 < l.length → ∃ b off, a = some ⟨b, off, none⟩ ∧ b < w.heap.size ∧ ∀ i, i < l.length → ∀ j, j < 3 → w.cell? ⟨b, off + i * 3 + j, none⟩ = some ((l.getD i Wk.zero).cells.getD j .nilIface)) := by
  obtain ⟨a, cap, h1, h2, h3, h4⟩ := SeesC.form (by decide) h
  simp only [List.length_map] at h1 h2 h4
  refine ⟨a, cap, h1, h2, h3, fun hp => ?_⟩
  obtain ⟨b, off, ha, hb, hc⟩ := h4 hp
  refine ⟨b, off, ha, hb, fun i hi j hj => ?_⟩
  have h0 := hc i hi j hj
  rw [cells_getDWk l i hi] at h0
  rw [Nat.add_assoc]
  exact h0
theorem lensWk (l : List Wk) : ∀ e ∈ l.map Wk.cells, e.length = 3 := fun e he => by obtain ⟨x, _, rfl⟩ := List.mem_map.1 he; rfl
theorem SeesWk.owned {w : World} {base : Nat} {e : TypeId} {v : Value} {n : Nat} {l : List Wk} (hn : n = l.length) (h : w.ownsRow base e 3 v n (l.map Wk.cells).flatten) : SeesWk w v l :=
  SeesC.of_owns (lensWk l) (by simp [hn]) h
theorem flatWk (l : List Wk) : (l.map Wk.cells).flatten.length = l.length * 3 := by rw [flat_len 3 _ (lensWk l), List.length_map]
theorem oneWk (l : List Wk) : ∀ u ∈ (l.map Wk.cells).flatten, u.oneCell' = true := by
  intro u hu
  obtain ⟨e, he, hu⟩ := List.mem_flatten.1 hu
  obtain ⟨x, _, rfl⟩ := List.mem_map.1 he
  simp only [Wk.cells, List.mem_cons, List.not_mem_nil, or_false] at hu
  rcases hu with rfl | rfl | rfl <;> rfl

/-- A slice of these, the call's own, that reads, in w, as l. -/
def OWk (w : World) (base : Nat) (v : Value) (l : List Wk) : Prop := w.ownsRow base 42 3 v l.length (l.map Wk.cells).flatten
theorem OWk.nil (w : World) (base : Nat) : OWk w base (.slice none 0 0) [] := ⟨rfl, .inl ⟨rfl, rfl⟩⟩
theorem OWk.sees {w : World} {base : Nat} {v : Value} {l : List Wk} (h : OWk w base v l) : SeesWk w v l := SeesWk.owned rfl h
theorem OWk.below {w w' : World} {base : Nat} {v : Value} {l : List Wk} (h : OWk w base v l) (hb : Below w.heap.size w w') : OWk w' base v l := owns_below h hb
theorem OWk.lt {w : World} {base : Nat} {v : Value} {l : List Wk} (h : OWk w base v l) : ∀ k, v.ownBlock = some k → base ≤ k ∧ k < w.heap.size := World.ownsRow.lt h
theorem OWk.mono {w : World} {base base' : Nat} {v : Value} {l : List Wk} (h : OWk w base v l) (hb : base' ≤ base) : OWk w base' v l := owns_lower h hb
theorem snocWk (l : List Wk) (r : Wk) : ((l ++ [r]).map Wk.cells).flatten = (l.map Wk.cells).flatten ++ r.cells := by simp
def Wk.fit (r : Wk) : Prop := (-9223372036854775808 ≤ r.p ∧ r.p ≤ 9223372036854775807) ∧ (-9223372036854775808 ≤ r.c ∧ r.c ≤ 9223372036854775807) ∧ (-9223372036854775808 ≤ r.v ∧ r.v ≤ 9223372036854775807)

/-- One in a block of its own, as a slice. -/
theorem SeesWk.box {w : World} {g : Nat} {t : TypeId} {r : Wk} (h : BoxAt w g t r.cells.toArray) : SeesWk w (.slice (some ⟨g, 0, none⟩) 1 1) [r] := by
  refine .inr ⟨⟨g, 0, none⟩, 1, rfl, by simp, by unfold maxLen; decide, fun i hi j hj => ?_⟩
  have hi0 : i = 0 := by simp at hi; omega
  subst hi0
  rw [add_none]
  have h1 := h.cell (0 + (0 * 3 + j))
  rw [h1]
  match j, hj with
  | 0, _ => rfl
  | 1, _ => rfl
  | 2, _ => rfl
end Go.Proofs.Ytgnjnhfimagbpaa
