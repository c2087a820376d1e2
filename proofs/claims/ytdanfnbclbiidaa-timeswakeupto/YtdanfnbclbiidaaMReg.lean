/-
  A slice of regions that is read; what mem.has, mem.fits, mem.meet return, whatever regions they are given, and that nothing that was there is written.
-/
import Derived.Test.YtdanfnbclbiidaaRows
import Derived.Test.YtdanfnbclbiidaaLibC
namespace Go.Proofs.Ytdanfnbclbiidaa
open Go.RowKit
set_option linter.unusedVariables false

/-- A region: where it begins, how many words it has, whether it may be written. -/
structure Rg where
  f : Int
  n : Int
  wr : Bool
def Rg.zero : Rg := ⟨0, 0, false⟩

def Rg.val (r : Rg) : Value := .agg #[.int .i64 r.f, .int .i64 r.n, .bool r.wr]
def Rg.cells (r : Rg) : List Value := [.int .i64 r.f, .int .i64 r.n, .bool r.wr]
/-- Its numbers are those of a machine. -/
def Rg.fit (r : Rg) : Prop := -9223372036854775808 ≤ r.f ∧ r.f ≤ 9223372036854775807 ∧ -9223372036854775808 ≤ r.n ∧ r.n ≤ 9223372036854775807

/-- A slice of regions that reads, in w, as l. -/
def SeesR (w : World) (v : Value) (l : List Rg) : Prop := SeesC w 3 v (l.map Rg.cells)

theorem SeesR.nil (w : World) : SeesR w (.slice none 0 0) [] := SeesC.nil _ _
theorem SeesR.below {w w' : World} {v : Value} {l : List Rg} (h : SeesR w v l) (hb : Below w.heap.size w w') : SeesR w' v l := SeesC.below h hb
theorem SeesR.le {w : World} {v : Value} {l : List Rg} (h : SeesR w v l) : l.length ≤ maxLen := by have := SeesC.le h; simpa using this
theorem cells_getD (l : List Rg) (i : Nat) (hi : i < l.length) : (l.map Rg.cells).getD i [] = (l.getD i Rg.zero).cells := by
  simp [List.getD, List.getElem?_eq_getElem hi]

theorem SeesR.form {w : World} {v : Value} {l : List Rg} (h : SeesR w v l) : ∃ a cap, v = .slice a l.length cap ∧ l.length ≤ cap ∧ cap ≤ maxLen ∧
    (0 < l.length → ∃ b off, a = some ⟨b, off, none⟩ ∧ b < w.heap.size ∧ ∀ i, i < l.length →
      w.cell? ⟨b, off + i * 3, none⟩ = some (.int .i64 (l.getD i Rg.zero).f) ∧ w.cell? ⟨b, off + i * 3 + 1, none⟩ = some (.int .i64 (l.getD i Rg.zero).n) ∧ w.cell? ⟨b, off + i * 3 + 2, none⟩ = some (.bool (l.getD i Rg.zero).wr)) := by
  obtain ⟨a, cap, h1, h2, h3, h4⟩ := SeesC.form (by decide) h
  simp only [List.length_map] at h1 h2 h4
  refine ⟨a, cap, h1, h2, h3, fun hp => ?_⟩
  obtain ⟨b, off, ha, hb, hc⟩ := h4 hp
  refine ⟨b, off, ha, hb, fun i hi => ?_⟩
  have h0 := hc i hi 0 (by decide)
  have h1 := hc i hi 1 (by decide)
  have h2 := hc i hi 2 (by decide)
  rw [cells_getD l i hi] at h0 h1 h2
  exact ⟨h0, h1, h2⟩

def hasB (r : Rg) (k : Int) : Bool := decide (0 ≤ r.f ∧ r.f ≤ k ∧ k - r.f < r.n)
def fitsB (r : Rg) (n : Int) : Bool := decide (0 ≤ r.f ∧ 1 ≤ r.n ∧ r.n ≤ n - r.f)
def meetB (a b : Rg) : Bool := decide (a.f < b.f + b.n ∧ b.f < a.f + a.n)

end Go.Proofs.Ytdanfnbclbiidaa
