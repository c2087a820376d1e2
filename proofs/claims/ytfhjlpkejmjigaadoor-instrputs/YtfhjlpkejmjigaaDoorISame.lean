/-
  What the document's own Same returns: whether two programs are the same.
-/
import Derived.Test.YtfhjlpkejmjigaaDoorIMay
import Derived.BigQuiet
namespace Go.Proofs.YtfhjlpkejmjigaaDoor
open Go.RowKit
set_option linter.unusedVariables false

theorem in_eq_snoc {xs ys : List In} {k : Nat} (hx : k < xs.length) (hy : k < ys.length) (h : xs.take k = ys.take k) (he : xs.getD k In.zero = ys.getD k In.zero) : xs.take (k + 1) = ys.take (k + 1) := by
  rw [List.take_succ_eq_append_getElem hx, List.take_succ_eq_append_getElem hy, h]
  simp [List.getD, List.getElem?_eq_getElem hx, List.getElem?_eq_getElem hy] at he
  rw [he]

def tri (l : List In) : List (Int × Int × Int) := l.map fun i => (i.o, i.a, i.b)
theorem tri_inj {xs ys : List In} (h : tri xs = tri ys) : xs = ys := by
  induction xs generalizing ys with
  | nil => cases ys <;> simp_all [tri]
  | cons x xs ih =>
    cases ys with
    | nil => simp [tri] at h
    | cons y ys =>
      simp only [tri, List.map_cons, List.cons.injEq, Prod.mk.injEq] at h
      obtain ⟨⟨h1, h2, h3⟩, h4⟩ := h
      obtain ⟨a, b, c⟩ := x
      obtain ⟨a', b', c'⟩ := y
      simp only at h1 h2 h3
      rw [h1, h2, h3, ih h4]
def sameI (xs ys : List In) : Bool := decide (tri xs = tri ys)
theorem sameI_true {xs ys : List In} (h : xs = ys) : sameI xs ys = true := by simp [sameI, h]
theorem sameI_false {xs ys : List In} (h : ¬ xs = ys) : sameI xs ys = false := by
  simp only [sameI, decide_eq_false_iff_not]; exact fun e => h (tri_inj e)

set_option maxRecDepth 100000 in
set_option maxHeartbeats 1600000 in
theorem isame_any (va vb : Value) (xs ys : List In) (w : World) (ha : SeesI w va xs) (hb : SeesI w vb ys) :
    Calls Tryd.prog 20 #[va, vb] w fun e w' => e = .returned (.bool (sameI xs ys)) ∧ Below w.heap.size w w' := by
  obtain ⟨a, ca, rfl, ha1, ha2, hac⟩ := ha.form
  obtain ⟨b, cb, rfl, hb1, hb2, hbc⟩ := hb.form
  unfold maxLen at ha2 hb2
  have HA := hid hac
  have HB := hid hbc
  clear ha hb hac hbc
  by_cases hl : xs.length = ys.length
  · have hlb : ((xs.length : Int) != (ys.length : Int)) = false := by simp [hl]
    have HL := hid hl
    clear hl
    go_enter Tryd.func20, Tryd.ntmps20
    go_wp2
    go_loopw [5] (fun i wr => ∃ k : Nat, k ≤ xs.length ∧ i = .int .i64 k ∧ xs.take k = ys.take k ∧ Below w.heap.size w wr) (fun i _ => xs.length - (intOf i).toNat)
    case atStart => exact ⟨0, by omega, rfl, rfl, Below.refl _ _⟩
    case round =>
      obtain ⟨k, hk, rfl, ht, hbel⟩ := hrel
      have HT := hid ht
      clear ht
      by_cases hlt : k < xs.length
      · have hlt2 : k < ys.length := by rw [← HL.out]; exact hlt
        obtain ⟨b1, o1, rfl, hw1, hc1⟩ := HA.out (by omega)
        obtain ⟨b2, o2, rfl, hw2, hc2⟩ := HB.out (by omega)
        obtain ⟨x0, x1, x2⟩ := hc1 k hlt
        obtain ⟨y0, y1, y2⟩ := hc2 k hlt2
        replace x0 := (hbel.cell (by exact hw1)).trans x0
        replace x1 := (hbel.cell (by exact hw1)).trans x1
        replace x2 := (hbel.cell (by exact hw1)).trans x2
        replace y0 := (hbel.cell (by exact hw2)).trans y0
        replace y1 := (hbel.cell (by exact hw2)).trans y1
        replace y2 := (hbel.cell (by exact hw2)).trans y2
        have HS := hid (in_eq_snoc hlt hlt2 HT.out)
        have HN := hid (show xs.getD k In.zero ≠ ys.getD k In.zero → ¬ xs = ys from fun h e => h (by rw [e]))
        clear hc1 hc2 HA HB
        generalize xs.getD k In.zero = x at *
        generalize ys.getD k In.zero = y at *
        obtain ⟨xo, xa, xb⟩ := x
        obtain ⟨yo, ya, yb⟩ := y
        simp only at x0 x1 x2 y0 y1 y2
        by_cases hxy : xo = yo ∧ xa = ya ∧ xb = yb
        · obtain ⟨rfl, rfl, rfl⟩ := hxy
          have HSS := hid (HS.out rfl)
          clear HS HN
          go_wp2
          go_region
          all_goals (try go_wp2)
          all_goals
            go_roundw
            case rel => exact ⟨k + 1, by omega, by go_num, HSS.out, by repeat (first | exact hbel | refine Below.drew ?_)⟩
            case measure => simp [intOf]; omega
        · have HXY := hid (HN.out (fun h => hxy (by simpa using h)))
          clear HS HN
          have h3 : ¬ xo = yo ∨ (xo = yo ∧ ¬ xa = ya) ∨ (xo = yo ∧ xa = ya ∧ ¬ xb = yb) := by omega
          clear hxy
          rcases h3 with h3 | ⟨rfl, h3⟩ | ⟨rfl, rfl, h3⟩
          all_goals
            go_wp2
            go_region
            all_goals (try go_wp2)
            all_goals
              go_ret
              exact ⟨by rw [sameI_false HXY.out]; rfl, by repeat (first | exact hbel | refine Below.drew ?_)⟩
      · have hxy : xs = ys := by
          have := HT.out
          rw [List.take_of_length_le (by omega), List.take_of_length_le (by rw [← HL.out]; omega)] at this
          exact this
        have HXY := hid hxy
        clear hxy
        go_wp2
        go_ret
        exact ⟨by rw [sameI_true HXY.out]; rfl, hbel⟩
  · have hlb : ((xs.length : Int) != (ys.length : Int)) = true := by simp; omega
    have hn : ¬ xs = ys := fun h => hl (by rw [h])
    have HN := hid hn
    clear hl hn
    go_enter Tryd.func20, Tryd.ntmps20
    go_wp2
    go_ret
    exact ⟨by rw [sameI_false HN.out]; rfl, Below.refl _ _⟩
end Go.Proofs.YtfhjlpkejmjigaaDoor
